/- What the document's own Used, Clone and Same come to; two lists of numbers held against one another. -/
import Derived.Test.YtpgepejleklpfaaRpD
import Derived.Laws.AppendOwn
namespace Go.Proofs.Ytpgepejleklpfaa
set_option linter.unusedVariables false
open Go.RowKit
attribute [local go_sem ↓] Go.wp_at_zero Go.wp_at_succ

theorem IntsIn.formE {w : World} {base : Nat} {v : Value} {l : List Int} (h : IntsIn w base v l) : ∃ a c, v = .slice a l.length c := by
  rcases h.2 with ⟨e, e2⟩ | ⟨g, cap, cur, e, _⟩
  · exact ⟨none, 0, by rw [e, e2]⟩
  · exact ⟨_, cap, e⟩
/-- append of one number, at the operation. -/
theorem append_num {ops : Array Oper} {rest : List Oper} {o : Oper} {a : Act} {w : World} {Q : Exit → Act → World → Prop} (hgd : o.guard = none) (s x : Operand) (ho : o.op = .call { callee := .builtin .append, args := #[s, x], argTypes := #[37, 37] })
    (bs : Nat) (v : Value) (M : List Int) (m : Nat) (hm : M.length = m) (p : Int) (w0 : World) (hw : w = w0.alloc (.cells #[.int .i64 p] 3)) (hs : a.eval s = v) (hown : IntsIn w0 bs v M) (hx : a.eval x = .slice (some ⟨w0.heap.size, 0, none⟩) 1 1) (hM : m ≤ 1000000) (hbs : bs ≤ w0.heap.size)
    (h : ∀ a' c' w', IntsIn w' bs (.slice a' (m + 1) c') (M ++ [p]) → Below bs w0 w' → wpList Try.prog ops Q rest (a.put o.dst (.slice a' (m + 1) c')) w') : wpList Try.prog ops Q (o :: rest) a w := by
  subst hw
  subst hm
  obtain ⟨i0, hi, hz0, hz1, hz2⟩ := info_parts Try.info_i64
  have e8 : (w0.alloc (.cells #[.int .i64 p] 3)).heap.size = w0.heap.size + 1 := by simp
  refine wpList_append_lies _ hgd s x 37 ho bs 3 i0 (.int .i64 0) 1 8 Try.underlying37 hi hz0 hz1 hz2 rfl (by omega) v M.length (M.map encZ) hs (by exact World.ownsRow.alloc hown _) ⟨w0.heap.size, 0, none⟩ 1 1 [.int .i64 p] hx rfl (by exact World.news_of_block (cs := #[_]) (heap_alloc_new _ _)) (by intro u hu; simp at hu; subst hu; rfl) (by omega) (by unfold maxLen; omega) (by omega) (by rw [e8]; omega) (w0.heap.size + 1) e8 ?_
  intro g cap w1 hown1 hgrow _ _
  refine h _ _ w1 ?_ ?_
  · unfold IntsIn
    rw [List.length_append, List.map_append]
    exact hown1
  · exact (((Below.refl _ w0).mono hbs).alloc hbs _).grown hgrow (by rw [e8]; omega) (fun k hk => (World.ownsRow.lt hown k hk).1)
set_option maxHeartbeats 2000000 in
theorem rused_calls (w : World) (q : Nat) (lv : Value) (B : Int) (L : PL) (bs : Nat) (h : RD w q lv B L bs) (hL : L.length ≤ 1000) : Calls Try.prog 30 #[.pointer (some ⟨q, 0, none⟩)] w fun e w' => ∃ v, e = .returned v ∧ IntsIn w' w.heap.size v (L.map Prod.fst) ∧ Below w.heap.size w w' := by
  have HR : Hid (RD w q lv B L bs) := h
  have HLQ : Hid (∀ k, k = q ∨ lv.ownBlock = some k → k < w.heap.size) := fun k hk => by rcases hk with e | e; rw [e]; exact h.lt; exact (h.row.lt k e).2
  obtain ⟨la, lc, rfl⟩ := h.form
  clear h
  obtain ⟨N, hN⟩ : ∃ N, N = L.length := ⟨_, rfl⟩
  rw [← hN] at HR hL HLQ
  have HN : Hid (N = L.length) := hN
  clear hN
  have HB0 : Hid (Below w.heap.size w (w.alloc (.cells #[] 3))) := (Below.refl _ w).alloc (Nat.le_refl _) _
  have HO0 : Hid (IntsIn (w.alloc (.cells #[] 3)) w.heap.size (.slice (some ⟨w.heap.size, 0, none⟩) 0 0) []) := World.ownsRow_made w #[] 0 (Nat.le_refl _) (Nat.zero_le _) (by simp)
  go_enter Try.func30, Try.ntmps30
  go_upto_region 3 with fail
  obtain ⟨W0, hW0⟩ : ∃ W0, W0 = w.heap.size := ⟨_, rfl⟩
  have HW0 : Hid (W0 = w.heap.size) := hW0
  rw [← hW0] at HO0 HB0 HLQ
  have HPO : Hid (∀ w' (v : Value) (l : List Int), IntsIn w' W0 v l ∧ Below W0 w w' → IntsIn w' w.heap.size v l ∧ Below w.heap.size w w') := fun w' v l hh => by rw [← HW0.out]; exact hh
  simp only [← hW0]
  clear hW0
  generalize w.alloc (.cells #[] 3) = w1 at *
  go_loopg [3, 4] N (fun g ov i wr => ∃ (k : Nat) (oa : Option Addr) (oc : Nat), k + g = N ∧ i = .int .i64 (k : Int) ∧ ov = .slice oa k oc ∧ Hid (IntsIn wr W0 (.slice oa k oc) ((L.take k).map Prod.fst) ∧ Below W0 w wr ∧ W0 ≤ wr.heap.size))
  case atStart => exact ⟨0, some ⟨W0, 0, none⟩, 0, by omega, rfl, rfl, ⟨HO0.out, HB0.out, by have := HB0.out.size; have := HW0.out; omega⟩⟩
  case round =>
    clear HO0 HB0
    obtain ⟨k, oa, oc, hk, rfl, rfl, HI⟩ := hrel
    have HRr : Hid (RD wr q (.slice la N lc) B L bs) := HR.out.under HI.out.2.1 HLQ.out
    obtain ⟨_, c1⟩ := cells2 HRr.out.blk
    cases gk with
    | zero =>
      have e : k = N := by omega
      subst e
      have HX : Hid ((L.take k).map Prod.fst = L.map Prod.fst) := by show _ = _; rw [HN.out, List.take_length]
      go_wp2_with fail
      go_ret
      exact ⟨_, rfl, HPO.out _ _ _ ⟨by rw [← HX.out]; exact HI.out.1, HI.out.2.1⟩⟩
    | succ g =>
      have hlt : (k : Int) < (N : Int) := by omega
      have hkl : k < L.length := by have := HN.out; omega
      obtain ⟨g0, c0, e0, hc0, d1, d2⟩ := HRr.out.at hkl
      rw [← HN.out] at e0 hc0
      cases e0
      have HT : Hid ((L.take (k + 1)).map Prod.fst = (L.take k).map Prod.fst ++ [(L[k]).1]) := by show _ = _; rw [List.take_succ_eq_append_getElem hkl, List.map_append]; rfl
      have HL1 : Hid (((L.take k).map Prod.fst).length = k) := by show _ = _; simp; omega
      have hW := HI.out.2.2
      generalize L[k] = p at *
      go_wp2_with (first
        | (at_builtin; refine append_num rfl (.tmp 15) (.tmp 24) rfl W0 _ ((L.take k).map Prod.fst) k HL1.out p.1 wr rfl rfl HI.out.1 rfl (by omega) hW ?_; intro a1 c1x w2 ho2 hb2))
      go_roundg g
      case measure => omega
      case rel => exact ⟨k + 1, a1, c1x, by omega, by go_num, rfl, ⟨by rw [HT.out]; exact ho2, HI.out.2.1.trans hb2, Nat.le_trans hW hb2.size⟩⟩

/-- Two lists of numbers, held against one another. -/
def IntsAt (w : World) (v : Value) (l : List Int) : Prop := ∃ a c, v = .slice a l.length c ∧ l.length ≤ c ∧ l.length ≤ maxLen ∧ ∀ i (hi : i < l.length), ∃ g, a = some ⟨g, 0, none⟩ ∧ w.cell? ⟨g, i, none⟩ = some (.int .i64 l[i])
theorem IntsIn.ints {w : World} {B : Nat} {v : Value} {l : List Int} (h : IntsIn w B v l) : IntsAt w v l := by
  rcases h.2 with ⟨e, e2⟩ | ⟨g, cap, cur, rfl, h3, h4, h5, h6, _⟩
  · exact ⟨none, 0, by rw [e, e2], by omega, by omega, fun i hi => by omega⟩
  · refine ⟨_, cap, rfl, h5, by omega, fun k hk => ⟨g, rfl, ?_⟩⟩
    have := World.ownsRow.cellAt (g := g) h k (by omega)
    rw [this]
    simp [hk]
theorem IntsAt.below {w w' : World} {v : Value} {l : List Int} (h : IntsAt w v l) (hb : Below w.heap.size w w') : IntsAt w' v l := by
  obtain ⟨a, c, h1, h2, h3, h4⟩ := h
  refine ⟨a, c, h1, h2, h3, fun i hi => ?_⟩
  obtain ⟨g, e, hc⟩ := h4 i hi
  refine ⟨g, e, ?_⟩
  have hlt : g < w.heap.size := by
    cases hh : w.heap[g]? with
    | none => simp [World.cell?, hh] at hc
    | some o => exact lt_block hh
  exact (World.cell?_of_block (hb.block g hlt)).trans hc
set_option maxHeartbeats 2000000 in
theorem numbers_calls (w : World) (x y : Value) (l : List Int) (hx : IntsAt w x l) (hy : IntsAt w y l) : Calls Try.prog 29 #[x, y] w fun e w' => e = .returned (.bool true) ∧ ∃ n, w' = w.drewN n := by
  obtain ⟨a, c, rfl, hc, hm, ha⟩ := hx
  obtain ⟨b, d, rfl, hd, _, hb⟩ := hy
  have HM : Hid (∀ k : Nat, k < l.length → wrap64 ((k : Int) + 1) = ((k + 1 : Nat) : Int)) := fun k hk => num_s hk hm
  have HAB : Hid (∀ i (hi : i < l.length), (∃ g, a = some ⟨g, 0, none⟩ ∧ w.cell? ⟨g, i, none⟩ = some (.int .i64 l[i])) ∧ ∃ g, b = some ⟨g, 0, none⟩ ∧ w.cell? ⟨g, i, none⟩ = some (.int .i64 l[i])) := fun i hi => ⟨ha i hi, hb i hi⟩
  clear ha hb hm
  obtain ⟨N, hN⟩ : ∃ N, N = l.length := ⟨_, rfl⟩
  have HN : Hid (N = l.length) := hN
  rw [← hN] at hc hd ⊢
  clear hN
  go_enter Try.func29, Try.ntmps29
  go_wp2
  go_loopg [5] N (fun g i wr => ∃ k n : Nat, k + g = N ∧ i = .int .i64 (k : Int) ∧ wr = w.drewN n)
  case atStart => exact ⟨0, 0, by omega, rfl, rfl⟩
  case round =>
    obtain ⟨k, n, hk, rfl, rfl⟩ := hrel
    cases gk with
    | zero =>
      have e : k = N := by omega
      subst e
      go_wp2_with fail
      go_ret
      exact ⟨rfl, n, rfl⟩
    | succ g =>
      have hlt : (k : Int) < (N : Int) := by omega
      have hkl : k < l.length := by have := HN.out; omega
      obtain ⟨⟨g1, rfl, d1⟩, ⟨g2, rfl, d2⟩⟩ := HAB.out k hkl
      have e1 : (w.drewN n).cell? ⟨g1, k, none⟩ = some (.int .i64 l[k]) := d1
      have e2 : (w.drewN n).cell? ⟨g2, k, none⟩ = some (.int .i64 l[k]) := d2
      generalize l[k] = v at *
      go_wp2_with fail
      go_quiet (fail)
      go_wp2
      go_roundg g
      case measure => omega
      case rel => exact ⟨k + 1, _, by omega, by rw [← HM.out k hkl], rfl⟩
end Go.Proofs.Ytpgepejleklpfaa
