/- What the document's own Count, set, Take, Inc, Dec, Mark come to. -/
import Derived.Test.YtpgepejleklpfaaRpA
namespace Go.Proofs.Ytpgepejleklpfaa
set_option linter.unusedVariables false
open Go.RowKit
attribute [local go_sem ↓] Go.wp_at_zero Go.wp_at_succ

theorem num_s {k N : Nat} (h : k < N) (hN : N ≤ maxLen) : wrap64 ((k : Int) + 1) = ((k + 1 : Nat) : Int) := by unfold maxLen at hN; unfold wrap64; omega
set_option maxHeartbeats 1000000 in
theorem rcount_calls (w : World) (q : Nat) (lv : Value) (B : Int) (L : PL) (bs : Nat) (n : Int) (h : RD w q lv B L bs) : Calls Try.prog 32 #[.pointer (some ⟨q, 0, none⟩), .int .i64 n] w fun e w' => e = .returned (.int .i64 (cnt L n)) ∧ w' = w := by
  obtain ⟨_, c1⟩ := cells2 h.blk
  have HR : Hid (RD w q lv B L bs) := h
  have hmax := h.max
  obtain ⟨la, lc, rfl⟩ := h.form
  have HM : Hid (∀ k : Nat, k < L.length → wrap64 ((k : Int) + 1) = ((k + 1 : Nat) : Int)) := fun k hk => num_s hk hmax
  clear h hmax
  obtain ⟨N, hN⟩ : ∃ N, N = L.length := ⟨_, rfl⟩
  rw [← hN] at c1 HR HM
  have HN : Hid (N = L.length) := hN
  clear hN
  go_enter Try.func32, Try.ntmps32
  go_wp2
  go_loopg [5] N (fun g i wr => ∃ k : Nat, k + g = N ∧ i = .int .i64 (k : Int) ∧ wr = w ∧ Hid (cnt L n = cnt (L.drop k) n))
  case atStart => exact ⟨0, by omega, rfl, rfl, (show _ = _ from rfl)⟩
  case round =>
    obtain ⟨k, hk, rfl, rfl, HE⟩ := hrel
    cases gk with
    | zero =>
      have e : k = N := by omega
      subst e
      have E2 : Hid (cnt L n = 0) := by show _ = _; rw [HE.out, HN.out, List.drop_length]; rfl
      go_wp2_with fail
      go_ret
      exact ⟨by rw [E2.out]; rfl, rfl⟩
    | succ g =>
      have hlt : (k : Int) < (N : Int) := by omega
      have hkl : k < L.length := by have := HN.out; omega
      obtain ⟨g0, c0, e0, hc0, d1, d2⟩ := HR.out.at hkl
      cases e0
      have HE3 : Hid (cnt L n = if (L[k]).1 = n then (L[k]).2 else cnt (L.drop (k + 1)) n) := by show _ = _; rw [HE.out, List.drop_eq_getElem_cons hkl, cnt_cons]
      clear HE
      generalize L[k] = p at *
      by_cases e : p.1 = n
      · have E2 : Hid (cnt L n = p.2) := by show _ = _; rw [HE3.out, if_pos e]
        rw [e] at d1
        clear e HE3
        go_wp2_with fail
        go_ret
        exact ⟨by rw [E2.out]; rfl, rfl⟩
      · have E2 : Hid (cnt L n = cnt (L.drop (k + 1)) n) := by show _ = _; rw [HE3.out, if_neg e]
        have e2 : (p.1 == n) = false := by simpa using e
        clear e HE3
        go_wp2_with fail
        go_roundg g
        case measure => omega
        case rel => exact ⟨k + 1, by omega, by rw [← HM.out k hkl], rfl, E2⟩
set_option maxHeartbeats 400000 in
theorem ris_calls (w : World) (q : Nat) (lv : Value) (S : RfS) (bs : Nat) (n : Int) (h : RD w q lv S.blocks S.L bs) : Calls Try.prog 40 #[.pointer (some ⟨q, 0, none⟩), .int .i64 n] w fun e w' => e = .returned (.bool (S.has n)) ∧ w' = w := by
  obtain ⟨c0, _⟩ := cells2 h.blk
  clear h
  by_cases h0 : 2 ≤ n
  · have E : Hid (S.has n = decide (n < S.blocks)) := by show _ = _; unfold RfS.has; simp [h0]
    go_enter Try.func40, Try.ntmps40
    go_wp2
    go_ret
    exact ⟨by rw [E.out]; rfl, rfl⟩
  · have E : Hid (S.has n = false) := by show _ = _; unfold RfS.has; simp [h0]
    go_enter Try.func40, Try.ntmps40
    go_wp2
    go_ret
    exact ⟨by rw [E.out]; rfl, rfl⟩
/-- A row of refs that is being built. -/
def Outs (w : World) (bs : Nat) (v : Value) (M : PL) : Prop := w.ownsRow bs 60 2 v M.length (f2 M)
theorem Outs.form {w : World} {bs : Nat} {v : Value} {M : PL} (h : Outs w bs v M) : ∃ a c, v = .slice a M.length c := by
  rcases h.2 with ⟨e, e2⟩ | ⟨g, cap, cur, e, _⟩
  · exact ⟨none, 0, by rw [e, e2]⟩
  · exact ⟨_, cap, e⟩
theorem own_lower2 {w : World} {base base' : Nat} {e : TypeId} {size n : Nat} {v : Value} {xs : List Value} (h : w.ownsRow base e size v n xs) (hb : base' ≤ base) : w.ownsRow base' e size v n xs := by
  refine ⟨h.1, ?_⟩
  rcases h.2 with h2 | ⟨g, cap, cur, h3, h4, h5⟩
  · exact .inl h2
  · exact .inr ⟨g, cap, cur, h3, by omega, h5⟩
/-- append of one ref, at the operation. -/
theorem append_ref {ops : Array Oper} {rest : List Oper} {o : Oper} {a : Act} {w : World} {Q : Exit → Act → World → Prop} (hgd : o.guard = none) (s x : Operand) (ho : o.op = .call { callee := .builtin .append, args := #[s, x], argTypes := #[54, 54] })
    (bs : Nat) (v : Value) (M : PL) (m : Nat) (hm : M.length = m) (p : Int × Int) (w0 : World) (hw : w = w0.alloc (.cells #[.int .i64 p.1, .int .i64 p.2] 60)) (hs : a.eval s = v) (hown : Outs w0 bs v M) (hx : a.eval x = .slice (some ⟨w0.heap.size, 0, none⟩) 1 1) (hM : M.length ≤ 1000000) (hbs : bs ≤ w0.heap.size)
    (h : ∀ a' c' w', Outs w' bs (.slice a' (m + 1) c') (M ++ [p]) → Below bs w0 w' → wpList Try.prog ops Q rest (a.put o.dst (.slice a' (m + 1) c')) w') : wpList Try.prog ops Q (o :: rest) a w := by
  subst hw
  subst hm
  obtain ⟨i0, hi, hz0, hz1, hz2⟩ := info_parts Try.info_ref
  have e8 : (w0.alloc (.cells #[.int .i64 p.1, .int .i64 p.2] 60)).heap.size = w0.heap.size + 1 := by simp
  refine wpList_append_lies _ hgd s x 54 ho bs 60 i0 (.agg #[.int .i64 0, .int .i64 0]) 2 16 Try.underlying54 hi hz0 hz1 hz2 rfl (by omega) v M.length (f2 M) hs (by exact World.ownsRow.alloc hown _) ⟨w0.heap.size, 0, none⟩ 1 1 [.int .i64 p.1, .int .i64 p.2] hx rfl (by exact World.news_of_block (cs := #[_, _]) (heap_alloc_new _ _)) (by intro u hu; simp at hu; rcases hu with rfl | rfl <;> rfl) (by omega) (by unfold maxLen; omega) (by omega) (by rw [e8]; omega) (w0.heap.size + 1) e8 ?_
  intro g cap w1 hown1 hgrow _ _
  refine h _ _ w1 ?_ ?_
  · unfold Outs
    rw [List.length_append, f2_append]
    exact hown1
  · exact (((Below.refl _ w0).mono hbs).alloc hbs _).grown hgrow (by rw [e8]; omega) (fun k hk => (World.ownsRow.lt hown k hk).1)
theorem RD.under {w w' : World} {q bs C : Nat} {lv : Value} {B : Int} {L : PL} (h : RD w q lv B L bs) (hb : Below C w w') (hC : ∀ k, k = q ∨ lv.ownBlock = some k → k < C) : RD w' q lv B L bs :=
  h.kept (hb.block q (hC q (.inl rfl))) (fun k hk => hb.block k (hC k (.inr hk)))
/-- What a call that changes the document's refs comes to. -/
def DGo (w : World) (q : Nat) (lv0 : Value) (B : Int) (L : PL) (bs : Nat) (w' : World) : Prop := ∃ lv, RD w' q lv B L bs ∧ Touch q none w w' ∧ ∀ k, lv.ownBlock = some k → lv0.ownBlock = some k ∨ w.heap.size ≤ k
set_option maxHeartbeats 4000000 in
set_option maxRecDepth 100000 in
theorem rset_calls (w : World) (q : Nat) (lv : Value) (B : Int) (L : PL) (bs : Nat) (n c : Int) (h : RD w q lv B L bs) (hr : Rise L) (hL : L.length ≤ 1000) (hbs : bs ≤ w.heap.size) :
    Calls Try.prog 41 #[.pointer (some ⟨q, 0, none⟩), .int .i64 n, .int .i64 c] w fun e w' => e = .returned (.tuple #[]) ∧ DGo w q lv B (setL L n c) bs w' := by
  have HR : Hid (RD w q lv B L bs) := h
  have HLQ : Hid (∀ k, k = q ∨ lv.ownBlock = some k → k < w.heap.size) := fun k hk => by rcases hk with e | e; rw [e]; exact h.lt; exact (h.row.lt k e).2
  have HQ : Hid (q < w.heap.size) := h.lt
  obtain ⟨la, lc, rfl⟩ := h.form
  have HG : Hid (goR n c (c == 0) L = setL L n c) := goR_set n c L hr
  clear h hr
  obtain ⟨N, hN⟩ : ∃ N, N = L.length := ⟨_, rfl⟩
  rw [← hN] at HR hL HLQ
  have HN : Hid (N = L.length) := hN
  clear hN
  have HB0 : Hid (Below w.heap.size w (w.alloc (.cells #[] 60))) := (Below.refl _ w).alloc (Nat.le_refl _) _
  have HO0 : Hid (Outs (w.alloc (.cells #[] 60)) w.heap.size (.slice (some ⟨w.heap.size, 0, none⟩) 0 0) []) := World.ownsRow_made w #[] 0 (Nat.le_refl _) (Nat.zero_le _) (by simp)
  have hs0 : w.heap.size ≤ (w.alloc (.cells #[] 60)).heap.size := by simp
  have HS0 : Hid (w.heap.size ≤ (w.alloc (.cells #[] 60)).heap.size) := hs0
  clear hs0
  go_enter Try.func41, Try.ntmps41
  go_upto_region 3 with fail
  obtain ⟨W0, hW0⟩ : ∃ W0, W0 = w.heap.size := ⟨_, rfl⟩
  have HW0 : Hid (W0 = w.heap.size) := hW0
  rw [← hW0] at HO0 HS0 HB0 HLQ HQ
  simp only [← hW0]
  clear hW0
  generalize w.alloc (.cells #[] 60) = w1 at *
  go_loopg [6, 7, 8] N (fun g ov dv i wr => ∃ (k : Nat) (M : PL) (d : Bool) (oa : Option Addr) (oc : Nat), k + g = N ∧ M.length ≤ 2 * k ∧ i = .int .i64 (k : Int) ∧ dv = .bool d ∧ ov = .slice oa M.length oc ∧ Hid (Outs wr W0 (.slice oa M.length oc) M ∧ Below W0 w wr ∧ W0 ≤ wr.heap.size ∧ M ++ goR n c d (L.drop k) = goR n c (c == 0) L))
  case atStart => exact ⟨0, [], _, some ⟨W0, 0, none⟩, 0, by omega, by simp, rfl, rfl, rfl, ⟨HO0.out, HB0.out, HS0.out, rfl⟩⟩
  case round =>
    clear HO0 HB0 HS0
    obtain ⟨k, M, d, oa, oc, hk, hM, rfl, rfl, rfl, HI⟩ := hrel
    have HRr : Hid (RD wr q (.slice la N lc) B L bs) := HR.out.under HI.out.2.1 HLQ.out
    obtain ⟨_, c1⟩ := cells2 HRr.out.blk
    cases gk with
    | zero =>
      have e : k = N := by omega
      subst e
      have HX : Hid (M ++ goR n c d [] = setL L n c) := by show _ = _; rw [← HG.out, ← HI.out.2.2.2, HN.out, List.drop_length]
      have f1 := (free2 HRr.out.blk).2
      have HFin : Hid (∀ w2 fa fc (M' : PL), Below W0 w w2 → Outs w2 W0 (.slice fa M'.length fc) M' → M' = setL L n c → DGo w q (.slice la L.length lc) B (setL L n c) bs (w2.setCell ⟨q, 1, none⟩ (.slice fa M'.length fc))) := fun w2 fa fc M' hb ho hm => by
        subst hm
        have hq2 := (hb.block q HQ.out).trans HR.out.blk
        have hfar : ∀ z, (Value.slice fa (setL L n c).length fc).ownBlock = some z → W0 ≤ z := fun z hz => (World.ownsRow.lt ho z hz).1
        refine ⟨_, ⟨(set2 hq2).2, row2_kept (own_lower2 ho (by have := HW0.out; omega)) (fun z hz => Below.heap_setCell _ _ _ _ (by simp; have := hfar z hz; have := HQ.out; omega)), fun z hz => by have := hfar z hz; have := HQ.out; omega⟩, ?_, fun z hz => .inr (by have := hfar z hz; have := HW0.out; omega)⟩
        have hb' : Below w.heap.size w w2 := by rw [← HW0.out]; exact hb
        exact Touch.setCell ⟨hb'.os, hb'.tape, hb'.output, hb'.size, fun z hz _ _ => hb'.block z hz⟩ 1 _
      cases d with
      | true =>
        have HX2 : Hid (M = setL L n c) := by show _ = _; rw [← HX.out]; simp [goR]
        go_wp2_with fail
        go_end0
        exact ⟨rfl, HFin.out _ _ _ M HI.out.2.1 HI.out.1 HX2.out⟩
      | false =>
        have HX2 : Hid (M ++ [(n, c)] = setL L n c) := by show _ = _; rw [← HX.out]; simp [goR]
        go_wp2_with (first
          | (at_builtin; refine append_ref rfl (.tmp 63) (.tmp 67) rfl W0 _ M M.length rfl (n, c) wr rfl rfl HI.out.1 rfl (by omega) HI.out.2.2.1 ?_; intro a1 c1x w2 ho2 hb2; have c1' := (World.cell?_of_block (hb2.block q HQ.out)).trans c1; have f1' := (World.frozen?_of_block (hb2.block q HQ.out)).trans f1))
        go_end0
        have hl : (M ++ [(n, c)]).length = M.length + 1 := by simp
        have := HFin.out w2 a1 c1x (M ++ [(n, c)]) (HI.out.2.1.trans (hb2.mono (Nat.le_refl _))) (by rw [hl]; exact ho2) HX2.out
        rw [hl] at this
        exact ⟨rfl, this⟩
    | succ g =>
      have hlt : (k : Int) < (N : Int) := by omega
      have hkl : k < L.length := by have := HN.out; omega
      obtain ⟨g0, c0, e0, hc0, d1, d2⟩ := HRr.out.at hkl
      rw [← HN.out] at e0 hc0
      cases e0
      have HD : Hid (L.drop k = L[k] :: L.drop (k + 1)) := List.drop_eq_getElem_cons hkl
      have HT : Hid (∀ w2, Below W0 wr w2 → w2.cell? ⟨q, 1, none⟩ = some (.slice (some ⟨g0, 0, none⟩) N lc) ∧ w2.cell? ⟨g0, k * 2, none⟩ = some (.int .i64 (L[k]).1) ∧ w2.cell? ⟨g0, k * 2 + 1, none⟩ = some (.int .i64 (L[k]).2)) := fun w2 hb =>
        ⟨(World.cell?_of_block (hb.block q HQ.out)).trans c1, (World.cell?_of_block (hb.block g0 (HLQ.out g0 (.inr rfl)))).trans d1, (World.cell?_of_block (hb.block g0 (HLQ.out g0 (.inr rfl)))).trans d2⟩
      have hW := HI.out.2.2.1
      generalize L[k] = p at *
      cases d with
      | true =>
        by_cases e : p.1 = n
        · have HX : Hid (M ++ goR n c true (L.drop (k + 1)) = goR n c (c == 0) L) := by show _ = _; rw [← HI.out.2.2.2, HD.out]; simp only [goR]; rw [if_pos e]
          rw [e] at d1
          clear e
          go_wp2_with fail
          go_roundg g
          case measure => omega
          case rel => exact ⟨k + 1, M, true, _, _, by omega, by omega, by go_num, rfl, rfl, ⟨HI.out.1, HI.out.2.1, hW, HX.out⟩⟩
        · have HX : Hid (M ++ [p] ++ goR n c true (L.drop (k + 1)) = goR n c (c == 0) L) := by show _ = _; rw [← HI.out.2.2.2, HD.out]; simp only [goR]; rw [if_neg e]; simp
          have e2 : (p.1 == n) = false := by simpa using e
          clear e
          go_wp2_with (first
            | (at_builtin; refine append_ref rfl (.tmp 51) (.tmp 59) rfl W0 _ M M.length rfl p wr rfl rfl HI.out.1 rfl (by omega) hW ?_; intro a1 c1x w2 ho2 hb2))
          go_roundg g
          case measure => omega
          case rel => exact ⟨k + 1, M ++ [p], true, a1, c1x, by omega, by simp; omega, by go_num, rfl, by simp, ⟨by simpa using ho2, HI.out.2.1.trans hb2, Nat.le_trans hW hb2.size, HX.out⟩⟩
      | false =>
        by_cases e0 : n ≤ p.1
        · by_cases e : p.1 = n
          · have HX : Hid (M ++ [(n, c)] ++ goR n c true (L.drop (k + 1)) = goR n c (c == 0) L) := by show _ = _; rw [← HI.out.2.2.2, HD.out]; simp only [goR]; rw [if_pos e0, if_pos e]; simp
            rw [e] at d1
            have HTe : Hid (∀ w2, Below W0 wr w2 → w2.cell? ⟨g0, k * 2, none⟩ = some (.int .i64 n)) := fun w2 hb => by rw [← e]; exact (HT.out w2 hb).2.1
            clear e e0
            go_wp2_with (first
              | (at_builtin; refine append_ref rfl (.tmp 35) (.tmp 39) rfl W0 _ M M.length rfl (n, c) wr rfl rfl HI.out.1 rfl (by omega) hW ?_; intro a1 c1x w2 ho2 hb2; have c1' := (HT.out _ hb2).1; have d1' := HTe.out _ hb2))
            go_roundg g
            case measure => omega
            case rel => exact ⟨k + 1, M ++ [(n, c)], true, a1, c1x, by omega, by simp; omega, by go_num, rfl, by simp, ⟨by simpa using ho2, HI.out.2.1.trans hb2, Nat.le_trans hW hb2.size, HX.out⟩⟩
          · have HX : Hid (M ++ [(n, c)] ++ [p] ++ goR n c true (L.drop (k + 1)) = goR n c (c == 0) L) := by show _ = _; rw [← HI.out.2.2.2, HD.out]; simp only [goR]; rw [if_pos e0, if_neg e]; simp
            have e2 : (p.1 == n) = false := by simpa using e
            clear e
            have HL1 : Hid ((M ++ [(n, c)]).length = M.length + 1) := (show _ = _ by simp)
            have HL2 : Hid ((M ++ [(n, c)]).length ≤ 1000000) := (show _ ≤ _ by simp; omega)
            go_wp2_with (first
              | (at_builtin; refine append_ref rfl (.tmp 35) (.tmp 39) rfl W0 _ M M.length rfl (n, c) wr rfl rfl HI.out.1 rfl (by omega) hW ?_; intro a1 c1x w2 ho2 hb2; have c1' := (HT.out _ hb2).1; have d1' := (HT.out _ hb2).2.1; have d2' := (HT.out _ hb2).2.2; have hW2 := Nat.le_trans hW hb2.size; have HO2 : Hid (Outs w2 W0 (.slice a1 (M.length + 1) c1x) (M ++ [(n, c)])) := ho2)
              | (at_builtin; refine append_ref rfl (.tmp 51) (.tmp 59) rfl W0 _ (M ++ [(n, c)]) (M.length + 1) HL1.out p w2 rfl rfl HO2.out rfl HL2.out hW2 ?_; intro a3 c3x w3 ho3 hb3))
            go_roundg g
            case measure => omega
            case rel => exact ⟨k + 1, M ++ [(n, c)] ++ [p], true, a3, c3x, by omega, by simp; omega, by go_num, rfl, by simp, ⟨by simpa using ho3, (HI.out.2.1.trans hb2).trans hb3, Nat.le_trans hW2 hb3.size, HX.out⟩⟩
        · have HX : Hid (M ++ [p] ++ goR n c false (L.drop (k + 1)) = goR n c (c == 0) L) := by show _ = _; rw [← HI.out.2.2.2, HD.out]; simp only [goR]; rw [if_neg e0]; simp
          have e2 : (p.1 == n) = false := by have : ¬ (p.1 = n) := by omega
                                             simpa using this
          go_wp2_with (first
            | (at_builtin; refine append_ref rfl (.tmp 51) (.tmp 59) rfl W0 _ M M.length rfl p wr rfl rfl HI.out.1 rfl (by omega) hW ?_; intro a1 c1x w2 ho2 hb2))
          go_roundg g
          case measure => omega
          case rel => exact ⟨k + 1, M ++ [p], false, a1, c1x, by omega, by simp; omega, by go_num, rfl, by simp, ⟨by simpa using ho2, HI.out.2.1.trans hb2, Nat.le_trans hW hb2.size, HX.out⟩⟩
end Go.Proofs.Ytpgepejleklpfaa
