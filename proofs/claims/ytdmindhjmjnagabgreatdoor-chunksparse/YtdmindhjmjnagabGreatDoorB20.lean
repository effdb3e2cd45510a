import Derived.Test.YtdmindhjmjnagabGreatDoorB19
import Derived.Test.YtdmindhjmjnagabGreatDoorB07
import Derived.Test.YtdmindhjmjnagabGreatDoorB17
import Derived.Test.YtdmindhjmjnagabGreatDoorSi
/- Join of package delta. -/
namespace Go.Proofs.YtdmindhjmjnagabGreatDoor
set_option linter.unusedVariables false
set_option maxRecDepth 100000
open Go.RowKit

/-- A value of one cell, as an element of a slice. -/
structure Vc where
  v : Value
  one : v.oneCell' = true
def encV : Enc Vc 1 := ⟨fun x => [x.v], fun _ => rfl, fun x v hv => by rw [List.mem_singleton] at hv; subst hv; exact x.one⟩
def vcs (cs : List (Value × List Ch)) (h : ∀ e ∈ cs, e.1.oneCell' = true) : List Vc := cs.attach.map fun e => ⟨e.1.1, h e.1 e.2⟩
/-- A slice of slices of changes. -/
structure SlS (w : World) (B : Nat) (u : Value) (cs : List (Value × List Ch)) : Prop where
  out : ∃ ad cap, u = .slice ad cs.length cap ∧ cs.length ≤ cap ∧ cs.length ≤ maxLen ∧ (cs = [] ∨ ∃ g off, ad = some ⟨g, off, none⟩ ∧ g < B ∧ ∀ i (hi : i < cs.length), w.cell? ⟨g, off + i, none⟩ = some (cs[i]).1)
  each : ∀ e ∈ cs, SlB encC w B e.1 e.2
theorem Ch.set_v {w : World} {q : Nat} {c : Ch} (h : InB encC 60 w q c) (hg : c.g = true) : InB encC 60 (w.setCell ⟨q, 24, none⟩ (.string ⟨#[]⟩)) q c.plain := by
  constructor
  rw [setCell_eq_setRow w q 24 _ _ _ _ h.blk, setRow_heap w q _ _ _ _ h.blk]
  have hk : (bc c.k).length = 24 := by rw [bc_length, c.h]
  have e : c.plain = ⟨c.k, c.h, [], true⟩ := by unfold Ch.plain; rw [if_pos hg]
  rw [e]
  congr 2
  show (ccd c).toArray.setIfInBounds 24 _ = (ccd ⟨c.k, c.h, [], true⟩).toArray
  simp only [ccd, List.setIfInBounds_toArray]
  rw [List.set_append_right _ _ (by omega), hk, hg]
  rfl
theorem plains_take (l : List Ch) (m : List Ch) (k : Nat) (h : k < l.length) : ((l.take (k + 1)).map Ch.plain).foldl (putA Ch.n) m = putA Ch.n (((l.take k).map Ch.plain).foldl (putA Ch.n) m) (l[k]).plain := by
  rw [List.take_succ_eq_append_getElem h, List.map_append, List.foldl_append]
  rfl
theorem flats_take (cs : List (Value × List Ch)) (k : Nat) (h : k < cs.length) : ((((cs.take (k + 1)).flatMap (·.2)).map Ch.plain).foldl (putA Ch.n) []) = (((cs[k]).2.map Ch.plain).foldl (putA Ch.n) ((((cs.take k).flatMap (·.2)).map Ch.plain).foldl (putA Ch.n) [])) := by
  rw [List.take_succ_eq_append_getElem h, List.flatMap_append, List.map_append, List.foldl_append]
  simp
theorem flats_len (cs : List (Value × List Ch)) (k : Nat) (h : k < cs.length) : ((cs.take (k + 1)).flatMap (·.2)).length = ((cs.take k).flatMap (·.2)).length + (cs[k]).2.length := by
  rw [List.take_succ_eq_append_getElem h, List.flatMap_append, List.length_append]
  simp
theorem flats_le (cs : List (Value × List Ch)) (k : Nat) : ((cs.take k).flatMap (·.2)).length ≤ (cs.flatMap (·.2)).length := by
  have : cs.flatMap (·.2) = (cs.take k).flatMap (·.2) ++ (cs.drop k).flatMap (·.2) := by rw [← List.flatMap_append, List.take_append_drop]
  rw [this, List.length_append]
  omega
set_option maxRecDepth 100000 in
set_option maxHeartbeats 4000000 in
theorem join_calls (w : World) (u : Value) (cs : List (Value × List Ch)) (h : SlS w w.heap.size u cs) (hn : cs.length ≤ 1000) (hl : (cs.flatMap (·.2)).length ≤ 10000) :
    Calls Tryz.prog 22 #[u] w fun e w' => ∃ v d, e = .returned v ∧ Own encC 60 w' w.heap.size v d ∧ JoinIs (cs.flatMap (·.2)) d ∧ d.length ≤ (cs.flatMap (·.2)).length ∧ Below w.heap.size w w' := by
  obtain ⟨⟨ad, cap, rfl, hcap, hmax, hcell⟩, heach⟩ := h
  obtain ⟨N, hN⟩ : ∃ N : Nat, N = cs.length := ⟨_, rfl⟩
  rw [← hN] at hcap hmax hn ⊢
  have HN : Hid (N = cs.length) := hN
  have HI : Hid (∀ i (hi : i < cs.length), ∃ g off, ad = some ⟨g, off, none⟩ ∧ g < w.heap.size ∧ w.cell? ⟨g, off + i, none⟩ = some (cs[i]).1) := fun i hi => by
    rcases hcell with rfl | ⟨g, off, e, hg, hc⟩
    · cases hi
    · exact ⟨g, off, e, hg, hc i hi⟩
  have HE : Hid (∀ i (hi : i < cs.length), SlB encC w w.heap.size (cs[i]).1 (cs[i]).2) := fun i hi => heach _ (List.getElem_mem hi)
  have HLL : Hid ((cs.flatMap (·.2)).length ≤ 10000) := hl
  have HS : Hid (Below w.heap.size w (w.alloc (.map #[] 0)) ∧ MapA encC Ch.n (w.alloc (.map #[] 0)) w.heap.size ((cs.take 0).flatMap (·.2)).length ((((cs.take 0).flatMap (·.2)).map Ch.plain).foldl (putA Ch.n) [])) := ⟨(Below.refl _ w).alloc (Nat.le_refl _) _, MapA.made _ _ w _ rfl⟩
  have hmm := @run_makeMap Tryz.prog
  clear hN heach hcell hl
  go_enter Tryz.func22, Tryz.ntmps22
  go_wp2
  go_loopg [11] N (fun gg i wr => ∃ k : Nat, k + gg = N ∧ i = .int .i64 (k : Int) ∧ Hid (Below w.heap.size w wr ∧ MapA encC Ch.n wr w.heap.size ((cs.take k).flatMap (·.2)).length ((((cs.take k).flatMap (·.2)).map Ch.plain).foldl (putA Ch.n) [])))
  case atStart => exact ⟨0, by omega, rfl, HS.out⟩
  case round =>
    obtain ⟨k, hkg, rfl, HX⟩ := hrel
    cases gk with
    | zero =>
      have hkN : k = N := by omega
      subst hkN
      have e1 : cs.take k = cs := List.take_of_length_le (by have := HN.out; omega)
      have hX := HX.out
      rw [e1] at hX
      have hlen : ((((cs.flatMap (·.2)).map Ch.plain)).foldl (putA Ch.n) []).length ≤ (cs.flatMap (·.2)).length := by
        have := puts_len0 Ch.n ((cs.flatMap (·.2)).map Ch.plain)
        rwa [List.length_map] at this
      have hR := risingC_calls wr w.heap.size _ _ hX.2 (by have := HLL.out; omega) (by have := HLL.out; omega)
      have HB : Hid (Below w.heap.size w wr) := hX.1
      clear hX HX
      go_wp2_with (first
        | (go_at_call 43; refine hR.mono ?_; clear hR; rintro e w2 ⟨v, rfl, h2, b2⟩))
      go_ret
      exact ⟨v, _, rfl, h2.lower HB.out.size, join_is _, hlen, HB.out.trans (b2.mono HB.out.size)⟩
    | succ gg =>
      have hlt : k < N := by omega
      have hltI : (k : Int) < (N : Int) := by omega
      have hkl : k < cs.length := by rw [← HN.out]; exact hlt
      obtain ⟨g0, off, rfl, hg0, hat⟩ := HI.out k hkl
      have hat2 : wr.cell? ⟨g0, off + k, none⟩ = some (cs[k]).1 := (HX.out.1.cell (p := ⟨g0, off + k, none⟩) hg0).trans hat
      have hsl := HE.out k hkl
      have HFT := flats_take cs k hkl
      have HFL := flats_len cs k hkl
      have HFB := flats_le cs (k + 1)
      have hLL := HLL.out
      obtain ⟨ad2, cap2, hv2, hcap2, hmax2, _, _⟩ := id hsl
      rw [hv2] at hat2 hsl
      have HC : Hid (∀ i (hi : i < (cs[k]).2.length), ∃ g off, ad2 = some ⟨g, off, none⟩ ∧ g < w.heap.size ∧ w.rangeAt g (off + i * 26) (encC.c (cs[k]).2[i])) := fun i hi => SlB.at hsl i hi
      generalize (cs[k]).2 = c at *
      generalize hL0 : (((cs.take k).flatMap (·.2)).map Ch.plain).foldl (putA Ch.n) [] = L0 at *
      generalize hn0 : ((cs.take k).flatMap (·.2)).length = n0 at *
      obtain ⟨M, hM⟩ : ∃ M : Nat, M = c.length := ⟨_, rfl⟩
      rw [← hM] at hcap2 hmax2 hat2 HFL
      have HM : Hid (M = c.length) := hM
      have hb5 : n0 + M ≤ 10000 := by omega
      have HFT : Hid ((((cs.take (k + 1)).flatMap (·.2)).map Ch.plain).foldl (putA Ch.n) [] = (c.map Ch.plain).foldl (putA Ch.n) L0) := HFT
      have HFL : Hid (((cs.take (k + 1)).flatMap (·.2)).length = n0 + M) := HFL
      have HS2 : Hid (Below w.heap.size w wr ∧ MapA encC Ch.n wr w.heap.size (n0 + 0) (((c.take 0).map Ch.plain).foldl (putA Ch.n) L0)) := HX.out
      clear hat hkl hM hsl hv2 HX HFB hLL hL0 hn0
      go_wp2_with fail
      go_loopg [17] M (fun g2 i wq => ∃ j : Nat, j + g2 = M ∧ i = .int .i64 (j : Int) ∧ Hid (Below w.heap.size w wq ∧ MapA encC Ch.n wq w.heap.size (n0 + j) (((c.take j).map Ch.plain).foldl (putA Ch.n) L0)))
      case atStart => exact ⟨0, by omega, rfl, HS2.out⟩
      case round =>
        obtain ⟨j, hjg, rfl, HY⟩ := hrel
        cases gk with
        | zero =>
          have hjM : j = M := by omega
          subst hjM
          go_wp2_with fail
          go_roundg gg
          case measure => omega
          case rel =>
            refine ⟨k + 1, by omega, congrArg (Value.int .i64) (by omega), ?_⟩
            have hY := HY.out
            rw [List.take_of_length_le (by have := HM.out; omega)] at hY
            exact (show Below w.heap.size w wr ∧ MapA encC Ch.n wr w.heap.size ((cs.take (k + 1)).flatMap (·.2)).length ((((cs.take (k + 1)).flatMap (·.2)).map Ch.plain).foldl (putA Ch.n) []) from ⟨hY.1, by rw [HFT.out, HFL.out]; exact hY.2⟩)
        | succ g2 =>
          have hjlt : j < M := by omega
          have hjI : (j : Int) < (M : Int) := by omega
          have hjl : j < c.length := by rw [← HM.out]; exact hjlt
          obtain ⟨g1, off1, rfl, hg1, hat1⟩ := HC.out j hjl
          have HR : Hid (wr.rangeAt g1 (off1 + j * 26) (encC.c c[j])) := range_same' hat1 (HY.out.1.block g1 hg1)
          have HTK : Hid (((c.take (j + 1)).map Ch.plain).foldl (putA Ch.n) L0 = putA Ch.n (((c.take j).map Ch.plain).foldl (putA Ch.n) L0) (c[j]).plain) := plains_take c L0 j hjl
          generalize c[j] = p at *
          generalize ((c.take j).map Ch.plain).foldl (putA Ch.n) L0 = L at *
          clear hat1 hjl
          go_upto_region 8 with (first
            | (refine load_el elC _ rfl g1 (off1 + j * 26) rfl rfl p HR.out ?_)
            | (refine store_el elC rfl _ _ rfl wr.heap.size rfl p rfl ch0 (InB.new encC _ wr ch0 _ rfl) ?_; intro x1 hu1 tx1 sx1))
          have BX : Below wr.heap.size wr x1 := ((Below.refl _ wr).alloc (Nat.le_refl _) _).trans (tx1.below (by simp) (Nat.le_refl _) (by simp))
          have hb1 : Below w.heap.size w x1 := HY.out.1.trans (BX.mono HY.out.1.size)
          have hm1 := HY.out.2.below BX (Nat.le_refl _)
          obtain ⟨cv, cg⟩ := range_vC hu1.range
          simp only [Nat.zero_add] at cv cg
          have hqw : w.heap.size < wr.heap.size := HY.out.2.lt
          clear HY HR tx1 sx1 BX
          generalize wr.heap.size = q at *
          cases hpg : p.g with
          | true =>
            rw [hpg] at cg
            have ff : x1.frozen? ⟨q, 24, none⟩ = false := by simp [World.frozen?, hu1.blk]
            have hu2 := Ch.set_v hu1 hpg
            have hm2 : MapA encC Ch.n (x1.setCell ⟨q, 24, none⟩ (.string ⟨#[]⟩)) w.heap.size (n0 + j) L := hm1.kept (Below.heap_setCell _ _ _ _ (by simp; omega))
            have HB2 : Hid (Below w.heap.size w (x1.setCell ⟨q, 24, none⟩ (.string ⟨#[]⟩))) := hb1.setCell (by simp; omega) _
            have hk : p.plain.kz = p.kz := by unfold Ch.plain; rw [if_pos hpg]; rfl
            have hkk : p.plain.k = p.k := congrArg Kz.k hk
            have HPN : Hid (p.plain.n = p.kz.n) := Ch.plain_n p
            clear hu1 hm1 hb1 hk
            have hr2 := range_kC hu2.range
            rw [hkk] at hr2
            generalize p.plain = p2 at *
            go_wp2_with (first
              | (refine load_part _ rfl q 0 rfl rfl _ p.h hr2 ?_)
              | (refine load_el elC _ rfl q 0 rfl rfl p2 hu2.range ?_)
              | (refine store_a tyC rfl _ _ _ rfl w.heap.size (n0 + j) L rfl hm2 (by omega) p.kz rfl p2 rfl HPN.out ?_; intro x2 hm3 gr2))
            go_roundg g2
            case measure => omega
            case rel => exact ⟨j + 1, by omega, congrArg (Value.int .i64) (by omega), (show Below w.heap.size w x2 ∧ MapA encC Ch.n x2 w.heap.size (n0 + (j + 1)) (((c.take (j + 1)).map Ch.plain).foldl (putA Ch.n) L0) from ⟨HB2.out.grown gr2 HB2.out.size (fun j hj => by cases hj; exact Nat.le_refl _), by rw [HTK.out]; exact hm3⟩)⟩
          | false =>
            rw [hpg] at cg
            have hpp : p.plain = p := by unfold Ch.plain; rw [if_neg (by rw [hpg]; simp)]
            rw [hpp] at HTK
            go_wp2_with (first
              | (refine load_part _ rfl q 0 rfl rfl _ p.h (range_kC hu1.range) ?_)
              | (refine load_el elC _ rfl q 0 rfl rfl p hu1.range ?_)
              | (refine store_a tyC rfl _ _ _ rfl w.heap.size (n0 + j) L rfl hm1 (by omega) p.kz rfl p rfl rfl ?_; intro x2 hm3 gr2))
            go_roundg g2
            case measure => omega
            case rel => exact ⟨j + 1, by omega, congrArg (Value.int .i64) (by omega), (show Below w.heap.size w x2 ∧ MapA encC Ch.n x2 w.heap.size (n0 + (j + 1)) (((c.take (j + 1)).map Ch.plain).foldl (putA Ch.n) L0) from ⟨hb1.grown gr2 hb1.size (fun j hj => by cases hj; exact Nat.le_refl _), by rw [HTK.out]; exact hm3⟩)⟩
end Go.Proofs.YtdmindhjmjnagabGreatDoor
/- More of slices of elements of k cells: the rest of one, append of any slice at one operation. -/
namespace Go.Proofs.YtdmindhjmjnagabGreatDoor
set_option linter.unusedVariables false
set_option maxRecDepth 100000
open Go.RowKit

theorem SlB.drop {α : Type} {k : Nat} {E : Enc α k} {w : World} {B : Nat} {ad : Option Addr} {n cap : Nat} {l : List α} (h : SlB E w B (.slice ad n cap) l) (m : Nat) (hm : m ≤ l.length) : SlB E w B (.slice (if cap = m then ad else ad.map (·.add (m * k))) (n - m) (cap - m)) (l.drop m) := by
  obtain ⟨ad', cap', h1, h2, h3, h4, h5⟩ := h
  cases h1
  have hlen : (l.drop m).length = l.length - m := List.length_drop
  refine ⟨_, cap - m, by rw [hlen], by omega, by omega, fun e => ?_, ?_⟩
  · have : ad = none := by
      split at e
      · exact e
      · cases ad with
        | none => rfl
        | some a => cases e
    have := h4 this
    omega
  · rcases h5 with rfl | ⟨g, off, rfl, hg, hr⟩
    · exact .inl (by simp)
    · by_cases hc : cap = m
      · refine .inl (List.drop_of_length_le (by omega))
      · refine .inr ⟨g, off + m * k, by rw [if_neg hc]; simp [Addr.add_mid], hg, fun i hi => ?_⟩
        rw [List.getElem_drop]
        have := hr (m + i) (by rw [hlen] at hi; omega)
        rw [Nat.add_mul, ← Nat.add_assoc] at this
        exact this
theorem wp_build_c1 {α : Type} {E : Enc α 1} {P : Program} {ts te : TypeId} {bytes : Nat} {o : Oper} {a : Act} {w : World} {K : Act → World → Prop} {Q : Exit → Act → World → Prop} (R : RowTy P E ts te bytes) (x : Operand) (ho : o.op = .buildSlice ts 1 #[(0, x)]) (e : α) (v : Value) (hx : a.eval x = v) (hv : v.cells = (E.c e).toArray)
    (h : ∀ w', Own E te w' w.heap.size (.slice (some ⟨w.heap.size, 0, none⟩) 1 1) [e] → Below w.heap.size w w' → w'.heap.size = w.heap.size + 1 → K (a.put o.dst (.slice (some ⟨w.heap.size, 0, none⟩) 1 1)) w') : o.wp P a w K Q := by
  obtain ⟨i, z, hi, hz, hsz, hby, hzc⟩ := R.parts
  refine wp_buildSlice ts te 1 _ ho (E.flat [e]).toArray i z R.under hi hz (by rw [hsz]; decide) (by rw [hsz]; decide) ?_ ?_
  · rw [hsz]
    have e1 : (Array.map (fun x : Nat × Operand => match x with | (i, x) => (i, a.eval x)) #[(0, x)]).toList = [(0, v)] := by simp [hx]
    have hs : v.cells.size = 1 := by rw [hv]; simp [E.len]
    rw [e1, fill_put (off := 0) (size := 1) rfl hs (by simp), E.flat_one, hv]
    simp [Instr.fill]
  · refine h _ ⟨E.flat_length [e], .inr ⟨w.heap.size, 1, (E.flat [e]).toArray, rfl, Nat.le_refl _, heap_alloc_new _ _, Nat.le_refl _, by unfold maxLen; omega, by simp [E.flat_length], ?_⟩⟩ ((Below.refl _ w).alloc (Nat.le_refl _) _) (by simp)
    have := E.flat_length [e]
    rw [List.take_of_length_le (by simp [this])]
section
variable {α : Type} {k : Nat} {E : Enc α k} {P : Program} {ts te : TypeId} {bytes : Nat} {o : Oper} {a : Act} {w : World} {K : Act → World → Prop} {Q : Exit → Act → World → Prop}
theorem wp_append_sl (R : RowTy P E ts te bytes) (s x : Operand) (ho : o.op = .call { callee := .builtin .append, args := #[s, x], argTypes := #[ts, ts] })
    (base : Nat) (v : Value) (l m : List α) (hs : a.eval s = v) (hown : Own E te w base v l) (u : Value) (hx : a.eval x = u) (B : Nat) (hu : SlB E w B u m)
    (h63 : l.length + m.length ≤ 1000000) (hbytes : bytes ≤ 10000) (hbase : base ≤ w.heap.size)
    (h : ∀ v' w', Own E te w' base v' (l ++ m) → w.grownBy w' v.ownBlock → K (a.put o.dst v') w') : o.wp P a w K Q := by
  obtain ⟨i, z, hi, hz, hsz, hby, hzc⟩ := R.parts
  have hB : (l.length + m.length) * bytes ≤ 140737488355328 := by
    have := Nat.mul_le_mul h63 hbytes
    omega
  have hl : (l ++ m).length = l.length + m.length := by simp
  have hu' := hu
  obtain ⟨ad, cap, rfl, _⟩ := hu'
  obtain ⟨_, hc⟩ := hu.news
  rcases hc with ⟨rfl, rfl, rfl⟩ | ⟨A, rfl, hn⟩
  · have hrun := run_append_owned_none (P := P) (w := w) base ts o.type te i k R.under hi v l.length (E.flat l) hown
    have hx' : a.eval x = .slice none 0 0 := hx
    unfold Oper.wp
    simp only [execOp, ho, resolve, invoke, builtin, Sem.run_bind, Sem.run_pure, Result.andThen_ok, List.map_toArray, List.map_cons, List.map_nil, hs, hx', hrun]
    exact h _ _ (by rw [List.append_nil]; exact hown) ⟨rfl, rfl, rfl, Nat.le_refl _, fun _ _ _ => rfl⟩
  · refine wp_append_own w s x ts ho base te i z k bytes R.under hi hz hsz hby hzc R.pos v l.length (E.flat l) hs hown A m.length cap (E.flat m) hx (E.flat_length m) hn (E.flat_ones m) (by unfold maxLen; omega) hB hbase ?_
    intro v' w' h1 h2 _
    refine h v' w' ?_ h2
    show w'.ownsRow base te k _ (l ++ m).length (E.flat (l ++ m))
    rw [hl, E.flat_append]
    exact h1
end
theorem build_c1 {α : Type} {E : Enc α 1} {P : Program} {ts te : TypeId} {bytes : Nat} {ops : Array Oper} {rest : List Oper} {o : Oper} {a : Act} {w : World} {Q : Exit → Act → World → Prop} (R : RowTy P E ts te bytes) (hg : o.guard = none) (x : Operand) (ho : o.op = .buildSlice ts 1 #[(0, x)]) (e : α) (v : Value) (hx : a.eval x = v) (hv : v.cells = (E.c e).toArray)
    (h : ∀ w', Own E te w' w.heap.size (.slice (some ⟨w.heap.size, 0, none⟩) 1 1) [e] → Below w.heap.size w w' → w'.heap.size = w.heap.size + 1 → wpList P ops Q rest (a.put o.dst (.slice (some ⟨w.heap.size, 0, none⟩) 1 1)) w') : wpList P ops Q (o :: rest) a w :=
  wpList_plain hg fun _ hK => wp_build_c1 R x ho e v hx hv fun w' h1 h2 h3 => hK _ _ (h w' h1 h2 h3)
theorem append_slB {α : Type} {k : Nat} {E : Enc α k} {P : Program} {ts te : TypeId} {bytes : Nat} {ops : Array Oper} {rest : List Oper} {o : Oper} {a : Act} {w : World} {Q : Exit → Act → World → Prop} (R : RowTy P E ts te bytes) (hg : o.guard = none) (s x : Operand) (ho : o.op = .call { callee := .builtin .append, args := #[s, x], argTypes := #[ts, ts] })
    (base : Nat) (v : Value) (l m : List α) (hs : a.eval s = v) (hown : Own E te w base v l) (u : Value) (hx : a.eval x = u) (B : Nat) (hu : SlB E w B u m)
    (h63 : l.length + m.length ≤ 1000000) (hbytes : bytes ≤ 10000) (hbase : base ≤ w.heap.size)
    (h : ∀ v' w', Own E te w' base v' (l ++ m) → w.grownBy w' v.ownBlock → wpList P ops Q rest (a.put o.dst v') w') : wpList P ops Q (o :: rest) a w :=
  wpList_plain hg fun _ hK => wp_append_sl R s x ho base v l m hs hown u hx B hu h63 hbytes hbase fun v' w' h1 h2 => hK _ _ (h v' w' h1 h2)
theorem sl_open {α : Type} {k : Nat} {E : Enc α k} {w : World} {v : Value} {l : List α} (h : Sl E w v l) : ∃ ad N cap, v = .slice ad N cap ∧ Hid (N = l.length ∧ N ≤ cap ∧ Sl E w (.slice ad N cap) l ∧ ∀ i (hi : i < l.length), ∃ g off, ad = some ⟨g, off, none⟩ ∧ g < w.heap.size ∧ w.rangeAt g (off + i * k) (E.c l[i])) := by
  have h0 := h
  obtain ⟨ad, cap, rfl, hcap, hmax, _, _⟩ := h
  exact ⟨ad, _, cap, rfl, ⟨rfl, hcap, h0, fun i hi => SlB.at h0 i hi⟩⟩
end Go.Proofs.YtdmindhjmjnagabGreatDoor
/- Plain of package view: the closure by which pairs are found. -/
namespace Go.Proofs.YtdmindhjmjnagabGreatDoor
set_option linter.unusedVariables false
set_option maxRecDepth 100000
open Go.RowKit

theorem ord_less (p : Pa) (K : Kz) : decide (Lib.compareBytes p.k K.k < 0) = decide (p.n < K.n) := by
  rw [compare_less, less_num p.k K.k (by rw [p.h, K.h])]
  exact decide_eq_decide.2 ⟨fun h => by unfold Pa.n Kz.n; omega, fun h => by unfold Pa.n Kz.n at h; omega⟩
theorem ord_zero (p : Pa) (K : Kz) : decide (Lib.compareBytes p.k K.k = 0) = decide (p.n = K.n) := by
  refine decide_eq_decide.2 ((compare_zero _ _).trans ⟨fun h => by unfold Pa.n Kz.n; rw [h], fun h => ?_⟩)
  exact num_inj p.k K.k (by rw [p.h, K.h]) (by unfold Pa.n Kz.n at h; omega)
set_option maxHeartbeats 1000000 in
theorem ordP_calls (w : World) (p : Pa) (K : Kz) : Calls Tryz.prog 155 #[.agg (encP.c p).toArray, kv K.k] w fun e w' => ∃ n, e = .returned (.int .i64 n) ∧ decide (n < 0) = decide (p.n < K.n) ∧ decide (n = 0) = decide (p.n = K.n) ∧ Below w.heap.size w w' := by
  have h1 : InB encP 76 ((w.alloc (.cells (encP.c p).toArray 76)).alloc (.cells (bc K.k).toArray 31)) w.heap.size p := (InB.new encP _ w p _ rfl).alloc _
  have h2 : Has ((w.alloc (.cells (encP.c p).toArray 76)).alloc (.cells (bc K.k).toArray 31)) (w.heap.size + 1) K.k := by
    have := Has.new (w.alloc (.cells (encP.c p).toArray 76)) K.k K.h
    simpa using this
  have HB : Hid (Below w.heap.size w ((w.alloc (.cells (encP.c p).toArray 76)).alloc (.cells (bc K.k).toArray 31))) := ((Below.refl _ w).alloc (Nat.le_refl _) _).alloc (by simp) _
  have HC : Hid (∀ W, (W.rangeAt w.heap.size 0 (bc p.k)) → W.rangeAt (w.heap.size + 1) 0 (bc K.k) → Calls Tryz.prog 70 #[.slice (some ⟨w.heap.size, 0, none⟩) 24 24, .slice (some ⟨w.heap.size + 1, 0, none⟩) 24 24] W fun e w' => e = .returned (.int .i64 (Lib.compareBytes p.k K.k)) ∧ w' = W) := fun W a b => compareAt_calls W _ _ _ _ p.h K.h a b 24 24
  have HR : Hid (decide (Lib.compareBytes p.k K.k < 0) = decide (p.n < K.n)) := ord_less p K
  have HZ : Hid (decide (Lib.compareBytes p.k K.k = 0) = decide (p.n = K.n)) := ord_zero p K
  have r1 := range_kP h1.range
  have r2 : ((w.alloc (.cells (encP.c p).toArray 76)).alloc (.cells (bc K.k).toArray 31)).rangeAt (w.heap.size + 1) 0 (bc K.k) := fun j v hv => by
    rw [Nat.zero_add, cell_of_row _ _ _ _ _ _ h2.blk]
    simpa using hv
  have HH : Hid (∀ q, ((((w.alloc (.cells (encP.c p).toArray 76)).alloc (.cells (bc K.k).toArray 31)).drewN q).rangeAt w.heap.size 0 (bc p.k)) ∧ (((w.alloc (.cells (encP.c p).toArray 76)).alloc (.cells (bc K.k).toArray 31)).drewN q).rangeAt (w.heap.size + 1) 0 (bc K.k)) := fun q => ⟨r1, r2⟩
  generalize Lib.compareBytes p.k K.k = r at *
  clear h1 h2 r1 r2
  go_enter Tryz.func155, Tryz.ntmps155
  go_wp2
  go_quiet (first | (go_at_call 70; exact Calls.quiet_of_same (HC.out _ (HH.out _).1 (HH.out _).2)))
  go_wp2
  go_ret
  exact ⟨_, rfl, HR.out, HZ.out, below_drewN HB.out _⟩
end Go.Proofs.YtdmindhjmjnagabGreatDoor
