/- Join of package delta. -/
import Derived.Test.YtbodbdcmkicmaaaDlB
namespace Go.Proofs.Ytbodbdcmkicmaaa
set_option linter.unusedVariables false
open Go.RowKit

/-- A value of one cell, as an element of a slice. -/
structure Vc where
  v : Value
  one : v.oneCell' = true
def encV : Enc Vc 1 := ⟨fun x => [x.v], fun _ => rfl, fun x v hv => by rw [List.mem_singleton] at hv; subst hv; exact x.one⟩
def vcs (cs : List (Value × List Ch)) (h : ∀ e ∈ cs, e.1.oneCell' = true) : List Vc := cs.attach.map fun e => ⟨e.1.1, h e.1 e.2⟩
/-- A slice of slices of changes. -/
structure SlS (w : World) (B : Nat) (u : Value) (cs : List (Value × List Ch)) : Prop where
  out : ∃ ad cap, u = .slice ad cs.length cap ∧ cs.length ≤ cap ∧ cs.length ≤ maxLen ∧ (cs = [] ∨ ∃ g off, ad = some ⟨g, off, none⟩ ∧ g < B ∧ ∀ i (hi : i < cs.length), w.cell? ⟨g, off + i, none⟩ = some (cs[i]).1)
  each : ∀ e ∈ cs, SlB encC w B e.1 e.2
theorem Ch.set_v {w : World} {q : Nat} {c : Ch} (h : InB encC 43 w q c) (hg : c.g = true) : InB encC 43 (w.setCell ⟨q, 24, none⟩ (.string ⟨#[]⟩)) q c.plain := by
  constructor
  rw [setCell_eq_setRow w q 24 _ _ _ _ h.blk, setRow_heap w q _ _ _ _ h.blk]
  have hk : (bc c.k).length = 24 := by rw [bc_length, c.h]
  have e : c.plain = ⟨c.k, c.h, [], true⟩ := by unfold Ch.plain; rw [if_pos hg]
  rw [e]
  congr 2
  show (ccd c).toArray.setIfInBounds 24 _ = (ccd ⟨c.k, c.h, [], true⟩).toArray
  simp only [ccd, List.setIfInBounds_toArray]
  rw [List.set_append_right _ _ (by omega), hk, hg]
  rfl
theorem plains_take (l : List Ch) (m : List Ch) (k : Nat) (h : k < l.length) : ((l.take (k + 1)).map Ch.plain).foldl (putA Ch.n) m = putA Ch.n (((l.take k).map Ch.plain).foldl (putA Ch.n) m) (l[k]).plain := by
  rw [List.take_succ_eq_append_getElem h, List.map_append, List.foldl_append]
  rfl
theorem flats_take (cs : List (Value × List Ch)) (k : Nat) (h : k < cs.length) : ((((cs.take (k + 1)).flatMap (·.2)).map Ch.plain).foldl (putA Ch.n) []) = (((cs[k]).2.map Ch.plain).foldl (putA Ch.n) ((((cs.take k).flatMap (·.2)).map Ch.plain).foldl (putA Ch.n) [])) := by
  rw [List.take_succ_eq_append_getElem h, List.flatMap_append, List.map_append, List.foldl_append]
  simp
theorem flats_len (cs : List (Value × List Ch)) (k : Nat) (h : k < cs.length) : ((cs.take (k + 1)).flatMap (·.2)).length = ((cs.take k).flatMap (·.2)).length + (cs[k]).2.length := by
  rw [List.take_succ_eq_append_getElem h, List.flatMap_append, List.length_append]
  simp
theorem flats_le (cs : List (Value × List Ch)) (k : Nat) : ((cs.take k).flatMap (·.2)).length ≤ (cs.flatMap (·.2)).length := by
  have : cs.flatMap (·.2) = (cs.take k).flatMap (·.2) ++ (cs.drop k).flatMap (·.2) := by rw [← List.flatMap_append, List.take_append_drop]
  rw [this, List.length_append]
  omega
set_option maxRecDepth 100000 in
set_option maxHeartbeats 4000000 in
theorem join_calls (w : World) (u : Value) (cs : List (Value × List Ch)) (h : SlS w w.heap.size u cs) (hn : cs.length ≤ 1000) (hl : (cs.flatMap (·.2)).length ≤ 10000) :
    Calls Try.prog 20 #[u] w fun e w' => ∃ v d, e = .returned v ∧ Own encC 43 w' w.heap.size v d ∧ JoinIs (cs.flatMap (·.2)) d ∧ d.length ≤ (cs.flatMap (·.2)).length ∧ Below w.heap.size w w' := by
  obtain ⟨⟨ad, cap, rfl, hcap, hmax, hcell⟩, heach⟩ := h
  obtain ⟨N, hN⟩ : ∃ N : Nat, N = cs.length := ⟨_, rfl⟩
  rw [← hN] at hcap hmax hn ⊢
  have HN : Hid (N = cs.length) := hN
  have HI : Hid (∀ i (hi : i < cs.length), ∃ g off, ad = some ⟨g, off, none⟩ ∧ g < w.heap.size ∧ w.cell? ⟨g, off + i, none⟩ = some (cs[i]).1) := fun i hi => by
    rcases hcell with rfl | ⟨g, off, e, hg, hc⟩
    · cases hi
    · exact ⟨g, off, e, hg, hc i hi⟩
  have HE : Hid (∀ i (hi : i < cs.length), SlB encC w w.heap.size (cs[i]).1 (cs[i]).2) := fun i hi => heach _ (List.getElem_mem hi)
  have HLL : Hid ((cs.flatMap (·.2)).length ≤ 10000) := hl
  have HS : Hid (Below w.heap.size w (w.alloc (.map #[] 0)) ∧ MapA encC Ch.n (w.alloc (.map #[] 0)) w.heap.size ((cs.take 0).flatMap (·.2)).length ((((cs.take 0).flatMap (·.2)).map Ch.plain).foldl (putA Ch.n) [])) := ⟨(Below.refl _ w).alloc (Nat.le_refl _) _, MapA.made _ _ w _ rfl⟩
  have hmm := @run_makeMap Try.prog
  clear hN heach hcell hl
  go_enter Try.func20, Try.ntmps20
  go_wp2
  go_loopg [11] N (fun gg i wr => ∃ k : Nat, k + gg = N ∧ i = .int .i64 (k : Int) ∧ Hid (Below w.heap.size w wr ∧ MapA encC Ch.n wr w.heap.size ((cs.take k).flatMap (·.2)).length ((((cs.take k).flatMap (·.2)).map Ch.plain).foldl (putA Ch.n) [])))
  case atStart => exact ⟨0, by omega, rfl, HS.out⟩
  case round =>
    obtain ⟨k, hkg, rfl, HX⟩ := hrel
    cases gk with
    | zero =>
      have hkN : k = N := by omega
      subst hkN
      have e1 : cs.take k = cs := List.take_of_length_le (by have := HN.out; omega)
      have hX := HX.out
      rw [e1] at hX
      have hlen : ((((cs.flatMap (·.2)).map Ch.plain)).foldl (putA Ch.n) []).length ≤ (cs.flatMap (·.2)).length := by
        have := puts_len0 Ch.n ((cs.flatMap (·.2)).map Ch.plain)
        rwa [List.length_map] at this
      have hR := risingC_calls wr w.heap.size _ _ hX.2 (by have := HLL.out; omega) (by have := HLL.out; omega)
      have HB : Hid (Below w.heap.size w wr) := hX.1
      clear hX HX
      go_wp2_with (first
        | (go_at_call 32; refine hR.mono ?_; clear hR; rintro e w2 ⟨v, rfl, h2, b2⟩))
      go_ret
      exact ⟨v, _, rfl, h2.lower HB.out.size, join_is _, hlen, HB.out.trans (b2.mono HB.out.size)⟩
    | succ gg =>
      have hlt : k < N := by omega
      have hltI : (k : Int) < (N : Int) := by omega
      have hkl : k < cs.length := by rw [← HN.out]; exact hlt
      obtain ⟨g0, off, rfl, hg0, hat⟩ := HI.out k hkl
      have hat2 : wr.cell? ⟨g0, off + k, none⟩ = some (cs[k]).1 := (HX.out.1.cell (p := ⟨g0, off + k, none⟩) hg0).trans hat
      have hsl := HE.out k hkl
      have HFT := flats_take cs k hkl
      have HFL := flats_len cs k hkl
      have HFB := flats_le cs (k + 1)
      have hLL := HLL.out
      obtain ⟨ad2, cap2, hv2, hcap2, hmax2, _, _⟩ := id hsl
      rw [hv2] at hat2 hsl
      have HC : Hid (∀ i (hi : i < (cs[k]).2.length), ∃ g off, ad2 = some ⟨g, off, none⟩ ∧ g < w.heap.size ∧ w.rangeAt g (off + i * 26) (encC.c (cs[k]).2[i])) := fun i hi => SlB.at hsl i hi
      generalize (cs[k]).2 = c at *
      generalize hL0 : (((cs.take k).flatMap (·.2)).map Ch.plain).foldl (putA Ch.n) [] = L0 at *
      generalize hn0 : ((cs.take k).flatMap (·.2)).length = n0 at *
      obtain ⟨M, hM⟩ : ∃ M : Nat, M = c.length := ⟨_, rfl⟩
      rw [← hM] at hcap2 hmax2 hat2 HFL
      have HM : Hid (M = c.length) := hM
      have hb5 : n0 + M ≤ 10000 := by omega
      have HFT : Hid ((((cs.take (k + 1)).flatMap (·.2)).map Ch.plain).foldl (putA Ch.n) [] = (c.map Ch.plain).foldl (putA Ch.n) L0) := HFT
      have HFL : Hid (((cs.take (k + 1)).flatMap (·.2)).length = n0 + M) := HFL
      have HS2 : Hid (Below w.heap.size w wr ∧ MapA encC Ch.n wr w.heap.size (n0 + 0) (((c.take 0).map Ch.plain).foldl (putA Ch.n) L0)) := HX.out
      clear hat hkl hM hsl hv2 HX HFB hLL hL0 hn0
      go_wp2_with fail
      go_loopg [17] M (fun g2 i wq => ∃ j : Nat, j + g2 = M ∧ i = .int .i64 (j : Int) ∧ Hid (Below w.heap.size w wq ∧ MapA encC Ch.n wq w.heap.size (n0 + j) (((c.take j).map Ch.plain).foldl (putA Ch.n) L0)))
      case atStart => exact ⟨0, by omega, rfl, HS2.out⟩
      case round =>
        obtain ⟨j, hjg, rfl, HY⟩ := hrel
        cases gk with
        | zero =>
          have hjM : j = M := by omega
          subst hjM
          go_wp2_with fail
          go_roundg gg
          case measure => omega
          case rel =>
            refine ⟨k + 1, by omega, congrArg (Value.int .i64) (by omega), ?_⟩
            have hY := HY.out
            rw [List.take_of_length_le (by have := HM.out; omega)] at hY
            exact (show Below w.heap.size w wr ∧ MapA encC Ch.n wr w.heap.size ((cs.take (k + 1)).flatMap (·.2)).length ((((cs.take (k + 1)).flatMap (·.2)).map Ch.plain).foldl (putA Ch.n) []) from ⟨hY.1, by rw [HFT.out, HFL.out]; exact hY.2⟩)
        | succ g2 =>
          have hjlt : j < M := by omega
          have hjI : (j : Int) < (M : Int) := by omega
          have hjl : j < c.length := by rw [← HM.out]; exact hjlt
          obtain ⟨g1, off1, rfl, hg1, hat1⟩ := HC.out j hjl
          have HR : Hid (wr.rangeAt g1 (off1 + j * 26) (encC.c c[j])) := range_same' hat1 (HY.out.1.block g1 hg1)
          have HTK : Hid (((c.take (j + 1)).map Ch.plain).foldl (putA Ch.n) L0 = putA Ch.n (((c.take j).map Ch.plain).foldl (putA Ch.n) L0) (c[j]).plain) := plains_take c L0 j hjl
          generalize c[j] = p at *
          generalize ((c.take j).map Ch.plain).foldl (putA Ch.n) L0 = L at *
          clear hat1 hjl
          go_upto_region 8 with (first
            | (refine load_el elC _ rfl g1 (off1 + j * 26) rfl rfl p HR.out ?_)
            | (refine store_el elC rfl _ _ rfl wr.heap.size rfl p rfl ch0 (InB.new encC _ wr ch0 _ rfl) ?_; intro x1 hu1 tx1 sx1))
          have BX : Below wr.heap.size wr x1 := ((Below.refl _ wr).alloc (Nat.le_refl _) _).trans (tx1.below (by simp) (Nat.le_refl _) (by simp))
          have hb1 : Below w.heap.size w x1 := HY.out.1.trans (BX.mono HY.out.1.size)
          have hm1 := HY.out.2.below BX (Nat.le_refl _)
          obtain ⟨cv, cg⟩ := range_vC hu1.range
          simp only [Nat.zero_add] at cv cg
          have hqw : w.heap.size < wr.heap.size := HY.out.2.lt
          clear HY HR tx1 sx1 BX
          generalize wr.heap.size = q at *
          cases hpg : p.g with
          | true =>
            rw [hpg] at cg
            have ff : x1.frozen? ⟨q, 24, none⟩ = false := by simp [World.frozen?, hu1.blk]
            have hu2 := Ch.set_v hu1 hpg
            have hm2 : MapA encC Ch.n (x1.setCell ⟨q, 24, none⟩ (.string ⟨#[]⟩)) w.heap.size (n0 + j) L := hm1.kept (Below.heap_setCell _ _ _ _ (by simp; omega))
            have HB2 : Hid (Below w.heap.size w (x1.setCell ⟨q, 24, none⟩ (.string ⟨#[]⟩))) := hb1.setCell (by simp; omega) _
            have hk : p.plain.kz = p.kz := by unfold Ch.plain; rw [if_pos hpg]; rfl
            have hkk : p.plain.k = p.k := congrArg Kz.k hk
            have HPN : Hid (p.plain.n = p.kz.n) := Ch.plain_n p
            clear hu1 hm1 hb1 hk
            have hr2 := range_kC hu2.range
            rw [hkk] at hr2
            generalize p.plain = p2 at *
            go_wp2_with (first
              | (refine load_part _ rfl q 0 rfl rfl _ p.h hr2 ?_)
              | (refine load_el elC _ rfl q 0 rfl rfl p2 hu2.range ?_)
              | (refine store_a tyC rfl _ _ _ rfl w.heap.size (n0 + j) L rfl hm2 (by omega) p.kz rfl p2 rfl HPN.out ?_; intro x2 hm3 gr2))
            go_roundg g2
            case measure => omega
            case rel => exact ⟨j + 1, by omega, congrArg (Value.int .i64) (by omega), (show Below w.heap.size w x2 ∧ MapA encC Ch.n x2 w.heap.size (n0 + (j + 1)) (((c.take (j + 1)).map Ch.plain).foldl (putA Ch.n) L0) from ⟨HB2.out.grown gr2 HB2.out.size (fun j hj => by cases hj; exact Nat.le_refl _), by rw [HTK.out]; exact hm3⟩)⟩
          | false =>
            rw [hpg] at cg
            have hpp : p.plain = p := by unfold Ch.plain; rw [if_neg (by rw [hpg]; simp)]
            rw [hpp] at HTK
            go_wp2_with (first
              | (refine load_part _ rfl q 0 rfl rfl _ p.h (range_kC hu1.range) ?_)
              | (refine load_el elC _ rfl q 0 rfl rfl p hu1.range ?_)
              | (refine store_a tyC rfl _ _ _ rfl w.heap.size (n0 + j) L rfl hm1 (by omega) p.kz rfl p rfl rfl ?_; intro x2 hm3 gr2))
            go_roundg g2
            case measure => omega
            case rel => exact ⟨j + 1, by omega, congrArg (Value.int .i64) (by omega), (show Below w.heap.size w x2 ∧ MapA encC Ch.n x2 w.heap.size (n0 + (j + 1)) (((c.take (j + 1)).map Ch.plain).foldl (putA Ch.n) L0) from ⟨hb1.grown gr2 hb1.size (fun j hj => by cases hj; exact Nat.le_refl _), by rw [HTK.out]; exact hm3⟩)⟩
end Go.Proofs.Ytbodbdcmkicmaaa
