import Derived.Test.YtgicanpggndbeaaGreatB22
import Derived.Deep.LoopGhost
/- A list as a map (taken), a map as a list (rising). -/
namespace Go.Proofs.YtgicanpggndbeaaGreat
set_option linter.unusedVariables false
set_option maxRecDepth 100000
open Go.RowKit

theorem wrap_next9 {k N : Nat} (h : k < N) (hN : N ≤ maxLen) : wrap64 ((k : Int) + 1) = ((k + 1 : Nat) : Int) := by unfold maxLen at hN; unfold wrap64; omega
theorem Own.lower {α : Type} {k : Nat} {E : Enc α k} {ty : TypeId} {w : World} {base base' : Nat} {v : Value} {l : List α} (h : Own E ty w base v l) (hb : base' ≤ base) : Own E ty w base' v l := Go.Proofs.ownsRow_base_a h hb
section
variable {w : World} {g o : Nat}
theorem range_kP {p : Pa} (h : w.rangeAt g o (encP.c p)) : w.rangeAt g o (bc p.k) := fun j v hv => by
  refine h j v ?_
  show (pcd p)[j]? = some v
  rw [pcd, List.getElem?_append_left (List.getElem?_eq_some_iff.1 hv).1]
  exact hv
theorem range_vP {p : Pa} (h : w.rangeAt g o (encP.c p)) : w.cell? ⟨g, o + 24, none⟩ = some (.string (str p.v)) := by
  refine h 24 _ ?_
  show (pcd p)[24]? = _
  have hk : (bc p.k).length = 24 := by rw [bc_length, p.h]
  rw [pcd, List.getElem?_append_right (by omega), hk]
  rfl
theorem range_kC {p : Ch} (h : w.rangeAt g o (encC.c p)) : w.rangeAt g o (bc p.k) := fun j v hv => by
  refine h j v ?_
  show (ccd p)[j]? = some v
  rw [ccd, List.getElem?_append_left (List.getElem?_eq_some_iff.1 hv).1]
  exact hv
theorem range_vC {p : Ch} (h : w.rangeAt g o (encC.c p)) : w.cell? ⟨g, o + 24, none⟩ = some (.string (str p.v)) ∧ w.cell? ⟨g, o + 25, none⟩ = some (.bool p.g) := by
  have hk : (bc p.k).length = 24 := by rw [bc_length, p.h]
  refine ⟨h 24 _ ?_, h 25 _ ?_⟩
  · show (ccd p)[24]? = _
    rw [ccd, List.getElem?_append_right (by omega), hk]
    rfl
  · show (ccd p)[25]? = _
    rw [ccd, List.getElem?_append_right (by omega), hk]
    rfl
end
theorem puts_take {α : Type} (key : α → Int) (l : List α) (k : Nat) (h : k < l.length) : (l.take (k + 1)).foldl (putA key) [] = putA key ((l.take k).foldl (putA key) []) l[k] := by
  rw [List.take_succ_eq_append_getElem h, List.foldl_append]
  rfl
set_option maxRecDepth 100000 in
set_option maxHeartbeats 4000000 in
theorem taken_calls (w : World) (u : Value) (l : List Pa) (h : Sl encP w u l) (hl : l.length ≤ 100000) :
    Calls Tryz.prog 103 #[u] w fun e w' => e = .returned (.map (some w.heap.size)) ∧ MapA encP Pa.n w' w.heap.size l.length (l.foldl (putA Pa.n) []) ∧ Below w.heap.size w w' := by
  have hl' := h
  obtain ⟨ad, cap, rfl, hcap, hmax, _, _⟩ := hl'
  obtain ⟨N, hN⟩ : ∃ N : Nat, N = l.length := ⟨_, rfl⟩
  rw [← hN] at hcap hmax ⊢
  have HN : Hid (N = l.length) := hN
  have hN5 : N ≤ 100000 := by omega
  have HI : Hid (∀ i (hi : i < l.length), ∃ g off, ad = some ⟨g, off, none⟩ ∧ g < w.heap.size ∧ w.rangeAt g (off + i * 25) (encP.c l[i])) := fun i hi => SlB.at h i hi
  have HS : Hid (Below w.heap.size w (w.alloc (.map #[] 0)) ∧ MapA encP Pa.n (w.alloc (.map #[] 0)) w.heap.size 0 []) := ⟨(Below.refl _ w).alloc (Nat.le_refl _) _, MapA.made _ _ w _ rfl⟩
  have hmm := @run_makeMap Tryz.prog
  clear hN h hl
  go_enter Tryz.func103, Tryz.ntmps103
  go_wp2
  go_loopg [9] N (fun gg i wr => ∃ k : Nat, k + gg = N ∧ i = .int .i64 (k : Int) ∧ Hid (Below w.heap.size w wr ∧ MapA encP Pa.n wr w.heap.size k ((l.take k).foldl (putA Pa.n) [])))
  case atStart => exact ⟨0, by omega, rfl, HS.out⟩
  case round =>
    obtain ⟨k, hkg, rfl, HE⟩ := hrel
    cases gk with
    | zero =>
      have hkN : k = N := by omega
      subst hkN
      go_wp2_with fail
      go_ret
      have := HE.out
      rw [List.take_of_length_le (by have := HN.out; omega)] at this
      exact ⟨rfl, this.2, this.1⟩
    | succ gg =>
      have hlt : k < N := by omega
      have hltI : (k : Int) < (N : Int) := by omega
      have hkl : k < l.length := by rw [← HN.out]; exact hlt
      obtain ⟨g0, off, rfl, hg0, hat⟩ := HI.out k hkl
      have HR : Hid (wr.rangeAt g0 (off + k * 25) (encP.c l[k])) := range_same' hat (HE.out.1.block g0 hg0)
      have HTK : Hid ((l.take (k + 1)).foldl (putA Pa.n) [] = putA Pa.n ((l.take k).foldl (putA Pa.n) []) l[k]) := puts_take Pa.n l k hkl
      generalize l[k] = p at *
      generalize (l.take k).foldl (putA Pa.n) [] = L at *
      clear hat hkl
      go_upto_region 5 with (first
        | (refine load_el elP _ rfl g0 (off + k * 25) rfl rfl p HR.out ?_)
        | (refine store_el elP rfl _ _ rfl wr.heap.size rfl p rfl pa0 (InB.new encP _ wr pa0 _ rfl) ?_; intro x1 hu1 tx1 sx1))
      have BX : Below wr.heap.size wr x1 := ((Below.refl _ wr).alloc (Nat.le_refl _) _).trans (tx1.below (by simp) (Nat.le_refl _) (by simp))
      have hb1 : Below w.heap.size w x1 := HE.out.1.trans (BX.mono HE.out.1.size)
      have hm1 := HE.out.2.below BX (Nat.le_refl _)
      clear HE HR tx1 sx1 BX
      generalize wr.heap.size = q at *
      go_wp2_with (first
        | (refine load_part _ rfl q 0 rfl rfl _ p.h (range_kP hu1.range) ?_)
        | (refine load_el elP _ rfl q 0 rfl rfl p hu1.range ?_)
        | (refine store_a tyP rfl _ _ _ rfl w.heap.size k L rfl hm1 (by omega) p.kz rfl p rfl rfl ?_; intro x2 hm2 gr2))
      go_roundg gg
      case measure => omega
      case rel => exact ⟨k + 1, by omega, congrArg (Value.int .i64) (by omega), (show Below w.heap.size w x2 ∧ MapA encP Pa.n x2 w.heap.size (k + 1) ((l.take (k + 1)).foldl (putA Pa.n) []) from ⟨hb1.grown gr2 hb1.size (fun j hj => by cases hj; exact Nat.le_refl _), by rw [HTK.out]; exact hm2⟩)⟩
def kz0 : Kz := ⟨zs 24, rfl⟩
set_option maxRecDepth 100000 in
set_option maxHeartbeats 4000000 in
theorem risingP_calls (w : World) (b n : Nat) (L : List Pa) (h : MapA encP Pa.n w b n L) (hn : n ≤ 100000) (hL : L.length ≤ 100000) :
    Calls Tryz.prog 102 #[.map (some b)] w fun e w' => ∃ v, e = .returned v ∧ Own encP 88 w' w.heap.size v L ∧ Below w.heap.size w w' := by
  have hK := keysP_calls (some b) w
  have hS := sortedP_calls (w.alloc (.cells #[.map (some b)] 165)) w.heap.size b n L (by simp) (by rw [cell_of_row _ _ 0 _ _ _ (heap_alloc_new _ _)]; rfl) (h.alloc _) (by omega)
  have HA : Hid (Asc Pa.n L) := h.asc
  have HB : Hid (Below w.heap.size w (w.alloc (.cells #[.map (some b)] 165)) ∧ MapA encP Pa.n w b n L) := ⟨(Below.refl _ w).alloc (Nat.le_refl _) _, h⟩
  have hbl := h.lt
  clear h
  go_enter Tryz.func102, Tryz.ntmps102
  go_upto_region 2 with fail
  go_wp2_with (first
    | (go_at_call 129; refine hS.mono ?_; clear hS; rintro e w2 ⟨v, rfl, hv, b2⟩
       have sl2 := hv.slB
       obtain ⟨ad, cap, rfl, hcap, hmax, q1, q2⟩ := id sl2
       clear q1 q2
       rw [List.length_map] at hcap hmax ⊢)
    | (go_at_call 140; refine hK.mono ?_; clear hK; rintro e w1 ⟨rfl, rfl⟩))
  have HBW : Hid (Below w.heap.size w w2) := HB.out.1.trans (b2.mono HB.out.1.size)
  have HMW : Hid (MapA encP Pa.n w2 b n L) := HB.out.2.below HBW.out (Nat.le_refl _)
  have HI : Hid (∀ i (hi : i < (L.map Pa.kz).length), ∃ g off, ad = some ⟨g, off, none⟩ ∧ g < w2.heap.size ∧ w2.rangeAt g (off + i * 24) (encKz.c (L.map Pa.kz)[i])) := fun i hi => SlB.at sl2 i hi
  obtain ⟨N, hN⟩ : ∃ N : Nat, N = L.length := ⟨_, rfl⟩
  rw [← hN] at hcap hmax hL ⊢
  have HN : Hid (N = L.length) := hN
  have HST : Hid (Below w2.heap.size w2 w2 ∧ Own encP 88 w2 w2.heap.size (.slice none 0 0) (L.take 0)) := ⟨Below.refl _ _, Own.nil _ _ _ _⟩
  clear hN hv b2 sl2 HB
  go_loopg [3, 10] N (fun gg s3 i wr => ∃ k : Nat, k + gg = N ∧ i = .int .i64 (k : Int) ∧ Hid (Below w2.heap.size w2 wr ∧ Own encP 88 wr w2.heap.size s3 (L.take k)))
  case atStart => exact ⟨0, by omega, rfl, HST.out⟩
  case round =>
    obtain ⟨k, hkg, rfl, HE⟩ := hrel
    cases gk with
    | zero =>
      have hkN : k = N := by omega
      subst hkN
      go_wp2_with fail
      go_ret
      have h1 := HE.out
      rw [List.take_of_length_le (by have := HN.out; omega)] at h1
      exact ⟨_, rfl, h1.2.lower HBW.out.size, HBW.out.trans (h1.1.mono HBW.out.size)⟩
    | succ gg =>
      have hlt : k < N := by omega
      have hltI : (k : Int) < (N : Int) := by omega
      have hkl : k < L.length := by rw [← HN.out]; exact hlt
      obtain ⟨g0, off, rfl, hg0, hat⟩ := HI.out k (by rw [List.length_map]; exact hkl)
      rw [List.getElem_map] at hat
      have HR : Hid (wr.rangeAt g0 (off + k * 24) (encKz.c (L[k]).kz)) := range_same' hat (HE.out.1.block g0 hg0)
      have HTK : Hid (L.take (k + 1) = L.take k ++ [L[k]]) := List.take_succ_eq_append_getElem hkl
      have HLK : Hid ((look Pa.n L (L[k]).kz.n).getD pa0 = L[k]) := by
        show (look Pa.n L (L[k]).kz.n).getD pa0 = L[k]
        rw [show (L[k]).kz.n = Pa.n L[k] from rfl, look_mem Pa.n HA.out (List.getElem_mem hkl)]
        rfl
      have hlen : (L.take k).length = k := by simp; omega
      generalize L[k] = p at *
      generalize L.take k = L1 at *
      clear hat hkl
      go_upto_region 5 with (first
        | (refine load_el elK _ rfl g0 (off + k * 24) rfl rfl p.kz HR.out ?_)
        | (refine store_el elK rfl _ _ rfl wr.heap.size rfl p.kz rfl kz0 (InB.new encKz _ wr kz0 _ rfl) ?_; intro x1 hu1 tx1 sx1))
      have BX : Below wr.heap.size wr x1 := ((Below.refl _ wr).alloc (Nat.le_refl _) _).trans (tx1.below (by simp) (Nat.le_refl _) (by simp))
      have hb1 : Below w2.heap.size w2 x1 := HE.out.1.trans (BX.mono HE.out.1.size)
      have ho1 := HE.out.2.below BX
      have hlk := (HMW.out.below hb1 (Nat.le_refl _)).look1 tyP p.kz
      rw [HLK.out] at hlk
      have hlk' : (Instr.lookup 165 (.map (some b)) (.agg (encKz.c p.kz).toArray) false).run Tryz.prog x1 = .ok (.agg (encP.c p).toArray) x1 := hlk
      have hlu := HE.out.2.lt
      clear HE HR tx1 sx1 BX hlk
      generalize wr.heap.size = q at *
      go_wp2_with (first
        | (refine load_el elK _ rfl q 0 rfl rfl p.kz hu1.range ?_)
        | (refine build_el1 rowP rfl _ rfl p rfl (by decide) ?_; intro x2 ho2 b2 s2 h2
           have hb2 : Below w2.heap.size w2 x2 := hb1.trans (b2.mono hb1.size)
           have hs2 := ho1.below b2)
        | (at_builtin; refine append_one rowP rfl _ _ rfl w2.heap.size _ L1 rfl hs2 x1.heap.size p rfl (0, 0) _ h2 (by omega) (by decide) (by have := hb2.size; omega) ?_
           intro g cap x3 ho3 gr3 nr3 lt3))
      go_roundg gg
      case measure => omega
      case rel => exact ⟨k + 1, by omega, congrArg (Value.int .i64) (by omega), (show Below w2.heap.size w2 x3 ∧ Own encP 88 x3 w2.heap.size _ (L.take (k + 1)) from ⟨hb2.grown gr3 hb2.size (fun j hj => (hlu j hj).1), by rw [HTK.out]; rw [hlen] at ho3; exact ho3⟩)⟩
set_option maxRecDepth 100000 in
set_option maxHeartbeats 4000000 in
theorem risingC_calls (w : World) (b n : Nat) (L : List Ch) (h : MapA encC Ch.n w b n L) (hn : n ≤ 100000) (hL : L.length ≤ 100000) :
    Calls Tryz.prog 94 #[.map (some b)] w fun e w' => ∃ v, e = .returned v ∧ Own encC 64 w' w.heap.size v L ∧ Below w.heap.size w w' := by
  have hK := keysC_calls (some b) w
  have hS := sortedC_calls (w.alloc (.cells #[.map (some b)] 71)) w.heap.size b n L (by simp) (by rw [cell_of_row _ _ 0 _ _ _ (heap_alloc_new _ _)]; rfl) (h.alloc _) (by omega)
  have HA : Hid (Asc Ch.n L) := h.asc
  have HB : Hid (Below w.heap.size w (w.alloc (.cells #[.map (some b)] 71)) ∧ MapA encC Ch.n w b n L) := ⟨(Below.refl _ w).alloc (Nat.le_refl _) _, h⟩
  have hbl := h.lt
  clear h
  go_enter Tryz.func94, Tryz.ntmps94
  go_upto_region 2 with fail
  go_wp2_with (first
    | (go_at_call 129; refine hS.mono ?_; clear hS; rintro e w2 ⟨v, rfl, hv, b2⟩
       have sl2 := hv.slB
       obtain ⟨ad, cap, rfl, hcap, hmax, q1, q2⟩ := id sl2
       clear q1 q2
       rw [List.length_map] at hcap hmax ⊢)
    | (go_at_call 130; refine hK.mono ?_; clear hK; rintro e w1 ⟨rfl, rfl⟩))
  have HBW : Hid (Below w.heap.size w w2) := HB.out.1.trans (b2.mono HB.out.1.size)
  have HMW : Hid (MapA encC Ch.n w2 b n L) := HB.out.2.below HBW.out (Nat.le_refl _)
  have HI : Hid (∀ i (hi : i < (L.map Ch.kz).length), ∃ g off, ad = some ⟨g, off, none⟩ ∧ g < w2.heap.size ∧ w2.rangeAt g (off + i * 24) (encKz.c (L.map Ch.kz)[i])) := fun i hi => SlB.at sl2 i hi
  obtain ⟨N, hN⟩ : ∃ N : Nat, N = L.length := ⟨_, rfl⟩
  rw [← hN] at hcap hmax hL ⊢
  have HN : Hid (N = L.length) := hN
  have HST : Hid (Below w2.heap.size w2 w2 ∧ Own encC 64 w2 w2.heap.size (.slice none 0 0) (L.take 0)) := ⟨Below.refl _ _, Own.nil _ _ _ _⟩
  clear hN hv b2 sl2 HB
  go_loopg [3, 10] N (fun gg s3 i wr => ∃ k : Nat, k + gg = N ∧ i = .int .i64 (k : Int) ∧ Hid (Below w2.heap.size w2 wr ∧ Own encC 64 wr w2.heap.size s3 (L.take k)))
  case atStart => exact ⟨0, by omega, rfl, HST.out⟩
  case round =>
    obtain ⟨k, hkg, rfl, HE⟩ := hrel
    cases gk with
    | zero =>
      have hkN : k = N := by omega
      subst hkN
      go_wp2_with fail
      go_ret
      have h1 := HE.out
      rw [List.take_of_length_le (by have := HN.out; omega)] at h1
      exact ⟨_, rfl, h1.2.lower HBW.out.size, HBW.out.trans (h1.1.mono HBW.out.size)⟩
    | succ gg =>
      have hlt : k < N := by omega
      have hltI : (k : Int) < (N : Int) := by omega
      have hkl : k < L.length := by rw [← HN.out]; exact hlt
      obtain ⟨g0, off, rfl, hg0, hat⟩ := HI.out k (by rw [List.length_map]; exact hkl)
      rw [List.getElem_map] at hat
      have HR : Hid (wr.rangeAt g0 (off + k * 24) (encKz.c (L[k]).kz)) := range_same' hat (HE.out.1.block g0 hg0)
      have HTK : Hid (L.take (k + 1) = L.take k ++ [L[k]]) := List.take_succ_eq_append_getElem hkl
      have HLK : Hid ((look Ch.n L (L[k]).kz.n).getD ch0 = L[k]) := by
        show (look Ch.n L (L[k]).kz.n).getD ch0 = L[k]
        rw [show (L[k]).kz.n = Ch.n L[k] from rfl, look_mem Ch.n HA.out (List.getElem_mem hkl)]
        rfl
      have hlen : (L.take k).length = k := by simp; omega
      generalize L[k] = p at *
      generalize L.take k = L1 at *
      clear hat hkl
      go_upto_region 5 with (first
        | (refine load_el elK _ rfl g0 (off + k * 24) rfl rfl p.kz HR.out ?_)
        | (refine store_el elK rfl _ _ rfl wr.heap.size rfl p.kz rfl kz0 (InB.new encKz _ wr kz0 _ rfl) ?_; intro x1 hu1 tx1 sx1))
      have BX : Below wr.heap.size wr x1 := ((Below.refl _ wr).alloc (Nat.le_refl _) _).trans (tx1.below (by simp) (Nat.le_refl _) (by simp))
      have hb1 : Below w2.heap.size w2 x1 := HE.out.1.trans (BX.mono HE.out.1.size)
      have ho1 := HE.out.2.below BX
      have hlk := (HMW.out.below hb1 (Nat.le_refl _)).look1 tyC p.kz
      rw [HLK.out] at hlk
      have hlk' : (Instr.lookup 71 (.map (some b)) (.agg (encKz.c p.kz).toArray) false).run Tryz.prog x1 = .ok (.agg (encC.c p).toArray) x1 := hlk
      have hlu := HE.out.2.lt
      clear HE HR tx1 sx1 BX hlk
      generalize wr.heap.size = q at *
      go_wp2_with (first
        | (refine load_el elK _ rfl q 0 rfl rfl p.kz hu1.range ?_)
        | (refine build_el1 rowC rfl _ rfl p rfl (by decide) ?_; intro x2 ho2 b2 s2 h2
           have hb2 : Below w2.heap.size w2 x2 := hb1.trans (b2.mono hb1.size)
           have hs2 := ho1.below b2)
        | (at_builtin; refine append_one rowC rfl _ _ rfl w2.heap.size _ L1 rfl hs2 x1.heap.size p rfl (0, 0) _ h2 (by omega) (by decide) (by have := hb2.size; omega) ?_
           intro g cap x3 ho3 gr3 nr3 lt3))
      go_roundg gg
      case measure => omega
      case rel => exact ⟨k + 1, by omega, congrArg (Value.int .i64) (by omega), (show Below w2.heap.size w2 x3 ∧ Own encC 64 x3 w2.heap.size _ (L.take (k + 1)) from ⟨hb2.grown gr3 hb2.size (fun j hj => (hlu j hj).1), by rw [HTK.out]; rw [hlen] at ho3; exact ho3⟩)⟩
end Go.Proofs.YtgicanpggndbeaaGreat
