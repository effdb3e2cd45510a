/- The statements' own cuts. -/
import Derived.Test.YtbodbdcmkicmaaaDlF
namespace Go.Proofs.Ytbodbdcmkicmaaa
set_option linter.unusedVariables false
open Go.RowKit

theorem str_take40 (v : List UInt8) : (str v).extract 0 (min ((str v).size : Int) 40).toNat = str (v.take 40) := by
  have h : (min ((str v).size : Int) 40).toNat = min v.length 40 := by rw [str_size]; omega
  rw [h]
  apply ByteArray.ext
  apply Array.ext'
  rw [ByteArray.data_extract]
  simp only [Array.toList_extract, str_list, List.extract_eq_take_drop, List.drop_zero, Nat.sub_zero]
  by_cases q : v.length ≤ 40
  · rw [Nat.min_eq_left q, List.take_length, List.take_of_length_le q]
  · rw [Nat.min_eq_right (by omega)]
/-- A value cut, as the statements cut it. -/
def cutP1 (p : Pa) : Pa := ⟨p.k, p.h, p.v.take 40⟩
def cutP (l : List Pa) : List Pa := (l.take 40).map cutP1
theorem cutP_len (l : List Pa) : (cutP l).length ≤ 40 := by simp [cutP]; omega
theorem cutP_take (l : List Pa) (k : Nat) (h : k < l.length) : (l.take (k + 1)).map cutP1 = (l.take k).map cutP1 ++ [cutP1 l[k]] := by
  rw [List.take_succ_eq_append_getElem h, List.map_append]
  rfl
theorem Pa.set_cut {w : World} {q : Nat} {c : Pa} (h : InB encP 48 w q c) : InB encP 48 (w.setCell ⟨q, 24, none⟩ (.string (str (c.v.take 40)))) q (cutP1 c) := by
  constructor
  rw [setCell_eq_setRow w q 24 _ _ _ _ h.blk, setRow_heap w q _ _ _ _ h.blk]
  have hk : (bc c.k).length = 24 := by rw [bc_length, c.h]
  congr 2
  show (pcd c).toArray.setIfInBounds 24 _ = (pcd (cutP1 c)).toArray
  simp only [pcd, List.setIfInBounds_toArray]
  rw [List.set_append_right _ _ (by omega), hk]
  rfl
set_option maxRecDepth 100000 in
set_option maxHeartbeats 4000000 in
theorem cutP_calls (w : World) (u : Value) (l : List Pa) (h : Sl encP w u l) :
    Calls Try.prog 10 #[u] w fun e w' => ∃ v, e = .returned v ∧ Own encP 48 w' w.heap.size v (cutP l) ∧ Below w.heap.size w w' := by
  have hl' := h
  obtain ⟨ad, cap, rfl, hcap, hmax, _, _⟩ := hl'
  have HI : Hid (∀ i (hi : i < l.length), ∃ g off, ad = some ⟨g, off, none⟩ ∧ g < w.heap.size ∧ w.rangeAt g (off + i * 25) (encP.c l[i])) := fun i hi => SlB.at h i hi
  obtain ⟨N, hN⟩ : ∃ N : Nat, N = l.length := ⟨_, rfl⟩
  rw [← hN] at hcap hmax ⊢
  have HN : Hid (N = l.length) := hN
  have HST : Hid (Below w.heap.size w w ∧ Own encP 48 w w.heap.size (.slice none 0 0) ((l.take 0).map cutP1)) := ⟨Below.refl _ _, Own.nil _ _ _ _⟩
  obtain ⟨M, hM⟩ : ∃ M : Nat, M = min N 40 := ⟨_, rfl⟩
  have HM : Hid (M = min N 40) := hM
  have hMN : M ≤ N := by omega
  have hM40 : M ≤ 40 := by omega
  clear hN h hM
  go_enter Try.func10, Try.ntmps10
  go_wp2
  go_loopg [3, 4] M (fun gg s3 i wr => ∃ k : Nat, k + gg = M ∧ i = .int .i64 (k : Int) ∧ Hid (Below w.heap.size w wr ∧ Own encP 48 wr w.heap.size s3 ((l.take k).map cutP1)))
  case atStart => exact ⟨0, by omega, rfl, HST.out⟩
  case round =>
    obtain ⟨k, hkg, rfl, HE⟩ := hrel
    clear HST
    cases gk with
    | zero =>
      have hkM : k = M := by omega
      subst hkM
      have hfin : cutP l = (l.take k).map cutP1 := by
        unfold cutP
        have h1 := HN.out
        have h2 := HM.out
        rcases Nat.le_total N 40 with q | q
        · rw [List.take_of_length_le (by omega), List.take_of_length_le (by omega)]
        · rw [show k = 40 by omega]
      have HF : Hid (cutP l = (l.take k).map cutP1) := hfin
      clear hfin
      rcases Nat.lt_or_ge k N with q | q
      · have hk40 : (k : Int) = 40 := by have := HM.out; omega
        have h1 : (k : Int) < (N : Int) := by omega
        have h2 : ¬ (k : Int) < 40 := by omega
        clear hk40
        go_wp2_with fail
        go_ret
        exact ⟨_, rfl, by rw [HF.out]; exact HE.out.2, HE.out.1⟩
      · have h1 : ¬ (k : Int) < (N : Int) := by omega
        go_wp2_with fail
        go_ret
        exact ⟨_, rfl, by rw [HF.out]; exact HE.out.2, HE.out.1⟩
    | succ gg =>
      have hlt : k < M := by omega
      have hltI : (k : Int) < (N : Int) := by omega
      have hlt40 : (k : Int) < 40 := by omega
      have hkl : k < l.length := by rw [← HN.out]; omega
      obtain ⟨g0, off, rfl, hg0, hat⟩ := HI.out k hkl
      have HR : Hid (wr.rangeAt g0 (off + k * 25) (encP.c l[k])) := range_same' hat (HE.out.1.block g0 hg0)
      have HTK : Hid ((l.take (k + 1)).map cutP1 = (l.take k).map cutP1 ++ [cutP1 l[k]]) := cutP_take l k hkl
      have hlen : ((l.take k).map cutP1).length = k := by simp; omega
      generalize l[k] = p at *
      generalize (l.take k).map cutP1 = L1 at *
      clear hat hkl
      go_upto_region 6 with (first
        | (refine load_el elP _ rfl g0 (off + k * 25) rfl rfl p HR.out ?_)
        | (refine store_el elP rfl _ _ rfl wr.heap.size rfl p rfl pa0 (InB.new encP _ wr pa0 _ rfl) ?_; intro x1 hu1 tx1 sx1))
      have BX : Below wr.heap.size wr x1 := ((Below.refl _ wr).alloc (Nat.le_refl _) _).trans (tx1.below (by simp) (Nat.le_refl _) (by simp))
      have hb1 : Below w.heap.size w x1 := HE.out.1.trans (BX.mono HE.out.1.size)
      have ho1 := HE.out.2.below BX
      have hlu := HE.out.2.lt
      have hqw := HE.out.1.size
      have cv := range_vP hu1.range
      simp only [Nat.zero_add] at cv
      have ff : x1.frozen? ⟨wr.heap.size, 24, none⟩ = false := by simp [World.frozen?, hu1.blk]
      have hu2 := Pa.set_cut hu1
      rw [← str_take40] at hu2
      have hb2 : Below w.heap.size w (x1.setCell ⟨wr.heap.size, 24, none⟩ (.string ((str p.v).extract 0 (min ((str p.v).size : Int) 40).toNat))) := hb1.setCell (by simp; omega) _
      have ho2 : Own encP 48 (x1.setCell ⟨wr.heap.size, 24, none⟩ (.string ((str p.v).extract 0 (min ((str p.v).size : Int) 40).toNat))) w.heap.size u3 L1 := ho1.same fun g hg => Below.heap_setCell _ _ _ _ (by have := (hlu g hg).2; simp; omega)
      clear HE HR tx1 sx1 BX
      generalize wr.heap.size = q at *
      go_upto_region 7 with fail
      generalize x1.setCell ⟨q, 24, none⟩ (.string ((str p.v).extract 0 (min ((str p.v).size : Int) 40).toNat)) = x2 at *
      clear cv ff hu1 hb1 ho1
      go_wp2_with (first
        | (refine load_el elP _ rfl q 0 rfl rfl (cutP1 p) hu2.range ?_)
        | (refine build_el1 rowP rfl _ rfl (cutP1 p) rfl (by decide) ?_; intro x3 ho3 b3 s3 h3
           have hb3 : Below w.heap.size w x3 := hb2.trans (b3.mono hb2.size)
           have hs3 := ho2.below b3)
        | (at_builtin; refine append_one rowP rfl _ _ rfl w.heap.size _ L1 rfl hs3 x2.heap.size (cutP1 p) rfl (0, 0) _ h3 (by omega) (by decide) (by have := hb3.size; omega) ?_
           intro g cap x4 ho4 gr4 nr4 lt4))
      go_roundg gg
      case measure => omega
      case rel => exact ⟨k + 1, by omega, congrArg (Value.int .i64) (by omega), (show Below w.heap.size w x4 ∧ Own encP 48 x4 w.heap.size _ ((l.take (k + 1)).map cutP1) from ⟨hb3.grown gr4 hb3.size (fun i hi => (hlu i hi).1), by rw [HTK.out]; rw [hlen] at ho4; exact ho4⟩)⟩
/-- A value cut, as the statements cut it. -/
def cutC1 (p : Ch) : Ch := ⟨p.k, p.h, p.v.take 40, p.g⟩
def cutC (l : List Ch) : List Ch := (l.take 40).map cutC1
theorem cutC_len (l : List Ch) : (cutC l).length ≤ 40 := by simp [cutC]; omega
theorem cutC_take (l : List Ch) (k : Nat) (h : k < l.length) : (l.take (k + 1)).map cutC1 = (l.take k).map cutC1 ++ [cutC1 l[k]] := by
  rw [List.take_succ_eq_append_getElem h, List.map_append]
  rfl
theorem Ch.set_cut {w : World} {q : Nat} {c : Ch} (h : InB encC 43 w q c) : InB encC 43 (w.setCell ⟨q, 24, none⟩ (.string (str (c.v.take 40)))) q (cutC1 c) := by
  constructor
  rw [setCell_eq_setRow w q 24 _ _ _ _ h.blk, setRow_heap w q _ _ _ _ h.blk]
  have hk : (bc c.k).length = 24 := by rw [bc_length, c.h]
  congr 2
  show (ccd c).toArray.setIfInBounds 24 _ = (ccd (cutC1 c)).toArray
  simp only [ccd, List.setIfInBounds_toArray]
  rw [List.set_append_right _ _ (by omega), hk]
  rfl
set_option maxRecDepth 100000 in
set_option maxHeartbeats 4000000 in
theorem cutC_calls (w : World) (u : Value) (l : List Ch) (h : Sl encC w u l) :
    Calls Try.prog 11 #[u] w fun e w' => ∃ v, e = .returned v ∧ Own encC 43 w' w.heap.size v (cutC l) ∧ Below w.heap.size w w' := by
  have hl' := h
  obtain ⟨ad, cap, rfl, hcap, hmax, _, _⟩ := hl'
  have HI : Hid (∀ i (hi : i < l.length), ∃ g off, ad = some ⟨g, off, none⟩ ∧ g < w.heap.size ∧ w.rangeAt g (off + i * 26) (encC.c l[i])) := fun i hi => SlB.at h i hi
  obtain ⟨N, hN⟩ : ∃ N : Nat, N = l.length := ⟨_, rfl⟩
  rw [← hN] at hcap hmax ⊢
  have HN : Hid (N = l.length) := hN
  have HST : Hid (Below w.heap.size w w ∧ Own encC 43 w w.heap.size (.slice none 0 0) ((l.take 0).map cutC1)) := ⟨Below.refl _ _, Own.nil _ _ _ _⟩
  obtain ⟨M, hM⟩ : ∃ M : Nat, M = min N 40 := ⟨_, rfl⟩
  have HM : Hid (M = min N 40) := hM
  have hMN : M ≤ N := by omega
  have hM40 : M ≤ 40 := by omega
  clear hN h hM
  go_enter Try.func11, Try.ntmps11
  go_wp2
  go_loopg [3, 4] M (fun gg s3 i wr => ∃ k : Nat, k + gg = M ∧ i = .int .i64 (k : Int) ∧ Hid (Below w.heap.size w wr ∧ Own encC 43 wr w.heap.size s3 ((l.take k).map cutC1)))
  case atStart => exact ⟨0, by omega, rfl, HST.out⟩
  case round =>
    obtain ⟨k, hkg, rfl, HE⟩ := hrel
    clear HST
    cases gk with
    | zero =>
      have hkM : k = M := by omega
      subst hkM
      have hfin : cutC l = (l.take k).map cutC1 := by
        unfold cutC
        have h1 := HN.out
        have h2 := HM.out
        rcases Nat.le_total N 40 with q | q
        · rw [List.take_of_length_le (by omega), List.take_of_length_le (by omega)]
        · rw [show k = 40 by omega]
      have HF : Hid (cutC l = (l.take k).map cutC1) := hfin
      clear hfin
      rcases Nat.lt_or_ge k N with q | q
      · have hk40 : (k : Int) = 40 := by have := HM.out; omega
        have h1 : (k : Int) < (N : Int) := by omega
        have h2 : ¬ (k : Int) < 40 := by omega
        clear hk40
        go_wp2_with fail
        go_ret
        exact ⟨_, rfl, by rw [HF.out]; exact HE.out.2, HE.out.1⟩
      · have h1 : ¬ (k : Int) < (N : Int) := by omega
        go_wp2_with fail
        go_ret
        exact ⟨_, rfl, by rw [HF.out]; exact HE.out.2, HE.out.1⟩
    | succ gg =>
      have hlt : k < M := by omega
      have hltI : (k : Int) < (N : Int) := by omega
      have hlt40 : (k : Int) < 40 := by omega
      have hkl : k < l.length := by rw [← HN.out]; omega
      obtain ⟨g0, off, rfl, hg0, hat⟩ := HI.out k hkl
      have HR : Hid (wr.rangeAt g0 (off + k * 26) (encC.c l[k])) := range_same' hat (HE.out.1.block g0 hg0)
      have HTK : Hid ((l.take (k + 1)).map cutC1 = (l.take k).map cutC1 ++ [cutC1 l[k]]) := cutC_take l k hkl
      have hlen : ((l.take k).map cutC1).length = k := by simp; omega
      generalize l[k] = p at *
      generalize (l.take k).map cutC1 = L1 at *
      clear hat hkl
      go_upto_region 6 with (first
        | (refine load_el elC _ rfl g0 (off + k * 26) rfl rfl p HR.out ?_)
        | (refine store_el elC rfl _ _ rfl wr.heap.size rfl p rfl ch0 (InB.new encC _ wr ch0 _ rfl) ?_; intro x1 hu1 tx1 sx1))
      have BX : Below wr.heap.size wr x1 := ((Below.refl _ wr).alloc (Nat.le_refl _) _).trans (tx1.below (by simp) (Nat.le_refl _) (by simp))
      have hb1 : Below w.heap.size w x1 := HE.out.1.trans (BX.mono HE.out.1.size)
      have ho1 := HE.out.2.below BX
      have hlu := HE.out.2.lt
      have hqw := HE.out.1.size
      have cv := (range_vC hu1.range).1
      simp only [Nat.zero_add] at cv
      have ff : x1.frozen? ⟨wr.heap.size, 24, none⟩ = false := by simp [World.frozen?, hu1.blk]
      have hu2 := Ch.set_cut hu1
      rw [← str_take40] at hu2
      have hb2 : Below w.heap.size w (x1.setCell ⟨wr.heap.size, 24, none⟩ (.string ((str p.v).extract 0 (min ((str p.v).size : Int) 40).toNat))) := hb1.setCell (by simp; omega) _
      have ho2 : Own encC 43 (x1.setCell ⟨wr.heap.size, 24, none⟩ (.string ((str p.v).extract 0 (min ((str p.v).size : Int) 40).toNat))) w.heap.size u3 L1 := ho1.same fun g hg => Below.heap_setCell _ _ _ _ (by have := (hlu g hg).2; simp; omega)
      clear HE HR tx1 sx1 BX
      generalize wr.heap.size = q at *
      go_upto_region 7 with fail
      generalize x1.setCell ⟨q, 24, none⟩ (.string ((str p.v).extract 0 (min ((str p.v).size : Int) 40).toNat)) = x2 at *
      clear cv ff hu1 hb1 ho1
      go_wp2_with (first
        | (refine load_el elC _ rfl q 0 rfl rfl (cutC1 p) hu2.range ?_)
        | (refine build_el1 rowC rfl _ rfl (cutC1 p) rfl (by decide) ?_; intro x3 ho3 b3 s3 h3
           have hb3 : Below w.heap.size w x3 := hb2.trans (b3.mono hb2.size)
           have hs3 := ho2.below b3)
        | (at_builtin; refine append_one rowC rfl _ _ rfl w.heap.size _ L1 rfl hs3 x2.heap.size (cutC1 p) rfl (0, 0) _ h3 (by omega) (by decide) (by have := hb3.size; omega) ?_
           intro g cap x4 ho4 gr4 nr4 lt4))
      go_roundg gg
      case measure => omega
      case rel => exact ⟨k + 1, by omega, congrArg (Value.int .i64) (by omega), (show Below w.heap.size w x4 ∧ Own encC 43 x4 w.heap.size _ ((l.take (k + 1)).map cutC1) from ⟨hb3.grown gr4 hb3.size (fun i hi => (hlu i hi).1), by rw [HTK.out]; rw [hlen] at ho4; exact ho4⟩)⟩
end Go.Proofs.Ytbodbdcmkicmaaa
