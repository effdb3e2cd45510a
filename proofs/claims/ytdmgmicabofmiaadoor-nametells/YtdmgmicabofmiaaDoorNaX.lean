/- The document's own Split, Below. -/
import Derived.Test.YtdmgmicabofmiaaDoorNaW
namespace Go.Proofs.YtdmgmicabofmiaaDoor
set_option linter.unusedVariables false
open Go.RowKit

theorem rowS : RowTy Tryd.prog encS 22 9 16 := ⟨Tryd.underlying22, ⟨.string ByteArray.empty, by kernel_rfl, rfl⟩, by decide⟩
/-- What stands while a path is cut: up to I, from F on, the names done. -/
def CutAt (L : List UInt8) (I F : Nat) (done : List ByteArray) : Prop :=
  done.length ≤ I ∧ (bl done).all rightP = true ∧ ((I ≤ L.length ∧ 1 ≤ F ∧ F ≤ I ∧ (47 : UInt8) ∉ (L.take I).drop F ∧ segs (L.drop 1) = bl done ++ segs (L.drop F)) ∨ (I = L.length + 1 ∧ segs (L.drop 1) = bl done))
theorem take_drop_succ (L : List UInt8) (I F : Nat) (hF : F ≤ I) (hI : I < L.length) : (L.take (I + 1)).drop F = (L.take I).drop F ++ [L[I]] := by
  rw [List.take_add_one, List.getElem?_eq_getElem hI, Option.toList_some, List.drop_append_of_le_length (by simp; omega)]
theorem cut_on {L : List UInt8} {I F : Nat} {done : List ByteArray} (h : CutAt L I F done) (hI : I < L.length) (h47 : L[I] ≠ 47) : CutAt L (I + 1) F done := by
  obtain ⟨h1, h2, ⟨a1, a2, a3, a4, a5⟩ | ⟨a1, a2⟩⟩ := h
  · refine ⟨by omega, h2, .inl ⟨by omega, a2, by omega, ?_, a5⟩⟩
    rw [take_drop_succ L I F a3 hI]
    simp only [List.mem_append, List.mem_cons, List.not_mem_nil, or_false, not_or]
    exact ⟨a4, fun e => h47 e.symm⟩
  · omega
theorem cut_slash {L : List UInt8} {I F : Nat} {done : List ByteArray} (h : CutAt L I F done) (hI : I < L.length) (h47 : L[I] = 47) (x : ByteArray) (hx : x.data.toList = (L.take I).drop F) :
    x.data.toList ∈ segs (L.drop 1) ∧ (rightP x.data.toList = true → CutAt L (I + 1) (I + 1) (done ++ [x])) := by
  obtain ⟨h1, h2, ⟨a1, a2, a3, a4, a5⟩ | ⟨a1, a2⟩⟩ := h
  · have e : L.drop F = (L.take I).drop F ++ 47 :: L.drop (I + 1) := by
      conv => lhs; rw [← List.take_append_drop I L]
      rw [List.drop_append_of_le_length (by simp; omega), List.drop_eq_getElem_cons hI, h47]
    have hs : segs (L.drop 1) = bl done ++ x.data.toList :: segs (L.drop (I + 1)) := by
      rw [a5, e, segs_append, segs_flat _ a4, hx]; rfl
    refine ⟨by rw [hs]; simp, fun hr => ⟨by simp; omega, ?_, .inl ⟨by omega, by omega, Nat.le_refl _, ?_, ?_⟩⟩⟩
    · rw [show bl (done ++ [x]) = bl done ++ [x.data.toList] by simp [bl], List.all_append, h2]; simp [hr]
    · rw [List.drop_eq_nil_of_le (by simp; omega)]; simp
    · rw [hs]; simp [bl]
  · omega
theorem cut_end {L : List UInt8} {F : Nat} {done : List ByteArray} (h : CutAt L L.length F done) (x : ByteArray) (hx : x.data.toList = (L.take L.length).drop F) :
    x.data.toList ∈ segs (L.drop 1) ∧ (rightP x.data.toList = true → CutAt L (L.length + 1) (L.length + 1) (done ++ [x])) := by
  obtain ⟨h1, h2, ⟨a1, a2, a3, a4, a5⟩ | ⟨a1, a2⟩⟩ := h
  · rw [List.take_length] at a4 hx
    have hs : segs (L.drop 1) = bl done ++ [x.data.toList] := by rw [a5, segs_flat _ a4, hx]
    refine ⟨by rw [hs]; simp, fun hr => ⟨by simp; omega, ?_, .inr ⟨rfl, ?_⟩⟩⟩
    · rw [show bl (done ++ [x]) = bl done ++ [x.data.toList] by simp [bl], List.all_append, h2]; simp [hr]
    · rw [hs]; simp [bl]
  · omega
theorem cut_le {L : List UInt8} {I F : Nat} {done : List ByteArray} (h : CutAt L I F done) (hI : I ≤ L.length) : 1 ≤ F ∧ F ≤ I := by
  obtain ⟨h1, h2, ⟨a1, a2, a3, a4, a5⟩ | ⟨a1, a2⟩⟩ := h
  · exact ⟨a2, a3⟩
  · omega
theorem ext_data (s : ByteArray) (a b : Nat) : (s.extract a b).data.toList = (s.data.toList.take b).drop a := by
  rw [Lib.extract_data, List.drop_take]

set_option maxRecDepth 1000000 in
set_option maxHeartbeats 4000000 in
theorem rsplit_calls (s : ByteArray) (w : World) : Calls Tryd.prog 11 #[.string s] w fun e w' => SplitTo w s e w' := by
  go_enter Tryd.func11, Tryd.ntmps11
  cases hroot : (s.toList == [47]) with
  | true =>
    have HS : Hid (splitP s.data.toList = some []) := (show _ = _ by rw [beq_str] at hroot; rw [beq_iff_eq.1 hroot]; exact splitP_root)
    go_wp2_with fail
    go_ret2
    exact ⟨Below.refl _ _, .inl ⟨_, [], rfl, SlB.nil _ _ _, HS.out⟩⟩
  | false =>
  have hne : s.data.toList ≠ [47] := fun e => by rw [beq_str, e] at hroot; cases hroot
  by_cases h2 : s.size < 2
  · have HS : Hid (splitP s.data.toList = none) := (show _ = _ by
      rw [splitP.eq_def, if_neg hne]
      have hl := toList_size s
      cases hs : s.data.toList with
      | nil => rfl
      | cons c r =>
        dsimp only
        rw [if_neg]
        rintro ⟨rfl, _⟩
        rw [hs] at hl hne
        simp only [List.length_cons] at hl
        have : r = [] := List.eq_nil_of_length_eq_zero (by omega)
        rw [this] at hne
        exact hne rfl)
    have h2I : (s.size : Int) < 2 := by omega
    clear hne h2
    go_wp2_with fail
    go_ret2
    exact ⟨Below.refl _ _, .inr ⟨rfl, HS.out⟩⟩
  have h2I : ¬ (s.size : Int) < 2 := by omega
  by_cases h3 : s.size > 200
  · have HS : Hid (splitP s.data.toList = none) := (show _ = _ by
      rw [splitP.eq_def, if_neg hne]
      have hl := toList_size s
      cases hs : s.data.toList with
      | nil => rfl
      | cons c r =>
        dsimp only
        rw [if_neg]
        rintro ⟨_, h, _⟩
        rw [hs] at hl
        omega)
    have h3I : (s.size : Int) > 200 := by omega
    clear hne h2 h3
    go_wp2_with fail
    go_ret2
    exact ⟨Below.refl _ _, .inr ⟨rfl, HS.out⟩⟩
  have h3I : ¬ (s.size : Int) > 200 := by omega
  obtain ⟨c, r, hL⟩ : ∃ c r, s.data.toList = c :: r := by
    cases hs : s.data.toList with
    | nil => have := toList_size s; rw [hs] at this; simp at this; omega
    | cons c r => exact ⟨c, r, rfl⟩
  have hix : ∀ y, (Instr.index 9 (.string s) (.int .i64 0)).run Tryd.prog y = .ok (.int .u8 (c.toNat : Int)) y := fun y => idx_at s 0 c (by rw [hL]; rfl) y
  obtain ⟨N, hN⟩ : ∃ N, s.size = N := ⟨_, rfl⟩
  have HN : Hid (s.data.toList.length = N) := (show _ = _ by rw [toList_size, hN])
  rw [hN] at h2I h3I
  by_cases h47 : c = 47
  · subst h47
    have hc : ((((47 : UInt8).toNat : Nat) : Int) == 47) = true := rfl
    have hrn : r ≠ [] := fun e => hne (by rw [hL, e])
    have HSP : Hid (splitP s.data.toList = if (segs (s.data.toList.drop 1)).all rightP = true then some (segs (s.data.toList.drop 1)) else none) := (show _ = _ by
      have hl : (47 :: r : List UInt8).length ≤ 200 := by rw [← hL, toList_size]; omega
      rw [hL, splitP_mk hrn, List.drop_one, List.tail_cons]
      by_cases hq : (segs r).all rightP = true
      · rw [if_pos ⟨hl, hq⟩, if_pos hq]
      · rw [if_neg (fun h => hq h.2), if_neg hq])
    replace hix : ∀ y, (Instr.index 9 (.string s) (.int .i64 0)).run Tryd.prog y = .ok (.int .u8 47) y := hix
    have HC0 : Hid (CutAt s.data.toList 1 1 []) := (show CutAt _ _ _ _ from ⟨Nat.zero_le _, rfl, .inl ⟨by rw [HN.out]; omega, Nat.le_refl _, Nat.le_refl _, by rw [List.drop_eq_nil_of_le (by simp only [List.length_take]; omega)]; simp, rfl⟩⟩)
    have HO0 : Hid (Own encS 9 w w.heap.size (.slice none 0 0) []) := Own.nil _ _ _ _
    have hN200 : N ≤ 200 := by omega
    have hN2 : 2 ≤ N := by omega
    clear hL hrn hne hc h2 h3
    go_wp2_with fail
    clear h2I h3I hix
    go_loopg [4, 5, 6] (N + 1) (fun g v f i wr => ∃ (I F : Nat) (done : List ByteArray), I + g = N + 1 + 1 ∧ 1 ≤ I ∧ i = .int .i64 (I : Int) ∧ f = .int .i64 (F : Int) ∧ F ≤ N + 1 ∧ Hid (Below w.heap.size w wr ∧ Own encS 9 wr w.heap.size v done ∧ CutAt s.data.toList I F done))
    case atStart => exact ⟨1, 1, [], by omega, Nat.le_refl _, rfl, rfl, by omega, ⟨Below.refl _ _, HO0.out, HC0.out⟩⟩
    case round =>
      obtain ⟨I, F, done, hIg, hI1, rfl, rfl, hFN, HW⟩ := hrel
      clear HC0 HO0
      by_cases hIN : I ≤ N
      · have hII : (I : Int) ≤ (N : Int) := by omega
        have hI0 : (0 : Int) ≤ (I : Int) := by omega
        have hIb : (N : Int) ≤ 200 := by omega
        obtain ⟨hF1, hFI⟩ := cut_le HW.out.2.2 (by rw [HN.out]; exact hIN)
        have hFII : (F : Int) ≤ (I : Int) := by omega
        have hF0 : (0 : Int) ≤ (F : Int) := by omega
        have hbw := HW.out.1
        have how := HW.out.2.1
        have hdl : done.length ≤ 300 := by have := HW.out.2.2.1; omega
        have HLT : Hid (∀ j, u4.ownBlock = some j → w.heap.size ≤ j ∧ j < wr.heap.size) := how.lt
        have HC : Hid (CutAt s.data.toList I F done) := HW.out.2.2
        obtain ⟨x, hx⟩ : ∃ x, s.extract F I = x := ⟨_, rfl⟩
        have HXD : Hid (x.data.toList = (s.data.toList.take I).drop F) := (show _ = _ by rw [← hx, ext_data])
        clear HW
        cases gk with
        | zero => omega
        | succ g =>
        by_cases hlt : I < N
        · have hltI : (I : Int) < (N : Int) := by omega
          have hil : I < s.data.toList.length := by rw [HN.out]; exact hlt
          have hix := idx_at s I s.data.toList[I] (List.getElem?_eq_getElem hil)
          by_cases h47 : s.data.toList[I] = 47
          · rw [h47] at hix
            replace hix : ∀ y, (Instr.index 9 (.string s) (.int .i64 (I : Int))).run Tryd.prog y = .ok (.int .u8 47) y := hix
            obtain ⟨HX1, HX2⟩ := cut_slash HC.out hil h47 x HXD.out
            have c3 := rright_calls x wr
            cases hr : rightP x.data.toList with
            | false =>
              have HS : Hid (splitP s.data.toList = none) := (show _ = _ by
                rw [HSP.out, if_neg]
                intro hall
                have := List.all_eq_true.1 hall _ HX1
                rw [hr] at this
                cases this)
              rw [hr] at c3
              clear hr HX1 HX2 HSP HC
              go_wp2_with fail
              refine c3.mono ?_
              rintro e w3 ⟨rfl, hb3⟩
              clear c3
              go_wp2_with fail
              go_ret2
              exact ⟨hbw.trans (hb3.mono hbw.size), .inr ⟨rfl, HS.out⟩⟩
            | true =>
              have HC2 : Hid (CutAt s.data.toList (I + 1) (I + 1) (done ++ [x])) := HX2 hr
              rw [hr] at c3
              clear hr HX1 HX2 HC
              go_wp2_with fail
              refine c3.mono ?_
              rintro e w3 ⟨rfl, hb3⟩
              clear c3
              have hb4 := hbw.trans (hb3.mono hbw.size)
              have ho3 := how.below hb3
              go_wp2_with (first
                | (refine build_c1 rowS rfl _ rfl x _ rfl rfl ?_; intro z3 o4 b4 s4; have hb5 := hb4.trans (b4.mono hb4.size); have ho4 := ho3.below b4)
                | (at_builtin; refine append_slB rowS rfl _ _ rfl w.heap.size u4 done [x] rfl ho4 _ rfl _ o4.slB (by simp only [List.length_cons, List.length_nil]; omega) (by decide) hb5.size ?_; intro v5 z5 o5 g5))
              go_roundg g
              case measure => omega
              case rel => exact ⟨I + 1, I + 1, done ++ [x], by omega, by omega, rfl, rfl, by omega, ⟨hb5.grown g5 hb5.size (fun j hj => (HLT.out j hj).1), o5, HC2.out⟩⟩
          · have HC2 : Hid (CutAt s.data.toList (I + 1) F done) := cut_on HC.out hil h47
            have hnb : ((s.data.toList[I].toNat : Int) == 47) = false := beq_eq_false_iff_ne.2 (fun e => h47 (UInt8.toNat_inj.1 (by show _ = 47; omega)))
            obtain ⟨B, hB⟩ : ∃ B : Nat, s.data.toList[I].toNat = B := ⟨_, rfl⟩
            rw [hB] at hix hnb
            have hnb2 : ((B : Int) != 47) = true := by rw [bne, hnb]; rfl
            clear hB h47 hil HC HXD
            go_wp2_with fail
            go_roundg g
            case measure => omega
            case rel => exact ⟨I + 1, F, done, by omega, by omega, rfl, rfl, hFN, ⟨hbw, how, HC2.out⟩⟩
        · have hltI : ¬ (I : Int) < (N : Int) := by omega
          have hIe : I = s.data.toList.length := by rw [HN.out]; omega
          have HC3 : Hid (CutAt s.data.toList s.data.toList.length F done) := (show CutAt _ _ _ _ by rw [← hIe]; exact HC.out)
          have HXE : Hid (x.data.toList = (s.data.toList.take s.data.toList.length).drop F) := (show _ = _ by rw [← hIe]; exact HXD.out)
          obtain ⟨HX1, HX3⟩ := cut_end HC3.out x HXE.out
          rw [← hIe] at HX3
          have HXX : Hid (x.data.toList ∈ segs (s.data.toList.drop 1) ∧ (rightP x.data.toList = true → CutAt s.data.toList (I + 1) (I + 1) (done ++ [x]))) := ⟨HX1, HX3⟩
          clear HC3 HXE HX1 HX3 hIe
          obtain ⟨HX1, HX2⟩ := HXX.out
          have c3 := rright_calls x wr
          cases hr : rightP x.data.toList with
          | false =>
            have HS : Hid (splitP s.data.toList = none) := (show _ = _ by
              rw [HSP.out, if_neg]
              intro hall
              have := List.all_eq_true.1 hall _ HX1
              rw [hr] at this
              cases this)
            rw [hr] at c3
            clear hr HX1 HX2 HSP HC
            go_wp2_with fail
            refine c3.mono ?_
            rintro e w3 ⟨rfl, hb3⟩
            clear c3
            go_wp2_with fail
            go_ret2
            exact ⟨hbw.trans (hb3.mono hbw.size), .inr ⟨rfl, HS.out⟩⟩
          | true =>
            have HC2 : Hid (CutAt s.data.toList (I + 1) (I + 1) (done ++ [x])) := HX2 hr
            rw [hr] at c3
            clear hr HX1 HX2 HC
            go_wp2_with fail
            refine c3.mono ?_
            rintro e w3 ⟨rfl, hb3⟩
            clear c3
            have hb4 := hbw.trans (hb3.mono hbw.size)
            have ho3 := how.below hb3
            go_wp2_with (first
              | (refine build_c1 rowS rfl _ rfl x _ rfl rfl ?_; intro z3 o4 b4 s4; have hb5 := hb4.trans (b4.mono hb4.size); have ho4 := ho3.below b4)
              | (at_builtin; refine append_slB rowS rfl _ _ rfl w.heap.size u4 done [x] rfl ho4 _ rfl _ o4.slB (by simp only [List.length_cons, List.length_nil]; omega) (by decide) hb5.size ?_; intro v5 z5 o5 g5))
            go_roundg g
            case measure => omega
            case rel => exact ⟨I + 1, I + 1, done ++ [x], by omega, by omega, rfl, rfl, by omega, ⟨hb5.grown g5 hb5.size (fun j hj => (HLT.out j hj).1), o5, HC2.out⟩⟩
      · have hII : ¬ (I : Int) ≤ (N : Int) := by omega
        have HF : Hid (splitP s.data.toList = some (bl done)) := (show _ = _ by
          obtain ⟨_, h2, ⟨a1, _⟩ | ⟨_, a2⟩⟩ := HW.out.2.2
          · rw [HN.out] at a1; omega
          · rw [HSP.out, a2, if_pos h2])
        go_wp2_with fail
        go_ret2
        exact ⟨HW.out.1, .inl ⟨_, done, rfl, HW.out.2.1.slB, HF.out⟩⟩
  · have HS : Hid (splitP s.data.toList = none) := (show _ = _ by
      rw [splitP.eq_def, if_neg hne, hL]
      dsimp only
      rw [if_neg (fun h => h47 h.1)])
    have hcI : ((c.toNat : Int) == 47) = false := beq_eq_false_iff_ne.2 (fun e => h47 (UInt8.toNat_inj.1 (by show _ = 47; omega)))
    have hcJ : ((c.toNat : Int) != 47) = true := by rw [bne, hcI]; rfl
    clear hL hne h47 HN h2 h3
    go_wp2_with fail
    go_ret2
    exact ⟨Below.refl _ _, .inr ⟨rfl, HS.out⟩⟩
end Go.Proofs.YtdmgmicabofmiaaDoor
