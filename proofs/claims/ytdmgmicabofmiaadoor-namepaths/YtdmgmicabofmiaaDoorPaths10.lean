/- A path with a name more is a path, as long as it has room. -/
import Derived.Test.YtdmgmicabofmiaaDoorBelow10
namespace Go.Proofs.YtdmgmicabofmiaaDoor
set_option linter.unusedVariables false
open Go.RowKit

theorem wrap_succ (n : Nat) (h : n ≤ 1000000) : wrap64 ((n : Int) + 1) = ((n + 1 : Nat) : Int) := by rw [wrap64_ok (by omega) (by omega)]; omega
theorem int_lt_succ (n : Nat) : (n : Int) < ((n + 1 : Nat) : Int) := by omega
theorem flat_add (A : List UInt8) (b : UInt8) : decide ((47 : UInt8) ∉ A ++ [b]) = (decide ((47 : UInt8) ∉ A) && !((b.toNat : Int) == 47)) := by
  have hiff : b = 47 ↔ (b.toNat : Int) = 47 := ⟨fun e => by rw [e]; rfl, fun e => UInt8.toNat_inj.1 (by show _ = 47; omega)⟩
  by_cases h1 : (47 : UInt8) ∈ A
  · simp [h1]
  · by_cases h2 : b = 47
    · have := hiff.1 h2
      simp [h1, h2]
    · have h3 : ¬ (b.toNat : Int) = 47 := fun e => h2 (hiff.2 e)
      have h4 : ¬ (47 : UInt8) = b := fun e => h2 e.symm
      have h5 : ((b.toNat : Int) == 47) = false := by simpa using h3
      rw [h5]
      simp [h1, h4]
theorem flat_step (T : List UInt8) (j : Nat) (h : j < T.length) : decide ((47 : UInt8) ∉ T.take (j + 1)) = (decide ((47 : UInt8) ∉ T.take j) && !((T[j].toNat : Int) == 47)) := by
  rw [List.take_add_one, List.getElem?_eq_getElem h]
  exact flat_add _ _
set_option maxRecDepth 1000000 in
set_option maxHeartbeats 4000000 in
theorem namePaths_walk (w : World) (s t : ByteArray) :
    Calls Tryd.prog 8 #[.string s, .string t] w fun e w' => e = .returned (.bool true) ∧ Below w.heap.size w w' := by
  obtain ⟨k, hk1, hk2, hk3⟩ := cut_text s 300 300 rfl
  obtain ⟨m, hm1, hm2, hm3⟩ := cut_text t 40 40 rfl
  go_enter Tryd.func8, Tryd.ntmps8
  go_wp2_with fail
  refine (shown_calls w).mono ?_
  rintro e w1 ⟨rfl, b1⟩
  go_wp2_with fail
  generalize s.extract 0 k = S at *
  generalize t.extract 0 m = T at *
  clear hk1 hk2 hm1 hm2
  refine (split_calls S w1).mono ?_
  rintro e w2 ⟨b2, ⟨nv, a, rfl, hn, hs⟩ | ⟨rfl, hs⟩⟩
  rotate_left
  · have B2 := b1.trans (b2.mono b1.size)
    go_wp2_with fail
    go_ret
    exact ⟨rfl, B2⟩
  have hal := split_len hs
  have B2 := b1.trans (b2.mono b1.size)
  have HS : Hid (splitP S.data.toList = some (bl a)) := hs
  clear b1 b2
  obtain ⟨ad, cap, rfl, hcap, hmax, -, -⟩ := id hn
  obtain ⟨C, D, K, M, a1, a2, hK, hw65, hD, hDM⟩ := join_step S T (by omega) (by omega)
  clear hK hw65 hDM hmax hn
  generalize hy0 : w2 = y0 at *
  clear hy0
  have C0 := B2
  clear B2
  by_cases ha : a = []
  · have hz : (((a.length : Nat) : Int) == 0) = true := by rw [ha]; rfl
    obtain ⟨X, hX⟩ : ∃ X : ByteArray, (⟨#[47]⟩ : ByteArray) ++ T = X := ⟨_, rfl⟩
    have a3 : ∀ y, (Op.stringOp .add ⟨#[47]⟩ T).run Tryd.prog y = .ok (.string X) y := fun y => by rw [← hX]; exact add_str _ _ (lit_small 47) (Nat.le_trans hm3 (by decide)) y
    have hXL : X.data.toList = (if bl a = [] then [] else S.data.toList) ++ 47 :: T.data.toList := by rw [← hX, ha]; simp [ByteArray.data_append]
    have HF : Hid (T.data.toList ≠ [] → (47 : UInt8) ∉ T.data.toList → splitP X.data.toList = if rightP T.data.toList = true ∧ X.data.toList.length ≤ 200 then some (bl a ++ [T.data.toList]) else none) := fun h1 h2 => by rw [hXL]; exact path_more hs h1 h2
    have HSL : Hid (T.data.toList = [] → (splitP X.data.toList).isSome = (bl a).isEmpty) := fun h1 => by rw [hXL, h1]; exact path_slash hs
    clear hX hXL hD ha hs
    go_wp2_with fail
    refine (split_calls X y0).mono ?_
    rintro e y1 ⟨c1, hcase⟩
    have C1 := C0.trans (c1.mono C0.size)
    clear c1 C0
    have hal2 : a.length ≤ 200 := hal
    obtain ⟨N, hN⟩ : ∃ N, a.length = N := ⟨_, rfl⟩
    have HN : Hid (a.length = N) := hN
    have HNE : Hid (((N : Int) == 0) = (bl a).isEmpty) := (show _ = _ by rw [← hN]; cases a <;> rfl)
    rw [hN] at hcap hal2 ⊢
    clear hN hz
    cases htE : T.toList.isEmpty with
    | true =>
      have HT : Hid (T.data.toList = []) := (show _ = _ by rw [Lib.toList_data] at htE; simpa using htE)
      rcases hcase with ⟨u, b, rfl, hu, hs2⟩ | ⟨rfl, hs2⟩
      · have hzz : ((N : Int) == 0) = true := by
          have h1 := HSL.out HT.out
          rw [hs2] at h1
          rw [HNE.out]; exact h1.symm
        clear HF HSL hs2 hu HNE HT HN
        go_wp2_with fail
        go_ret
        exact ⟨by simp, C1⟩
      · have hzz : ((N : Int) == 0) = false := by
          have h1 := HSL.out HT.out
          rw [hs2] at h1
          rw [HNE.out]; exact h1.symm
        clear HF HSL hs2 HNE HT HN
        go_wp2_with fail
        go_ret
        exact ⟨by simp, C1⟩
    | false =>
    have HTN : Hid (T.data.toList ≠ []) := fun e => by rw [Lib.toList_data, e] at htE; cases htE
    obtain ⟨IS, MV, hform, HC⟩ : ∃ (IS : Bool) (MV : Value), e = .returned (.tuple #[MV, .bool IS]) ∧ Hid ((IS = true ∧ ∃ b, Sl encS y1 MV b ∧ splitP X.data.toList = some (bl b)) ∨ (IS = false ∧ splitP X.data.toList = none)) := by
      rcases hcase with ⟨u, b, h1, hu, hs2⟩ | ⟨h1, hs2⟩
      · exact ⟨true, u, h1, .inl ⟨rfl, b, hu, hs2⟩⟩
      · exact ⟨false, _, h1, .inr ⟨rfl, hs2⟩⟩
    subst hform
    clear hcase HSL HNE
    obtain ⟨Z, hZ⟩ : ∃ Z, T.size = Z := ⟨_, rfl⟩
    have HZ : Hid (T.size = Z) := hZ
    have hz40 : Z ≤ 40 := by omega
    go_wp2_with fail
    go_loopg [11, 12] Z (fun g f i wr => ∃ (j : Nat) (F : Bool), j + g = Z ∧ f = .bool F ∧ i = .int .i64 (j : Int) ∧ wr = y1 ∧ Hid (F = decide ((47 : UInt8) ∉ T.data.toList.take j)))
    case atStart => exact ⟨0, true, by omega, rfl, rfl, rfl, (show _ = _ by simp)⟩
    case round =>
      obtain ⟨j, F, hjg, rfl, rfl, rfl, HW⟩ := hrel
      cases gk with
      | zero =>
        have hjZ : j = Z := by omega
        subst hjZ
        have HFL : Hid (F = decide ((47 : UInt8) ∉ T.data.toList)) := (show _ = _ by
          have := HW.out
          rw [List.take_of_length_le (by rw [toList_size, HZ.out]; exact Nat.le_refl _)] at this
          exact this)
        clear HW hjg
        cases F with
        | false =>
          clear HC HF HFL
          go_wp2_with fail
          go_ret
          exact ⟨by simp, C1⟩
        | true =>
        have HF2 := HF.out HTN.out (of_decide_eq_true HFL.out.symm)
        have c2 := right_calls T wr
        clear HF HFL
        obtain ⟨XS, hXS⟩ : ∃ XS, X.size = XS := ⟨_, rfl⟩
        rw [toList_size, hXS] at HF2
        cases hr : rightP T.data.toList with
        | false =>
          rw [hr] at HF2 c2
          rw [if_neg (by simp)] at HF2
          obtain ⟨hIS, _⟩ : IS = false ∧ True := by
            rcases HC.out with ⟨_, b, _, h2⟩ | ⟨h1, _⟩
            · rw [HF2] at h2; cases h2
            · exact ⟨h1, trivial⟩
          subst hIS
          clear HC HF2 hr
          go_wp2_with (go_at_call 14; refine c2.mono ?_; rintro e y2 ⟨rfl, d2⟩; clear c2)
          go_ret
          exact ⟨by simp, C1.trans (d2.mono C1.size)⟩
        | true =>
        rw [hr] at HF2 c2
        by_cases hlen : XS ≤ 200
        · have hlI : (XS : Int) ≤ 200 := by omega
          rw [if_pos ⟨rfl, hlen⟩] at HF2
          obtain ⟨hIS, b, hb, hb2⟩ : IS = true ∧ ∃ b, Sl encS wr MV b ∧ splitP X.data.toList = some (bl b) := by
            rcases HC.out with h | ⟨_, h2⟩
            · exact h
            · rw [HF2] at h2; cases h2
          subst hIS
          have hba : b = a ++ [T] := bl_eq (by
            have := Option.some.inj (hb2.symm.trans HF2)
            rw [this]; simp [bl])
          subst hba
          obtain ⟨ad3, cap3, rfl, hcap3, hmax3, -, -⟩ := id hb
          obtain ⟨g3, off3, rfl, hg3, hcell⟩ := sl_cell hb a.length (by simp)
          rw [List.getElem_append_right (Nat.le_refl _)] at hcell
          simp only [Nat.sub_self, List.getElem_cons_zero, HN.out] at hcell
          obtain ⟨N1, hN1⟩ : ∃ N1, N + 1 = N1 := ⟨_, rfl⟩
          have hbl : (a ++ [T]).length = N1 := by rw [← hN1]; simp [HN.out]
          rw [hbl] at hcap3 ⊢
          have HCL : Hid (wr.cell? ⟨g3, off3 + N, none⟩ = some (.string T)) := hcell
          have B1 : belowP X.data.toList S.data.toList = true := by rw [below_some hb2 HS.out, List.isPrefixOf_iff_prefix]; exact ⟨[T.data.toList], by simp [bl]⟩
          have B2' : belowP S.data.toList X.data.toList = false := by
            rw [below_some HS.out hb2]
            apply Bool.eq_false_iff.2
            intro e
            rw [List.isPrefixOf_iff_prefix] at e
            have := e.length_le
            simp [bl] at this
            omega
          have c3 := fun y => below_calls X S y
          have c4 := fun y => below_calls S X y
          rw [B1] at c3
          rw [B2'] at c4
          have hw2 : (N : Int) + 1 = (N1 : Int) := by rw [← hN1]; rfl
          have hNI : (N : Int) < (N1 : Int) := by rw [← hN1]; exact int_lt_succ N
          have hN0 : (0 : Int) ≤ (N : Int) := Int.natCast_nonneg N
          clear HC HF2 hr hb2 hb B1 B2' hcell hmax3 hlen hbl hN1
          go_wp2_with fail
          refine c2.mono ?_
          rintro e y2 ⟨rfl, d2⟩
          clear c2
          have C2 := C1.trans (d2.mono C1.size)
          have hcl2 : y2.cell? ⟨g3, off3 + N, none⟩ = some (.string T) := (World.cell?_of_block (d2.block g3 hg3)).trans HCL.out
          clear HCL d2 C1 hg3
          go_wp2_with fail
          refine (c3 y2).mono ?_
          rintro e y3 ⟨rfl, d3⟩
          clear c3
          have C3 := C2.trans (d3.mono C2.size)
          go_wp2_with fail
          refine (c4 y3).mono ?_
          rintro e y4 ⟨rfl, d4⟩
          clear c4
          go_wp2_with fail
          go_ret
          exact ⟨by simp, C3.trans (d4.mono C3.size)⟩
        · have hlI : ¬ (XS : Int) ≤ 200 := by omega
          rw [if_neg (fun h => hlen h.2)] at HF2
          obtain ⟨hIS, _⟩ : IS = false ∧ True := by
            rcases HC.out with ⟨_, b, _, h2⟩ | ⟨h1, _⟩
            · rw [HF2] at h2; cases h2
            · exact ⟨h1, trivial⟩
          subst hIS
          clear HC HF2 hr hlen
          go_wp2_with (go_at_call 14; refine c2.mono ?_; rintro e y2 ⟨rfl, d2⟩; clear c2)
          go_ret
          exact ⟨by simp, C1.trans (d2.mono C1.size)⟩
      | succ g =>
        have hjI : (j : Int) < (Z : Int) := by omega
        have hj0 : (0 : Int) ≤ (j : Int) := by omega
        have hjl : j < T.data.toList.length := by rw [toList_size]; have := HZ.out; omega
        have hw64 : wrap64 ((j : Int) + 1) = ((j + 1 : Nat) : Int) := by rw [wrap64_ok (by omega) (by omega)]; omega
        have hix := idx_at T j T.data.toList[j] (List.getElem?_eq_getElem hjl)
        have HTK : Hid (decide ((47 : UInt8) ∉ T.data.toList.take (j + 1)) = (F && !((T.data.toList[j].toNat : Int) == 47))) := (show _ = _ by rw [flat_step _ j hjl, HW.out])
        obtain ⟨B, hB⟩ : ∃ B : Nat, T.data.toList[j].toNat = B := ⟨_, rfl⟩
        rw [hB] at hix HTK
        clear hB hjl HW
        cases F with
        | false =>
          go_wp2_with fail
          go_roundg g
          case measure => omega
          case rel => exact ⟨j + 1, false, by omega, rfl, rfl, rfl, (show _ = _ by rw [HTK.out]; rfl)⟩
        | true =>
          go_wp2_with fail
          go_roundg g
          case measure => omega
          case rel => exact ⟨j + 1, _, by omega, rfl, rfl, rfl, (show _ = _ by rw [HTK.out]; rfl)⟩
  · have hz : (((a.length : Nat) : Int) == 0) = false := by have := List.length_pos_iff.2 ha; simp; exact ha
    generalize D = X at *
    have hne : bl a ≠ [] := fun e => ha (by simpa [bl] using e)
    have hXL : X.data.toList = (if bl a = [] then [] else S.data.toList) ++ 47 :: T.data.toList := by rw [hD, if_neg hne]
    have HF : Hid (T.data.toList ≠ [] → (47 : UInt8) ∉ T.data.toList → splitP X.data.toList = if rightP T.data.toList = true ∧ X.data.toList.length ≤ 200 then some (bl a ++ [T.data.toList]) else none) := fun h1 h2 => by rw [hXL]; exact path_more hs h1 h2
    have HSL : Hid (T.data.toList = [] → (splitP X.data.toList).isSome = (bl a).isEmpty) := fun h1 => by rw [hXL, h1]; exact path_slash hs
    clear hXL hD ha hs hne
    go_wp2_with fail
    refine (split_calls X y0).mono ?_
    rintro e y1 ⟨c1, hcase⟩
    have C1 := C0.trans (c1.mono C0.size)
    clear c1 C0
    have hal2 : a.length ≤ 200 := hal
    obtain ⟨N, hN⟩ : ∃ N, a.length = N := ⟨_, rfl⟩
    have HN : Hid (a.length = N) := hN
    have HNE : Hid (((N : Int) == 0) = (bl a).isEmpty) := (show _ = _ by rw [← hN]; cases a <;> rfl)
    rw [hN] at hcap hal2 ⊢
    clear hN hz
    cases htE : T.toList.isEmpty with
    | true =>
      have HT : Hid (T.data.toList = []) := (show _ = _ by rw [Lib.toList_data] at htE; simpa using htE)
      rcases hcase with ⟨u, b, rfl, hu, hs2⟩ | ⟨rfl, hs2⟩
      · have hzz : ((N : Int) == 0) = true := by
          have h1 := HSL.out HT.out
          rw [hs2] at h1
          rw [HNE.out]; exact h1.symm
        clear HF HSL hs2 hu HNE HT HN
        go_wp2_with fail
        go_ret
        exact ⟨by simp, C1⟩
      · have hzz : ((N : Int) == 0) = false := by
          have h1 := HSL.out HT.out
          rw [hs2] at h1
          rw [HNE.out]; exact h1.symm
        clear HF HSL hs2 HNE HT HN
        go_wp2_with fail
        go_ret
        exact ⟨by simp, C1⟩
    | false =>
    have HTN : Hid (T.data.toList ≠ []) := fun e => by rw [Lib.toList_data, e] at htE; cases htE
    obtain ⟨IS, MV, hform, HC⟩ : ∃ (IS : Bool) (MV : Value), e = .returned (.tuple #[MV, .bool IS]) ∧ Hid ((IS = true ∧ ∃ b, Sl encS y1 MV b ∧ splitP X.data.toList = some (bl b)) ∨ (IS = false ∧ splitP X.data.toList = none)) := by
      rcases hcase with ⟨u, b, h1, hu, hs2⟩ | ⟨h1, hs2⟩
      · exact ⟨true, u, h1, .inl ⟨rfl, b, hu, hs2⟩⟩
      · exact ⟨false, _, h1, .inr ⟨rfl, hs2⟩⟩
    subst hform
    clear hcase HSL HNE
    obtain ⟨Z, hZ⟩ : ∃ Z, T.size = Z := ⟨_, rfl⟩
    have HZ : Hid (T.size = Z) := hZ
    have hz40 : Z ≤ 40 := by omega
    go_wp2_with fail
    go_loopg [11, 12] Z (fun g f i wr => ∃ (j : Nat) (F : Bool), j + g = Z ∧ f = .bool F ∧ i = .int .i64 (j : Int) ∧ wr = y1 ∧ Hid (F = decide ((47 : UInt8) ∉ T.data.toList.take j)))
    case atStart => exact ⟨0, true, by omega, rfl, rfl, rfl, (show _ = _ by simp)⟩
    case round =>
      obtain ⟨j, F, hjg, rfl, rfl, rfl, HW⟩ := hrel
      cases gk with
      | zero =>
        have hjZ : j = Z := by omega
        subst hjZ
        have HFL : Hid (F = decide ((47 : UInt8) ∉ T.data.toList)) := (show _ = _ by
          have := HW.out
          rw [List.take_of_length_le (by rw [toList_size, HZ.out]; exact Nat.le_refl _)] at this
          exact this)
        clear HW hjg
        cases F with
        | false =>
          clear HC HF HFL
          go_wp2_with fail
          go_ret
          exact ⟨by simp, C1⟩
        | true =>
        have HF2 := HF.out HTN.out (of_decide_eq_true HFL.out.symm)
        have c2 := right_calls T wr
        clear HF HFL
        obtain ⟨XS, hXS⟩ : ∃ XS, X.size = XS := ⟨_, rfl⟩
        rw [toList_size, hXS] at HF2
        cases hr : rightP T.data.toList with
        | false =>
          rw [hr] at HF2 c2
          rw [if_neg (by simp)] at HF2
          obtain ⟨hIS, _⟩ : IS = false ∧ True := by
            rcases HC.out with ⟨_, b, _, h2⟩ | ⟨h1, _⟩
            · rw [HF2] at h2; cases h2
            · exact ⟨h1, trivial⟩
          subst hIS
          clear HC HF2 hr
          go_wp2_with (go_at_call 14; refine c2.mono ?_; rintro e y2 ⟨rfl, d2⟩; clear c2)
          go_ret
          exact ⟨by simp, C1.trans (d2.mono C1.size)⟩
        | true =>
        rw [hr] at HF2 c2
        by_cases hlen : XS ≤ 200
        · have hlI : (XS : Int) ≤ 200 := by omega
          rw [if_pos ⟨rfl, hlen⟩] at HF2
          obtain ⟨hIS, b, hb, hb2⟩ : IS = true ∧ ∃ b, Sl encS wr MV b ∧ splitP X.data.toList = some (bl b) := by
            rcases HC.out with h | ⟨_, h2⟩
            · exact h
            · rw [HF2] at h2; cases h2
          subst hIS
          have hba : b = a ++ [T] := bl_eq (by
            have := Option.some.inj (hb2.symm.trans HF2)
            rw [this]; simp [bl])
          subst hba
          obtain ⟨ad3, cap3, rfl, hcap3, hmax3, -, -⟩ := id hb
          obtain ⟨g3, off3, rfl, hg3, hcell⟩ := sl_cell hb a.length (by simp)
          rw [List.getElem_append_right (Nat.le_refl _)] at hcell
          simp only [Nat.sub_self, List.getElem_cons_zero, HN.out] at hcell
          obtain ⟨N1, hN1⟩ : ∃ N1, N + 1 = N1 := ⟨_, rfl⟩
          have hbl : (a ++ [T]).length = N1 := by rw [← hN1]; simp [HN.out]
          rw [hbl] at hcap3 ⊢
          have HCL : Hid (wr.cell? ⟨g3, off3 + N, none⟩ = some (.string T)) := hcell
          have B1 : belowP X.data.toList S.data.toList = true := by rw [below_some hb2 HS.out, List.isPrefixOf_iff_prefix]; exact ⟨[T.data.toList], by simp [bl]⟩
          have B2' : belowP S.data.toList X.data.toList = false := by
            rw [below_some HS.out hb2]
            apply Bool.eq_false_iff.2
            intro e
            rw [List.isPrefixOf_iff_prefix] at e
            have := e.length_le
            simp [bl] at this
            omega
          have c3 := fun y => below_calls X S y
          have c4 := fun y => below_calls S X y
          rw [B1] at c3
          rw [B2'] at c4
          have hw2 : (N : Int) + 1 = (N1 : Int) := by rw [← hN1]; rfl
          have hNI : (N : Int) < (N1 : Int) := by rw [← hN1]; exact int_lt_succ N
          have hN0 : (0 : Int) ≤ (N : Int) := Int.natCast_nonneg N
          clear HC HF2 hr hb2 hb B1 B2' hcell hmax3 hlen hbl hN1
          go_wp2_with fail
          refine c2.mono ?_
          rintro e y2 ⟨rfl, d2⟩
          clear c2
          have C2 := C1.trans (d2.mono C1.size)
          have hcl2 : y2.cell? ⟨g3, off3 + N, none⟩ = some (.string T) := (World.cell?_of_block (d2.block g3 hg3)).trans HCL.out
          clear HCL d2 C1 hg3
          go_wp2_with fail
          refine (c3 y2).mono ?_
          rintro e y3 ⟨rfl, d3⟩
          clear c3
          have C3 := C2.trans (d3.mono C2.size)
          go_wp2_with fail
          refine (c4 y3).mono ?_
          rintro e y4 ⟨rfl, d4⟩
          clear c4
          go_wp2_with fail
          go_ret
          exact ⟨by simp, C3.trans (d4.mono C3.size)⟩
        · have hlI : ¬ (XS : Int) ≤ 200 := by omega
          rw [if_neg (fun h => hlen h.2)] at HF2
          obtain ⟨hIS, _⟩ : IS = false ∧ True := by
            rcases HC.out with ⟨_, b, _, h2⟩ | ⟨h1, _⟩
            · rw [HF2] at h2; cases h2
            · exact ⟨h1, trivial⟩
          subst hIS
          clear HC HF2 hr hlen
          go_wp2_with (go_at_call 14; refine c2.mono ?_; rintro e y2 ⟨rfl, d2⟩; clear c2)
          go_ret
          exact ⟨by simp, C1.trans (d2.mono C1.size)⟩
      | succ g =>
        have hjI : (j : Int) < (Z : Int) := by omega
        have hj0 : (0 : Int) ≤ (j : Int) := by omega
        have hjl : j < T.data.toList.length := by rw [toList_size]; have := HZ.out; omega
        have hw64 : wrap64 ((j : Int) + 1) = ((j + 1 : Nat) : Int) := by rw [wrap64_ok (by omega) (by omega)]; omega
        have hix := idx_at T j T.data.toList[j] (List.getElem?_eq_getElem hjl)
        have HTK : Hid (decide ((47 : UInt8) ∉ T.data.toList.take (j + 1)) = (F && !((T.data.toList[j].toNat : Int) == 47))) := (show _ = _ by rw [flat_step _ j hjl, HW.out])
        obtain ⟨B, hB⟩ : ∃ B : Nat, T.data.toList[j].toNat = B := ⟨_, rfl⟩
        rw [hB] at hix HTK
        clear hB hjl HW
        cases F with
        | false =>
          go_wp2_with fail
          go_roundg g
          case measure => omega
          case rel => exact ⟨j + 1, false, by omega, rfl, rfl, rfl, (show _ = _ by rw [HTK.out]; rfl)⟩
        | true =>
          go_wp2_with fail
          go_roundg g
          case measure => omega
          case rel => exact ⟨j + 1, _, by omega, rfl, rfl, rfl, (show _ = _ by rw [HTK.out]; rfl)⟩
end Go.Proofs.YtdmgmicabofmiaaDoor
