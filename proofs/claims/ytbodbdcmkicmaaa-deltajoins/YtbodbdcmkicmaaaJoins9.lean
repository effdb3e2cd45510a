/- What is done one behind the other is done at once. -/
import Derived.Test.YtbodbdcmkicmaaaDlJ
namespace Go.Proofs.Ytbodbdcmkicmaaa
set_option linter.unusedVariables false
open Go.RowKit

set_option maxRecDepth 100000 in
set_option maxHeartbeats 16000000 in
theorem deltaJoins_walk (w : World) (u : Value) (l : List Pa) (hu : Sl encP w u l) (v : Value) (c : List Ch) (hv : Sl encC w v c) (t : Value) (d : List Ch) (ht : Sl encC w t d) :
    Calls Try.prog 5 #[u, v, t] w fun e w' => e = .returned (.bool true) ∧ Below w.heap.size w w' := by
  have H : Hd w w [(u, l)] [(v, c), (t, d)] [] := ((((Hd.start w).addC ht).addC hv).addP hu)
  obtain ⟨adu, cpu, rfl, hcu, hmu⟩ := sl_form hu
  clear hu
  obtain ⟨adv, cpv, rfl, hcv, hmv⟩ := sl_form hv
  clear hv
  obtain ⟨adt, cpt, rfl, hct, hmt⟩ := sl_form ht
  clear ht
  go_enter Try.func5, Try.ntmps5
  go_wp2_with fail
  refine (shown_calls _).mono ?_
  rintro e x1 ⟨rfl, b1⟩
  replace H := H.called b1
  clear b1
  go_wp2_with fail
  refine (cutP_calls _ _ _ (H.getP (.slice adu l.length cpu) (l) (by simp))).mono ?_
  rintro e x2 ⟨va, rfl, o2, b2⟩
  replace H := (H.called b2).addP o2.slB
  have hA : (cutP l).length ≤ 40 := cutP_len _
  clear o2 b2
  generalize cutP l = A at *
  go_wp2_with fail
  refine (cutC_calls _ _ _ (H.getC (.slice adv c.length cpv) (c) (by simp))).mono ?_
  rintro e x3 ⟨vx, rfl, o3, b3⟩
  replace H := (H.called b3).addC o3.slB
  have hX : (cutC c).length ≤ 40 := cutC_len _
  clear o3 b3
  generalize cutC c = X at *
  go_wp2_with fail
  refine (cutC_calls _ _ _ (H.getC (.slice adt d.length cpt) (d) (by simp))).mono ?_
  rintro e x4 ⟨vy, rfl, o4, b4⟩
  replace H := (H.called b4).addC o4.slB
  have hY : (cutC d).length ≤ 40 := cutC_len _
  clear o4 b4
  generalize cutC d = Y at *
  go_wp2_with (refine build_two rfl _ _ rfl (vx) (vy) rfl rfl (X) (Y) (H.getC (vx) (X) (by simp)) (H.getC (vy) (Y) (by simp)) ?_; intro x5 s5 b5; replace H := H.called b5; clear b5)
  refine (join_calls _ _ _ s5 (by simp) (by simp only [List.flatMap_cons, List.flatMap_nil, List.append_nil, List.length_append]; omega)).mono ?_
  rintro e x6 ⟨vj, J, rfl, o6, iJ, hJ, b6⟩
  replace iJ : JoinIs (X ++ Y) J := by simpa using iJ
  replace hJ : J.length ≤ X.length + Y.length := by simpa using hJ
  replace H := (H.called b6).addC o6.slB
  clear o6 b6 s5
  go_wp2_with fail
  refine (apply_calls _ _ _ _ _ (H.getP (va) (A) (by simp)) (H.getC (vx) (X) (by simp)) (by omega) (by omega)).mono ?_
  rintro e x7 ⟨v1, M1, rfl, o7, iM1, hM1, b7⟩
  replace H := (H.called b7).addP o7.slB
  clear o7 b7
  go_wp2_with fail
  refine (apply_calls _ _ _ _ _ (H.getP (v1) (M1) (by simp)) (H.getC (vy) (Y) (by simp)) (by omega) (by omega)).mono ?_
  rintro e x8 ⟨v2, M2, rfl, o8, iM2, hM2, b8⟩
  replace H := (H.called b8).addP o8.slB
  clear o8 b8
  go_wp2_with fail
  refine (apply_calls _ _ _ _ _ (H.getP (va) (A) (by simp)) (H.getC (vj) (J) (by simp)) (by omega) (by omega)).mono ?_
  rintro e x9 ⟨v3, M3, rfl, o9, iM3, hM3, b9⟩
  replace H := (H.called b9).addP o9.slB
  clear o9 b9
  go_wp2_with fail
  refine (sameP_calls _ _ _ _ _ (H.getP (v2) (M2) (by simp)) (H.getP (v3) (M3) (by simp)) (by omega)).mono ?_
  rintro e x10 ⟨rfl, b10⟩
  replace H := H.called b10
  clear b10
  rw [decide_eq_true (show M2 = M3 from join_apply iM1 iM2 iJ iM3)]
  go_wp2_with (refine build_one1 rfl _ rfl (vj) rfl (J) (H.getC (vj) (J) (by simp)) ?_; intro x11 s11 b11; replace H := H.called b11; clear b11)
  refine (join_calls _ _ _ s11 (by simp) (by simp only [List.flatMap_cons, List.flatMap_nil, List.append_nil]; omega)).mono ?_
  rintro e x12 ⟨v4, J4, rfl, o12, iJ4, hJ4, b12⟩
  replace iJ4 : JoinIs J J4 := by simpa using iJ4
  replace hJ4 : J4.length ≤ J.length := by simpa using hJ4
  replace H := (H.called b12).addC o12.slB
  clear o12 b12 s11
  go_wp2_with fail
  refine (sameC_calls _ _ _ _ _ (H.getC (v4) (J4) (by simp)) (H.getC (vj) (J) (by simp)) (by omega)).mono ?_
  rintro e x13 ⟨rfl, b13⟩
  replace H := H.called b13
  clear b13
  rw [decide_eq_true (show J4 = J from join_again iJ iJ4)]
  go_wp2_with (refine build_one1 rfl _ rfl (vx) rfl (X) (H.getC (vx) (X) (by simp)) ?_; intro x14 s14 b14; replace H := H.called b14; clear b14)
  refine (join_calls _ _ _ s14 (by simp) (by simp only [List.flatMap_cons, List.flatMap_nil, List.append_nil]; omega)).mono ?_
  rintro e x15 ⟨v5, J5, rfl, o15, iJ5, hJ5, b15⟩
  replace iJ5 : JoinIs X J5 := by simpa using iJ5
  replace hJ5 : J5.length ≤ X.length := by simpa using hJ5
  replace H := (H.called b15).addC o15.slB
  clear o15 b15 s14
  go_wp2_with (refine build_two rfl _ _ rfl (v5) (vy) rfl rfl (J5) (Y) (H.getC (v5) (J5) (by simp)) (H.getC (vy) (Y) (by simp)) ?_; intro x16 s16 b16; replace H := H.called b16; clear b16)
  refine (join_calls _ _ _ s16 (by simp) (by simp only [List.flatMap_cons, List.flatMap_nil, List.append_nil, List.length_append]; omega)).mono ?_
  rintro e x17 ⟨v6, J6, rfl, o17, iJ6, hJ6, b17⟩
  replace iJ6 : JoinIs (J5 ++ Y) J6 := by simpa using iJ6
  replace hJ6 : J6.length ≤ J5.length + Y.length := by simpa using hJ6
  replace H := (H.called b17).addC o17.slB
  clear o17 b17 s16
  go_wp2_with fail
  refine (sameC_calls _ _ _ _ _ (H.getC (v6) (J6) (by simp)) (H.getC (vj) (J) (by simp)) (by omega)).mono ?_
  rintro e x18 ⟨rfl, b18⟩
  replace H := H.called b18
  clear b18
  rw [decide_eq_true (show J6 = J from join_three iJ5 iJ6 iJ)]
  go_wp2_with fail
  go_ret
  exact ⟨rfl, H.bel⟩
end Go.Proofs.Ytbodbdcmkicmaaa
