/- Maps, deltas and merges are what the document says. -/
import Derived.Test.YtbodbdcmkicmaaaDlR
namespace Go.Proofs.Ytbodbdcmkicmaaa
set_option linter.unusedVariables false
open Go.RowKit

set_option maxRecDepth 100000 in
set_option maxHeartbeats 16000000 in
theorem deltaTells_walk (w : World) (u : Value) (l : List Pa) (hu : Sl encP w u l) (v : Value) (c : List Pa) (hv : Sl encP w v c) (t : Value) (d : List Pa) (ht : Sl encP w t d) (x : Value) (y : List Ch) (hx : Sl encC w x y) (z : Value) (q : List Ch) (hz : Sl encC w z q) :
    Calls Try.prog 3 #[u, v, t, x, z] w fun e w' => e = .returned (.bool true) ∧ Below w.heap.size w w' := by
  have H : Hd w w [(u, l), (v, c), (t, d)] [(x, y), (z, q)] [] := ((((((Hd.start w).addC hz).addC hx).addP ht).addP hv).addP hu)
  obtain ⟨adu, cpu, rfl, hcu, hmu⟩ := sl_form hu
  clear hu
  obtain ⟨adv, cpv, rfl, hcv, hmv⟩ := sl_form hv
  clear hv
  obtain ⟨adt, cpt, rfl, hct, hmt⟩ := sl_form ht
  clear ht
  obtain ⟨adx, cpx, rfl, hcx, hmx⟩ := sl_form hx
  clear hx
  obtain ⟨adz, cpz, rfl, hcz, hmz⟩ := sl_form hz
  clear hz
  go_enter Try.func3, Try.ntmps3
  have lenA := cutP_len l
  have lenB := cutP_len c
  have lenC := cutP_len d
  have lenX := cutC_len y
  have lenY := cutC_len q
  go_wp2_with fail
  refine (shown_calls _).mono ?_
  rintro e x1 ⟨rfl, b1⟩
  replace H := H.called b1
  clear b1
  go_wp2_with fail
  refine (cutP_calls _ _ _ (H.getP (.slice adu l.length cpu) (l) (by simp))).mono ?_
  rintro e x2 ⟨va, rfl, o2, b2⟩
  replace H := (H.called b2).addP o2.slB
  clear o2 b2
  go_wp2_with fail
  refine (cutP_calls _ _ _ (H.getP (.slice adv c.length cpv) (c) (by simp))).mono ?_
  rintro e x3 ⟨vb, rfl, o3, b3⟩
  replace H := (H.called b3).addP o3.slB
  clear o3 b3
  go_wp2_with fail
  refine (cutP_calls _ _ _ (H.getP (.slice adt d.length cpt) (d) (by simp))).mono ?_
  rintro e x4 ⟨vc, rfl, o4, b4⟩
  replace H := (H.called b4).addP o4.slB
  clear o4 b4
  go_wp2_with fail
  refine (cutC_calls _ _ _ (H.getC (.slice adx y.length cpx) (y) (by simp))).mono ?_
  rintro e x5 ⟨vx, rfl, o5, b5⟩
  replace H := (H.called b5).addC o5.slB
  clear o5 b5
  go_wp2_with fail
  refine (cutC_calls _ _ _ (H.getC (.slice adz q.length cpz) (q) (by simp))).mono ?_
  rintro e x6 ⟨vy, rfl, o6, b6⟩
  replace H := (H.called b6).addC o6.slB
  clear o6 b6
  go_wp2_with fail
  refine (map_calls _ _ _ (H.getP (va) (cutP l) (by simp)) (by omega)).mono ?_
  rintro e x7 ⟨v1, M1, rfl, o7, iM1, hM1, b7⟩
  replace H := (H.called b7).addP o7.slB
  clear o7 b7
  go_wp2_with fail
  refine (cutP_calls _ _ _ (H.getP (.slice adu l.length cpu) (l) (by simp))).mono ?_
  rintro e x8 ⟨va1, rfl, o8, b8⟩
  replace H := (H.called b8).addP o8.slB
  clear o8 b8
  go_wp2_with fail
  refine (rmap_calls _ _ _ (H.getP (va1) (cutP l) (by simp)) (by omega)).mono ?_
  rintro e x9 ⟨v2, M2, rfl, o9, iM2, hM2, b9⟩
  replace H := (H.called b9).addP o9
  clear o9 b9
  go_wp2_with fail
  refine (sameP_calls _ _ _ _ _ (H.getP (v1) (M1) (by simp)) (H.getP (v2) (M2) (by simp)) (by omega)).mono ?_
  rintro e x10 ⟨rfl, b10⟩
  replace H := H.called b10
  clear b10
  rw [decide_eq_true (show M1 = M2 from iM1.unique iM2)]
  go_wp2_with fail
  refine (apply_calls _ _ _ _ _ (H.getP (va) (cutP l) (by simp)) (H.getC (vx) (cutC y) (by simp)) (by omega) (by omega)).mono ?_
  rintro e x11 ⟨v3, M3, rfl, o11, iM3, hM3, b11⟩
  replace H := (H.called b11).addP o11.slB
  clear o11 b11
  go_wp2_with fail
  refine (cutP_calls _ _ _ (H.getP (.slice adu l.length cpu) (l) (by simp))).mono ?_
  rintro e x12 ⟨va2, rfl, o12, b12⟩
  replace H := (H.called b12).addP o12.slB
  clear o12 b12
  go_wp2_with fail
  refine (cutC_calls _ _ _ (H.getC (.slice adx y.length cpx) (y) (by simp))).mono ?_
  rintro e x13 ⟨vx2, rfl, o13, b13⟩
  replace H := (H.called b13).addC o13.slB
  clear o13 b13
  go_wp2_with fail
  refine (rapply_calls _ _ _ _ _ (H.getP (va2) (cutP l) (by simp)) (H.getC (vx2) (cutC y) (by simp)) (by omega) (by omega)).mono ?_
  rintro e x14 ⟨v4, M4, rfl, o14, iM4, hM4, b14⟩
  replace H := (H.called b14).addP o14
  clear o14 b14
  go_wp2_with fail
  refine (sameP_calls _ _ _ _ _ (H.getP (v3) (M3) (by simp)) (H.getP (v4) (M4) (by simp)) (by omega)).mono ?_
  rintro e x15 ⟨rfl, b15⟩
  replace H := H.called b15
  clear b15
  rw [decide_eq_true (show M3 = M4 from iM3.unique iM4)]
  go_wp2_with fail
  refine (diff_calls _ _ _ _ _ (H.getP (va) (cutP l) (by simp)) (H.getP (vb) (cutP c) (by simp)) (by omega) (by omega)).mono ?_
  rintro e x16 ⟨v5, D5, rfl, o16, iD5, hD5, b16⟩
  replace H := (H.called b16).addC o16.slB
  clear o16 b16
  go_wp2_with fail
  refine (cutP_calls _ _ _ (H.getP (.slice adu l.length cpu) (l) (by simp))).mono ?_
  rintro e x17 ⟨va3, rfl, o17, b17⟩
  replace H := (H.called b17).addP o17.slB
  clear o17 b17
  go_wp2_with fail
  refine (cutP_calls _ _ _ (H.getP (.slice adv c.length cpv) (c) (by simp))).mono ?_
  rintro e x18 ⟨vb3, rfl, o18, b18⟩
  replace H := (H.called b18).addP o18.slB
  clear o18 b18
  go_wp2_with fail
  refine (rdiff_calls _ _ _ _ _ (H.getP (va3) (cutP l) (by simp)) (H.getP (vb3) (cutP c) (by simp)) (by omega) (by omega)).mono ?_
  rintro e x19 ⟨v6, D6, rfl, o19, iD6, hD6, b19⟩
  replace H := (H.called b19).addC o19
  clear o19 b19
  go_wp2_with fail
  refine (sameC_calls _ _ _ _ _ (H.getC (v5) (D5) (by simp)) (H.getC (v6) (D6) (by simp)) (by omega)).mono ?_
  rintro e x20 ⟨rfl, b20⟩
  replace H := H.called b20
  clear b20
  rw [decide_eq_true (show D5 = D6 from iD5.unique iD6)]
  go_wp2_with (refine build_two rfl _ _ rfl (vx) (vy) rfl rfl (cutC y) (cutC q) (H.getC (vx) (cutC y) (by simp)) (H.getC (vy) (cutC q) (by simp)) ?_; intro x21 s21 b21; replace H := H.called b21; clear b21)
  refine (join_calls _ _ _ s21 (by simp) (by simp only [List.flatMap_cons, List.flatMap_nil, List.append_nil, List.length_append]; omega)).mono ?_
  rintro e x22 ⟨v7, J7, rfl, o22, iJ7, hJ7, b22⟩
  replace iJ7 : JoinIs (cutC y ++ cutC q) J7 := by simpa using iJ7
  replace hJ7 : J7.length ≤ (cutC y).length + (cutC q).length := by simpa using hJ7
  replace H := (H.called b22).addC o22.slB
  clear o22 b22 s21
  go_wp2_with fail
  refine (cutC_calls _ _ _ (H.getC (.slice adx y.length cpx) (y) (by simp))).mono ?_
  rintro e x23 ⟨vx4, rfl, o23, b23⟩
  replace H := (H.called b23).addC o23.slB
  clear o23 b23
  go_wp2_with fail
  refine (cutC_calls _ _ _ (H.getC (.slice adz q.length cpz) (q) (by simp))).mono ?_
  rintro e x24 ⟨vy4, rfl, o24, b24⟩
  replace H := (H.called b24).addC o24.slB
  clear o24 b24
  go_wp2_with (refine build_two rfl _ _ rfl (vx4) (vy4) rfl rfl (cutC y) (cutC q) (H.getC (vx4) (cutC y) (by simp)) (H.getC (vy4) (cutC q) (by simp)) ?_; intro x25 s25 b25; replace H := H.called b25; clear b25)
  refine (rjoin_calls _ _ _ s25 (by simp) (by simp only [List.flatMap_cons, List.flatMap_nil, List.append_nil, List.length_append]; omega)).mono ?_
  rintro e x26 ⟨v8, J8, rfl, o26, iJ8, hJ8, b26⟩
  replace iJ8 : JoinIs (cutC y ++ cutC q) J8 := by simpa using iJ8
  replace hJ8 : J8.length ≤ (cutC y).length + (cutC q).length := by simpa using hJ8
  replace H := (H.called b26).addC o26
  clear o26 b26 s25
  go_wp2_with fail
  refine (sameC_calls _ _ _ _ _ (H.getC (v7) (J7) (by simp)) (H.getC (v8) (J8) (by simp)) (by omega)).mono ?_
  rintro e x27 ⟨rfl, b27⟩
  replace H := H.called b27
  clear b27
  rw [decide_eq_true (show J7 = J8 from iJ7.unique iJ8)]
  go_wp2_with fail
  refine (merge_calls _ _ _ _ _ _ _ (H.getP (va) (cutP l) (by simp)) (H.getP (vb) (cutP c) (by simp)) (H.getP (vc) (cutP d) (by simp)) (by omega) (by omega) (by omega)).mono ?_
  rintro e x28 ⟨v9, k9, R9, K9, rfl, o28, q28, iR9, hR9, hK9, b28⟩
  replace H := ((H.called b28).addP o28.slB).addK q28.slB
  clear o28 q28 b28
  go_wp2_with fail
  refine (cutP_calls _ _ _ (H.getP (.slice adu l.length cpu) (l) (by simp))).mono ?_
  rintro e x29 ⟨va5, rfl, o29, b29⟩
  replace H := (H.called b29).addP o29.slB
  clear o29 b29
  go_wp2_with fail
  refine (cutP_calls _ _ _ (H.getP (.slice adv c.length cpv) (c) (by simp))).mono ?_
  rintro e x30 ⟨vb5, rfl, o30, b30⟩
  replace H := (H.called b30).addP o30.slB
  clear o30 b30
  go_wp2_with fail
  refine (cutP_calls _ _ _ (H.getP (.slice adt d.length cpt) (d) (by simp))).mono ?_
  rintro e x31 ⟨vc5, rfl, o31, b31⟩
  replace H := (H.called b31).addP o31.slB
  clear o31 b31
  go_wp2_with fail
  refine (rmerge_calls _ _ _ _ _ _ _ (H.getP (va5) (cutP l) (by simp)) (H.getP (vb5) (cutP c) (by simp)) (H.getP (vc5) (cutP d) (by simp)) (by omega) (by omega) (by omega)).mono ?_
  rintro e x32 ⟨w1, k1, R1, K1, rfl, o32, q32, iR1, hR1, hK1, b32⟩
  replace H := ((H.called b32).addP o32).addK q32
  clear o32 q32 b32
  go_wp2_with fail
  refine (sameP_calls _ _ _ _ _ (H.getP (v9) (R9) (by simp)) (H.getP (w1) (R1) (by simp)) (by omega)).mono ?_
  rintro e x33 ⟨rfl, b33⟩
  replace H := H.called b33
  clear b33
  rw [decide_eq_true (show R9 = R1 from (by obtain ⟨⟨d1, h1, h2⟩, _⟩ := iR9; obtain ⟨⟨d2, h3, h4⟩, _⟩ := iR1; have := h1.unique h3; subst this; exact h2.unique h4))]
  go_wp2_with fail
  refine (sameK_calls _ _ _ _ _ (H.getK (k9) (K9) (by simp)) (H.getK (k1) (K1) (by simp)) (by omega)).mono ?_
  rintro e x34 ⟨rfl, b34⟩
  replace H := H.called b34
  clear b34
  rw [decide_eq_true (show K9 = K1 from iR9.2.unique iR1.2)]
  go_wp2_with fail
  refine (cutP_calls _ _ _ (H.getP (.slice adu l.length cpu) (l) (by simp))).mono ?_
  rintro e x35 ⟨f1, rfl, o35, b35⟩
  replace H := (H.called b35).addP o35.slB
  clear o35 b35
  go_wp2_with fail
  refine (sameP_calls _ _ _ _ _ (H.getP (va) (cutP l) (by simp)) (H.getP (f1) (cutP l) (by simp)) (by omega)).mono ?_
  rintro e x36 ⟨rfl, b36⟩
  replace H := H.called b36
  clear b36
  rw [decide_eq_true (show cutP l = cutP l from rfl)]
  go_wp2_with fail
  refine (cutP_calls _ _ _ (H.getP (.slice adv c.length cpv) (c) (by simp))).mono ?_
  rintro e x37 ⟨f2, rfl, o37, b37⟩
  replace H := (H.called b37).addP o37.slB
  clear o37 b37
  go_wp2_with fail
  refine (sameP_calls _ _ _ _ _ (H.getP (vb) (cutP c) (by simp)) (H.getP (f2) (cutP c) (by simp)) (by omega)).mono ?_
  rintro e x38 ⟨rfl, b38⟩
  replace H := H.called b38
  clear b38
  rw [decide_eq_true (show cutP c = cutP c from rfl)]
  go_wp2_with fail
  refine (cutP_calls _ _ _ (H.getP (.slice adt d.length cpt) (d) (by simp))).mono ?_
  rintro e x39 ⟨f3, rfl, o39, b39⟩
  replace H := (H.called b39).addP o39.slB
  clear o39 b39
  go_wp2_with fail
  refine (sameP_calls _ _ _ _ _ (H.getP (vc) (cutP d) (by simp)) (H.getP (f3) (cutP d) (by simp)) (by omega)).mono ?_
  rintro e x40 ⟨rfl, b40⟩
  replace H := H.called b40
  clear b40
  rw [decide_eq_true (show cutP d = cutP d from rfl)]
  go_wp2_with fail
  refine (cutC_calls _ _ _ (H.getC (.slice adx y.length cpx) (y) (by simp))).mono ?_
  rintro e x41 ⟨f4, rfl, o41, b41⟩
  replace H := (H.called b41).addC o41.slB
  clear o41 b41
  go_wp2_with fail
  refine (sameC_calls _ _ _ _ _ (H.getC (vx) (cutC y) (by simp)) (H.getC (f4) (cutC y) (by simp)) (by omega)).mono ?_
  rintro e x42 ⟨rfl, b42⟩
  replace H := H.called b42
  clear b42
  rw [decide_eq_true (show cutC y = cutC y from rfl)]
  go_wp2_with fail
  refine (cutC_calls _ _ _ (H.getC (.slice adz q.length cpz) (q) (by simp))).mono ?_
  rintro e x43 ⟨f5, rfl, o43, b43⟩
  replace H := (H.called b43).addC o43.slB
  clear o43 b43
  go_wp2_with fail
  refine (sameC_calls _ _ _ _ _ (H.getC (vy) (cutC q) (by simp)) (H.getC (f5) (cutC q) (by simp)) (by omega)).mono ?_
  rintro e x44 ⟨rfl, b44⟩
  replace H := H.called b44
  clear b44
  rw [decide_eq_true (show cutC q = cutC q from rfl)]
  go_wp2_with fail
  go_ret
  exact ⟨rfl, H.bel⟩
end Go.Proofs.Ytbodbdcmkicmaaa
