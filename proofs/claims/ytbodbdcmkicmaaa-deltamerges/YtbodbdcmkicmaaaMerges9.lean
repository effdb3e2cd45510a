/- What mine has done is there, and what theirs has done where mine has done nothing. -/
import Derived.Test.YtbodbdcmkicmaaaDlJ
namespace Go.Proofs.Ytbodbdcmkicmaaa
set_option linter.unusedVariables false
open Go.RowKit

set_option maxRecDepth 100000 in
set_option maxHeartbeats 16000000 in
theorem deltaMerges_walk (w : World) (u : Value) (l : List Pa) (hu : Sl encP w u l) (v : Value) (c : List Pa) (hv : Sl encP w v c) (t : Value) (d : List Pa) (ht : Sl encP w t d) :
    Calls Try.prog 6 #[u, v, t] w fun e w' => e = .returned (.bool true) ∧ Below w.heap.size w w' := by
  have H : Hd w w [(u, l), (v, c), (t, d)] [] [] := ((((Hd.start w).addP ht).addP hv).addP hu)
  obtain ⟨adu, cpu, rfl, hcu, hmu⟩ := sl_form hu
  clear hu
  obtain ⟨adv, cpv, rfl, hcv, hmv⟩ := sl_form hv
  clear hv
  obtain ⟨adt, cpt, rfl, hct, hmt⟩ := sl_form ht
  clear ht
  go_enter Try.func6, Try.ntmps6
  go_wp2_with fail
  refine (shown_calls _).mono ?_
  rintro e x1 ⟨rfl, b1⟩
  replace H := H.called b1
  clear b1
  go_wp2_with fail
  refine (cutP_calls _ _ _ (H.getP (.slice adu l.length cpu) (l) (by simp))).mono ?_
  rintro e x2 ⟨vb, rfl, o2, b2⟩
  replace H := (H.called b2).addP o2.slB
  have hB : (cutP l).length ≤ 40 := cutP_len _
  clear o2 b2
  generalize cutP l = B at *
  go_wp2_with fail
  refine (cutP_calls _ _ _ (H.getP (.slice adv c.length cpv) (c) (by simp))).mono ?_
  rintro e x3 ⟨vt, rfl, o3, b3⟩
  replace H := (H.called b3).addP o3.slB
  have hT : (cutP c).length ≤ 40 := cutP_len _
  clear o3 b3
  generalize cutP c = T at *
  go_wp2_with fail
  refine (cutP_calls _ _ _ (H.getP (.slice adt d.length cpt) (d) (by simp))).mono ?_
  rintro e x4 ⟨vm, rfl, o4, b4⟩
  replace H := (H.called b4).addP o4.slB
  have hM : (cutP d).length ≤ 40 := cutP_len _
  clear o4 b4
  generalize cutP d = M at *
  go_wp2_with fail
  refine (merge_calls _ _ _ _ _ _ _ (H.getP (vb) (B) (by simp)) (H.getP (vt) (T) (by simp)) (H.getP (vm) (M) (by simp)) (by omega) (by omega) (by omega)).mono ?_
  rintro e x5 ⟨v1, k1, R1, K1, rfl, o5, q5, iR1, hR1, hK1, b5⟩
  replace H := ((H.called b5).addP o5.slB).addK q5.slB
  clear o5 q5 b5
  go_wp2_with fail
  refine (merge_calls _ _ _ _ _ _ _ (H.getP (vb) (B) (by simp)) (H.getP (vm) (M) (by simp)) (H.getP (vt) (T) (by simp)) (by omega) (by omega) (by omega)).mono ?_
  rintro e x6 ⟨v2, k2, R2, K2, rfl, o6, q6, iR2, hR2, hK2, b6⟩
  replace H := ((H.called b6).addP o6.slB).addK q6.slB
  clear o6 q6 b6
  go_wp2_with fail
  refine (diff_calls _ _ _ _ _ (H.getP (vb) (B) (by simp)) (H.getP (vm) (M) (by simp)) (by omega) (by omega)).mono ?_
  rintro e x7 ⟨v3, D3, rfl, o7, iD3, hD3, b7⟩
  replace H := (H.called b7).addC o7.slB
  clear o7 b7
  go_wp2_with fail
  refine (apply_calls _ _ _ _ _ (H.getP (vt) (T) (by simp)) (H.getC (v3) (D3) (by simp)) (by omega) (by omega)).mono ?_
  rintro e x8 ⟨v4, R4, rfl, o8, iR4, hR4, b8⟩
  replace H := (H.called b8).addP o8.slB
  clear o8 b8
  have HT : Hid (K1 = [] → R1 = R2) := fun e => by
    obtain ⟨⟨d1, h1, h2⟩, h3⟩ := iR1
    obtain ⟨⟨d2, h4, h5⟩, _⟩ := iR2
    rw [e] at h3
    exact merge_turned h1 h4 h2 h5 h3.none
  go_wp2_with fail
  refine (sameP_calls _ _ _ _ _ (H.getP (v1) (R1) (by simp)) (H.getP (v4) (R4) (by simp)) (by omega)).mono ?_
  rintro e x9 ⟨rfl, b9⟩
  replace H := H.called b9
  clear b9
  rw [decide_eq_true (show R1 = R4 from (by obtain ⟨⟨d1, h1, h2⟩, _⟩ := iR1; have := h1.unique iD3; subst this; exact h2.unique iR4))]
  go_wp2_with fail
  refine (sameK_calls _ _ _ _ _ (H.getK (k1) (K1) (by simp)) (H.getK (k2) (K2) (by simp)) (by omega)).mono ?_
  rintro e x10 ⟨rfl, b10⟩
  replace H := H.called b10
  clear b10
  rw [decide_eq_true (show K1 = K2 from iR1.2.turned iR2.2)]
  go_wp2_with fail
  refine (sameP_calls _ _ _ _ _ (H.getP (v1) (R1) (by simp)) (H.getP (v2) (R2) (by simp)) (by omega)).mono ?_
  rintro e x11 ⟨rfl, b11⟩
  replace H := H.called b11
  clear b11
  obtain ⟨tb, etb⟩ : ∃ t : Bool, t = decide (R1 = R2) := ⟨_, rfl⟩
  rw [← etb]
  have Etb : Hid (tb = decide (R1 = R2)) := etb
  clear etb
  go_wp2_with fail
  refine (merge_calls _ _ _ _ _ _ _ (H.getP (vt) (T) (by simp)) (H.getP (vt) (T) (by simp)) (H.getP (vm) (M) (by simp)) (by omega) (by omega) (by omega)).mono ?_
  rintro e x12 ⟨v5, k5, R5, K5, rfl, o12, q12, iR5, hR5, hK5, b12⟩
  replace H := ((H.called b12).addP o12.slB).addK q12.slB
  clear o12 q12 b12
  go_wp2_with fail
  refine (merge_calls _ _ _ _ _ _ _ (H.getP (vm) (M) (by simp)) (H.getP (vt) (T) (by simp)) (H.getP (vm) (M) (by simp)) (by omega) (by omega) (by omega)).mono ?_
  rintro e x13 ⟨v6, k6, R6, K6, rfl, o13, q13, iR6, hR6, hK6, b13⟩
  replace H := ((H.called b13).addP o13.slB).addK q13.slB
  clear o13 q13 b13
  go_wp2_with fail
  refine (map_calls _ _ _ (H.getP (vm) (M) (by simp)) (by omega)).mono ?_
  rintro e x14 ⟨v7, R7, rfl, o14, iR7, hR7, b14⟩
  replace H := (H.called b14).addP o14.slB
  clear o14 b14
  go_wp2_with fail
  refine (sameP_calls _ _ _ _ _ (H.getP (v5) (R5) (by simp)) (H.getP (v7) (R7) (by simp)) (by omega)).mono ?_
  rintro e x15 ⟨rfl, b15⟩
  replace H := H.called b15
  clear b15
  rw [decide_eq_true (show R5 = R7 from (by obtain ⟨⟨d1, h1, h2⟩, _⟩ := iR5; exact merge_one h1 h2 iR7))]
  obtain rfl : K5 = [] := iR5.2.nil fun x hx => hx.2.1 rfl
  obtain ⟨adk5, cpk5, rfl, hck5, hmk5⟩ := sl_form (H.getK (k5) ([]) (by simp))
  simp only [List.length_nil] at *
  go_wp2_with fail
  refine (map_calls _ _ _ (H.getP (vt) (T) (by simp)) (by omega)).mono ?_
  rintro e x16 ⟨v8, R8, rfl, o16, iR8, hR8, b16⟩
  replace H := (H.called b16).addP o16.slB
  clear o16 b16
  go_wp2_with fail
  refine (sameP_calls _ _ _ _ _ (H.getP (v6) (R6) (by simp)) (H.getP (v8) (R8) (by simp)) (by omega)).mono ?_
  rintro e x17 ⟨rfl, b17⟩
  replace H := H.called b17
  clear b17
  rw [decide_eq_true (show R6 = R8 from (by obtain ⟨⟨d1, h1, h2⟩, _⟩ := iR6; exact merge_two h1 h2 iR8))]
  obtain rfl : K6 = [] := iR6.2.nil fun x hx => hx.1 rfl
  obtain ⟨adk6, cpk6, rfl, hck6, hmk6⟩ := sl_form (H.getK (k6) ([]) (by simp))
  simp only [List.length_nil] at *
  obtain ⟨adk1, cpk1, rfl, hck1, hmk1⟩ := sl_form (H.getK (k1) (K1) (by simp))
  rcases hK1e : K1 with _ | ⟨q, K1'⟩
  · have hR := HT.out hK1e
    have ht : tb = true := by rw [Etb.out]; exact decide_eq_true hR
    subst ht
    subst hK1e
    simp only [List.length_nil] at *
    clear HT Etb hR
    go_wp2_with fail
    go_ret
    exact ⟨rfl, H.bel⟩
  · have hpos : (0 : Int) < ((K1.length : Nat) : Int) := by rw [hK1e]; simp
    rw [← hK1e]
    clear hK1e HT Etb
    generalize K1.length = n1 at *
    cases tb
    · go_wp2_with fail
      go_ret
      exact ⟨rfl, H.bel⟩
    · go_wp2_with fail
      go_ret
      exact ⟨rfl, H.bel⟩
end Go.Proofs.Ytbodbdcmkicmaaa
