/- Both and Less part a set. -/
import Derived.Test.YtbdolhmeknlnpaaSpJ
namespace Go.Proofs.Ytbdolhmeknlnpaa
set_option linter.unusedVariables false
open Go.RowKit

set_option maxRecDepth 100000 in
set_option maxHeartbeats 16000000 in
theorem spanParts_walk (w : World) (ua : Value) (a : List Sp) (hua : Sl encS w ua a) (ub : Value) (b : List Sp) (hub : Sl encS w ub b) :
    Calls Try.prog 6 #[ua, ub] w fun e w' => e = .returned (.bool true) ∧ Below w.heap.size w w' := by
  have H : Hd w w [(ua, a), (ub, b)] := (((Hd.mk (Below.refl _ w) (fun _ h => by cases h) : Hd w w []).add hub).add hua)
  obtain ⟨adua, cpua, rfl, hcua, hmua⟩ := sl_form hua
  clear hua
  obtain ⟨adub, cpub, rfl, hcub, hmub⟩ := sl_form hub
  clear hub
  go_enter Try.func6, Try.ntmps6
  go_wp2_with fail
  refine (shown_calls _).mono ?_
  rintro e x1 ⟨rfl, b1⟩
  replace H := H.called b1
  clear b1
  go_wp2_with fail
  refine (cut_calls _ _ _ (H.get (.slice adua a.length cpua) (a) (by simp))).mono ?_
  rintro e x2 ⟨v0, rfl, o2, b2⟩
  replace H := (H.called b2).add o2.slB
  have hA : (a.take 30).length ≤ 30 := take_len _ _
  clear o2 b2
  generalize a.take 30 = A at *
  go_wp2_with fail
  refine (cut_calls _ _ _ (H.get (.slice adub b.length cpub) (b) (by simp))).mono ?_
  rintro e x3 ⟨v1, rfl, o3, b3⟩
  replace H := (H.called b3).add o3.slB
  have hB : (b.take 30).length ≤ 30 := take_len _ _
  clear o3 b3
  generalize b.take 30 = B at *
  go_wp2_with fail
  refine (both_calls _ _ _ _ _ (H.get (v0) (A) (by simp)) (H.get (v1) (B) (by simp)) (by omega)).mono ?_
  rintro e x4 ⟨vb, Rb, rfl, o4, b4, iRb, lRb⟩
  replace H := (H.called b4).add o4.slB
  clear o4 b4
  go_wp2_with fail
  refine (lesss_calls _ _ _ _ _ (H.get (v0) (A) (by simp)) (H.get (v1) (B) (by simp)) (by omega)).mono ?_
  rintro e x5 ⟨vl, Rl, rfl, o5, b5, iRl, lRl⟩
  replace H := (H.called b5).add o5.slB
  clear o5 b5
  have own0 : Own encS 35 (x5.alloc (.cells #[] 35)) x5.heap.size (.slice (some ⟨x5.heap.size, 0, none⟩) 0 0) [] := World.ownsRow_made (base := x5.heap.size) (e := 35) (size := 49) x5 #[] 0 (Nat.le_refl _) (by unfold maxLen; omega) rfl
  have bal : Below x5.heap.size x5 (x5.alloc (.cells #[] 35)) := (Below.refl _ _).alloc (Nat.le_refl _) _
  have sb0 : SlB encS (x5.alloc (.cells #[] 35)) x5.heap.size vb Rb := SlB.below (H.get (vb) (Rb) (by simp)) bal
  have sl0 : SlB encS (x5.alloc (.cells #[] 35)) x5.heap.size vl Rl := SlB.below (H.get (vl) (Rl) (by simp)) bal
  go_wp2_with (first
    | (at_builtin; have _q := g6; refine append_sl rowS rfl _ _ rfl x5.heap.size v6 Rb Rl rfl o6 _ rfl x5.heap.size (sl0.below ((Below.refl _ _).grown g6 (by simp) (fun k hk => by simp [Value.ownBlock] at hk; omega))) (by omega) (by decide) (by have := g6.size; simp at this; omega) ?_; intro v6b x6b o6b g6b)
    | (at_builtin; refine append_sl rowS rfl _ _ rfl x5.heap.size (.slice (some ⟨x5.heap.size, 0, none⟩) 0 0) [] Rb rfl own0 _ rfl x5.heap.size sb0 (by simp only [List.length_nil]; omega) (by decide) (by simp) ?_; intro v6 x6 o6 g6; rw [List.nil_append] at o6))
  have B1 : Below x5.heap.size x5 x6 := bal.grown g6 (by simp) (fun k hk => by simp [Value.ownBlock] at hk; omega)
  have B2 : Below x5.heap.size x5 x6b := B1.grown g6b B1.size (fun k hk => (o6.lt k hk).1)
  replace H := (H.called B2).add o6b.slB
  clear own0 bal sb0 sl0 B1 B2 o6 o6b g6 g6b
  refine (clean_calls _ _ _ (H.get (v6b) (Rb ++ Rl) (by simp)) (by rw [List.length_append]; omega)).mono ?_
  rintro e x7 ⟨vt, Rt, rfl, o7, b7, iRt, lRt⟩
  replace H := (H.called b7).add o7.slB
  clear o7 b7
  go_wp2_with fail
  refine (clean_calls _ _ _ (H.get (v0) (A) (by simp)) (by omega)).mono ?_
  rintro e x8 ⟨vc, Rc, rfl, o8, b8, iRc, lRc⟩
  replace H := (H.called b8).add o8.slB
  clear o8 b8
  go_wp2_with fail
  refine (same_calls _ _ _ _ _ (H.get (vt) (Rt) (by simp)) (H.get (vc) (Rc) (by simp))).mono ?_
  rintro e x9 ⟨rfl, b9⟩
  replace H := H.called b9
  clear b9
  rw [decide_eq_true (show Rt = Rc from iRt.unique iRc (fun K hK => by simp only [mem_append, iRb.2 K hK, iRl.2 K hK]; cases mem A (num K) <;> cases mem B (num K) <;> rfl))]
  go_wp2_with fail
  refine (both_calls _ _ _ _ _ (H.get (v1) (B) (by simp)) (H.get (v0) (A) (by simp)) (by omega)).mono ?_
  rintro e x10 ⟨ve, Re, rfl, o10, b10, iRe, lRe⟩
  replace H := (H.called b10).add o10.slB
  clear o10 b10
  go_wp2_with fail
  refine (same_calls _ _ _ _ _ (H.get (ve) (Re) (by simp)) (H.get (vb) (Rb) (by simp))).mono ?_
  rintro e x11 ⟨rfl, b11⟩
  replace H := H.called b11
  clear b11
  rw [decide_eq_true (show Re = Rb from iRe.unique iRb (fun K hK => Bool.and_comm _ _))]
  go_wp2_with fail
  refine (touch_calls _ _ _ _ _ (H.get (vb) (Rb) (by simp)) (H.get (vl) (Rl) (by simp)) (by omega)).mono ?_
  rintro e x12 ⟨t12, rfl, ht12, b12⟩
  replace H := H.called b12
  have et12 : t12 = false := touch_no ht12 (fun K hK h1 h2 => by rw [iRb.2 K hK] at h1; rw [iRl.2 K hK] at h2; simp at h1 h2; rw [h1.2] at h2; cases h2.2)
  subst et12
  clear b12 ht12
  go_wp2_with fail
  refine (touch_calls _ _ _ _ _ (H.get (vl) (Rl) (by simp)) (H.get (v1) (B) (by simp)) (by omega)).mono ?_
  rintro e x13 ⟨t13, rfl, ht13, b13⟩
  replace H := H.called b13
  have et13 : t13 = false := touch_no ht13 (fun K hK h1 h2 => by rw [iRl.2 K hK] at h1; simp at h1; rw [h1.2] at h2; cases h2)
  subst et13
  clear b13 ht13
  go_wp2_with fail
  refine (lesss_calls _ _ _ _ _ (H.get (vb) (Rb) (by simp)) (H.get (v0) (A) (by simp)) (by omega)).mono ?_
  rintro e x14 ⟨vf, Rf, rfl, o14, b14, iRf, lRf⟩
  replace H := (H.called b14).add o14.slB
  clear o14 b14
  obtain rfl : Rf = [] := iRf.none (fun K hK => by simp only [iRb.2 K hK]; cases mem A (num K) <;> cases mem B (num K) <;> rfl)
  obtain ⟨advf, cpvf, rfl, hcvf, hmvf⟩ := sl_form (H.get (vf) ([]) (by simp))
  simp only [List.length_nil] at *
  go_wp2_with fail
  go_ret
  exact ⟨rfl, H.bel⟩
end Go.Proofs.Ytbdolhmeknlnpaa
