/- What is in both does not hang on the way. -/
import Derived.Test.YtbdolhmeknlnpabSpJ
namespace Go.Proofs.Ytbdolhmeknlnpab
set_option linter.unusedVariables false
open Go.RowKit

set_option maxRecDepth 100000 in
set_option maxHeartbeats 16000000 in
theorem spanBoth_walk (w : World) (ua : Value) (a : List Sp) (hua : Sl encS w ua a) (ub : Value) (b : List Sp) (hub : Sl encS w ub b) (uc : Value) (c : List Sp) (huc : Sl encS w uc c) :
    Calls Try.prog 3 #[ua, ub, uc] w fun e w' => e = .returned (.bool true) ∧ Below w.heap.size w w' := by
  obtain ⟨adua, cpua, rfl, hcua, hmua⟩ := sl_form hua
  have sua := SlB.take hua (min a.length 10) (by omega)
  have eua : a.take (min a.length 10) = a.take 10 := take_min a 10
  rw [eua] at sua
  have hA : (a.take 10).length ≤ 10 := take_len _ _
  have miua : min ((a.length : Nat) : Int) 10 = ((min a.length 10 : Nat) : Int) := by omega
  have mjua : min a.length 10 ≤ cpua ∧ min a.length 10 ≤ 10 := by omega
  unfold maxLen at hmua
  clear eua hua
  generalize a.take 10 = A at *
  generalize min a.length 10 = mua at *
  have mkua : ((mua : Nat) : Int) ≤ ((cpua : Nat) : Int) := by omega
  have mlua : (0 : Int) ≤ ((mua : Nat) : Int) := by omega
  obtain ⟨adub, cpub, rfl, hcub, hmub⟩ := sl_form hub
  have sub := SlB.take hub (min b.length 10) (by omega)
  have eub : b.take (min b.length 10) = b.take 10 := take_min b 10
  rw [eub] at sub
  have hB : (b.take 10).length ≤ 10 := take_len _ _
  have miub : min ((b.length : Nat) : Int) 10 = ((min b.length 10 : Nat) : Int) := by omega
  have mjub : min b.length 10 ≤ cpub ∧ min b.length 10 ≤ 10 := by omega
  unfold maxLen at hmub
  clear eub hub
  generalize b.take 10 = B at *
  generalize min b.length 10 = mub at *
  have mkub : ((mub : Nat) : Int) ≤ ((cpub : Nat) : Int) := by omega
  have mlub : (0 : Int) ≤ ((mub : Nat) : Int) := by omega
  obtain ⟨aduc, cpuc, rfl, hcuc, hmuc⟩ := sl_form huc
  have suc := SlB.take huc (min c.length 10) (by omega)
  have euc : c.take (min c.length 10) = c.take 10 := take_min c 10
  rw [euc] at suc
  have hC : (c.take 10).length ≤ 10 := take_len _ _
  have miuc : min ((c.length : Nat) : Int) 10 = ((min c.length 10 : Nat) : Int) := by omega
  have mjuc : min c.length 10 ≤ cpuc ∧ min c.length 10 ≤ 10 := by omega
  unfold maxLen at hmuc
  clear euc huc
  generalize c.take 10 = C at *
  generalize min c.length 10 = muc at *
  have mkuc : ((muc : Nat) : Int) ≤ ((cpuc : Nat) : Int) := by omega
  have mluc : (0 : Int) ≤ ((muc : Nat) : Int) := by omega
  have H : Hd w w [(.slice adua mua cpua, A), (.slice adub mub cpub, B), (.slice aduc muc cpuc, C)] := ((((Hd.mk (Below.refl _ w) (fun _ h => by cases h) : Hd w w []).add suc).add sub).add sua)
  clear sua sub suc
  go_enter Try.func3, Try.ntmps3
  go_wp2_with fail
  refine (shown_calls _).mono ?_
  rintro e x1 ⟨rfl, b1⟩
  replace H := H.called b1
  clear b1
  go_wp2_with fail
  refine (both_calls _ _ _ _ _ (H.get (.slice adub mub cpub) (B) (by simp)) (H.get (.slice aduc muc cpuc) (C) (by simp)) (by omega)).mono ?_
  rintro e x2 ⟨v1, R1, rfl, o2, b2, iR1, lR1⟩
  replace H := (H.called b2).add o2.slB
  clear o2 b2
  go_wp2_with fail
  refine (both_calls _ _ _ _ _ (H.get (.slice adua mua cpua) (A) (by simp)) (H.get (v1) (R1) (by simp)) (by omega)).mono ?_
  rintro e x3 ⟨v2, R2, rfl, o3, b3, iR2, lR2⟩
  replace H := (H.called b3).add o3.slB
  clear o3 b3
  go_wp2_with fail
  refine (both_calls _ _ _ _ _ (H.get (.slice adua mua cpua) (A) (by simp)) (H.get (.slice adub mub cpub) (B) (by simp)) (by omega)).mono ?_
  rintro e x4 ⟨v3, R3, rfl, o4, b4, iR3, lR3⟩
  replace H := (H.called b4).add o4.slB
  clear o4 b4
  go_wp2_with fail
  refine (both_calls _ _ _ _ _ (H.get (v3) (R3) (by simp)) (H.get (.slice aduc muc cpuc) (C) (by simp)) (by omega)).mono ?_
  rintro e x5 ⟨v4, R4, rfl, o5, b5, iR4, lR4⟩
  replace H := (H.called b5).add o5.slB
  clear o5 b5
  go_wp2_with fail
  refine (same_calls _ _ _ _ _ (H.get (v2) (R2) (by simp)) (H.get (v4) (R4) (by simp))).mono ?_
  rintro e x6 ⟨rfl, b6⟩
  replace H := H.called b6
  clear b6
  rw [decide_eq_true (show R2 = R4 from iR2.unique iR4 (fun K hK => by simp only [iR1.2 K hK, iR3.2 K hK, Bool.and_assoc]))]
  go_wp2_with fail
  refine (both_calls _ _ _ _ _ (H.get (.slice adua mua cpua) (A) (by simp)) (H.get (.slice adua mua cpua) (A) (by simp)) (by omega)).mono ?_
  rintro e x7 ⟨v5, R5, rfl, o7, b7, iR5, lR5⟩
  replace H := (H.called b7).add o7.slB
  clear o7 b7
  go_wp2_with fail
  refine (clean_calls _ _ _ (H.get (.slice adua mua cpua) (A) (by simp)) (by omega)).mono ?_
  rintro e x8 ⟨v6, R6, rfl, o8, b8, iR6, lR6⟩
  replace H := (H.called b8).add o8.slB
  clear o8 b8
  go_wp2_with fail
  refine (same_calls _ _ _ _ _ (H.get (v5) (R5) (by simp)) (H.get (v6) (R6) (by simp))).mono ?_
  rintro e x9 ⟨rfl, b9⟩
  replace H := H.called b9
  clear b9
  rw [decide_eq_true (show R5 = R6 from iR5.unique iR6 (fun K hK => by simp only [Bool.and_self]))]
  go_wp2_with fail
  refine (join_calls _ _ _ _ _ (H.get (.slice adub mub cpub) (B) (by simp)) (H.get (.slice aduc muc cpuc) (C) (by simp)) (by omega)).mono ?_
  rintro e x10 ⟨v7, rfl, o10, b10⟩
  replace H := (H.called b10).add o10.slB
  clear o10 b10
  go_wp2_with fail
  refine (lesss_calls _ _ _ _ _ (H.get (.slice adua mua cpua) (A) (by simp)) (H.get (v7) (B ++ C) (by simp)) (by rw [List.length_append]; omega)).mono ?_
  rintro e x11 ⟨v8, R8, rfl, o11, b11, iR8, lR8⟩
  replace H := (H.called b11).add o11.slB
  clear o11 b11
  go_wp2_with fail
  refine (lesss_calls _ _ _ _ _ (H.get (.slice adua mua cpua) (A) (by simp)) (H.get (.slice adub mub cpub) (B) (by simp)) (by omega)).mono ?_
  rintro e x12 ⟨v9, R9, rfl, o12, b12, iR9, lR9⟩
  replace H := (H.called b12).add o12.slB
  clear o12 b12
  go_wp2_with fail
  refine (lesss_calls _ _ _ _ _ (H.get (v9) (R9) (by simp)) (H.get (.slice aduc muc cpuc) (C) (by simp)) (by omega)).mono ?_
  rintro e x13 ⟨v10, R10, rfl, o13, b13, iR10, lR10⟩
  replace H := (H.called b13).add o13.slB
  clear o13 b13
  go_wp2_with fail
  refine (same_calls _ _ _ _ _ (H.get (v8) (R8) (by simp)) (H.get (v10) (R10) (by simp))).mono ?_
  rintro e x14 ⟨rfl, b14⟩
  replace H := H.called b14
  clear b14
  rw [decide_eq_true (show R8 = R10 from iR8.unique iR10 (fun K hK => by simp only [mem_append, iR9.2 K hK]; cases mem A (num K) <;> cases mem B (num K) <;> cases mem C (num K) <;> rfl))]
  go_wp2_with fail
  refine (lesss_calls _ _ _ _ _ (H.get (.slice adua mua cpua) (A) (by simp)) (H.get (.slice adua mua cpua) (A) (by simp)) (by omega)).mono ?_
  rintro e x15 ⟨v11, R11, rfl, o15, b15, iR11, lR11⟩
  replace H := (H.called b15).add o15.slB
  clear o15 b15
  obtain rfl : R11 = [] := iR11.none (fun K hK => by cases mem A (num K) <;> rfl)
  obtain ⟨adv11, cpv11, rfl, hcv11, hmv11⟩ := sl_form (H.get (v11) ([]) (by simp))
  simp only [List.length_nil] at *
  go_wp2_with fail
  go_ret
  exact ⟨rfl, H.bel⟩
end Go.Proofs.Ytbdolhmeknlnpab
