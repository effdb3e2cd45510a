/- Sets are put together in whatever order. -/
import Derived.Test.YtbdolhmeknlnpaaSpK
namespace Go.Proofs.Ytbdolhmeknlnpaa
set_option linter.unusedVariables false
open Go.RowKit

set_option maxRecDepth 100000 in
set_option maxHeartbeats 16000000 in
theorem spanJoins_walk (w : World) (ua : Value) (a : List Sp) (hua : Sl encS w ua a) (ub : Value) (b : List Sp) (hub : Sl encS w ub b) (uc : Value) (c : List Sp) (huc : Sl encS w uc c) (KY : List UInt8) (hK : KY.length = 24) :
    Calls Try.prog 8 #[ua, ub, uc, kv KY] w fun e w' => e = .returned (.bool true) ∧ Below w.heap.size w w' := by
  obtain ⟨adua, cpua, rfl, hcua, hmua⟩ := sl_form hua
  have sua := SlB.take hua (min a.length 10) (by omega)
  have eua : a.take (min a.length 10) = a.take 10 := take_min a 10
  rw [eua] at sua
  have hA : (a.take 10).length ≤ 10 := take_len _ _
  have miua : min ((a.length : Nat) : Int) 10 = ((min a.length 10 : Nat) : Int) := by omega
  have mjua : min a.length 10 ≤ cpua ∧ min a.length 10 ≤ 10 := by omega
  unfold maxLen at hmua
  clear eua hua
  generalize a.take 10 = A at *
  generalize min a.length 10 = mua at *
  have mkua : ((mua : Nat) : Int) ≤ ((cpua : Nat) : Int) := by omega
  have mlua : (0 : Int) ≤ ((mua : Nat) : Int) := by omega
  obtain ⟨adub, cpub, rfl, hcub, hmub⟩ := sl_form hub
  have sub := SlB.take hub (min b.length 10) (by omega)
  have eub : b.take (min b.length 10) = b.take 10 := take_min b 10
  rw [eub] at sub
  have hB : (b.take 10).length ≤ 10 := take_len _ _
  have miub : min ((b.length : Nat) : Int) 10 = ((min b.length 10 : Nat) : Int) := by omega
  have mjub : min b.length 10 ≤ cpub ∧ min b.length 10 ≤ 10 := by omega
  unfold maxLen at hmub
  clear eub hub
  generalize b.take 10 = B at *
  generalize min b.length 10 = mub at *
  have mkub : ((mub : Nat) : Int) ≤ ((cpub : Nat) : Int) := by omega
  have mlub : (0 : Int) ≤ ((mub : Nat) : Int) := by omega
  obtain ⟨aduc, cpuc, rfl, hcuc, hmuc⟩ := sl_form huc
  have suc := SlB.take huc (min c.length 10) (by omega)
  have euc : c.take (min c.length 10) = c.take 10 := take_min c 10
  rw [euc] at suc
  have hC : (c.take 10).length ≤ 10 := take_len _ _
  have miuc : min ((c.length : Nat) : Int) 10 = ((min c.length 10 : Nat) : Int) := by omega
  have mjuc : min c.length 10 ≤ cpuc ∧ min c.length 10 ≤ 10 := by omega
  unfold maxLen at hmuc
  clear euc huc
  generalize c.take 10 = C at *
  generalize min c.length 10 = muc at *
  have mkuc : ((muc : Nat) : Int) ≤ ((cpuc : Nat) : Int) := by omega
  have mluc : (0 : Int) ≤ ((muc : Nat) : Int) := by omega
  have H : Hd w w [(.slice adua mua cpua, A), (.slice adub mub cpub, B), (.slice aduc muc cpuc, C)] := ((((Hd.mk (Below.refl _ w) (fun _ h => by cases h) : Hd w w []).add suc).add sub).add sua)
  clear sua sub suc
  go_enter Try.func8, Try.ntmps8
  have HK : Has (w.alloc (.cells (bc KY).toArray 30)) w.heap.size KY := Has.new w KY hK
  replace H := H.called ((Below.refl _ w).alloc (Nat.le_refl _) (.cells (bc KY).toArray 30))
  go_upto_region 1 with fail
  go_wp2_with (refine load_key _ rfl w.heap.size rfl rfl _ HK ?_)
  refine (shown_calls _).mono ?_
  rintro e x1 ⟨rfl, b1⟩
  replace HK := HK.below b1 HK.lt
  replace H := H.called b1
  clear b1
  go_wp2_with (refine load_key _ rfl w.heap.size rfl rfl _ HK ?_)
  refine (join_calls _ _ _ _ _ (H.get (.slice adua mua cpua) (A) (by simp)) (H.get (.slice adub mub cpub) (B) (by simp)) (by omega)).mono ?_
  rintro e x2 ⟨v1, rfl, o2, b2⟩
  replace HK := HK.below b2 HK.lt
  replace H := (H.called b2).add o2.slB
  clear o2 b2
  go_wp2_with (refine load_key _ rfl w.heap.size rfl rfl _ HK ?_)
  refine (join_calls _ _ _ _ _ (H.get (v1) (A ++ B) (by simp)) (H.get (.slice aduc muc cpuc) (C) (by simp)) (by rw [List.length_append]; omega)).mono ?_
  rintro e x3 ⟨v2, rfl, o3, b3⟩
  replace HK := HK.below b3 HK.lt
  replace H := (H.called b3).add o3.slB
  clear o3 b3
  go_wp2_with (refine load_key _ rfl w.heap.size rfl rfl _ HK ?_)
  refine (clean_calls _ _ _ (H.get (v2) (A ++ B ++ C) (by simp)) (by rw [List.length_append, List.length_append]; omega)).mono ?_
  rintro e x4 ⟨v3, R3, rfl, o4, b4, iR3, lR3⟩
  replace HK := HK.below b4 HK.lt
  replace H := (H.called b4).add o4.slB
  clear o4 b4
  go_wp2_with (refine load_key _ rfl w.heap.size rfl rfl _ HK ?_)
  refine (join_calls _ _ _ _ _ (H.get (.slice adub mub cpub) (B) (by simp)) (H.get (.slice aduc muc cpuc) (C) (by simp)) (by omega)).mono ?_
  rintro e x5 ⟨v4, rfl, o5, b5⟩
  replace HK := HK.below b5 HK.lt
  replace H := (H.called b5).add o5.slB
  clear o5 b5
  go_wp2_with (refine load_key _ rfl w.heap.size rfl rfl _ HK ?_)
  refine (clean_calls _ _ _ (H.get (v4) (B ++ C) (by simp)) (by rw [List.length_append]; omega)).mono ?_
  rintro e x6 ⟨v5, R5, rfl, o6, b6, iR5, lR5⟩
  replace HK := HK.below b6 HK.lt
  replace H := (H.called b6).add o6.slB
  clear o6 b6
  rw [List.length_append] at lR5
  go_wp2_with (refine load_key _ rfl w.heap.size rfl rfl _ HK ?_)
  refine (join_calls _ _ _ _ _ (H.get (.slice adua mua cpua) (A) (by simp)) (H.get (v5) (R5) (by simp)) (by omega)).mono ?_
  rintro e x7 ⟨v6, rfl, o7, b7⟩
  replace HK := HK.below b7 HK.lt
  replace H := (H.called b7).add o7.slB
  clear o7 b7
  go_wp2_with (refine load_key _ rfl w.heap.size rfl rfl _ HK ?_)
  refine (clean_calls _ _ _ (H.get (v6) (A ++ R5) (by simp)) (by rw [List.length_append]; omega)).mono ?_
  rintro e x8 ⟨v7, R7, rfl, o8, b8, iR7, lR7⟩
  replace HK := HK.below b8 HK.lt
  replace H := (H.called b8).add o8.slB
  clear o8 b8
  go_wp2_with (refine load_key _ rfl w.heap.size rfl rfl _ HK ?_)
  refine (same_calls _ _ _ _ _ (H.get (v7) (R7) (by simp)) (H.get (v3) (R3) (by simp))).mono ?_
  rintro e x9 ⟨rfl, b9⟩
  replace HK := HK.below b9 HK.lt
  replace H := H.called b9
  clear b9
  rw [decide_eq_true (show R7 = R3 from iR7.unique iR3 (fun K hK => by simp only [mem_append, iR5.2 K hK, Bool.or_assoc]))]
  go_wp2_with (refine load_key _ rfl w.heap.size rfl rfl _ HK ?_)
  refine (join_calls _ _ _ _ _ (H.get (.slice adub mub cpub) (B) (by simp)) (H.get (.slice adua mua cpua) (A) (by simp)) (by omega)).mono ?_
  rintro e x10 ⟨v8, rfl, o10, b10⟩
  replace HK := HK.below b10 HK.lt
  replace H := (H.called b10).add o10.slB
  clear o10 b10
  go_wp2_with (refine load_key _ rfl w.heap.size rfl rfl _ HK ?_)
  refine (join_calls _ _ _ _ _ (H.get (.slice aduc muc cpuc) (C) (by simp)) (H.get (v8) (B ++ A) (by simp)) (by rw [List.length_append]; omega)).mono ?_
  rintro e x11 ⟨v9, rfl, o11, b11⟩
  replace HK := HK.below b11 HK.lt
  replace H := (H.called b11).add o11.slB
  clear o11 b11
  go_wp2_with (refine load_key _ rfl w.heap.size rfl rfl _ HK ?_)
  refine (clean_calls _ _ _ (H.get (v9) (C ++ (B ++ A)) (by simp)) (by rw [List.length_append, List.length_append]; omega)).mono ?_
  rintro e x12 ⟨v10, R10, rfl, o12, b12, iR10, lR10⟩
  replace HK := HK.below b12 HK.lt
  replace H := (H.called b12).add o12.slB
  clear o12 b12
  go_wp2_with (refine load_key _ rfl w.heap.size rfl rfl _ HK ?_)
  refine (same_calls _ _ _ _ _ (H.get (v10) (R10) (by simp)) (H.get (v3) (R3) (by simp))).mono ?_
  rintro e x13 ⟨rfl, b13⟩
  replace HK := HK.below b13 HK.lt
  replace H := H.called b13
  clear b13
  rw [decide_eq_true (show R10 = R3 from iR10.unique iR3 (fun K hK => by simp only [mem_append]; cases mem A (num K) <;> cases mem B (num K) <;> cases mem C (num K) <;> rfl))]
  cases qA : mem A (num KY)
  · cases qB : mem B (num KY)
    · cases qC : mem C (num KY)
      · skip
        go_wp2_with (refine load_key _ rfl w.heap.size rfl rfl _ HK ?_)
        refine (has_calls _ _ _ (H.get (.slice adua mua cpua) (A) (by simp)) KY hK).mono ?_
        rintro e x14 ⟨rfl, b14⟩
        replace HK := HK.below b14 HK.lt
        replace H := H.called b14
        clear b14
        rw [show mem (A) (num KY) = false from qA]
        go_wp2_with (refine load_key _ rfl w.heap.size rfl rfl _ HK ?_)
        refine (has_calls _ _ _ (H.get (.slice adub mub cpub) (B) (by simp)) KY hK).mono ?_
        rintro e x15 ⟨rfl, b15⟩
        replace HK := HK.below b15 HK.lt
        replace H := H.called b15
        clear b15
        rw [show mem (B) (num KY) = false from qB]
        go_wp2_with (refine load_key _ rfl w.heap.size rfl rfl _ HK ?_)
        refine (has_calls _ _ _ (H.get (.slice aduc muc cpuc) (C) (by simp)) KY hK).mono ?_
        rintro e x16 ⟨rfl, b16⟩
        replace HK := HK.below b16 HK.lt
        replace H := H.called b16
        clear b16
        rw [show mem (C) (num KY) = false from qC]
        go_wp2_with (refine load_key _ rfl w.heap.size rfl rfl _ HK ?_)
        refine (has_calls _ _ _ (H.get (v3) (R3) (by simp)) KY hK).mono ?_
        rintro e x17 ⟨rfl, b17⟩
        replace HK := HK.below b17 HK.lt
        replace H := H.called b17
        clear b17
        rw [show mem (R3) (num KY) = false from (by rw [iR3.2 KY hK, mem_append, mem_append, qA, qB, qC]; rfl)]
        go_wp2_with (refine load_key _ rfl w.heap.size rfl rfl _ HK ?_)
        go_ret
        exact ⟨rfl, H.bel⟩
      · skip
        go_wp2_with (refine load_key _ rfl w.heap.size rfl rfl _ HK ?_)
        refine (has_calls _ _ _ (H.get (.slice adua mua cpua) (A) (by simp)) KY hK).mono ?_
        rintro e x14 ⟨rfl, b14⟩
        replace HK := HK.below b14 HK.lt
        replace H := H.called b14
        clear b14
        rw [show mem (A) (num KY) = false from qA]
        go_wp2_with (refine load_key _ rfl w.heap.size rfl rfl _ HK ?_)
        refine (has_calls _ _ _ (H.get (.slice adub mub cpub) (B) (by simp)) KY hK).mono ?_
        rintro e x15 ⟨rfl, b15⟩
        replace HK := HK.below b15 HK.lt
        replace H := H.called b15
        clear b15
        rw [show mem (B) (num KY) = false from qB]
        go_wp2_with (refine load_key _ rfl w.heap.size rfl rfl _ HK ?_)
        refine (has_calls _ _ _ (H.get (.slice aduc muc cpuc) (C) (by simp)) KY hK).mono ?_
        rintro e x16 ⟨rfl, b16⟩
        replace HK := HK.below b16 HK.lt
        replace H := H.called b16
        clear b16
        rw [show mem (C) (num KY) = true from qC]
        go_wp2_with (refine load_key _ rfl w.heap.size rfl rfl _ HK ?_)
        refine (has_calls _ _ _ (H.get (v3) (R3) (by simp)) KY hK).mono ?_
        rintro e x17 ⟨rfl, b17⟩
        replace HK := HK.below b17 HK.lt
        replace H := H.called b17
        clear b17
        rw [show mem (R3) (num KY) = true from (by rw [iR3.2 KY hK, mem_append, mem_append, qA, qB, qC]; rfl)]
        go_wp2_with (refine load_key _ rfl w.heap.size rfl rfl _ HK ?_)
        go_ret
        exact ⟨rfl, H.bel⟩
    · skip
      go_wp2_with (refine load_key _ rfl w.heap.size rfl rfl _ HK ?_)
      refine (has_calls _ _ _ (H.get (.slice adua mua cpua) (A) (by simp)) KY hK).mono ?_
      rintro e x14 ⟨rfl, b14⟩
      replace HK := HK.below b14 HK.lt
      replace H := H.called b14
      clear b14
      rw [show mem (A) (num KY) = false from qA]
      go_wp2_with (refine load_key _ rfl w.heap.size rfl rfl _ HK ?_)
      refine (has_calls _ _ _ (H.get (.slice adub mub cpub) (B) (by simp)) KY hK).mono ?_
      rintro e x15 ⟨rfl, b15⟩
      replace HK := HK.below b15 HK.lt
      replace H := H.called b15
      clear b15
      rw [show mem (B) (num KY) = true from qB]
      go_wp2_with (refine load_key _ rfl w.heap.size rfl rfl _ HK ?_)
      refine (has_calls _ _ _ (H.get (v3) (R3) (by simp)) KY hK).mono ?_
      rintro e x16 ⟨rfl, b16⟩
      replace HK := HK.below b16 HK.lt
      replace H := H.called b16
      clear b16
      rw [show mem (R3) (num KY) = true from (by rw [iR3.2 KY hK, mem_append, mem_append, qA, qB]; rfl)]
      go_wp2_with (refine load_key _ rfl w.heap.size rfl rfl _ HK ?_)
      go_ret
      exact ⟨rfl, H.bel⟩
  · skip
    go_wp2_with (refine load_key _ rfl w.heap.size rfl rfl _ HK ?_)
    refine (has_calls _ _ _ (H.get (.slice adua mua cpua) (A) (by simp)) KY hK).mono ?_
    rintro e x14 ⟨rfl, b14⟩
    replace HK := HK.below b14 HK.lt
    replace H := H.called b14
    clear b14
    rw [show mem (A) (num KY) = true from qA]
    go_wp2_with (refine load_key _ rfl w.heap.size rfl rfl _ HK ?_)
    refine (has_calls _ _ _ (H.get (v3) (R3) (by simp)) KY hK).mono ?_
    rintro e x15 ⟨rfl, b15⟩
    replace HK := HK.below b15 HK.lt
    replace H := H.called b15
    clear b15
    rw [show mem (R3) (num KY) = true from (by rw [iR3.2 KY hK, mem_append, mem_append, qA]; rfl)]
    go_wp2_with (refine load_key _ rfl w.heap.size rfl rfl _ HK ?_)
    go_ret
    exact ⟨rfl, H.bel⟩
end Go.Proofs.Ytbdolhmeknlnpaa
