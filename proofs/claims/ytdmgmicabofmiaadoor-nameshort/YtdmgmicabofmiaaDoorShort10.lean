/- What is short is not longer than it may be, and begins as the text does. -/
import Derived.Test.YtdmgmicabofmiaaDoorNaG
namespace Go.Proofs.YtdmgmicabofmiaaDoor
set_option linter.unusedVariables false
open Go.RowKit

theorem take_pre (s : ByteArray) (x : List UInt8) (k : Nat) (hk : k ≤ s.size) (hx : x = s.data.toList.take k ++ [226, 128, 166]) :
    (⟨x.toArray⟩ : ByteArray).size = k + 3 ∧ ((⟨x.toArray⟩ : ByteArray).extract k (k + 3)).toList = [226, 128, 166] ∧ (⟨x.toArray⟩ : ByteArray).extract 0 k = s.extract 0 k ∧ (s.extract 0 k).data.toList = s.data.toList.take k := by
  have hl : (s.data.toList.take k).length = k := by rw [List.length_take, toList_size]; omega
  subst hx
  refine ⟨?_, ?_, ?_, ?_⟩
  · show (s.data.toList.take k ++ [226, 128, 166]).toArray.size = k + 3
    simp [hl]
  · rw [Lib.extract_toList]
    show ((s.data.toList.take k ++ [226, 128, 166]).drop k).take (k + 3 - k) = _
    rw [List.drop_left' hl, Nat.add_sub_cancel_left]; rfl
  · apply bl_inj
    rw [Lib.extract_data, Lib.extract_data]
    show ((s.data.toList.take k ++ [226, 128, 166]).drop 0).take (k - 0) = _
    simp [List.take_append_of_le_length (Nat.le_of_eq hl.symm), List.take_take]
  · rw [Lib.extract_data]; simp

theorem sub3 (Z q : Nat) (h : Z = q + 3) (hq : q ≤ 1000000) : wrap64 ((Z : Int) - 3) = (q : Int) := by rw [wrap64_ok (by omega) (by omega)]; omega
theorem sub3' (Z q : Nat) (h : Z = q + 3) (hq : q ≤ 1000000) : IntKind.i64.wrap ((Z : Int) - 3) = (q : Int) := by rw [IntKind.wrap_i64]; omega
theorem sub1 (k k1 : Nat) (h : k = k1 + 1) (hq : k ≤ 1000000) : wrap64 ((k : Int) - 1) = (k1 : Int) := by rw [wrap64_ok (by omega) (by omega)]; omega
set_option maxRecDepth 1000000 in
set_option maxHeartbeats 4000000 in
theorem nameShort_walk (w : World) (s : ByteArray) (n : Int) :
    Calls Tryd.prog 6 #[.string s, .int .i64 n] w fun e w' => e = .returned (.bool true) ∧ Below w.heap.size w w' := by
  obtain ⟨m, hm1, hm2, hm3⟩ := cut_text s 300 300 rfl
  have ha := and511 n
  obtain ⟨k, hk, hk5⟩ : ∃ k : Nat, n % 512 = (k : Int) ∧ k ≤ 511 := ⟨(n % 512).toNat, by omega, by omega⟩
  rw [hk] at ha
  clear hk
  go_enter Tryd.func6, Tryd.ntmps6
  go_wp2_with fail
  refine (shown_calls w).mono ?_
  rintro e w1 ⟨rfl, b1⟩
  go_wp2_with fail
  generalize s.extract 0 m = S at *
  clear hm1 hm2 ha
  refine (short_calls S (k : Int) (le_i64 (by omega)) (by omega) w1).mono ?_
  rintro e w2 ⟨rfl, b2⟩
  go_wp2_with fail
  refine (width_calls S (by omega) w2).mono ?_
  rintro e w3 ⟨rfl, b3⟩
  have B2 := b1.trans (b2.mono b1.size)
  have B3 := B2.trans (b3.mono B2.size)
  clear b1 b2 b3 B2
  have hwl : wid S.data.toList ≤ 300 := by have := wid_le _ S.data.toList rfl; rw [toList_size] at this; omega
  by_cases hk0 : k = 0
  · subst hk0
    have HX : shortP S.data.toList ((0 : Nat) : Int) = [] := by rw [shortP, if_pos (by decide)]
    rw [HX]
    clear HX hk5
    go_wp2_with fail
    go_ret
    exact ⟨rfl, B3⟩
  have hkz : ¬ (k : Int) = 0 := by omega
  obtain ⟨V, hV⟩ : ∃ V : Nat, wid S.data.toList = V := ⟨_, rfl⟩
  by_cases hle : V ≤ k
  · have HX : shortP S.data.toList (k : Int) = S.data.toList := by rw [shortP, if_neg (by omega), if_pos (by omega)]
    rw [HX, Lib.mk_data, hV]
    have hleI : (V : Int) ≤ (k : Int) := by omega
    clear HX hk5 hV hk0 hwl
    go_wp2_with fail
    go_ret
    exact ⟨by simp, B3⟩
  · obtain ⟨q, hq⟩ : ∃ q, pre (k - 1) S.data.toList = q := ⟨_, rfl⟩
    have hq0 : q ≤ S.size := by have := pre_le (k - 1) S.data.toList; rw [toList_size] at this; omega
    have HX : shortP S.data.toList (k : Int) = S.data.toList.take q ++ [226, 128, 166] := by rw [shortP, if_neg (by omega), if_neg (by omega), ← hq]; rfl
    have hwq : wid (S.data.toList.take q) = k - 1 := by rw [← hq]; exact (pre_wid (k - 1) S.data.toList (by omega)).2
    obtain ⟨x1, x2, x3, x4⟩ := take_pre S _ q hq0 HX
    rw [hV]
    generalize (⟨(shortP S.data.toList (k : Int)).toArray⟩ : ByteArray) = X at *
    have HW : Hid (wid (S.extract 0 q).data.toList = k - 1) := (show _ = _ by rw [x4, hwq])
    have hleI : ¬ (V : Int) ≤ (k : Int) := by omega
    have HQ : Hid (q ≤ 300 ∧ (S.extract 0 q).size ≤ 300) := ⟨by omega, by rw [ByteArray.size_extract]; omega⟩
    clear HX hV hwl hwq x4 hq hle
    obtain ⟨Z, hZ⟩ : ∃ Z : Nat, X.size = Z := ⟨_, rfl⟩
    obtain ⟨k1, hk1⟩ : ∃ k1 : Nat, k - 1 = k1 := ⟨_, rfl⟩
    rw [hk1] at HW
    have hzq : Z = q + 3 := by omega
    have hz3 : ¬ (Z : Int) < 3 := by omega
    have hs1 : wrap64 ((Z : Int) - 3) = (q : Int) := sub3 Z q hzq (by omega)
    have hs2 : IntKind.i64.wrap ((Z : Int) - 3) = (q : Int) := sub3' Z q hzq (by omega)
    have hs4 : wrap64 ((k : Int) - 1) = (k1 : Int) := sub1 k k1 (by omega) (by omega)
    have hqS : ¬ (q : Int) > (S.size : Int) := by omega
    have hqS2 : (q : Int) ≤ (S.size : Int) := by omega
    have hqZ : (q : Int) ≤ (Z : Int) := by omega
    rw [← hzq] at x2
    have c := fun w => width_calls (S.extract 0 q) (Nat.le_trans HQ.out.2 (by decide)) w
    have hww := HW.out
    rw [hww] at c
    have hz3b : decide ((Z : Int) < 3) = false := decide_eq_false hz3
    have hqb : decide (S.size < q) = false := decide_eq_false (Nat.not_lt.2 hq0)
    clear x1 hq0 hk0 hk5 hzq hk1 hww HW HQ
    go_upto_region 10 with fail
    go_quiet (fail)
    go_wp2_with (go_at_call 17; refine (c _).mono ?_; rintro e w4 ⟨rfl, b4⟩; clear c)
    go_ret
    exact ⟨by simp, (below_drewN B3 _).trans (b4.mono (below_drewN B3 _).size)⟩
end Go.Proofs.YtdmgmicabofmiaaDoor
