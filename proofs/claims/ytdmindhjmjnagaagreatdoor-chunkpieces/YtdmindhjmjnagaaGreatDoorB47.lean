import Derived.Test.YtdmindhjmjnagaaGreatDoorB46
/- ChunkBad. -/
namespace Go.Proofs.YtdmindhjmjnagaaGreatDoor
set_option linter.unusedVariables false
set_option maxRecDepth 100000
open Go.RowKit

theorem and5000 (n : Int) : 0 ≤ bits .and .i64 5000 n ∧ bits .and .i64 5000 n ≤ 5000 := by
  have h : (BitVec.ofInt 64 5000 &&& BitVec.ofInt 64 n).toNat ≤ 5000 := by
    rw [BitVec.toNat_and]
    exact Nat.le_trans Nat.and_le_left (by decide)
  show 0 ≤ IntKind.i64.wrap ((BitVec.ofInt 64 5000 &&& BitVec.ofInt 64 n).toNat : Nat) ∧ IntKind.i64.wrap ((BitVec.ofInt 64 5000 &&& BitVec.ofInt 64 n).toNat : Nat) ≤ 5000
  rw [IntKind.wrap_i64]
  omega
theorem str_cut100 (v : List UInt8) : (str v).extract 0 (min ((str v).size : Int) 100).toNat = str (v.take 100) := by
  have h : (min ((str v).size : Int) 100).toNat = min v.length 100 := by rw [str_size]; omega
  rw [h]
  apply ByteArray.ext
  apply Array.ext'
  rw [ByteArray.data_extract]
  simp only [Array.toList_extract, str_list, List.extract_eq_take_drop, List.drop_zero, Nat.sub_zero]
  by_cases q : v.length ≤ 100
  · rw [Nat.min_eq_left q, List.take_length, List.take_of_length_le q]
  · rw [Nat.min_eq_right (by omega)]
theorem cutV_nil {V : VS} (h : V.C = []) (ino size : Int) : (cutV V ino size).C = [] := by
  unfold cutV
  rw [h]
  rfl
theorem readV_C (V : VS) (ino : Int) (off n : Nat) : (readV V ino off n).C = V.C := by
  unfold readV
  split <;> rfl
set_option maxRecDepth 100000 in
set_option maxHeartbeats 16000000 in
theorem chunkBad_walk (w : World) (ino off n : Int) (s0 : List UInt8) (hoff : off ≤ 9223372036854775807) (hnn : n ≤ 9223372036854775807) :
    Calls Tryz.prog 7 #[.int .i64 ino, .int .i64 off, .int .i64 n, .string (str s0)] w fun e w' => e = .returned (.bool true) ∧ Below w.heap.size w w' := by
  have hsh := shown13_calls w
  go_enter Tryz.func7, Tryz.ntmps7
  go_upto_region 2 with (go_at_call 9; refine hsh.mono ?_; clear hsh; rintro e y0 ⟨rfl, b1⟩)
  have hN1 := nvNew_calls w y0 b1
  clear b1
  go_upto_region 3 with (go_at_call 10; refine hN1.mono ?_; clear hN1; rintro e y1 ⟨dv, rfl, A1, v1, n1, -, -⟩)
  obtain ⟨lim, p, pv, base, q, x0, V0⟩ := dv
  dsimp only at v1 n1 ⊢
  subst v1
  have HA : Hid (NV.at_ ⟨lim, p, pv, base, q, x0, vs0⟩ w y1 ∧ x0.n = 0) := ⟨A1, n1⟩
  clear A1 n1
  have hcut := str_cut100 s0
  have hc0 : (0 : Int) ≤ min ((str s0).size : Int) 100 := by omega
  have hc1 : min ((str s0).size : Int) 100 ≤ ((str s0).size : Int) := by omega
  go_upto_region 6 with fail
  have hsl : (s0.take 100).length ≤ 100 := by rw [List.length_take]; omega
  generalize s0.take 100 = s at *
  have hss : (str s).size = s.length := str_size s
  clear hcut hc0 hc1
  by_cases hi1 : 1 ≤ ino
  · by_cases hi2 : ino < 1073741824
    · have hI : okNum ino = true := by unfold okNum; simp; omega
      by_cases ho0 : 0 ≤ off
      · by_cases ho1 : off ≤ 1048576
        · obtain ⟨o, rfl⟩ := Int.eq_ofNat_of_zero_le ho0
          have ho2 : o ≤ 1048576 := by omega
          by_cases hn0 : 0 ≤ n
          · by_cases hn1 : n ≤ 1048576 - (o : Int)
            · by_cases hn2 : n > 5000
              · have hm := and5000 n
                generalize hmm : bits .and .i64 5000 n = m0 at *
                obtain ⟨m, hm3⟩ := Int.eq_ofNat_of_zero_le hm.1
                subst hm3
                have hm1 := hm.2
                by_cases hw1 : (s.length : Int) ≤ 1048576 - (o : Int)
                · have hR := nvRead HA.out.1 ino o m hI (by show x0.n ≤ 5000; have := HA.out.2; omega) (Nat.zero_le _) (by omega)
                  have hon : Hid (o + m ≤ 1048576) := (show _ ≤ _ by omega)
                  go_upto_region 11 with (go_at_call 16; refine hR.mono ?_; clear hR; rintro e y2 ⟨rfl, x1, T1⟩)
                  have HA1 : Hid (NV.at_ ⟨lim, p, pv, base, q, x1, readV vs0 ino o m⟩ w y2 ∧ x1.n ≤ 4 ∧ (readV vs0 ino o m).C = []) := ⟨NV.ran (d := ⟨lim, p, pv, base, q, x0, vs0⟩) T1, by have h : x1.n ≤ x0.n + 4 := T1.n; have := HA.out.2; omega, readV_C _ _ _ _⟩
                  clear T1
                  generalize readB (NV.V ⟨lim, p, pv, base, q, x0, vs0⟩).C ino o m = RB at *
                  generalize readV vs0 ino o m = V1 at *
                  have hC := nvCut HA1.out.1 ino (o : Int) hI (by omega) (by show x1.n + 4 + 4 * V1.C.length ≤ 5000; rw [HA1.out.2.2]; have := HA1.out.2.1; simp only [List.length_nil]; omega)
                  go_upto_region 12 with (go_at_call 14; refine hC.mono ?_; clear hC; rintro e y3 ⟨rfl, x2, T2⟩)
                  have HA2 : Hid (NV.at_ ⟨lim, p, pv, base, q, x2, cutV V1 ino (o : Int)⟩ w y3 ∧ x2.n ≤ 8 ∧ (cutV V1 ino (o : Int)).C = []) := ⟨NV.ran (d := ⟨lim, p, pv, base, q, x1, V1⟩) T2, by have h : x2.n ≤ x1.n + 4 + 4 * V1.C.length := T2.n; rw [HA1.out.2.2] at h; have := HA1.out.2.1; simp only [List.length_nil] at h; omega, cutV_nil HA1.out.2.2 _ _⟩
                  clear T2
                  generalize cutV V1 ino (o : Int) = V2 at *
                  have hG := nvChanges HA2.out.1 (by show x2.n ≤ 5000; have := HA2.out.2.1; omega)
                  rw [show (NV.V ⟨lim, p, pv, base, q, x2, V2⟩).C.length = 0 by show V2.C.length = 0; rw [HA2.out.2.2]; rfl] at hG
                  go_upto_region 13 with (go_at_call 19; refine hG.mono ?_; clear hG; rintro e y4 ⟨ad4, cap4, rfl, -, b4⟩)
                  have HA4 : Hid (NV.at_ ⟨lim, p, pv, base, q, x2, V2⟩ w y4) := NV.called HA2.out.1 b4
                  clear b4
                  have hpn : pN o s.length ≤ 32768 := pN_le (by omega)
                  have hpn2 : pN o s.length ≤ 5 := by unfold pN; split <;> omega
                  have hW := nvWrite HA4.out ino o s hI (by show x2.n + 5 * pN o s.length ≤ 5000; have := HA2.out.2.1; omega) (by omega)
                  go_wp2_with (go_at_call 12; refine hW.mono ?_; clear hW; rintro e y5 ⟨rfl, x3, T3⟩
                               have HB : Hid (Below w.heap.size w y5) := T3.at_.bel
                               clear T3)
                  go_ret
                  exact ⟨rfl, HB.out⟩
                · have hdw1 : decide ((s.length : Int) ≤ 1048576 - (o : Int)) = false := decide_eq_false hw1
                  have hBadW : (okNum ino && okW (o : Int) (s.length : Int)) = false := by rw [hI, Bool.true_and]; unfold okW; simp; omega
                  have hR := nvRead HA.out.1 ino o m hI (by show x0.n ≤ 5000; have := HA.out.2; omega) (Nat.zero_le _) (by omega)
                  have hon : Hid (o + m ≤ 1048576) := (show _ ≤ _ by omega)
                  go_upto_region 11 with (go_at_call 16; refine hR.mono ?_; clear hR; rintro e y2 ⟨rfl, x1, T1⟩)
                  have HA1 : Hid (NV.at_ ⟨lim, p, pv, base, q, x1, readV vs0 ino o m⟩ w y2 ∧ x1.n ≤ 4 ∧ (readV vs0 ino o m).C = []) := ⟨NV.ran (d := ⟨lim, p, pv, base, q, x0, vs0⟩) T1, by have h : x1.n ≤ x0.n + 4 := T1.n; have := HA.out.2; omega, readV_C _ _ _ _⟩
                  clear T1
                  generalize readB (NV.V ⟨lim, p, pv, base, q, x0, vs0⟩).C ino o m = RB at *
                  generalize readV vs0 ino o m = V1 at *
                  have hC := nvCut HA1.out.1 ino (o : Int) hI (by omega) (by show x1.n + 4 + 4 * V1.C.length ≤ 5000; rw [HA1.out.2.2]; have := HA1.out.2.1; simp only [List.length_nil]; omega)
                  go_upto_region 12 with (go_at_call 14; refine hC.mono ?_; clear hC; rintro e y3 ⟨rfl, x2, T2⟩)
                  have HA2 : Hid (NV.at_ ⟨lim, p, pv, base, q, x2, cutV V1 ino (o : Int)⟩ w y3 ∧ x2.n ≤ 8 ∧ (cutV V1 ino (o : Int)).C = []) := ⟨NV.ran (d := ⟨lim, p, pv, base, q, x1, V1⟩) T2, by have h : x2.n ≤ x1.n + 4 + 4 * V1.C.length := T2.n; rw [HA1.out.2.2] at h; have := HA1.out.2.1; simp only [List.length_nil] at h; omega, cutV_nil HA1.out.2.2 _ _⟩
                  clear T2
                  generalize cutV V1 ino (o : Int) = V2 at *
                  have hG := nvChanges HA2.out.1 (by show x2.n ≤ 5000; have := HA2.out.2.1; omega)
                  rw [show (NV.V ⟨lim, p, pv, base, q, x2, V2⟩).C.length = 0 by show V2.C.length = 0; rw [HA2.out.2.2]; rfl] at hG
                  go_upto_region 13 with (go_at_call 19; refine hG.mono ?_; clear hG; rintro e y4 ⟨ad4, cap4, rfl, -, b4⟩)
                  have HA4 : Hid (NV.at_ ⟨lim, p, pv, base, q, x2, V2⟩ w y4) := NV.called HA2.out.1 b4
                  clear b4
                  have hW := cWrite_bad y4 q ino (o : Int) s (by omega) (by omega) (hBadW)
                  go_upto_region 14 with (go_at_call 12; refine hW.mono ?_; clear hW; rintro e y5 ⟨rfl, b5⟩)
                  have A5 : NV.at_ ⟨lim, p, pv, base, q, x2, V2⟩ w y5 := NV.called HA4.out b5
                  have hH := nvChanges A5 (by show x2.n ≤ 5000; have := HA2.out.2.1; omega)
                  rw [show (NV.V ⟨lim, p, pv, base, q, x2, V2⟩).C.length = 0 by show V2.C.length = 0; rw [HA2.out.2.2]; rfl] at hH
                  have HB : Hid (Below w.heap.size w y5) := VAt.bel A5
                  clear A5 b5
                  go_wp2_with (go_at_call 19; refine hH.mono ?_; clear hH; rintro e y6 ⟨ad6, cap6, rfl, -, b6⟩)
                  go_ret
                  exact ⟨rfl, HB.out.trans (b6.mono HB.out.size)⟩
              · obtain ⟨m, rfl⟩ := Int.eq_ofNat_of_zero_le hn0
                by_cases hw1 : (s.length : Int) ≤ 1048576 - (o : Int)
                · have hR := nvRead HA.out.1 ino o m hI (by show x0.n ≤ 5000; have := HA.out.2; omega) (Nat.zero_le _) (by omega)
                  have hon : Hid (o + m ≤ 1048576) := (show _ ≤ _ by omega)
                  go_upto_region 11 with (go_at_call 16; refine hR.mono ?_; clear hR; rintro e y2 ⟨rfl, x1, T1⟩)
                  have HA1 : Hid (NV.at_ ⟨lim, p, pv, base, q, x1, readV vs0 ino o m⟩ w y2 ∧ x1.n ≤ 4 ∧ (readV vs0 ino o m).C = []) := ⟨NV.ran (d := ⟨lim, p, pv, base, q, x0, vs0⟩) T1, by have h : x1.n ≤ x0.n + 4 := T1.n; have := HA.out.2; omega, readV_C _ _ _ _⟩
                  clear T1
                  generalize readB (NV.V ⟨lim, p, pv, base, q, x0, vs0⟩).C ino o m = RB at *
                  generalize readV vs0 ino o m = V1 at *
                  have hC := nvCut HA1.out.1 ino (o : Int) hI (by omega) (by show x1.n + 4 + 4 * V1.C.length ≤ 5000; rw [HA1.out.2.2]; have := HA1.out.2.1; simp only [List.length_nil]; omega)
                  go_upto_region 12 with (go_at_call 14; refine hC.mono ?_; clear hC; rintro e y3 ⟨rfl, x2, T2⟩)
                  have HA2 : Hid (NV.at_ ⟨lim, p, pv, base, q, x2, cutV V1 ino (o : Int)⟩ w y3 ∧ x2.n ≤ 8 ∧ (cutV V1 ino (o : Int)).C = []) := ⟨NV.ran (d := ⟨lim, p, pv, base, q, x1, V1⟩) T2, by have h : x2.n ≤ x1.n + 4 + 4 * V1.C.length := T2.n; rw [HA1.out.2.2] at h; have := HA1.out.2.1; simp only [List.length_nil] at h; omega, cutV_nil HA1.out.2.2 _ _⟩
                  clear T2
                  generalize cutV V1 ino (o : Int) = V2 at *
                  have hG := nvChanges HA2.out.1 (by show x2.n ≤ 5000; have := HA2.out.2.1; omega)
                  rw [show (NV.V ⟨lim, p, pv, base, q, x2, V2⟩).C.length = 0 by show V2.C.length = 0; rw [HA2.out.2.2]; rfl] at hG
                  go_upto_region 13 with (go_at_call 19; refine hG.mono ?_; clear hG; rintro e y4 ⟨ad4, cap4, rfl, -, b4⟩)
                  have HA4 : Hid (NV.at_ ⟨lim, p, pv, base, q, x2, V2⟩ w y4) := NV.called HA2.out.1 b4
                  clear b4
                  have hpn : pN o s.length ≤ 32768 := pN_le (by omega)
                  have hpn2 : pN o s.length ≤ 5 := by unfold pN; split <;> omega
                  have hW := nvWrite HA4.out ino o s hI (by show x2.n + 5 * pN o s.length ≤ 5000; have := HA2.out.2.1; omega) (by omega)
                  go_wp2_with (go_at_call 12; refine hW.mono ?_; clear hW; rintro e y5 ⟨rfl, x3, T3⟩
                               have HB : Hid (Below w.heap.size w y5) := T3.at_.bel
                               clear T3)
                  go_ret
                  exact ⟨rfl, HB.out⟩
                · have hdw1 : decide ((s.length : Int) ≤ 1048576 - (o : Int)) = false := decide_eq_false hw1
                  have hBadW : (okNum ino && okW (o : Int) (s.length : Int)) = false := by rw [hI, Bool.true_and]; unfold okW; simp; omega
                  have hR := nvRead HA.out.1 ino o m hI (by show x0.n ≤ 5000; have := HA.out.2; omega) (Nat.zero_le _) (by omega)
                  have hon : Hid (o + m ≤ 1048576) := (show _ ≤ _ by omega)
                  go_upto_region 11 with (go_at_call 16; refine hR.mono ?_; clear hR; rintro e y2 ⟨rfl, x1, T1⟩)
                  have HA1 : Hid (NV.at_ ⟨lim, p, pv, base, q, x1, readV vs0 ino o m⟩ w y2 ∧ x1.n ≤ 4 ∧ (readV vs0 ino o m).C = []) := ⟨NV.ran (d := ⟨lim, p, pv, base, q, x0, vs0⟩) T1, by have h : x1.n ≤ x0.n + 4 := T1.n; have := HA.out.2; omega, readV_C _ _ _ _⟩
                  clear T1
                  generalize readB (NV.V ⟨lim, p, pv, base, q, x0, vs0⟩).C ino o m = RB at *
                  generalize readV vs0 ino o m = V1 at *
                  have hC := nvCut HA1.out.1 ino (o : Int) hI (by omega) (by show x1.n + 4 + 4 * V1.C.length ≤ 5000; rw [HA1.out.2.2]; have := HA1.out.2.1; simp only [List.length_nil]; omega)
                  go_upto_region 12 with (go_at_call 14; refine hC.mono ?_; clear hC; rintro e y3 ⟨rfl, x2, T2⟩)
                  have HA2 : Hid (NV.at_ ⟨lim, p, pv, base, q, x2, cutV V1 ino (o : Int)⟩ w y3 ∧ x2.n ≤ 8 ∧ (cutV V1 ino (o : Int)).C = []) := ⟨NV.ran (d := ⟨lim, p, pv, base, q, x1, V1⟩) T2, by have h : x2.n ≤ x1.n + 4 + 4 * V1.C.length := T2.n; rw [HA1.out.2.2] at h; have := HA1.out.2.1; simp only [List.length_nil] at h; omega, cutV_nil HA1.out.2.2 _ _⟩
                  clear T2
                  generalize cutV V1 ino (o : Int) = V2 at *
                  have hG := nvChanges HA2.out.1 (by show x2.n ≤ 5000; have := HA2.out.2.1; omega)
                  rw [show (NV.V ⟨lim, p, pv, base, q, x2, V2⟩).C.length = 0 by show V2.C.length = 0; rw [HA2.out.2.2]; rfl] at hG
                  go_upto_region 13 with (go_at_call 19; refine hG.mono ?_; clear hG; rintro e y4 ⟨ad4, cap4, rfl, -, b4⟩)
                  have HA4 : Hid (NV.at_ ⟨lim, p, pv, base, q, x2, V2⟩ w y4) := NV.called HA2.out.1 b4
                  clear b4
                  have hW := cWrite_bad y4 q ino (o : Int) s (by omega) (by omega) (hBadW)
                  go_upto_region 14 with (go_at_call 12; refine hW.mono ?_; clear hW; rintro e y5 ⟨rfl, b5⟩)
                  have A5 : NV.at_ ⟨lim, p, pv, base, q, x2, V2⟩ w y5 := NV.called HA4.out b5
                  have hH := nvChanges A5 (by show x2.n ≤ 5000; have := HA2.out.2.1; omega)
                  rw [show (NV.V ⟨lim, p, pv, base, q, x2, V2⟩).C.length = 0 by show V2.C.length = 0; rw [HA2.out.2.2]; rfl] at hH
                  have HB : Hid (Below w.heap.size w y5) := VAt.bel A5
                  clear A5 b5
                  go_wp2_with (go_at_call 19; refine hH.mono ?_; clear hH; rintro e y6 ⟨ad6, cap6, rfl, -, b6⟩)
                  go_ret
                  exact ⟨rfl, HB.out.trans (b6.mono HB.out.size)⟩
            · have hdn1 : decide (n ≤ 1048576 - (o : Int)) = false := decide_eq_false hn1
              have hBadR : (okNum ino && okW (o : Int) n) = false := by rw [hI, Bool.true_and]; unfold okW; simp; omega
              by_cases hw1 : (s.length : Int) ≤ 1048576 - (o : Int)
              · by_cases hn2 : n > 5000
                · have hR := cRead_bad y1 q ino (o : Int) n hnn (by omega) (hBadR)
                  go_upto_region 11 with (go_at_call 16; refine hR.mono ?_; clear hR; rintro e y2 ⟨rfl, b2⟩)
                  obtain ⟨x1, hx1⟩ : ∃ x1, x1 = x0 := ⟨x0, rfl⟩
                  obtain ⟨V1, hV1⟩ : ∃ V1, V1 = vs0 := ⟨vs0, rfl⟩
                  have HA1 : Hid (NV.at_ ⟨lim, p, pv, base, q, x1, V1⟩ w y2 ∧ x1.n ≤ 4 ∧ V1.C = []) := (show _ ∧ _ ∧ _ by rw [hx1, hV1]; exact ⟨NV.called HA.out.1 b2, by have := HA.out.2; omega, rfl⟩)
                  clear b2 hx1 hV1
                  have hC := nvCut HA1.out.1 ino (o : Int) hI (by omega) (by show x1.n + 4 + 4 * V1.C.length ≤ 5000; rw [HA1.out.2.2]; have := HA1.out.2.1; simp only [List.length_nil]; omega)
                  go_upto_region 12 with (go_at_call 14; refine hC.mono ?_; clear hC; rintro e y3 ⟨rfl, x2, T2⟩)
                  have HA2 : Hid (NV.at_ ⟨lim, p, pv, base, q, x2, cutV V1 ino (o : Int)⟩ w y3 ∧ x2.n ≤ 8 ∧ (cutV V1 ino (o : Int)).C = []) := ⟨NV.ran (d := ⟨lim, p, pv, base, q, x1, V1⟩) T2, by have h : x2.n ≤ x1.n + 4 + 4 * V1.C.length := T2.n; rw [HA1.out.2.2] at h; have := HA1.out.2.1; simp only [List.length_nil] at h; omega, cutV_nil HA1.out.2.2 _ _⟩
                  clear T2
                  generalize cutV V1 ino (o : Int) = V2 at *
                  have hG := nvChanges HA2.out.1 (by show x2.n ≤ 5000; have := HA2.out.2.1; omega)
                  rw [show (NV.V ⟨lim, p, pv, base, q, x2, V2⟩).C.length = 0 by show V2.C.length = 0; rw [HA2.out.2.2]; rfl] at hG
                  go_upto_region 13 with (go_at_call 19; refine hG.mono ?_; clear hG; rintro e y4 ⟨ad4, cap4, rfl, -, b4⟩)
                  have HA4 : Hid (NV.at_ ⟨lim, p, pv, base, q, x2, V2⟩ w y4) := NV.called HA2.out.1 b4
                  clear b4
                  have hpn : pN o s.length ≤ 32768 := pN_le (by omega)
                  have hpn2 : pN o s.length ≤ 5 := by unfold pN; split <;> omega
                  have hW := nvWrite HA4.out ino o s hI (by show x2.n + 5 * pN o s.length ≤ 5000; have := HA2.out.2.1; omega) (by omega)
                  go_wp2_with (go_at_call 12; refine hW.mono ?_; clear hW; rintro e y5 ⟨rfl, x3, T3⟩
                               have HB : Hid (Below w.heap.size w y5) := T3.at_.bel
                               clear T3)
                  go_ret
                  exact ⟨rfl, HB.out⟩
                · have hdn2 : decide (n > 5000) = false := decide_eq_false hn2
                  have hR := cRead_bad y1 q ino (o : Int) n hnn (by omega) (hBadR)
                  go_upto_region 11 with (go_at_call 16; refine hR.mono ?_; clear hR; rintro e y2 ⟨rfl, b2⟩)
                  obtain ⟨x1, hx1⟩ : ∃ x1, x1 = x0 := ⟨x0, rfl⟩
                  obtain ⟨V1, hV1⟩ : ∃ V1, V1 = vs0 := ⟨vs0, rfl⟩
                  have HA1 : Hid (NV.at_ ⟨lim, p, pv, base, q, x1, V1⟩ w y2 ∧ x1.n ≤ 4 ∧ V1.C = []) := (show _ ∧ _ ∧ _ by rw [hx1, hV1]; exact ⟨NV.called HA.out.1 b2, by have := HA.out.2; omega, rfl⟩)
                  clear b2 hx1 hV1
                  have hC := nvCut HA1.out.1 ino (o : Int) hI (by omega) (by show x1.n + 4 + 4 * V1.C.length ≤ 5000; rw [HA1.out.2.2]; have := HA1.out.2.1; simp only [List.length_nil]; omega)
                  go_upto_region 12 with (go_at_call 14; refine hC.mono ?_; clear hC; rintro e y3 ⟨rfl, x2, T2⟩)
                  have HA2 : Hid (NV.at_ ⟨lim, p, pv, base, q, x2, cutV V1 ino (o : Int)⟩ w y3 ∧ x2.n ≤ 8 ∧ (cutV V1 ino (o : Int)).C = []) := ⟨NV.ran (d := ⟨lim, p, pv, base, q, x1, V1⟩) T2, by have h : x2.n ≤ x1.n + 4 + 4 * V1.C.length := T2.n; rw [HA1.out.2.2] at h; have := HA1.out.2.1; simp only [List.length_nil] at h; omega, cutV_nil HA1.out.2.2 _ _⟩
                  clear T2
                  generalize cutV V1 ino (o : Int) = V2 at *
                  have hG := nvChanges HA2.out.1 (by show x2.n ≤ 5000; have := HA2.out.2.1; omega)
                  rw [show (NV.V ⟨lim, p, pv, base, q, x2, V2⟩).C.length = 0 by show V2.C.length = 0; rw [HA2.out.2.2]; rfl] at hG
                  go_upto_region 13 with (go_at_call 19; refine hG.mono ?_; clear hG; rintro e y4 ⟨ad4, cap4, rfl, -, b4⟩)
                  have HA4 : Hid (NV.at_ ⟨lim, p, pv, base, q, x2, V2⟩ w y4) := NV.called HA2.out.1 b4
                  clear b4
                  have hpn : pN o s.length ≤ 32768 := pN_le (by omega)
                  have hpn2 : pN o s.length ≤ 5 := by unfold pN; split <;> omega
                  have hW := nvWrite HA4.out ino o s hI (by show x2.n + 5 * pN o s.length ≤ 5000; have := HA2.out.2.1; omega) (by omega)
                  go_wp2_with (go_at_call 12; refine hW.mono ?_; clear hW; rintro e y5 ⟨rfl, x3, T3⟩
                               have HB : Hid (Below w.heap.size w y5) := T3.at_.bel
                               clear T3)
                  go_ret
                  exact ⟨rfl, HB.out⟩
              · have hdw1 : decide ((s.length : Int) ≤ 1048576 - (o : Int)) = false := decide_eq_false hw1
                have hBadW : (okNum ino && okW (o : Int) (s.length : Int)) = false := by rw [hI, Bool.true_and]; unfold okW; simp; omega
                by_cases hn2 : n > 5000
                · have hR := cRead_bad y1 q ino (o : Int) n hnn (by omega) (hBadR)
                  go_upto_region 11 with (go_at_call 16; refine hR.mono ?_; clear hR; rintro e y2 ⟨rfl, b2⟩)
                  obtain ⟨x1, hx1⟩ : ∃ x1, x1 = x0 := ⟨x0, rfl⟩
                  obtain ⟨V1, hV1⟩ : ∃ V1, V1 = vs0 := ⟨vs0, rfl⟩
                  have HA1 : Hid (NV.at_ ⟨lim, p, pv, base, q, x1, V1⟩ w y2 ∧ x1.n ≤ 4 ∧ V1.C = []) := (show _ ∧ _ ∧ _ by rw [hx1, hV1]; exact ⟨NV.called HA.out.1 b2, by have := HA.out.2; omega, rfl⟩)
                  clear b2 hx1 hV1
                  have hC := nvCut HA1.out.1 ino (o : Int) hI (by omega) (by show x1.n + 4 + 4 * V1.C.length ≤ 5000; rw [HA1.out.2.2]; have := HA1.out.2.1; simp only [List.length_nil]; omega)
                  go_upto_region 12 with (go_at_call 14; refine hC.mono ?_; clear hC; rintro e y3 ⟨rfl, x2, T2⟩)
                  have HA2 : Hid (NV.at_ ⟨lim, p, pv, base, q, x2, cutV V1 ino (o : Int)⟩ w y3 ∧ x2.n ≤ 8 ∧ (cutV V1 ino (o : Int)).C = []) := ⟨NV.ran (d := ⟨lim, p, pv, base, q, x1, V1⟩) T2, by have h : x2.n ≤ x1.n + 4 + 4 * V1.C.length := T2.n; rw [HA1.out.2.2] at h; have := HA1.out.2.1; simp only [List.length_nil] at h; omega, cutV_nil HA1.out.2.2 _ _⟩
                  clear T2
                  generalize cutV V1 ino (o : Int) = V2 at *
                  have hG := nvChanges HA2.out.1 (by show x2.n ≤ 5000; have := HA2.out.2.1; omega)
                  rw [show (NV.V ⟨lim, p, pv, base, q, x2, V2⟩).C.length = 0 by show V2.C.length = 0; rw [HA2.out.2.2]; rfl] at hG
                  go_upto_region 13 with (go_at_call 19; refine hG.mono ?_; clear hG; rintro e y4 ⟨ad4, cap4, rfl, -, b4⟩)
                  have HA4 : Hid (NV.at_ ⟨lim, p, pv, base, q, x2, V2⟩ w y4) := NV.called HA2.out.1 b4
                  clear b4
                  have hW := cWrite_bad y4 q ino (o : Int) s (by omega) (by omega) (hBadW)
                  go_upto_region 14 with (go_at_call 12; refine hW.mono ?_; clear hW; rintro e y5 ⟨rfl, b5⟩)
                  have A5 : NV.at_ ⟨lim, p, pv, base, q, x2, V2⟩ w y5 := NV.called HA4.out b5
                  have hH := nvChanges A5 (by show x2.n ≤ 5000; have := HA2.out.2.1; omega)
                  rw [show (NV.V ⟨lim, p, pv, base, q, x2, V2⟩).C.length = 0 by show V2.C.length = 0; rw [HA2.out.2.2]; rfl] at hH
                  have HB : Hid (Below w.heap.size w y5) := VAt.bel A5
                  clear A5 b5
                  go_wp2_with (go_at_call 19; refine hH.mono ?_; clear hH; rintro e y6 ⟨ad6, cap6, rfl, -, b6⟩)
                  go_ret
                  exact ⟨rfl, HB.out.trans (b6.mono HB.out.size)⟩
                · have hdn2 : decide (n > 5000) = false := decide_eq_false hn2
                  have hR := cRead_bad y1 q ino (o : Int) n hnn (by omega) (hBadR)
                  go_upto_region 11 with (go_at_call 16; refine hR.mono ?_; clear hR; rintro e y2 ⟨rfl, b2⟩)
                  obtain ⟨x1, hx1⟩ : ∃ x1, x1 = x0 := ⟨x0, rfl⟩
                  obtain ⟨V1, hV1⟩ : ∃ V1, V1 = vs0 := ⟨vs0, rfl⟩
                  have HA1 : Hid (NV.at_ ⟨lim, p, pv, base, q, x1, V1⟩ w y2 ∧ x1.n ≤ 4 ∧ V1.C = []) := (show _ ∧ _ ∧ _ by rw [hx1, hV1]; exact ⟨NV.called HA.out.1 b2, by have := HA.out.2; omega, rfl⟩)
                  clear b2 hx1 hV1
                  have hC := nvCut HA1.out.1 ino (o : Int) hI (by omega) (by show x1.n + 4 + 4 * V1.C.length ≤ 5000; rw [HA1.out.2.2]; have := HA1.out.2.1; simp only [List.length_nil]; omega)
                  go_upto_region 12 with (go_at_call 14; refine hC.mono ?_; clear hC; rintro e y3 ⟨rfl, x2, T2⟩)
                  have HA2 : Hid (NV.at_ ⟨lim, p, pv, base, q, x2, cutV V1 ino (o : Int)⟩ w y3 ∧ x2.n ≤ 8 ∧ (cutV V1 ino (o : Int)).C = []) := ⟨NV.ran (d := ⟨lim, p, pv, base, q, x1, V1⟩) T2, by have h : x2.n ≤ x1.n + 4 + 4 * V1.C.length := T2.n; rw [HA1.out.2.2] at h; have := HA1.out.2.1; simp only [List.length_nil] at h; omega, cutV_nil HA1.out.2.2 _ _⟩
                  clear T2
                  generalize cutV V1 ino (o : Int) = V2 at *
                  have hG := nvChanges HA2.out.1 (by show x2.n ≤ 5000; have := HA2.out.2.1; omega)
                  rw [show (NV.V ⟨lim, p, pv, base, q, x2, V2⟩).C.length = 0 by show V2.C.length = 0; rw [HA2.out.2.2]; rfl] at hG
                  go_upto_region 13 with (go_at_call 19; refine hG.mono ?_; clear hG; rintro e y4 ⟨ad4, cap4, rfl, -, b4⟩)
                  have HA4 : Hid (NV.at_ ⟨lim, p, pv, base, q, x2, V2⟩ w y4) := NV.called HA2.out.1 b4
                  clear b4
                  have hW := cWrite_bad y4 q ino (o : Int) s (by omega) (by omega) (hBadW)
                  go_upto_region 14 with (go_at_call 12; refine hW.mono ?_; clear hW; rintro e y5 ⟨rfl, b5⟩)
                  have A5 : NV.at_ ⟨lim, p, pv, base, q, x2, V2⟩ w y5 := NV.called HA4.out b5
                  have hH := nvChanges A5 (by show x2.n ≤ 5000; have := HA2.out.2.1; omega)
                  rw [show (NV.V ⟨lim, p, pv, base, q, x2, V2⟩).C.length = 0 by show V2.C.length = 0; rw [HA2.out.2.2]; rfl] at hH
                  have HB : Hid (Below w.heap.size w y5) := VAt.bel A5
                  clear A5 b5
                  go_wp2_with (go_at_call 19; refine hH.mono ?_; clear hH; rintro e y6 ⟨ad6, cap6, rfl, -, b6⟩)
                  go_ret
                  exact ⟨rfl, HB.out.trans (b6.mono HB.out.size)⟩
          · have hdn0 : decide (n ≥ 0) = false := decide_eq_false hn0
            have hdn2 : decide (n > 5000) = false := decide_eq_false (by omega)
            have hBadR : (okNum ino && okW (o : Int) n) = false := by rw [hI, Bool.true_and]; unfold okW; simp; omega
            by_cases hw1 : (s.length : Int) ≤ 1048576 - (o : Int)
            · have hR := cRead_bad y1 q ino (o : Int) n hnn (by omega) (hBadR)
              go_upto_region 11 with (go_at_call 16; refine hR.mono ?_; clear hR; rintro e y2 ⟨rfl, b2⟩)
              obtain ⟨x1, hx1⟩ : ∃ x1, x1 = x0 := ⟨x0, rfl⟩
              obtain ⟨V1, hV1⟩ : ∃ V1, V1 = vs0 := ⟨vs0, rfl⟩
              have HA1 : Hid (NV.at_ ⟨lim, p, pv, base, q, x1, V1⟩ w y2 ∧ x1.n ≤ 4 ∧ V1.C = []) := (show _ ∧ _ ∧ _ by rw [hx1, hV1]; exact ⟨NV.called HA.out.1 b2, by have := HA.out.2; omega, rfl⟩)
              clear b2 hx1 hV1
              have hC := nvCut HA1.out.1 ino (o : Int) hI (by omega) (by show x1.n + 4 + 4 * V1.C.length ≤ 5000; rw [HA1.out.2.2]; have := HA1.out.2.1; simp only [List.length_nil]; omega)
              go_upto_region 12 with (go_at_call 14; refine hC.mono ?_; clear hC; rintro e y3 ⟨rfl, x2, T2⟩)
              have HA2 : Hid (NV.at_ ⟨lim, p, pv, base, q, x2, cutV V1 ino (o : Int)⟩ w y3 ∧ x2.n ≤ 8 ∧ (cutV V1 ino (o : Int)).C = []) := ⟨NV.ran (d := ⟨lim, p, pv, base, q, x1, V1⟩) T2, by have h : x2.n ≤ x1.n + 4 + 4 * V1.C.length := T2.n; rw [HA1.out.2.2] at h; have := HA1.out.2.1; simp only [List.length_nil] at h; omega, cutV_nil HA1.out.2.2 _ _⟩
              clear T2
              generalize cutV V1 ino (o : Int) = V2 at *
              have hG := nvChanges HA2.out.1 (by show x2.n ≤ 5000; have := HA2.out.2.1; omega)
              rw [show (NV.V ⟨lim, p, pv, base, q, x2, V2⟩).C.length = 0 by show V2.C.length = 0; rw [HA2.out.2.2]; rfl] at hG
              go_upto_region 13 with (go_at_call 19; refine hG.mono ?_; clear hG; rintro e y4 ⟨ad4, cap4, rfl, -, b4⟩)
              have HA4 : Hid (NV.at_ ⟨lim, p, pv, base, q, x2, V2⟩ w y4) := NV.called HA2.out.1 b4
              clear b4
              have hpn : pN o s.length ≤ 32768 := pN_le (by omega)
              have hpn2 : pN o s.length ≤ 5 := by unfold pN; split <;> omega
              have hW := nvWrite HA4.out ino o s hI (by show x2.n + 5 * pN o s.length ≤ 5000; have := HA2.out.2.1; omega) (by omega)
              go_wp2_with (go_at_call 12; refine hW.mono ?_; clear hW; rintro e y5 ⟨rfl, x3, T3⟩
                           have HB : Hid (Below w.heap.size w y5) := T3.at_.bel
                           clear T3)
              go_ret
              exact ⟨rfl, HB.out⟩
            · have hdw1 : decide ((s.length : Int) ≤ 1048576 - (o : Int)) = false := decide_eq_false hw1
              have hBadW : (okNum ino && okW (o : Int) (s.length : Int)) = false := by rw [hI, Bool.true_and]; unfold okW; simp; omega
              have hR := cRead_bad y1 q ino (o : Int) n hnn (by omega) (hBadR)
              go_upto_region 11 with (go_at_call 16; refine hR.mono ?_; clear hR; rintro e y2 ⟨rfl, b2⟩)
              obtain ⟨x1, hx1⟩ : ∃ x1, x1 = x0 := ⟨x0, rfl⟩
              obtain ⟨V1, hV1⟩ : ∃ V1, V1 = vs0 := ⟨vs0, rfl⟩
              have HA1 : Hid (NV.at_ ⟨lim, p, pv, base, q, x1, V1⟩ w y2 ∧ x1.n ≤ 4 ∧ V1.C = []) := (show _ ∧ _ ∧ _ by rw [hx1, hV1]; exact ⟨NV.called HA.out.1 b2, by have := HA.out.2; omega, rfl⟩)
              clear b2 hx1 hV1
              have hC := nvCut HA1.out.1 ino (o : Int) hI (by omega) (by show x1.n + 4 + 4 * V1.C.length ≤ 5000; rw [HA1.out.2.2]; have := HA1.out.2.1; simp only [List.length_nil]; omega)
              go_upto_region 12 with (go_at_call 14; refine hC.mono ?_; clear hC; rintro e y3 ⟨rfl, x2, T2⟩)
              have HA2 : Hid (NV.at_ ⟨lim, p, pv, base, q, x2, cutV V1 ino (o : Int)⟩ w y3 ∧ x2.n ≤ 8 ∧ (cutV V1 ino (o : Int)).C = []) := ⟨NV.ran (d := ⟨lim, p, pv, base, q, x1, V1⟩) T2, by have h : x2.n ≤ x1.n + 4 + 4 * V1.C.length := T2.n; rw [HA1.out.2.2] at h; have := HA1.out.2.1; simp only [List.length_nil] at h; omega, cutV_nil HA1.out.2.2 _ _⟩
              clear T2
              generalize cutV V1 ino (o : Int) = V2 at *
              have hG := nvChanges HA2.out.1 (by show x2.n ≤ 5000; have := HA2.out.2.1; omega)
              rw [show (NV.V ⟨lim, p, pv, base, q, x2, V2⟩).C.length = 0 by show V2.C.length = 0; rw [HA2.out.2.2]; rfl] at hG
              go_upto_region 13 with (go_at_call 19; refine hG.mono ?_; clear hG; rintro e y4 ⟨ad4, cap4, rfl, -, b4⟩)
              have HA4 : Hid (NV.at_ ⟨lim, p, pv, base, q, x2, V2⟩ w y4) := NV.called HA2.out.1 b4
              clear b4
              have hW := cWrite_bad y4 q ino (o : Int) s (by omega) (by omega) (hBadW)
              go_upto_region 14 with (go_at_call 12; refine hW.mono ?_; clear hW; rintro e y5 ⟨rfl, b5⟩)
              have A5 : NV.at_ ⟨lim, p, pv, base, q, x2, V2⟩ w y5 := NV.called HA4.out b5
              have hH := nvChanges A5 (by show x2.n ≤ 5000; have := HA2.out.2.1; omega)
              rw [show (NV.V ⟨lim, p, pv, base, q, x2, V2⟩).C.length = 0 by show V2.C.length = 0; rw [HA2.out.2.2]; rfl] at hH
              have HB : Hid (Below w.heap.size w y5) := VAt.bel A5
              clear A5 b5
              go_wp2_with (go_at_call 19; refine hH.mono ?_; clear hH; rintro e y6 ⟨ad6, cap6, rfl, -, b6⟩)
              go_ret
              exact ⟨rfl, HB.out.trans (b6.mono HB.out.size)⟩
        · have hdo1 : decide (off ≤ 1048576) = false := decide_eq_false ho1
          have hBad : ∀ z, (okNum ino && okW off z) = false := fun z => by rw [hI, Bool.true_and]; unfold okW; simp; omega
          by_cases hn0 : 0 ≤ n
          · by_cases hn2 : n > 5000
            · have hR := cRead_bad y1 q ino off n hnn (by omega) (hBad n)
              go_upto_region 11 with (go_at_call 16; refine hR.mono ?_; clear hR; rintro e y2 ⟨rfl, b2⟩)
              obtain ⟨x1, hx1⟩ : ∃ x1, x1 = x0 := ⟨x0, rfl⟩
              obtain ⟨V1, hV1⟩ : ∃ V1, V1 = vs0 := ⟨vs0, rfl⟩
              have HA1 : Hid (NV.at_ ⟨lim, p, pv, base, q, x1, V1⟩ w y2 ∧ x1.n ≤ 4 ∧ V1.C = []) := (show _ ∧ _ ∧ _ by rw [hx1, hV1]; exact ⟨NV.called HA.out.1 b2, by have := HA.out.2; omega, rfl⟩)
              clear b2 hx1 hV1
              have hC := cCut_bad y2 q ino off (by omega) (hBad 0)
              go_upto_region 12 with (go_at_call 14; refine hC.mono ?_; clear hC; rintro e y3 ⟨rfl, b3⟩)
              obtain ⟨x2, hx2⟩ : ∃ x2, x2 = x1 := ⟨x1, rfl⟩
              obtain ⟨V2, hV2⟩ : ∃ V2, V2 = V1 := ⟨V1, rfl⟩
              have HA2 : Hid (NV.at_ ⟨lim, p, pv, base, q, x2, V2⟩ w y3 ∧ x2.n ≤ 8 ∧ V2.C = []) := (show _ ∧ _ ∧ _ by rw [hx2, hV2]; exact ⟨NV.called HA1.out.1 b3, by have := HA1.out.2.1; omega, HA1.out.2.2⟩)
              clear b3 hx2 hV2
              have hG := nvChanges HA2.out.1 (by show x2.n ≤ 5000; have := HA2.out.2.1; omega)
              rw [show (NV.V ⟨lim, p, pv, base, q, x2, V2⟩).C.length = 0 by show V2.C.length = 0; rw [HA2.out.2.2]; rfl] at hG
              go_upto_region 13 with (go_at_call 19; refine hG.mono ?_; clear hG; rintro e y4 ⟨ad4, cap4, rfl, -, b4⟩)
              have HA4 : Hid (NV.at_ ⟨lim, p, pv, base, q, x2, V2⟩ w y4) := NV.called HA2.out.1 b4
              clear b4
              have hW := cWrite_bad y4 q ino off s (by omega) (by omega) (hBad (s.length : Int))
              go_upto_region 14 with (go_at_call 12; refine hW.mono ?_; clear hW; rintro e y5 ⟨rfl, b5⟩)
              have A5 : NV.at_ ⟨lim, p, pv, base, q, x2, V2⟩ w y5 := NV.called HA4.out b5
              have hH := nvChanges A5 (by show x2.n ≤ 5000; have := HA2.out.2.1; omega)
              rw [show (NV.V ⟨lim, p, pv, base, q, x2, V2⟩).C.length = 0 by show V2.C.length = 0; rw [HA2.out.2.2]; rfl] at hH
              have HB : Hid (Below w.heap.size w y5) := VAt.bel A5
              clear A5 b5
              go_wp2_with (go_at_call 19; refine hH.mono ?_; clear hH; rintro e y6 ⟨ad6, cap6, rfl, -, b6⟩)
              go_ret
              exact ⟨rfl, HB.out.trans (b6.mono HB.out.size)⟩
            · have hdn2 : decide (n > 5000) = false := decide_eq_false hn2
              have hR := cRead_bad y1 q ino off n hnn (by omega) (hBad n)
              go_upto_region 11 with (go_at_call 16; refine hR.mono ?_; clear hR; rintro e y2 ⟨rfl, b2⟩)
              obtain ⟨x1, hx1⟩ : ∃ x1, x1 = x0 := ⟨x0, rfl⟩
              obtain ⟨V1, hV1⟩ : ∃ V1, V1 = vs0 := ⟨vs0, rfl⟩
              have HA1 : Hid (NV.at_ ⟨lim, p, pv, base, q, x1, V1⟩ w y2 ∧ x1.n ≤ 4 ∧ V1.C = []) := (show _ ∧ _ ∧ _ by rw [hx1, hV1]; exact ⟨NV.called HA.out.1 b2, by have := HA.out.2; omega, rfl⟩)
              clear b2 hx1 hV1
              have hC := cCut_bad y2 q ino off (by omega) (hBad 0)
              go_upto_region 12 with (go_at_call 14; refine hC.mono ?_; clear hC; rintro e y3 ⟨rfl, b3⟩)
              obtain ⟨x2, hx2⟩ : ∃ x2, x2 = x1 := ⟨x1, rfl⟩
              obtain ⟨V2, hV2⟩ : ∃ V2, V2 = V1 := ⟨V1, rfl⟩
              have HA2 : Hid (NV.at_ ⟨lim, p, pv, base, q, x2, V2⟩ w y3 ∧ x2.n ≤ 8 ∧ V2.C = []) := (show _ ∧ _ ∧ _ by rw [hx2, hV2]; exact ⟨NV.called HA1.out.1 b3, by have := HA1.out.2.1; omega, HA1.out.2.2⟩)
              clear b3 hx2 hV2
              have hG := nvChanges HA2.out.1 (by show x2.n ≤ 5000; have := HA2.out.2.1; omega)
              rw [show (NV.V ⟨lim, p, pv, base, q, x2, V2⟩).C.length = 0 by show V2.C.length = 0; rw [HA2.out.2.2]; rfl] at hG
              go_upto_region 13 with (go_at_call 19; refine hG.mono ?_; clear hG; rintro e y4 ⟨ad4, cap4, rfl, -, b4⟩)
              have HA4 : Hid (NV.at_ ⟨lim, p, pv, base, q, x2, V2⟩ w y4) := NV.called HA2.out.1 b4
              clear b4
              have hW := cWrite_bad y4 q ino off s (by omega) (by omega) (hBad (s.length : Int))
              go_upto_region 14 with (go_at_call 12; refine hW.mono ?_; clear hW; rintro e y5 ⟨rfl, b5⟩)
              have A5 : NV.at_ ⟨lim, p, pv, base, q, x2, V2⟩ w y5 := NV.called HA4.out b5
              have hH := nvChanges A5 (by show x2.n ≤ 5000; have := HA2.out.2.1; omega)
              rw [show (NV.V ⟨lim, p, pv, base, q, x2, V2⟩).C.length = 0 by show V2.C.length = 0; rw [HA2.out.2.2]; rfl] at hH
              have HB : Hid (Below w.heap.size w y5) := VAt.bel A5
              clear A5 b5
              go_wp2_with (go_at_call 19; refine hH.mono ?_; clear hH; rintro e y6 ⟨ad6, cap6, rfl, -, b6⟩)
              go_ret
              exact ⟨rfl, HB.out.trans (b6.mono HB.out.size)⟩
          · have hdn2 : decide (n > 5000) = false := decide_eq_false (by omega)
            have hR := cRead_bad y1 q ino off n hnn (by omega) (hBad n)
            go_upto_region 11 with (go_at_call 16; refine hR.mono ?_; clear hR; rintro e y2 ⟨rfl, b2⟩)
            obtain ⟨x1, hx1⟩ : ∃ x1, x1 = x0 := ⟨x0, rfl⟩
            obtain ⟨V1, hV1⟩ : ∃ V1, V1 = vs0 := ⟨vs0, rfl⟩
            have HA1 : Hid (NV.at_ ⟨lim, p, pv, base, q, x1, V1⟩ w y2 ∧ x1.n ≤ 4 ∧ V1.C = []) := (show _ ∧ _ ∧ _ by rw [hx1, hV1]; exact ⟨NV.called HA.out.1 b2, by have := HA.out.2; omega, rfl⟩)
            clear b2 hx1 hV1
            have hC := cCut_bad y2 q ino off (by omega) (hBad 0)
            go_upto_region 12 with (go_at_call 14; refine hC.mono ?_; clear hC; rintro e y3 ⟨rfl, b3⟩)
            obtain ⟨x2, hx2⟩ : ∃ x2, x2 = x1 := ⟨x1, rfl⟩
            obtain ⟨V2, hV2⟩ : ∃ V2, V2 = V1 := ⟨V1, rfl⟩
            have HA2 : Hid (NV.at_ ⟨lim, p, pv, base, q, x2, V2⟩ w y3 ∧ x2.n ≤ 8 ∧ V2.C = []) := (show _ ∧ _ ∧ _ by rw [hx2, hV2]; exact ⟨NV.called HA1.out.1 b3, by have := HA1.out.2.1; omega, HA1.out.2.2⟩)
            clear b3 hx2 hV2
            have hG := nvChanges HA2.out.1 (by show x2.n ≤ 5000; have := HA2.out.2.1; omega)
            rw [show (NV.V ⟨lim, p, pv, base, q, x2, V2⟩).C.length = 0 by show V2.C.length = 0; rw [HA2.out.2.2]; rfl] at hG
            go_upto_region 13 with (go_at_call 19; refine hG.mono ?_; clear hG; rintro e y4 ⟨ad4, cap4, rfl, -, b4⟩)
            have HA4 : Hid (NV.at_ ⟨lim, p, pv, base, q, x2, V2⟩ w y4) := NV.called HA2.out.1 b4
            clear b4
            have hW := cWrite_bad y4 q ino off s (by omega) (by omega) (hBad (s.length : Int))
            go_upto_region 14 with (go_at_call 12; refine hW.mono ?_; clear hW; rintro e y5 ⟨rfl, b5⟩)
            have A5 : NV.at_ ⟨lim, p, pv, base, q, x2, V2⟩ w y5 := NV.called HA4.out b5
            have hH := nvChanges A5 (by show x2.n ≤ 5000; have := HA2.out.2.1; omega)
            rw [show (NV.V ⟨lim, p, pv, base, q, x2, V2⟩).C.length = 0 by show V2.C.length = 0; rw [HA2.out.2.2]; rfl] at hH
            have HB : Hid (Below w.heap.size w y5) := VAt.bel A5
            clear A5 b5
            go_wp2_with (go_at_call 19; refine hH.mono ?_; clear hH; rintro e y6 ⟨ad6, cap6, rfl, -, b6⟩)
            go_ret
            exact ⟨rfl, HB.out.trans (b6.mono HB.out.size)⟩
      · have hdo0 : decide (off ≥ 0) = false := decide_eq_false ho0
        have hBad : ∀ z, (okNum ino && okW off z) = false := fun z => by rw [hI, Bool.true_and]; unfold okW; simp; omega
        by_cases hn2 : n > 5000
        · have hR := cRead_bad y1 q ino off n hnn (by omega) (hBad n)
          go_upto_region 11 with (go_at_call 16; refine hR.mono ?_; clear hR; rintro e y2 ⟨rfl, b2⟩)
          obtain ⟨x1, hx1⟩ : ∃ x1, x1 = x0 := ⟨x0, rfl⟩
          obtain ⟨V1, hV1⟩ : ∃ V1, V1 = vs0 := ⟨vs0, rfl⟩
          have HA1 : Hid (NV.at_ ⟨lim, p, pv, base, q, x1, V1⟩ w y2 ∧ x1.n ≤ 4 ∧ V1.C = []) := (show _ ∧ _ ∧ _ by rw [hx1, hV1]; exact ⟨NV.called HA.out.1 b2, by have := HA.out.2; omega, rfl⟩)
          clear b2 hx1 hV1
          have hC := cCut_bad y2 q ino off (by omega) (hBad 0)
          go_upto_region 12 with (go_at_call 14; refine hC.mono ?_; clear hC; rintro e y3 ⟨rfl, b3⟩)
          obtain ⟨x2, hx2⟩ : ∃ x2, x2 = x1 := ⟨x1, rfl⟩
          obtain ⟨V2, hV2⟩ : ∃ V2, V2 = V1 := ⟨V1, rfl⟩
          have HA2 : Hid (NV.at_ ⟨lim, p, pv, base, q, x2, V2⟩ w y3 ∧ x2.n ≤ 8 ∧ V2.C = []) := (show _ ∧ _ ∧ _ by rw [hx2, hV2]; exact ⟨NV.called HA1.out.1 b3, by have := HA1.out.2.1; omega, HA1.out.2.2⟩)
          clear b3 hx2 hV2
          have hG := nvChanges HA2.out.1 (by show x2.n ≤ 5000; have := HA2.out.2.1; omega)
          rw [show (NV.V ⟨lim, p, pv, base, q, x2, V2⟩).C.length = 0 by show V2.C.length = 0; rw [HA2.out.2.2]; rfl] at hG
          go_upto_region 13 with (go_at_call 19; refine hG.mono ?_; clear hG; rintro e y4 ⟨ad4, cap4, rfl, -, b4⟩)
          have HA4 : Hid (NV.at_ ⟨lim, p, pv, base, q, x2, V2⟩ w y4) := NV.called HA2.out.1 b4
          clear b4
          have hW := cWrite_bad y4 q ino off s (by omega) (by omega) (hBad (s.length : Int))
          go_upto_region 14 with (go_at_call 12; refine hW.mono ?_; clear hW; rintro e y5 ⟨rfl, b5⟩)
          have A5 : NV.at_ ⟨lim, p, pv, base, q, x2, V2⟩ w y5 := NV.called HA4.out b5
          have hH := nvChanges A5 (by show x2.n ≤ 5000; have := HA2.out.2.1; omega)
          rw [show (NV.V ⟨lim, p, pv, base, q, x2, V2⟩).C.length = 0 by show V2.C.length = 0; rw [HA2.out.2.2]; rfl] at hH
          have HB : Hid (Below w.heap.size w y5) := VAt.bel A5
          clear A5 b5
          go_wp2_with (go_at_call 19; refine hH.mono ?_; clear hH; rintro e y6 ⟨ad6, cap6, rfl, -, b6⟩)
          go_ret
          exact ⟨rfl, HB.out.trans (b6.mono HB.out.size)⟩
        · have hdn2 : decide (n > 5000) = false := decide_eq_false hn2
          have hR := cRead_bad y1 q ino off n hnn (by omega) (hBad n)
          go_upto_region 11 with (go_at_call 16; refine hR.mono ?_; clear hR; rintro e y2 ⟨rfl, b2⟩)
          obtain ⟨x1, hx1⟩ : ∃ x1, x1 = x0 := ⟨x0, rfl⟩
          obtain ⟨V1, hV1⟩ : ∃ V1, V1 = vs0 := ⟨vs0, rfl⟩
          have HA1 : Hid (NV.at_ ⟨lim, p, pv, base, q, x1, V1⟩ w y2 ∧ x1.n ≤ 4 ∧ V1.C = []) := (show _ ∧ _ ∧ _ by rw [hx1, hV1]; exact ⟨NV.called HA.out.1 b2, by have := HA.out.2; omega, rfl⟩)
          clear b2 hx1 hV1
          have hC := cCut_bad y2 q ino off (by omega) (hBad 0)
          go_upto_region 12 with (go_at_call 14; refine hC.mono ?_; clear hC; rintro e y3 ⟨rfl, b3⟩)
          obtain ⟨x2, hx2⟩ : ∃ x2, x2 = x1 := ⟨x1, rfl⟩
          obtain ⟨V2, hV2⟩ : ∃ V2, V2 = V1 := ⟨V1, rfl⟩
          have HA2 : Hid (NV.at_ ⟨lim, p, pv, base, q, x2, V2⟩ w y3 ∧ x2.n ≤ 8 ∧ V2.C = []) := (show _ ∧ _ ∧ _ by rw [hx2, hV2]; exact ⟨NV.called HA1.out.1 b3, by have := HA1.out.2.1; omega, HA1.out.2.2⟩)
          clear b3 hx2 hV2
          have hG := nvChanges HA2.out.1 (by show x2.n ≤ 5000; have := HA2.out.2.1; omega)
          rw [show (NV.V ⟨lim, p, pv, base, q, x2, V2⟩).C.length = 0 by show V2.C.length = 0; rw [HA2.out.2.2]; rfl] at hG
          go_upto_region 13 with (go_at_call 19; refine hG.mono ?_; clear hG; rintro e y4 ⟨ad4, cap4, rfl, -, b4⟩)
          have HA4 : Hid (NV.at_ ⟨lim, p, pv, base, q, x2, V2⟩ w y4) := NV.called HA2.out.1 b4
          clear b4
          have hW := cWrite_bad y4 q ino off s (by omega) (by omega) (hBad (s.length : Int))
          go_upto_region 14 with (go_at_call 12; refine hW.mono ?_; clear hW; rintro e y5 ⟨rfl, b5⟩)
          have A5 : NV.at_ ⟨lim, p, pv, base, q, x2, V2⟩ w y5 := NV.called HA4.out b5
          have hH := nvChanges A5 (by show x2.n ≤ 5000; have := HA2.out.2.1; omega)
          rw [show (NV.V ⟨lim, p, pv, base, q, x2, V2⟩).C.length = 0 by show V2.C.length = 0; rw [HA2.out.2.2]; rfl] at hH
          have HB : Hid (Below w.heap.size w y5) := VAt.bel A5
          clear A5 b5
          go_wp2_with (go_at_call 19; refine hH.mono ?_; clear hH; rintro e y6 ⟨ad6, cap6, rfl, -, b6⟩)
          go_ret
          exact ⟨rfl, HB.out.trans (b6.mono HB.out.size)⟩
    · have hdi2 : decide (ino < 1073741824) = false := decide_eq_false hi2
      have hBad : ∀ z, (okNum ino && okW off z) = false := fun z => by rw [show okNum ino = false by unfold okNum; simp; omega, Bool.false_and]
      by_cases hn2 : n > 5000
      · have hR := cRead_bad y1 q ino off n hnn (by omega) (hBad n)
        go_upto_region 11 with (go_at_call 16; refine hR.mono ?_; clear hR; rintro e y2 ⟨rfl, b2⟩)
        obtain ⟨x1, hx1⟩ : ∃ x1, x1 = x0 := ⟨x0, rfl⟩
        obtain ⟨V1, hV1⟩ : ∃ V1, V1 = vs0 := ⟨vs0, rfl⟩
        have HA1 : Hid (NV.at_ ⟨lim, p, pv, base, q, x1, V1⟩ w y2 ∧ x1.n ≤ 4 ∧ V1.C = []) := (show _ ∧ _ ∧ _ by rw [hx1, hV1]; exact ⟨NV.called HA.out.1 b2, by have := HA.out.2; omega, rfl⟩)
        clear b2 hx1 hV1
        have hC := cCut_bad y2 q ino off (by omega) (hBad 0)
        go_upto_region 12 with (go_at_call 14; refine hC.mono ?_; clear hC; rintro e y3 ⟨rfl, b3⟩)
        obtain ⟨x2, hx2⟩ : ∃ x2, x2 = x1 := ⟨x1, rfl⟩
        obtain ⟨V2, hV2⟩ : ∃ V2, V2 = V1 := ⟨V1, rfl⟩
        have HA2 : Hid (NV.at_ ⟨lim, p, pv, base, q, x2, V2⟩ w y3 ∧ x2.n ≤ 8 ∧ V2.C = []) := (show _ ∧ _ ∧ _ by rw [hx2, hV2]; exact ⟨NV.called HA1.out.1 b3, by have := HA1.out.2.1; omega, HA1.out.2.2⟩)
        clear b3 hx2 hV2
        have hG := nvChanges HA2.out.1 (by show x2.n ≤ 5000; have := HA2.out.2.1; omega)
        rw [show (NV.V ⟨lim, p, pv, base, q, x2, V2⟩).C.length = 0 by show V2.C.length = 0; rw [HA2.out.2.2]; rfl] at hG
        go_upto_region 13 with (go_at_call 19; refine hG.mono ?_; clear hG; rintro e y4 ⟨ad4, cap4, rfl, -, b4⟩)
        have HA4 : Hid (NV.at_ ⟨lim, p, pv, base, q, x2, V2⟩ w y4) := NV.called HA2.out.1 b4
        clear b4
        have hW := cWrite_bad y4 q ino off s (by omega) (by omega) (hBad (s.length : Int))
        go_upto_region 14 with (go_at_call 12; refine hW.mono ?_; clear hW; rintro e y5 ⟨rfl, b5⟩)
        have A5 : NV.at_ ⟨lim, p, pv, base, q, x2, V2⟩ w y5 := NV.called HA4.out b5
        have hH := nvChanges A5 (by show x2.n ≤ 5000; have := HA2.out.2.1; omega)
        rw [show (NV.V ⟨lim, p, pv, base, q, x2, V2⟩).C.length = 0 by show V2.C.length = 0; rw [HA2.out.2.2]; rfl] at hH
        have HB : Hid (Below w.heap.size w y5) := VAt.bel A5
        clear A5 b5
        go_wp2_with (go_at_call 19; refine hH.mono ?_; clear hH; rintro e y6 ⟨ad6, cap6, rfl, -, b6⟩)
        go_ret
        exact ⟨rfl, HB.out.trans (b6.mono HB.out.size)⟩
      · have hdn2 : decide (n > 5000) = false := decide_eq_false hn2
        have hR := cRead_bad y1 q ino off n hnn (by omega) (hBad n)
        go_upto_region 11 with (go_at_call 16; refine hR.mono ?_; clear hR; rintro e y2 ⟨rfl, b2⟩)
        obtain ⟨x1, hx1⟩ : ∃ x1, x1 = x0 := ⟨x0, rfl⟩
        obtain ⟨V1, hV1⟩ : ∃ V1, V1 = vs0 := ⟨vs0, rfl⟩
        have HA1 : Hid (NV.at_ ⟨lim, p, pv, base, q, x1, V1⟩ w y2 ∧ x1.n ≤ 4 ∧ V1.C = []) := (show _ ∧ _ ∧ _ by rw [hx1, hV1]; exact ⟨NV.called HA.out.1 b2, by have := HA.out.2; omega, rfl⟩)
        clear b2 hx1 hV1
        have hC := cCut_bad y2 q ino off (by omega) (hBad 0)
        go_upto_region 12 with (go_at_call 14; refine hC.mono ?_; clear hC; rintro e y3 ⟨rfl, b3⟩)
        obtain ⟨x2, hx2⟩ : ∃ x2, x2 = x1 := ⟨x1, rfl⟩
        obtain ⟨V2, hV2⟩ : ∃ V2, V2 = V1 := ⟨V1, rfl⟩
        have HA2 : Hid (NV.at_ ⟨lim, p, pv, base, q, x2, V2⟩ w y3 ∧ x2.n ≤ 8 ∧ V2.C = []) := (show _ ∧ _ ∧ _ by rw [hx2, hV2]; exact ⟨NV.called HA1.out.1 b3, by have := HA1.out.2.1; omega, HA1.out.2.2⟩)
        clear b3 hx2 hV2
        have hG := nvChanges HA2.out.1 (by show x2.n ≤ 5000; have := HA2.out.2.1; omega)
        rw [show (NV.V ⟨lim, p, pv, base, q, x2, V2⟩).C.length = 0 by show V2.C.length = 0; rw [HA2.out.2.2]; rfl] at hG
        go_upto_region 13 with (go_at_call 19; refine hG.mono ?_; clear hG; rintro e y4 ⟨ad4, cap4, rfl, -, b4⟩)
        have HA4 : Hid (NV.at_ ⟨lim, p, pv, base, q, x2, V2⟩ w y4) := NV.called HA2.out.1 b4
        clear b4
        have hW := cWrite_bad y4 q ino off s (by omega) (by omega) (hBad (s.length : Int))
        go_upto_region 14 with (go_at_call 12; refine hW.mono ?_; clear hW; rintro e y5 ⟨rfl, b5⟩)
        have A5 : NV.at_ ⟨lim, p, pv, base, q, x2, V2⟩ w y5 := NV.called HA4.out b5
        have hH := nvChanges A5 (by show x2.n ≤ 5000; have := HA2.out.2.1; omega)
        rw [show (NV.V ⟨lim, p, pv, base, q, x2, V2⟩).C.length = 0 by show V2.C.length = 0; rw [HA2.out.2.2]; rfl] at hH
        have HB : Hid (Below w.heap.size w y5) := VAt.bel A5
        clear A5 b5
        go_wp2_with (go_at_call 19; refine hH.mono ?_; clear hH; rintro e y6 ⟨ad6, cap6, rfl, -, b6⟩)
        go_ret
        exact ⟨rfl, HB.out.trans (b6.mono HB.out.size)⟩
  · have hdi1 : decide (ino ≥ 1) = false := decide_eq_false hi1
    have hBad : ∀ z, (okNum ino && okW off z) = false := fun z => by rw [show okNum ino = false by unfold okNum; simp; omega, Bool.false_and]
    by_cases hn2 : n > 5000
    · have hR := cRead_bad y1 q ino off n hnn (by omega) (hBad n)
      go_upto_region 11 with (go_at_call 16; refine hR.mono ?_; clear hR; rintro e y2 ⟨rfl, b2⟩)
      obtain ⟨x1, hx1⟩ : ∃ x1, x1 = x0 := ⟨x0, rfl⟩
      obtain ⟨V1, hV1⟩ : ∃ V1, V1 = vs0 := ⟨vs0, rfl⟩
      have HA1 : Hid (NV.at_ ⟨lim, p, pv, base, q, x1, V1⟩ w y2 ∧ x1.n ≤ 4 ∧ V1.C = []) := (show _ ∧ _ ∧ _ by rw [hx1, hV1]; exact ⟨NV.called HA.out.1 b2, by have := HA.out.2; omega, rfl⟩)
      clear b2 hx1 hV1
      have hC := cCut_bad y2 q ino off (by omega) (hBad 0)
      go_upto_region 12 with (go_at_call 14; refine hC.mono ?_; clear hC; rintro e y3 ⟨rfl, b3⟩)
      obtain ⟨x2, hx2⟩ : ∃ x2, x2 = x1 := ⟨x1, rfl⟩
      obtain ⟨V2, hV2⟩ : ∃ V2, V2 = V1 := ⟨V1, rfl⟩
      have HA2 : Hid (NV.at_ ⟨lim, p, pv, base, q, x2, V2⟩ w y3 ∧ x2.n ≤ 8 ∧ V2.C = []) := (show _ ∧ _ ∧ _ by rw [hx2, hV2]; exact ⟨NV.called HA1.out.1 b3, by have := HA1.out.2.1; omega, HA1.out.2.2⟩)
      clear b3 hx2 hV2
      have hG := nvChanges HA2.out.1 (by show x2.n ≤ 5000; have := HA2.out.2.1; omega)
      rw [show (NV.V ⟨lim, p, pv, base, q, x2, V2⟩).C.length = 0 by show V2.C.length = 0; rw [HA2.out.2.2]; rfl] at hG
      go_upto_region 13 with (go_at_call 19; refine hG.mono ?_; clear hG; rintro e y4 ⟨ad4, cap4, rfl, -, b4⟩)
      have HA4 : Hid (NV.at_ ⟨lim, p, pv, base, q, x2, V2⟩ w y4) := NV.called HA2.out.1 b4
      clear b4
      have hW := cWrite_bad y4 q ino off s (by omega) (by omega) (hBad (s.length : Int))
      go_upto_region 14 with (go_at_call 12; refine hW.mono ?_; clear hW; rintro e y5 ⟨rfl, b5⟩)
      have A5 : NV.at_ ⟨lim, p, pv, base, q, x2, V2⟩ w y5 := NV.called HA4.out b5
      have hH := nvChanges A5 (by show x2.n ≤ 5000; have := HA2.out.2.1; omega)
      rw [show (NV.V ⟨lim, p, pv, base, q, x2, V2⟩).C.length = 0 by show V2.C.length = 0; rw [HA2.out.2.2]; rfl] at hH
      have HB : Hid (Below w.heap.size w y5) := VAt.bel A5
      clear A5 b5
      go_wp2_with (go_at_call 19; refine hH.mono ?_; clear hH; rintro e y6 ⟨ad6, cap6, rfl, -, b6⟩)
      go_ret
      exact ⟨rfl, HB.out.trans (b6.mono HB.out.size)⟩
    · have hdn2 : decide (n > 5000) = false := decide_eq_false hn2
      have hR := cRead_bad y1 q ino off n hnn (by omega) (hBad n)
      go_upto_region 11 with (go_at_call 16; refine hR.mono ?_; clear hR; rintro e y2 ⟨rfl, b2⟩)
      obtain ⟨x1, hx1⟩ : ∃ x1, x1 = x0 := ⟨x0, rfl⟩
      obtain ⟨V1, hV1⟩ : ∃ V1, V1 = vs0 := ⟨vs0, rfl⟩
      have HA1 : Hid (NV.at_ ⟨lim, p, pv, base, q, x1, V1⟩ w y2 ∧ x1.n ≤ 4 ∧ V1.C = []) := (show _ ∧ _ ∧ _ by rw [hx1, hV1]; exact ⟨NV.called HA.out.1 b2, by have := HA.out.2; omega, rfl⟩)
      clear b2 hx1 hV1
      have hC := cCut_bad y2 q ino off (by omega) (hBad 0)
      go_upto_region 12 with (go_at_call 14; refine hC.mono ?_; clear hC; rintro e y3 ⟨rfl, b3⟩)
      obtain ⟨x2, hx2⟩ : ∃ x2, x2 = x1 := ⟨x1, rfl⟩
      obtain ⟨V2, hV2⟩ : ∃ V2, V2 = V1 := ⟨V1, rfl⟩
      have HA2 : Hid (NV.at_ ⟨lim, p, pv, base, q, x2, V2⟩ w y3 ∧ x2.n ≤ 8 ∧ V2.C = []) := (show _ ∧ _ ∧ _ by rw [hx2, hV2]; exact ⟨NV.called HA1.out.1 b3, by have := HA1.out.2.1; omega, HA1.out.2.2⟩)
      clear b3 hx2 hV2
      have hG := nvChanges HA2.out.1 (by show x2.n ≤ 5000; have := HA2.out.2.1; omega)
      rw [show (NV.V ⟨lim, p, pv, base, q, x2, V2⟩).C.length = 0 by show V2.C.length = 0; rw [HA2.out.2.2]; rfl] at hG
      go_upto_region 13 with (go_at_call 19; refine hG.mono ?_; clear hG; rintro e y4 ⟨ad4, cap4, rfl, -, b4⟩)
      have HA4 : Hid (NV.at_ ⟨lim, p, pv, base, q, x2, V2⟩ w y4) := NV.called HA2.out.1 b4
      clear b4
      have hW := cWrite_bad y4 q ino off s (by omega) (by omega) (hBad (s.length : Int))
      go_upto_region 14 with (go_at_call 12; refine hW.mono ?_; clear hW; rintro e y5 ⟨rfl, b5⟩)
      have A5 : NV.at_ ⟨lim, p, pv, base, q, x2, V2⟩ w y5 := NV.called HA4.out b5
      have hH := nvChanges A5 (by show x2.n ≤ 5000; have := HA2.out.2.1; omega)
      rw [show (NV.V ⟨lim, p, pv, base, q, x2, V2⟩).C.length = 0 by show V2.C.length = 0; rw [HA2.out.2.2]; rfl] at hH
      have HB : Hid (Below w.heap.size w y5) := VAt.bel A5
      clear A5 b5
      go_wp2_with (go_at_call 19; refine hH.mono ?_; clear hH; rintro e y6 ⟨ad6, cap6, rfl, -, b6⟩)
      go_ret
      exact ⟨rfl, HB.out.trans (b6.mono HB.out.size)⟩
end Go.Proofs.YtdmindhjmjnagaaGreatDoor
