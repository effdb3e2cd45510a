import Derived.Test.YthdoomjhdmklnaaGreatSi
import Derived.Test.YthdoomjhdmklnaaGreatB46
import Derived.Test.YthdoomjhdmklnaaGreatB47
import Derived.Test.YthdoomjhdmklnaaGreatB01
/- DirReads. -/
namespace Go.Proofs.YthdoomjhdmklnaaGreat
set_option linter.unusedVariables false
set_option maxRecDepth 100000
open Go.RowKit

theorem str_cut40 (v : List UInt8) : (str v).extract 0 (min ((str v).size : Int) 40).toNat = str (v.take 40) := by
  have h : (min ((str v).size : Int) 40).toNat = min v.length 40 := by rw [str_size]; omega
  rw [h]
  apply ByteArray.ext
  apply Array.ext'
  rw [ByteArray.data_extract]
  simp only [Array.toList_extract, str_list, List.extract_eq_take_drop, List.drop_zero, Nat.sub_zero]
  by_cases q : v.length ≤ 40
  · rw [Nat.min_eq_left q, List.take_length, List.take_of_length_le q]
  · rw [Nat.min_eq_right (by omega)]
theorem strD (s : ByteArray) : str s.data.toList = s := by
  apply ByteArray.ext
  simp [str]
theorem numK_ok {K : Int} (h : 0 ≤ K ∧ K ≤ 65535) : okNum (1 + K) = true := by
  unfold okNum
  rw [decide_eq_true (by omega), decide_eq_true (by omega)]
  rfl
theorem getW_none (V : VS) (h : V.C = []) (K : Kz) : getW V K = { V with R := V.R ++ [oneSp K] } := by unfold getW; rw [h]; rfl
set_option maxRecDepth 100000 in
set_option maxHeartbeats 16000000 in
theorem dirReads_walk (w : World) (a0 b0 : List UInt8) (ino : Int) :
    Calls Tryz.prog 5 #[.string (str a0), .string (str b0), .int .i64 ino] w fun e w' => e = .returned (.bool true) ∧ Below w.heap.size w w' := by
  have hsh := shown14_calls w
  have hKb : 0 ≤ bits .and .i64 ino 65535 ∧ bits .and .i64 ino 65535 ≤ 65535 := by rw [and65535]; omega
  go_enter Tryz.func5, Tryz.ntmps5
  go_upto_region 2 with (go_at_call 7; refine hsh.mono ?_; clear hsh; rintro e y0 ⟨rfl, b1⟩)
  have hN1 := nvNew_calls w y0 b1
  clear b1
  go_upto_region 3 with (go_at_call 8; refine hN1.mono ?_; clear hN1; rintro e y1 ⟨dv, rfl, A1, v1, n1, f1, b1⟩)
  have HV1 : Hid (dv.at_ w y1 ∧ dv.V = vs0 ∧ dv.x.n = 0 ∧ ∀ i, dv.foot i → i < y1.heap.size) := ⟨A1, v1, n1, fun i hi => NV.lt A1 hi⟩
  have hN2 := nvNew_calls w y1 A1.bel
  clear A1 v1 n1 f1 b1
  go_upto_region 4 with (go_at_call 8; refine hN2.mono ?_; clear hN2; rintro e y2 ⟨dw, rfl, A2, v2, n2, f2, b2⟩)
  have HV2 : Hid (dw.at_ w y2 ∧ dw.V = vs0 ∧ dw.x.n = 0 ∧ (∀ i, dw.foot i → i < y2.heap.size) ∧ (∀ i, dw.foot i → y1.heap.size ≤ i) ∧ dv.at_ w y2 ∧ y1.heap.size ≤ y2.heap.size) := ⟨A2, v2, n2, fun i hi => NV.lt A2 hi, f2, NV.called HV1.out.1 b2, b2.size⟩
  have hN3 := nvNew_calls w y2 A2.bel
  clear A2 v2 n2 f2 b2
  go_upto_region 5 with (go_at_call 8; refine hN3.mono ?_; clear hN3; rintro e y3 ⟨dx, rfl, A3, v3, n3, f3, b3⟩)
  have HT3 : Hid (Tri3 w y3 dx dv dw) := by
    obtain ⟨p1, p2⟩ := NV.apart HV1.out.2.2.2 HV2.out.2.2.2.2.1
    obtain ⟨q1, q2⟩ := NV.apart (fun i hi => Nat.lt_of_lt_of_le (HV1.out.2.2.2 i hi) HV2.out.2.2.2.2.2.2) f3
    obtain ⟨r1, r2⟩ := NV.apart HV2.out.2.2.2.1 f3
    exact ⟨A3, NV.called HV2.out.2.2.2.2.2.1 b3, NV.called HV2.out.1 b3, q2, q1, r2, r1, p1, p2⟩
  have HV : Hid (dv.V = vs0 ∧ dw.V = vs0 ∧ dx.V = vs0 ∧ dv.x.n = 0 ∧ dw.x.n = 0 ∧ dx.x.n = 0) := ⟨HV1.out.2.1, HV2.out.2.1, v3, HV1.out.2.2.1, HV2.out.2.2.1, n3⟩
  have HBy : Hid (Below w.heap.size w y3) := A3.bel
  clear A3 v3 n3 f3 b3 HV1 HV2
  have hca := str_cut40 a0
  have ha0 : (0 : Int) ≤ min ((str a0).size : Int) 40 := by omega
  have ha1 : min ((str a0).size : Int) 40 ≤ ((str a0).size : Int) := by omega
  have hcb := str_cut40 b0
  have hb0 : (0 : Int) ≤ min ((str b0).size : Int) 40 := by omega
  have hb1 : min ((str b0).size : Int) 40 ≤ ((str b0).size : Int) := by omega
  go_upto_region 9 with fail
  clear hca ha0 ha1 hcb hb0 hb1
  generalize a0.take 40 = a at *
  generalize b0.take 40 = b at *
  have hRa := fun y => right_calls (str a) y
  have hRb := fun y => right_calls (str b) y
  simp only [str_list] at hRa hRb
  cases hra : rightP a with
  | false =>
    rw [hra] at hRa
    go_wp2_with (go_at_call 27; refine (hRa _).mono ?_; rintro e z1 ⟨rfl, c1⟩)
    go_ret
    exact ⟨rfl, HBy.out.trans (c1.mono HBy.out.size)⟩
  | true =>
  cases hrb : rightP b with
  | false =>
    rw [hra] at hRa
    rw [hrb] at hRb
    have hR1 := hRa y3
    clear hRa
    go_wp2_with (first
      | (go_at_call 27; refine hR1.mono ?_; clear hR1; rintro e z1 ⟨rfl, c1⟩)
      | (go_at_call 27; refine (hRb _).mono ?_; rintro e z2 ⟨rfl, c2⟩))
    go_ret
    exact ⟨rfl, (HBy.out.trans (c1.mono HBy.out.size)).trans (c2.mono (Nat.le_trans HBy.out.size c1.size))⟩
  | true =>
  rw [hra] at hRa
  rw [hrb] at hRb
  have hR1 := hRa y3
  clear hRa
  have HR0 : Hid (rightP a = true ∧ rightP b = true) := ⟨hra, hrb⟩
  clear hra hrb
  cases hq : ((str a).toList == (str b).toList) with
  | true =>
    have HQ : Hid (((str a).toList == (str b).toList) = true) := hq
    go_wp2_with (first
      | (go_at_call 27; refine hR1.mono ?_; clear hR1; rintro e z1 ⟨rfl, c1⟩)
      | (go_at_call 27; refine (hRb _).mono ?_; rintro e z2 ⟨rfl, c2⟩))
    go_ret
    exact ⟨rfl, (HBy.out.trans (c1.mono HBy.out.size)).trans (c2.mono (Nat.le_trans HBy.out.size c1.size))⟩
  | false =>
    have hab : a ≠ b := by have := hq; rw [str_ne] at this; simpa using this
    have HR : Hid (rightP a = true ∧ rightP b = true ∧ a ≠ b) := ⟨HR0.out.1, HR0.out.2, hab⟩
    clear hab HR0
    go_upto_region 11 with (first
      | (go_at_call 27; refine hR1.mono ?_; clear hR1; rintro e z1 ⟨rfl, c1⟩)
      | (go_at_call 27; refine (hRb _).mono ?_; rintro e z2 ⟨rfl, c2⟩))
    have HT4 : Hid (Tri3 w z2 dx dv dw) := (HT3.out.called c1).called c2
    clear HT3 HBy c1 c2 hRb hq
    have hK1 := hKb.1
    have hK2 := hKb.2
    have h1 := dput_ok (ni_base _ _ _ _) w z2 9 dx.q dx.x dx.V HT4.out.at1 (by have := HV.out.2.2.2.2.2; omega) 1 b (1 + bits .and .i64 ino 65535) (okE_right rfl HR.out.2.1) (numK_ok hKb)
    rw [HV.out.2.2.1] at h1
    go_upto_region 12 with (go_at_call 10; refine h1.mono ?_; clear h1; rintro e y5 ⟨rfl, x5, T5⟩)
    obtain ⟨c, hc⟩ : ∃ c, c = enC 1 b (1 + bits .and .i64 ino 65535) := ⟨_, rfl⟩
    rw [← hc] at T5
    have HCF : Hid (c.k = entryR 1 b ∧ c.plain = c) := (show _ ∧ _ by rw [hc]; exact ⟨rfl, rfl⟩)
    have HT5 : Hid (Tri3 w y5 { dx with x := x5, V := vs0.change c } dv dw ∧ x5.n ≤ 4) := ⟨HT4.out.fst T5, by have := T5.n; have := HV.out.2.2.2.2.2; omega⟩
    have hCh := vchanges_calls y5 dx.q _ x5 (vs0.change c) T5.at_.vw (by have := HT5.out.2; omega)
    have hVC : (vs0.change c).C = [c] := rfl
    rw [hVC] at hCh
    simp only [List.length_singleton, List.map_cons, List.map_nil, HCF.out.2] at hCh
    clear T5 HT4 hc hVC hK1 hK2 hKb
    go_upto_region 15 with (go_at_call 24; refine hCh.mono ?_; clear hCh; rintro e y6 ⟨adC, capC, rfl, o6, b6⟩)
    obtain ⟨gC, oC, rfl, hgl, hat⟩ := SlB.at o6.slB 0 (Nat.zero_lt_one)
    have hkr : y6.rangeAt gC oC (bc (entryR 1 b)) := by
      have := range_kC hat
      rw [Nat.zero_mul, Nat.add_zero] at this
      rw [← HCF.out.1]
      exact this
    have hgn : y5.heap.size ≤ gC := (o6.lt gC rfl).1
    have HT6 : Hid (Tri3 w y6 { dx with x := x5, V := vs0.change c } dv dw) := HT5.out.1.called b6
    have HK6 : Hid (y6.rangeAt gC oC (bc (entryR 1 b)) ∧ gC < y6.heap.size ∧ ¬ dv.x.own dv.q gC ∧ ¬ dw.x.own dw.q gC) := ⟨hkr, hgl, fun e => by have := NV.lt HT5.out.1.at2 (.inl e); omega, fun e => by have := NV.lt HT5.out.1.at3 (.inl e); omega⟩
    have h7 := dfind_ok (ni_base _ _ _ _) w y6 8 dv.q dv.x dv.V (HT6.out.at2.re 9) (by have := HV.out.2.2.2.1; omega) 1 a (okE_right rfl HR.out.1)
    rw [HV.out.1, getW_none vs0 rfl] at h7
    clear o6 b6 hat hkr hgn hgl HT5 HCF
    go_upto_region 16 with (go_at_call 21; refine h7.mono ?_; clear h7; rintro e y7 ⟨⟨o7, -, rfl⟩, x7, T7⟩)
    have HT7 : Hid (Tri3 w y7 { dv with x := x7, V := { vs0 with R := vs0.R ++ [oneSp (ekz 1 a)] } } dw { dx with x := x5, V := vs0.change c } ∧ x7.n ≤ 4) := ⟨HT6.out.rot.fst T7, by have := T7.n; have := HV.out.2.2.2.1; omega⟩
    have HK7 : Hid (y7.rangeAt gC oC (bc (entryR 1 b)) ∧ gC < y7.heap.size ∧ ¬ x7.own dv.q gC ∧ ¬ dw.x.own dw.q gC) := ⟨range_same' HK6.out.1 (T7.kept HK6.out.2.1 HK6.out.2.2.1), Nat.lt_of_lt_of_le HK6.out.2.1 T7.fr.size, fun e => (T7.own _ e).elim HK6.out.2.2.1 (fun r => by have := HK6.out.2.1; omega), HK6.out.2.2.2⟩
    have h8 := dput_ok (ni_base _ _ _ _) w y7 9 dw.q dw.x dw.V HT7.out.1.at2 (by have := HV.out.2.2.2.2.1; omega) 1 b 9 (okE_right rfl HR.out.2.1) rfl
    rw [HV.out.2.1] at h8
    clear T7 HT6 HK6
    go_upto_region 17 with (go_at_call 10; refine h8.mono ?_; clear h8; rintro e y8 ⟨rfl, x8, T8⟩)
    have HT8 : Hid (Tri3 w y8 { dw with x := x8, V := vs0.change (enC 1 b 9) } { dx with x := x5, V := vs0.change c } { dv with x := x7, V := { vs0 with R := vs0.R ++ [oneSp (ekz 1 a)] } } ∧ x8.n ≤ 4) := ⟨HT7.out.1.rot.fst T8, by have := T8.n; have := HV.out.2.2.2.2.1; omega⟩
    have HK8 : Hid (y8.rangeAt gC oC (bc (entryR 1 b)) ∧ gC < y8.heap.size ∧ ¬ x7.own dv.q gC ∧ ¬ x8.own dw.q gC ∧ x7.n ≤ 4) := ⟨range_same' HK7.out.1 (T8.kept HK7.out.2.1 HK7.out.2.2.2), Nat.lt_of_lt_of_le HK7.out.2.1 T8.fr.size, HK7.out.2.2.1, fun e => (T8.own _ e).elim HK7.out.2.2.2 (fun r => by have := HK7.out.2.1; omega), HT7.out.2⟩
    have h9 := ddrop_ok (ni_base _ _ _ _) w y8 9 dw.q x8 (vs0.change (enC 1 b 9)) HT8.out.1.at1 (by have := HT8.out.2; omega) 1 a (okE_right rfl HR.out.1)
    clear T8 HT7 HK7
    go_upto_region 18 with (go_at_call 12; refine h9.mono ?_; clear h9; rintro e y9 ⟨rfl, x9, T9⟩)
    have HT9 : Hid (Tri3 w y9 { dw with x := x9, V := (vs0.change (enC 1 b 9)).change (goneC (ekz 1 a)) } { dx with x := x5, V := vs0.change c } { dv with x := x7, V := { vs0 with R := vs0.R ++ [oneSp (ekz 1 a)] } } ∧ x9.n ≤ 8) := ⟨HT8.out.1.fst T9, by have := T9.n; have := HT8.out.2; omega⟩
    have HK9 : Hid (y9.rangeAt gC oC (bc (entryR 1 b)) ∧ gC < y9.heap.size ∧ ¬ x7.own dv.q gC ∧ ¬ x9.own dw.q gC ∧ x7.n ≤ 4) := ⟨range_same' HK8.out.1 (T9.kept HK8.out.2.1 HK8.out.2.2.2.1), Nat.lt_of_lt_of_le HK8.out.2.1 T9.fr.size, HK8.out.2.2.1, fun e => (T9.own _ e).elim HK8.out.2.2.2.1 (fun r => by have := HK8.out.2.1; omega), HK8.out.2.2.2.2⟩
    obtain ⟨W9, hW9⟩ : ∃ W9, W9 = (vs0.change (enC 1 b 9)).change (goneC (ekz 1 a)) := ⟨_, rfl⟩
    have HW9 : Hid (W9.R = [] ∧ W9.C.length ≤ 2) := (show _ ∧ _ by
      rw [hW9]
      refine ⟨rfl, ?_⟩
      have q1 := putA_len Ch.n (vs0.change (enC 1 b 9)).C (goneC (ekz 1 a))
      have q2 : (vs0.change (enC 1 b 9)).C.length = 1 := rfl
      show (putA Ch.n (vs0.change (enC 1 b 9)).C (goneC (ekz 1 a))).length ≤ 2
      omega)
    rw [← hW9] at HT9
    have h10 := vreads_calls y9 dw.q _ x9 W9 HT9.out.1.at1.vw (by have := HT9.out.2; omega)
    rw [HW9.out.1] at h10
    clear T9 HT8 HK8 hW9
    go_upto_region 19 with (go_at_call 26; refine h10.mono ?_; clear h10; rintro e y10 ⟨vR, RR, rfl, oR, bR, iR, -⟩
                            obtain rfl : RR = [] := Is.none iR (fun _ _ => rfl)
                            obtain ⟨adR, capR, rfl, -, -, -, -⟩ := id oR.slB)
    have HT10 : Hid (Tri3 w y10 { dw with x := x9, V := W9 } { dx with x := x5, V := vs0.change c } { dv with x := x7, V := { vs0 with R := vs0.R ++ [oneSp (ekz 1 a)] } } ∧ x9.n ≤ 8) := ⟨HT9.out.1.called bR, HT9.out.2⟩
    have HK10 : Hid (y10.rangeAt gC oC (bc (entryR 1 b)) ∧ gC < y10.heap.size ∧ ¬ x7.own dv.q gC ∧ ¬ x9.own dw.q gC ∧ x7.n ≤ 4) := ⟨range_same' HK9.out.1 (bR.block gC HK9.out.2.1), Nat.lt_of_lt_of_le HK9.out.2.1 bR.size, HK9.out.2.2⟩
    have h11 := dlist_ok (ni_base _ _ _ _) w y10 8 dw.q x9 W9 (HT10.out.1.at1.re 9) (by have := HT10.out.2; omega) 1 rfl (scanV W9.C nSn (entriesS 1)).1 rfl (scanV_len W9.C [] (by decide) (by have := HW9.out.2; omega) (entriesS 1))
    clear oR bR iR HT9 HK9
    go_upto_region 20 with (go_at_call 14; refine h11.mono ?_; clear h11; rintro e y11 ⟨x11, T11, hq11⟩
                            obtain ⟨rv, rfl⟩ : ∃ rv, e = .returned rv := by
                              rcases hq11 with ⟨-, ad, cap, h, -⟩ | ⟨-, h⟩
                              · exact ⟨_, h⟩
                              · exact ⟨_, h⟩)
    have hrot := (HT10.out.1.fst T11).rot.rot
    obtain ⟨dv6, dw6, do6, HT11', hq1, hq2, hm1, hm2, hx1, hx2⟩ : ∃ dv6 dw6 do6 : NV, Tri3 w y11 dv6 dw6 do6 ∧ dv6.q = dv.q ∧ dw6.q = dw.q ∧ mem dv6.V.R (num (entryR 1 b)) = false ∧ mem dw6.V.R (num (entryR 1 b)) = true ∧ dv6.x.n ≤ 50000 ∧ dw6.x.n ≤ 50000 := by
      refine ⟨_, _, _, hrot, rfl, rfl, ?_, ?_, ?_, ?_⟩
      · exact (mem_oneE (ekz 1 a) (ekz 1 b)).trans (decide_eq_false (ekz_inj rfl HR.out.2.1 HR.out.1 (fun e => HR.out.2.2 e.symm)))
      · show mem (W9.R ++ [entriesS 1]) _ = true
        rw [HW9.out.1]
        exact mem_dir rfl HR.out.2.1
      · show x7.n ≤ 50000
        have := HK10.out.2.2.2.2
        omega
      · show x11.n ≤ 50000
        have := T11.n
        have := HT10.out.2
        omega
    have HT11 : Hid (Tri3 w y11 dv6 dw6 do6) := HT11'
    have HX : Hid (dv6.x.n ≤ 50000 ∧ dw6.x.n ≤ 50000) := ⟨hx1, hx2⟩
    have HVM : Hid (mem dv6.V.R (num (entryR 1 b)) = false) := hm1
    have HWM : Hid (mem dw6.V.R (num (entryR 1 b)) = true) := hm2
    have hk11 : y11.rangeAt gC oC (bc (entryR 1 b)) := range_same' HK10.out.1 (T11.kept HK10.out.2.1 HK10.out.2.2.2.1)
    have hlt11 : gC < y11.heap.size := Nat.lt_of_lt_of_le HK10.out.2.1 T11.fr.size
    have HKC : Hid (∀ yy, Below y11.heap.size y11 yy → yy.rangeAt gC oC (bc (entryR 1 b))) := fun yy h => range_same' hk11 (h.block gC hlt11)
    have hInfo : (Tryz.prog.info? 29).map (·.size) = some (bc (entryR 1 b)).length := by rw [bc_length, entryR_length]; exact Tryz.key_info
    rw [← hq1, ← hq2]
    clear T11 hq11 hrot HT11' hx1 hx2 hm1 hm2 hk11 hlt11 HT10 HK10 HW9 hq1 hq2 HV HR
    refine wp_region_noPanic ?_
    refine wp_region_held_drew (S := (fun yy => yy.rangeAt gC oC (bc (entryR 1 b)))) (by kernel_rfl) (HKC.out _ ⟨rfl, rfl, rfl, Nat.le_refl _, fun _ _ => rfl⟩) (fun hHeld => ?_)
    refine wpAnyH_take (i := 0) (v := ?_) rfl (by kernel_rfl) (by kernel_rfl) (by kernel_rfl) (fun _ _ _ h => h) (Or.inl ⟨by rfl, ?_⟩) hHeld ?_
    case refine_2 => (intro w hSw; (try dsimp only at hSw); go_simp; try (with_reducible rfl))
    (try simp only [gs])
    refine wpAnyH_take (i := 2) (v := ?_) rfl (by kernel_rfl) (by kernel_rfl) (by kernel_rfl) (fun _ _ _ h => h) (Or.inl ⟨by rfl, ?_⟩) hHeld ?_
    case refine_2 => (intro w hSw; (try dsimp only at hSw); go_simp; try (with_reducible rfl))
    (try simp only [gs])
    refine wpAnyH_take (i := 3) (v := ?_) rfl (by kernel_rfl) (by kernel_rfl) (by kernel_rfl) (fun _ _ _ h => h) (Or.inl ⟨by rfl, ?_⟩) hHeld ?_
    case refine_2 => (intro w hSw; (try dsimp only at hSw); go_simp; try (with_reducible rfl))
    (try simp only [gs])
    refine wpAnyH_take (i := 4) (v := ?_) rfl (by kernel_rfl) (by kernel_rfl) (by kernel_rfl) (fun _ _ _ h => h) (Or.inl ⟨by rfl, ?_⟩) hHeld ?_
    case refine_2 => (intro w hSw; (try dsimp only at hSw); go_simp; try (with_reducible rfl))
    (try simp only [gs])
    refine wpAnyH_take (i := 5) rfl (by kernel_rfl) (by kernel_rfl) (by kernel_rfl) (fun _ _ _ h => h) (yieldsIf_load_mid (by rfl) _ _ rfl _ _ rfl _ _ (fun _ h => h) Tryz.underlying29 rfl hInfo) hHeld ?_
    (try simp only [gs])
    have HTD : Hid (Tri3 w y11.drew dv6 dw6 do6) := HT11.out.called ⟨rfl, rfl, rfl, Nat.le_refl _, fun _ _ => rfl⟩
    have HKD : Hid (∀ yy, Below y11.drew.heap.size y11.drew yy → yy.rangeAt gC oC (bc (entryR 1 b))) := fun yy h => HKC.out yy ((show Below y11.heap.size y11 y11.drew from ⟨rfl, rfl, rfl, Nat.le_refl _, fun _ _ => rfl⟩).trans h)
    have hR1 := vreads_calls y11.drew dv6.q _ dv6.x dv6.V HTD.out.at1.vw (by have := HX.out.1; omega)
    generalize y11.drew = z0 at *
    refine wpAnyH_ready (rs := [1]) (by kernel_rfl) (by simp) (AllReadyH.cons rfl (fun K0 hK => ?_) AllReadyH.nil)
    rw [if_pos (by rfl)]
    (try simp only [gs])
    go_simp
    refine hR1.mono ?_
    clear hR1
    rintro e z1 ⟨vR, RR, rfl, o1, b1, i1, -⟩
    obtain ⟨adR, capR, rfl, -, -, -, -⟩ := id o1.slB
    have hH1 := rhas_calls z1 _ RR o1.slB (entryR 1 b) (entryR_length 1 b)
    rw [i1.2 (entryR 1 b) (entryR_length 1 b), HVM.out] at hH1
    have HB1 : Hid (Below z0.heap.size z0 z1) := b1
    refine hK.out _ _ (HKD.out z1 b1) (fun hHeld => ?_)
    clear hK K0 o1 i1 b1
    (try simp only [gs])
    refine wpAnyH_ready (rs := [6]) (by kernel_rfl) (by simp) (AllReadyH.cons rfl (fun K0 hK => ?_) AllReadyH.nil)
    rw [if_pos (by rfl)]
    (try simp only [gs])
    go_simp
    refine hH1.mono ?_
    clear hH1
    rintro e z2 ⟨rfl, b2⟩
    have HB2 : Hid (Below z0.heap.size z0 z2) := HB1.out.trans (b2.mono HB1.out.size)
    refine hK.out _ _ (HKD.out z2 HB2.out) (fun hHeld => ?_)
    clear hK K0 b2
    (try simp only [gs])
    refine wpAnyH_take (i := 7) (v := ?_) rfl (by kernel_rfl) (by kernel_rfl) (by kernel_rfl) (fun _ _ _ h => h) (Or.inl ⟨by rfl, ?_⟩) hHeld ?_
    case refine_2 => (intro w hSw; (try dsimp only at hSw); go_simp; try (with_reducible rfl))
    (try simp only [gs])
    refine wpAnyH_take (i := 8) (v := ?_) rfl (by kernel_rfl) (by kernel_rfl) (by kernel_rfl) (fun _ _ _ h => h) (Or.inl ⟨by rfl, ?_⟩) hHeld ?_
    case refine_2 => (intro w hSw; (try dsimp only at hSw); go_simp; try (with_reducible rfl))
    (try simp only [gs])
    refine wpAnyH_take (i := 9) (v := ?_) rfl (by kernel_rfl) (by kernel_rfl) (by kernel_rfl) (fun _ _ _ h => h) (Or.inl ⟨by rfl, ?_⟩) hHeld ?_
    case refine_2 => (intro w hSw; (try dsimp only at hSw); go_simp; try (with_reducible rfl))
    (try simp only [gs])
    refine wpAnyH_take (i := 11) (v := ?_) rfl (by kernel_rfl) (by kernel_rfl) (by kernel_rfl) (fun _ _ _ h => h) (Or.inl ⟨by rfl, ?_⟩) hHeld ?_
    case refine_2 => (intro w hSw; (try dsimp only at hSw); go_simp; try (with_reducible rfl))
    (try simp only [gs])
    refine wpAnyH_take (i := 12) (v := ?_) rfl (by kernel_rfl) (by kernel_rfl) (by kernel_rfl) (fun _ _ _ h => h) (Or.inl ⟨by rfl, ?_⟩) hHeld ?_
    case refine_2 => (intro w hSw; (try dsimp only at hSw); go_simp; try (with_reducible rfl))
    (try simp only [gs])
    refine wpAnyH_take (i := 13) (v := ?_) rfl (by kernel_rfl) (by kernel_rfl) (by kernel_rfl) (fun _ _ _ h => h) (Or.inl ⟨by rfl, ?_⟩) hHeld ?_
    case refine_2 => (intro w hSw; (try dsimp only at hSw); go_simp; try (with_reducible rfl))
    (try simp only [gs])
    refine wpAnyH_take (i := 14) rfl (by kernel_rfl) (by kernel_rfl) (by kernel_rfl) (fun _ _ _ h => h) (yieldsIf_load_mid (by rfl) _ _ rfl _ _ rfl _ _ (fun _ h => h) Tryz.underlying29 rfl hInfo) hHeld ?_
    (try simp only [gs])
    have hR2 := vreads_calls z2 dw6.q _ dw6.x dw6.V (HTD.out.called HB2.out).at2.vw (by have := HX.out.2; omega)
    refine wpAnyH_ready (rs := [10]) (by kernel_rfl) (by simp) (AllReadyH.cons rfl (fun K0 hK => ?_) AllReadyH.nil)
    rw [if_pos (by rfl)]
    (try simp only [gs])
    go_simp
    refine hR2.mono ?_
    clear hR2
    rintro e z3 ⟨vS, RS, rfl, o3, b3, i3, -⟩
    obtain ⟨adS, capS, rfl, -, -, -, -⟩ := id o3.slB
    have hH2 := rhas_calls z3 _ RS o3.slB (entryR 1 b) (entryR_length 1 b)
    rw [i3.2 (entryR 1 b) (entryR_length 1 b), HWM.out] at hH2
    have HB3 : Hid (Below z0.heap.size z0 z3) := HB2.out.trans (b3.mono HB2.out.size)
    refine hK.out _ _ (HKD.out z3 HB3.out) (fun hHeld => ?_)
    clear hK K0 o3 i3 b3
    (try simp only [gs])
    refine wpAnyH_ready (rs := [15]) (by kernel_rfl) (by simp) (AllReadyH.cons rfl (fun K0 hK => ?_) AllReadyH.nil)
    rw [if_pos (by rfl)]
    (try simp only [gs])
    go_simp
    refine hH2.mono ?_
    clear hH2
    rintro e z4 ⟨rfl, b4⟩
    have HB4 : Hid (Below z0.heap.size z0 z4) := HB3.out.trans (b4.mono HB3.out.size)
    refine hK.out _ _ (HKD.out z4 HB4.out) (fun hHeld => ?_)
    clear hK K0 b4
    (try simp only [gs])
    refine wpAnyH_take (i := 16) (v := ?_) rfl (by kernel_rfl) (by kernel_rfl) (by kernel_rfl) (fun _ _ _ h => h) (Or.inl ⟨by rfl, ?_⟩) hHeld ?_
    case refine_2 => (intro w hSw; (try dsimp only at hSw); go_simp; try (with_reducible rfl))
    (try simp only [gs])
    refine wpAnyH_take (i := 17) (v := ?_) rfl (by kernel_rfl) (by kernel_rfl) (by kernel_rfl) (fun _ _ _ h => h) (Or.inl ⟨by rfl, ?_⟩) hHeld ?_
    case refine_2 => (intro w hSw; (try dsimp only at hSw); go_simp; try (with_reducible rfl))
    (try simp only [gs])
    refine wpAnyH_take (i := 18) (v := ?_) rfl (by kernel_rfl) (by kernel_rfl) (by kernel_rfl) (fun _ _ _ h => h) (Or.inl ⟨by rfl, ?_⟩) hHeld ?_
    case refine_2 => (intro w hSw; (try dsimp only at hSw); go_simp; try (with_reducible rfl))
    (try simp only [gs])
    refine wpAnyH_take (i := 19) (v := ?_) rfl (by kernel_rfl) (by kernel_rfl) (by kernel_rfl) (fun _ _ _ h => h) (Or.inl ⟨by rfl, ?_⟩) hHeld ?_
    case refine_2 => (intro w hSw; (try dsimp only at hSw); go_simp; try (with_reducible rfl))
    (try simp only [gs])
    refine wpAnyH_take (i := 20) (v := ?_) rfl (by kernel_rfl) (by kernel_rfl) (by kernel_rfl) (fun _ _ _ h => h) (Or.inl ⟨by rfl, ?_⟩) hHeld ?_
    case refine_2 => (intro w hSw; (try dsimp only at hSw); go_simp; try (with_reducible rfl))
    (try simp only [gs])
    refine wpAnyH_done (by kernel_rfl) ?_ _
    refine NoPanic.normal ?_
    clear hHeld
    have HBW : Hid (Below w.heap.size w z4) := (HTD.out.called HB4.out).at1.bel
    go_wp2_with fail
    go_ret
    exact ⟨rfl, HBW.out⟩
theorem dirReads_at (w : World) (s t : ByteArray) (ino : Int) :
    Calls Tryz.prog 5 #[.string s, .string t, .int .i64 ino] w fun e w' => e = .returned (.bool true) ∧ Below w.heap.size w w' := by
  have h := dirReads_walk w s.data.toList t.data.toList ino
  rwa [strD, strD] at h
end Go.Proofs.YthdoomjhdmklnaaGreat
/- DirReads answers true at every two texts and number and turns nothing that was there: whoever finds, or puts, has read no more than that entry. No condition. -/
namespace Go.Proofs.YthdoomjhdmklnaaGreat
set_option linter.unusedVariables false
set_option maxRecDepth 100000
open Go.ChangeShapes Go.WideShapes Go.ChangeAt Go.RowKit
open Go.ChangeMaps (open_string shut_string)

set_option maxRecDepth 100000 in
theorem dirReads_lifted (os : Os) (started : os.Started) (H : Type) (enc : TypeId × Value → H) :
    ReturnsInHanded {} Tryz.checked os 5 .any (Rows.dirReadsSpec.pre6 enc Tryz.prog Tryz.f5 Rows.dirReadsRow.domain false) (Rows.dirReadsSpec.post enc Tryz.prog Tryz.f5 false true false false) := by
  refine returnsInHanded_of_change (C := Tryz.checked) Tryz.own started (by kernel_rfl) Tryz.func5
    (ChangeSpec.witness6 (enc := enc) (C := Tryz.checked) false ⟨#[], #[.string ⟨#[]⟩, .string ⟨#[]⟩, .int .i64 0], []⟩ 8 (by kernel_rfl) (by kernel_rfl) (by kernel_rfl) (by kernel_rfl)) ?_
  intro W base args ds gs before hval0 hW hcnd _
  have hval : ∀ (j : Nat) t v, Tryz.f5.params[j]? = some t → args[j]? = some v → Value.okWide Tryz.prog W .any base t v := hval0
  have hW' := hW
  obtain ⟨p, q, hA0, hV, rfl, hfz, hnd⟩ := hW
  have hA : DataW.TrodAll enc Tryz.prog W 0 (fun _ => true) true Tryz.f5.params.toList args.toList ds p := hA0
  rw [Tryz.params5] at hA hval
  obtain ⟨v0, vs0, d0, ds0, p0, q0, hargs, rfl, rfl, h0, r0⟩ := trodAll_cons hA
  obtain ⟨v1, vs1, d1, ds1, p1, q1, rfl, rfl, rfl, h1, r1⟩ := trodAll_cons r0
  obtain ⟨v2, vs2, d2, ds2, p2, q2, rfl, rfl, rfl, h2, r2⟩ := trodAll_cons r1
  obtain ⟨rfl, rfl, rfl⟩ := trodAll_nil r2
  obtain rfl : args = #[v0, v1, v2] := by cases args; simp_all
  obtain ⟨rfl, rfl⟩ := trodVars_none hV
  obtain ⟨s0, rfl, rfl, rfl, w0⟩ := open_string Tryz.underlying9 (hval 0 9 v0 rfl rfl) h0
  obtain ⟨s1, rfl, rfl, rfl, w1⟩ := open_string Tryz.underlying9 (hval 1 9 v1 rfl rfl) h1
  obtain ⟨a2, rfl, rfl, rfl, w2⟩ := open_int Tryz.underlying3 (hval 2 3 v2 rfl rfl) h2
  have b2 := bounds_i64 w2
  clear hA0 hval0
  refine (dirReads_at W s0 s1 a2).mono fun e W' ⟨he, bel⟩ => ?_
  subst he
  exact ⟨_, rfl, _, _, _, [], _, [], hW', trodAll_mk1 (shut_bool Tryz.underlying4 _), (trodAll_cons_mk (shut_string Tryz.underlying9 w0) (trodAll_cons_mk (shut_string Tryz.underlying9 w1) (trodAll_cons_mk (shut_int Tryz.underlying3 w2) trodAll_mk0))), rfl, bel.frame _, fun h => by cases h⟩

set_option maxRecDepth 100000 in
/-- The statement. -/
theorem dirReads_holds : Rows.DirReadsSaid :=
  OpenClaim.holds_of_wide 5 Tryz.f5 rfl rfl rfl rfl rfl rfl rfl ⟨rfl, rfl, rfl, rfl, rfl⟩ rfl rfl rfl rfl rfl (by kernel_rfl) Tryz.func5 (by kernel_rfl)
    (of_decide_eq_true (by kernel_rfl)) (by unfold Func.isWrapper; first | (rw [if_pos (by decide +kernel)]; kernel_rfl) | (rw [if_neg (by decide +kernel)]; exact ⟨rfl, rfl⟩))
    (fun os started H enc _ => dirReads_lifted os started H enc)
end Go.Proofs.YthdoomjhdmklnaaGreat
