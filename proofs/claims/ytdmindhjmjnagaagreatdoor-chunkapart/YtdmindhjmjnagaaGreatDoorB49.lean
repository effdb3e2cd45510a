import Derived.Test.YtdmindhjmjnagaaGreatDoorSi
import Derived.Test.YtdmindhjmjnagaaGreatDoorB48
import Derived.Test.YtdmindhjmjnagaaGreatDoorSi
/- ChunkPieces. -/
namespace Go.Proofs.YtdmindhjmjnagaaGreatDoor
set_option linter.unusedVariables false
set_option maxRecDepth 100000
open Go.RowKit

theorem str_cut300 (v : List UInt8) : (str v).extract 0 (min ((str v).size : Int) 300).toNat = str (v.take 300) := by
  have h : (min ((str v).size : Int) 300).toNat = min v.length 300 := by rw [str_size]; omega
  rw [h]
  apply ByteArray.ext
  apply Array.ext'
  rw [ByteArray.data_extract]
  simp only [Array.toList_extract, str_list, List.extract_eq_take_drop, List.drop_zero, Nat.sub_zero]
  by_cases q : v.length ≤ 300
  · rw [Nat.min_eq_left q, List.take_length, List.take_of_length_le q]
  · rw [Nat.min_eq_right (by omega)]
/-- Kept out of sight. -/
structure Kp (P : Prop) : Prop where
  out : P
theorem str_take (v : List UInt8) (k : Nat) : (str v).extract 0 k = str (v.take k) := by
  apply ByteArray.ext
  apply Array.ext'
  rw [ByteArray.data_extract]
  simp only [Array.toList_extract, str_list, List.extract_eq_take_drop, List.drop_zero, Nat.sub_zero]
theorem str_drop (v : List UInt8) (k : Nat) : (str v).extract k (str v).size = str (v.drop k) := by
  apply ByteArray.ext
  apply Array.ext'
  rw [ByteArray.data_extract]
  simp only [Array.toList_extract, str_list, List.extract_eq_take_drop, str_size]
  rw [List.take_of_length_le (by rw [List.length_drop]; omega)]
/-- A row that is newer than a view stays beside it. -/
theorem own_aside {d : NV} {w0 y y' : World} {x' : VR} {V' : VS} {k nb base : Nat} {kk : Nat} {α : Type} {E : Enc α kk} {ty : TypeId} {v : Value} {l : List α} (T : VRan noB w0 d.lim (NI d.lim d.p d.pv d.base) k (nI d.p) d.q d.x nb V' y x' y') (o : Own E ty y base v l) (hb : ∀ i, d.x.own d.q i → i < base) : Own E ty y' base v l :=
  o.same fun g hg => T.kept (o.lt g hg).2 (fun e => by have := hb g e; have := (o.lt g hg).1; omega)
theorem vs0_ok : FileOk vs0.C := FileOk.nil
/-- Three views, written in three ways, have the same pairs. -/
theorem pieces_same {off k : Nat} {s : List UInt8} (hk : k ≤ s.length) (hod : off + s.length ≤ 1048576) :
    lives (writeV (writeV vs0 (plGe []) 5 off (s.take k)) (plGe []) 5 (off + k) (s.drop k)).C allSp = lives (writeV vs0 (plGe []) 5 off s).C allSp
    ∧ lives (writeV (writeV vs0 (plGe []) 5 (off + k) (s.drop k)) (plGe []) 5 off (s.take k)).C allSp = lives (writeV vs0 (plGe []) 5 off s).C allSp := by
  have l1 : (s.take k).length = k := by rw [List.length_take]; omega
  have l2 : (s.drop k).length = s.length - k := List.length_drop
  have o1 : off + (s.take k).length ≤ 1048576 := by omega
  have o2 : off + k + (s.drop k).length ≤ 1048576 := by omega
  have hi : okN 5 = true := rfl
  have f0 : InF vs0.C 5 := InF.nil 5
  have f1 := write_in (V := vs0) f0 o1
  have f2 := write_in (V := vs0) f0 o2
  have k1 := write_ok (V := vs0) vs0_ok hi o1
  have k2 := write_ok (V := vs0) vs0_ok hi o2
  exact ⟨lives_same (write_ok k1 hi o2) (write_ok vs0_ok hi hod) hi (write_in f1 o2) (write_in f0 hod) (fun i hI => (two_fB vs0_ok hi hk hod i hI).1),
    lives_same (write_ok k2 hi o1) (write_ok vs0_ok hi hod) hi (write_in f2 o1) (write_in f0 hod) (fun i hI => (two_fB vs0_ok hi hk hod i hI).2)⟩
theorem pieces_len {off : Nat} {s : List UInt8} (hs : s.length ≤ 300) : (writeV vs0 (plGe []) 5 off s).C.length ≤ 11 := by
  have := writeV_len vs0 (plGe []) 5 off s
  have := pN_300 (off := off) hs
  have e : vs0.C.length = 0 := rfl
  omega
set_option maxRecDepth 100000 in
set_option maxHeartbeats 16000000 in
theorem chunkPieces_walk (w : World) (off0 : Int) (s0 : List UInt8) (at0 : Int) :
    Calls Tryz.prog 8 #[.int .i64 off0, .string (str s0), .int .i64 at0] w fun e w' => e = .returned (.bool true) ∧ Below w.heap.size w w' := by
  have hsh := shown13_calls w
  have hm1 := and65535 off0
  have hm2 := and511 at0
  go_enter Tryz.func8, Tryz.ntmps8
  go_upto_region 2 with (go_at_call 9; refine hsh.mono ?_; clear hsh; rintro e y0 ⟨rfl, b1⟩)
  have hN1 := nvNew_calls w y0 b1
  clear b1
  go_upto_region 3 with (go_at_call 10; refine hN1.mono ?_; clear hN1; rintro e y1 ⟨da, rfl, A1, v1, n1, f1, b1⟩)
  have HV1 : Kp (da.at_ w y1 ∧ da.V = vs0 ∧ da.x.n = 0 ∧ ∀ i, da.foot i → i < y1.heap.size) := Kp.mk (⟨A1, v1, n1, fun i hi => NV.lt A1 hi⟩)
  have hN2 := nvNew_calls w y1 A1.bel
  clear A1 v1 n1 f1 b1
  go_upto_region 4 with (go_at_call 10; refine hN2.mono ?_; clear hN2; rintro e y2 ⟨db, rfl, A2, v2, n2, f2, b2⟩)
  have HV2 : Kp (db.at_ w y2 ∧ db.V = vs0 ∧ db.x.n = 0 ∧ (∀ i, db.foot i → i < y2.heap.size) ∧ (∀ i, db.foot i → y1.heap.size ≤ i) ∧ da.at_ w y2 ∧ y1.heap.size ≤ y2.heap.size) := Kp.mk (⟨A2, v2, n2, fun i hi => NV.lt A2 hi, f2, NV.called HV1.out.1 b2, b2.size⟩)
  have hN3 := nvNew_calls w y2 A2.bel
  clear A2 v2 n2 f2 b2
  go_upto_region 5 with (go_at_call 10; refine hN3.mono ?_; clear hN3; rintro e y3 ⟨dc, rfl, A3, v3, n3, f3, b3⟩)
  have HT3 : Kp (Tri3 w y3 da db dc) := by
    refine Kp.mk ?_
    obtain ⟨p1, p2⟩ := NV.apart HV1.out.2.2.2 HV2.out.2.2.2.2.1
    obtain ⟨q1, q2⟩ := NV.apart (fun i hi => Nat.lt_of_lt_of_le (HV1.out.2.2.2 i hi) HV2.out.2.2.2.2.2.2) f3
    obtain ⟨r1, r2⟩ := NV.apart HV2.out.2.2.2.1 f3
    exact ⟨NV.called HV2.out.2.2.2.2.2.1 b3, NV.called HV2.out.1 b3, A3, p1, p2, q1, q2, r1, r2⟩
  have HV : Kp (da.V = vs0 ∧ db.V = vs0 ∧ dc.V = vs0 ∧ da.x.n = 0 ∧ db.x.n = 0 ∧ dc.x.n = 0) := Kp.mk (⟨HV1.out.2.1, HV2.out.2.1, v3, HV1.out.2.2.1, HV2.out.2.2.1, n3⟩)
  clear A3 v3 n3 f3 b3 HV1 HV2
  obtain ⟨off, hof⟩ := Int.eq_ofNat_of_zero_le (show 0 ≤ off0 % 65536 by omega)
  obtain ⟨pa, hpa⟩ := Int.eq_ofNat_of_zero_le (show 0 ≤ at0 % 512 by omega)
  rw [hof] at hm1
  rw [hpa] at hm2
  have HB0 : Kp (off ≤ 65535 ∧ pa ≤ 511) := Kp.mk ((show _ ∧ _ by omega))
  have hoI : (off : Int) ≤ 65535 := by omega
  have hpI : (pa : Int) ≤ 511 := by omega
  clear hof hpa
  have hcut := str_cut300 s0
  have hc0 : (0 : Int) ≤ min ((str s0).size : Int) 300 := by omega
  have hc1 : min ((str s0).size : Int) 300 ≤ ((str s0).size : Int) := by omega
  go_upto_region 9 with fail
  have hsl : (s0.take 300).length ≤ 300 := by rw [List.length_take]; omega
  clear hcut hc0 hc1
  generalize s0.take 300 = s at *
  have HSL : Kp (s.length ≤ 300) := Kp.mk (hsl)
  have hss : (str s).size = s.length := str_size s
  have hslI : (s.length : Int) ≤ 300 := by omega
  have hk1 : (pa : Int) % ((s.length : Int) + 1) = ((pa % (s.length + 1) : Nat) : Int) := (Int.natCast_emod pa (s.length + 1)).symm
  clear hsl
  go_upto_region 10 with fail
  rw [hk1]
  obtain ⟨k, hk⟩ : ∃ k : Nat, k = pa % (s.length + 1) := ⟨_, rfl⟩
  rw [← hk]
  have HK : Kp (k ≤ s.length) := Kp.mk ((show _ ≤ _ by have h := Nat.mod_lt pa (Nat.succ_pos s.length); rw [Nat.succ_eq_add_one, ← hk] at h; omega))
  have hk0 : (0 : Int) ≤ (k : Int) := by omega
  have hkI : (k : Int) ≤ (s.length : Int) := by have := HK.out; omega
  have l1 : (s.take k).length ≤ 300 := by rw [List.length_take]; have := HSL.out; omega
  have l2 : (s.drop k).length + k = s.length := by rw [List.length_drop]; have := HK.out; omega
  have HP : Kp (pN off s.length ≤ 11 ∧ pN off (s.take k).length ≤ 11 ∧ pN (off + k) (s.drop k).length ≤ 11) := Kp.mk (⟨pN_300 HSL.out, pN_300 l1, pN_300 (by have := HSL.out; omega)⟩)
  have HD1 : Kp (off + s.length ≤ 1048576) := Kp.mk ((show _ ≤ _ by have := HB0.out; have := HSL.out; omega))
  have HD2 : Kp (off + (s.take k).length ≤ 1048576) := Kp.mk ((show _ ≤ _ by have := HB0.out; omega))
  have HD3 : Kp (off + k + (s.drop k).length ≤ 1048576) := Kp.mk ((show _ ≤ _ by have := HB0.out; have := HSL.out; omega))
  have HX := pieces_same HK.out HD1.out
  have HXL : Kp (lives (writeV (writeV vs0 (plGe []) 5 off (s.take k)) (plGe []) 5 (off + k) (s.drop k)).C allSp = lives (writeV vs0 (plGe []) 5 off s).C allSp ∧ lives (writeV (writeV vs0 (plGe []) 5 (off + k) (s.drop k)) (plGe []) 5 off (s.take k)).C allSp = lives (writeV vs0 (plGe []) 5 off s).C allSp) := Kp.mk (HX)
  have HRD : Kp (readB (writeV vs0 (plGe []) 5 off s).C 5 off s.length = s) := Kp.mk (write_read vs0_ok rfl HD1.out)
  have HCL : Kp ((writeV vs0 (plGe []) 5 off s).C.length ≤ 11) := Kp.mk (pieces_len HSL.out)
  clear HX l1 l2 hk hk1 hm1 hm2 hpI
  have hA := nvWrite HT3.out.at1 5 off s rfl (by have := HV.out; have := HP.out; omega) HD1.out
  rw [HV.out.1] at hA
  have hkS : (k : Int) ≤ ((str s).size : Int) := by omega
  have hk3 : (k : Int) ≤ 300 := by omega
  clear hss hkI hslI
  go_upto_region 11 with (go_at_call 12; refine hA.mono ?_; clear hA; rintro e y4 ⟨rfl, xa, T4⟩)
  have HT4 : Kp (Tri3 w y4 db dc { da with x := xa, V := writeV vs0 (plGe []) 5 off s } ∧ xa.n ≤ 55) := Kp.mk (⟨(HT3.out.fst T4).rot, by have := T4.n; have := HV.out; have := HP.out; omega⟩)
  clear T4 HT3
  have hB := nvWrite HT4.out.1.at1 5 off (s.take k) rfl (by have := HV.out; have := HP.out; omega) HD2.out
  rw [HV.out.2.1, ← str_take] at hB
  go_upto_region 12 with (go_at_call 12; refine hB.mono ?_; clear hB; rintro e y5 ⟨rfl, xb, T5⟩)
  have HT5 : Kp (Tri3 w y5 { db with x := xb, V := writeV vs0 (plGe []) 5 off (s.take k) } dc { da with x := xa, V := writeV vs0 (plGe []) 5 off s } ∧ xa.n ≤ 55 ∧ xb.n ≤ 55) := Kp.mk (⟨HT4.out.1.fst T5, HT4.out.2, by have := T5.n; have := HV.out; have := HP.out; omega⟩)
  clear T5 HT4
  have hB := nvWrite HT5.out.1.at1 5 (off + k) (s.drop k) rfl (by show xb.n + 5 * pN (off + k) (s.drop k).length ≤ 5000; have := HT5.out.2.2; have := HP.out; omega) HD3.out
  rw [show ((off + k : Nat) : Int) = (off : Int) + (k : Int) by omega] at hB
  rw [← str_drop] at hB
  go_upto_region 13 with (go_at_call 12; refine hB.mono ?_; clear hB; rintro e y6 ⟨rfl, xd, T6⟩)
  have HT6 : Kp (Tri3 w y6 dc { da with x := xa, V := writeV vs0 (plGe []) 5 off s } { db with x := xd, V := writeV (writeV vs0 (plGe []) 5 off (s.take k)) (plGe []) 5 (off + k) (s.drop k) } ∧ xa.n ≤ 55 ∧ xd.n ≤ 110) := Kp.mk (⟨(HT5.out.1.fst T6).rot, HT5.out.2.1, by have h : xd.n ≤ xb.n + 5 * pN (off + k) (s.drop k).length := T6.n; have := HT5.out.2.2; have := HP.out; omega⟩)
  clear T6 HT5
  have hC := nvWrite HT6.out.1.at1 5 (off + k) (s.drop k) rfl (by have := HV.out; have := HP.out; omega) HD3.out
  rw [HV.out.2.2.1, show ((off + k : Nat) : Int) = (off : Int) + (k : Int) by omega] at hC
  rw [← str_drop] at hC
  go_upto_region 14 with (go_at_call 12; refine hC.mono ?_; clear hC; rintro e y7 ⟨rfl, xc, T7⟩)
  have HT7 : Kp (Tri3 w y7 { dc with x := xc, V := writeV vs0 (plGe []) 5 (off + k) (s.drop k) } { da with x := xa, V := writeV vs0 (plGe []) 5 off s } { db with x := xd, V := writeV (writeV vs0 (plGe []) 5 off (s.take k)) (plGe []) 5 (off + k) (s.drop k) } ∧ xa.n ≤ 55 ∧ xd.n ≤ 110 ∧ xc.n ≤ 55) := Kp.mk (⟨HT6.out.1.fst T7, HT6.out.2.1, HT6.out.2.2, by have := T7.n; have := HV.out; have := HP.out; omega⟩)
  clear T7 HT6
  have hC := nvWrite HT7.out.1.at1 5 off (s.take k) rfl (by show xc.n + 5 * pN off (s.take k).length ≤ 5000; have := HT7.out.2.2.2; have := HP.out; omega) HD2.out
  rw [← str_take] at hC
  go_upto_region 15 with (go_at_call 12; refine hC.mono ?_; clear hC; rintro e y8 ⟨rfl, xe, T8⟩)
  have HT8 : Kp (Tri3 w y8 { da with x := xa, V := writeV vs0 (plGe []) 5 off s } { db with x := xd, V := writeV (writeV vs0 (plGe []) 5 off (s.take k)) (plGe []) 5 (off + k) (s.drop k) } { dc with x := xe, V := writeV (writeV vs0 (plGe []) 5 (off + k) (s.drop k)) (plGe []) 5 off (s.take k) } ∧ xa.n ≤ 55 ∧ xd.n ≤ 110 ∧ xe.n ≤ 110) := Kp.mk (⟨(HT7.out.1.fst T8).rot, HT7.out.2.1, HT7.out.2.2.1, by have h : xe.n ≤ xc.n + 5 * pN off (s.take k).length := T8.n; have := HT7.out.2.2.2; have := HP.out; omega⟩)
  clear T8 HT7
  generalize writeV (writeV vs0 (plGe []) 5 off (s.take k)) (plGe []) 5 (off + k) (s.drop k) = VB at *
  generalize writeV (writeV vs0 (plGe []) 5 (off + k) (s.drop k)) (plGe []) 5 off (s.take k) = VC at *
  generalize writeV vs0 (plGe []) 5 off s = VA at *
  obtain ⟨L, hLL⟩ : ∃ L, L = lives VA.C allSp := ⟨_, rfl⟩
  obtain ⟨N, hN⟩ : ∃ N : Nat, N = L.length := ⟨_, rfl⟩
  have HN : Kp (N = L.length) := Kp.mk (hN)
  have HLB : Kp (lives VB.C allSp = L ∧ lives VC.C allSp = L ∧ lives VA.C allSp = L) := Kp.mk (⟨HXL.out.1.trans hLL.symm, HXL.out.2.trans hLL.symm, hLL.symm⟩)
  have hN11 : (N : Int) ≤ 11 := by have h1 := lives_len VA.C allSp; have := HCL.out; rw [← hLL] at h1; omega
  have hSa := nvScan HT8.out.1.at1 (show xa.n ≤ 5000 by have := HT8.out.2.1; omega)
  rw [show lives (NV.V { da with x := xa, V := VA }).C allSp = L from HLB.out.2.2, ← hN] at hSa
  have HQ : Kp (∀ i, xd.own db.q i → i < y8.heap.size) := Kp.mk (fun i hi => NV.lt HT8.out.1.at2 (.inl hi))
  have HQ2 : Kp (∀ i, xe.own dc.q i → i < y8.heap.size) := Kp.mk (fun i hi => NV.lt HT8.out.1.at3 (.inl hi))
  clear hLL hN HXL HP HD1 HD2 HD3 HV HK hk0 hkS hk3
  go_upto_region 18 with (first
    | (refine build_allSp rfl _ rfl rfl ?_)
    | (go_at_call 22; refine hSa.mono ?_; clear hSa; rintro e y9 ⟨adA, capA, rfl, oA, TA⟩))
  have HT9 : Kp (Tri3 w y9 { db with x := xd, V := VB } { dc with x := xe, V := VC } { da with x := { xa with n := xa.n + 1 }, V := { VA with R := VA.R ++ [allSp] } } ∧ xa.n ≤ 55 ∧ xd.n ≤ 110 ∧ xe.n ≤ 110) := Kp.mk (⟨(HT8.out.1.fst TA).rot, HT8.out.2⟩)
  have HOA : Kp (Own encP 62 y9 y8.heap.size (.slice adA N capA) L ∧ y8.heap.size ≤ y9.heap.size) := Kp.mk (⟨oA, TA.fr.size⟩)
  clear oA TA HT8
  have hSb := nvScan HT9.out.1.at1 (show xd.n ≤ 5000 by have := HT9.out.2.2.1; omega)
  rw [show lives (NV.V { db with x := xd, V := VB }).C allSp = L from HLB.out.1, ← HN.out] at hSb
  go_upto_region 19 with (first
    | (refine build_allSp rfl _ rfl rfl ?_)
    | (go_at_call 22; refine hSb.mono ?_; clear hSb; rintro e y10 ⟨adB, capB, rfl, oB, TB⟩))
  have HT10 : Kp (Tri3 w y10 { dc with x := xe, V := VC } { da with x := { xa with n := xa.n + 1 }, V := { VA with R := VA.R ++ [allSp] } } { db with x := { xd with n := xd.n + 1 }, V := { VB with R := VB.R ++ [allSp] } } ∧ xa.n ≤ 55 ∧ xe.n ≤ 110) := Kp.mk (⟨(HT9.out.1.fst TB).rot, HT9.out.2.1, HT9.out.2.2.2⟩)
  have HOB : Kp (Own encP 62 y10 y8.heap.size (.slice adB N capB) L ∧ Own encP 62 y10 y8.heap.size (.slice adA N capA) L) := Kp.mk (⟨oB.lower HOA.out.2, own_aside (d := { db with x := xd, V := VB }) TB HOA.out.1 HQ.out⟩)
  clear oB TB HT9 HOA
  have hSc := nvScan HT10.out.1.at1 (show xe.n ≤ 5000 by have := HT10.out.2.2; omega)
  rw [show lives (NV.V { dc with x := xe, V := VC }).C allSp = L from HLB.out.2.1, ← HN.out] at hSc
  go_upto_region 20 with (first
    | (refine build_allSp rfl _ rfl rfl ?_)
    | (go_at_call 22; refine hSc.mono ?_; clear hSc; rintro e z ⟨adC, capC, rfl, oC, TC⟩))
  have HTZ : Kp (Tri3 w z { da with x := { xa with n := xa.n + 1 }, V := { VA with R := VA.R ++ [allSp] } } { db with x := { xd with n := xd.n + 1 }, V := { VB with R := VB.R ++ [allSp] } } { dc with x := { xe with n := xe.n + 1 }, V := { VC with R := VC.R ++ [allSp] } } ∧ xa.n ≤ 55) := Kp.mk (⟨(HT10.out.1.fst TC).rot, HT10.out.2.1⟩)
  have HIA : Kp (∀ i (hi : i < L.length), ∃ g off, adA = some ⟨g, off, none⟩ ∧ g < z.heap.size ∧ z.rangeAt g (off + i * 25) (encP.c L[i])) := Kp.mk (fun i hi => SlB.at (own_aside (d := { dc with x := xe, V := VC }) TC HOB.out.2 HQ2.out).slB i hi)
  have HIB : Kp (∀ i (hi : i < L.length), ∃ g off, adB = some ⟨g, off, none⟩ ∧ g < z.heap.size ∧ z.rangeAt g (off + i * 25) (encP.c L[i])) := Kp.mk (fun i hi => SlB.at (own_aside (d := { dc with x := xe, V := VC }) TC HOB.out.1 HQ2.out).slB i hi)
  have HIC : Kp (∀ i (hi : i < L.length), ∃ g off, adC = some ⟨g, off, none⟩ ∧ g < z.heap.size ∧ z.rangeAt g (off + i * 25) (encP.c L[i])) := Kp.mk (fun i hi => SlB.at oC.slB i hi)
  have hInfo : ∀ p : Pa, (Tryz.prog.info? 62).map (·.size) = some (encP.c p).length := fun p => by rw [encP.len]; exact elP.info
  clear oC TC HT10 HOB HQ HQ2 HLB
  have hNN : ((N : Int) == (N : Int)) = true := by simp
  go_wp2_with fail
  go_loopg [23] N (fun gg i wr => ∃ j : Nat, j + gg = N ∧ i = .int .i64 (j : Int) ∧ Hid (Below z.heap.size z wr))
  case atStart => exact ⟨0, by omega, rfl, Below.refl _ _⟩
  case round =>
    obtain ⟨j, hjg, rfl, HB⟩ := hrel
    cases gk with
    | zero =>
      have hjN : ¬ (j : Int) < (N : Int) := by omega
      have hR := nvRead (HTZ.out.1.called HB.out).at1 5 off s.length rfl (show xa.n + 1 ≤ 5000 by have := HTZ.out.2; omega) (show VA.C.length ≤ 5000 by have := HCL.out; omega) (by have := HB0.out; have := HSL.out; omega)
      rw [show readB (NV.V { da with x := { xa with n := xa.n + 1 }, V := { VA with R := VA.R ++ [allSp] } }).C 5 off s.length = s from HRD.out] at hR
      have hse : ((str s).toList == (str s).toList) = true := by simp
      clear HIA HIB HIC hjg HTZ
      go_wp2_with (go_at_call 16; refine hR.mono ?_; clear hR; rintro e z2 ⟨rfl, x2, T2⟩)
      go_ret
      exact ⟨rfl, T2.at_.bel⟩
    | succ gg =>
      have hjI : (j : Int) < (N : Int) := by omega
      have hj0 : (0 : Int) ≤ (j : Int) := by omega
      have hjl : j < L.length := by have := HN.out; omega
      obtain ⟨g1, o1, rfl, hg1, hat1⟩ := HIA.out j hjl
      obtain ⟨g2, o2, rfl, hg2, hat2⟩ := HIB.out j hjl
      obtain ⟨g3, o3, rfl, hg3, hat3⟩ := HIC.out j hjl
      generalize L[j] = c at *
      have HR3 : Kp (wr.rangeAt g1 (o1 + j * 25) (encP.c c) ∧ wr.rangeAt g2 (o2 + j * 25) (encP.c c) ∧ wr.rangeAt g3 (o3 + j * 25) (encP.c c)) := Kp.mk (⟨range_same' hat1 (HB.out.block g1 hg1), range_same' hat2 (HB.out.block g2 hg2), range_same' hat3 (HB.out.block g3 hg3)⟩)
      clear hat1 hat2 hat3 hg1 hg2 hg3 hjl HIA HIB HIC HTZ
      have HBD : Kp (Below z.heap.size z wr.drew) := Kp.mk (HB.out.drew)
      go_upto_region 25 with fail
      refine wp_region_noPanic ?_
      refine wp_region_held_drew (S := (fun yy => yy.rangeAt g1 (o1 + j * 25) (encP.c c) ∧ yy.rangeAt g2 (o2 + j * 25) (encP.c c) ∧ yy.rangeAt g3 (o3 + j * 25) (encP.c c))) (by kernel_rfl) HR3.out (fun hHeld => ?_)
      refine wpAnyH_take (i := 0) (v := ?_) rfl (by kernel_rfl) (by kernel_rfl) (by kernel_rfl) (fun _ _ _ h => h) (Or.inl ⟨by rfl, ?_⟩) hHeld ?_
      case refine_2 => (intro w hSw; (try dsimp only at hSw); go_simp; try (with_reducible rfl))
      (try simp only [gs])
      refine wpAnyH_take (i := 1) (v := ?_) rfl (by kernel_rfl) (by kernel_rfl) (by kernel_rfl) (fun _ _ _ h => h) (Or.inl ⟨by rfl, ?_⟩) hHeld ?_
      case refine_2 => (intro w hSw; (try dsimp only at hSw); go_simp; try (with_reducible rfl))
      (try simp only [gs])
      refine wpAnyH_take (i := 2) (v := ?_) rfl (by kernel_rfl) (by kernel_rfl) (by kernel_rfl) (fun _ _ _ h => h) (Or.inl ⟨by rfl, ?_⟩) hHeld ?_
      case refine_2 => (intro w hSw; (try dsimp only at hSw); go_simp; try (with_reducible rfl))
      (try simp only [gs])
      refine wpAnyH_take (i := 3) rfl (by kernel_rfl) (by kernel_rfl) (by kernel_rfl) (fun _ _ _ h => h) (yieldsIf_load_mid (by rfl) _ _ rfl _ _ rfl _ _ (fun _ h => h.1) Tryz.underlying62 rfl (hInfo c)) hHeld ?_
      (try simp only [gs])
      refine wpAnyH_take (i := 4) (v := ?_) rfl (by kernel_rfl) (by kernel_rfl) (by kernel_rfl) (fun _ _ _ h => h) (Or.inl ⟨by rfl, ?_⟩) hHeld ?_
      case refine_2 => (intro w hSw; (try dsimp only at hSw); go_simp; try (with_reducible rfl))
      (try simp only [gs])
      refine wpAnyH_take (i := 5) (v := ?_) rfl (by kernel_rfl) (by kernel_rfl) (by kernel_rfl) (fun _ _ _ h => h) (Or.inl ⟨by rfl, ?_⟩) hHeld ?_
      case refine_2 => (intro w hSw; (try dsimp only at hSw); go_simp; try (with_reducible rfl))
      (try simp only [gs])
      refine wpAnyH_take (i := 6) (v := ?_) rfl (by kernel_rfl) (by kernel_rfl) (by kernel_rfl) (fun _ _ _ h => h) (Or.inl ⟨by rfl, ?_⟩) hHeld ?_
      case refine_2 => (intro w hSw; (try dsimp only at hSw); go_simp; try (with_reducible rfl))
      (try simp only [gs])
      refine wpAnyH_take (i := 7) rfl (by kernel_rfl) (by kernel_rfl) (by kernel_rfl) (fun _ _ _ h => h) (yieldsIf_load_mid (by rfl) _ _ rfl _ _ rfl _ _ (fun _ h => h.2.1) Tryz.underlying62 rfl (hInfo c)) hHeld ?_
      (try simp only [gs])
      refine wpAnyH_take (i := 8) (v := .bool false) rfl (by kernel_rfl) (by kernel_rfl) (by kernel_rfl) (fun _ _ _ h => h) (Or.inl ⟨by rfl, fun w _ => by rw [exec_ne_P _ _ _ rfl c c rfl rfl w, decide_eq_true rfl]; rfl⟩) hHeld ?_
      (try simp only [gs])
      refine wpAnyH_take (i := 9) (v := ?_) rfl (by kernel_rfl) (by kernel_rfl) (by kernel_rfl) (fun _ _ _ h => h) (Or.inl ⟨by rfl, ?_⟩) hHeld ?_
      case refine_2 => (intro w hSw; (try dsimp only at hSw); go_simp; try (with_reducible rfl))
      (try simp only [gs])
      refine wpAnyH_take (i := 10) (v := ?_) rfl (by kernel_rfl) (by kernel_rfl) (by kernel_rfl) (fun _ _ _ h => h) (Or.inl ⟨by rfl, ?_⟩) hHeld ?_
      case refine_2 => (intro w hSw; (try dsimp only at hSw); go_simp; try (with_reducible rfl))
      (try simp only [gs])
      refine wpAnyH_take (i := 11) (v := ?_) rfl (by kernel_rfl) (by kernel_rfl) (by kernel_rfl) (fun _ _ _ h => h) (Or.inl ⟨by rfl, ?_⟩) hHeld ?_
      case refine_2 => (intro w hSw; (try dsimp only at hSw); go_simp; try (with_reducible rfl))
      (try simp only [gs])
      refine wpAnyH_take (i := 12) (v := ?_) rfl (by kernel_rfl) (by kernel_rfl) (by kernel_rfl) (fun _ _ _ h => h) (Or.inl ⟨by rfl, ?_⟩) hHeld ?_
      case refine_2 => (intro w hSw; (try dsimp only at hSw); go_simp; try (with_reducible rfl))
      (try simp only [gs])
      refine wpAnyH_take (i := 13) rfl (by kernel_rfl) (by kernel_rfl) (by kernel_rfl) (fun _ _ _ h => h) (yieldsIf_load_mid (by rfl) _ _ rfl _ _ rfl _ _ (fun _ h => h.1) Tryz.underlying62 rfl (hInfo c)) hHeld ?_
      (try simp only [gs])
      refine wpAnyH_take (i := 14) (v := ?_) rfl (by kernel_rfl) (by kernel_rfl) (by kernel_rfl) (fun _ _ _ h => h) (Or.inl ⟨by rfl, ?_⟩) hHeld ?_
      case refine_2 => (intro w hSw; (try dsimp only at hSw); go_simp; try (with_reducible rfl))
      (try simp only [gs])
      refine wpAnyH_take (i := 15) (v := ?_) rfl (by kernel_rfl) (by kernel_rfl) (by kernel_rfl) (fun _ _ _ h => h) (Or.inl ⟨by rfl, ?_⟩) hHeld ?_
      case refine_2 => (intro w hSw; (try dsimp only at hSw); go_simp; try (with_reducible rfl))
      (try simp only [gs])
      refine wpAnyH_take (i := 16) (v := ?_) rfl (by kernel_rfl) (by kernel_rfl) (by kernel_rfl) (fun _ _ _ h => h) (Or.inl ⟨by rfl, ?_⟩) hHeld ?_
      case refine_2 => (intro w hSw; (try dsimp only at hSw); go_simp; try (with_reducible rfl))
      (try simp only [gs])
      refine wpAnyH_take (i := 17) rfl (by kernel_rfl) (by kernel_rfl) (by kernel_rfl) (fun _ _ _ h => h) (yieldsIf_load_mid (by rfl) _ _ rfl _ _ rfl _ _ (fun _ h => h.2.2) Tryz.underlying62 rfl (hInfo c)) hHeld ?_
      (try simp only [gs])
      refine wpAnyH_take (i := 18) (v := .bool false) rfl (by kernel_rfl) (by kernel_rfl) (by kernel_rfl) (fun _ _ _ h => h) (Or.inl ⟨by rfl, fun w _ => by rw [exec_ne_P _ _ _ rfl c c rfl rfl w, decide_eq_true rfl]; rfl⟩) hHeld ?_
      (try simp only [gs])
      refine wpAnyH_take (i := 19) (v := ?_) rfl (by kernel_rfl) (by kernel_rfl) (by kernel_rfl) (fun _ _ _ h => h) (Or.inl ⟨by rfl, ?_⟩) hHeld ?_
      case refine_2 => (intro w hSw; (try dsimp only at hSw); go_simp; try (with_reducible rfl))
      (try simp only [gs])
      refine wpAnyH_done (by kernel_rfl) ?_ _
      refine NoPanic.normal ?_
      clear hHeld
      go_wp2_with fail
      go_roundg gg
      case measure => omega
      case rel => exact ⟨j + 1, by omega, congrArg (Value.int .i64) (by omega), HBD.out⟩
end Go.Proofs.YtdmindhjmjnagaaGreatDoor
