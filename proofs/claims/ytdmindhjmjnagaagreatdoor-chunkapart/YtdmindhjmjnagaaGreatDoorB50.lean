import Derived.Test.YtdmindhjmjnagaaGreatDoorSi
import Derived.Test.YtdmindhjmjnagaaGreatDoorB49
import Derived.Test.YtdmindhjmjnagaaGreatDoorSi
import Derived.Test.YtdmindhjmjnagaaGreatDoorB01
import Derived.Test.YtdmindhjmjnagaaGreatDoorCards
import Derived.Test.YtdmindhjmjnagaaGreatDoorTie
import Derived.LaidMore
import Derived.Lay
import Derived.SevenTiedAt
import Derived.Stop.Joined
/- ChunkReads. -/
namespace Go.Proofs.YtdmindhjmjnagaaGreatDoor
set_option linter.unusedVariables false
set_option maxRecDepth 100000
open Go.RowKit

theorem putA_new (l : List Ch) (c : Ch) (h : look Ch.n l c.n = none) : (putA Ch.n l c).length = l.length + 1 := by
  induction l with
  | nil => rfl
  | cons a r ih =>
    simp only [look] at h
    by_cases e : a.n = c.n
    · rw [if_pos e] at h
      cases h
    · rw [if_neg e] at h
      unfold putA
      split
      · rw [List.length_cons, ih h, List.length_cons]
      · first
          | rfl
          | (rw [if_neg e]; rfl)
theorem chAll_new (V : VS) (h : Asc Ch.n V.C) (l : List Pa) (hd : l.Pairwise fun a b => a.n ≠ b.n) (hn : ∀ p ∈ l, look Ch.n V.C p.n = none) : (chAll V l).C.length = V.C.length + l.length := by
  unfold chAll
  induction l generalizing V with
  | nil => rfl
  | cons p r ih =>
    obtain ⟨h1, h2⟩ := List.pairwise_cons.1 hd
    have h0 : look Ch.n V.C (chgP p).n = none := by rw [chgP_n]; exact hn p List.mem_cons_self
    have hl : (V.change (chgP p)).C.length = V.C.length + 1 := putA_new _ _ h0
    rw [List.foldl_cons, ih (V.change (chgP p)) (putA_asc Ch.n _ h) h2 (fun a ha => by
      show look Ch.n (putA Ch.n V.C (chgP p)) a.n = none
      rw [putA_look Ch.n _ _ h, chgP_n, if_neg (h1 a ha)]
      exact hn a (List.mem_cons_of_mem _ ha)), hl, List.length_cons]
    omega
/-- Writing whole chunks reads nothing. -/
theorem whole_get (V : VS) (ino : Int) (a m : Nat) (data : List UInt8) (hd : data.length = 32 * m) (l : List Nat) (hl : 0 < m ∨ l = []) : getG V ino (32 * a) data l = V := by
  rcases hl with hm | rfl
  · unfold getG
    induction l with
    | nil => rfl
    | cons x r ih =>
      have hN : 0 < pN (32 * a) data.length := pN_pos (by omega)
      have hw : (pcM (32 * a) data.length x).whole = true := by
        unfold pcM Pc.whole
        have hx : min x (pN (32 * a) data.length - 1) < pN (32 * a) data.length := by omega
        have h1 := pIx_lt.2 hx
        generalize min x (pN (32 * a) data.length - 1) = k at *
        refine decide_eq_true ?_
        show (pTt (32 * a) data.length k : Int) - (pFr (32 * a) k : Int) = 32
        have h2 : pIx (32 * a) k = 32 * (32 * a / 32 + k) - 32 * a := rfl
        have h3 : pFr (32 * a) k = (32 * a + pIx (32 * a) k) % 32 := rfl
        have h4 : pTt (32 * a) data.length k = min (pFr (32 * a) k + (data.length - pIx (32 * a) k)) 32 := rfl
        omega
      rw [List.foldl_cons, show gotF ino V (pcM (32 * a) data.length x) = V by unfold gotF; rw [hw]; rfl, ih]
  · rfl
theorem whole_write (a m : Nat) (ha : a ≤ 1023) (hm : m ≤ 20) (data : List UInt8) (hd : data.length = 32 * m) : (writeV vs0 (plGe []) 5 (32 * a) data).R = [] ∧ (writeV vs0 (plGe []) 5 (32 * a) data).C.length = m := by
  have hN : pN (32 * a) data.length = m := by
    unfold pN
    rw [hd]
    split <;> omega
  have hg : getG vs0 5 (32 * a) data (List.range (pN (32 * a) data.length)) = vs0 := by
    refine whole_get _ _ a m data hd _ ?_
    rcases Nat.eq_zero_or_pos m with h | h
    · right; rw [hN, h]; rfl
    · exact .inl h
  unfold writeV
  rw [chAll_R, hg]
  refine ⟨rfl, ?_⟩
  rw [chAll_new vs0 List.Pairwise.nil _ (put_apart (by rfl) (by omega)) (fun _ _ => rfl), putG_length, List.length_range, hN]
  exact Nat.zero_add _
theorem read_mem (off n p : Nat) (h0 : 1 ≤ n) (h1 : n ≤ 1024) (h2 : off ≤ 65535) (h3 : p ≤ 2100) : mem (readV vs0 5 off n).R (num (chunkR 5 (p : Int))) = (decide (off ≤ 32 * p + 31) && decide (32 * p < off + n)) := by
  have hr : (readV vs0 5 off n).R = [betS 5 ((off / 32 : Nat) : Int) (((off + n - 1) / 32 : Nat) : Int)] := by
    unfold readV
    rw [if_neg (by omega)]
    rfl
  rw [hr]
  have hm : mem [betS 5 ((off / 32 : Nat) : Int) (((off + n - 1) / 32 : Nat) : Int)] (num (chunkR 5 (p : Int))) = (betS 5 ((off / 32 : Nat) : Int) (((off + n - 1) / 32 : Nat) : Int)).inb (keyC 5 (p : Int)).n := by
    simp [mem]
    rfl
  rw [hm, betS_in (by rfl) (by rfl) (okP_nat (by omega)) (by omega) (okP_nat (by omega)), Bool.eq_iff_iff]
  simp
  omega
theorem str_cut320 (v : List UInt8) : (str v).extract 0 (min ((str v).size : Int) 320).toNat = str (v.take 320) := by
  have h : (min ((str v).size : Int) 320).toNat = min v.length 320 := by rw [str_size]; omega
  rw [h]
  apply ByteArray.ext
  apply Array.ext'
  rw [ByteArray.data_extract]
  simp only [Array.toList_extract, str_list, List.extract_eq_take_drop, List.drop_zero, Nat.sub_zero]
  by_cases q : v.length ≤ 320
  · rw [Nat.min_eq_left q, List.take_length, List.take_of_length_le q]
  · rw [Nat.min_eq_right (by omega)]
set_option maxRecDepth 100000 in
set_option maxHeartbeats 16000000 in
theorem chunkReads_walk (w : World) (off0 n0 pl0 : Int) (s0 : List UInt8) :
    Calls Tryz.prog 6 #[.int .i64 off0, .int .i64 n0, .int .i64 pl0, .string (str s0)] w fun e w' => e = .returned (.bool true) ∧ Below w.heap.size w w' := by
  have hsh := shown13_calls w
  have hm1 := and65535 off0
  have hm2 := and1023 n0
  have hm3 := and1023 pl0
  go_enter Tryz.func6, Tryz.ntmps6
  go_upto_region 2 with (go_at_call 9; refine hsh.mono ?_; clear hsh; rintro e y0 ⟨rfl, b1⟩)
  have hN1 := nvNew_calls w y0 b1
  clear b1
  go_upto_region 3 with (go_at_call 10; refine hN1.mono ?_; clear hN1; rintro e y1 ⟨dv, rfl, A1, v1, n1, -, -⟩)
  have HV1 : Hid (dv.at_ w y1 ∧ dv.V = vs0 ∧ dv.x.n = 0 ∧ ∀ i, dv.foot i → i < y1.heap.size) := ⟨A1, v1, n1, fun i hi => NV.lt A1 hi⟩
  have hN2 := nvNew_calls w y1 A1.bel
  clear A1 v1 n1
  go_upto_region 4 with (go_at_call 10; refine hN2.mono ?_; clear hN2; rintro e y2 ⟨dw, rfl, A2, v2, n2, f2, b2⟩)
  have HP := NV.apart HV1.out.2.2.2 f2
  have HV2 : Hid (dv.at_ w y2 ∧ dw.at_ w y2 ∧ dv.off dw ∧ dw.off dv ∧ dv.V = vs0 ∧ dw.V = vs0 ∧ dv.x.n = 0 ∧ dw.x.n = 0) := ⟨NV.called HV1.out.1 b2, A2, HP.1, HP.2, HV1.out.2.1, v2, HV1.out.2.2.1, n2⟩
  clear HP A2 v2 n2 f2 b2 HV1
  obtain ⟨off, hof⟩ := Int.eq_ofNat_of_zero_le (show 0 ≤ off0 % 65536 by omega)
  obtain ⟨nn, hnn⟩ := Int.eq_ofNat_of_zero_le (show 0 ≤ n0 % 1024 by omega)
  obtain ⟨pa, hpa⟩ := Int.eq_ofNat_of_zero_le (show 0 ≤ pl0 % 1024 by omega)
  rw [hof] at hm1
  rw [hnn] at hm2
  rw [hpa] at hm3
  have HB0 : Hid (off ≤ 65535 ∧ nn ≤ 1023 ∧ pa ≤ 1023) := (show _ ∧ _ ∧ _ by omega)
  have hoI : (off : Int) ≤ 65535 := by omega
  have hnI : (nn : Int) ≤ 1023 := by omega
  have hpI : (pa : Int) ≤ 1023 := by omega
  clear hof hnn hpa
  have hR := nvRead HV2.out.1 5 off (1 + nn) rfl (by have := HV2.out.2.2.2.2.2.2.1; omega) (by rw [HV2.out.2.2.2.2.1]; exact Nat.zero_le _) (by have := HB0.out; omega)
  rw [show ((1 + nn : Nat) : Int) = (1 : Int) + (nn : Int) by omega] at hR
  go_upto_region 10 with (go_at_call 16; refine hR.mono ?_; clear hR; rintro e z ⟨rfl, x1, T1⟩)
  obtain ⟨p1, p2, p3, p4⟩ := NV.aside HV2.out.1 HV2.out.2.1 HV2.out.2.2.1 HV2.out.2.2.2.1 T1
  have HZ : Hid (NV.at_ { dv with x := x1, V := readV dv.V 5 off (1 + nn) } w z ∧ dw.at_ w z ∧ x1.n ≤ 4 ∧ dv.V = vs0 ∧ dw.V = vs0 ∧ dw.x.n = 0) := ⟨p1, p2, by have := T1.n; have := HV2.out.2.2.2.2.2.2.1; omega, HV2.out.2.2.2.2.1, HV2.out.2.2.2.2.2.1, HV2.out.2.2.2.2.2.2.2⟩
  clear p1 p2 p3 p4 T1 HV2 hm1 hm2
  generalize readB dv.V.C 5 off (1 + nn) = RB at *
  obtain ⟨M, hM⟩ : ∃ M : Nat, M = 2100 := ⟨_, rfl⟩
  have HM : Hid (M = 2100) := hM
  have HST : Hid (Below z.heap.size z z) := Below.refl _ _
  clear hM
  go_loopg [14] M (fun gg i wr => ∃ j : Nat, j + gg = M ∧ i = .int .i64 (j : Int) ∧ Hid (Below z.heap.size z wr))
  case atStart => exact ⟨0, by omega, rfl, HST.out⟩
  case round =>
    clear HST
    obtain ⟨j, hjg, rfl, HE⟩ := hrel
    cases gk with
    | zero =>
      have hj : j = 2100 := by have := HM.out; omega
      subst hj
      have A0 := NV.called HZ.out.2.1 HE.out
      have HA0 : Hid (dw.at_ w wr) := A0
      clear A0 HE
      have hcut := str_cut320 s0
      have hc0 : (0 : Int) ≤ min ((str s0).size : Int) 320 := by omega
      have hc1 : min ((str s0).size : Int) 320 ≤ ((str s0).size : Int) := by omega
      go_upto_region 17 with fail
      have hsl : (s0.take 320).length ≤ 320 := by rw [List.length_take]; omega
      generalize s0.take 320 = s at *
      have hss : (str s).size = s.length := str_size s
      have hzI : (32 - (s.length : Int) % 32) % 32 = (((32 - s.length % 32) % 32 : Nat) : Int) := by omega
      have HSL : Hid (s.length ≤ 320) := hsl
      obtain ⟨Kz, hKz⟩ : ∃ Kz : Nat, Kz = (32 - s.length % 32) % 32 := ⟨_, rfl⟩
      rw [← hKz] at hzI
      have HKZ : Hid (Kz = (32 - s.length % 32) % 32) := hKz
      clear hKz hcut hc0 hc1
      have hadd := add_strs s (List.replicate Kz 0) (by omega) (by rw [List.length_replicate]; have := HKZ.out; omega)
      obtain ⟨m, hmm⟩ : ∃ m : Nat, (s ++ List.replicate Kz 0).length = 32 * m := ⟨(s.length + Kz) / 32, by rw [List.length_append, List.length_replicate]; have := HKZ.out; omega⟩
      have HML : Hid ((s ++ List.replicate Kz 0).length = 32 * m ∧ m ≤ 20) := ⟨hmm, by rw [List.length_append, List.length_replicate] at hmm; have := HKZ.out; omega⟩
      clear hmm
      generalize s ++ List.replicate Kz 0 = FL at *
      go_upto_region 18 with (first
        | (refine zr_make _ _ rfl rfl Kz _ rfl rfl (by first | rfl | exact hzI) (by have := HKZ.out; omega) ?_; intro w6 o6 g6
           have hcv := zr_conv o6))
      have b6 : Below wr.heap.size wr w6 := ⟨g6.os, g6.tape, g6.output, g6.size, fun k hk => g6.block k hk (by simp)⟩
      have hw := whole_write pa m HB0.out.2.2 HML.out.2 FL HML.out.1
      have HWV : Hid ((writeV dw.V (plGe []) 5 (32 * pa) FL).R = [] ∧ (writeV dw.V (plGe []) 5 (32 * pa) FL).C.length = m) := (show _ ∧ _ by rw [HZ.out.2.2.2.2.1]; exact hw)
      have hpn : pN (32 * pa) FL.length ≤ 20 := by have := HML.out; unfold pN; split <;> omega
      have hW := nvWrite (NV.called HA0.out b6) 5 (32 * pa) FL rfl (by have := HZ.out.2.2.2.2.2; omega) (by have := HML.out; have := HB0.out; omega)
      rw [show ((32 * pa : Nat) : Int) = 32 * (pa : Int) by omega] at hW
      have hsF : (str FL).size = FL.length := str_size FL
      have hqF : (FL.length : Int) / 32 = (m : Int) := by have := HML.out.1; omega
      have hwm : wrap64 (m : Int) = (m : Int) := by have := HML.out.2; unfold wrap64; omega
      have HX2 : Hid (dw.x.n + 5 * pN (32 * pa) FL.length ≤ 100) := (show dw.x.n + 5 * pN (32 * pa) FL.length ≤ 100 by have := HZ.out.2.2.2.2.2; omega)
      clear b6 hw hpn hcv hadd o6 g6 hss hsl hzI
      go_upto_region 19 with (go_at_call 12; refine hW.mono ?_; clear hW; rintro e w7 ⟨rfl, x2, T2⟩)
      have A7 : NV.at_ { dw with x := x2, V := writeV dw.V (plGe []) 5 (32 * pa) FL } w w7 := NV.ran T2
      have HA7 : Hid (NV.at_ { dw with x := x2, V := writeV dw.V (plGe []) 5 (32 * pa) FL } w w7 ∧ x2.n ≤ 100) := ⟨A7, Nat.le_trans T2.n HX2.out⟩
      have hRd := vreads_at A7 (show x2.n ≤ 50000 by have := HA7.out.2; omega)
      clear A7 T2
      go_wp2_with (first
        | (go_at_call 21; refine hRd.mono ?_; clear hRd; rintro e w8 ⟨vR, RR, rfl, o8, b8, i8, -⟩
           obtain rfl : RR = [] := Is.none i8 (fun K _ => by rw [show (NV.V { dw with x := x2, V := writeV dw.V (plGe []) 5 (32 * pa) FL }).R = [] from HWV.out.1]; rfl)
           obtain ⟨ad8, cap8, rfl, -, -, -, -⟩ := id o8.slB
           have A8 := NV.called HA7.out.1 b8
           have HB8 : Hid (Below w.heap.size w w8) := VAt.bel A8
           have hCh := nvChanges A8 (show x2.n ≤ 5000 by have := HA7.out.2; omega)
           rw [show (NV.V { dw with x := x2, V := writeV dw.V (plGe []) 5 (32 * pa) FL }).C.length = m from HWV.out.2] at hCh
           clear A8 o8 b8 i8)
        | (go_at_call 19; refine hCh.mono ?_; clear hCh; rintro e w9 ⟨ad9, cap9, rfl, -, b9⟩))
      go_ret
      exact ⟨rfl, HB8.out.trans (b9.mono HB8.out.size)⟩
    | succ gg =>
      have hjI : (j : Int) < 2100 := by have := HM.out; omega
      have hj0 : (0 : Int) ≤ (j : Int) := by omega
      have HJ : Hid (j < 2100) := (show j < 2100 by have := HM.out; omega)
      have hCk := fun y => chunk_calls 5 (j : Int) y
      have hok : (okN 5 && okP (j : Int)) = true := by rw [show okN 5 = true from rfl, okP_nat (n := j) (by have := HJ.out; omega)]; rfl
      rw [hok] at hCk
      have HK : Hid ((chunkR 5 (j : Int)).length = 24) := chunkR_length _ _
      have HMM : Hid (mem (readV vs0 5 off (1 + nn)).R (num (chunkR 5 (j : Int))) = (decide (off ≤ 32 * j + 31) && decide (32 * j < off + (1 + nn)))) := read_mem off (1 + nn) j (by omega) (by have := HB0.out; omega) HB0.out.1 (by have := HJ.out; omega)
      clear hok
      generalize chunkR 5 (j : Int) = KR at *
      go_upto_region 13 with (first
        | (go_at_call 24; refine (hCk _).mono ?_; clear hCk; rintro e w1 ⟨rfl, b1⟩)
        | (refine store_key rfl _ _ rfl _ rfl _ rfl HK.out (zs 24) (zero_has w1 w1.heap.size rfl) ?_; intro w2 h2 t2 s2))
      have B2 : Below wr.heap.size wr w2 := b1.trans (((Below.refl _ w1).alloc (Nat.le_refl _) _).trans (t2.below (by simp) (Nat.le_refl _) (by simp)) |>.mono b1.size)
      have HB2 : Hid (Below z.heap.size z w2 ∧ Has w2 w1.heap.size KR) := ⟨HE.out.trans (B2.mono HE.out.size), h2⟩
      clear b1 h2 t2 s2 B2 HE
      generalize w1.heap.size = bK at *
      have A2 := NV.called HZ.out.1 HB2.out.1
      have hVR := fun y (b : Below w2.heap.size w2 y) => vreads_at (NV.called A2 b) (show x1.n ≤ 50000 by have := HZ.out.2.2.1; omega)
      clear A2
      refine wp_region_noPanic ?_
      refine wp_region_held_drew (S := (fun y => y.heap[bK]? = some (.cells (bc KR).toArray 54 (0, 0)))) (by kernel_rfl) (HB2.out.2.blk) (fun hHeld => ?_)
      refine wpAnyH_take (i := 0) (v := ?_) rfl (by kernel_rfl) (by kernel_rfl) (by kernel_rfl) (fun _ _ _ h => h) (Or.inl ⟨by rfl, ?_⟩) hHeld ?_
      case refine_2 => (intro w hSw; (try dsimp only at hSw); go_simp; try (with_reducible rfl))
      (try simp only [gs])
      refine wpAnyH_take (i := 2) rfl (by kernel_rfl) (by kernel_rfl) (by kernel_rfl) (fun _ _ _ h => h) (yieldsIf_load_mid (by rfl) _ _ rfl _ _ rfl _ _ (fun z hz => (show z.rangeAt bK 0 (bc KR) from fun i u hu => by rw [Nat.zero_add, cell_of_row _ _ _ _ _ _ hz]; simpa using hu)) Tryz.underlying54 rfl (by rw [bc_length, HK.out]; exact Tryz.key_info)) hHeld ?_
      (try simp only [gs])
      generalize hy3 : w2.drew = w3 at *
      have b23 : Below w2.heap.size w2 w3 := by rw [← hy3]; exact ⟨rfl, rfl, rfl, Nat.le_refl _, fun _ _ => rfl⟩
      clear hy3
      have hR3 := hVR w3 b23
      refine wpAnyH_ready (rs := [1]) (by kernel_rfl) (by simp) (AllReadyH.cons rfl (fun K0 hK => ?_) AllReadyH.nil)
      rw [if_pos (by rfl)]
      (try simp only [gs])
      go_simp
      refine hR3.mono ?_
      clear hR3 hVR
      rintro e w4 ⟨vR, RR, rfl, o4, b4, i4, -⟩
      have hH := rhas_calls w4 vR RR o4.slB KR HK.out
      have hmm : mem RR (num KR) = (decide (off ≤ 32 * j + 31) && decide (32 * j < off + (1 + nn))) := by
        rw [i4.2 KR HK.out]
        have e1 : (NV.V { dv with x := x1, V := readV dv.V 5 off (1 + nn) }).R = (readV vs0 5 off (1 + nn)).R := by rw [← HZ.out.2.2.2.1]
        rw [e1]
        exact HMM.out
      rw [hmm] at hH
      obtain ⟨adR, capR, rfl, -, -, -, -⟩ := id o4.slB
      refine hK.out _ _ ((b4.block _ (lt_of_block hHeld)).trans hHeld) (fun g4 => ?_)
      have B4 : Hid (Below w2.heap.size w2 w4) := b23.trans (b4.mono b23.size)
      clear hK K0 o4 i4 b4 b23 hmm hHeld
      (try simp only [gs])
      refine wpAnyH_ready (rs := [3]) (by kernel_rfl) (by simp) (AllReadyH.cons rfl (fun K0 hK => ?_) AllReadyH.nil)
      rw [if_pos (by rfl)]
      (try simp only [gs])
      go_simp
      refine hH.mono ?_
      clear hH
      rintro e w5 ⟨rfl, b5⟩
      refine hK.out _ _ ((b5.block _ (lt_of_block g4)).trans g4) (fun g5 => ?_)
      clear hK K0
      (try simp only [gs])
      refine wpAnyH_take (i := 4) (v := ?_) rfl (by kernel_rfl) (by kernel_rfl) (by kernel_rfl) (fun _ _ _ h => h) (Or.inl ⟨by rfl, ?_⟩) g5 ?_
      case refine_2 => (intro w hSw; (try dsimp only at hSw); go_simp; try (with_reducible rfl))
      (try simp only [gs])
      refine wpAnyH_done (by kernel_rfl) ?_ _
      refine NoPanic.normal ?_
      have HB5 : Hid (Below z.heap.size z w5) := HB2.out.1.trans ((B4.out.trans (b5.mono B4.out.size)).mono HB2.out.1.size)
      clear g5 g4 b5 B4 HB2 HMM
      by_cases hA : off ≤ 32 * j + 31
      · by_cases hB : 32 * j < off + (1 + nn)
        · have hAI : (32 * (j : Int) + 31) ≥ (off : Int) := by omega
          have hBI : 32 * (j : Int) < (off : Int) + (1 + (nn : Int)) := by omega
          rw [decide_eq_true hA, decide_eq_true hB]
          clear hA hB
          go_wp2_with fail
          go_roundg gg
          case measure => omega
          case rel => exact ⟨j + 1, by omega, congrArg (Value.int .i64) (by omega), HB5.out⟩
        · have hAI : (32 * (j : Int) + 31) ≥ (off : Int) := by omega
          have hBI : decide (32 * (j : Int) < (off : Int) + (1 + (nn : Int))) = false := decide_eq_false (by omega)
          rw [decide_eq_true hA, decide_eq_false hB]
          clear hA hB
          go_wp2_with fail
          go_roundg gg
          case measure => omega
          case rel => exact ⟨j + 1, by omega, congrArg (Value.int .i64) (by omega), HB5.out⟩
      · have hAI : decide ((32 * (j : Int) + 31) ≥ (off : Int)) = false := decide_eq_false (by omega)
        rw [decide_eq_false hA, Bool.false_and]
        clear hA
        go_wp2_with fail
        go_roundg gg
        case measure => omega
        case rel => exact ⟨j + 1, by omega, congrArg (Value.int .i64) (by omega), HB5.out⟩
end Go.Proofs.YtdmindhjmjnagaaGreatDoor
/- ChunkReads answers true at every three numbers and every text and turns nothing that was there: whoever reads, or writes whole chunks, has read no more than that. No condition; the variables of unicode/utf8 that it lists are tied to the text of the program. -/
namespace Go.Proofs.YtdmindhjmjnagaaGreatDoor
set_option linter.unusedVariables false
set_option maxRecDepth 100000
open Go.ChangeShapes Go.WideShapes Go.ChangeAt Go.RowKit
open Go.ChangeMaps (open_string shut_string)

set_option maxRecDepth 100000 in
theorem chunkReads_lifted (os : Os) (started : os.Started) (H : Type) (enc : TypeId × Value → H) :
    ReturnsInHanded {} Tryz.checked os 6 .any (fun w args => (Rows.chunkReadsSpec.pre enc Tryz.prog Tryz.f6 Rows.chunkReadsRow.domain false w args ∧ laidMetH Tryz.prog Rows.chunkReadsRow.laid w) ∧ sizedMet enc Tryz.prog Tryz.f6 (OpenSpec.ofChange Rows.chunkReadsSpec) false w args)
      (Rows.chunkReadsSpec.post enc Tryz.prog Tryz.f6 false true false false) := by
  refine returnsInHanded_of_change_and (C := Tryz.checked) (X := fun w _ => laidMetH Tryz.prog Rows.chunkReadsRow.laid w) (fun _ _ _ hh h => h.of_heap hh) Tryz.own started (by kernel_rfl) Tryz.func6
    (ChangeSpec.witness_shaped (enc := enc) (C := Tryz.checked) (os := os) (X := fun w _ => laidMetH Tryz.prog Rows.chunkReadsRow.laid w) false (World.laidAll Tryz.prog os Rows.chunkReadsRow.laid) #[.int .i64 0, .int .i64 0, .int .i64 0, .string ⟨#[]⟩] 8 (World.laidAll_os _ _ _)
      (World.shaped_of_ZipB (by kernel_rfl) (by kernel_rfl)) (by kernel_rfl) (by kernel_rfl) (by kernel_rfl)
      (by rw [MakeChecks.laidMetH_plain _ _ _ (by kernel_rfl)]; exact laidMet_laidAll _ (by kernel_rfl) (by kernel_rfl))) ?_
  intro W base args ds gs before hval0 hW hcnd _ hL _
  have hval : ∀ (j : Nat) t v, Tryz.f6.params[j]? = some t → args[j]? = some v → Value.okWide Tryz.prog W .any base t v := hval0
  have hW' := hW
  obtain ⟨p, q, hA0, hV, rfl, hfz, hnd⟩ := hW
  have hA : DataW.TrodAll enc Tryz.prog W 0 (fun _ => true) true Tryz.f6.params.toList args.toList ds p := hA0
  rw [Tryz.params6] at hA hval
  obtain ⟨v0, vs0, d0, ds0, p0, q0, hargs, rfl, rfl, h0, r0⟩ := trodAll_cons hA
  obtain ⟨v1, vs1, d1, ds1, p1, q1, rfl, rfl, rfl, h1, r1⟩ := trodAll_cons r0
  obtain ⟨v2, vs2, d2, ds2, p2, q2, rfl, rfl, rfl, h2, r2⟩ := trodAll_cons r1
  obtain ⟨v3, vs3, d3, ds3, p3, q3, rfl, rfl, rfl, h3, r3⟩ := trodAll_cons r2
  obtain ⟨rfl, rfl, rfl⟩ := trodAll_nil r3
  obtain rfl : args = #[v0, v1, v2, v3] := by cases args; simp_all
  obtain ⟨rfl, rfl⟩ := trodVars_none hV
  obtain ⟨a0, rfl, rfl, rfl, w0⟩ := open_int Tryz.underlying3 (hval 0 3 v0 rfl rfl) h0
  have b0 := bounds_i64 w0
  obtain ⟨a1, rfl, rfl, rfl, w1⟩ := open_int Tryz.underlying3 (hval 1 3 v1 rfl rfl) h1
  have b1 := bounds_i64 w1
  obtain ⟨a2, rfl, rfl, rfl, w2⟩ := open_int Tryz.underlying3 (hval 2 3 v2 rfl rfl) h2
  have b2 := bounds_i64 w2
  obtain ⟨s3, rfl, rfl, rfl, w3⟩ := open_string Tryz.underlying9 (hval 3 9 v3 rfl rfl) h3
  clear hA0 hval0
  refine (((str_data s3) ▸ chunkReads_walk W a0 a1 a2 s3.data.toList)).mono fun e W' ⟨he, bel⟩ => ?_
  subst he
  exact ⟨_, rfl, _, _, _, [], _, [], hW', trodAll_mk1 (shut_bool Tryz.underlying4 _), (trodAll_cons_mk (shut_int Tryz.underlying3 w0) (trodAll_cons_mk (shut_int Tryz.underlying3 w1) (trodAll_cons_mk (shut_int Tryz.underlying3 w2) (trodAll_cons_mk (shut_string Tryz.underlying9 w3) trodAll_mk0)))), rfl, bel.frame _, fun h => by cases h⟩

/-- The row. -/
theorem chunkReads_row : Rows.ChunkReadsSaid :=
  OpenClaim.holds_of_wide 6 Tryz.f6 rfl rfl rfl rfl rfl rfl rfl ⟨rfl, rfl, rfl, rfl, rfl⟩ rfl rfl rfl rfl rfl (by kernel_rfl) Tryz.func6 (by kernel_rfl)
    (of_decide_eq_true (by kernel_rfl)) (by unfold Func.isWrapper; first | (rw [if_pos (by decide +kernel)]; kernel_rfl) | (rw [if_neg (by decide +kernel)]; exact ⟨rfl, rfl⟩))
    (fun os started H enc _ => chunkReads_lifted os started H enc)
/-- The statement: the card. -/
theorem chunkReads_holds : Rows.ChunkReadsCardSaid :=
  Claim7.holds_tied_plain_at .later [] [.data, .pinned] true (true, "ae14236937028a21657f4b99df5b4519190e100113ec066a27f897597a491c60") false
    chunkReads_row (fun _ h => by cases h) (by kernel_rfl) (fun _ h => by cases h) chunkReads_row_tie rfl ⟨rfl, rfl⟩ (by kernel_rfl) rfl
    (fun f fn hf hfn => by
      obtain rfl : f = 6 := Option.some.inj ((show Tryz.prog.funcNamed "wainscot/wainscotlaw13.ChunkReads" = some 6 by kernel_rfl).symm.trans hf) |>.symm
      obtain rfl : fn = Tryz.f6 := (Option.some.inj (Tryz.func6.symm.trans hfn)).symm
      exact ⟨by kernel_rfl, fun j t ht => by
        rw [Tryz.params6] at ht
        have hm : t ∈ [3, 3, 3, 9] := by simpa using Array.mem_of_getElem? ht
        have hall : ([3, 3, 3, 9].all fun u => !Tryz.prog.wantsStandIn u) = true := by kernel_rfl
        exact (show Tryz.prog.wantsStandIn t = false by simpa using List.all_eq_true.1 hall t hm)⟩)
    (by kernel_rfl)
end Go.Proofs.YtdmindhjmjnagaaGreatDoor
