import Derived.Test.YtdmindhjmjnagaaGreatDoorSi
import Derived.Test.YtdmindhjmjnagaaGreatDoorB51
import Derived.Test.YtdmindhjmjnagaaGreatDoorB48
import Derived.Test.YtdmindhjmjnagaaGreatDoorB49
import Derived.Test.YtdmindhjmjnagaaGreatDoorB01
import Derived.Test.YtdmindhjmjnagaaGreatDoorCards
import Derived.Test.YtdmindhjmjnagaaGreatDoorTie
import Derived.LaidMore
import Derived.Lay
import Derived.SevenTiedAt
import Derived.Stop.Joined
/- ChunkBytes. -/
namespace Go.Proofs.YtdmindhjmjnagaaGreatDoor
set_option linter.unusedVariables false
set_option maxRecDepth 100000
open Go.RowKit

set_option maxRecDepth 100000 in
set_option maxHeartbeats 16000000 in
theorem chunkBytes_walk (w : World) (u : Value) (ops : List Co) (h : Sl encCo w u ops) (off0 n0 : Int) :
    Calls Tryz.prog 4 #[u, .int .i64 off0, .int .i64 n0] w fun e w' => e = .returned (.bool true) ∧ Below w.heap.size w w' := by
  have hsh := shown13_calls w
  obtain ⟨ad, cap, rfl, hcap, hmax, -, -⟩ := id h
  have HI : Hid (∀ i (hi : i < ops.length), ∃ g off, ad = some ⟨g, off, none⟩ ∧ g < w.heap.size ∧ w.rangeAt g (off + i * 5) (encCo.c ops[i])) := fun i hi => SlB.at h i hi
  obtain ⟨N, hN⟩ : ∃ N : Nat, N = ops.length := ⟨_, rfl⟩
  rw [← hN] at hcap hmax ⊢
  have HN : Hid (N = ops.length) := hN
  obtain ⟨M, hM⟩ : ∃ M : Nat, M = min N 30 := ⟨_, rfl⟩
  have HM : Hid (M = min N 30) := hM
  have hmo := and1023 off0
  have hmn := and511 n0
  clear h hN hM
  go_enter Tryz.func4, Tryz.ntmps4
  go_upto_region 2 with (go_at_call 9; refine hsh.mono ?_; clear hsh; rintro e y0 ⟨rfl, b1⟩)
  have hN1 := nvNew_calls w y0 b1
  clear b1
  go_upto_region 3 with (go_at_call 10; refine hN1.mono ?_; clear hN1; rintro e y1 ⟨d1, rfl, A1, v1, n1, f1, b1⟩)
  obtain ⟨q, hq⟩ : ∃ q, q = d1.q := ⟨_, rfl⟩
  rw [← hq]
  have HV1 : Hid (d1.at_ w y1 ∧ q = d1.q ∧ d1.V = vs0 ∧ d1.x.n = 0) := ⟨A1, hq, v1, n1⟩
  clear A1 v1 n1 f1 b1 hq
  go_upto_region 6 with (first
    | (refine zr_make _ _ rfl rfl 2000 2000 rfl rfl rfl (by decide) ?_; intro y2 o2 g2))
  have HS : Hid (ByS w q y1.heap.size 0 (fun _ => 0) (List.replicate 2000 0) y2) := by
    have b6 : Below y1.heap.size y1 y2 := ⟨g2.os, g2.tape, g2.output, g2.size, fun k hk => g2.block k hk (by simp)⟩
    exact ByS.start (NV.called HV1.out.1 b6) HV1.out.2.1 HV1.out.2.2.1 HV1.out.2.2.2 (BcAt.of_own o2) (VAt.bel HV1.out.1).size (fun e => Nat.lt_irrefl _ (NV.lt HV1.out.1 e))
  clear o2 g2 HV1
  generalize y1.heap.size = gb at *
  go_wp2_with fail
  go_loopg [10] M (fun gg i wr => ∃ (j : Nat) (L : List UInt8), j + gg = M ∧ i = .int .i64 (j : Int) ∧ Hid (ByS w q gb j (fun i => L.getD i 0) L wr))
  case atStart => exact ⟨0, List.replicate 2000 0, by omega, rfl, HS.out.func (fun i hi => by rw [List.getD_eq_getElem?_getD, List.getElem?_replicate]; split <;> rfl)⟩
  case round =>
    clear HS
    obtain ⟨j, L, hjg, rfl, HE⟩ := hrel
    cases gk with
    | zero =>
      have hjM : j = M := by omega
      by_cases hjN : j < N
      · have hjI : (j : Int) < (N : Int) := by omega
        have hj40 : ¬ (j : Int) < 30 := by have := HM.out; omega
        have HJM : Hid (j = M) := hjM
        clear hjN hjM hjg
        have HF : Hid (ByS w q gb j (fun i => L.getD i 0) L wr ∧ j ≤ 30) := ⟨HE.out, by have := HM.out; have := HJM.out; omega⟩
        clear HE HI
        go_upto_region 23 with fail
        obtain ⟨of2, hof⟩ := Int.eq_ofNat_of_zero_le (show 0 ≤ off0 % 1024 by omega)
        obtain ⟨nn, hnn⟩ := Int.eq_ofNat_of_zero_le (show 0 ≤ n0 % 512 by omega)
        rw [hof]
        rw [hnn]
        have hofI : (of2 : Int) ≤ 1023 := by omega
        have hnnI : (nn : Int) ≤ 511 := by omega
        have h1 := HF.out.1.read HF.out.2 of2 nn (by omega) (by omega) (fun _ _ => rfl)
        clear hof hnn
        go_upto_region 24 with (go_at_call 16; refine h1.mono ?_; clear h1; rintro e z1 ⟨rfl, R1, B1⟩)
        have hcv := R1.conv of2 nn (2000 - of2) (by rw [HF.out.1.len]; omega)
        have hse : ((str ((L.drop of2).take nn)).toList == (str ((L.drop of2).take nn)).toList) = true := by simp
        go_wp2_with fail
        go_ret
        exact ⟨rfl, B1⟩
      · have hjI : ¬ (j : Int) < (N : Int) := by omega
        have HJM : Hid (j = M) := hjM
        clear hjN hjM hjg
        have HF : Hid (ByS w q gb j (fun i => L.getD i 0) L wr ∧ j ≤ 30) := ⟨HE.out, by have := HM.out; have := HJM.out; omega⟩
        clear HE HI
        go_upto_region 23 with fail
        obtain ⟨of2, hof⟩ := Int.eq_ofNat_of_zero_le (show 0 ≤ off0 % 1024 by omega)
        obtain ⟨nn, hnn⟩ := Int.eq_ofNat_of_zero_le (show 0 ≤ n0 % 512 by omega)
        rw [hof]
        rw [hnn]
        have hofI : (of2 : Int) ≤ 1023 := by omega
        have hnnI : (nn : Int) ≤ 511 := by omega
        have h1 := HF.out.1.read HF.out.2 of2 nn (by omega) (by omega) (fun _ _ => rfl)
        clear hof hnn
        go_upto_region 24 with (go_at_call 16; refine h1.mono ?_; clear h1; rintro e z1 ⟨rfl, R1, B1⟩)
        have hcv := R1.conv of2 nn (2000 - of2) (by rw [HF.out.1.len]; omega)
        have hse : ((str ((L.drop of2).take nn)).toList == (str ((L.drop of2).take nn)).toList) = true := by simp
        go_wp2_with fail
        go_ret
        exact ⟨rfl, B1⟩
    | succ gg =>
      have hjI : (j : Int) < (N : Int) := by have := HM.out; omega
      have hj40 : (j : Int) < 30 := by have := HM.out; omega
      have hj0 : (0 : Int) ≤ (j : Int) := by omega
      have hjl : j < ops.length := by have := HN.out; omega
      obtain ⟨g, off, rfl, hg, hat⟩ := HI.out j hjl
      generalize ops[j] = o at *
      have HAT : Hid (∀ yy : World, Below w.heap.size w yy → yy.rangeAt g (off + j * 5) (encCo.c o)) := fun yy hb => range_same' hat (hb.block g hg)
      have HCS : Hid (∀ yy : World, yy.rangeAt g (off + j * 5) (encCo.c o) → yy.cell? ⟨g, off + j * 5 + 4, none⟩ = some (.string (str o.s))) := fun yy hh => range_cStr hh
      have hcO := range_cOff (HAT.out _ HE.out.bel)
      clear hat hg hjl HI
      go_upto_region 10 with fail
      have hcut := str_cut300 o.s
      have hm0 : (0 : Int) ≤ min ((str o.s).size : Int) 300 := by omega
      have hm1 : min ((str o.s).size : Int) 300 ≤ ((str o.s).size : Int) := by omega
      have hm3 := and1023 o.off
      have HRD : Hid (ByS w q gb j (fun i => L.getD i 0) L wr.drew) := HE.out.called ⟨rfl, rfl, rfl, Nat.le_refl _, fun _ _ => rfl⟩
      have HBD : Hid (Below w.heap.size w wr.drew) := HRD.out.bel
      clear HE hcO
      refine wp_region_noPanic ?_
      refine wp_region_held_drew (S := (fun yy => yy.rangeAt g (off + j * 5) (encCo.c o))) (by kernel_rfl) (HAT.out _ HBD.out) (fun hHeld => ?_)
      refine wpAnyH_take (i := 0) (v := ?_) rfl (by kernel_rfl) (by kernel_rfl) (by kernel_rfl) (fun _ _ _ h => h) (Or.inl ⟨by rfl, ?_⟩) hHeld ?_
      case refine_2 => (intro w hSw; (try dsimp only at hSw); go_simp; try (with_reducible rfl))
      (try simp only [gs])
      refine wpAnyH_take (i := 1) (v := ?_) rfl (by kernel_rfl) (by kernel_rfl) (by kernel_rfl) (fun _ _ _ h => h) (Or.inl ⟨by rfl, ?_⟩) hHeld ?_
      case refine_2 => (intro w hSw; (try dsimp only at hSw); go_simp; try (with_reducible rfl))
      (try simp only [gs])
      refine wpAnyH_take (i := 2) (v := ?_) rfl (by kernel_rfl) (by kernel_rfl) (by kernel_rfl) (fun _ _ _ h => h) (Or.inl ⟨by rfl, ?_⟩) hHeld ?_
      case refine_2 => (intro w hSw; (try dsimp only at hSw); go_simp; try (with_reducible rfl))
      (try simp only [gs])
      refine wpAnyH_take (i := 3) (v := ?_) rfl (by kernel_rfl) (by kernel_rfl) (by kernel_rfl) (fun _ _ _ h => h) (Or.inl ⟨by rfl, ?_⟩) hHeld ?_
      case refine_2 => (intro w hSw; (try dsimp only at hSw); go_simp; try (with_reducible rfl))
      (try simp only [gs])
      refine wpAnyH_take (i := 4) (v := ?_) rfl (by kernel_rfl) (by kernel_rfl) (by kernel_rfl) (fun _ _ _ h => h) (Or.inl ⟨by rfl, ?_⟩) hHeld ?_
      case refine_2 => (intro w hSw; (try dsimp only at hSw); have hc := HCS.out _ hSw; go_simp; try (with_reducible rfl))
      (try simp only [gs])
      refine wpAnyH_take (i := 5) (v := ?_) rfl (by kernel_rfl) (by kernel_rfl) (by kernel_rfl) (fun _ _ _ h => h) (Or.inl ⟨by rfl, ?_⟩) hHeld ?_
      case refine_2 => (intro w hSw; (try dsimp only at hSw); go_simp; try (with_reducible rfl))
      (try simp only [gs])
      refine wpAnyH_take (i := 6) (v := ?_) rfl (by kernel_rfl) (by kernel_rfl) (by kernel_rfl) (fun _ _ _ h => h) (Or.inl ⟨by rfl, ?_⟩) hHeld ?_
      case refine_2 => (intro w hSw; (try dsimp only at hSw); go_simp; try (with_reducible rfl))
      (try simp only [gs])
      refine wpAnyH_take (i := 7) (v := ?_) rfl (by kernel_rfl) (by kernel_rfl) (by kernel_rfl) (fun _ _ _ h => h) (Or.inl ⟨by rfl, ?_⟩) hHeld ?_
      case refine_2 => (intro w hSw; (try dsimp only at hSw); go_simp; try (with_reducible rfl))
      (try simp only [gs])
      refine wpAnyH_take (i := 8) (v := ?_) rfl (by kernel_rfl) (by kernel_rfl) (by kernel_rfl) (fun _ _ _ h => h) (Or.inl ⟨by rfl, ?_⟩) hHeld ?_
      case refine_2 => (intro w hSw; (try dsimp only at hSw); go_simp; try (with_reducible rfl))
      (try simp only [gs])
      refine wpAnyH_take (i := 9) (v := ?_) rfl (by kernel_rfl) (by kernel_rfl) (by kernel_rfl) (fun _ _ _ h => h) (Or.inl ⟨by rfl, ?_⟩) hHeld ?_
      case refine_2 => (intro w hSw; (try dsimp only at hSw); have hc := HCS.out _ hSw; go_simp; try (with_reducible rfl))
      (try simp only [gs])
      refine wpAnyH_take (i := 10) (v := ?_) rfl (by kernel_rfl) (by kernel_rfl) (by kernel_rfl) (fun _ _ _ h => h) (Or.inl ⟨by rfl, ?_⟩) hHeld ?_
      case refine_2 => (intro w hSw; (try dsimp only at hSw); go_simp; try (with_reducible rfl))
      (try simp only [gs])
      refine wpAnyH_take (i := 11) (v := ?_) rfl (by kernel_rfl) (by kernel_rfl) (by kernel_rfl) (fun _ _ _ h => h) (Or.inl ⟨by rfl, ?_⟩) hHeld ?_
      case refine_2 => (intro w hSw; (try dsimp only at hSw); go_simp; try (with_reducible rfl))
      (try simp only [gs])
      refine wpAnyH_take (i := 12) (v := ?_) rfl (by kernel_rfl) (by kernel_rfl) (by kernel_rfl) (fun _ _ _ h => h) (Or.inl ⟨by rfl, ?_⟩) hHeld ?_
      case refine_2 => (intro w hSw; (try dsimp only at hSw); go_simp; try (with_reducible rfl))
      (try simp only [gs])
      refine wpAnyH_take (i := 13) (v := ?_) rfl (by kernel_rfl) (by kernel_rfl) (by kernel_rfl) (fun _ _ _ h => h) (Or.inl ⟨by rfl, ?_⟩) hHeld ?_
      case refine_2 => (intro w hSw; (try dsimp only at hSw); go_simp; try (with_reducible rfl))
      (try simp only [gs])
      refine wpAnyH_done (by kernel_rfl) ?_ _
      refine NoPanic.normal ?_
      clear hHeld
      clear hcut hm0 hm1
      have hc0 := range_cKind (HAT.out _ HBD.out)
      clear HAT HCS HBD
      generalize wr.drew = z0 at *
      have HSL : Hid ((o.s.take 300).length ≤ 300) := (show _ ≤ _ by rw [List.length_take]; omega)
      generalize o.s.take 300 = s at *
      obtain ⟨at_, hat⟩ := Int.eq_ofNat_of_zero_le (show 0 ≤ o.off % 1024 by omega)
      rw [hat] at hm3
      have haI : (at_ : Int) ≤ 1023 := by omega
      have HA : Hid (at_ ≤ 1023) := (show _ ≤ _ by omega)
      have HJ : Hid (j < 30) := (show _ < _ by omega)
      rw [hm3]
      clear hat hm3
      by_cases hk : o.kind = 2
      · have hk2 : (o.kind == 2) = true := by simpa using hk
        have h3 := HRD.out.cut HJ.out at_ HA.out
        clear hk
        go_upto_region 14 with (go_at_call 14; refine h3.mono ?_; clear h3; rintro e z1 ⟨rfl, R1⟩)
        go_wp2_with fail
        go_loopg [13] (2000 - at_) (fun g2 k wr2 => ∃ (m : Nat) (L' : List UInt8), m + g2 = 2000 ∧ at_ ≤ m ∧ k = .int .i64 (m : Int) ∧ Hid (ByS w q gb (j + 1) (fun i => if at_ ≤ i then 0 else L.getD i 0) L' wr2 ∧ ∀ i, i < 2000 → L'.getD i 0 = if at_ ≤ i ∧ i < m then 0 else L.getD i 0))
        case atStart => exact ⟨at_, L, by have := HA.out; omega, Nat.le_refl _, rfl, R1, fun i _ => by rw [if_neg (by omega)]⟩
        case round =>
          clear R1
          obtain ⟨m, L', hmg, ham, rfl, HL⟩ := hrel
          cases gk with
          | zero =>
            have hmI : ¬ (m : Int) < 2000 := by omega
            have HM2 : Hid (m = 2000) := (show _ = _ by omega)
            clear hmg
            go_wp2_with fail
            go_roundg gg
            case measure => omega
            case rel => exact ⟨j + 1, L', by omega, congrArg (Value.int .i64) (by omega), HL.out.1.func (fun i hi => by
              rw [HL.out.2 i hi]
              have := HM2.out
              by_cases c : at_ ≤ i
              · rw [if_pos ⟨c, by omega⟩, if_pos c]
              · rw [if_neg (by omega), if_neg c])⟩
          | succ g2 =>
            have hmI : (m : Int) < 2000 := by omega
            have hm0 : (0 : Int) ≤ (m : Int) := by omega
            have hml : m < L'.length := by rw [HL.out.1.len]; omega
            have hcell := HL.out.1.row.cell m hml
            have hfz := frozen_of_row _ gb m _ _ HL.out.1.row
            have hput := HL.out.1.put m 0
            rw [show ((0 : UInt8).toNat : Int) = 0 from rfl] at hput
            have HPU : Hid (ByS w q gb (j + 1) (fun i => if at_ ≤ i then 0 else L.getD i 0) (L'.set m 0) (wr.setCell ⟨gb, m, none⟩ (.int .u8 0)) ∧ ∀ i, i < 2000 → (L'.set m 0).getD i 0 = if at_ ≤ i ∧ i < m + 1 then 0 else L.getD i 0) := ⟨hput, fun i hi => by
              by_cases c : i = m
              · subst c
                rw [if_pos ⟨ham, by omega⟩, List.getD_eq_getElem?_getD, List.getElem?_set_self hml]
                rfl
              · rw [List.getD_eq_getElem?_getD, List.getElem?_set_ne (by omega), ← List.getD_eq_getElem?_getD, HL.out.2 i hi]
                by_cases c2 : at_ ≤ i ∧ i < m
                · rw [if_pos c2, if_pos ⟨c2.1, by omega⟩]
                · rw [if_neg c2, if_neg (by omega)]⟩
            clear hput HL
            go_wp2_with fail
            go_roundg g2
            case measure => omega
            case rel => exact ⟨m + 1, L'.set m 0, by omega, by omega, congrArg (Value.int .i64) (by omega), HPU.out⟩
      · have hk2 : (o.kind == 2) = false := by simpa using hk
        have h3 := HRD.out.write HJ.out at_ s HA.out HSL.out
        clear hk
        go_upto_region 20 with (go_at_call 12; refine h3.mono ?_; clear h3; rintro e z1 ⟨rfl, R1⟩)
        have hcp := R1.row.copy at_ (2000 - at_) (2000 - at_) s (by have := HA.out; have := HSL.out; omega) (by rw [R1.len]; have := HA.out; have := HSL.out; omega) 3
        have HC : Hid (ByS w q gb (j + 1) (fun i => (copied L at_ s).getD i 0) (copied L at_ s) (z1.setRow gb (bc (copied L at_ s)).toArray)) := (R1.copied at_ s (by have := HA.out; have := HSL.out; omega)).func (fun i hi => copied_at (by rw [R1.len]; have := HA.out; have := HSL.out; omega) i)
        clear R1
        go_wp2_with fail
        go_roundg gg
        case measure => omega
        case rel => exact ⟨j + 1, copied L at_ s, by omega, congrArg (Value.int .i64) (by omega), HC.out⟩
end Go.Proofs.YtdmindhjmjnagaaGreatDoor
/- ChunkBytes answers true at every row of steps and every two numbers and turns nothing that was there: a file is its bytes: what is read, from anywhere, is what writes and cuts have left. No condition; the variables of unicode/utf8 that it lists are tied to the text of the program. -/
namespace Go.Proofs.YtdmindhjmjnagaaGreatDoor
set_option linter.unusedVariables false
set_option maxRecDepth 100000
open Go.ChangeShapes Go.WideShapes Go.ChangeAt Go.RowKit
open Go.ChangeMaps (open_string shut_string)

set_option maxRecDepth 100000 in
theorem chunkBytes_lifted (os : Os) (started : os.Started) (H : Type) (enc : TypeId × Value → H) :
    ReturnsInHanded {} Tryz.checked os 4 .any (fun w args => (Rows.chunkBytesSpec.pre enc Tryz.prog Tryz.f4 Rows.chunkBytesRow.domain false w args ∧ laidMetH Tryz.prog Rows.chunkBytesRow.laid w) ∧ sizedMet enc Tryz.prog Tryz.f4 (OpenSpec.ofChange Rows.chunkBytesSpec) false w args)
      (Rows.chunkBytesSpec.post enc Tryz.prog Tryz.f4 false true false false) := by
  refine returnsInHanded_of_change_and (C := Tryz.checked) (X := fun w _ => laidMetH Tryz.prog Rows.chunkBytesRow.laid w) (fun _ _ _ hh h => h.of_heap hh) Tryz.own started (by kernel_rfl) Tryz.func4
    (ChangeSpec.witness_shaped (enc := enc) (C := Tryz.checked) (os := os) (X := fun w _ => laidMetH Tryz.prog Rows.chunkBytesRow.laid w) false (World.laidAll Tryz.prog os Rows.chunkBytesRow.laid) #[.slice none 0 0, .int .i64 0, .int .i64 0] 8 (World.laidAll_os _ _ _)
      (World.shaped_of_ZipB (by kernel_rfl) (by kernel_rfl)) (by kernel_rfl) (by kernel_rfl) (by kernel_rfl)
      (by rw [MakeChecks.laidMetH_plain _ _ _ (by kernel_rfl)]; exact laidMet_laidAll _ (by kernel_rfl) (by kernel_rfl))) ?_
  intro W base args ds gs before hval0 hW hcnd _ hL _
  have hval : ∀ (j : Nat) t v, Tryz.f4.params[j]? = some t → args[j]? = some v → Value.okWide Tryz.prog W .any base t v := hval0
  have hW' := hW
  obtain ⟨p, q, hA0, hV, rfl, hfz, hnd⟩ := hW
  have hA : DataW.TrodAll enc Tryz.prog W 0 (fun _ => true) true Tryz.f4.params.toList args.toList ds p := hA0
  rw [Tryz.params4] at hA hval
  obtain ⟨v0, vs0, d0, ds0, p0, q0, hargs, rfl, rfl, h0, r0⟩ := trodAll_cons hA
  obtain ⟨v1, vs1, d1, ds1, p1, q1, rfl, rfl, rfl, h1, r1⟩ := trodAll_cons r0
  obtain ⟨v2, vs2, d2, ds2, p2, q2, rfl, rfl, rfl, h2, r2⟩ := trodAll_cons r1
  obtain ⟨rfl, rfl, rfl⟩ := trodAll_nil r2
  obtain rfl : args = #[v0, v1, v2] := by cases args; simp_all
  obtain ⟨rfl, rfl⟩ := trodVars_none hV
  obtain ⟨a0, len0, cap0, rfl⟩ := okWide_slice Tryz.underlying22 (hval 0 22 v0 rfl rfl)
  have k0 := h0
  have lt0 : ∀ x ∈ p0, x.block < W.heap.size := by obtain ⟨m, hm⟩ := k0; exact DataW.trod_lt m _ _ _ hm
  obtain ⟨z0, w0⟩ := open_cops h0
  obtain ⟨a1, rfl, rfl, rfl, w1⟩ := open_int Tryz.underlying3 (hval 1 3 v1 rfl rfl) h1
  have b1 := bounds_i64 w1
  obtain ⟨a2, rfl, rfl, rfl, w2⟩ := open_int Tryz.underlying3 (hval 2 3 v2 rfl rfl) h2
  have b2 := bounds_i64 w2
  clear hA0 hval0
  refine (chunkBytes_walk W _ z0 w0 a1 a2).mono fun e W' ⟨he, bel⟩ => ?_
  subst he
  exact ⟨_, rfl, _, _, _, [], _, [], hW', trodAll_mk1 (shut_bool Tryz.underlying4 _), (trodAll_cons_mk (Below.trod Tryz.laidOut (by kernel_rfl) (of_decide_eq_true (by kernel_rfl)) k0 bel lt0) (trodAll_cons_mk (shut_int Tryz.underlying3 w1) (trodAll_cons_mk (shut_int Tryz.underlying3 w2) trodAll_mk0))), rfl, bel.frame _, fun h => by cases h⟩

/-- The row. -/
theorem chunkBytes_row : Rows.ChunkBytesSaid :=
  OpenClaim.holds_of_wide 4 Tryz.f4 rfl rfl rfl rfl rfl rfl rfl ⟨rfl, rfl, rfl, rfl, rfl⟩ rfl rfl rfl rfl rfl (by kernel_rfl) Tryz.func4 (by kernel_rfl)
    (of_decide_eq_true (by kernel_rfl)) (by unfold Func.isWrapper; first | (rw [if_pos (by decide +kernel)]; kernel_rfl) | (rw [if_neg (by decide +kernel)]; exact ⟨rfl, rfl⟩))
    (fun os started H enc _ => chunkBytes_lifted os started H enc)
/-- The statement: the card. -/
theorem chunkBytes_holds : Rows.ChunkBytesCardSaid :=
  Claim7.holds_tied_plain_at .later [] [.data, .pinned] true (true, "ae14236937028a21657f4b99df5b4519190e100113ec066a27f897597a491c60") false
    chunkBytes_row (fun _ h => by cases h) (by kernel_rfl) (fun _ h => by cases h) chunkBytes_row_tie rfl ⟨rfl, rfl⟩ (by kernel_rfl) rfl
    (fun f fn hf hfn => by
      obtain rfl : f = 4 := Option.some.inj ((show Tryz.prog.funcNamed "wainscot/wainscotlaw13.ChunkBytes" = some 4 by kernel_rfl).symm.trans hf) |>.symm
      obtain rfl : fn = Tryz.f4 := (Option.some.inj (Tryz.func4.symm.trans hfn)).symm
      exact ⟨by kernel_rfl, fun j t ht => by
        rw [Tryz.params4] at ht
        have hm : t ∈ [22, 3, 3] := by simpa using Array.mem_of_getElem? ht
        have hall : ([22, 3, 3].all fun u => !Tryz.prog.wantsStandIn u) = true := by kernel_rfl
        exact (show Tryz.prog.wantsStandIn t = false by simpa using List.all_eq_true.1 hall t hm)⟩)
    (by kernel_rfl)
end Go.Proofs.YtdmindhjmjnagaaGreatDoor
