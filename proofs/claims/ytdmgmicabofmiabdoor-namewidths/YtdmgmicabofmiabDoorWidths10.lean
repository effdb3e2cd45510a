/- Pieces are counted one behind the other. -/
import Derived.Test.YtdmgmicabofmiabDoorNaH
import Derived.Deep.RegionHeld3
namespace Go.Proofs.YtdmgmicabofmiabDoor
set_option linter.unusedVariables false
open Go.RowKit

set_option maxRecDepth 1000000 in
set_option maxHeartbeats 4000000 in
theorem nameWidths_walk (w : World) (s t : ByteArray) (c : Int) (hc : 0 ≤ c ∧ c ≤ 255) :
    Calls Tryd.prog 3 #[.string s, .string t, .int .u8 c] w fun e w' => e = .returned (.bool true) ∧ Below w.heap.size w w' := by
  obtain ⟨p, hp1, hp2, hp3⟩ := cut_text s 100 100 rfl
  obtain ⟨m, hm1, hm2, hm3⟩ := cut_text t 100 100 rfl
  obtain ⟨k, hk, hk5⟩ := and127u c hc
  have hbk : (UInt8.ofNat k).toNat = k := by rw [UInt8.toNat_ofNat']; omega
  clear hc
  go_enter Tryd.func3, Tryd.ntmps3
  go_wp2_with fail
  refine (shown_calls w).mono ?_
  rintro e w1 ⟨rfl, b1⟩
  go_upto_region 3 with fail
  generalize s.extract 0 p = S at *
  refine wp_region_noPanic ?_
  refine wp_region_held_drew (S := (fun yy => Below w1.heap.size w1 yy)) (by kernel_rfl) (Below.refl _ _).drew (fun hHeld => ?_)
  refine wpAnyH_take (i := 0) (v := ?_) rfl (by kernel_rfl) (by kernel_rfl) (by kernel_rfl) (fun _ _ _ h => h) (Or.inl ⟨by rfl, ?_⟩) hHeld ?_
  case refine_2 => (intro w hSw; (try dsimp only at hSw); go_simp; try (with_reducible rfl))
  ((try simp only); (try simp only [List.getElem_toArray]); (try simp only [List.getElem_cons_succ]); (try simp only [List.getElem_cons_zero]); (try simp only [Act.put]); (try simp only [List.setIfInBounds_toArray]); (try simp only [List.set_cons_succ]); (try simp only [List.set_cons_zero]))
  refine wpAnyH_take (i := 1) (v := ?_) rfl (by kernel_rfl) (by kernel_rfl) (by kernel_rfl) (fun _ _ _ h => h) (Or.inl ⟨by rfl, ?_⟩) hHeld ?_
  case refine_2 => (intro w hSw; (try dsimp only at hSw); go_simp; try (with_reducible rfl))
  ((try simp only); (try simp only [List.getElem_toArray]); (try simp only [List.getElem_cons_succ]); (try simp only [List.getElem_cons_zero]); (try simp only [Act.put]); (try simp only [List.setIfInBounds_toArray]); (try simp only [List.set_cons_succ]); (try simp only [List.set_cons_zero]))
  refine wpAnyH_take (i := 4) (v := ?_) rfl (by kernel_rfl) (by kernel_rfl) (by kernel_rfl) (fun _ _ _ h => h) (Or.inl ⟨by rfl, ?_⟩) hHeld ?_
  case refine_2 => (intro w hSw; (try dsimp only at hSw); go_simp; try (with_reducible rfl))
  ((try simp only); (try simp only [List.getElem_toArray]); (try simp only [List.getElem_cons_succ]); (try simp only [List.getElem_cons_zero]); (try simp only [Act.put]); (try simp only [List.setIfInBounds_toArray]); (try simp only [List.set_cons_succ]); (try simp only [List.set_cons_zero]))
  refine wpAnyH_take (i := 5) (v := ?_) rfl (by kernel_rfl) (by kernel_rfl) (by kernel_rfl) (fun _ _ _ h => h) (Or.inl ⟨by rfl, ?_⟩) hHeld ?_
  case refine_2 => (intro w hSw; (try dsimp only at hSw); go_simp; try (with_reducible rfl))
  ((try simp only); (try simp only [List.getElem_toArray]); (try simp only [List.getElem_cons_succ]); (try simp only [List.getElem_cons_zero]); (try simp only [Act.put]); (try simp only [List.setIfInBounds_toArray]); (try simp only [List.set_cons_succ]); (try simp only [List.set_cons_zero]))
  refine wpAnyH_take (i := 6) (v := ?_) rfl (by kernel_rfl) (by kernel_rfl) (by kernel_rfl) (fun _ _ _ h => h) (Or.inl ⟨by rfl, ?_⟩) hHeld ?_
  case refine_2 => (intro w hSw; (try dsimp only at hSw); go_simp; try (with_reducible rfl))
  ((try simp only); (try simp only [List.getElem_toArray]); (try simp only [List.getElem_cons_succ]); (try simp only [List.getElem_cons_zero]); (try simp only [Act.put]); (try simp only [List.setIfInBounds_toArray]); (try simp only [List.set_cons_succ]); (try simp only [List.set_cons_zero]))
  refine wpAnyH_take (i := 7) (v := ?_) rfl (by kernel_rfl) (by kernel_rfl) (by kernel_rfl) (fun _ _ _ h => h) (Or.inl ⟨by rfl, ?_⟩) hHeld ?_
  case refine_2 => (intro w hSw; (try dsimp only at hSw); go_simp; try (with_reducible rfl))
  ((try simp only); (try simp only [List.getElem_toArray]); (try simp only [List.getElem_cons_succ]); (try simp only [List.getElem_cons_zero]); (try simp only [Act.put]); (try simp only [List.setIfInBounds_toArray]); (try simp only [List.set_cons_succ]); (try simp only [List.set_cons_zero]))
  refine wpAnyH_take (i := 8) (v := ?_) rfl (by kernel_rfl) (by kernel_rfl) (by kernel_rfl) (fun _ _ _ h => h) (Or.inl ⟨by rfl, ?_⟩) hHeld ?_
  case refine_2 => (intro w hSw; (try dsimp only at hSw); go_simp; try (with_reducible rfl))
  ((try simp only); (try simp only [List.getElem_toArray]); (try simp only [List.getElem_cons_succ]); (try simp only [List.getElem_cons_zero]); (try simp only [Act.put]); (try simp only [List.setIfInBounds_toArray]); (try simp only [List.set_cons_succ]); (try simp only [List.set_cons_zero]))
  generalize w1.drew = y0 at *
  refine wpAnyH_ready (rs := [2]) (by kernel_rfl) (by simp) (AllReadyH.cons rfl (fun K hK => ?_) AllReadyH.nil)
  rw [if_pos (by rfl)]
  ((try simp only); (try simp only [List.getElem_toArray]); (try simp only [List.getElem_cons_succ]); (try simp only [List.getElem_cons_zero]); (try simp only [Act.put]); (try simp only [List.setIfInBounds_toArray]); (try simp only [List.set_cons_succ]); (try simp only [List.set_cons_zero]))
  go_simp
  have hB2 : Below w1.heap.size w1 (y0.alloc (.cells #[.int .u8 (k : Int)] 5)) := hHeld.alloc hHeld.size _
  refine hK.out _ _ hB2 (fun hHeld2 => ?_)
  clear hK K
  ((try simp only); (try simp only [List.getElem_toArray]); (try simp only [List.getElem_cons_succ]); (try simp only [List.getElem_cons_zero]); (try simp only [Act.put]); (try simp only [List.setIfInBounds_toArray]); (try simp only [List.set_cons_succ]); (try simp only [List.set_cons_zero]))
  have hcv := conv_new y0 [UInt8.ofNat k] #[.int .u8 (k : Int)] (by simp [bc, hbk]) 1 rfl
  obtain ⟨C, hC⟩ : ∃ C : ByteArray, (⟨([UInt8.ofNat k] : List UInt8).toArray⟩ : ByteArray) = C := ⟨_, rfl⟩
  rw [hC] at hcv
  have hCd : C.data.toList = [UInt8.ofNat k] := by rw [← hC]
  have hCz : C.size = 1 := by rw [← hC]; rfl
  clear hC
  generalize t.extract 0 m = T at *
  refine wpAnyH_ready (rs := [3]) (by kernel_rfl) (by simp) (AllReadyH.cons rfl (fun K hK => ?_) AllReadyH.nil)
  rw [if_pos (by rfl)]
  ((try simp only); (try simp only [List.getElem_toArray]); (try simp only [List.getElem_cons_succ]); (try simp only [List.getElem_cons_zero]); (try simp only [Act.put]); (try simp only [List.setIfInBounds_toArray]); (try simp only [List.set_cons_succ]); (try simp only [List.set_cons_zero]))
  go_simp
  clear hcv
  generalize y0.alloc (.cells #[.int .u8 (k : Int)] 5) = y1 at *
  refine hK.out _ _ hHeld2 (fun hHeld3 => ?_)
  clear hK K hB2 hHeld hHeld2
  ((try simp only); (try simp only [List.getElem_toArray]); (try simp only [List.getElem_cons_succ]); (try simp only [List.getElem_cons_zero]); (try simp only [Act.put]); (try simp only [List.setIfInBounds_toArray]); (try simp only [List.set_cons_succ]); (try simp only [List.set_cons_zero]))
  obtain ⟨TT, hTT⟩ : ∃ TT : ByteArray, C ++ T = TT := ⟨_, rfl⟩
  have a1 : ∀ y, (Op.stringOp .add C T).run Tryd.prog y = .ok (.string TT) y := fun y => by rw [← hTT]; exact add_str _ _ (by rw [hCz]; decide) (Nat.le_trans hm3 (by decide)) y
  have hTd : TT.data.toList = UInt8.ofNat k :: T.data.toList := by rw [← hTT, ByteArray.data_append, Array.toList_append, hCd]; rfl
  have hTz : TT.size = T.size + 1 := by rw [← toList_size, hTd, List.length_cons, toList_size]
  clear hTT
  refine wpAnyH_take (i := 9) (v := ?_) rfl (by kernel_rfl) (by kernel_rfl) (by kernel_rfl) (fun _ _ _ h => h) (Or.inl ⟨by rfl, ?_⟩) hHeld3 ?_
  case refine_2 => (intro w hSw; (try dsimp only at hSw); go_simp; try (with_reducible rfl))
  ((try simp only); (try simp only [List.getElem_toArray]); (try simp only [List.getElem_cons_succ]); (try simp only [List.getElem_cons_zero]); (try simp only [Act.put]); (try simp only [List.setIfInBounds_toArray]); (try simp only [List.set_cons_succ]); (try simp only [List.set_cons_zero]))
  refine wpAnyH_take (i := 10) (v := ?_) rfl (by kernel_rfl) (by kernel_rfl) (by kernel_rfl) (fun _ _ _ h => h) (Or.inl ⟨by rfl, ?_⟩) hHeld3 ?_
  case refine_2 => (intro w hSw; (try dsimp only at hSw); go_simp; try (with_reducible rfl))
  ((try simp only); (try simp only [List.getElem_toArray]); (try simp only [List.getElem_cons_succ]); (try simp only [List.getElem_cons_zero]); (try simp only [Act.put]); (try simp only [List.setIfInBounds_toArray]); (try simp only [List.set_cons_succ]); (try simp only [List.set_cons_zero]))
  refine wpAnyH_done (by kernel_rfl) ?_ _
  refine NoPanic.normal ?_
  obtain ⟨U, hU⟩ : ∃ U : ByteArray, S ++ TT = U := ⟨_, rfl⟩
  have a2 : ∀ y, (Op.stringOp .add S TT).run Tryd.prog y = .ok (.string U) y := fun y => by rw [← hU]; exact add_str _ _ (Nat.le_trans hp3 (by decide)) (by rw [hTz]; omega) y
  have hUd : U.data.toList = S.data.toList ++ UInt8.ofNat k :: T.data.toList := by rw [← hU, ByteArray.data_append, Array.toList_append, hTd]
  have hUz : U.size ≤ 1000000 := by rw [← toList_size, hUd, List.length_append, List.length_cons, toList_size, toList_size]; omega
  have c1 := fun y => width_calls U hUz y
  have c2 := fun y => width_calls S (Nat.le_trans hp3 (by decide)) y
  have c3 := fun y => width_calls TT (by rw [hTz]; omega) y
  rw [hUd, wid_ascii (UInt8.ofNat k) T.data.toList (by rw [hbk]; exact hk5) _ S.data.toList rfl] at c1
  rw [hTd] at c3
  have hp := wid_pos (UInt8.ofNat k :: T.data.toList) (by simp)
  have hl1 := wid_le _ S.data.toList rfl
  have hl2 := wid_le _ (UInt8.ofNat k :: T.data.toList) rfl
  rw [toList_size] at hl1
  rw [List.length_cons, toList_size] at hl2
  generalize wid (UInt8.ofNat k :: T.data.toList) = V at *
  generalize wid S.data.toList = Z at *
  obtain ⟨Y, hY⟩ : ∃ Y, Z + V = Y := ⟨_, rfl⟩
  rw [hY] at c1
  have hZV : (Z : Int) + (V : Int) = (Y : Int) := by rw [← hY]; rfl
  have hZb : (Z : Int) ≤ 100 := by omega
  have hVb : (V : Int) ≤ 101 := by omega
  have hZ0 : (0 : Int) ≤ (Z : Int) := by omega
  have hV1 : (V : Int) ≥ 1 := by omega
  have hZs : (Z : Int) ≤ (S.size : Int) := by omega
  have B1 : Below w.heap.size w y1 := b1.trans (hHeld3.mono b1.size)
  clear hU hUd hUz hTd hTz hCd hCz hbk hk hk5 hp1 hp2 hm1 hm2 hY hp hl1 hl2 hp3 hm3 b1 hHeld3 a1
  go_wp2_with fail
  refine (c1 _).mono ?_
  rintro e x1 ⟨rfl, d1⟩
  go_wp2_with fail
  refine (c2 _).mono ?_
  rintro e x2 ⟨rfl, d2⟩
  go_wp2_with fail
  refine (c3 _).mono ?_
  rintro e x3 ⟨rfl, d3⟩
  go_wp2_with fail
  refine (c3 _).mono ?_
  rintro e x4 ⟨rfl, d4⟩
  go_wp2_with fail
  refine (c2 _).mono ?_
  rintro e x5 ⟨rfl, d5⟩
  go_wp2_with fail
  go_ret
  have C1 := B1.trans (d1.mono B1.size)
  have C2 := C1.trans (d2.mono C1.size)
  have C3 := C2.trans (d3.mono C2.size)
  have C4 := C3.trans (d4.mono C3.size)
  exact ⟨by simp, C4.trans (d5.mono C4.size)⟩
end Go.Proofs.YtdmgmicabofmiabDoor
