/- A delta makes of one map the other one, with no change too many. -/
import Derived.Test.YtbodbdcmkicmaaaDlK
import Derived.Test.YtbodbdcmkicmaaaMasks
namespace Go.Proofs.Ytbodbdcmkicmaaa
set_option linter.unusedVariables false
open Go.RowKit

set_option maxRecDepth 100000 in
set_option maxHeartbeats 16000000 in
theorem deltaDiffs_walk (w : World) (u : Value) (l : List Pa) (hu : Sl encP w u l) (v : Value) (c : List Pa) (hv : Sl encP w v c) (at_ : Int) (hat_ : -9223372036854775808 ≤ at_ ∧ at_ ≤ 9223372036854775807) :
    Calls Try.prog 4 #[u, v, .int .i64 at_] w fun e w' => e = .returned (.bool true) ∧ Below w.heap.size w w' := by
  have H : Hd w w [(u, l), (v, c)] [] [] := (((Hd.start w).addP hv).addP hu)
  obtain ⟨adu, cpu, rfl, hcu, hmu⟩ := sl_form hu
  clear hu
  obtain ⟨adv, cpv, rfl, hcv, hmv⟩ := sl_form hv
  clear hv
  go_enter Try.func4, Try.ntmps4
  go_wp2_with fail
  refine (shown_calls _).mono ?_
  rintro e x1 ⟨rfl, b1⟩
  replace H := H.called b1
  clear b1
  go_wp2_with fail
  refine (cutP_calls _ _ _ (H.getP (.slice adu l.length cpu) (l) (by simp))).mono ?_
  rintro e x2 ⟨va, rfl, o2, b2⟩
  replace H := (H.called b2).addP o2.slB
  have hA : (cutP l).length ≤ 40 := cutP_len _
  clear o2 b2
  generalize cutP l = A at *
  go_wp2_with fail
  refine (cutP_calls _ _ _ (H.getP (.slice adv c.length cpv) (c) (by simp))).mono ?_
  rintro e x3 ⟨vb, rfl, o3, b3⟩
  replace H := (H.called b3).addP o3.slB
  have hB : (cutP c).length ≤ 40 := cutP_len _
  clear o3 b3
  generalize cutP c = B at *
  go_wp2_with fail
  refine (diff_calls _ _ _ _ _ (H.getP (va) (A) (by simp)) (H.getP (vb) (B) (by simp)) (by omega) (by omega)).mono ?_
  rintro e x4 ⟨vd, D, rfl, o4, iD, hD, b4⟩
  replace H := (H.called b4).addC o4.slB
  clear o4 b4
  go_wp2_with fail
  refine (apply_calls _ _ _ _ _ (H.getP (va) (A) (by simp)) (H.getC (vd) (D) (by simp)) (by omega) (by omega)).mono ?_
  rintro e x5 ⟨v1, M1, rfl, o5, iM1, hM1, b5⟩
  replace H := (H.called b5).addP o5.slB
  clear o5 b5
  go_wp2_with fail
  refine (map_calls _ _ _ (H.getP (vb) (B) (by simp)) (by omega)).mono ?_
  rintro e x6 ⟨v2, M2, rfl, o6, iM2, hM2, b6⟩
  replace H := (H.called b6).addP o6.slB
  clear o6 b6
  go_wp2_with fail
  refine (sameP_calls _ _ _ _ _ (H.getP (v1) (M1) (by simp)) (H.getP (v2) (M2) (by simp)) (by omega)).mono ?_
  rintro e x7 ⟨rfl, b7⟩
  replace H := H.called b7
  clear b7
  rw [decide_eq_true (show M1 = M2 from diff_apply iD iM1 iM2)]
  obtain ⟨advd, cpvd, rfl, hcvd, hmvd⟩ := sl_form (H.getC (vd) (D) (by simp))
  have HID : Hid (DiffIs A B D) := iD
  have HIM : Hid (MapIs B M2) := iM2
  have hDl : D.length ≤ 80 := by omega
  clear iD iM1 iM2 hM1 hM2 hat_
  by_cases hD0 : D.length = 0
  · obtain rfl : D = [] := List.eq_nil_of_length_eq_zero hD0
    simp only [List.length_nil] at *
    clear hD0
    go_wp2_with fail
    go_loopg [12] 0 (fun g i wr => i = .int .i64 1 ∧ wr = x7)
    case atStart => exact ⟨rfl, rfl⟩
    case round =>
      obtain ⟨rfl, rfl⟩ := hrel
      go_wp2_with fail
      refine (diff_calls _ _ _ _ _ (H.getP (va) (A) (by simp)) (H.getP (va) (A) (by simp)) (by omega) (by omega)).mono ?_
      rintro e x8 ⟨v9, D9, rfl, o9, i9, h9, b9⟩
      replace H := (H.called b9).addC o9.slB
      obtain rfl := diff_none i9
      obtain ⟨ad9, cp9, rfl, hc9, hm9⟩ := sl_form o9.slB
      simp only [List.length_nil] at *
      clear o9 b9 i9
      go_wp2_with fail
      go_ret
      exact ⟨rfl, H.bel⟩
  · have hpos : 0 < D.length := by omega
    have HS : Hid (Sl encC x7 (.slice advd D.length cpvd) D) := H.getC _ _ (by simp)
    have HASC : Hid (Asc Ch.n D) := HID.out.1
    obtain ⟨N, hN⟩ : ∃ N : Nat, N = D.length := ⟨_, rfl⟩
    have HN : Hid (N = D.length) := hN
    have hND : D.length = N := hN.symm
    rw [hND] at HS hcvd hpos hDl H ⊢
    have hN1 : (N : Int) > 0 := by omega
    have hNz : ((N : Int) == 0) = false := by simp; omega
    have hNn : ¬ (N : Int) = 0 := by omega
    obtain ⟨P, hP⟩ : ∃ P : Nat, (at_ % 256) % (N : Int) = (P : Int) := ⟨((at_ % 256) % (N : Int)).toNat, by have := Int.emod_nonneg (at_ % 256) hNn; omega⟩
    have hPN : P < N := by have := Int.emod_lt_of_pos (at_ % 256) (show (0 : Int) < (N : Int) by omega); omega
    have m1 := and255 at_
    have m2 : Int.tmod (at_ % 256) (N : Int) = (P : Int) := by rw [Int.tmod_eq_emod_of_nonneg (by omega)]; exact hP
    have T0 : SlB encC x7 x7.heap.size (.slice advd P cpvd) (D.take P) := SlB.take HS.out P (by omega)
    obtain ⟨aq, haq⟩ : ∃ aq, (if cpvd = P + 1 then advd else advd.map (·.add ((P + 1) * 26))) = aq := ⟨_, rfl⟩
    have D0 : SlB encC x7 x7.heap.size (.slice aq (N - (P + 1)) (cpvd - (P + 1))) (D.drop (P + 1)) := by rw [← haq]; exact SlB.drop HS.out (P + 1) (by omega)
    have hDP : P < D.length := by omega
    have HSPL : Hid (D = D.take P ++ D[P] :: D.drop (P + 1)) := (show _ = _ by rw [← List.drop_eq_getElem_cons hDP, List.take_append_drop])
    have HLL : Hid ((D.take P).length ≤ 80 ∧ (D.drop (P + 1)).length ≤ 80) := ⟨by simp; omega, by simp; omega⟩
    have hPc : (P : Int) ≤ (cpvd : Int) := by omega
    have hP0 : (0 : Int) ≤ (P : Int) := by omega
    have hPN1 : ((P + 1 : Nat) : Int) ≤ (N : Int) := by omega
    have hPc1 : (P : Int) + 1 ≤ (cpvd : Int) := by omega
    have hPn1 : (P : Int) + 1 ≤ (N : Int) := by omega
    have hwr : IntKind.i64.wrap ((P : Int) + 1) = (P : Int) + 1 := by rw [IntKind.wrap_i64]; omega
    have htn : ((P : Int) + 1).toNat = P + 1 := by omega
    have hP10 : (0 : Int) ≤ (P : Int) + 1 := by omega
    generalize D[P] = cP at *
    generalize D.take P = I at *
    generalize D.drop (P + 1) = J at *
    clear hP hN hND hDP hD0
    go_upto_region 8 with fail
    refine wp_region_noPanic ?_
    refine wp_region_held_drew (S := (fun yy => Below x7.heap.size x7 yy)) (by kernel_rfl) (Below.refl _ _).drew (fun hHeld => ?_)
    refine wpAnyH_take (i := 1) (v := ?_) rfl (by kernel_rfl) (by kernel_rfl) (by kernel_rfl) (fun _ _ _ h => h) (Or.inl ⟨by rfl, ?_⟩) hHeld ?_
    case refine_2 => (intro w hSw; (try dsimp only at hSw); go_simp; try (with_reducible rfl))
    ((try simp only); (try simp only [List.getElem_toArray]); (try simp only [List.getElem_cons_succ]); (try simp only [List.getElem_cons_zero]); (try simp only [Act.put]); (try simp only [List.setIfInBounds_toArray]); (try simp only [List.set_cons_succ]); (try simp only [List.set_cons_zero]))
    refine wpAnyH_take (i := 2) (v := ?_) rfl (by kernel_rfl) (by kernel_rfl) (by kernel_rfl) (fun _ _ _ h => h) (Or.inl ⟨by rfl, ?_⟩) hHeld ?_
    case refine_2 => (intro w hSw; (try dsimp only at hSw); go_simp; try (with_reducible rfl))
    ((try simp only); (try simp only [List.getElem_toArray]); (try simp only [List.getElem_cons_succ]); (try simp only [List.getElem_cons_zero]); (try simp only [Act.put]); (try simp only [List.setIfInBounds_toArray]); (try simp only [List.set_cons_succ]); (try simp only [List.set_cons_zero]))
    refine wpAnyH_take (i := 3) (v := ?_) rfl (by kernel_rfl) (by kernel_rfl) (by kernel_rfl) (fun _ _ _ h => h) (Or.inl ⟨by rfl, ?_⟩) hHeld ?_
    case refine_2 => (intro w hSw; (try dsimp only at hSw); go_simp; try (with_reducible rfl))
    ((try simp only); (try simp only [List.getElem_toArray]); (try simp only [List.getElem_cons_succ]); (try simp only [List.getElem_cons_zero]); (try simp only [Act.put]); (try simp only [List.setIfInBounds_toArray]); (try simp only [List.set_cons_succ]); (try simp only [List.set_cons_zero]))
    refine wpAnyH_take (i := 5) (v := ?_) rfl (by kernel_rfl) (by kernel_rfl) (by kernel_rfl) (fun _ _ _ h => h) (Or.inl ⟨by rfl, ?_⟩) hHeld ?_
    case refine_2 => (intro w hSw; (try dsimp only at hSw); go_simp; try (with_reducible rfl))
    ((try simp only); (try simp only [List.getElem_toArray]); (try simp only [List.getElem_cons_succ]); (try simp only [List.getElem_cons_zero]); (try simp only [Act.put]); (try simp only [List.setIfInBounds_toArray]); (try simp only [List.set_cons_succ]); (try simp only [List.set_cons_zero]))
    refine wpAnyH_take (i := 6) (v := ?_) rfl (by kernel_rfl) (by kernel_rfl) (by kernel_rfl) (fun _ _ _ h => h) (Or.inl ⟨by rfl, ?_⟩) hHeld ?_
    case refine_2 => (intro w hSw; (try dsimp only at hSw); go_simp; try (with_reducible rfl))
    ((try simp only); (try simp only [List.getElem_toArray]); (try simp only [List.getElem_cons_succ]); (try simp only [List.getElem_cons_zero]); (try simp only [Act.put]); (try simp only [List.setIfInBounds_toArray]); (try simp only [List.set_cons_succ]); (try simp only [List.set_cons_zero]))
    refine wpAnyH_take (i := 7) (v := ?_) rfl (by kernel_rfl) (by kernel_rfl) (by kernel_rfl) (fun _ _ _ h => h) (Or.inl ⟨by rfl, ?_⟩) hHeld ?_
    case refine_2 => (intro w hSw; (try dsimp only at hSw); go_simp; try (with_reducible rfl))
    ((try simp only); (try simp only [List.getElem_toArray]); (try simp only [List.getElem_cons_succ]); (try simp only [List.getElem_cons_zero]); (try simp only [Act.put]); (try simp only [List.setIfInBounds_toArray]); (try simp only [List.set_cons_succ]); (try simp only [List.set_cons_zero]))
    refine wpAnyH_take (i := 8) (v := ?_) rfl (by kernel_rfl) (by kernel_rfl) (by kernel_rfl) (fun _ _ _ h => h) (Or.inl ⟨by rfl, ?_⟩) hHeld ?_
    case refine_2 => (intro w hSw; (try dsimp only at hSw); go_simp; try (with_reducible rfl))
    ((try simp only); (try simp only [List.getElem_toArray]); (try simp only [List.getElem_cons_succ]); (try simp only [List.getElem_cons_zero]); (try simp only [Act.put]); (try simp only [List.setIfInBounds_toArray]); (try simp only [List.set_cons_succ]); (try simp only [List.set_cons_zero]))
    generalize x7.drew = y0 at *
    refine wpAnyH_ready (rs := [0]) (by kernel_rfl) (by simp) (AllReadyH.cons rfl (fun K hK => ?_) AllReadyH.nil)
    rw [if_pos (by rfl)]
    ((try simp only); (try simp only [List.getElem_toArray]); (try simp only [List.getElem_cons_succ]); (try simp only [List.getElem_cons_zero]); (try simp only [Act.put]); (try simp only [List.setIfInBounds_toArray]); (try simp only [List.set_cons_succ]); (try simp only [List.set_cons_zero]))
    go_simp
    have b0 : Below y0.heap.size y0 (y0.alloc (.cells #[] 43)) := (Below.refl _ _).alloc (Nat.le_refl _) _
    have oE : Own encC 43 (y0.alloc (.cells #[] 43)) x7.heap.size (.slice (some ⟨y0.heap.size, 0, none⟩) 0 0) [] := World.ownsRow_made (base := x7.heap.size) (e := 43) (size := 26) y0 #[] 0 hHeld.size (by unfold maxLen; omega) rfl
    have hgE : x7.heap.size ≤ y0.heap.size := hHeld.size
    refine hK.out _ _ (hHeld.trans (b0.mono hHeld.size)) (fun hHeld => ?_)
    clear hK K
    ((try simp only); (try simp only [List.getElem_toArray]); (try simp only [List.getElem_cons_succ]); (try simp only [List.getElem_cons_zero]); (try simp only [Act.put]); (try simp only [List.setIfInBounds_toArray]); (try simp only [List.set_cons_succ]); (try simp only [List.set_cons_zero]))
    generalize hg0 : y0.heap.size = gE at *
    clear hg0
    generalize y0.alloc (.cells #[] 43) = y1 at *
    clear b0
    refine wpAnyH_ready (rs := [4]) (by kernel_rfl) (by simp) (AllReadyH.cons rfl (fun K hK => ?_) AllReadyH.nil)
    rw [if_pos (by rfl)]
    ((try simp only); (try simp only [List.getElem_toArray]); (try simp only [List.getElem_cons_succ]); (try simp only [List.getElem_cons_zero]); (try simp only [Act.put]); (try simp only [List.setIfInBounds_toArray]); (try simp only [List.set_cons_succ]); (try simp only [List.set_cons_zero]))
    refine wp_append_sl rowC _ _ rfl x7.heap.size (.slice (some ⟨gE, 0, none⟩) 0 0) [] I rfl oE (.slice advd P cpvd) rfl x7.heap.size (T0.below hHeld) (by have := HLL.out; simp only [List.length_nil]; omega) (by decide) hHeld.size ?_
    intro v8 y2 o8 gr8
    have lt8 := o8.lt
    refine hK.out _ _ (hHeld.grown gr8 hHeld.size (fun j hj => by have e : gE = j := (by simpa [Value.ownBlock] using hj); omega)) (fun hHeld => ?_)
    clear hK K gr8 oE
    ((try simp only); (try simp only [List.getElem_toArray]); (try simp only [List.getElem_cons_succ]); (try simp only [List.getElem_cons_zero]); (try simp only [Act.put]); (try simp only [List.setIfInBounds_toArray]); (try simp only [List.set_cons_succ]); (try simp only [List.set_cons_zero]))
    simp only [List.nil_append] at o8
    refine wpAnyH_ready (rs := [9]) (by kernel_rfl) (by simp) (AllReadyH.cons rfl (fun K hK => ?_) AllReadyH.nil)
    rw [if_pos (by rfl)]
    ((try simp only); (try simp only [List.getElem_toArray]); (try simp only [List.getElem_cons_succ]); (try simp only [List.getElem_cons_zero]); (try simp only [Act.put]); (try simp only [List.setIfInBounds_toArray]); (try simp only [List.set_cons_succ]); (try simp only [List.set_cons_zero]))
    refine wp_append_sl rowC _ _ rfl x7.heap.size v8 I J rfl o8 (.slice aq (N - (P + 1)) (cpvd - (P + 1))) rfl x7.heap.size (D0.below hHeld) (by have := HLL.out; omega) (by decide) hHeld.size ?_
    intro v9 y3 o9 gr9
    refine hK.out _ _ (hHeld.grown gr9 hHeld.size (fun j hj => (lt8 j hj).1)) (fun hHeld => ?_)
    clear hK K gr9 o8 lt8
    ((try simp only); (try simp only [List.getElem_toArray]); (try simp only [List.getElem_cons_succ]); (try simp only [List.getElem_cons_zero]); (try simp only [Act.put]); (try simp only [List.setIfInBounds_toArray]); (try simp only [List.set_cons_succ]); (try simp only [List.set_cons_zero]))
    refine wpAnyH_take (i := 10) (v := ?_) rfl (by kernel_rfl) (by kernel_rfl) (by kernel_rfl) (fun _ _ _ h => h) (Or.inl ⟨by rfl, ?_⟩) hHeld ?_
    case refine_2 => (intro w hSw; (try dsimp only at hSw); go_simp; try (with_reducible rfl))
    ((try simp only); (try simp only [List.getElem_toArray]); (try simp only [List.getElem_cons_succ]); (try simp only [List.getElem_cons_zero]); (try simp only [Act.put]); (try simp only [List.setIfInBounds_toArray]); (try simp only [List.set_cons_succ]); (try simp only [List.set_cons_zero]))
    have B9 : Below x7.heap.size x7 y3 := hHeld
    clear hHeld
    refine wpAnyH_done (by kernel_rfl) ?_ _
    refine NoPanic.normal ?_
    replace H := (H.called B9).addC o9.slB
    have hlIJ : (I ++ J).length ≤ 160 := by have := HLL.out; simp only [List.length_append]; omega
    clear m1 m2 T0 haq D0 hPc hP0 hPN1 hPc1 hPn1 hwr htn hP10 hN1 hNz hNn o9
    go_wp2_with fail
    refine (apply_calls _ _ _ _ _ (H.getP (va) (A) (by simp)) (H.getC (v9) (I ++ J) (by simp)) (by omega) (by omega)).mono ?_
    rintro e x9 ⟨v3, M3, rfl, o3, iM3, hM3, b3⟩
    replace H := (H.called b3).addP o3.slB
    clear o3 b3
    go_wp2_with fail
    refine (map_calls _ _ _ (H.getP (vb) (B) (by simp)) (by omega)).mono ?_
    rintro e x10 ⟨v4, M4, rfl, o10, iM4, hM4, b10⟩
    replace H := (H.called b10).addP o10.slB
    clear o10 b10
    have hne : ¬ M3 = M4 := by rw [HSPL.out] at HID; exact diff_less HID.out iM3 iM4
    go_wp2_with fail
    refine (sameP_calls _ _ _ _ _ (H.getP (v3) (M3) (by simp)) (H.getP (v4) (M4) (by simp)) (by omega)).mono ?_
    rintro e X ⟨rfl, b5⟩
    replace H := H.called b5
    clear b5
    rw [decide_eq_false hne]
    clear hne iM3 iM4 hM3 hM4
    have HSX : Hid (Sl encC X (.slice advd N cpvd) D) := H.getC _ _ (by simp)
    have HI : Hid (∀ i (hi : i < D.length), ∃ g off, advd = some ⟨g, off, none⟩ ∧ g < X.heap.size ∧ X.rangeAt g (off + i * 26) (encC.c D[i])) := fun i hi => SlB.at HSX.out i hi
    have hInfo2 : ∀ p : Ch, (Try.prog.info? 41).map (·.size) = some (bc p.k).length := fun p => by rw [bc_length, p.h]; exact Try.key_info
    obtain ⟨N1, hN1⟩ : ∃ N1, N = N1 + 1 := ⟨N - 1, by omega⟩
    subst hN1
    go_wp2_with fail
    go_loopg [12] N1 (fun g i wr => ∃ j : Nat, j + g = N1 ∧ i = .int .i64 ((j + 1 : Nat) : Int) ∧ Hid (Below X.heap.size X wr))
    case atStart => exact ⟨0, by omega, rfl, Below.refl _ _⟩
    case round =>
      obtain ⟨j, hjg, rfl, HB⟩ := hrel
      cases gk with
      | zero =>
        have hjN : j = N1 := by omega
        subst hjN
        replace H := H.called HB.out
        have hnl : ¬ ((j + 1 : Nat) : Int) < ((j + 1 : Nat) : Int) := by omega
        go_wp2_with fail
        refine (diff_calls _ _ _ _ _ (H.getP (va) (A) (by simp)) (H.getP (va) (A) (by simp)) (by omega) (by omega)).mono ?_
        rintro e x12 ⟨v9, D9, rfl, o9, i9, h9, b9⟩
        replace H := (H.called b9).addC o9.slB
        obtain rfl := diff_none i9
        obtain ⟨ad9, cp9, rfl, hc9, hm9⟩ := sl_form o9.slB
        simp only [List.length_nil] at *
        clear o9 b9 i9
        go_wp2_with fail
        go_ret
        exact ⟨rfl, H.bel⟩
      | succ g =>
        have hlt : j + 1 < N1 + 1 := by omega
        have hltI : ((j + 1 : Nat) : Int) < ((N1 + 1 : Nat) : Int) := by omega
        have hjl : j + 1 < D.length := by have := HN.out; omega
        obtain ⟨g0, off, rfl, hg0, hat1⟩ := HI.out j (by omega)
        obtain ⟨g0', off', e0, hg0', hat2⟩ := HI.out (j + 1) hjl
        cases e0
        have HR : Hid (wr.rangeAt g0 (off + j * 26) (bc (D[j]).k) ∧ wr.rangeAt g0 (off + (j + 1) * 26) (bc (D[j + 1]).k)) := ⟨range_kC (range_same' hat1 (HB.out.block g0 hg0)), range_kC (range_same' hat2 (HB.out.block g0 hg0))⟩
        have HLS : Hid ((D[j]).kz.n < (D[j + 1]).kz.n) := List.pairwise_iff_getElem.1 HASC.out j (j + 1) (by omega) hjl (by omega)
        generalize D[j] = s at *
        generalize D[j + 1] = t at *
        have hsub : ((j + 1 : Nat) : Int) - 1 = (j : Int) := by omega
        have hj0 : (0 : Int) ≤ (j : Int) := by omega
        have hj1 : (0 : Int) ≤ ((j + 1 : Nat) : Int) := by omega
        have hjI : (j : Int) < ((N1 + 1 : Nat) : Int) := by omega
        have hjw : IntKind.i64.wrap (((j + 1 : Nat) : Int) - 1) = (j : Int) := by rw [IntKind.wrap_i64]; omega
        have hj2 : (((j + 1 : Nat) : Int)).toNat = j + 1 := by omega
        have hjw2 : IntKind.i64.wrap (j : Int) = (j : Int) := by rw [IntKind.wrap_i64]; omega
        have hjI2 : (j : Int) < (N1 : Int) + 1 := by omega
        have hlt2 : (j : Int) + 1 < (N1 : Int) + 1 := by omega
        have hj02 : (0 : Int) ≤ (j : Int) + 1 := by omega
        have hjt2 : ((j : Int) + 1).toNat = j + 1 := by omega
        clear hat1 hat2 hjl hg0'
        go_upto_region 14 with fail
        refine wp_region_noPanic ?_
        refine wp_region_held_drew (S := (fun yy => yy.rangeAt g0 (off + j * 26) (bc s.k) ∧ yy.rangeAt g0 (off + (j + 1) * 26) (bc t.k))) (by kernel_rfl) HR.out (fun hHeld => ?_)
        refine wpAnyH_take (i := 0) (v := ?_) rfl (by kernel_rfl) (by kernel_rfl) (by kernel_rfl) (fun _ _ _ h => h) (Or.inl ⟨by rfl, ?_⟩) hHeld ?_
        case refine_2 => (intro w hSw; (try dsimp only at hSw); go_simp; try (with_reducible rfl))
        ((try simp only); (try simp only [List.getElem_toArray]); (try simp only [List.getElem_cons_succ]); (try simp only [List.getElem_cons_zero]); (try simp only [Act.put]); (try simp only [List.setIfInBounds_toArray]); (try simp only [List.set_cons_succ]); (try simp only [List.set_cons_zero]))
        refine wpAnyH_take (i := 1) (v := ?_) rfl (by kernel_rfl) (by kernel_rfl) (by kernel_rfl) (fun _ _ _ h => h) (Or.inl ⟨by rfl, ?_⟩) hHeld ?_
        case refine_2 => (intro w hSw; (try dsimp only at hSw); go_simp; try (with_reducible rfl))
        ((try simp only); (try simp only [List.getElem_toArray]); (try simp only [List.getElem_cons_succ]); (try simp only [List.getElem_cons_zero]); (try simp only [Act.put]); (try simp only [List.setIfInBounds_toArray]); (try simp only [List.set_cons_succ]); (try simp only [List.set_cons_zero]))
        refine wpAnyH_take (i := 2) (v := ?_) rfl (by kernel_rfl) (by kernel_rfl) (by kernel_rfl) (fun _ _ _ h => h) (Or.inl ⟨by rfl, ?_⟩) hHeld ?_
        case refine_2 => (intro w hSw; (try dsimp only at hSw); go_simp; try (with_reducible rfl))
        ((try simp only); (try simp only [List.getElem_toArray]); (try simp only [List.getElem_cons_succ]); (try simp only [List.getElem_cons_zero]); (try simp only [Act.put]); (try simp only [List.setIfInBounds_toArray]); (try simp only [List.set_cons_succ]); (try simp only [List.set_cons_zero]))
        refine wpAnyH_take (i := 3) (v := ?_) rfl (by kernel_rfl) (by kernel_rfl) (by kernel_rfl) (fun _ _ _ h => h) (Or.inl ⟨by rfl, ?_⟩) hHeld ?_
        case refine_2 => (intro w hSw; (try dsimp only at hSw); go_simp; try (with_reducible rfl))
        ((try simp only); (try simp only [List.getElem_toArray]); (try simp only [List.getElem_cons_succ]); (try simp only [List.getElem_cons_zero]); (try simp only [Act.put]); (try simp only [List.setIfInBounds_toArray]); (try simp only [List.set_cons_succ]); (try simp only [List.set_cons_zero]))
        refine wpAnyH_take (i := 4) (v := ?_) rfl (by kernel_rfl) (by kernel_rfl) (by kernel_rfl) (fun _ _ _ h => h) (Or.inl ⟨by rfl, ?_⟩) hHeld ?_
        case refine_2 => (intro w hSw; (try dsimp only at hSw); go_simp; try (with_reducible rfl))
        ((try simp only); (try simp only [List.getElem_toArray]); (try simp only [List.getElem_cons_succ]); (try simp only [List.getElem_cons_zero]); (try simp only [Act.put]); (try simp only [List.setIfInBounds_toArray]); (try simp only [List.set_cons_succ]); (try simp only [List.set_cons_zero]))
        refine wpAnyH_take (i := 5) rfl (by kernel_rfl) (by kernel_rfl) (by kernel_rfl) (fun _ _ _ h => h) (yieldsIf_load_mid (by rfl) _ _ rfl _ _ rfl _ _ (fun _ h => h.1) Try.underlying41 rfl (hInfo2 s)) hHeld ?_
        ((try simp only); (try simp only [List.getElem_toArray]); (try simp only [List.getElem_cons_succ]); (try simp only [List.getElem_cons_zero]); (try simp only [Act.put]); (try simp only [List.setIfInBounds_toArray]); (try simp only [List.set_cons_succ]); (try simp only [List.set_cons_zero]))
        refine wpAnyH_take (i := 6) (v := ?_) rfl (by kernel_rfl) (by kernel_rfl) (by kernel_rfl) (fun _ _ _ h => h) (Or.inl ⟨by rfl, ?_⟩) hHeld ?_
        case refine_2 => (intro w hSw; (try dsimp only at hSw); go_simp; try (with_reducible rfl))
        ((try simp only); (try simp only [List.getElem_toArray]); (try simp only [List.getElem_cons_succ]); (try simp only [List.getElem_cons_zero]); (try simp only [Act.put]); (try simp only [List.setIfInBounds_toArray]); (try simp only [List.set_cons_succ]); (try simp only [List.set_cons_zero]))
        refine wpAnyH_take (i := 7) (v := ?_) rfl (by kernel_rfl) (by kernel_rfl) (by kernel_rfl) (fun _ _ _ h => h) (Or.inl ⟨by rfl, ?_⟩) hHeld ?_
        case refine_2 => (intro w hSw; (try dsimp only at hSw); go_simp; try (with_reducible rfl))
        ((try simp only); (try simp only [List.getElem_toArray]); (try simp only [List.getElem_cons_succ]); (try simp only [List.getElem_cons_zero]); (try simp only [Act.put]); (try simp only [List.setIfInBounds_toArray]); (try simp only [List.set_cons_succ]); (try simp only [List.set_cons_zero]))
        refine wpAnyH_take (i := 8) (v := ?_) rfl (by kernel_rfl) (by kernel_rfl) (by kernel_rfl) (fun _ _ _ h => h) (Or.inl ⟨by rfl, ?_⟩) hHeld ?_
        case refine_2 => (intro w hSw; (try dsimp only at hSw); go_simp; try (with_reducible rfl))
        ((try simp only); (try simp only [List.getElem_toArray]); (try simp only [List.getElem_cons_succ]); (try simp only [List.getElem_cons_zero]); (try simp only [Act.put]); (try simp only [List.setIfInBounds_toArray]); (try simp only [List.set_cons_succ]); (try simp only [List.set_cons_zero]))
        refine wpAnyH_take (i := 9) (v := ?_) rfl (by kernel_rfl) (by kernel_rfl) (by kernel_rfl) (fun _ _ _ h => h) (Or.inl ⟨by rfl, ?_⟩) hHeld ?_
        case refine_2 => (intro w hSw; (try dsimp only at hSw); go_simp; try (with_reducible rfl))
        ((try simp only); (try simp only [List.getElem_toArray]); (try simp only [List.getElem_cons_succ]); (try simp only [List.getElem_cons_zero]); (try simp only [Act.put]); (try simp only [List.setIfInBounds_toArray]); (try simp only [List.set_cons_succ]); (try simp only [List.set_cons_zero]))
        refine wpAnyH_take (i := 10) rfl (by kernel_rfl) (by kernel_rfl) (by kernel_rfl) (fun _ _ _ h => h) (yieldsIf_load_mid (by rfl) _ _ rfl _ _ rfl _ _ (fun _ h => h.2) Try.underlying41 rfl (hInfo2 t)) hHeld ?_
        ((try simp only); (try simp only [List.getElem_toArray]); (try simp only [List.getElem_cons_succ]); (try simp only [List.getElem_cons_zero]); (try simp only [Act.put]); (try simp only [List.setIfInBounds_toArray]); (try simp only [List.set_cons_succ]); (try simp only [List.set_cons_zero]))
        have HB0 : Hid (Below X.heap.size X wr.drew ∧ wr.drew.rangeAt g0 (off + j * 26) (bc s.k) ∧ wr.drew.rangeAt g0 (off + (j + 1) * 26) (bc t.k)) := ⟨HB.out.drew, HR.out⟩
        have hLS := lessK_calls wr.drew s.kz t.kz
        rw [decide_eq_true HLS.out] at hLS
        clear HB HR
        generalize wr.drew = y0 at *
        refine wpAnyH_ready (rs := [11]) (by kernel_rfl) (by simp) (AllReadyH.cons rfl (fun K hK => ?_) AllReadyH.nil)
        rw [if_pos (by rfl)]
        ((try simp only); (try simp only [List.getElem_toArray]); (try simp only [List.getElem_cons_succ]); (try simp only [List.getElem_cons_zero]); (try simp only [Act.put]); (try simp only [List.setIfInBounds_toArray]); (try simp only [List.set_cons_succ]); (try simp only [List.set_cons_zero]))
        go_simp
        refine hLS.mono ?_
        rintro e y1 ⟨rfl, c1⟩
        have hg1 : g0 < y0.heap.size := Nat.lt_of_lt_of_le hg0 HB0.out.1.size
        have HB1 : Hid (Below X.heap.size X y1) := HB0.out.1.trans (c1.mono HB0.out.1.size)
        refine hK.out _ _ ⟨range_same' HB0.out.2.1 (c1.block g0 hg1), range_same' HB0.out.2.2 (c1.block g0 hg1)⟩ (fun hHeld => ?_)
        clear hK K c1 HB0 hg1 hLS
        ((try simp only); (try simp only [List.getElem_toArray]); (try simp only [List.getElem_cons_succ]); (try simp only [List.getElem_cons_zero]); (try simp only [Act.put]); (try simp only [List.setIfInBounds_toArray]); (try simp only [List.set_cons_succ]); (try simp only [List.set_cons_zero]))
        refine wpAnyH_take (i := 12) (v := ?_) rfl (by kernel_rfl) (by kernel_rfl) (by kernel_rfl) (fun _ _ _ h => h) (Or.inl ⟨by rfl, ?_⟩) hHeld ?_
        case refine_2 => (intro w hSw; (try dsimp only at hSw); go_simp; try (with_reducible rfl))
        ((try simp only); (try simp only [List.getElem_toArray]); (try simp only [List.getElem_cons_succ]); (try simp only [List.getElem_cons_zero]); (try simp only [Act.put]); (try simp only [List.setIfInBounds_toArray]); (try simp only [List.set_cons_succ]); (try simp only [List.set_cons_zero]))
        refine wpAnyH_done (by kernel_rfl) ?_ _
        refine NoPanic.normal ?_
        go_wp2_with fail
        go_roundg g
        case measure => omega
        case rel => exact ⟨j + 1, by omega, congrArg (Value.int .i64) (by omega), HB1⟩
end Go.Proofs.Ytbodbdcmkicmaaa
