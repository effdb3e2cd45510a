/- Who changes other keys does not clash. -/
import Derived.Test.YtbodbdcmkicmaaaDlN
namespace Go.Proofs.Ytbodbdcmkicmaaa
set_option linter.unusedVariables false
open Go.RowKit

set_option maxRecDepth 100000 in
set_option maxHeartbeats 16000000 in
theorem deltaApart_walk (w : World) (u : Value) (l : List Pa) (hu : Sl encP w u l) (v : Value) (c : List Ch) (hv : Sl encC w v c) (t : Value) (d : List Ch) (ht : Sl encC w t d) :
    Calls Try.prog 7 #[u, v, t] w fun e w' => e = .returned (.bool true) ∧ Below w.heap.size w w' := by
  have H : Hd w w [(u, l)] [(v, c), (t, d)] [] := ((((Hd.start w).addC ht).addC hv).addP hu)
  obtain ⟨adu, cpu, rfl, hcu, hmu⟩ := sl_form hu
  clear hu
  obtain ⟨adv, cpv, rfl, hcv, hmv⟩ := sl_form hv
  clear hv
  obtain ⟨adt, cpt, rfl, hct, hmt⟩ := sl_form ht
  clear ht
  go_enter Try.func7, Try.ntmps7
  go_wp2_with fail
  refine (shown_calls _).mono ?_
  rintro e x1 ⟨rfl, b1⟩
  replace H := H.called b1
  clear b1
  go_wp2_with fail
  refine (cutP_calls _ _ _ (H.getP (.slice adu l.length cpu) (l) (by simp))).mono ?_
  rintro e x2 ⟨va, rfl, o2, b2⟩
  replace H := (H.called b2).addP o2.slB
  have hA : (cutP l).length ≤ 40 := cutP_len _
  clear o2 b2
  generalize cutP l = A at *
  go_wp2_with fail
  refine (cutC_calls _ _ _ (H.getC (.slice adv c.length cpv) (c) (by simp))).mono ?_
  rintro e x3 ⟨vx, rfl, o3, b3⟩
  replace H := (H.called b3).addC o3.slB
  have hX1 : (cutC c).length ≤ 40 := cutC_len _
  clear o3 b3
  generalize cutC c = X1 at *
  go_wp2_with fail
  refine (cutC_calls _ _ _ (H.getC (.slice adt d.length cpt) (d) (by simp))).mono ?_
  rintro e x4 ⟨vy, rfl, o4, b4⟩
  replace H := (H.called b4).addC o4.slB
  have hY1 : (cutC d).length ≤ 40 := cutC_len _
  clear o4 b4
  generalize cutC d = Y1 at *
  obtain ⟨advx, cpvx, rfl, hcvx, hmvx⟩ := sl_form (H.getC (vx) (X1) (by simp))
  obtain ⟨advy, cpvy, rfl, hcvy, hmvy⟩ := sl_form (H.getC (vy) (Y1) (by simp))
  generalize hXX : x4 = X at *
  clear hXX
  have HIX : Hid (∀ i (hi : i < X1.length), ∃ g off, advx = some ⟨g, off, none⟩ ∧ g < X.heap.size ∧ X.rangeAt g (off + i * 26) (encC.c X1[i])) := fun i hi => SlB.at (H.getC (.slice advx X1.length cpvx) X1 (by simp)) i hi
  have HIY : Hid (∀ i (hi : i < Y1.length), ∃ g off, advy = some ⟨g, off, none⟩ ∧ g < X.heap.size ∧ X.rangeAt g (off + i * 26) (encC.c Y1[i])) := fun i hi => SlB.at (H.getC (.slice advy Y1.length cpvy) Y1 (by simp)) i hi
  have hInfo2 : ∀ p : Ch, (Try.prog.info? 41).map (·.size) = some (bc p.k).length := fun p => by rw [bc_length, p.h]; exact Try.key_info
  obtain ⟨N, hN⟩ : ∃ N : Nat, N = X1.length := ⟨_, rfl⟩
  have HN : Hid (N = X1.length) := hN
  have hNs : X1.length = N := hN.symm
  rw [hNs] at hcvx hmvx H ⊢
  obtain ⟨Q, hQ⟩ : ∃ Q : Nat, Q = Y1.length := ⟨_, rfl⟩
  have HQ : Hid (Q = Y1.length) := hQ
  have hQs : Y1.length = Q := hQ.symm
  rw [hQs] at hcvy hmvy H ⊢
  have hN40 : N ≤ 40 := by omega
  have hQ40 : Q ≤ 40 := by omega
  have HXY : Hid (X1.length ≤ 40 ∧ Y1.length ≤ 40) := ⟨hX1, hY1⟩
  clear hN hNs hQ hQs hX1 hY1
  have HST : Hid (Below X.heap.size X X ∧ Own encC 43 X X.heap.size (.slice none 0 0) (apartOf X1 (Y1.take 0))) := ⟨Below.refl _ _, Own.nil _ _ _ _⟩
  go_wp2_with fail
  go_loopg [8, 9] Q (fun g s8 i wr => ∃ j : Nat, j + g = Q ∧ i = .int .i64 (j : Int) ∧ Hid (Below X.heap.size X wr ∧ Own encC 43 wr X.heap.size s8 (apartOf X1 (Y1.take j))))
  case atStart => exact ⟨0, by omega, rfl, HST.out⟩
  case round =>
    obtain ⟨i, hig, rfl, HB⟩ := hrel
    clear HST
    cases gk with
    | zero =>
      have hiQ : i = Q := by omega
      subst hiQ
      have hO := HB.out.2
      rw [List.take_of_length_le (by have := HQ.out; omega)] at hO
      replace H := (H.called HB.out.1).addC hO.slB
      have hap : (apartOf X1 Y1).length ≤ 40 := by have := apart_len X1 Y1; have := HXY.out; omega
      have HLA : Hid (∀ k, lastA Ch.n X1 k = none ∨ lastA Ch.n (apartOf X1 Y1) k = none) := apart_last X1 Y1
      have hx40 : X1.length ≤ 40 := HXY.out.1
      have HHX : Hid (N = X1.length) := HN
      generalize apartOf X1 Y1 = Z at *
      clear HB hO HIX HIY HQ HXY hInfo2
      generalize u8 = vz at *
      go_wp2_with fail
      refine (apply_calls _ _ _ _ _ (H.getP (va) (A) (by simp)) (H.getC (.slice advx N cpvx) (X1) (by simp)) (by omega) (by omega)).mono ?_
      rintro e x5 ⟨v1, T1, rfl, o5, iT1, hT1, b5⟩
      replace H := (H.called b5).addP o5.slB
      clear o5 b5
      go_wp2_with fail
      refine (apply_calls _ _ _ _ _ (H.getP (va) (A) (by simp)) (H.getC (vz) (Z) (by simp)) (by omega) (by omega)).mono ?_
      rintro e x6 ⟨v2, N1, rfl, o6, iN1, hN1, b6⟩
      replace H := (H.called b6).addP o6.slB
      clear o6 b6
      go_wp2_with fail
      refine (merge_calls _ _ _ _ _ _ _ (H.getP (va) (A) (by simp)) (H.getP (v1) (T1) (by simp)) (H.getP (v2) (N1) (by simp)) (by omega) (by omega) (by omega)).mono ?_
      rintro e x7 ⟨v3, k3, R3, K3, rfl, o7, q7, iR3, hR3, hK3, b7⟩
      replace H := ((H.called b7).addP o7.slB).addK q7.slB
      clear o7 q7 b7
      go_wp2_with (refine build_two rfl _ _ rfl (.slice advx N cpvx) (vz) rfl rfl (X1) (Z) (H.getC (.slice advx N cpvx) (X1) (by simp)) (H.getC (vz) (Z) (by simp)) ?_; intro x8 s8 b8; replace H := H.called b8; clear b8)
      refine (join_calls _ _ _ s8 (by simp) (by simp only [List.flatMap_cons, List.flatMap_nil, List.append_nil, List.length_append]; omega)).mono ?_
      rintro e x9 ⟨v4, J4, rfl, o9, iJ4, hJ4, b9⟩
      replace iJ4 : JoinIs (X1 ++ Z) J4 := by simpa using iJ4
      replace hJ4 : J4.length ≤ X1.length + Z.length := by simpa using hJ4
      replace H := (H.called b9).addC o9.slB
      clear o9 b9 s8
      go_wp2_with fail
      refine (apply_calls _ _ _ _ _ (H.getP (va) (A) (by simp)) (H.getC (v4) (J4) (by simp)) (by omega) (by omega)).mono ?_
      rintro e x10 ⟨v5, R5, rfl, o10, iR5, hR5, b10⟩
      replace H := (H.called b10).addP o10.slB
      clear o10 b10
      have hfin : R3 = R5 ∧ K3 = [] := by
        obtain ⟨⟨d3, h1, h2⟩, h3⟩ := iR3
        obtain ⟨h4, h5⟩ := merge_apart iT1 iN1 h1 h2 iJ4 iR5 HLA.out
        exact ⟨h4, h3.nil h5⟩
      obtain ⟨hf1, rfl⟩ := hfin
      go_wp2_with fail
      refine (sameP_calls _ _ _ _ _ (H.getP (v3) (R3) (by simp)) (H.getP (v5) (R5) (by simp)) (by omega)).mono ?_
      rintro e x11 ⟨rfl, b11⟩
      replace H := H.called b11
      clear b11
      rw [decide_eq_true (show R3 = R5 from hf1)]
      obtain ⟨adk3, cpk3, rfl, hck3, hmk3⟩ := sl_form (H.getK (k3) ([]) (by simp))
      simp only [List.length_nil] at *
      go_wp2_with fail
      go_ret
      exact ⟨rfl, H.bel⟩
    | succ g =>
      have hiI : (i : Int) < (Q : Int) := by omega
      have hi0 : (0 : Int) ≤ (i : Int) := by omega
      have hil : i < Y1.length := by have := HQ.out; omega
      obtain ⟨g1, off, rfl, hg1, hat1⟩ := HIY.out i hil
      have HP1 : Hid (X.rangeAt g1 (off + i * 26) (encC.c Y1[i])) := hat1
      have HTK : Hid (apartOf X1 (Y1.take (i + 1)) = apartOf X1 (Y1.take i) ++ if freeOf X1 Y1[i] then [Y1[i]] else []) := apart_take X1 Y1 i hil
      have hlen : (apartOf X1 (Y1.take i)).length ≤ i := by have := apart_len X1 (Y1.take i); simp at this; omega
      generalize Y1[i] = p at *
      generalize apartOf X1 (Y1.take i) = L1 at *
      clear hat1 hil
      have HLU := HB.out.2.lt
      have HLU : Hid (∀ k, u8.ownBlock = some k → X.heap.size ≤ k ∧ k < wr.heap.size) := HLU
      generalize hWW : wr = W0 at *
      clear hWW
      go_wp2_with fail
      have HF0 : Hid (true = freeOf (X1.take 0) p) := rfl
      go_loopg [10, 11] N (fun g s10 i wr => ∃ (j n : Nat) (f : Bool), j + g = N ∧ i = .int .i64 (j : Int) ∧ s10 = .bool f ∧ wr = W0.drewN n ∧ Hid (f = freeOf (X1.take j) p))
      case atStart => exact ⟨0, 0, true, by omega, rfl, rfl, rfl, HF0⟩
      case round =>
        obtain ⟨j, n, f, hjg, rfl, rfl, rfl, HF⟩ := hrel
        clear HF0
        cases gk with
        | zero =>
          have hjN : j = N := by omega
          subst hjN
          have hf := HF.out
          rw [List.take_of_length_le (by have := HN.out; omega)] at hf
          rw [← hf] at HTK
          clear hf HF
          have hbd := below_drewN HB.out.1 n
          have hod : Own encC 43 (W0.drewN n) X.heap.size u8 L1 := HB.out.2
          have hr1 : (W0.drewN n).rangeAt g1 (off + i * 26) (encC.c p) := range_same' HP1.out (hbd.block g1 hg1)
          have hsz : (W0.drewN n).heap.size = W0.heap.size := rfl
          rw [← hsz] at HLU
          clear hsz HB
          generalize W0.drewN n = W1 at *
          cases f with
          | false =>
            go_wp2_with fail
            go_roundg g
            case measure => omega
            case rel => exact ⟨i + 1, by omega, congrArg (Value.int .i64) (by omega), (show Below X.heap.size X W1 ∧ Own encC 43 W1 X.heap.size _ (apartOf X1 (Y1.take (i + 1))) from ⟨hbd, by rw [HTK.out]; simpa using hod⟩)⟩
          | true =>
            go_wp2_with (first
              | (refine load_el elC _ rfl g1 (off + i * 26) rfl rfl p hr1 ?_)
              | (refine build_el1 rowC rfl _ rfl p rfl (by decide) ?_; intro z3 o3 b3 s3 h3
                 have hb3 : Below X.heap.size X z3 := hbd.trans (b3.mono hbd.size)
                 have hs3 := hod.below b3)
              | (at_builtin; refine append_one rowC rfl _ _ rfl X.heap.size u8 L1 rfl hs3 W1.heap.size p rfl (0, 0) _ h3 (by omega) (by decide) (by have := hb3.size; omega) ?_
                 intro g5 cap5 z4 o4 gr4 nr4 lt4))
            go_roundg g
            case measure => omega
            case rel => exact ⟨i + 1, by omega, congrArg (Value.int .i64) (by omega), (show Below X.heap.size X z4 ∧ Own encC 43 z4 X.heap.size _ (apartOf X1 (Y1.take (i + 1))) from ⟨hb3.grown gr4 hb3.size (fun k hk => (HLU.out k hk).1), by rw [HTK.out]; simpa using o4⟩)⟩
        | succ g2 =>
          have hjI : (j : Int) < (N : Int) := by omega
          have hj0 : (0 : Int) ≤ (j : Int) := by omega
          have hjl : j < X1.length := by have := HN.out; omega
          obtain ⟨g3, off3, rfl, hg3, hat3⟩ := HIX.out j hjl
          have hbd := below_drewN HB.out.1 n
          have HR : Hid ((W0.drewN n).rangeAt g3 (off3 + j * 26) (bc (X1[j]).k) ∧ (W0.drewN n).rangeAt g1 (off + i * 26) (bc p.k)) := ⟨range_kC (range_same' hat3 (hbd.block g3 hg3)), range_kC (range_same' HP1.out (hbd.block g1 hg1))⟩
          have HFN : Hid (freeOf (X1.take (j + 1)) p = (f && !decide ((X1[j]).kz = p.kz))) := (show _ = _ by rw [free_take X1 p j hjl, ← HF.out])
          generalize X1[j] = s at *
          clear hat3 hjl hbd HF
          generalize hWn : W0.drewN n = Wn at *
          have HWN : Hid (W0.drewN n = Wn) := hWn
          clear hWn
          cases f with
          | false =>
            go_upto_region 13 with fail
            go_quiet (fail)
            go_wp2_with fail
            go_roundg g2
            case measure => omega
            case rel => exact ⟨j + 1, _, false, by omega, congrArg (Value.int .i64) (by omega), rfl, by rw [← HWN.out, World.drewN_drewN], (show _ = _ by rw [HFN.out]; rfl)⟩
          | true =>
            go_upto_region 13 with fail
            refine wp_region_noPanic ?_
            refine wp_region_held_drew (S := (fun yy => yy.rangeAt g3 (off3 + j * 26) (bc s.k) ∧ yy.rangeAt g1 (off + i * 26) (bc p.k))) (by kernel_rfl) HR.out (fun hHeld => ?_)
            refine wpAnyH_take (i := 0) (v := ?_) rfl (by kernel_rfl) (by kernel_rfl) (by kernel_rfl) (fun _ _ _ h => h) (Or.inl ⟨by rfl, ?_⟩) hHeld ?_
            case refine_2 => (intro w hSw; (try dsimp only at hSw); go_simp; try (with_reducible rfl))
            ((try simp only); (try simp only [List.getElem_toArray]); (try simp only [List.getElem_cons_succ]); (try simp only [List.getElem_cons_zero]); (try simp only [Act.put]); (try simp only [List.setIfInBounds_toArray]); (try simp only [List.set_cons_succ]); (try simp only [List.set_cons_zero]))
            refine wpAnyH_take (i := 1) (v := ?_) rfl (by kernel_rfl) (by kernel_rfl) (by kernel_rfl) (fun _ _ _ h => h) (Or.inl ⟨by rfl, ?_⟩) hHeld ?_
            case refine_2 => (intro w hSw; (try dsimp only at hSw); go_simp; try (with_reducible rfl))
            ((try simp only); (try simp only [List.getElem_toArray]); (try simp only [List.getElem_cons_succ]); (try simp only [List.getElem_cons_zero]); (try simp only [Act.put]); (try simp only [List.setIfInBounds_toArray]); (try simp only [List.set_cons_succ]); (try simp only [List.set_cons_zero]))
            refine wpAnyH_take (i := 2) (v := ?_) rfl (by kernel_rfl) (by kernel_rfl) (by kernel_rfl) (fun _ _ _ h => h) (Or.inl ⟨by rfl, ?_⟩) hHeld ?_
            case refine_2 => (intro w hSw; (try dsimp only at hSw); go_simp; try (with_reducible rfl))
            ((try simp only); (try simp only [List.getElem_toArray]); (try simp only [List.getElem_cons_succ]); (try simp only [List.getElem_cons_zero]); (try simp only [Act.put]); (try simp only [List.setIfInBounds_toArray]); (try simp only [List.set_cons_succ]); (try simp only [List.set_cons_zero]))
            refine wpAnyH_take (i := 3) (v := ?_) rfl (by kernel_rfl) (by kernel_rfl) (by kernel_rfl) (fun _ _ _ h => h) (Or.inl ⟨by rfl, ?_⟩) hHeld ?_
            case refine_2 => (intro w hSw; (try dsimp only at hSw); go_simp; try (with_reducible rfl))
            ((try simp only); (try simp only [List.getElem_toArray]); (try simp only [List.getElem_cons_succ]); (try simp only [List.getElem_cons_zero]); (try simp only [Act.put]); (try simp only [List.setIfInBounds_toArray]); (try simp only [List.set_cons_succ]); (try simp only [List.set_cons_zero]))
            refine wpAnyH_take (i := 4) (v := ?_) rfl (by kernel_rfl) (by kernel_rfl) (by kernel_rfl) (fun _ _ _ h => h) (Or.inl ⟨by rfl, ?_⟩) hHeld ?_
            case refine_2 => (intro w hSw; (try dsimp only at hSw); go_simp; try (with_reducible rfl))
            ((try simp only); (try simp only [List.getElem_toArray]); (try simp only [List.getElem_cons_succ]); (try simp only [List.getElem_cons_zero]); (try simp only [Act.put]); (try simp only [List.setIfInBounds_toArray]); (try simp only [List.set_cons_succ]); (try simp only [List.set_cons_zero]))
            refine wpAnyH_take (i := 5) (v := ?_) rfl (by kernel_rfl) (by kernel_rfl) (by kernel_rfl) (fun _ _ _ h => h) (Or.inl ⟨by rfl, ?_⟩) hHeld ?_
            case refine_2 => (intro w hSw; (try dsimp only at hSw); go_simp; try (with_reducible rfl))
            ((try simp only); (try simp only [List.getElem_toArray]); (try simp only [List.getElem_cons_succ]); (try simp only [List.getElem_cons_zero]); (try simp only [Act.put]); (try simp only [List.setIfInBounds_toArray]); (try simp only [List.set_cons_succ]); (try simp only [List.set_cons_zero]))
            refine wpAnyH_take (i := 6) rfl (by kernel_rfl) (by kernel_rfl) (by kernel_rfl) (fun _ _ _ h => h) (yieldsIf_load_mid (by rfl) _ _ rfl _ _ rfl _ _ (fun _ h => h.1) Try.underlying41 rfl (hInfo2 s)) hHeld ?_
            ((try simp only); (try simp only [List.getElem_toArray]); (try simp only [List.getElem_cons_succ]); (try simp only [List.getElem_cons_zero]); (try simp only [Act.put]); (try simp only [List.setIfInBounds_toArray]); (try simp only [List.set_cons_succ]); (try simp only [List.set_cons_zero]))
            refine wpAnyH_take (i := 7) (v := ?_) rfl (by kernel_rfl) (by kernel_rfl) (by kernel_rfl) (fun _ _ _ h => h) (Or.inl ⟨by rfl, ?_⟩) hHeld ?_
            case refine_2 => (intro w hSw; (try dsimp only at hSw); go_simp; try (with_reducible rfl))
            ((try simp only); (try simp only [List.getElem_toArray]); (try simp only [List.getElem_cons_succ]); (try simp only [List.getElem_cons_zero]); (try simp only [Act.put]); (try simp only [List.setIfInBounds_toArray]); (try simp only [List.set_cons_succ]); (try simp only [List.set_cons_zero]))
            refine wpAnyH_take (i := 8) (v := ?_) rfl (by kernel_rfl) (by kernel_rfl) (by kernel_rfl) (fun _ _ _ h => h) (Or.inl ⟨by rfl, ?_⟩) hHeld ?_
            case refine_2 => (intro w hSw; (try dsimp only at hSw); go_simp; try (with_reducible rfl))
            ((try simp only); (try simp only [List.getElem_toArray]); (try simp only [List.getElem_cons_succ]); (try simp only [List.getElem_cons_zero]); (try simp only [Act.put]); (try simp only [List.setIfInBounds_toArray]); (try simp only [List.set_cons_succ]); (try simp only [List.set_cons_zero]))
            refine wpAnyH_take (i := 9) (v := ?_) rfl (by kernel_rfl) (by kernel_rfl) (by kernel_rfl) (fun _ _ _ h => h) (Or.inl ⟨by rfl, ?_⟩) hHeld ?_
            case refine_2 => (intro w hSw; (try dsimp only at hSw); go_simp; try (with_reducible rfl))
            ((try simp only); (try simp only [List.getElem_toArray]); (try simp only [List.getElem_cons_succ]); (try simp only [List.getElem_cons_zero]); (try simp only [Act.put]); (try simp only [List.setIfInBounds_toArray]); (try simp only [List.set_cons_succ]); (try simp only [List.set_cons_zero]))
            refine wpAnyH_take (i := 10) (v := ?_) rfl (by kernel_rfl) (by kernel_rfl) (by kernel_rfl) (fun _ _ _ h => h) (Or.inl ⟨by rfl, ?_⟩) hHeld ?_
            case refine_2 => (intro w hSw; (try dsimp only at hSw); go_simp; try (with_reducible rfl))
            ((try simp only); (try simp only [List.getElem_toArray]); (try simp only [List.getElem_cons_succ]); (try simp only [List.getElem_cons_zero]); (try simp only [Act.put]); (try simp only [List.setIfInBounds_toArray]); (try simp only [List.set_cons_succ]); (try simp only [List.set_cons_zero]))
            refine wpAnyH_take (i := 11) rfl (by kernel_rfl) (by kernel_rfl) (by kernel_rfl) (fun _ _ _ h => h) (yieldsIf_load_mid (by rfl) _ _ rfl _ _ rfl _ _ (fun _ h => h.2) Try.underlying41 rfl (hInfo2 p)) hHeld ?_
            ((try simp only); (try simp only [List.getElem_toArray]); (try simp only [List.getElem_cons_succ]); (try simp only [List.getElem_cons_zero]); (try simp only [Act.put]); (try simp only [List.setIfInBounds_toArray]); (try simp only [List.set_cons_succ]); (try simp only [List.set_cons_zero]))
            refine wpAnyH_take (i := 12) (v := .bool (!decide (s.kz = p.kz))) rfl (by kernel_rfl) (by kernel_rfl) (by kernel_rfl) (fun _ _ _ h => h) (Or.inl ⟨by rfl, fun w _ => exec_ne_K _ _ _ rfl s.kz p.kz rfl rfl w⟩) hHeld ?_
            ((try simp only); (try simp only [List.getElem_toArray]); (try simp only [List.getElem_cons_succ]); (try simp only [List.getElem_cons_zero]); (try simp only [Act.put]); (try simp only [List.setIfInBounds_toArray]); (try simp only [List.set_cons_succ]); (try simp only [List.set_cons_zero]))
            refine wpAnyH_take (i := 13) (v := ?_) rfl (by kernel_rfl) (by kernel_rfl) (by kernel_rfl) (fun _ _ _ h => h) (Or.inl ⟨by rfl, ?_⟩) hHeld ?_
            case refine_2 => (intro w hSw; (try dsimp only at hSw); go_simp; try (with_reducible rfl))
            ((try simp only); (try simp only [List.getElem_toArray]); (try simp only [List.getElem_cons_succ]); (try simp only [List.getElem_cons_zero]); (try simp only [Act.put]); (try simp only [List.setIfInBounds_toArray]); (try simp only [List.set_cons_succ]); (try simp only [List.set_cons_zero]))
            refine wpAnyH_take (i := 14) (v := ?_) rfl (by kernel_rfl) (by kernel_rfl) (by kernel_rfl) (fun _ _ _ h => h) (Or.inl ⟨by rfl, ?_⟩) hHeld ?_
            case refine_2 => (intro w hSw; (try dsimp only at hSw); go_simp; try (with_reducible rfl))
            ((try simp only); (try simp only [List.getElem_toArray]); (try simp only [List.getElem_cons_succ]); (try simp only [List.getElem_cons_zero]); (try simp only [Act.put]); (try simp only [List.setIfInBounds_toArray]); (try simp only [List.set_cons_succ]); (try simp only [List.set_cons_zero]))
            refine wpAnyH_done (by kernel_rfl) ?_ _
            refine NoPanic.normal ?_
            go_wp2_with fail
            go_roundg g2
            case measure => omega
            case rel => exact ⟨j + 1, n + 1, !decide (s.kz = p.kz), by omega, congrArg (Value.int .i64) (by omega), rfl, by rw [← HWN.out]; rfl, (show _ = _ by rw [HFN.out]; rfl)⟩
end Go.Proofs.Ytbodbdcmkicmaaa
