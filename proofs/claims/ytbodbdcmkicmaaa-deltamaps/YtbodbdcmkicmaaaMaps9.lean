/- A map is a map: each key once, rising, with its last value. -/
import Derived.Test.YtbodbdcmkicmaaaDlN
namespace Go.Proofs.Ytbodbdcmkicmaaa
set_option linter.unusedVariables false
open Go.RowKit

set_option maxRecDepth 100000 in
set_option maxHeartbeats 16000000 in
theorem deltaMaps_walk (w : World) (u : Value) (l : List Pa) (hu : Sl encP w u l) :
    Calls Try.prog 8 #[u] w fun e w' => e = .returned (.bool true) ∧ Below w.heap.size w w' := by
  have H : Hd w w [(u, l)] [] [] := ((Hd.start w).addP hu)
  obtain ⟨adu, cpu, rfl, hcu, hmu⟩ := sl_form hu
  clear hu
  go_enter Try.func8, Try.ntmps8
  go_wp2_with fail
  refine (shown_calls _).mono ?_
  rintro e x1 ⟨rfl, b1⟩
  replace H := H.called b1
  clear b1
  go_wp2_with fail
  refine (cutP_calls _ _ _ (H.getP (.slice adu l.length cpu) (l) (by simp))).mono ?_
  rintro e x2 ⟨va, rfl, o2, b2⟩
  replace H := (H.called b2).addP o2.slB
  have hA : (cutP l).length ≤ 40 := cutP_len _
  clear o2 b2
  generalize cutP l = A at *
  go_wp2_with fail
  refine (map_calls _ _ _ (H.getP (va) (A) (by simp)) (by omega)).mono ?_
  rintro e x3 ⟨vm, M, rfl, o3, iM, hM, b3⟩
  replace H := (H.called b3).addP o3.slB
  clear o3 b3
  obtain ⟨adva, cpva, rfl, hcva, hmva⟩ := sl_form (H.getP (va) (A) (by simp))
  obtain ⟨advm, cpvm, rfl, hcvm, hmvm⟩ := sl_form (H.getP (vm) (M) (by simp))
  generalize hXX : x3 = X at *
  clear hXX
  have HIM : Hid (MapIs A M) := iM
  have HASC : Hid (Asc Pa.n M) := iM.1
  clear iM
  have HIA : Hid (∀ i (hi : i < A.length), ∃ g off, adva = some ⟨g, off, none⟩ ∧ g < X.heap.size ∧ X.rangeAt g (off + i * 25) (encP.c A[i])) := fun i hi => SlB.at (H.getP (.slice adva A.length cpva) A (by simp)) i hi
  have HI : Hid (∀ i (hi : i < M.length), ∃ g off, advm = some ⟨g, off, none⟩ ∧ g < X.heap.size ∧ X.rangeAt g (off + i * 25) (encP.c M[i])) := fun i hi => SlB.at (H.getP (.slice advm M.length cpvm) M (by simp)) i hi
  have HML : Hid (M.length ≤ A.length ∧ A.length ≤ 40) := ⟨hM, hA⟩
  have hInfo2 : ∀ p : Pa, (Try.prog.info? 41).map (·.size) = some (bc p.k).length := fun p => by rw [bc_length, p.h]; exact Try.key_info
  obtain ⟨N, hN⟩ : ∃ N : Nat, N = M.length := ⟨_, rfl⟩
  have HN : Hid (N = M.length) := hN
  have hNs : M.length = N := hN.symm
  rw [hNs] at hcvm hmvm H ⊢
  obtain ⟨Q, hQ⟩ : ∃ Q : Nat, Q = A.length := ⟨_, rfl⟩
  have HQ : Hid (Q = A.length) := hQ
  have hQs : A.length = Q := hQ.symm
  rw [hQs] at hcva hmva H ⊢
  have hN40 : N ≤ 40 := by omega
  have hQ40 : Q ≤ 40 := by omega
  have hNQ : (N : Int) ≤ (Q : Int) := by omega
  clear hN hNs hQ hQs hM hA
  go_wp2_with fail
  go_loopg [5] N (fun g i wr => ∃ j : Nat, j + g = N ∧ i = .int .i64 ((j + 1 : Nat) : Int) ∧ Hid (Below X.heap.size X wr))
  case atStart => exact ⟨0, by omega, rfl, Below.refl _ _⟩
  case round =>
    obtain ⟨j, hjg, rfl, HB⟩ := hrel
    by_cases hjN : j + 1 < N
    · cases gk with
      | zero => exact absurd hjN (by omega)
      | succ g =>
        have hltI : ((j + 1 : Nat) : Int) < (N : Int) := by omega
        have hjl : j + 1 < M.length := by have := HN.out; omega
        obtain ⟨g0, off, rfl, hg0, hat1⟩ := HI.out j (by omega)
        obtain ⟨g0', off', e0, hg0', hat2⟩ := HI.out (j + 1) hjl
        cases e0
        have HR : Hid (wr.rangeAt g0 (off + j * 25) (bc (M[j]).k) ∧ wr.rangeAt g0 (off + (j + 1) * 25) (bc (M[j + 1]).k)) := ⟨range_kP (range_same' hat1 (HB.out.block g0 hg0)), range_kP (range_same' hat2 (HB.out.block g0 hg0))⟩
        have HLS : Hid ((M[j]).kz.n < (M[j + 1]).kz.n) := List.pairwise_iff_getElem.1 HASC.out j (j + 1) (by omega) hjl (by omega)
        generalize M[j] = s at *
        generalize M[j + 1] = t at *
        obtain ⟨N1, hN1⟩ : ∃ N1, N = N1 + 1 := ⟨N - 1, by omega⟩
        subst hN1
        have hsub : ((j + 1 : Nat) : Int) - 1 = (j : Int) := by omega
        have hj0 : (0 : Int) ≤ (j : Int) := by omega
        have hj1 : (0 : Int) ≤ ((j + 1 : Nat) : Int) := by omega
        have hjI : (j : Int) < ((N1 + 1 : Nat) : Int) := by omega
        have hjw : IntKind.i64.wrap (((j + 1 : Nat) : Int) - 1) = (j : Int) := by rw [IntKind.wrap_i64]; omega
        have hj2 : (((j + 1 : Nat) : Int)).toNat = j + 1 := by omega
        have hjw2 : IntKind.i64.wrap (j : Int) = (j : Int) := by rw [IntKind.wrap_i64]; omega
        have hjI2 : (j : Int) < (N1 : Int) + 1 := by omega
        have hlt2 : (j : Int) + 1 < (N1 : Int) + 1 := by omega
        have hj02 : (0 : Int) ≤ (j : Int) + 1 := by omega
        have hjt2 : ((j : Int) + 1).toNat = j + 1 := by omega
        clear hat1 hat2 hjl hg0'
        go_upto_region 7 with fail
        refine wp_region_noPanic ?_
        refine wp_region_held_drew (S := (fun yy => yy.rangeAt g0 (off + j * 25) (bc s.k) ∧ yy.rangeAt g0 (off + (j + 1) * 25) (bc t.k))) (by kernel_rfl) HR.out (fun hHeld => ?_)
        refine wpAnyH_take (i := 0) (v := ?_) rfl (by kernel_rfl) (by kernel_rfl) (by kernel_rfl) (fun _ _ _ h => h) (Or.inl ⟨by rfl, ?_⟩) hHeld ?_
        case refine_2 => (intro w hSw; (try dsimp only at hSw); go_simp; try (with_reducible rfl))
        ((try simp only); (try simp only [List.getElem_toArray]); (try simp only [List.getElem_cons_succ]); (try simp only [List.getElem_cons_zero]); (try simp only [Act.put]); (try simp only [List.setIfInBounds_toArray]); (try simp only [List.set_cons_succ]); (try simp only [List.set_cons_zero]))
        refine wpAnyH_take (i := 1) (v := ?_) rfl (by kernel_rfl) (by kernel_rfl) (by kernel_rfl) (fun _ _ _ h => h) (Or.inl ⟨by rfl, ?_⟩) hHeld ?_
        case refine_2 => (intro w hSw; (try dsimp only at hSw); go_simp; try (with_reducible rfl))
        ((try simp only); (try simp only [List.getElem_toArray]); (try simp only [List.getElem_cons_succ]); (try simp only [List.getElem_cons_zero]); (try simp only [Act.put]); (try simp only [List.setIfInBounds_toArray]); (try simp only [List.set_cons_succ]); (try simp only [List.set_cons_zero]))
        refine wpAnyH_take (i := 2) (v := ?_) rfl (by kernel_rfl) (by kernel_rfl) (by kernel_rfl) (fun _ _ _ h => h) (Or.inl ⟨by rfl, ?_⟩) hHeld ?_
        case refine_2 => (intro w hSw; (try dsimp only at hSw); go_simp; try (with_reducible rfl))
        ((try simp only); (try simp only [List.getElem_toArray]); (try simp only [List.getElem_cons_succ]); (try simp only [List.getElem_cons_zero]); (try simp only [Act.put]); (try simp only [List.setIfInBounds_toArray]); (try simp only [List.set_cons_succ]); (try simp only [List.set_cons_zero]))
        refine wpAnyH_take (i := 3) (v := ?_) rfl (by kernel_rfl) (by kernel_rfl) (by kernel_rfl) (fun _ _ _ h => h) (Or.inl ⟨by rfl, ?_⟩) hHeld ?_
        case refine_2 => (intro w hSw; (try dsimp only at hSw); go_simp; try (with_reducible rfl))
        ((try simp only); (try simp only [List.getElem_toArray]); (try simp only [List.getElem_cons_succ]); (try simp only [List.getElem_cons_zero]); (try simp only [Act.put]); (try simp only [List.setIfInBounds_toArray]); (try simp only [List.set_cons_succ]); (try simp only [List.set_cons_zero]))
        refine wpAnyH_take (i := 4) (v := ?_) rfl (by kernel_rfl) (by kernel_rfl) (by kernel_rfl) (fun _ _ _ h => h) (Or.inl ⟨by rfl, ?_⟩) hHeld ?_
        case refine_2 => (intro w hSw; (try dsimp only at hSw); go_simp; try (with_reducible rfl))
        ((try simp only); (try simp only [List.getElem_toArray]); (try simp only [List.getElem_cons_succ]); (try simp only [List.getElem_cons_zero]); (try simp only [Act.put]); (try simp only [List.setIfInBounds_toArray]); (try simp only [List.set_cons_succ]); (try simp only [List.set_cons_zero]))
        refine wpAnyH_take (i := 5) rfl (by kernel_rfl) (by kernel_rfl) (by kernel_rfl) (fun _ _ _ h => h) (yieldsIf_load_mid (by rfl) _ _ rfl _ _ rfl _ _ (fun _ h => h.1) Try.underlying41 rfl (hInfo2 s)) hHeld ?_
        ((try simp only); (try simp only [List.getElem_toArray]); (try simp only [List.getElem_cons_succ]); (try simp only [List.getElem_cons_zero]); (try simp only [Act.put]); (try simp only [List.setIfInBounds_toArray]); (try simp only [List.set_cons_succ]); (try simp only [List.set_cons_zero]))
        refine wpAnyH_take (i := 6) (v := ?_) rfl (by kernel_rfl) (by kernel_rfl) (by kernel_rfl) (fun _ _ _ h => h) (Or.inl ⟨by rfl, ?_⟩) hHeld ?_
        case refine_2 => (intro w hSw; (try dsimp only at hSw); go_simp; try (with_reducible rfl))
        ((try simp only); (try simp only [List.getElem_toArray]); (try simp only [List.getElem_cons_succ]); (try simp only [List.getElem_cons_zero]); (try simp only [Act.put]); (try simp only [List.setIfInBounds_toArray]); (try simp only [List.set_cons_succ]); (try simp only [List.set_cons_zero]))
        refine wpAnyH_take (i := 7) (v := ?_) rfl (by kernel_rfl) (by kernel_rfl) (by kernel_rfl) (fun _ _ _ h => h) (Or.inl ⟨by rfl, ?_⟩) hHeld ?_
        case refine_2 => (intro w hSw; (try dsimp only at hSw); go_simp; try (with_reducible rfl))
        ((try simp only); (try simp only [List.getElem_toArray]); (try simp only [List.getElem_cons_succ]); (try simp only [List.getElem_cons_zero]); (try simp only [Act.put]); (try simp only [List.setIfInBounds_toArray]); (try simp only [List.set_cons_succ]); (try simp only [List.set_cons_zero]))
        refine wpAnyH_take (i := 8) (v := ?_) rfl (by kernel_rfl) (by kernel_rfl) (by kernel_rfl) (fun _ _ _ h => h) (Or.inl ⟨by rfl, ?_⟩) hHeld ?_
        case refine_2 => (intro w hSw; (try dsimp only at hSw); go_simp; try (with_reducible rfl))
        ((try simp only); (try simp only [List.getElem_toArray]); (try simp only [List.getElem_cons_succ]); (try simp only [List.getElem_cons_zero]); (try simp only [Act.put]); (try simp only [List.setIfInBounds_toArray]); (try simp only [List.set_cons_succ]); (try simp only [List.set_cons_zero]))
        refine wpAnyH_take (i := 9) (v := ?_) rfl (by kernel_rfl) (by kernel_rfl) (by kernel_rfl) (fun _ _ _ h => h) (Or.inl ⟨by rfl, ?_⟩) hHeld ?_
        case refine_2 => (intro w hSw; (try dsimp only at hSw); go_simp; try (with_reducible rfl))
        ((try simp only); (try simp only [List.getElem_toArray]); (try simp only [List.getElem_cons_succ]); (try simp only [List.getElem_cons_zero]); (try simp only [Act.put]); (try simp only [List.setIfInBounds_toArray]); (try simp only [List.set_cons_succ]); (try simp only [List.set_cons_zero]))
        refine wpAnyH_take (i := 10) rfl (by kernel_rfl) (by kernel_rfl) (by kernel_rfl) (fun _ _ _ h => h) (yieldsIf_load_mid (by rfl) _ _ rfl _ _ rfl _ _ (fun _ h => h.2) Try.underlying41 rfl (hInfo2 t)) hHeld ?_
        ((try simp only); (try simp only [List.getElem_toArray]); (try simp only [List.getElem_cons_succ]); (try simp only [List.getElem_cons_zero]); (try simp only [Act.put]); (try simp only [List.setIfInBounds_toArray]); (try simp only [List.set_cons_succ]); (try simp only [List.set_cons_zero]))
        have HB0 : Hid (Below X.heap.size X wr.drew ∧ wr.drew.rangeAt g0 (off + j * 25) (bc s.k) ∧ wr.drew.rangeAt g0 (off + (j + 1) * 25) (bc t.k)) := ⟨HB.out.drew, HR.out⟩
        have hLS := lessK_calls wr.drew s.kz t.kz
        rw [decide_eq_true HLS.out] at hLS
        clear HB HR
        generalize wr.drew = y0 at *
        refine wpAnyH_ready (rs := [11]) (by kernel_rfl) (by simp) (AllReadyH.cons rfl (fun K hK => ?_) AllReadyH.nil)
        rw [if_pos (by rfl)]
        ((try simp only); (try simp only [List.getElem_toArray]); (try simp only [List.getElem_cons_succ]); (try simp only [List.getElem_cons_zero]); (try simp only [Act.put]); (try simp only [List.setIfInBounds_toArray]); (try simp only [List.set_cons_succ]); (try simp only [List.set_cons_zero]))
        go_simp
        refine hLS.mono ?_
        rintro e y1 ⟨rfl, c1⟩
        have hg1 : g0 < y0.heap.size := Nat.lt_of_lt_of_le hg0 HB0.out.1.size
        have HB1 : Hid (Below X.heap.size X y1) := HB0.out.1.trans (c1.mono HB0.out.1.size)
        refine hK.out _ _ ⟨range_same' HB0.out.2.1 (c1.block g0 hg1), range_same' HB0.out.2.2 (c1.block g0 hg1)⟩ (fun hHeld => ?_)
        clear hK K c1 HB0 hg1 hLS
        ((try simp only); (try simp only [List.getElem_toArray]); (try simp only [List.getElem_cons_succ]); (try simp only [List.getElem_cons_zero]); (try simp only [Act.put]); (try simp only [List.setIfInBounds_toArray]); (try simp only [List.set_cons_succ]); (try simp only [List.set_cons_zero]))
        refine wpAnyH_take (i := 12) (v := ?_) rfl (by kernel_rfl) (by kernel_rfl) (by kernel_rfl) (fun _ _ _ h => h) (Or.inl ⟨by rfl, ?_⟩) hHeld ?_
        case refine_2 => (intro w hSw; (try dsimp only at hSw); go_simp; try (with_reducible rfl))
        ((try simp only); (try simp only [List.getElem_toArray]); (try simp only [List.getElem_cons_succ]); (try simp only [List.getElem_cons_zero]); (try simp only [Act.put]); (try simp only [List.setIfInBounds_toArray]); (try simp only [List.set_cons_succ]); (try simp only [List.set_cons_zero]))
        refine wpAnyH_done (by kernel_rfl) ?_ _
        refine NoPanic.normal ?_
        go_wp2_with fail
        go_roundg g
        case measure => omega
        case rel => exact ⟨j + 1, by omega, congrArg (Value.int .i64) (by omega), HB1⟩
    · have hnl : ¬ ((j + 1 : Nat) : Int) < (N : Int) := by omega
      replace H := H.called HB.out
      clear HI HASC hInfo2 hjg
      have HIB : Hid (∀ i (hi : i < A.length), ∃ g off, adva = some ⟨g, off, none⟩ ∧ g < wr.heap.size ∧ wr.rangeAt g (off + i * 25) (encP.c A[i])) := fun i hi => SlB.at (H.getP (.slice adva Q cpva) A (by simp)) i hi
      have hInfo2 : ∀ p : Pa, (Try.prog.info? 41).map (·.size) = some (bc p.k).length := fun p => by rw [bc_length, p.h]; exact Try.key_info
      clear HIA HB
      generalize hYY : wr = Y at *
      clear hYY
      go_wp2_with fail
      go_loopg [6] Q (fun g i wr => ∃ j : Nat, j + g = Q ∧ i = .int .i64 (j : Int) ∧ Hid (Below Y.heap.size Y wr))
      case atStart => exact ⟨0, by omega, rfl, Below.refl _ _⟩
      case round =>
        obtain ⟨i, hig, rfl, HB⟩ := hrel
        cases gk with
        | zero =>
          have hiQ : i = Q := by omega
          subst hiQ
          replace H := H.called HB.out
          have hleq : (N : Int) ≤ (i : Int) := by omega
          go_wp2_with fail
          refine (map_calls _ _ _ (H.getP (.slice advm N cpvm) M (by simp)) (by have := HN.out; omega)).mono ?_
          rintro e z1 ⟨v5, M5, rfl, o5, i5, h5, b5⟩
          replace H := (H.called b5).addP o5.slB
          clear o5 b5
          go_wp2_with fail
          refine (sameP_calls _ _ _ _ _ (H.getP v5 M5 (by simp)) (H.getP (.slice advm N cpvm) M (by simp)) (by have := HN.out; omega)).mono ?_
          rintro e z2 ⟨rfl, b6⟩
          replace H := H.called b6
          clear b6
          rw [decide_eq_true (show M5 = M from map_again HIM.out i5)]
          go_wp2_with fail
          go_ret
          exact ⟨rfl, H.bel⟩
        | succ g =>
          have hiI : (i : Int) < (Q : Int) := by omega
          have hi0 : (0 : Int) ≤ (i : Int) := by omega
          have hil : i < A.length := by have := HQ.out; omega
          obtain ⟨g1, off, rfl, hg1, hat1⟩ := HIB.out i hil
          have HP1 : Hid (Y.rangeAt g1 (off + i * 25) (encP.c A[i])) := hat1
          have cv := range_vP (range_same' hat1 (HB.out.block g1 hg1))
          have HX0 : Hid (LastAt A (A[i]).n i i A[i] A[i]) := .inl ⟨rfl, rfl⟩
          have HEND : Hid (∀ q, LastAt A (A[i]).n i A.length A[i] q → lastA Pa.n A (A[i]).n = some q) := fun q h => h.done hil
          have HSELF : Hid (∀ j (hj : j < A.length), j = i → (A[j]).n = (A[i]).n) := fun j hj e => by subst e; rfl
          generalize A[i] = p at *
          clear hat1
          go_wp2_with fail
          obtain ⟨D0, hD0⟩ : ∃ D0, i + D0 = Q := ⟨Q - i, by omega⟩
          go_loopg [7, 8] D0 (fun g s7 s8 wr => ∃ (j : Nat) (q : Pa), j + g = Q ∧ i ≤ j ∧ s8 = .int .i64 (j : Int) ∧ s7 = .string (str q.v) ∧ Hid (LastAt A p.n i j p q) ∧ Hid (Below Y.heap.size Y wr))
          case atStart => exact ⟨i, p, by omega, Nat.le_refl _, rfl, rfl, HX0, HB⟩
          case round =>
            obtain ⟨j, q, hjg2, hij, rfl, rfl, HLA, HB2⟩ := hrel
            cases gk with
            | zero =>
              have hjQ : j = Q := by omega
              subst hjQ
              have hlq := HEND.out q (by rw [← HQ.out]; exact HLA.out)
              have hgot : gotV M p.kz = q.v ∧ gotB M p.kz = true := by unfold gotV gotB; rw [show p.kz.n = p.n from rfl, HIM.out.2, hlq]; exact ⟨rfl, rfl⟩
              replace H := H.called HB2.out
              have hG := get_calls wr _ M p.kz (H.getP (.slice advm N cpvm) M (by simp)) HIM.out.1 (by have := HN.out; omega)
              rw [hgot.1, hgot.2] at hG
              have hr1 := range_kP (range_same' HP1.out (HB2.out.block g1 hg1))
              clear hlq hgot HLA cv HEND
              go_wp2_with (first
                | (refine load_part _ rfl g1 (off + i * 25) rfl rfl _ p.h hr1 ?_)
                | (go_at_call 26; refine hG.mono ?_; clear hG; rintro e z1 ⟨rfl, b5⟩))
              go_roundg g
              case measure => omega
              case rel => exact ⟨i + 1, by omega, congrArg (Value.int .i64) (by omega), (show Below Y.heap.size Y z1 from HB2.out.trans (b5.mono HB2.out.size))⟩
            | succ g2 =>
              have hjI : (j : Int) < (Q : Int) := by omega
              have hj0 : (0 : Int) ≤ (j : Int) := by omega
              have hjl : j < A.length := by have := HQ.out; omega
              obtain ⟨g1', off', e0, _, hat2⟩ := HIB.out j hjl
              cases e0
              have HR : Hid (wr.rangeAt g1 (off + j * 25) (bc (A[j]).k) ∧ wr.rangeAt g1 (off + i * 25) (bc p.k)) := ⟨range_kP (range_same' hat2 (HB2.out.block g1 hg1)), range_kP (range_same' HP1.out (HB2.out.block g1 hg1))⟩
              have cw := range_vP (range_same' hat2 (HB2.out.block g1 hg1))
              have HSM : Hid ((A[j]).n = p.n → LastAt A p.n i (j + 1) p A[j]) := fun e => HLA.out.same hij hjl e
              have HOT : Hid (¬ (A[j]).n = p.n → LastAt A p.n i (j + 1) p q) := fun e => HLA.out.other hij hjl e (HSELF.out j hjl)
              have hnk : ∀ z : Pa, z.n = z.kz.n := fun _ => rfl
              rw [hnk A[j]] at HSM HOT
              generalize A[j] = s at *
              clear hat2 hjl hnk HLA cv
              go_upto_region 16 with fail
              refine wp_region_noPanic ?_
              refine wp_region_held_drew (S := (fun yy => yy.rangeAt g1 (off + j * 25) (bc s.k) ∧ yy.rangeAt g1 (off + i * 25) (bc p.k))) (by kernel_rfl) HR.out (fun hHeld => ?_)
              refine wpAnyH_take (i := 0) (v := ?_) rfl (by kernel_rfl) (by kernel_rfl) (by kernel_rfl) (fun _ _ _ h => h) (Or.inl ⟨by rfl, ?_⟩) hHeld ?_
              case refine_2 => (intro w hSw; (try dsimp only at hSw); go_simp; try (with_reducible rfl))
              ((try simp only); (try simp only [List.getElem_toArray]); (try simp only [List.getElem_cons_succ]); (try simp only [List.getElem_cons_zero]); (try simp only [Act.put]); (try simp only [List.setIfInBounds_toArray]); (try simp only [List.set_cons_succ]); (try simp only [List.set_cons_zero]))
              refine wpAnyH_take (i := 1) (v := ?_) rfl (by kernel_rfl) (by kernel_rfl) (by kernel_rfl) (fun _ _ _ h => h) (Or.inl ⟨by rfl, ?_⟩) hHeld ?_
              case refine_2 => (intro w hSw; (try dsimp only at hSw); go_simp; try (with_reducible rfl))
              ((try simp only); (try simp only [List.getElem_toArray]); (try simp only [List.getElem_cons_succ]); (try simp only [List.getElem_cons_zero]); (try simp only [Act.put]); (try simp only [List.setIfInBounds_toArray]); (try simp only [List.set_cons_succ]); (try simp only [List.set_cons_zero]))
              refine wpAnyH_take (i := 2) (v := ?_) rfl (by kernel_rfl) (by kernel_rfl) (by kernel_rfl) (fun _ _ _ h => h) (Or.inl ⟨by rfl, ?_⟩) hHeld ?_
              case refine_2 => (intro w hSw; (try dsimp only at hSw); go_simp; try (with_reducible rfl))
              ((try simp only); (try simp only [List.getElem_toArray]); (try simp only [List.getElem_cons_succ]); (try simp only [List.getElem_cons_zero]); (try simp only [Act.put]); (try simp only [List.setIfInBounds_toArray]); (try simp only [List.set_cons_succ]); (try simp only [List.set_cons_zero]))
              refine wpAnyH_take (i := 3) (v := ?_) rfl (by kernel_rfl) (by kernel_rfl) (by kernel_rfl) (fun _ _ _ h => h) (Or.inl ⟨by rfl, ?_⟩) hHeld ?_
              case refine_2 => (intro w hSw; (try dsimp only at hSw); go_simp; try (with_reducible rfl))
              ((try simp only); (try simp only [List.getElem_toArray]); (try simp only [List.getElem_cons_succ]); (try simp only [List.getElem_cons_zero]); (try simp only [Act.put]); (try simp only [List.setIfInBounds_toArray]); (try simp only [List.set_cons_succ]); (try simp only [List.set_cons_zero]))
              refine wpAnyH_take (i := 4) rfl (by kernel_rfl) (by kernel_rfl) (by kernel_rfl) (fun _ _ _ h => h) (yieldsIf_load_mid (by rfl) _ _ rfl _ _ rfl _ _ (fun _ h => h.1) Try.underlying41 rfl (hInfo2 s)) hHeld ?_
              ((try simp only); (try simp only [List.getElem_toArray]); (try simp only [List.getElem_cons_succ]); (try simp only [List.getElem_cons_zero]); (try simp only [Act.put]); (try simp only [List.setIfInBounds_toArray]); (try simp only [List.set_cons_succ]); (try simp only [List.set_cons_zero]))
              refine wpAnyH_take (i := 5) (v := ?_) rfl (by kernel_rfl) (by kernel_rfl) (by kernel_rfl) (fun _ _ _ h => h) (Or.inl ⟨by rfl, ?_⟩) hHeld ?_
              case refine_2 => (intro w hSw; (try dsimp only at hSw); go_simp; try (with_reducible rfl))
              ((try simp only); (try simp only [List.getElem_toArray]); (try simp only [List.getElem_cons_succ]); (try simp only [List.getElem_cons_zero]); (try simp only [Act.put]); (try simp only [List.setIfInBounds_toArray]); (try simp only [List.set_cons_succ]); (try simp only [List.set_cons_zero]))
              refine wpAnyH_take (i := 6) (v := ?_) rfl (by kernel_rfl) (by kernel_rfl) (by kernel_rfl) (fun _ _ _ h => h) (Or.inl ⟨by rfl, ?_⟩) hHeld ?_
              case refine_2 => (intro w hSw; (try dsimp only at hSw); go_simp; try (with_reducible rfl))
              ((try simp only); (try simp only [List.getElem_toArray]); (try simp only [List.getElem_cons_succ]); (try simp only [List.getElem_cons_zero]); (try simp only [Act.put]); (try simp only [List.setIfInBounds_toArray]); (try simp only [List.set_cons_succ]); (try simp only [List.set_cons_zero]))
              refine wpAnyH_take (i := 7) (v := ?_) rfl (by kernel_rfl) (by kernel_rfl) (by kernel_rfl) (fun _ _ _ h => h) (Or.inl ⟨by rfl, ?_⟩) hHeld ?_
              case refine_2 => (intro w hSw; (try dsimp only at hSw); go_simp; try (with_reducible rfl))
              ((try simp only); (try simp only [List.getElem_toArray]); (try simp only [List.getElem_cons_succ]); (try simp only [List.getElem_cons_zero]); (try simp only [Act.put]); (try simp only [List.setIfInBounds_toArray]); (try simp only [List.set_cons_succ]); (try simp only [List.set_cons_zero]))
              refine wpAnyH_take (i := 8) (v := ?_) rfl (by kernel_rfl) (by kernel_rfl) (by kernel_rfl) (fun _ _ _ h => h) (Or.inl ⟨by rfl, ?_⟩) hHeld ?_
              case refine_2 => (intro w hSw; (try dsimp only at hSw); go_simp; try (with_reducible rfl))
              ((try simp only); (try simp only [List.getElem_toArray]); (try simp only [List.getElem_cons_succ]); (try simp only [List.getElem_cons_zero]); (try simp only [Act.put]); (try simp only [List.setIfInBounds_toArray]); (try simp only [List.set_cons_succ]); (try simp only [List.set_cons_zero]))
              refine wpAnyH_take (i := 9) rfl (by kernel_rfl) (by kernel_rfl) (by kernel_rfl) (fun _ _ _ h => h) (yieldsIf_load_mid (by rfl) _ _ rfl _ _ rfl _ _ (fun _ h => h.2) Try.underlying41 rfl (hInfo2 p)) hHeld ?_
              ((try simp only); (try simp only [List.getElem_toArray]); (try simp only [List.getElem_cons_succ]); (try simp only [List.getElem_cons_zero]); (try simp only [Act.put]); (try simp only [List.setIfInBounds_toArray]); (try simp only [List.set_cons_succ]); (try simp only [List.set_cons_zero]))
              refine wpAnyH_take (i := 10) (v := .bool (decide (s.kz = p.kz))) rfl (by kernel_rfl) (by kernel_rfl) (by kernel_rfl) (fun _ _ _ h => h) (Or.inl ⟨by rfl, fun w _ => exec_eq_K _ _ _ rfl s.kz p.kz rfl rfl w⟩) hHeld ?_
              ((try simp only); (try simp only [List.getElem_toArray]); (try simp only [List.getElem_cons_succ]); (try simp only [List.getElem_cons_zero]); (try simp only [Act.put]); (try simp only [List.setIfInBounds_toArray]); (try simp only [List.set_cons_succ]); (try simp only [List.set_cons_zero]))
              refine wpAnyH_done (by kernel_rfl) ?_ _
              refine NoPanic.normal ?_
              have cw2 : wr.drew.cell? ⟨g1, off + j * 25 + 24, none⟩ = some (.string (str s.v)) := cw
              have HB3 : Hid (Below Y.heap.size Y wr.drew) := HB2.out.drew
              clear cw HR HB2
              generalize wr.drew = y0 at *
              by_cases hsp : s.kz = p.kz
              · have hd : decide (s.kz = p.kz) = true := decide_eq_true hsp
                have HN2 : Hid (LastAt A p.n i (j + 1) p s) := HSM.out (by rw [hsp]; rfl)
                clear hsp HSM HOT
                rw [hd]
                go_wp2_with fail
                go_roundg g2
                case measure => omega
                case rel => exact ⟨j + 1, s, by omega, by omega, congrArg (Value.int .i64) (by omega), rfl, HN2, HB3⟩
              · have hd : decide (s.kz = p.kz) = false := decide_eq_false hsp
                have HN2 : Hid (LastAt A p.n i (j + 1) p q) := HOT.out (fun e => hsp (Kz.same e))
                clear hsp HSM HOT
                rw [hd]
                go_wp2_with fail
                go_roundg g2
                case measure => omega
                case rel => exact ⟨j + 1, q, by omega, by omega, congrArg (Value.int .i64) (by omega), rfl, HN2, HB3⟩
end Go.Proofs.Ytbodbdcmkicmaaa
