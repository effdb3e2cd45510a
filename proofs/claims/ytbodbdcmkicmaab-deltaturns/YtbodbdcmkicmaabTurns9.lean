/- A delta is turned round by the other one. -/
import Derived.Test.YtbodbdcmkicmaabDlN
namespace Go.Proofs.Ytbodbdcmkicmaab
set_option linter.unusedVariables false
open Go.RowKit

set_option maxRecDepth 100000 in
set_option maxHeartbeats 16000000 in
theorem deltaTurns_walk (w : World) (u : Value) (l : List Pa) (hu : Sl encP w u l) (v : Value) (c : List Pa) (hv : Sl encP w v c) (t : Value) (d : List Pa) (ht : Sl encP w t d) :
    Calls Try.prog 3 #[u, v, t] w fun e w' => e = .returned (.bool true) ∧ Below w.heap.size w w' := by
  have H : Hd w w [(u, l), (v, c), (t, d)] [] [] := ((((Hd.start w).addP ht).addP hv).addP hu)
  obtain ⟨adu, cpu, rfl, hcu, hmu⟩ := sl_form hu
  clear hu
  obtain ⟨adv, cpv, rfl, hcv, hmv⟩ := sl_form hv
  clear hv
  obtain ⟨adt, cpt, rfl, hct, hmt⟩ := sl_form ht
  clear ht
  go_enter Try.func3, Try.ntmps3
  go_wp2_with fail
  refine (shown_calls _).mono ?_
  rintro e x1 ⟨rfl, b1⟩
  replace H := H.called b1
  clear b1
  go_wp2_with fail
  refine (cutP_calls _ _ _ (H.getP (.slice adu l.length cpu) (l) (by simp))).mono ?_
  rintro e x2 ⟨va, rfl, o2, b2⟩
  replace H := (H.called b2).addP o2.slB
  have hA : (cutP l).length ≤ 40 := cutP_len _
  clear o2 b2
  generalize cutP l = A at *
  go_wp2_with fail
  refine (cutP_calls _ _ _ (H.getP (.slice adv c.length cpv) (c) (by simp))).mono ?_
  rintro e x3 ⟨vb, rfl, o3, b3⟩
  replace H := (H.called b3).addP o3.slB
  have hB : (cutP c).length ≤ 40 := cutP_len _
  clear o3 b3
  generalize cutP c = B at *
  go_wp2_with fail
  refine (cutP_calls _ _ _ (H.getP (.slice adt d.length cpt) (d) (by simp))).mono ?_
  rintro e x4 ⟨vc, rfl, o4, b4⟩
  replace H := (H.called b4).addP o4.slB
  have hC : (cutP d).length ≤ 40 := cutP_len _
  clear o4 b4
  generalize cutP d = C at *
  go_wp2_with fail
  refine (diff_calls _ _ _ _ _ (H.getP (va) (A) (by simp)) (H.getP (vb) (B) (by simp)) (by omega) (by omega)).mono ?_
  rintro e x5 ⟨vd, D, rfl, o5, iD, hD, b5⟩
  replace H := (H.called b5).addC o5.slB
  clear o5 b5
  go_wp2_with fail
  refine (diff_calls _ _ _ _ _ (H.getP (vb) (B) (by simp)) (H.getP (va) (A) (by simp)) (by omega) (by omega)).mono ?_
  rintro e x6 ⟨ve, E, rfl, o6, iE, hE, b6⟩
  replace H := (H.called b6).addC o6.slB
  clear o6 b6
  go_wp2_with fail
  refine (apply_calls _ _ _ _ _ (H.getP (va) (A) (by simp)) (H.getC (vd) (D) (by simp)) (by omega) (by omega)).mono ?_
  rintro e x7 ⟨v1, M1, rfl, o7, iM1, hM1, b7⟩
  replace H := (H.called b7).addP o7.slB
  clear o7 b7
  go_wp2_with fail
  refine (apply_calls _ _ _ _ _ (H.getP (v1) (M1) (by simp)) (H.getC (ve) (E) (by simp)) (by omega) (by omega)).mono ?_
  rintro e x8 ⟨v2, M2, rfl, o8, iM2, hM2, b8⟩
  replace H := (H.called b8).addP o8.slB
  clear o8 b8
  go_wp2_with fail
  refine (map_calls _ _ _ (H.getP (va) (A) (by simp)) (by omega)).mono ?_
  rintro e x9 ⟨v3, M3, rfl, o9, iM3, hM3, b9⟩
  replace H := (H.called b9).addP o9.slB
  clear o9 b9
  go_wp2_with fail
  refine (sameP_calls _ _ _ _ _ (H.getP (v2) (M2) (by simp)) (H.getP (v3) (M3) (by simp)) (by omega)).mono ?_
  rintro e x10 ⟨rfl, b10⟩
  replace H := H.called b10
  clear b10
  rw [decide_eq_true (show M2 = M3 from turn_back iD iE iM1 iM2 iM3)]
  obtain ⟨advd, cpvd, rfl, hcvd, hmvd⟩ := sl_form (H.getC (vd) (D) (by simp))
  obtain ⟨adve, cpve, rfl, hcve, hmve⟩ := sl_form (H.getC (ve) (E) (by simp))
  generalize hXX : x10 = X at *
  clear hXX
  have hkeys := turn_keys iD iE
  have hlen : E.length = D.length := by have := congrArg List.length hkeys; simp at this; omega
  have HK : Hid (∀ j (h1 : j < D.length) (h2 : j < E.length), (D[j]).kz = (E[j]).kz) := fun j h1 h2 => by
    have := congrArg (fun q => q[j]?) hkeys
    simp only [List.getElem?_map, List.getElem?_eq_getElem h1, List.getElem?_eq_getElem h2, Option.map_some, Option.some.injEq] at this
    exact this
  have HID : Hid (DiffIs A B D) := iD
  clear iD iE iM1 iM2 iM3 hM1 hM2 hM3 hkeys
  have HID1 : Hid (∀ i (hi : i < D.length), ∃ g off, advd = some ⟨g, off, none⟩ ∧ g < X.heap.size ∧ X.rangeAt g (off + i * 26) (encC.c D[i])) := fun i hi => SlB.at (H.getC (.slice advd D.length cpvd) D (by simp)) i hi
  have HIE1 : Hid (∀ i (hi : i < E.length), ∃ g off, adve = some ⟨g, off, none⟩ ∧ g < X.heap.size ∧ X.rangeAt g (off + i * 26) (encC.c E[i])) := fun i hi => SlB.at (H.getC (.slice adve E.length cpve) E (by simp)) i hi
  have hInfo2 : ∀ p : Ch, (Try.prog.info? 30).map (·.size) = some (bc p.k).length := fun p => by rw [bc_length, p.h]; exact Try.key_info
  obtain ⟨N, hN⟩ : ∃ N : Nat, D.length = N := ⟨_, rfl⟩
  have hE2 : E.length = N := by omega
  have HN : Hid (D.length = N ∧ E.length = N) := ⟨hN, hE2⟩
  rw [hN] at hcvd hmvd hD H ⊢
  rw [hE2] at hcve hmve H ⊢
  clear hN hE2 hlen hE
  go_wp2_with fail
  go_loopg [11] N (fun g i wr => ∃ j n : Nat, j + g = N ∧ i = .int .i64 (j : Int) ∧ wr = X.drewN n)
  case atStart => exact ⟨0, 0, by omega, rfl, rfl⟩
  case round =>
    obtain ⟨j, n, hjg, rfl, rfl⟩ := hrel
    cases gk with
    | zero =>
      have hjN : j = N := by omega
      subst hjN
      replace H := H.called (below_drewN (Below.refl _ _) n)
      have hDl : D.length ≤ 80 := by have := HN.out; omega
      clear HID1 HIE1 HK hInfo2
      generalize X.drewN n = Y at *
      go_wp2_with fail
      refine (diff_calls _ _ _ _ _ (H.getP (vb) (B) (by simp)) (H.getP (vc) (C) (by simp)) (by omega) (by omega)).mono ?_
      rintro e x11 ⟨v6, F6, rfl, o11, iF6, hF6, b11⟩
      replace H := (H.called b11).addC o11.slB
      clear o11 b11
      go_wp2_with (refine build_two rfl _ _ rfl (.slice advd j cpvd) (v6) rfl rfl (D) (F6) (H.getC (.slice advd j cpvd) (D) (by simp)) (H.getC (v6) (F6) (by simp)) ?_; intro x12 s12 b12; replace H := H.called b12; clear b12)
      refine (join_calls _ _ _ s12 (by simp) (by simp only [List.flatMap_cons, List.flatMap_nil, List.append_nil, List.length_append]; omega)).mono ?_
      rintro e x13 ⟨v7, J7, rfl, o13, iJ7, hJ7, b13⟩
      replace iJ7 : JoinIs (D ++ F6) J7 := by simpa using iJ7
      replace hJ7 : J7.length ≤ D.length + F6.length := by simpa using hJ7
      replace H := (H.called b13).addC o13.slB
      clear o13 b13 s12
      go_wp2_with fail
      refine (apply_calls _ _ _ _ _ (H.getP (va) (A) (by simp)) (H.getC (v7) (J7) (by simp)) (by omega) (by omega)).mono ?_
      rintro e x14 ⟨v8, M8, rfl, o14, iM8, hM8, b14⟩
      replace H := (H.called b14).addP o14.slB
      clear o14 b14
      go_wp2_with fail
      refine (map_calls _ _ _ (H.getP (vc) (C) (by simp)) (by omega)).mono ?_
      rintro e x15 ⟨v9, M9, rfl, o15, iM9, hM9, b15⟩
      replace H := (H.called b15).addP o15.slB
      clear o15 b15
      go_wp2_with fail
      refine (sameP_calls _ _ _ _ _ (H.getP (v8) (M8) (by simp)) (H.getP (v9) (M9) (by simp)) (by omega)).mono ?_
      rintro e x16 ⟨rfl, b16⟩
      replace H := H.called b16
      clear b16
      rw [decide_eq_true (show M8 = M9 from turn_way HID.out iF6 iJ7 iM8 iM9)]
      go_wp2_with fail
      go_ret
      exact ⟨rfl, H.bel⟩
    | succ g =>
      have hjI : (j : Int) < (N : Int) := by omega
      have hj0 : (0 : Int) ≤ (j : Int) := by omega
      have hjd : j < D.length := by have := HN.out; omega
      have hje : j < E.length := by have := HN.out; omega
      obtain ⟨g3, off3, rfl, hg3, hat3⟩ := HID1.out j hjd
      obtain ⟨g1, off, rfl, hg1, hat1⟩ := HIE1.out j hje
      have HEQ : Hid ((D[j]).kz = (E[j]).kz) := HK.out j hjd hje
      have HR : Hid ((X.drewN n).rangeAt g3 (off3 + j * 26) (bc (D[j]).k) ∧ (X.drewN n).rangeAt g1 (off + j * 26) (bc (E[j]).k)) := ⟨range_kC hat3, range_kC hat1⟩
      generalize D[j] = s at *
      generalize E[j] = p at *
      clear hat3 hat1 hjd hje
      generalize hWn : X.drewN n = Wn at *
      have HWN : Hid (X.drewN n = Wn) := hWn
      clear hWn
      go_upto_region 13 with fail
      refine wp_region_noPanic ?_
      refine wp_region_held_drew (S := (fun yy => yy.rangeAt g3 (off3 + j * 26) (bc s.k) ∧ yy.rangeAt g1 (off + j * 26) (bc p.k))) (by kernel_rfl) HR.out (fun hHeld => ?_)
      refine wpAnyH_take (i := 0) (v := ?_) rfl (by kernel_rfl) (by kernel_rfl) (by kernel_rfl) (fun _ _ _ h => h) (Or.inl ⟨by rfl, ?_⟩) hHeld ?_
      case refine_2 => (intro w hSw; (try dsimp only at hSw); go_simp; try (with_reducible rfl))
      ((try simp only); (try simp only [List.getElem_toArray]); (try simp only [List.getElem_cons_succ]); (try simp only [List.getElem_cons_zero]); (try simp only [Act.put]); (try simp only [List.setIfInBounds_toArray]); (try simp only [List.set_cons_succ]); (try simp only [List.set_cons_zero]))
      refine wpAnyH_take (i := 1) (v := ?_) rfl (by kernel_rfl) (by kernel_rfl) (by kernel_rfl) (fun _ _ _ h => h) (Or.inl ⟨by rfl, ?_⟩) hHeld ?_
      case refine_2 => (intro w hSw; (try dsimp only at hSw); go_simp; try (with_reducible rfl))
      ((try simp only); (try simp only [List.getElem_toArray]); (try simp only [List.getElem_cons_succ]); (try simp only [List.getElem_cons_zero]); (try simp only [Act.put]); (try simp only [List.setIfInBounds_toArray]); (try simp only [List.set_cons_succ]); (try simp only [List.set_cons_zero]))
      refine wpAnyH_take (i := 2) (v := ?_) rfl (by kernel_rfl) (by kernel_rfl) (by kernel_rfl) (fun _ _ _ h => h) (Or.inl ⟨by rfl, ?_⟩) hHeld ?_
      case refine_2 => (intro w hSw; (try dsimp only at hSw); go_simp; try (with_reducible rfl))
      ((try simp only); (try simp only [List.getElem_toArray]); (try simp only [List.getElem_cons_succ]); (try simp only [List.getElem_cons_zero]); (try simp only [Act.put]); (try simp only [List.setIfInBounds_toArray]); (try simp only [List.set_cons_succ]); (try simp only [List.set_cons_zero]))
      refine wpAnyH_take (i := 3) (v := ?_) rfl (by kernel_rfl) (by kernel_rfl) (by kernel_rfl) (fun _ _ _ h => h) (Or.inl ⟨by rfl, ?_⟩) hHeld ?_
      case refine_2 => (intro w hSw; (try dsimp only at hSw); go_simp; try (with_reducible rfl))
      ((try simp only); (try simp only [List.getElem_toArray]); (try simp only [List.getElem_cons_succ]); (try simp only [List.getElem_cons_zero]); (try simp only [Act.put]); (try simp only [List.setIfInBounds_toArray]); (try simp only [List.set_cons_succ]); (try simp only [List.set_cons_zero]))
      refine wpAnyH_take (i := 4) rfl (by kernel_rfl) (by kernel_rfl) (by kernel_rfl) (fun _ _ _ h => h) (yieldsIf_load_mid (by rfl) _ _ rfl _ _ rfl _ _ (fun _ h => h.1) Try.underlying30 rfl (hInfo2 s)) hHeld ?_
      ((try simp only); (try simp only [List.getElem_toArray]); (try simp only [List.getElem_cons_succ]); (try simp only [List.getElem_cons_zero]); (try simp only [Act.put]); (try simp only [List.setIfInBounds_toArray]); (try simp only [List.set_cons_succ]); (try simp only [List.set_cons_zero]))
      refine wpAnyH_take (i := 5) (v := ?_) rfl (by kernel_rfl) (by kernel_rfl) (by kernel_rfl) (fun _ _ _ h => h) (Or.inl ⟨by rfl, ?_⟩) hHeld ?_
      case refine_2 => (intro w hSw; (try dsimp only at hSw); go_simp; try (with_reducible rfl))
      ((try simp only); (try simp only [List.getElem_toArray]); (try simp only [List.getElem_cons_succ]); (try simp only [List.getElem_cons_zero]); (try simp only [Act.put]); (try simp only [List.setIfInBounds_toArray]); (try simp only [List.set_cons_succ]); (try simp only [List.set_cons_zero]))
      refine wpAnyH_take (i := 6) (v := ?_) rfl (by kernel_rfl) (by kernel_rfl) (by kernel_rfl) (fun _ _ _ h => h) (Or.inl ⟨by rfl, ?_⟩) hHeld ?_
      case refine_2 => (intro w hSw; (try dsimp only at hSw); go_simp; try (with_reducible rfl))
      ((try simp only); (try simp only [List.getElem_toArray]); (try simp only [List.getElem_cons_succ]); (try simp only [List.getElem_cons_zero]); (try simp only [Act.put]); (try simp only [List.setIfInBounds_toArray]); (try simp only [List.set_cons_succ]); (try simp only [List.set_cons_zero]))
      refine wpAnyH_take (i := 7) (v := ?_) rfl (by kernel_rfl) (by kernel_rfl) (by kernel_rfl) (fun _ _ _ h => h) (Or.inl ⟨by rfl, ?_⟩) hHeld ?_
      case refine_2 => (intro w hSw; (try dsimp only at hSw); go_simp; try (with_reducible rfl))
      ((try simp only); (try simp only [List.getElem_toArray]); (try simp only [List.getElem_cons_succ]); (try simp only [List.getElem_cons_zero]); (try simp only [Act.put]); (try simp only [List.setIfInBounds_toArray]); (try simp only [List.set_cons_succ]); (try simp only [List.set_cons_zero]))
      refine wpAnyH_take (i := 8) (v := ?_) rfl (by kernel_rfl) (by kernel_rfl) (by kernel_rfl) (fun _ _ _ h => h) (Or.inl ⟨by rfl, ?_⟩) hHeld ?_
      case refine_2 => (intro w hSw; (try dsimp only at hSw); go_simp; try (with_reducible rfl))
      ((try simp only); (try simp only [List.getElem_toArray]); (try simp only [List.getElem_cons_succ]); (try simp only [List.getElem_cons_zero]); (try simp only [Act.put]); (try simp only [List.setIfInBounds_toArray]); (try simp only [List.set_cons_succ]); (try simp only [List.set_cons_zero]))
      refine wpAnyH_take (i := 9) rfl (by kernel_rfl) (by kernel_rfl) (by kernel_rfl) (fun _ _ _ h => h) (yieldsIf_load_mid (by rfl) _ _ rfl _ _ rfl _ _ (fun _ h => h.2) Try.underlying30 rfl (hInfo2 p)) hHeld ?_
      ((try simp only); (try simp only [List.getElem_toArray]); (try simp only [List.getElem_cons_succ]); (try simp only [List.getElem_cons_zero]); (try simp only [Act.put]); (try simp only [List.setIfInBounds_toArray]); (try simp only [List.set_cons_succ]); (try simp only [List.set_cons_zero]))
      refine wpAnyH_take (i := 10) (v := .bool false) rfl (by kernel_rfl) (by kernel_rfl) (by kernel_rfl) (fun _ _ _ h => h) (Or.inl ⟨by rfl, fun w _ => by rw [exec_ne_K _ _ _ rfl s.kz p.kz rfl rfl w, decide_eq_true HEQ.out]; rfl⟩) hHeld ?_
      ((try simp only); (try simp only [List.getElem_toArray]); (try simp only [List.getElem_cons_succ]); (try simp only [List.getElem_cons_zero]); (try simp only [Act.put]); (try simp only [List.setIfInBounds_toArray]); (try simp only [List.set_cons_succ]); (try simp only [List.set_cons_zero]))
      refine wpAnyH_done (by kernel_rfl) ?_ _
      refine NoPanic.normal ?_
      go_wp2_with fail
      go_roundg g
      case measure => omega
      case rel => exact ⟨j + 1, n + 1, by omega, congrArg (Value.int .i64) (by omega), by rw [← HWN.out]; rfl⟩
end Go.Proofs.Ytbodbdcmkicmaab
