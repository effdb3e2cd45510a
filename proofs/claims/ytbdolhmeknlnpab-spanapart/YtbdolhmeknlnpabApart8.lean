/- The spans of unlike directories and files have no key together. -/
import Derived.Test.YtbdolhmeknlnpabAp8
import Derived.Test.YtbdolhmeknlnpabRfM
namespace Go.Proofs.Ytbdolhmeknlnpab
set_option linter.unusedVariables false
open Go.RowKit

set_option maxRecDepth 100000 in
set_option maxHeartbeats 16000000 in
theorem spanApart_walk (w : World) (a0 a1 a2 a3 : Int) :
    Calls Try.prog 4 #[.int .i64 a0, .int .i64 a1, .int .i64 a2, .int .i64 a3] w fun e w' => e = .returned (.bool true) ∧ Below w.heap.size w w' := by
  have H : Hd w w [] := Hd.mk (Below.refl _ w) (fun _ h => by cases h)
  have g0 := and24 a0
  have r0 : 0 ≤ a0 % 16777216 ∧ a0 % 16777216 ≤ 16777215 := by omega
  generalize a0 % 16777216 = c0 at *
  obtain ⟨r0a, r0b⟩ := r0
  have g1 := and24 a1
  have r1 : 0 ≤ a1 % 16777216 ∧ a1 % 16777216 ≤ 16777215 := by omega
  generalize a1 % 16777216 = c1 at *
  obtain ⟨r1a, r1b⟩ := r1
  have g2 := and32 a2
  have r2 : 0 ≤ a2 % 4294967296 ∧ a2 % 4294967296 ≤ 4294967295 := by omega
  generalize a2 % 4294967296 = c2 at *
  obtain ⟨r2a, r2b⟩ := r2
  have g3 := and32 a3
  have r3 : 0 ≤ a3 % 4294967296 ∧ a3 % 4294967296 ≤ 4294967295 := by omega
  generalize a3 % 4294967296 = c3 at *
  obtain ⟨r3a, r3b⟩ := r3
  go_enter Try.func4, Try.ntmps4
  go_wp2_with fail
  refine (shown_calls _).mono ?_
  rintro e x1 ⟨rfl, b1⟩
  replace H := H.called b1
  clear b1
  go_upto_region 6 with fail
  obtain ⟨A, hA⟩ : ∃ A, A = 1 + c0 := ⟨_, rfl⟩
  obtain ⟨B, hB⟩ : ∃ B, B = 1 + c1 := ⟨_, rfl⟩
  rw [← hA, ← hB]
  have rA1 : 1 ≤ A := by omega
  have rA2 : A ≤ 16777216 := by omega
  have rB1 : 1 ≤ B := by omega
  have rB2 : B ≤ 16777216 := by omega
  clear hA hB g0 g1 g2 g3 r0a r0b r1a r1b
  obtain ⟨EA, hEA⟩ : ∃ E, E = entS A := ⟨_, rfl⟩
  have HEA : Hid (EA = entS A) := hEA
  clear hEA
  obtain ⟨EB, hEB⟩ : ∃ E, E = entS B := ⟨_, rfl⟩
  have HEB : Hid (EB = entS B) := hEB
  clear hEB
  obtain ⟨CA, hCA⟩ : ∃ E, E = chS A c2 := ⟨_, rfl⟩
  have HCA : Hid (CA = chS A c2) := hCA
  clear hCA
  obtain ⟨CB, hCB⟩ : ∃ E, E = chS B c3 := ⟨_, rfl⟩
  have HCB : Hid (CB = chS B c3) := hCB
  clear hCB
  obtain ⟨CC, hCC⟩ : ∃ E, E = chS A c3 := ⟨_, rfl⟩
  have HCC : Hid (CC = chS A c3) := hCC
  clear hCC
  go_wp2_with fail
  refine (ents_calls A EA HEA.out _).mono ?_
  rintro e x2 ⟨rfl, b2⟩
  replace H := H.called b2
  clear b2
  go_upto_region 7 with (refine build_el1 rowS rfl _ rfl (EA) rfl (by decide) ?_; intro x3 o3 b3 s3 k3)
  replace H := (H.called b3).add o3.slB
  clear o3 b3 s3 k3
  generalize Value.slice (some ⟨x2.heap.size, 0, none⟩) 1 1 = vx at *
  go_wp2_with fail
  refine (ents_calls B EB HEB.out _).mono ?_
  rintro e x4 ⟨rfl, b4⟩
  replace H := H.called b4
  clear b4
  go_upto_region 8 with (refine build_el1 rowS rfl _ rfl (EB) rfl (by decide) ?_; intro x5 o5 b5 s5 k5)
  replace H := (H.called b5).add o5.slB
  clear o5 b5 s5 k5
  generalize Value.slice (some ⟨x4.heap.size, 0, none⟩) 1 1 = vy at *
  go_wp2_with fail
  refine (chs_calls A c2 CA HCA.out _).mono ?_
  rintro e x6 ⟨rfl, b6⟩
  replace H := H.called b6
  clear b6
  go_upto_region 9 with (refine build_el1 rowS rfl _ rfl (CA) rfl (by decide) ?_; intro x7 o7 b7 s7 k7)
  replace H := (H.called b7).add o7.slB
  clear o7 b7 s7 k7
  generalize Value.slice (some ⟨x6.heap.size, 0, none⟩) 1 1 = vu at *
  go_wp2_with fail
  refine (chs_calls B c3 CB HCB.out _).mono ?_
  rintro e x8 ⟨rfl, b8⟩
  replace H := H.called b8
  clear b8
  go_upto_region 10 with (refine build_el1 rowS rfl _ rfl (CB) rfl (by decide) ?_; intro x9 o9 b9 s9 k9)
  replace H := (H.called b9).add o9.slB
  clear o9 b9 s9 k9
  generalize Value.slice (some ⟨x8.heap.size, 0, none⟩) 1 1 = vv at *
  by_cases hab : A = B
  · have hE : (A != B) = false := by simpa using hab
    clear hab
    by_cases hqp : c3 < c2
    · skip
      go_wp2_with fail
      refine (touch_calls _ _ _ _ _ (H.get (vx) ([EA]) (by simp)) (H.get (vu) ([CA]) (by simp)) (by simp only [List.length_cons, List.length_nil]; omega)).mono ?_
      rintro e x10 ⟨t10, rfl, ht10, b10⟩
      replace H := H.called b10
      have et10 : t10 = false := touch_no ht10 (fun K hK h1 h2 => by rw [mem_one, HEA.out, ent_inb A rA1 rA2] at h1; rw [mem_one, HCA.out, ch_inb A c2 rA1 rA2 r2a r2b] at h2; simp only [Bool.and_eq_true, decide_eq_true_eq] at h1 h2; omega)
      subst et10
      clear b10 ht10
      go_wp2_with fail
      refine (touch_calls _ _ _ _ _ (H.get (vx) ([EA]) (by simp)) (H.get (vv) ([CB]) (by simp)) (by simp only [List.length_cons, List.length_nil]; omega)).mono ?_
      rintro e x11 ⟨t11, rfl, ht11, b11⟩
      replace H := H.called b11
      have et11 : t11 = false := touch_no ht11 (fun K hK h1 h2 => by rw [mem_one, HEA.out, ent_inb A rA1 rA2] at h1; rw [mem_one, HCB.out, ch_inb B c3 rB1 rB2 r3a r3b] at h2; simp only [Bool.and_eq_true, decide_eq_true_eq] at h1 h2; omega)
      subst et11
      clear b11 ht11
      go_wp2_with fail
      refine (chs_calls A c3 CC HCC.out _).mono ?_
      rintro e x12 ⟨rfl, b12⟩
      replace H := H.called b12
      clear b12
      go_upto_region 15 with (refine build_el1 rowS rfl _ rfl (CC) rfl (by decide) ?_; intro x13 o13 b13 s13 k13)
      replace H := (H.called b13).add o13.slB
      clear o13 b13 s13 k13
      generalize Value.slice (some ⟨x12.heap.size, 0, none⟩) 1 1 = vw at *
      go_wp2_with fail
      refine (lesss_calls _ _ _ _ _ (H.get (vw) ([CC]) (by simp)) (H.get (vu) ([CA]) (by simp)) (by simp only [List.length_cons, List.length_nil]; omega)).mono ?_
      rintro e x14 ⟨vl, Rl, rfl, o14, b14, iRl, lRl⟩
      replace H := (H.called b14).add o14.slB
      clear o14 b14
      go_wp2_with fail
      refine (clean_calls _ _ _ (H.get (vx) ([EA]) (by simp)) (by simp only [List.length_cons, List.length_nil]; omega)).mono ?_
      rintro e x15 ⟨vc, Rc, rfl, o15, b15, iRc, lRc⟩
      replace H := (H.called b15).add o15.slB
      clear o15 b15
      obtain rfl : Rc = [EA] := iRc.unique (one_set _ (by rw [HEA.out]; exact ent_lt A rA1 rA2) (by rw [HEA.out]; rfl)) (fun _ _ => rfl)
      obtain ⟨advc, cpvc, rfl, hcvc, hmvc⟩ := sl_form (H.get (vc) ([EA]) (by simp))
      simp only [List.length_cons, List.length_nil] at *
      go_wp2_with fail
      refine (clean_calls _ _ _ (H.get (vu) ([CA]) (by simp)) (by simp only [List.length_cons, List.length_nil]; omega)).mono ?_
      rintro e x16 ⟨vd, Rd, rfl, o16, b16, iRd, lRd⟩
      replace H := (H.called b16).add o16.slB
      clear o16 b16
      obtain rfl : Rd = [CA] := iRd.unique (one_set _ (by rw [HCA.out]; exact ch_lt A c2 rA1 rA2 r2a r2b) (by rw [HCA.out]; rfl)) (fun _ _ => rfl)
      obtain ⟨advd, cpvd, rfl, hcvd, hmvd⟩ := sl_form (H.get (vd) ([CA]) (by simp))
      simp only [List.length_cons, List.length_nil] at *
      go_wp2_with fail
      go_ret
      exact ⟨rfl, H.bel⟩
    · skip
      go_wp2_with fail
      refine (touch_calls _ _ _ _ _ (H.get (vx) ([EA]) (by simp)) (H.get (vu) ([CA]) (by simp)) (by simp only [List.length_cons, List.length_nil]; omega)).mono ?_
      rintro e x10 ⟨t10, rfl, ht10, b10⟩
      replace H := H.called b10
      have et10 : t10 = false := touch_no ht10 (fun K hK h1 h2 => by rw [mem_one, HEA.out, ent_inb A rA1 rA2] at h1; rw [mem_one, HCA.out, ch_inb A c2 rA1 rA2 r2a r2b] at h2; simp only [Bool.and_eq_true, decide_eq_true_eq] at h1 h2; omega)
      subst et10
      clear b10 ht10
      go_wp2_with fail
      refine (touch_calls _ _ _ _ _ (H.get (vx) ([EA]) (by simp)) (H.get (vv) ([CB]) (by simp)) (by simp only [List.length_cons, List.length_nil]; omega)).mono ?_
      rintro e x11 ⟨t11, rfl, ht11, b11⟩
      replace H := H.called b11
      have et11 : t11 = false := touch_no ht11 (fun K hK h1 h2 => by rw [mem_one, HEA.out, ent_inb A rA1 rA2] at h1; rw [mem_one, HCB.out, ch_inb B c3 rB1 rB2 r3a r3b] at h2; simp only [Bool.and_eq_true, decide_eq_true_eq] at h1 h2; omega)
      subst et11
      clear b11 ht11
      go_wp2_with fail
      refine (chs_calls A c3 CC HCC.out _).mono ?_
      rintro e x12 ⟨rfl, b12⟩
      replace H := H.called b12
      clear b12
      go_upto_region 15 with (refine build_el1 rowS rfl _ rfl (CC) rfl (by decide) ?_; intro x13 o13 b13 s13 k13)
      replace H := (H.called b13).add o13.slB
      clear o13 b13 s13 k13
      generalize Value.slice (some ⟨x12.heap.size, 0, none⟩) 1 1 = vw at *
      go_wp2_with fail
      refine (lesss_calls _ _ _ _ _ (H.get (vw) ([CC]) (by simp)) (H.get (vu) ([CA]) (by simp)) (by simp only [List.length_cons, List.length_nil]; omega)).mono ?_
      rintro e x14 ⟨vl, Rl, rfl, o14, b14, iRl, lRl⟩
      replace H := (H.called b14).add o14.slB
      clear o14 b14
      obtain rfl : Rl = [] := iRl.none (fun K hK => by rw [mem_one, mem_one, HCC.out, HCA.out, ch_inb A c3 rA1 rA2 r3a r3b, ch_inb A c2 rA1 rA2 r2a r2b]; rw [Bool.eq_iff_iff]; simp; omega)
      obtain ⟨advl, cpvl, rfl, hcvl, hmvl⟩ := sl_form (H.get (vl) ([]) (by simp))
      simp only [List.length_nil] at *
      go_wp2_with fail
      refine (clean_calls _ _ _ (H.get (vx) ([EA]) (by simp)) (by simp only [List.length_cons, List.length_nil]; omega)).mono ?_
      rintro e x15 ⟨vc, Rc, rfl, o15, b15, iRc, lRc⟩
      replace H := (H.called b15).add o15.slB
      clear o15 b15
      obtain rfl : Rc = [EA] := iRc.unique (one_set _ (by rw [HEA.out]; exact ent_lt A rA1 rA2) (by rw [HEA.out]; rfl)) (fun _ _ => rfl)
      obtain ⟨advc, cpvc, rfl, hcvc, hmvc⟩ := sl_form (H.get (vc) ([EA]) (by simp))
      simp only [List.length_cons, List.length_nil] at *
      go_wp2_with fail
      refine (clean_calls _ _ _ (H.get (vu) ([CA]) (by simp)) (by simp only [List.length_cons, List.length_nil]; omega)).mono ?_
      rintro e x16 ⟨vd, Rd, rfl, o16, b16, iRd, lRd⟩
      replace H := (H.called b16).add o16.slB
      clear o16 b16
      obtain rfl : Rd = [CA] := iRd.unique (one_set _ (by rw [HCA.out]; exact ch_lt A c2 rA1 rA2 r2a r2b) (by rw [HCA.out]; rfl)) (fun _ _ => rfl)
      obtain ⟨advd, cpvd, rfl, hcvd, hmvd⟩ := sl_form (H.get (vd) ([CA]) (by simp))
      simp only [List.length_cons, List.length_nil] at *
      go_wp2_with fail
      go_ret
      exact ⟨rfl, H.bel⟩
  · have hE : (A != B) = true := by simpa using hab
    by_cases hqp : c3 < c2
    · skip
      go_wp2_with fail
      refine (touch_calls _ _ _ _ _ (H.get (vx) ([EA]) (by simp)) (H.get (vy) ([EB]) (by simp)) (by simp only [List.length_cons, List.length_nil]; omega)).mono ?_
      rintro e x10 ⟨t10, rfl, ht10, b10⟩
      replace H := H.called b10
      have et10 : t10 = false := touch_no ht10 (fun K hK h1 h2 => by rw [mem_one, HEA.out, ent_inb A rA1 rA2] at h1; rw [mem_one, HEB.out, ent_inb B rB1 rB2] at h2; simp only [decide_eq_true_eq] at h1 h2; omega)
      subst et10
      clear b10 ht10
      go_wp2_with fail
      refine (touch_calls _ _ _ _ _ (H.get (vu) ([CA]) (by simp)) (H.get (vv) ([CB]) (by simp)) (by simp only [List.length_cons, List.length_nil]; omega)).mono ?_
      rintro e x11 ⟨t11, rfl, ht11, b11⟩
      replace H := H.called b11
      have et11 : t11 = false := touch_no ht11 (fun K hK h1 h2 => by rw [mem_one, HCA.out, ch_inb A c2 rA1 rA2 r2a r2b] at h1; rw [mem_one, HCB.out, ch_inb B c3 rB1 rB2 r3a r3b] at h2; simp only [Bool.and_eq_true, decide_eq_true_eq] at h1 h2; omega)
      subst et11
      clear b11 ht11
      go_wp2_with fail
      refine (touch_calls _ _ _ _ _ (H.get (vx) ([EA]) (by simp)) (H.get (vu) ([CA]) (by simp)) (by simp only [List.length_cons, List.length_nil]; omega)).mono ?_
      rintro e x12 ⟨t12, rfl, ht12, b12⟩
      replace H := H.called b12
      have et12 : t12 = false := touch_no ht12 (fun K hK h1 h2 => by rw [mem_one, HEA.out, ent_inb A rA1 rA2] at h1; rw [mem_one, HCA.out, ch_inb A c2 rA1 rA2 r2a r2b] at h2; simp only [Bool.and_eq_true, decide_eq_true_eq] at h1 h2; omega)
      subst et12
      clear b12 ht12
      go_wp2_with fail
      refine (touch_calls _ _ _ _ _ (H.get (vx) ([EA]) (by simp)) (H.get (vv) ([CB]) (by simp)) (by simp only [List.length_cons, List.length_nil]; omega)).mono ?_
      rintro e x13 ⟨t13, rfl, ht13, b13⟩
      replace H := H.called b13
      have et13 : t13 = false := touch_no ht13 (fun K hK h1 h2 => by rw [mem_one, HEA.out, ent_inb A rA1 rA2] at h1; rw [mem_one, HCB.out, ch_inb B c3 rB1 rB2 r3a r3b] at h2; simp only [Bool.and_eq_true, decide_eq_true_eq] at h1 h2; omega)
      subst et13
      clear b13 ht13
      go_wp2_with fail
      refine (chs_calls A c3 CC HCC.out _).mono ?_
      rintro e x14 ⟨rfl, b14⟩
      replace H := H.called b14
      clear b14
      go_upto_region 15 with (refine build_el1 rowS rfl _ rfl (CC) rfl (by decide) ?_; intro x15 o15 b15 s15 k15)
      replace H := (H.called b15).add o15.slB
      clear o15 b15 s15 k15
      generalize Value.slice (some ⟨x14.heap.size, 0, none⟩) 1 1 = vw at *
      go_wp2_with fail
      refine (lesss_calls _ _ _ _ _ (H.get (vw) ([CC]) (by simp)) (H.get (vu) ([CA]) (by simp)) (by simp only [List.length_cons, List.length_nil]; omega)).mono ?_
      rintro e x16 ⟨vl, Rl, rfl, o16, b16, iRl, lRl⟩
      replace H := (H.called b16).add o16.slB
      clear o16 b16
      go_wp2_with fail
      refine (clean_calls _ _ _ (H.get (vx) ([EA]) (by simp)) (by simp only [List.length_cons, List.length_nil]; omega)).mono ?_
      rintro e x17 ⟨vc, Rc, rfl, o17, b17, iRc, lRc⟩
      replace H := (H.called b17).add o17.slB
      clear o17 b17
      obtain rfl : Rc = [EA] := iRc.unique (one_set _ (by rw [HEA.out]; exact ent_lt A rA1 rA2) (by rw [HEA.out]; rfl)) (fun _ _ => rfl)
      obtain ⟨advc, cpvc, rfl, hcvc, hmvc⟩ := sl_form (H.get (vc) ([EA]) (by simp))
      simp only [List.length_cons, List.length_nil] at *
      go_wp2_with fail
      refine (clean_calls _ _ _ (H.get (vu) ([CA]) (by simp)) (by simp only [List.length_cons, List.length_nil]; omega)).mono ?_
      rintro e x18 ⟨vd, Rd, rfl, o18, b18, iRd, lRd⟩
      replace H := (H.called b18).add o18.slB
      clear o18 b18
      obtain rfl : Rd = [CA] := iRd.unique (one_set _ (by rw [HCA.out]; exact ch_lt A c2 rA1 rA2 r2a r2b) (by rw [HCA.out]; rfl)) (fun _ _ => rfl)
      obtain ⟨advd, cpvd, rfl, hcvd, hmvd⟩ := sl_form (H.get (vd) ([CA]) (by simp))
      simp only [List.length_cons, List.length_nil] at *
      go_wp2_with fail
      go_ret
      exact ⟨rfl, H.bel⟩
    · skip
      go_wp2_with fail
      refine (touch_calls _ _ _ _ _ (H.get (vx) ([EA]) (by simp)) (H.get (vy) ([EB]) (by simp)) (by simp only [List.length_cons, List.length_nil]; omega)).mono ?_
      rintro e x10 ⟨t10, rfl, ht10, b10⟩
      replace H := H.called b10
      have et10 : t10 = false := touch_no ht10 (fun K hK h1 h2 => by rw [mem_one, HEA.out, ent_inb A rA1 rA2] at h1; rw [mem_one, HEB.out, ent_inb B rB1 rB2] at h2; simp only [decide_eq_true_eq] at h1 h2; omega)
      subst et10
      clear b10 ht10
      go_wp2_with fail
      refine (touch_calls _ _ _ _ _ (H.get (vu) ([CA]) (by simp)) (H.get (vv) ([CB]) (by simp)) (by simp only [List.length_cons, List.length_nil]; omega)).mono ?_
      rintro e x11 ⟨t11, rfl, ht11, b11⟩
      replace H := H.called b11
      have et11 : t11 = false := touch_no ht11 (fun K hK h1 h2 => by rw [mem_one, HCA.out, ch_inb A c2 rA1 rA2 r2a r2b] at h1; rw [mem_one, HCB.out, ch_inb B c3 rB1 rB2 r3a r3b] at h2; simp only [Bool.and_eq_true, decide_eq_true_eq] at h1 h2; omega)
      subst et11
      clear b11 ht11
      go_wp2_with fail
      refine (touch_calls _ _ _ _ _ (H.get (vx) ([EA]) (by simp)) (H.get (vu) ([CA]) (by simp)) (by simp only [List.length_cons, List.length_nil]; omega)).mono ?_
      rintro e x12 ⟨t12, rfl, ht12, b12⟩
      replace H := H.called b12
      have et12 : t12 = false := touch_no ht12 (fun K hK h1 h2 => by rw [mem_one, HEA.out, ent_inb A rA1 rA2] at h1; rw [mem_one, HCA.out, ch_inb A c2 rA1 rA2 r2a r2b] at h2; simp only [Bool.and_eq_true, decide_eq_true_eq] at h1 h2; omega)
      subst et12
      clear b12 ht12
      go_wp2_with fail
      refine (touch_calls _ _ _ _ _ (H.get (vx) ([EA]) (by simp)) (H.get (vv) ([CB]) (by simp)) (by simp only [List.length_cons, List.length_nil]; omega)).mono ?_
      rintro e x13 ⟨t13, rfl, ht13, b13⟩
      replace H := H.called b13
      have et13 : t13 = false := touch_no ht13 (fun K hK h1 h2 => by rw [mem_one, HEA.out, ent_inb A rA1 rA2] at h1; rw [mem_one, HCB.out, ch_inb B c3 rB1 rB2 r3a r3b] at h2; simp only [Bool.and_eq_true, decide_eq_true_eq] at h1 h2; omega)
      subst et13
      clear b13 ht13
      go_wp2_with fail
      refine (chs_calls A c3 CC HCC.out _).mono ?_
      rintro e x14 ⟨rfl, b14⟩
      replace H := H.called b14
      clear b14
      go_upto_region 15 with (refine build_el1 rowS rfl _ rfl (CC) rfl (by decide) ?_; intro x15 o15 b15 s15 k15)
      replace H := (H.called b15).add o15.slB
      clear o15 b15 s15 k15
      generalize Value.slice (some ⟨x14.heap.size, 0, none⟩) 1 1 = vw at *
      go_wp2_with fail
      refine (lesss_calls _ _ _ _ _ (H.get (vw) ([CC]) (by simp)) (H.get (vu) ([CA]) (by simp)) (by simp only [List.length_cons, List.length_nil]; omega)).mono ?_
      rintro e x16 ⟨vl, Rl, rfl, o16, b16, iRl, lRl⟩
      replace H := (H.called b16).add o16.slB
      clear o16 b16
      obtain rfl : Rl = [] := iRl.none (fun K hK => by rw [mem_one, mem_one, HCC.out, HCA.out, ch_inb A c3 rA1 rA2 r3a r3b, ch_inb A c2 rA1 rA2 r2a r2b]; rw [Bool.eq_iff_iff]; simp; omega)
      obtain ⟨advl, cpvl, rfl, hcvl, hmvl⟩ := sl_form (H.get (vl) ([]) (by simp))
      simp only [List.length_nil] at *
      go_wp2_with fail
      refine (clean_calls _ _ _ (H.get (vx) ([EA]) (by simp)) (by simp only [List.length_cons, List.length_nil]; omega)).mono ?_
      rintro e x17 ⟨vc, Rc, rfl, o17, b17, iRc, lRc⟩
      replace H := (H.called b17).add o17.slB
      clear o17 b17
      obtain rfl : Rc = [EA] := iRc.unique (one_set _ (by rw [HEA.out]; exact ent_lt A rA1 rA2) (by rw [HEA.out]; rfl)) (fun _ _ => rfl)
      obtain ⟨advc, cpvc, rfl, hcvc, hmvc⟩ := sl_form (H.get (vc) ([EA]) (by simp))
      simp only [List.length_cons, List.length_nil] at *
      go_wp2_with fail
      refine (clean_calls _ _ _ (H.get (vu) ([CA]) (by simp)) (by simp only [List.length_cons, List.length_nil]; omega)).mono ?_
      rintro e x18 ⟨vd, Rd, rfl, o18, b18, iRd, lRd⟩
      replace H := (H.called b18).add o18.slB
      clear o18 b18
      obtain rfl : Rd = [CA] := iRd.unique (one_set _ (by rw [HCA.out]; exact ch_lt A c2 rA1 rA2 r2a r2b) (by rw [HCA.out]; rfl)) (fun _ _ => rfl)
      obtain ⟨advd, cpvd, rfl, hcvd, hmvd⟩ := sl_form (H.get (vd) ([CA]) (by simp))
      simp only [List.length_cons, List.length_nil] at *
      go_wp2_with fail
      go_ret
      exact ⟨rfl, H.bel⟩
end Go.Proofs.Ytbdolhmeknlnpab
