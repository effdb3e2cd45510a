/- The document's own words: Choose. -/
import Derived.Test.YtbjnbobohkjhiaaRefOf
namespace Go.Proofs.Ytbjnbobohkjhiaa
set_option linter.unusedVariables false
open Go.RowKit

theorem choose_one {A B : List UInt8} {x : Sup} (h : ofP A = some x) (hx : x.g % 2 = 0) (hB : ∀ y, ofP B = some y → y.g % 2 = 1 → y.g < x.g) : chooseP A B = some x := by
  have g0 := (fits (ofP_right h)).g0
  have e1 : validP A 0 = some x := by rw [validP_of _ _ _ h, if_pos hx]
  rw [chooseP, e1]
  cases hb : ofP B with
  | none => rw [validP, hb]; exact if_neg (by simp [nilU]; omega)
  | some y =>
    by_cases hy : y.g % 2 = 1
    · have := hB y hb hy
      rw [validP_of _ _ _ hb, if_pos hy]
      exact if_neg (by simp; omega)
    · rw [validP_of _ _ _ hb, if_neg hy]
      exact if_neg (by simp [nilU]; omega)
theorem choose_two {A B : List UInt8} {y : Sup} (h : ofP B = some y) (hy : y.g % 2 = 1) (hA : ∀ x, ofP A = some x → x.g % 2 = 0 → x.g < y.g) : chooseP A B = some y := by
  have g0 := (fits (ofP_right h)).g0
  have e1 : validP B 1 = some y := by rw [validP_of _ _ _ h, if_pos hy]
  rw [chooseP, e1]
  cases ha : ofP A with
  | none => rw [validP, ha]; exact if_pos (by simp [nilU]; omega)
  | some x =>
    by_cases hx : x.g % 2 = 0
    · have := hA x ha hx
      rw [validP_of _ _ _ ha, if_pos hx]
      exact if_pos (by simp; omega)
    · rw [validP_of _ _ _ ha, if_neg hx]
      exact if_pos (by simp [nilU]; omega)
theorem choose_no {A B : List UInt8} (hA : ∀ x, ofP A = some x → ¬ x.g % 2 = 0) (hB : ∀ y, ofP B = some y → ¬ y.g % 2 = 1) : chooseP A B = none := by
  have e1 : validP A 0 = none := by
    cases ha : ofP A with
    | none => rw [validP, ha]; rfl
    | some x => rw [validP_of _ _ _ ha, if_neg (hA x ha)]
  have e2 : validP B 1 = none := by
    cases hb : ofP B with
    | none => rw [validP, hb]; rfl
    | some y => rw [validP_of _ _ _ hb, if_neg (hB y hb)]
  rw [chooseP, e1, e2]
  rfl
set_option maxHeartbeats 8000000 in
set_option maxRecDepth 100000 in
theorem rchoose_calls (w : World) (A B : List UInt8) (hA : A.length ≤ 1000) (hB : B.length ≤ 1000) : Calls Try.prog 19 #[.string (str A), .string (str B)] w (OfTo w (chooseP A B)) := by
  have cA := fun y => rof_calls y A hA
  have cB := fun y => rof_calls y B hB
  have HP : Hid (∀ x, ofP A = some x → right x = true) := fun x h => ofP_right h
  have HQ : Hid (∀ x, ofP B = some x → right x = true) := fun x h => ofP_right h
  have C1 : Hid (∀ x, ofP A = some x → x.g % 2 = 0 → (∀ y, ofP B = some y → y.g % 2 = 1 → y.g < x.g) → chooseP A B = some x) := fun x h1 h2 h3 => choose_one h1 h2 h3
  have C2 : Hid (∀ y, ofP B = some y → y.g % 2 = 1 → (∀ x, ofP A = some x → x.g % 2 = 0 → x.g < y.g) → chooseP A B = some y) := fun x h1 h2 h3 => choose_two h1 h2 h3
  have C3 : Hid ((∀ x, ofP A = some x → ¬ x.g % 2 = 0) → (∀ y, ofP B = some y → ¬ y.g % 2 = 1) → chooseP A B = none) := fun h1 h2 => choose_no h1 h2
  generalize chooseP A B = V at *
  generalize ofP A = P at *
  generalize ofP B = Q at *
  have HZ : Hid (HasU (w.alloc (.cells (uc nilU (.slice none 0 0)) 24)) w.heap.size nilU (.slice none 0 0)) := HasU.new w nilU _ _ rfl rfl
  have B0 : Below w.heap.size w (w.alloc (.cells (uc nilU (.slice none 0 0)) 24)) := (Below.refl _ w).alloc (Nat.le_refl _) _
  go_enter Try.func19, Try.ntmps19
  go_upto_region 2 with (first
    | (go_at_call 14; refine (cA _).mono ?_; rintro e w1 ⟨sv, r, rfl, sn, hr, b1⟩)
    | (refine store_sup rfl _ _ rfl w1.heap.size rfl (P.getD nilU) sv rfl sn.one nilU (.slice none 0 0) (HasU.new w1 nilU (.slice none 0 0) _ rfl rfl) ?_; intro x hu tx sx))
  have hs1 := b1.size
  simp at hs1 sx
  have hr' : ∀ k, r = some k → w.heap.size ≤ k ∧ k < w1.heap.size := fun k hk => by have := hr k hk; simp at this; omega
  have ST := Sits.of sn hr' _ hu tx
  have hrz : ∀ k, r = some k → k ≠ w.heap.size := fun k hk => by have := hr k hk; simp at this; omega
  have z2 : HasU x w.heap.size nilU (.slice none 0 0) := ((HZ.out.below b1 (by simp)).alloc _).touch tx (by omega)
  have B1 : Below w.heap.size w w1 := B0.trans (b1.mono (by simp))
  have B2 : Below w.heap.size w x := below_rowed (B1.alloc B1.size _) tx B1.size (Nat.le_refl _)
  have l6 : w.heap.size < w1.heap.size := by omega
  clear HZ B0 b1 B1 hu tx sx sn hr hr' cA hs1
  generalize w1.heap.size = b6 at *
  go_upto_region 3 with (first
    | (go_at_call 14; refine (cB _).mono ?_; rintro e w2 ⟨sv2, r2, rfl, sn, hr, b1⟩)
    | (refine store_sup rfl _ _ rfl w2.heap.size rfl (Q.getD nilU) sv2 rfl sn.one nilU (.slice none 0 0) (HasU.new w2 nilU (.slice none 0 0) _ rfl rfl) ?_; intro y hu ty sy))
  have hs1 := b1.size
  have hxz := z2.lt
  have hxb := ST.u.lt
  have ST2 := Sits.of sn hr _ hu ty
  have hry : ∀ k, r2 = some k → k ≠ w.heap.size := fun k hk => by have := hr k hk; omega
  have ST1 : Sits w y b6 (P.getD nilU) sv r := ((ST.called b1).called ((Below.refl _ _).alloc (Nat.le_refl _) _)).touch ty (by omega) (fun k hk => by have := ST.rlt k hk; omega)
  have z3 : Hid (HasU y w.heap.size nilU (.slice none 0 0)) := ((z2.below b1 hxz).alloc _).touch ty (by omega)
  have B3 : Below w.heap.size w y := below_rowed ((B2.trans (b1.mono B2.size)).alloc (by have := B2.size; omega) _) ty (by have := B2.size; omega) (Nat.le_refl _)
  have bx := B2.size
  clear ST z2 b1 hu ty sy sn hr cB B2
  generalize w2.heap.size = b8 at *
  obtain ⟨q0, _⟩ := ST1.u.cells
  obtain ⟨p0, _⟩ := ST2.u.cells
  have HS1 : Hid (Sits w y b6 (P.getD nilU) sv r) := ST1
  have HS2 : Hid (Sits x y b8 (Q.getD nilU) sv2 r2) := ST2
  clear ST1 ST2
  have ec : ∀ S, code (some S) = 0 := fun _ => rfl
  have en : code none = 12 := rfl
  cases P with
  | none =>
    cases Q with
    | none =>
      have HV : Hid (V = none) := C3.out (fun _ h => by cases h) (fun _ h => by cases h)
      clear C1 C2 C3
      go_wp2_with (refine store_sup rfl _ _ rfl w.heap.size rfl nilU (.slice none 0 0) rfl rfl nilU (.slice none 0 0) z3.out ?_; intro z hy tz sz)
      refine ret_sup_ok rfl _ _ _ _ rfl rfl hy rfl ?_
      rw [HV.out]
      exact ⟨.slice none 0 0, none, rfl, ⟨none, 0, rfl, by simp [nilU], by simp [nilU], .inl rfl⟩, (fun k hk => by cases hk), below_rowed B3 tz (Nat.le_refl _) (Nat.le_refl _)⟩
    | some Y =>
      have hY := (fits (HQ.out Y rfl)).g0
      simp only [Option.getD_some] at p0
      by_cases hy : Y.g % 2 = 1
      · have HV : Hid (V = some Y) := C2.out Y rfl hy (fun _ h => by cases h)
        clear C1 C2 C3
        have fhy : (Int.tmod Y.g 2 == 1) = true := by rw [Int.tmod_eq_emod_of_nonneg (by omega)]; simpa using hy
        have ghy : (Y.g % 2 == 1) = true := by simpa using hy
        have Hhy : Hid (Y.g % 2 = 1) := hy
        clear hy
        go_wp2_with (first
          | (refine load_sup _ rfl b8 rfl rfl _ sv2 HS2.out.u ?_)
          | (refine store_sup rfl _ _ rfl w.heap.size rfl _ sv2 rfl HS2.out.u.2 nilU (.slice none 0 0) z3.out ?_; intro z hy tz sz))
        refine ret_sup_ok rfl _ _ _ _ rfl rfl hy rfl ?_
        rw [HV.out]
        exact ⟨sv2, r2, rfl, HS2.out.sn.kept fun k hk => tz.block k (HS2.out.rlt k hk) (hry k hk) (by simp), fun k hk => ⟨by have := HS2.out.rr k hk; omega, by have := HS2.out.rlt k hk; omega⟩, below_rowed B3 tz (Nat.le_refl _) (Nat.le_refl _)⟩
      · have HV : Hid (V = none) := C3.out (fun _ h => by cases h) (fun _ h => by cases h; exact hy)
        clear C1 C2 C3
        have fhy : (Int.tmod Y.g 2 == 1) = false := by rw [Int.tmod_eq_emod_of_nonneg (by omega)]; simpa using hy
        have ghy : (Y.g % 2 == 1) = false := by simpa using hy
        have Hhy : Hid (¬ Y.g % 2 = 1) := hy
        clear hy
        go_wp2_with (refine store_sup rfl _ _ rfl w.heap.size rfl nilU (.slice none 0 0) rfl rfl nilU (.slice none 0 0) z3.out ?_; intro z hy tz sz)
        refine ret_sup_ok rfl _ _ _ _ rfl rfl hy rfl ?_
        rw [HV.out]
        exact ⟨.slice none 0 0, none, rfl, ⟨none, 0, rfl, by simp [nilU], by simp [nilU], .inl rfl⟩, (fun k hk => by cases hk), below_rowed B3 tz (Nat.le_refl _) (Nat.le_refl _)⟩
  | some X =>
    have hX := (fits (HP.out X rfl)).g0
    simp only [Option.getD_some] at q0
    cases Q with
    | none =>
      by_cases hx : X.g % 2 = 0
      · have HV : Hid (V = some X) := C1.out X rfl hx (fun _ h => by cases h)
        clear C1 C2 C3
        have fhx : (Int.tmod X.g 2 == 0) = true := by rw [Int.tmod_eq_emod_of_nonneg (by omega)]; simpa using hx
        have ghx : (X.g % 2 == 0) = true := by simpa using hx
        have Hhx : Hid (X.g % 2 = 0) := hx
        clear hx
        go_wp2_with (first
          | (refine load_sup _ rfl b6 rfl rfl _ sv HS1.out.u ?_)
          | (refine store_sup rfl _ _ rfl w.heap.size rfl _ sv rfl HS1.out.u.2 nilU (.slice none 0 0) z3.out ?_; intro z hy tz sz))
        refine ret_sup_ok rfl _ _ _ _ rfl rfl hy rfl ?_
        rw [HV.out]
        exact ⟨sv, r, rfl, HS1.out.sn.kept fun k hk => tz.block k (HS1.out.rlt k hk) (hrz k hk) (by simp), fun k hk => ⟨by have := HS1.out.rr k hk; omega, by have := HS1.out.rlt k hk; omega⟩, below_rowed B3 tz (Nat.le_refl _) (Nat.le_refl _)⟩
      · have HV : Hid (V = none) := C3.out (fun _ h => by cases h; exact hx) (fun _ h => by cases h)
        clear C1 C2 C3
        have fhx : (Int.tmod X.g 2 == 0) = false := by rw [Int.tmod_eq_emod_of_nonneg (by omega)]; simpa using hx
        have ghx : (X.g % 2 == 0) = false := by simpa using hx
        have Hhx : Hid (¬ X.g % 2 = 0) := hx
        clear hx
        go_wp2_with (refine store_sup rfl _ _ rfl w.heap.size rfl nilU (.slice none 0 0) rfl rfl nilU (.slice none 0 0) z3.out ?_; intro z hy tz sz)
        refine ret_sup_ok rfl _ _ _ _ rfl rfl hy rfl ?_
        rw [HV.out]
        exact ⟨.slice none 0 0, none, rfl, ⟨none, 0, rfl, by simp [nilU], by simp [nilU], .inl rfl⟩, (fun k hk => by cases hk), below_rowed B3 tz (Nat.le_refl _) (Nat.le_refl _)⟩
    | some Y =>
      have hY := (fits (HQ.out Y rfl)).g0
      simp only [Option.getD_some] at p0
      by_cases hx : X.g % 2 = 0
      · by_cases hy : Y.g % 2 = 1
        · by_cases hlt : Y.g < X.g
          · have HV : Hid (V = some X) := C1.out X rfl hx (fun _ h _ => by cases h; exact hlt)
            clear C1 C2 C3
            have fhx : (Int.tmod X.g 2 == 0) = true := by rw [Int.tmod_eq_emod_of_nonneg (by omega)]; simpa using hx
            have ghx : (X.g % 2 == 0) = true := by simpa using hx
            have Hhx : Hid (X.g % 2 = 0) := hx
            clear hx
            have fhy : (Int.tmod Y.g 2 == 1) = true := by rw [Int.tmod_eq_emod_of_nonneg (by omega)]; simpa using hy
            have ghy : (Y.g % 2 == 1) = true := by simpa using hy
            have Hhy : Hid (Y.g % 2 = 1) := hy
            clear hy
            go_wp2_with (first
              | (refine load_sup _ rfl b6 rfl rfl _ sv HS1.out.u ?_)
              | (refine store_sup rfl _ _ rfl w.heap.size rfl _ sv rfl HS1.out.u.2 nilU (.slice none 0 0) z3.out ?_; intro z hy tz sz))
            refine ret_sup_ok rfl _ _ _ _ rfl rfl hy rfl ?_
            rw [HV.out]
            exact ⟨sv, r, rfl, HS1.out.sn.kept fun k hk => tz.block k (HS1.out.rlt k hk) (hrz k hk) (by simp), fun k hk => ⟨by have := HS1.out.rr k hk; omega, by have := HS1.out.rlt k hk; omega⟩, below_rowed B3 tz (Nat.le_refl _) (Nat.le_refl _)⟩
          · have HV : Hid (V = some Y) := C2.out Y rfl hy (fun _ h _ => by cases h; omega)
            clear C1 C2 C3
            have fhx : (Int.tmod X.g 2 == 0) = true := by rw [Int.tmod_eq_emod_of_nonneg (by omega)]; simpa using hx
            have ghx : (X.g % 2 == 0) = true := by simpa using hx
            have Hhx : Hid (X.g % 2 = 0) := hx
            clear hx
            have fhy : (Int.tmod Y.g 2 == 1) = true := by rw [Int.tmod_eq_emod_of_nonneg (by omega)]; simpa using hy
            have ghy : (Y.g % 2 == 1) = true := by simpa using hy
            have Hhy : Hid (Y.g % 2 = 1) := hy
            clear hy
            go_wp2_with (first
              | (refine load_sup _ rfl b8 rfl rfl _ sv2 HS2.out.u ?_)
              | (refine store_sup rfl _ _ rfl w.heap.size rfl _ sv2 rfl HS2.out.u.2 nilU (.slice none 0 0) z3.out ?_; intro z hy tz sz))
            refine ret_sup_ok rfl _ _ _ _ rfl rfl hy rfl ?_
            rw [HV.out]
            exact ⟨sv2, r2, rfl, HS2.out.sn.kept fun k hk => tz.block k (HS2.out.rlt k hk) (hry k hk) (by simp), fun k hk => ⟨by have := HS2.out.rr k hk; omega, by have := HS2.out.rlt k hk; omega⟩, below_rowed B3 tz (Nat.le_refl _) (Nat.le_refl _)⟩
        · have HV : Hid (V = some X) := C1.out X rfl hx (fun _ h h2 => by cases h; exact absurd h2 hy)
          clear C1 C2 C3
          have fhx : (Int.tmod X.g 2 == 0) = true := by rw [Int.tmod_eq_emod_of_nonneg (by omega)]; simpa using hx
          have ghx : (X.g % 2 == 0) = true := by simpa using hx
          have Hhx : Hid (X.g % 2 = 0) := hx
          clear hx
          have fhy : (Int.tmod Y.g 2 == 1) = false := by rw [Int.tmod_eq_emod_of_nonneg (by omega)]; simpa using hy
          have ghy : (Y.g % 2 == 1) = false := by simpa using hy
          have Hhy : Hid (¬ Y.g % 2 = 1) := hy
          clear hy
          go_wp2_with (first
            | (refine load_sup _ rfl b6 rfl rfl _ sv HS1.out.u ?_)
            | (refine store_sup rfl _ _ rfl w.heap.size rfl _ sv rfl HS1.out.u.2 nilU (.slice none 0 0) z3.out ?_; intro z hy tz sz))
          refine ret_sup_ok rfl _ _ _ _ rfl rfl hy rfl ?_
          rw [HV.out]
          exact ⟨sv, r, rfl, HS1.out.sn.kept fun k hk => tz.block k (HS1.out.rlt k hk) (hrz k hk) (by simp), fun k hk => ⟨by have := HS1.out.rr k hk; omega, by have := HS1.out.rlt k hk; omega⟩, below_rowed B3 tz (Nat.le_refl _) (Nat.le_refl _)⟩
      · by_cases hy : Y.g % 2 = 1
        · have HV : Hid (V = some Y) := C2.out Y rfl hy (fun _ h h2 => by cases h; exact absurd h2 hx)
          clear C1 C2 C3
          have fhx : (Int.tmod X.g 2 == 0) = false := by rw [Int.tmod_eq_emod_of_nonneg (by omega)]; simpa using hx
          have ghx : (X.g % 2 == 0) = false := by simpa using hx
          have Hhx : Hid (¬ X.g % 2 = 0) := hx
          clear hx
          have fhy : (Int.tmod Y.g 2 == 1) = true := by rw [Int.tmod_eq_emod_of_nonneg (by omega)]; simpa using hy
          have ghy : (Y.g % 2 == 1) = true := by simpa using hy
          have Hhy : Hid (Y.g % 2 = 1) := hy
          clear hy
          go_wp2_with (first
            | (refine load_sup _ rfl b8 rfl rfl _ sv2 HS2.out.u ?_)
            | (refine store_sup rfl _ _ rfl w.heap.size rfl _ sv2 rfl HS2.out.u.2 nilU (.slice none 0 0) z3.out ?_; intro z hy tz sz))
          refine ret_sup_ok rfl _ _ _ _ rfl rfl hy rfl ?_
          rw [HV.out]
          exact ⟨sv2, r2, rfl, HS2.out.sn.kept fun k hk => tz.block k (HS2.out.rlt k hk) (hry k hk) (by simp), fun k hk => ⟨by have := HS2.out.rr k hk; omega, by have := HS2.out.rlt k hk; omega⟩, below_rowed B3 tz (Nat.le_refl _) (Nat.le_refl _)⟩
        · have HV : Hid (V = none) := C3.out (fun _ h => by cases h; exact hx) (fun _ h => by cases h; exact hy)
          clear C1 C2 C3
          have fhx : (Int.tmod X.g 2 == 0) = false := by rw [Int.tmod_eq_emod_of_nonneg (by omega)]; simpa using hx
          have ghx : (X.g % 2 == 0) = false := by simpa using hx
          have Hhx : Hid (¬ X.g % 2 = 0) := hx
          clear hx
          have fhy : (Int.tmod Y.g 2 == 1) = false := by rw [Int.tmod_eq_emod_of_nonneg (by omega)]; simpa using hy
          have ghy : (Y.g % 2 == 1) = false := by simpa using hy
          have Hhy : Hid (¬ Y.g % 2 = 1) := hy
          clear hy
          go_wp2_with (refine store_sup rfl _ _ rfl w.heap.size rfl nilU (.slice none 0 0) rfl rfl nilU (.slice none 0 0) z3.out ?_; intro z hy tz sz)
          refine ret_sup_ok rfl _ _ _ _ rfl rfl hy rfl ?_
          rw [HV.out]
          exact ⟨.slice none 0 0, none, rfl, ⟨none, 0, rfl, by simp [nilU], by simp [nilU], .inl rfl⟩, (fun k hk => by cases hk), below_rowed B3 tz (Nat.le_refl _) (Nat.le_refl _)⟩
end Go.Proofs.Ytbjnbobohkjhiaa
