/- valid, Choose. -/
import Derived.Test.YtnpohjbhfoebcaaSupL
namespace Go.Proofs.Ytnpohjbhfoebcaa
set_option linter.unusedVariables false
open Go.RowKit

theorem ofP_right {L : List UInt8} {S : Sup} (h : ofP L = some S) : right S = true := by
  unfold ofP at h
  split at h
  · rename_i hc
    cases h
    simp only [Bool.and_eq_true] at hc
    exact hc.1.2
  · cases h
def validP (L : List UInt8) (place : Int) : Option Sup := (ofP L).bind fun S => if S.g % 2 = place then some S else none
def chooseP (A B : List UInt8) : Option Sup := if ((validP A 0).getD nilU).g < ((validP B 1).getD nilU).g then validP B 1 else validP A 0

/-- A superblock in block b, and its snapshots. -/
structure Sits (w0 w : World) (b : Nat) (S : Sup) (sv : Value) (r : Option Nat) : Prop where
  u : HasU w b S sv
  sn : SnapsIn w sv S.l r
  rr : ∀ k, r = some k → w0.heap.size ≤ k ∧ k < b
  rlt : ∀ k, r = some k → k < w.heap.size
theorem Sits.called {w0 w w' : World} {b : Nat} {S : Sup} {sv : Value} {r : Option Nat} (h : Sits w0 w b S sv r) (hb : Below w.heap.size w w') : Sits w0 w' b S sv r :=
  ⟨h.u.below hb h.u.lt, h.sn.below hb h.rlt, h.rr, fun k hk => by have := h.rlt k hk; have := hb.size; omega⟩
theorem Sits.touch {w0 w w' : World} {b p : Nat} {S : Sup} {sv : Value} {r : Option Nat} (h : Sits w0 w b S sv r) (t : Touch p none w w') (hp : b ≠ p) (hr : ∀ k, r = some k → k ≠ p) : Sits w0 w' b S sv r :=
  ⟨h.u.touch t hp, h.sn.kept fun k hk => t.block k (h.rlt k hk) (hr k hk) (by simp), h.rr, fun k hk => by have := h.rlt k hk; have := t.size; omega⟩
/-- Behind the store of what OfTo gives into a new block. -/
theorem Sits.of {w0 w x : World} {S : Sup} {sv : Value} {r : Option Nat} (sn : SnapsIn w sv S.l r) (hr : ∀ k, r = some k → w0.heap.size ≤ k ∧ k < w.heap.size) (o : Obj) (hu : HasU x w.heap.size S sv) (t : Touch w.heap.size none (w.alloc o) x) : Sits w0 x w.heap.size S sv r :=
  ⟨hu, sn.kept fun k hk => (t.block k (by have := hr k hk; simp; omega) (by have := hr k hk; omega) (by simp)).trans (Below.heap_alloc _ _ _ (hr k hk).2), hr, fun k hk => by have := hr k hk; have := t.size; simp at this; omega⟩

set_option maxHeartbeats 8000000 in
theorem valid_calls (w : World) (bv : Value) (L : List UInt8) (rb : Option Nat) (pl : Int) (h : BytesIn w bv L rb) (hrb : ∀ k, rb = some k → k < w.heap.size) :
    Calls Try.prog 17 #[bv, .int .i64 pl] w (OfTo w (validP L pl)) := by
  have hC : ∀ o, Calls Try.prog 12 #[bv] (w.alloc o) (OfTo (w.alloc o) (ofP L)) := fun o => of_calls _ bv L rb (h.kept fun k hk => Below.heap_alloc _ _ _ (hrb k hk)) (fun k hk => by have := hrb k hk; simp; omega)
  clear h hrb
  have HR : Hid (∀ S, ofP L = some S → right S = true) := fun S hS => ofP_right hS
  have HV : Hid (validP L pl = (ofP L).bind fun S => if S.g % 2 = pl then some S else none) := rfl
  generalize ofP L = R at *
  generalize validP L pl = V at *
  have HZ : Hid (HasU (w.alloc (.cells (uc nilU (.slice none 0 0)) 24)) w.heap.size nilU (.slice none 0 0)) := HasU.new w nilU _ _ rfl rfl
  have B0 : Below w.heap.size w (w.alloc (.cells (uc nilU (.slice none 0 0)) 24)) := (Below.refl _ w).alloc (Nat.le_refl _) _
  go_enter Try.func17, Try.ntmps17
  go_upto_region 2 with (first
    | (go_at_call 12; refine (hC _).mono ?_; rintro e w1 ⟨sv, r, rfl, sn, hr, b1⟩)
    | (refine store_sup rfl _ _ rfl w1.heap.size rfl (R.getD nilU) sv rfl sn.one nilU (.slice none 0 0) (HasU.new w1 nilU (.slice none 0 0) _ rfl rfl) ?_; intro x hu tx sx))
  have hs1 := b1.size
  simp at hs1 sx
  have hr' : ∀ k, r = some k → w.heap.size ≤ k ∧ k < w1.heap.size := fun k hk => by have := hr k hk; simp at this; omega
  have ST := Sits.of sn hr' _ hu tx
  have hrz : ∀ k, r = some k → k ≠ w.heap.size := fun k hk => by have := hr k hk; simp at this; omega
  have z2 : Hid (HasU x w.heap.size nilU (.slice none 0 0)) := ((HZ.out.below b1 (by simp)).alloc _).touch tx (by omega)
  have B1 : Below w.heap.size w w1 := B0.trans (b1.mono (by simp))
  have B2 : Below w.heap.size w x := below_rowed (B1.alloc B1.size _) tx B1.size (Nat.le_refl _)
  clear HZ B0 b1 B1 hu tx sx sn hr hr' hC
  generalize w1.heap.size = b6 at *
  cases R with
  | none =>
    have HV2 : Hid (V = none) := HV.out
    clear HV
    have ec : code none = 12 := rfl
    go_wp2_with (refine store_sup rfl _ _ rfl w.heap.size rfl nilU (.slice none 0 0) rfl rfl nilU (.slice none 0 0) z2.out ?_; intro y hy ty sy)
    refine ret_sup_ok rfl _ _ _ _ rfl rfl hy rfl ?_
    rw [HV2.out]
    exact ⟨.slice none 0 0, none, rfl, ⟨none, 0, rfl, by simp [nilU], by simp [nilU], .inl rfl⟩, (fun k hk => by cases hk), below_rowed B2 ty (Nat.le_refl _) (Nat.le_refl _)⟩
  | some S =>
    have hg := (fits (HR.out S rfl)).g0
    obtain ⟨q0, _⟩ := ST.u.cells
    simp only [Option.getD_some] at q0
    have HST : Hid (Sits w x b6 S sv r) := ST
    have ec : code (some S) = 0 := rfl
    by_cases hp : S.g % 2 = pl
    · have HV2 : Hid (V = some S) := (show V = some S by have := HV.out; simpa [hp] using this)
      clear HV ST
      have e1 : Int.tmod S.g 2 = pl := by rw [Int.tmod_eq_emod_of_nonneg (by omega)]; exact hp
      have e2 : (Int.tmod S.g 2 == pl) = true := by simpa using e1
      have e3 : (S.g % 2 == pl) = true := by simpa using hp
      go_wp2_with (first
        | (refine load_sup _ rfl b6 rfl rfl S sv HST.out.u ?_)
        | (refine store_sup rfl _ _ rfl w.heap.size rfl S sv rfl HST.out.u.2 nilU (.slice none 0 0) z2.out ?_; intro y hy ty sy))
      refine ret_sup_ok rfl _ _ _ _ rfl rfl hy rfl ?_
      rw [HV2.out]
      exact ⟨sv, r, rfl, HST.out.sn.kept fun k hk => ty.block k (HST.out.rlt k hk) (hrz k hk) (by simp), fun k hk => ⟨by have := HST.out.rr k hk; omega, by have := HST.out.rlt k hk; omega⟩, below_rowed B2 ty (Nat.le_refl _) (Nat.le_refl _)⟩
    · have HV2 : Hid (V = none) := (show V = none by have := HV.out; simpa [hp] using this)
      clear HV ST
      have e1 : ¬ Int.tmod S.g 2 = pl := by rw [Int.tmod_eq_emod_of_nonneg (by omega)]; exact hp
      have e2 : (Int.tmod S.g 2 == pl) = false := by simpa using e1
      have e3 : (S.g % 2 == pl) = false := by simpa using hp
      go_wp2_with (refine store_sup rfl _ _ rfl w.heap.size rfl nilU (.slice none 0 0) rfl rfl nilU (.slice none 0 0) z2.out ?_; intro y hy ty sy)
      refine ret_sup_ok rfl _ _ _ _ rfl rfl hy rfl ?_
      rw [HV2.out]
      exact ⟨.slice none 0 0, none, rfl, ⟨none, 0, rfl, by simp [nilU], by simp [nilU], .inl rfl⟩, (fun k hk => by cases hk), below_rowed B2 ty (Nat.le_refl _) (Nat.le_refl _)⟩

set_option maxHeartbeats 8000000 in
theorem choose_calls (w : World) (av bv : Value) (A B : List UInt8) (ra rb : Option Nat) (h : BytesIn w av A ra) (hra : ∀ k, ra = some k → k < w.heap.size) (h' : BytesIn w bv B rb) (hrb : ∀ k, rb = some k → k < w.heap.size) :
    Calls Try.prog 10 #[av, bv] w (OfTo w (chooseP A B)) := by
  have hA : ∀ o, Calls Try.prog 17 #[av, .int .i64 0] (w.alloc o) (OfTo (w.alloc o) (validP A 0)) := fun o => valid_calls _ av A ra 0 (h.kept fun k hk => Below.heap_alloc _ _ _ (hra k hk)) (fun k hk => by have := hra k hk; simp; omega)
  have hB : ∀ x, Below w.heap.size w x → Calls Try.prog 17 #[bv, .int .i64 1] x (OfTo x (validP B 1)) := fun x hx => valid_calls _ bv B rb 1 (h'.kept fun k hk => hx.block k (hrb k hk)) (fun k hk => by have := hrb k hk; have := hx.size; omega)
  clear h h' hra hrb
  have HV : Hid (chooseP A B = if ((validP A 0).getD nilU).g < ((validP B 1).getD nilU).g then validP B 1 else validP A 0) := rfl
  generalize chooseP A B = V at *
  generalize validP A 0 = P at *
  generalize validP B 1 = Q at *
  have HZ : Hid (HasU (w.alloc (.cells (uc nilU (.slice none 0 0)) 24)) w.heap.size nilU (.slice none 0 0)) := HasU.new w nilU _ _ rfl rfl
  have B0 : Below w.heap.size w (w.alloc (.cells (uc nilU (.slice none 0 0)) 24)) := (Below.refl _ w).alloc (Nat.le_refl _) _
  go_enter Try.func10, Try.ntmps10
  go_upto_region 2 with (first
    | (go_at_call 17; refine (hA _).mono ?_; rintro e w1 ⟨sv, r, rfl, sn, hr, b1⟩)
    | (refine store_sup rfl _ _ rfl w1.heap.size rfl (P.getD nilU) sv rfl sn.one nilU (.slice none 0 0) (HasU.new w1 nilU (.slice none 0 0) _ rfl rfl) ?_; intro x hu tx sx))
  have hs1 := b1.size
  simp at hs1 sx
  have hr' : ∀ k, r = some k → w.heap.size ≤ k ∧ k < w1.heap.size := fun k hk => by have := hr k hk; simp at this; omega
  have ST := Sits.of sn hr' _ hu tx
  have hrz : ∀ k, r = some k → k ≠ w.heap.size := fun k hk => by have := hr k hk; simp at this; omega
  have z2 : HasU x w.heap.size nilU (.slice none 0 0) := ((HZ.out.below b1 (by simp)).alloc _).touch tx (by omega)
  have B1 : Below w.heap.size w w1 := B0.trans (b1.mono (by simp))
  have B2 : Below w.heap.size w x := below_rowed (B1.alloc B1.size _) tx B1.size (Nat.le_refl _)
  have l6 : w.heap.size < w1.heap.size := by omega
  clear HZ B0 b1 B1 hu tx sx sn hr hr' hA hs1
  generalize w1.heap.size = b6 at *
  go_upto_region 3 with (first
    | (go_at_call 17; refine (hB _ B2).mono ?_; rintro e w2 ⟨sv2, r2, rfl, sn, hr, b1⟩)
    | (refine store_sup rfl _ _ rfl w2.heap.size rfl (Q.getD nilU) sv2 rfl sn.one nilU (.slice none 0 0) (HasU.new w2 nilU (.slice none 0 0) _ rfl rfl) ?_; intro y hu ty sy))
  have hs1 := b1.size
  have hxz := z2.lt
  have hxb := ST.u.lt
  have ST2 := Sits.of sn hr _ hu ty
  have hry : ∀ k, r2 = some k → k ≠ w.heap.size := fun k hk => by have := hr k hk; omega
  have ST1 : Sits w y b6 (P.getD nilU) sv r := ((ST.called b1).called ((Below.refl _ _).alloc (Nat.le_refl _) _)).touch ty (by omega) (fun k hk => by have := ST.rlt k hk; omega)
  have z3 : Hid (HasU y w.heap.size nilU (.slice none 0 0)) := ((z2.below b1 hxz).alloc _).touch ty (by omega)
  have B3 : Below w.heap.size w y := below_rowed ((B2.trans (b1.mono B2.size)).alloc (by have := B2.size; omega) _) ty (by have := B2.size; omega) (Nat.le_refl _)
  have bx := B2.size
  clear ST z2 b1 hu ty sy sn hr hB B2
  generalize w2.heap.size = b8 at *
  obtain ⟨q0, _⟩ := ST1.u.cells
  obtain ⟨p0, _⟩ := ST2.u.cells
  have HS1 : Hid (Sits w y b6 (P.getD nilU) sv r) := ST1
  have HS2 : Hid (Sits x y b8 (Q.getD nilU) sv2 r2) := ST2
  clear ST1 ST2
  by_cases hlt : (P.getD nilU).g < (Q.getD nilU).g
  · have HV2 : Hid (V = Q) := (show V = Q by have := HV.out; rwa [if_pos hlt] at this)
    clear HV
    go_wp2_with (first
      | (refine load_sup _ rfl b8 rfl rfl (Q.getD nilU) sv2 HS2.out.u ?_)
      | (refine store_sup rfl _ _ rfl w.heap.size rfl (Q.getD nilU) sv2 rfl HS2.out.u.2 nilU (.slice none 0 0) z3.out ?_; intro z hy tz sz))
    refine ret_sup_ok rfl _ _ _ _ rfl rfl hy rfl ?_
    rw [HV2.out]
    exact ⟨sv2, r2, rfl, HS2.out.sn.kept fun k hk => tz.block k (HS2.out.rlt k hk) (hry k hk) (by simp), fun k hk => ⟨by have := HS2.out.rr k hk; omega, by have := HS2.out.rlt k hk; omega⟩, below_rowed B3 tz (Nat.le_refl _) (Nat.le_refl _)⟩
  · have HV2 : Hid (V = P) := (show V = P by have := HV.out; rwa [if_neg hlt] at this)
    clear HV
    go_wp2_with (first
      | (refine load_sup _ rfl b6 rfl rfl (P.getD nilU) sv HS1.out.u ?_)
      | (refine store_sup rfl _ _ rfl w.heap.size rfl (P.getD nilU) sv rfl HS1.out.u.2 nilU (.slice none 0 0) z3.out ?_; intro z hy tz sz))
    refine ret_sup_ok rfl _ _ _ _ rfl rfl hy rfl ?_
    rw [HV2.out]
    exact ⟨sv, r, rfl, HS1.out.sn.kept fun k hk => tz.block k (HS1.out.rlt k hk) (hrz k hk) (by simp), fun k hk => ⟨by have := HS1.out.rr k hk; omega, by have := HS1.out.rlt k hk; omega⟩, below_rowed B3 tz (Nat.le_refl _) (Nat.le_refl _)⟩
end Go.Proofs.Ytnpohjbhfoebcaa
