/- Sets of keys, as plain mathematics: spans as numbers, clean lists, one set of the same keys; the sweep over edges. -/
import Derived.Test.YtbodbdcmkicmaaaKeyA
import Derived.Sort.Statements
namespace Go.Proofs.Ytbodbdcmkicmaaa
set_option linter.unusedVariables false
open Go.RowKit

/-! Keys as numbers. -/
theorem foldl_split : ∀ (l : List UInt8) (a : Nat), l.foldl (fun a b => 256 * a + b.toNat) a = a * 256 ^ l.length + num l
  | [], a => by simp [num]
  | b :: l, a => by
    have e : num (b :: l) = List.foldl (fun a b => 256 * a + b.toNat) (256 * 0 + b.toNat) l := rfl
    rw [e, List.foldl_cons, foldl_split l (256 * a + b.toNat), foldl_split l (256 * 0 + b.toNat), List.length_cons, Nat.pow_succ, Nat.add_mul, Nat.add_mul]
    rw [show 256 * a * 256 ^ l.length = a * (256 ^ l.length * 256) by rw [Nat.mul_comm 256 a, Nat.mul_assoc, Nat.mul_comm 256]]
    simp [Nat.add_assoc]
theorem num_cons (b : UInt8) (l : List UInt8) : num (b :: l) = b.toNat * 256 ^ l.length + num l := by
  rw [num, List.foldl_cons, foldl_split]
  simp
theorem less_num : ∀ (K L : List UInt8), K.length = L.length → Op.bytesLess K L = decide (num K < num L)
  | [], [], _ => rfl
  | [], _ :: _, h => by cases h
  | _ :: _, [], h => by cases h
  | a :: xs, b :: ys, h => by
    have hl : xs.length = ys.length := by simpa using h
    have ih := less_num xs ys hl
    have hx := num_lt xs
    have hy := num_lt ys
    rw [Op.bytesLess, num_cons, num_cons, hl, ih]
    rw [hl] at hx
    generalize 256 ^ ys.length = M at *
    have hab : a = b ↔ a.toNat = b.toNat := UInt8.toNat_inj.symm
    have hlt : a < b ↔ a.toNat < b.toNat := UInt8.lt_iff_toNat_lt
    rcases Nat.lt_trichotomy a.toNat b.toNat with h1 | h1 | h1
    · have e : a.toNat * M + num xs < b.toNat * M + num ys := by
        have := Nat.mul_le_mul_right M (show a.toNat + 1 ≤ b.toNat from h1)
        rw [Nat.add_mul, Nat.one_mul] at this
        omega
      have n1 : a < b := hlt.2 h1
      simp [n1, e]
    · have e : a = b := hab.2 h1
      subst e
      simp
    · have e : ¬ a.toNat * M + num xs < b.toNat * M + num ys := by
        have := Nat.mul_le_mul_right M (show b.toNat + 1 ≤ a.toNat from h1)
        rw [Nat.add_mul, Nat.one_mul] at this
        omega
      have n1 : ¬ a < b := fun q => by have := hlt.1 q; omega
      have n2 : ¬ a = b := fun q => by have := hab.1 q; omega
      simp [n1, n2, e]
theorem num_inj : ∀ (K L : List UInt8), K.length = L.length → num K = num L → K = L
  | [], [], _, _ => rfl
  | [], _ :: _, h, _ => by cases h
  | _ :: _, [], h, _ => by cases h
  | a :: xs, b :: ys, h, he => by
    have hl : xs.length = ys.length := by simpa using h
    have hx := num_lt xs
    have hy := num_lt ys
    rw [num_cons, num_cons, hl] at he
    rw [hl] at hx
    have h0 : a.toNat = b.toNat := by
      generalize 256 ^ ys.length = M at *
      rcases Nat.lt_trichotomy a.toNat b.toNat with h1 | h1 | h1
      · have := Nat.mul_le_mul_right M (show a.toNat + 1 ≤ b.toNat from h1)
        rw [Nat.add_mul, Nat.one_mul] at this
        omega
      · exact h1
      · have := Nat.mul_le_mul_right M (show b.toNat + 1 ≤ a.toNat from h1)
        rw [Nat.add_mul, Nat.one_mul] at this
        omega
    rw [h0] at he
    rw [UInt8.toNat_inj.1 h0, num_inj xs ys hl (by omega)]

/-! Spans. -/
structure Sp where
  F : List UInt8
  T : List UInt8
  e : Bool
  hF : F.length = 24
  hT : T.length = 24
theorem Sp.ext' {s u : Sp} (h1 : s.F = u.F) (h2 : s.T = u.T) (h3 : s.e = u.e) : s = u := by
  cases s; cases u; simp at h1 h2 h3; subst h1 h2 h3; rfl
/-- Is the key of this number in the span? -/
def Sp.inb (s : Sp) (x : Int) : Bool := decide ((num s.F : Int) ≤ x) && (s.e || decide (x < (num s.T : Int)))
def mem (l : List Sp) (x : Int) : Bool := l.any fun s => s.inb x
theorem mem_nil (x : Int) : mem [] x = false := rfl
theorem mem_cons (s : Sp) (l : List Sp) (x : Int) : mem (s :: l) x = (s.inb x || mem l x) := rfl
theorem mem_append (l m : List Sp) (x : Int) : mem (l ++ m) x = (mem l x || mem m x) := by simp [mem]
/-- A set that begins above lo. -/
def SetFrom : Int → List Sp → Prop
  | _, [] => True
  | lo, s :: r => lo < (num s.F : Int) ∧ (s.e = true ∧ r = [] ∧ s.T = zs 24 ∨ s.e = false ∧ (num s.F : Int) < (num s.T : Int) ∧ SetFrom (num s.T) r)
theorem SetFrom.lt : ∀ {lo : Int} {l : List Sp} {x : Int}, SetFrom lo l → mem l x = true → lo < x
  | _, [], _, _, h => by cases h
  | lo, s :: r, x, ⟨h1, h2⟩, h => by
    rw [mem_cons, Bool.or_eq_true] at h
    rcases h with h | h
    · simp only [Sp.inb, Bool.and_eq_true, decide_eq_true_eq] at h
      omega
    · rcases h2 with ⟨_, rfl, _⟩ | ⟨_, h3, h4⟩
      · cases h
      · have := SetFrom.lt h4 h
        omega
theorem SetFrom.mono {lo lo' : Int} {l : List Sp} (h : SetFrom lo l) (hl : lo' ≤ lo) : SetFrom lo' l := by
  cases l with
  | nil => trivial
  | cons s r => exact ⟨by have := h.1; omega, h.2⟩
theorem SetFrom.first {lo : Int} {s : Sp} {r : List Sp} (h : SetFrom lo (s :: r)) : s.inb (num s.F) = true := by
  rcases h.2 with ⟨h1, _⟩ | ⟨h1, h2, _⟩
  · simp [Sp.inb, h1]
  · simp [Sp.inb, h1, h2]
/-- There is one set of the same keys. -/
theorem SetFrom.unique : ∀ {l m : List Sp} {lo lo' : Int}, SetFrom lo l → SetFrom lo' m → (∀ K : List UInt8, K.length = 24 → mem l (num K) = mem m (num K)) → l = m
  | [], [], _, _, _, _, _ => rfl
  | [], u :: q, _, _, _, hm, h => by
    have := h u.F u.hF
    rw [mem_nil, mem_cons, hm.first] at this
    cases this
  | s :: r, [], _, _, hl, _, h => by
    have := h s.F s.hF
    rw [mem_nil, mem_cons, hl.first] at this
    cases this
  | s :: r, u :: q, lo, lo', hl, hm, h => by
    have lowS : ∀ x : Int, mem (s :: r) x = true → (num s.F : Int) ≤ x := fun x hx => by
      rw [mem_cons, Bool.or_eq_true] at hx
      rcases hx with hx | hx
      · simp only [Sp.inb, Bool.and_eq_true, decide_eq_true_eq] at hx; omega
      · rcases hl.2 with ⟨_, rfl, _⟩ | ⟨_, h3, h4⟩
        · cases hx
        · have := h4.lt hx; omega
    have lowU : ∀ x : Int, mem (u :: q) x = true → (num u.F : Int) ≤ x := fun x hx => by
      rw [mem_cons, Bool.or_eq_true] at hx
      rcases hx with hx | hx
      · simp only [Sp.inb, Bool.and_eq_true, decide_eq_true_eq] at hx; omega
      · rcases hm.2 with ⟨_, rfl, _⟩ | ⟨_, h3, h4⟩
        · cases hx
        · have := h4.lt hx; omega
    have hs := hl.first
    have hu := hm.first
    have e1 : s.F = u.F := by
      apply num_inj _ _ (by rw [s.hF, u.hF])
      have a1 := lowU (num s.F) (by rw [← h s.F s.hF, mem_cons, hs]; rfl)
      have a2 := lowS (num u.F) (by rw [h u.F u.hF, mem_cons, hu]; rfl)
      omega
    have endS : s.e = false → mem (s :: r) (num s.T) = false := fun he => by
      rw [mem_cons, Bool.or_eq_false_iff]
      refine ⟨by simp [Sp.inb, he], ?_⟩
      rcases hl.2 with ⟨h1, _⟩ | ⟨_, _, h4⟩
      · rw [he] at h1; cases h1
      · cases hx : mem r (num s.T) with
        | false => rfl
        | true => have := h4.lt hx; omega
    have endU : u.e = false → mem (u :: q) (num u.T) = false := fun he => by
      rw [mem_cons, Bool.or_eq_false_iff]
      refine ⟨by simp [Sp.inb, he], ?_⟩
      rcases hm.2 with ⟨h1, _⟩ | ⟨_, _, h4⟩
      · rw [he] at h1; cases h1
      · cases hx : mem q (num u.T) with
        | false => rfl
        | true => have := h4.lt hx; omega
    rcases hl.2 with ⟨se, rfl, sT⟩ | ⟨se, sl, hr⟩
    · rcases hm.2 with ⟨ue, rfl, uT⟩ | ⟨ue, ul, hq⟩
      · rw [Sp.ext' e1 (by rw [sT, uT]) (by rw [se, ue])]
      · have h1 := endU ue
        rw [← h u.T u.hT, mem_cons, Bool.or_eq_false_iff] at h1
        have h2 := h1.1
        simp [Sp.inb, se, e1] at h2
        omega
    · rcases hm.2 with ⟨ue, rfl, uT⟩ | ⟨ue, ul, hq⟩
      · have h1 := endS se
        rw [h s.T s.hT, mem_cons, Bool.or_eq_false_iff] at h1
        have h2 := h1.1
        simp [Sp.inb, ue, ← e1] at h2
        omega
      · have e2 : s.T = u.T := by
          apply num_inj _ _ (by rw [s.hT, u.hT])
          have h1 := endS se
          have h2 := endU ue
          rw [h s.T s.hT, mem_cons, Bool.or_eq_false_iff] at h1
          rw [← h u.T u.hT, mem_cons, Bool.or_eq_false_iff] at h2
          have h3 := h1.1
          have h4 := h2.1
          simp [Sp.inb, ue, ← e1] at h3
          simp [Sp.inb, se, e1] at h4
          rw [e1] at sl h3
          omega
        have e3 : s = u := Sp.ext' e1 e2 (by rw [se, ue])
        subst e3
        have e4 : r = q := SetFrom.unique hr hq fun K hK => by
          have h1 := h K hK
          rw [mem_cons, mem_cons] at h1
          by_cases hx : (num s.T : Int) < num K
          · have : s.inb (num K) = false := by simp [Sp.inb, se]; omega
            rw [this] at h1
            simpa using h1
          · have a1 : mem r (num K) = false := by
              cases hz : mem r (num K) with
              | false => rfl
              | true => exact absurd (hr.lt hz) hx
            have a2 : mem q (num K) = false := by
              cases hz : mem q (num K) with
              | false => rfl
              | true => exact absurd (hq.lt hz) hx
            rw [a1, a2]
        rw [e4]
/-- The set of the keys of which g says so. -/
def Is (l : List Sp) (g : Int → Bool) : Prop := SetFrom (-1) l ∧ ∀ K : List UInt8, K.length = 24 → mem l (num K) = g (num K)
theorem Is.unique {l m : List Sp} {g h : Int → Bool} (hl : Is l g) (hm : Is m h) (he : ∀ K : List UInt8, K.length = 24 → g (num K) = h (num K)) : l = m :=
  hl.1.unique hm.1 fun K hK => by rw [hl.2 K hK, hm.2 K hK, he K hK]
theorem Is.none {l : List Sp} {g : Int → Bool} (hl : Is l g) (h : ∀ K : List UInt8, K.length = 24 → g (num K) = false) : l = [] :=
  hl.unique (m := []) (h := fun _ => false) ⟨trivial, fun _ _ => rfl⟩ h
theorem Is.some {l : List Sp} {g : Int → Bool} (hl : Is l g) (h : l ≠ []) : ∃ K : List UInt8, K.length = 24 ∧ g (num K) = true := by
  cases l with
  | nil => exact absurd rfl h
  | cons s r => exact ⟨s.F, s.hF, by rw [← hl.2 s.F s.hF, mem_cons, hl.1.first]; rfl⟩
end Go.Proofs.Ytbodbdcmkicmaaa
