/- The spans of a directory's entries and of a file's chunks, as numbers. -/
import Derived.Test.YtbdolhmeknlnpabSpJ
namespace Go.Proofs.Ytbdolhmeknlnpab
set_option linter.unusedVariables false
open Go.RowKit

theorem num_append (a b : List UInt8) : num (a ++ b) = num a * 256 ^ b.length + num b := by
  rw [num, List.foldl_append, foldl_split]
  rfl
theorem num_head (n : Nat) (k : UInt8) (hn : n < 4294967296) : num (headK n k) = (256 * n + k.toNat) * 256 ^ 19 := by
  have h4 : n < 256 ^ 4 := by rw [p4]; exact hn
  rw [headK, num_append, num_be 4 n h4, num_cons, num_zs, List.length_cons, zs_length, Nat.pow_succ]
  generalize 256 ^ 19 = P
  rw [Nat.add_mul, ← Nat.mul_assoc, Nat.mul_comm 256 n, Nat.mul_assoc n 256 P, Nat.mul_assoc n P 256, Nat.mul_comm P 256, Nat.add_zero]
theorem num_chunk (n p : Nat) (hn : n < 4294967296) (hp : p < 4294967296) : num (chunkK n p) = (256 * n + 3) * 256 ^ 19 + p := by
  have h4 : n < 256 ^ 4 := by rw [p4]; exact hn
  have h5 : p < 256 ^ 4 := by rw [p4]; exact hp
  have hl : (zs 15 ++ be p 4).length = 19 := by simp [zs_length, be_length]
  rw [chunkK, num_append, num_be 4 n h4, num_cons, num_append, num_zs, num_be 4 p h5, List.length_cons, hl, Nat.pow_succ]
  generalize 256 ^ 19 = P
  have e : (3 : UInt8).toNat = 3 := rfl
  rw [e, Nat.add_mul, Nat.zero_mul, Nat.zero_add, ← Nat.mul_assoc, Nat.mul_comm 256 n, Nat.mul_assoc n 256 P, Nat.mul_assoc n P 256, Nat.mul_comm P 256, Nat.add_assoc]
def entS (n : Int) : Sp := ⟨entriesF n, entriesT n, false, entriesF_length n, entriesT_length n⟩
def chS (n p : Int) : Sp := ⟨chunksF n p, chunksT n p, false, chunksF_length n p, chunksT_length n p⟩
theorem Pbig : 4294967296 ≤ 256 ^ 19 := by decide
def qx (x : Nat) : Nat := x / 256 ^ 19
def rx (x : Nat) : Nat := x % 256 ^ 19
theorem ent_inb (n : Int) (h1 : 1 ≤ n) (h2 : n ≤ 16777216) (x : Nat) : (entS n).inb (x : Int) = decide (((qx x : Nat) : Int) = 256 * n + 2) := by
  unfold qx
  have ok : okN n = true := by simp [okN]; omega
  have hP : 0 < 256 ^ 19 := pow_pos256 19
  have e1 : num (entS n).F = (256 * n.toNat + 2) * 256 ^ 19 := by
    show num (entriesF n) = _
    rw [entriesF, if_pos ok, num_head _ _ (by omega)]
    rfl
  have e2 : num (entS n).T = (256 * n.toNat + 3) * 256 ^ 19 := by
    show num (entriesT n) = _
    rw [entriesT, if_pos ok, num_head _ _ (by omega)]
    rfl
  have e3 : (entS n).e = false := rfl
  unfold Sp.inb
  rw [e1, e2, e3]
  have a1 := Nat.le_div_iff_mul_le (x := 256 * n.toNat + 2) (y := x) hP
  have a2 := Nat.div_lt_iff_lt_mul (x := x) (y := 256 * n.toNat + 3) hP
  generalize 256 ^ 19 = P at *
  generalize x / P = q at *
  generalize (256 * n.toNat + 2) * P = F at *
  generalize (256 * n.toNat + 3) * P = T at *
  rw [Bool.eq_iff_iff]
  simp
  omega
theorem ch_inb (n p : Int) (h1 : 1 ≤ n) (h2 : n ≤ 16777216) (h3 : 0 ≤ p) (h4 : p ≤ 4294967295) (x : Nat) : (chS n p).inb (x : Int) = (decide (((qx x : Nat) : Int) = 256 * n + 3) && decide (p ≤ ((rx x : Nat) : Int))) := by
  unfold qx rx
  have ok : (okN n && okP p) = true := by simp [okN, okP]; omega
  have hP : 0 < 256 ^ 19 := pow_pos256 19
  have hb := Pbig
  have e1 : num (chS n p).F = (256 * n.toNat + 3) * 256 ^ 19 + p.toNat := by
    show num (chunksF n p) = _
    rw [chunksF, chunkR, if_pos ok, num_chunk _ _ (by omega) (by omega)]
  have e2 : num (chS n p).T = (256 * n.toNat + 4) * 256 ^ 19 := by
    show num (chunksT n p) = _
    rw [chunksT, if_pos ok, num_head _ _ (by omega)]
    rfl
  have e3 : (chS n p).e = false := rfl
  unfold Sp.inb
  rw [e1, e2, e3]
  have a2 := Nat.div_lt_iff_lt_mul (x := x) (y := 256 * n.toNat + 4) hP
  have a3 := Nat.div_add_mod x (256 ^ 19)
  have a4 := Nat.mod_lt x hP
  have hA : p.toNat < 256 ^ 19 := by omega
  generalize 256 ^ 19 = P at *
  rw [Nat.mul_comm P] at a3
  have m1 : ∀ A B : Nat, A < B → A * P + P ≤ B * P := fun A B h => by
    have := Nat.mul_le_mul_right P (show A + 1 ≤ B from h)
    rwa [Nat.add_mul, Nat.one_mul] at this
  have m2 := m1 (256 * n.toNat + 3) (x / P)
  have m3 := m1 (x / P) (256 * n.toNat + 3)
  have m4 : 256 * n.toNat + 3 = x / P → (256 * n.toNat + 3) * P = x / P * P := fun h => by rw [h]
  generalize x / P = q at *
  generalize x % P = r at *
  generalize (256 * n.toNat + 3) * P = F at *
  generalize (256 * n.toNat + 4) * P = T at *
  generalize q * P = Q at *
  rw [Bool.eq_iff_iff]
  simp
  rcases Nat.lt_trichotomy (256 * n.toNat + 3) q with h | h | h
  · have := m2 h
    omega
  · have := m4 h
    omega
  · have := m3 h
    omega
theorem ents_calls (n : Int) (E : Sp) (hE : E = entS n) (w : World) : Calls Try.prog 11 #[.int .i64 n] w fun e w' => e = .returned (spv E) ∧ Below w.heap.size w w' := by
  subst hE
  exact entries_calls n w
theorem chs_calls (n p : Int) (E : Sp) (hE : E = chS n p) (w : World) : Calls Try.prog 12 #[.int .i64 n, .int .i64 p] w fun e w' => e = .returned (spv E) ∧ Below w.heap.size w w' := by
  subst hE
  exact chunks_calls n p w
theorem mem_one (s : Sp) (x : Int) : mem [s] x = s.inb x := by simp [mem]
theorem one_set (s : Sp) (h : num s.F < num s.T) (he : s.e = false) : Is [s] (mem [s]) := ⟨⟨by omega, .inr ⟨he, by omega, trivial⟩⟩, fun _ _ => rfl⟩
theorem ent_lt (n : Int) (h1 : 1 ≤ n) (h2 : n ≤ 16777216) : num (entS n).F < num (entS n).T := by
  have ok : okN n = true := by simp [okN]; omega
  show num (entriesF n) < num (entriesT n)
  rw [entriesF, entriesT, if_pos ok, if_pos ok, num_head _ _ (by omega), num_head _ _ (by omega)]
  have hP : 0 < 256 ^ 19 := pow_pos256 19
  exact Nat.mul_lt_mul_of_pos_right (by simp) hP
theorem ch_lt (n p : Int) (h1 : 1 ≤ n) (h2 : n ≤ 16777216) (h3 : 0 ≤ p) (h4 : p ≤ 4294967295) : num (chS n p).F < num (chS n p).T := by
  have ok : (okN n && okP p) = true := by simp [okN, okP]; omega
  show num (chunksF n p) < num (chunksT n p)
  rw [chunksF, chunkR, chunksT, if_pos ok, if_pos ok, num_chunk _ _ (by omega) (by omega), num_head _ _ (by omega)]
  have hb := Pbig
  have e : (4 : UInt8).toNat = 4 := rfl
  rw [e, show 256 * n.toNat + 4 = 256 * n.toNat + 3 + 1 by omega, Nat.add_mul _ 1, Nat.one_mul]
  omega
end Go.Proofs.Ytbdolhmeknlnpab
