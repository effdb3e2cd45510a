/- The key behind a key, the span of one key. -/
import Derived.Test.YtkencjibpljpfabKeyD
namespace Go.Proofs.Ytkencjibpljpfab
set_option linter.unusedVariables false
open Go.RowKit

/-- The least key above one: the bytes from place i down are counted on. -/
def nxt (K : List UInt8) : Nat → List UInt8 × Bool
  | 0 => (K, false)
  | i + 1 => if K.getD i 0 + 1 = 0 then nxt (K.set i 0) i else (K.set i (K.getD i 0 + 1), true)
theorem nxt_length (K : List UInt8) : ∀ i, (nxt K i).1.length = K.length := by
  intro i
  induction i generalizing K with
  | zero => rfl
  | succ i ih =>
    rw [nxt]
    split
    · rw [ih]; simp
    · simp
theorem u8_next (x : UInt8) : IntKind.u8.wrap ((x.toNat : Int) + 1) = (((x + 1).toNat : Nat) : Int) := by
  rw [IntKind.wrap_u8]
  simp [UInt8.toNat_add]
theorem u8_zero (x : UInt8) : ((x.toNat : Nat) : Int) = 0 ↔ x = 0 := by
  rw [← UInt8.toNat_inj]
  simp

theorem u8_back {x : UInt8} (h : x + 1 = 0) : x = 255 := by
  have h1 : (x + 1).toNat = 0 := by rw [h]; rfl
  rw [UInt8.toNat_add, show (1 : UInt8).toNat = 1 from rfl] at h1
  have h2 := x.toNat_lt
  exact UInt8.toNat_inj.1 (show x.toNat = 255 by omega)
theorem u8_less {x : UInt8} (h : ¬ x + 1 = 0) : (x.toNat : Int) < 255 := by
  have h1 := x.toNat_lt
  have h2 : x.toNat ≠ 255 := fun e => h (by
    have : x = 255 := UInt8.toNat_inj.1 (by rw [e]; rfl)
    subst this
    rfl)
  omega
theorem u8_plus {x : UInt8} (h : ¬ x + 1 = 0) : (((x + 1).toNat : Nat) : Int) = (x.toNat : Int) + 1 := by
  have := u8_less h
  rw [UInt8.toNat_add]
  have e : (1 : UInt8).toNat = 1 := rfl
  rw [e]
  omega
def oneT (K : List UInt8) : List UInt8 := (nxt K 24).1
def oneE (K : List UInt8) : Bool := !(nxt K 24).2
theorem oneT_length (K : List UInt8) (h : K.length = 24) : (oneT K).length = 24 := by rw [oneT, nxt_length, h]
end Go.Proofs.Ytkencjibpljpfab
