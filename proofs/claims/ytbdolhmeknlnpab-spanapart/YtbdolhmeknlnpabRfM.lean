/- Masks and remainders on an int. -/
import Derived.WalkKit
namespace Go.Proofs.Ytbdolhmeknlnpab
set_option linter.unusedVariables false
theorem and_ones (n : Int) (m j : Nat) (hm : (BitVec.ofInt 64 (m : Int)).toNat = 2 ^ j - 1) : (BitVec.ofInt 64 n &&& BitVec.ofInt 64 (m : Int)).toNat = (n % ((2 ^ 64 : Nat) : Int)).toNat % 2 ^ j := by
  rw [BitVec.toNat_and, BitVec.toNat_ofInt, hm, Nat.and_two_pow_sub_one_eq_mod]
theorem and63 (n : Int) : bits .and .i64 n 63 = n % 64 := by
  show IntKind.i64.wrap ((BitVec.ofInt 64 n &&& BitVec.ofInt 64 ((63 : Nat) : Int)).toNat : Nat) = n % 64
  rw [and_ones n 63 6 (by decide), IntKind.wrap_i64]
  omega
theorem and65535 (n : Int) : bits .and .i64 n 65535 = n % 65536 := by
  show IntKind.i64.wrap ((BitVec.ofInt 64 n &&& BitVec.ofInt 64 ((65535 : Nat) : Int)).toNat : Nat) = n % 65536
  rw [and_ones n 65535 16 (by decide), IntKind.wrap_i64]
  omega
theorem and24 (n : Int) : bits .and .i64 n 16777215 = n % 16777216 := by
  show IntKind.i64.wrap ((BitVec.ofInt 64 n &&& BitVec.ofInt 64 ((16777215 : Nat) : Int)).toNat : Nat) = n % 16777216
  rw [and_ones n 16777215 24 (by decide), IntKind.wrap_i64]
  omega
theorem and32 (n : Int) : bits .and .i64 n 4294967295 = n % 4294967296 := by
  show IntKind.i64.wrap ((BitVec.ofInt 64 n &&& BitVec.ofInt 64 ((4294967295 : Nat) : Int)).toNat : Nat) = n % 4294967296
  rw [and_ones n 4294967295 32 (by decide), IntKind.wrap_i64]
  omega
open Go.RowKit
theorem wrap64_of_range {x : Int} (h1 : -9223372036854775808 ≤ x) (h2 : x ≤ 9223372036854775807) : wrap64 x = x := by unfold wrap64; omega
theorem add_lit (g off n : Nat) : (⟨g, off, none⟩ : Addr).add n = ⟨g, off + n, none⟩ := by unfold Addr.add; split <;> simp_all
end Go.Proofs.Ytbdolhmeknlnpab
