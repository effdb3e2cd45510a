/- 'n & mask' on an int, for masks of ones: what is left of n by 2 to the number of ones. -/
import Derived.WalkKit
namespace Go.Proofs.YtgijkgcekfbgeaaDoor
set_option linter.unusedVariables false
theorem and_ones (n : Int) (m j : Nat) (hm : (BitVec.ofInt 64 (m : Int)).toNat = 2 ^ j - 1) : (BitVec.ofInt 64 n &&& BitVec.ofInt 64 (m : Int)).toNat = (n % ((2 ^ 64 : Nat) : Int)).toNat % 2 ^ j := by
  rw [BitVec.toNat_and, BitVec.toNat_ofInt, hm, Nat.and_two_pow_sub_one_eq_mod]
theorem and3 (n : Int) : bits .and .i64 n 3 = n % 4 := by
  show IntKind.i64.wrap ((BitVec.ofInt 64 n &&& BitVec.ofInt 64 ((3 : Nat) : Int)).toNat : Nat) = n % 4
  rw [and_ones n 3 2 (by decide), IntKind.wrap_i64]
  omega
theorem and255 (n : Int) : bits .and .i64 n 255 = n % 256 := by
  show IntKind.i64.wrap ((BitVec.ofInt 64 n &&& BitVec.ofInt 64 ((255 : Nat) : Int)).toNat : Nat) = n % 256
  rw [and_ones n 255 8 (by decide), IntKind.wrap_i64]
  omega
theorem and1023 (n : Int) : bits .and .i64 n 1023 = n % 1024 := by
  show IntKind.i64.wrap ((BitVec.ofInt 64 n &&& BitVec.ofInt 64 ((1023 : Nat) : Int)).toNat : Nat) = n % 1024
  rw [and_ones n 1023 10 (by decide), IntKind.wrap_i64]
  omega
theorem and4095 (n : Int) : bits .and .i64 n 4095 = n % 4096 := by
  show IntKind.i64.wrap ((BitVec.ofInt 64 n &&& BitVec.ofInt 64 ((4095 : Nat) : Int)).toNat : Nat) = n % 4096
  rw [and_ones n 4095 12 (by decide), IntKind.wrap_i64]
  omega
theorem and32 (n : Int) : bits .and .i64 n 4294967295 = n % 4294967296 := by
  show IntKind.i64.wrap ((BitVec.ofInt 64 n &&& BitVec.ofInt 64 ((4294967295 : Nat) : Int)).toNat : Nat) = n % 4294967296
  rw [and_ones n 4294967295 32 (by decide), IntKind.wrap_i64]
  omega
end Go.Proofs.YtgijkgcekfbgeaaDoor
