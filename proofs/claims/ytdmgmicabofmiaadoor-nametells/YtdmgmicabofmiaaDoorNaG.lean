/- Texts and lists as the statements of stage 10 cut them; masks. -/
import Derived.Test.YtdmgmicabofmiaaDoorNaF
import Derived.Test.YtdmgmicabofmiaaDoorMasks
namespace Go.Proofs.YtdmgmicabofmiaaDoor
set_option linter.unusedVariables false
open Go.RowKit

theorem and511 (n : Int) : bits .and .i64 n 511 = n % 512 := by
  show IntKind.i64.wrap ((BitVec.ofInt 64 n &&& BitVec.ofInt 64 ((511 : Nat) : Int)).toNat : Nat) = n % 512
  rw [and_ones n 511 9 (by decide), IntKind.wrap_i64]
  omega
/-- A text's beginning. -/
theorem cut_text (s : ByteArray) (k : Nat) (K : Int) (hK : K = (k : Int)) : ∃ m : Nat, min (s.size : Int) K = (m : Int) ∧ (m : Int) ≤ (s.size : Int) ∧ (s.extract 0 m).size ≤ k := by
  refine ⟨min s.size k, by omega, by omega, ?_⟩
  rw [ByteArray.size_extract]
  omega
theorem cut_list (n k : Nat) (K : Int) (hK : K = (k : Int)) : ∃ m : Nat, min (n : Int) K = (m : Int) ∧ (m : Int) ≤ (n : Int) ∧ m ≤ n ∧ m ≤ k := ⟨min n k, by omega, by omega, by omega, by omega⟩
theorem le_i64 {n : Nat} (h : n ≤ 1000000) : -9223372036854775808 ≤ (n : Int) ∧ (n : Int) ≤ 9223372036854775807 := by omega
end Go.Proofs.YtdmgmicabofmiaaDoor
