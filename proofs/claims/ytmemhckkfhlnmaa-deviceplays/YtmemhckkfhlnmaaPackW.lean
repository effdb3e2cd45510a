/- What each call on a pack.Writer does to the writer and to the rest of memory. -/
import Derived.Test.YtmemhckkfhlnmaaRows
import Derived.Test.YtmemhckkfhlnmaaBase
import Derived.Deep.QuietTactic
import Derived.BigQuiet
import Derived.Deep.RegionHeld3
import Derived.Deep.RegionLaw
namespace Go.Proofs.Ytmemhckkfhlnmaa
set_option linter.unusedVariables false
open Go.RowKit
theorem Try.info_u8 : (Try.prog.info? 5).map (fun i => (i.zero, i.size, i.bytes)) = some (some (.int .u8 0), 1, 1) := by kernel_rfl

theorem own_form {w : World} {base : Nat} {e : TypeId} {sv : Value} {n : Nat} {xs : List Value} (ho : w.ownsRow base e 1 sv n xs) : ∃ a c, sv = .slice a n c := by
  rcases ho.2 with ⟨rfl, h0⟩ | ⟨g, cap, cur, rfl, _⟩
  · exact ⟨none, 0, by rw [h0]⟩
  · exact ⟨_, _, rfl⟩

/-- The bytes of a number, k of them, the highest first. -/
def be (v : Nat) : Nat → List UInt8
  | 0 => []
  | k + 1 => UInt8.ofNat (v / 256 ^ k) :: be v k
theorem be_length (v k : Nat) : (be v k).length = k := by induction k with
  | zero => rfl
  | succ k ih => simp [be, ih]
theorem be_take (v : Nat) : ∀ (n k j : Nat), j + k + 1 = n → (be v n).take (k + 1) = (be v n).take k ++ [UInt8.ofNat (v / 256 ^ j)]
  | 0, k, j, h => by omega
  | n + 1, 0, j, h => by
    have : j = n := by omega
    subst this
    simp [be]
  | n + 1, k + 1, j, h => by
    have ih := be_take v n k j (by omega)
    simp only [be, List.take_succ_cons, List.cons_append, ih]
theorem u8_be (v : Nat) (j : Int) (h0 : 0 ≤ j) : IntKind.u8.wrap ((v : Int) / 2 ^ (8 * j).toNat) = ((UInt8.ofNat (v / 256 ^ j.toNat)).toNat : Int) := by
  obtain ⟨n, rfl⟩ := Int.eq_ofNat_of_zero_le h0
  have e1 : (8 * (n : Int)).toNat = 8 * n := by omega
  have e3 : (2 : Int) ^ (8 * n) = ((256 ^ n : Nat) : Int) := by rw [Int.pow_mul]; simp
  rw [e1, Int.toNat_natCast, e3, ← Int.natCast_ediv, IntKind.wrap_u8]
  simp

end Go.Proofs.Ytmemhckkfhlnmaa
