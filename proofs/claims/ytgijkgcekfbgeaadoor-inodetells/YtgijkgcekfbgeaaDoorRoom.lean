/- A writer takes as many bytes as it has room for, and no more: the walk of PackRoom. -/
import Derived.Test.YtgijkgcekfbgeaaDoorShown
import Derived.Test.YtgijkgcekfbgeaaDoorBeMath
import Derived.Test.YtgijkgcekfbgeaaDoorMasks
import Derived.Deep.QuietTactic
import Derived.BigQuiet
namespace Go.Proofs.YtgijkgcekfbgeaaDoor
set_option linter.unusedVariables false
open Go.RowKit

/-- A slice of strings that came in. -/
def StrsIn (w : World) (a : Option Addr) (len : Nat) (ss : Nat → ByteArray) : Prop :=
  ∀ i, i < len → ∃ b off, a = some ⟨b, off, none⟩ ∧ b < w.heap.size ∧ w.cell? ⟨b, off + i, none⟩ = some (.string (ss i)) ∧ (ss i).size ≤ maxLen

theorem text_fits (m : Int) (L : List UInt8) (t : ByteArray) (h : (L.length : Int) + 1 + t.size ≤ m) (ht : t.size ≤ 255) : WS.text ⟨m, L, false⟩ t = ⟨m, L ++ be t.size 1 ++ t.data.toList, false⟩ := by
  have hb : t.data.toList.length = t.size := by simp
  unfold WS.text WS.byte
  rw [if_neg (by omega)]
  have e : WS.put ⟨m, L, false⟩ (be ((t.size : Int)).toNat 1) = ⟨m, L ++ be t.size 1, false⟩ := by
    unfold WS.put
    rw [if_neg (by simp), if_pos (by rw [be_length]; simp; omega), Int.toNat_natCast]
  rw [e]
  unfold WS.put
  rw [if_neg (by simp), if_pos (by rw [hb, List.length_append, be_length]; simp; omega)]
theorem put_bad (s : WS) (h : s.bad = true) (x : List UInt8) : s.put x = s := by unfold WS.put; rw [if_pos h]
theorem text_over (m : Int) (L : List UInt8) (t : ByteArray) (h : m < (L.length : Int) + 1 + t.size) (ht : t.size ≤ 255) : (WS.text ⟨m, L, false⟩ t).bad = true := by
  have hb : t.data.toList.length = t.size := by simp
  unfold WS.text WS.byte
  rw [if_neg (by omega)]
  by_cases h1 : (L.length : Int) + 1 ≤ m
  · have e : WS.put ⟨m, L, false⟩ (be ((t.size : Int)).toNat 1) = ⟨m, L ++ be t.size 1, false⟩ := by
      unfold WS.put
      rw [if_neg (by simp), if_pos (by rw [be_length]; simp; omega), Int.toNat_natCast]
    rw [e]
    unfold WS.put
    rw [if_neg (by simp), if_neg (by rw [hb, List.length_append, be_length]; simp; omega)]
    rfl
  · have e : WS.put ⟨m, L, false⟩ (be ((t.size : Int)).toNat 1) = ⟨m, [], true⟩ := by
      unfold WS.put
      rw [if_neg (by simp), if_neg (by rw [be_length]; simp; omega)]
      rfl
    rw [e, put_bad _ rfl]
theorem fill_fits (m : Int) (L : List UInt8) (h : (L.length : Int) ≤ m) : ∃ L', WS.fill ⟨m, L, false⟩ m = ⟨m, L', false⟩ ∧ (L'.length : Int) = m := by
  refine ⟨L ++ List.replicate (m - L.length).toNat 0, ?_, ?_⟩
  · unfold WS.fill WS.put
    rw [if_neg (by simp; omega), if_neg (by simp), if_pos (by simp; omega)]
  · simp
    omega

/-- The first n bytes of a string. -/
theorem cut_size (t : ByteArray) (n : Nat) (h : n ≤ t.size) : (t.extract 0 n).size = n := by simp; omega

end Go.Proofs.YtgijkgcekfbgeaaDoor
