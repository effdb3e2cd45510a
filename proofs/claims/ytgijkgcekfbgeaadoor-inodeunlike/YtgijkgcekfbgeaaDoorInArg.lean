/- Inodes that came in. -/
import Derived.Test.YtgijkgcekfbgeaaDoorInA
import Derived.Test.YtgijkgcekfbgeaaDoorRowKit
namespace Go.Proofs.YtgijkgcekfbgeaaDoor
set_option linter.unusedVariables false
open Go.ChangeShapes Go.WideShapes Go.ChangeAt Go.RowKit

theorem cell_bool {W : World} {base : Nat} {v : Value} (h : Cell.okWide Tryd.prog W .any base 4 v) : ∃ b : Bool, v = .bool b := by
  unfold Cell.okWide at h
  rw [Tryd.underlying4] at h
  cases v <;> simp only [Cell.ok, Tryd.underlying4] at h
  exact ⟨_, rfl⟩
theorem cell_i64 {W : World} {base : Nat} {v : Value} (h : Cell.okWide Tryd.prog W .any base 3 v) : ∃ n : Int, v = .int .i64 n := by
  unfold Cell.okWide at h
  rw [Tryd.underlying3] at h
  cases v <;> simp only [Cell.ok, Tryd.underlying3] at h
  rename_i k n
  obtain ⟨rfl, h⟩ := h
  exact ⟨_, rfl⟩
theorem open_ino {W : World} {base : Nat} {v : Value} (h : Value.okWide Tryd.prog W .any base 23 v) : ∃ n : Ino, v = iv n := by
  unfold Value.okWide at h
  rw [Tryd.underlying23] at h
  obtain ⟨cs, rfl, hsz, ts, hts, _, hc⟩ := h
  have h1 : Tryd.prog.cellTypes Tryd.prog.depth 23 = some [4, 3, 3] := by kernel_rfl
  have h2 : Tryd.prog.cellsOf 23 = 3 := by kernel_rfl
  rw [h1] at hts
  cases hts
  rw [h2] at hsz
  obtain ⟨cs⟩ := cs
  match cs, hsz, hc with
  | [x, y, z], _, hc =>
    obtain ⟨u0, k0, g0⟩ := hc 0 x rfl
    obtain ⟨u1, k1, g1⟩ := hc 1 y rfl
    obtain ⟨u2, k2, g2⟩ := hc 2 z rfl
    cases k0
    cases k1
    cases k2
    obtain ⟨a, rfl⟩ := cell_bool g0
    obtain ⟨b, rfl⟩ := cell_i64 g1
    obtain ⟨c, rfl⟩ := cell_i64 g2
    exact ⟨⟨a, b, c⟩, rfl⟩
end Go.Proofs.YtgijkgcekfbgeaaDoor
