/- InodeBounds: a file has a value just if its links and its size may be, a directory just if both are 0. -/
import Derived.Test.YtgijkgcekfbgeaaDoorInS
namespace Go.Proofs.YtgijkgcekfbgeaaDoor
set_option linter.unusedVariables false
open Go.RowKit

theorem right_file (l s : Int) : rightI ⟨false, l, s⟩ = (decide (1 ≤ l) && decide (l ≤ 65535) && decide (0 ≤ s) && decide (s ≤ 1048576)) := by
  simp [rightI, isDir, isFil]
theorem right_dir (l s : Int) : rightI ⟨true, l, s⟩ = (decide (l = 0) && decide (s = 0)) := by
  simp [rightI, isDir, isFil]
set_option maxHeartbeats 1600000 in
theorem bounds_walk (w : World) (l s : Int) : Calls Tryd.prog 6 #[.int .i64 l, .int .i64 s] w fun e w' => e = .returned (.bool true) ∧ Below w.heap.size w w' := by
  have HV1 := fun w => value_calls w ⟨false, l, s⟩
  have HV2 := fun w => value_calls w ⟨true, l, s⟩
  rw [right_file] at HV1
  rw [right_dir] at HV2
  obtain ⟨F, hF⟩ : ∃ F : Bool, Hid (F = (decide (1 ≤ l) && decide (l ≤ 65535) && decide (0 ≤ s) && decide (s ≤ 1048576))) := ⟨_, rfl⟩
  obtain ⟨D, hD⟩ : ∃ D : Bool, Hid (D = (decide (l = 0) && decide (s = 0))) := ⟨_, rfl⟩
  rw [← hF.out] at HV1
  rw [← hD.out] at HV2
  go_enter Tryd.func6, Tryd.ntmps6
  go_wp2_with fail
  refine (shown_calls _).mono ?_
  rintro e w1 ⟨rfl, H1⟩
  go_wp2_with fail
  refine (HV1 _).mono ?_
  rintro e w2 ⟨rfl, H2⟩
  replace H2 := H1.trans (H2.mono H1.size)
  clear H1 HV1
  go_wp2_with fail
  refine (HV2 _).mono ?_
  rintro e w3 ⟨rfl, H3⟩
  replace H3 := H2.trans (H3.mono H2.size)
  clear H2 HV2
  go_wp2
  all_goals
    go_ret
    refine ⟨congrArg (fun b => Ending.returned (Value.bool b)) ?_, H3⟩
    have hF := hF.out
    have hD := hD.out
    first
    | (simp_all; done)
    | (simp_all; omega)
    | (simp_all; rw [Bool.eq_iff_iff]; simp; done)
end Go.Proofs.YtgijkgcekfbgeaaDoor
