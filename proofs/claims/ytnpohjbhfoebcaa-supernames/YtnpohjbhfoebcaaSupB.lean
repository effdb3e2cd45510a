/- Right, and the fields that a block has. -/
import Derived.Test.YtnpohjbhfoebcaaSupA
namespace Go.Proofs.Ytnpohjbhfoebcaa
set_option linter.unusedVariables false
open Go.RowKit

set_option maxHeartbeats 4000000 in
theorem right_calls (w : World) (sv : Value) (S : Sup) (r : Option Nat) (h : SnapsIn w sv S.l r) (hr : ∀ k, r = some k → k < w.heap.size) :
    Calls Try.prog 7 #[uv S sv] w fun e w' => e = .returned (.bool (right S)) ∧ Below w.heap.size w w' := by
  obtain ⟨g, rt, x, c, l⟩ := S
  have hx : right ⟨g, rt, x, c, l⟩ = (decide (1 ≤ g) && decide (g ≤ 281474976710655) && okRoot rt && decide (2 ≤ x) && decide (x ≤ 1073741824) && decide (0 ≤ c) && decide (c ≤ 281474976710655) && (decide (l.length ≤ 8) && okFrom [] c l)) := by
    simp only [right, Bool.and_assoc]
  rw [hx]
  clear hx
  have hA : ∀ o, Calls Try.prog 14 #[sv, .int .i64 c] (w.alloc o) fun e w' => e = .returned (.bool (decide (l.length ≤ 8) && okFrom [] c l)) ∧ Below (w.alloc o).heap.size (w.alloc o) w' := fun o => areSnaps_calls _ sv l r c (h.kept fun k hk => Below.heap_alloc _ _ _ (hr k hk))
  clear h hr
  generalize (decide (l.length ≤ 8) && okFrom [] c l) = z at *
  have hb : ∀ o, Below w.heap.size w (w.alloc o) := fun o => (Below.refl _ _).alloc (Nat.le_refl _) o
  by_cases q1 : 1 ≤ g
  rotate_left
  · go_enter Try.func7, Try.ntmps7
    go_wp2
    go_ret
    exact ⟨Eq.trans rfl (congrArg (fun b => Ending.returned (Value.bool b)) (show false = _ by rw [decide_eq_false (show ¬ 1 ≤ g by omega)]; simp)), hb _⟩
  by_cases q2 : g ≤ 281474976710655
  rotate_left
  · go_enter Try.func7, Try.ntmps7
    go_wp2
    go_ret
    exact ⟨Eq.trans rfl (congrArg (fun b => Ending.returned (Value.bool b)) (show false = _ by rw [decide_eq_false (show ¬ g ≤ 281474976710655 by omega)]; simp)), hb _⟩
  cases qr : okRoot rt with
  | false =>
    go_enter Try.func7, Try.ntmps7
    go_wp2_with (go_at_call 13; refine (isRoot_calls rt _).mono ?_; rintro e w1 ⟨rfl, rfl⟩; rw [qr])
    go_ret
    exact ⟨by rw [decide_eq_true (show 1 ≤ g by omega), decide_eq_true (show g ≤ 281474976710655 by omega)]; rfl, hb _⟩
  | true =>
  by_cases q4 : 2 ≤ x
  rotate_left
  · go_enter Try.func7, Try.ntmps7
    go_wp2_with (go_at_call 13; refine (isRoot_calls rt _).mono ?_; rintro e w1 ⟨rfl, rfl⟩; rw [qr])
    go_ret
    exact ⟨Eq.trans rfl (congrArg (fun b => Ending.returned (Value.bool b)) (show false = _ by rw [decide_eq_false (show ¬ 2 ≤ x by omega)]; simp)), hb _⟩
  by_cases q5 : x ≤ 1073741824
  rotate_left
  · go_enter Try.func7, Try.ntmps7
    go_wp2_with (go_at_call 13; refine (isRoot_calls rt _).mono ?_; rintro e w1 ⟨rfl, rfl⟩; rw [qr])
    go_ret
    exact ⟨Eq.trans rfl (congrArg (fun b => Ending.returned (Value.bool b)) (show false = _ by rw [decide_eq_false (show ¬ x ≤ 1073741824 by omega)]; simp)), hb _⟩
  by_cases q6 : 0 ≤ c
  rotate_left
  · go_enter Try.func7, Try.ntmps7
    go_wp2_with (go_at_call 13; refine (isRoot_calls rt _).mono ?_; rintro e w1 ⟨rfl, rfl⟩; rw [qr])
    go_ret
    exact ⟨Eq.trans rfl (congrArg (fun b => Ending.returned (Value.bool b)) (show false = _ by rw [decide_eq_false (show ¬ 0 ≤ c by omega)]; simp)), hb _⟩
  by_cases q7 : c ≤ 281474976710655
  rotate_left
  · go_enter Try.func7, Try.ntmps7
    go_wp2_with (go_at_call 13; refine (isRoot_calls rt _).mono ?_; rintro e w1 ⟨rfl, rfl⟩; rw [qr])
    go_ret
    exact ⟨Eq.trans rfl (congrArg (fun b => Ending.returned (Value.bool b)) (show false = _ by rw [decide_eq_false (show ¬ c ≤ 281474976710655 by omega)]; simp)), hb _⟩
  go_enter Try.func7, Try.ntmps7
  go_wp2_with (first | (go_at_call 13; refine (isRoot_calls rt _).mono ?_; rintro e w1 ⟨rfl, rfl⟩; rw [qr]) | (go_at_call 14; refine (hA _).mono ?_; rintro e w1 ⟨rfl, b1⟩))
  go_ret
  exact ⟨by rw [decide_eq_true (show 1 ≤ g by omega), decide_eq_true (show g ≤ 281474976710655 by omega), decide_eq_true (show 2 ≤ x by omega), decide_eq_true (show x ≤ 1073741824 by omega), decide_eq_true (show 0 ≤ c by omega), decide_eq_true (show c ≤ 281474976710655 by omega)]; cases z <;> rfl, (hb _).trans (b1.mono (by simp))⟩
end Go.Proofs.Ytnpohjbhfoebcaa
