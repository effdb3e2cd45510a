/- The document's own words: Right. -/
import Derived.Test.YtbjnbobohkjhiaaRefRu
namespace Go.Proofs.Ytbjnbobohkjhiaa
set_option linter.unusedVariables false
open Go.RowKit

set_option maxHeartbeats 8000000 in
set_option maxRecDepth 100000 in
theorem rright_calls (w : World) (S : Sup) (sv : Value) (h : Sna w sv S.l) :
    Calls Try.prog 17 #[uv S sv] w fun e w' => e = .returned (.bool (right S)) ∧ Below w.heap.size w w' := by
  obtain ⟨r, ⟨ad, cap, rfl, hcap, hmax, hin⟩, hr⟩ := h
  obtain ⟨g, rt, x, c, l⟩ := S
  simp only at hin hcap hmax
  have hx : right ⟨g, rt, x, c, l⟩ = (decide (1 ≤ g) && decide (g ≤ 281474976710655) && okRoot rt && decide (2 ≤ x) && decide (x ≤ 1073741824) && decide (0 ≤ c) && decide (c ≤ 281474976710655) && (decide (l.length ≤ 8) && okFrom [] c l)) := by
    simp only [right, Bool.and_assoc]
  rw [hx]
  clear hx
  have hb : ∀ o, Below w.heap.size w (w.alloc o) := fun o => (Below.refl _ _).alloc (Nat.le_refl _) o
  have HIN : Hid (l = [] ∨ ∃ g off, ad = some ⟨g, off, none⟩ ∧ r = some g ∧ g < w.heap.size ∧ ∀ i (hi : i < l.length), SnpAt w g (off + i * 3) l[i]) := hin
  clear hin hr
  by_cases q1 : 1 ≤ g
  rotate_left
  · go_enter Try.func17, Try.ntmps17
    go_wp2
    go_ret
    exact ⟨Eq.trans rfl (congrArg (fun b => Ending.returned (Value.bool b)) (show false = _ by rw [decide_eq_false (show ¬ 1 ≤ g by omega)]; simp)), hb _⟩
  by_cases q2 : g ≤ 281474976710655
  rotate_left
  · go_enter Try.func17, Try.ntmps17
    go_wp2
    go_ret
    exact ⟨Eq.trans rfl (congrArg (fun b => Ending.returned (Value.bool b)) (show false = _ by rw [decide_eq_false (show ¬ g ≤ 281474976710655 by omega)]; simp)), hb _⟩
  by_cases q4 : 2 ≤ x
  rotate_left
  · go_enter Try.func17, Try.ntmps17
    go_wp2
    go_ret
    exact ⟨Eq.trans rfl (congrArg (fun b => Ending.returned (Value.bool b)) (show false = _ by rw [decide_eq_false (show ¬ 2 ≤ x by omega)]; simp)), hb _⟩
  by_cases q5 : x ≤ 1073741824
  rotate_left
  · go_enter Try.func17, Try.ntmps17
    go_wp2
    go_ret
    exact ⟨Eq.trans rfl (congrArg (fun b => Ending.returned (Value.bool b)) (show false = _ by rw [decide_eq_false (show ¬ x ≤ 1073741824 by omega)]; simp)), hb _⟩
  by_cases q6 : 0 ≤ c
  rotate_left
  · go_enter Try.func17, Try.ntmps17
    go_wp2
    go_ret
    exact ⟨Eq.trans rfl (congrArg (fun b => Ending.returned (Value.bool b)) (show false = _ by rw [decide_eq_false (show ¬ 0 ≤ c by omega)]; simp)), hb _⟩
  by_cases q7 : c ≤ 281474976710655
  rotate_left
  · go_enter Try.func17, Try.ntmps17
    go_wp2
    go_ret
    exact ⟨Eq.trans rfl (congrArg (fun b => Ending.returned (Value.bool b)) (show false = _ by rw [decide_eq_false (show ¬ c ≤ 281474976710655 by omega)]; simp)), hb _⟩
  by_cases q8 : l.length ≤ 8
  rotate_left
  · go_enter Try.func17, Try.ntmps17
    go_wp2
    go_ret
    exact ⟨Eq.trans rfl (congrArg (fun b => Ending.returned (Value.bool b)) (show false = _ by rw [decide_eq_false (show ¬ l.length ≤ 8 by omega)]; simp)), hb _⟩
  cases qr : okRoot rt with
  | false =>
    go_enter Try.func17, Try.ntmps17
    go_wp2_with (go_at_call 30; refine (rroot_calls rt _).mono ?_; rintro e w1 ⟨rfl, rfl⟩; rw [qr])
    go_ret
    exact ⟨Eq.trans rfl (congrArg (fun b => Ending.returned (Value.bool b)) (show false = _ by simp)), hb _⟩
  | true =>
  have ALL : Hid ((decide (1 ≤ g) && decide (g ≤ 281474976710655) && true && decide (2 ≤ x) && decide (x ≤ 1073741824) && decide (0 ≤ c) && decide (c ≤ 281474976710655) && (decide (l.length ≤ 8) && okFrom [] c l)) = okFrom [] c l) := (show _ = _ by
    rw [decide_eq_true q1, decide_eq_true q2, decide_eq_true q4, decide_eq_true q5, decide_eq_true q6, decide_eq_true q7, decide_eq_true q8]
    simp)
  rw [ALL.out]
  clear ALL
  exact rright_go w g rt x c l r ad cap hcap HIN.out q1 q2 q4 q5 q6 q7 q8 qr
end Go.Proofs.Ytbjnbobohkjhiaa
