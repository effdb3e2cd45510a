/- Package name: Join, Below. -/
import Derived.Test.YtdmgmicabofmiabDoorNaC
namespace Go.Proofs.YtdmgmicabofmiabDoor
set_option linter.unusedVariables false
open Go.RowKit

/-- What Join tells. -/
def JoinTo (w : World) (l : List ByteArray) (e : Ending) (w' : World) : Prop :=
  Below w.heap.size w w' ∧ ((∃ p : ByteArray, e = .returned (.tuple #[.string p, .bool true]) ∧ joinP (bl l) = some p.data.toList) ∨ (e = .returned (.tuple #[.string ⟨#[]⟩, .bool false]) ∧ joinP (bl l) = none))
theorem bl_take_succ (l : List ByteArray) (j : Nat) (hj : j < l.length) : bl (l.take (j + 1)) = bl (l.take j) ++ [l[j].data.toList] := by
  rw [List.take_add_one, List.getElem?_eq_getElem hj]; simp only [bl, Option.toList_some, List.map_append, List.map_cons, List.map_nil]
theorem bl_take (l : List ByteArray) (j : Nat) : bl (l.take j) = (bl l).take j := by simp [bl, List.map_take]
theorem joinP_none_right {l : List (List UInt8)} {n : List UInt8} (hm : n ∈ l) (h : rightP n = false) : joinP l = none := by
  have hne : l ≠ [] := fun e => by subst e; cases hm
  rw [joinP, if_neg hne, if_neg]
  rintro ⟨h1, _⟩
  have := List.all_eq_true.1 h1 n hm
  rw [h] at this
  cases this
theorem joinP_none_long {l : List (List UInt8)} (hne : l ≠ []) (j : Nat) (h : 200 < (joinB (l.take j)).length) : joinP l = none := by
  rw [joinP, if_neg hne, if_neg]
  rintro ⟨_, h1⟩
  have := joinB_len l j
  omega
theorem wrap_add2 (a b : Nat) (h : a ≤ 1000000) (h2 : b ≤ 1000000) : wrap64 ((a : Int) + (b : Int)) = ((a + b : Nat) : Int) := by rw [wrap64_ok (by omega) (by omega)]; omega
theorem sum_small (a b : Nat) (h : a ≤ 1000000) (h2 : b ≤ 1000000) : a + b ≤ 9223372036854775807 := by omega
theorem add_str (a b : ByteArray) (h : a.size ≤ 1000000) (h2 : b.size ≤ 1000000) (w : World) : (Op.stringOp .add a b).run Tryd.prog w = .ok (.string (a ++ b)) w := run_string_add_sum w a b (sum_small _ _ h h2)
theorem size_lit1 (P : ByteArray) (c : UInt8) : (P ++ (⟨#[c]⟩ : ByteArray)).size = P.size + 1 := by simp [ByteArray.size_append]; rfl
theorem int_gt {n m : Nat} (h : n > m) : ((n : Nat) : Int) > (m : Int) := by omega
theorem int_ngt {n m : Nat} (h : ¬ n > m) : ¬ ((n : Nat) : Int) > (m : Int) := by omega
theorem lit_small (c : UInt8) : (⟨#[c]⟩ : ByteArray).size ≤ 1000000 := by show 1 ≤ 1000000; omega
/-- A text, a slash, and another one. -/
theorem join_step (P x : ByteArray) (hP : P.size ≤ 1000) (hx : x.size ≤ 1000) : ∃ (C D : ByteArray) (K M : Nat), (∀ w, (Op.stringOp .add P ⟨#[47]⟩).run Tryd.prog w = .ok (.string C) w) ∧ (∀ w, (Op.stringOp .add C x).run Tryd.prog w = .ok (.string D) w) ∧ C.size = K ∧ wrap64 ((K : Int) + (x.size : Int)) = (M : Int) ∧ D.data.toList = P.data.toList ++ 47 :: x.data.toList ∧ D.size = M := by
  have e := size_lit1 P 47
  refine ⟨P ++ ⟨#[47]⟩, P ++ ⟨#[47]⟩ ++ x, P.size + 1, P.size + 1 + x.size, add_str _ _ (Nat.le_trans hP (by decide)) (lit_small 47), add_str _ _ (by rw [e]; exact Nat.le_trans (Nat.add_le_add_right hP 1) (by decide)) (Nat.le_trans hx (by decide)), e, wrap_add2 _ _ (Nat.le_trans (Nat.add_le_add_right hP 1) (by decide)) (Nat.le_trans hx (by decide)), ?_, ?_⟩
  · simp [ByteArray.data_append]
  · rw [ByteArray.size_append, e]

end Go.Proofs.YtdmgmicabofmiabDoor
