/- What a statement's walk holds in memory; mathematics of the statements. -/
import Derived.Test.YtbdolhmeknlnpaaSpI
namespace Go.Proofs.Ytbdolhmeknlnpaa
set_option linter.unusedVariables false
open Go.RowKit

structure Hd (w x : World) (ss : List (Value × List Sp)) : Prop where
  bel : Below w.heap.size w x
  s : ∀ e ∈ ss, Sl encS x e.1 e.2
section
variable {w x y : World} {ss : List (Value × List Sp)}
theorem Hd.called (h : Hd w x ss) (b : Below x.heap.size x y) : Hd w y ss := ⟨h.bel.trans (b.mono h.bel.size), fun e he => (h.s e he).called b⟩
theorem Hd.add (h : Hd w x ss) {v : Value} {l : List Sp} (hs : Sl encS x v l) : Hd w x ((v, l) :: ss) := ⟨h.bel, fun e he => by
  rcases List.mem_cons.1 he with rfl | he
  · exact hs
  · exact h.s e he⟩
theorem Hd.get (h : Hd w x ss) (v : Value) (l : List Sp) (hm : (v, l) ∈ ss) : Sl encS x v l := h.s (v, l) hm
theorem Hd.drew (h : Hd w x ss) : Hd w x.drew ss := ⟨h.bel.drew, fun e he => (h.s e he).called ⟨rfl, rfl, rfl, Nat.le_refl _, fun _ _ => rfl⟩⟩
end
theorem sl_form {w : World} {v : Value} {l : List Sp} (h : Sl encS w v l) : ∃ ad cap, v = .slice ad l.length cap ∧ l.length ≤ cap ∧ l.length ≤ maxLen := by
  obtain ⟨ad, cap, h1, h2, h3, _⟩ := h
  exact ⟨ad, cap, h1, h2, h3⟩
def allS : Sp := ⟨zs 24, zs 24, true, rfl, rfl⟩
theorem mem_all (K : List UInt8) : mem [allS] (num K) = true := by
  have h : num (zs 24) = 0 := num_zs 24
  simp [mem, Sp.inb, allS, h]
theorem built_all : Try.prog.built 35 [(2, .bool true)] = some (encS.c allS).toArray := by
  rw [Try.span_built, fill_put (off := 48) (size := 1) rfl rfl (by simp [sc, bc_length, zs_length]), sc_E _ _ _ _ (zs_length _) (zs_length _)]
  rfl
theorem take_min (l : List Sp) (n : Nat) : l.take (min l.length n) = l.take n := by
  by_cases h : l.length ≤ n
  · rw [Nat.min_eq_left h, List.take_length, List.take_of_length_le h]
  · rw [Nat.min_eq_right (by omega)]
theorem take_len (l : List Sp) (n : Nat) : (l.take n).length ≤ n := by simp; omega
theorem touch_no {a b : List Sp} {t : Bool} (h : touchP a b t) (hn : ∀ K : List UInt8, K.length = 24 → mem a (num K) = true → mem b (num K) = true → False) : t = false := by
  cases t with
  | false => rfl
  | true =>
    obtain ⟨K, hK, h1, h2⟩ := h.1 rfl
    exact (hn K hK h1 h2).elim
theorem touch_yes {a b : List Sp} {t : Bool} (h : touchP a b t) (K : List UInt8) (hK : K.length = 24) (h1 : mem a (num K) = true) (h2 : mem b (num K) = true) : t = true := by
  cases t with
  | true => rfl
  | false => exact (h.2 rfl K hK h1 h2).elim
end Go.Proofs.Ytbdolhmeknlnpaa
