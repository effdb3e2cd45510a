/- The document's where. -/
import Derived.Test.YtbdolhmeknlnpaaTe8D
namespace Go.Proofs.Ytbdolhmeknlnpaa
set_option linter.unusedVariables false
open Go.RowKit

/-- Cuts of a set: it is the same all through a piece, and nothing outside. -/
structure Cuts (C : List Bd) (g : Int → Bool) : Prop where
  rise : Rise C
  piece : ∀ i (h : i + 1 < C.length) (x : Int), (C[i]).v ≤ x → x < (C[i + 1]).v → g x = g (C[i]).v
  out : ∀ x : Int, x < topV → ((∀ y ∈ C, x < y.v) ∨ (∀ y ∈ C, y.v ≤ x)) → g x = false
/-- What stands behind the first pieces. -/
structure WiK (g : Int → Bool) (C : List Bd) (k : Nat) (out : List Sp) : Prop where
  at' : ∀ h : k < C.length, Wi g out C[k]
  nil : C = [] → out = []
  len : out.length ≤ k
theorem WiK.start {g : Int → Bool} {C : List Bd} (h : Cuts C g) : WiK g C 0 [] := by
  refine ⟨fun hk => ⟨⟨List.Pairwise.nil, by simp⟩, by simp, fun x h0 h1 => ?_⟩, fun _ => rfl, Nat.le_refl _⟩
  by_cases q : x < (C[0]).v
  · rw [h.out x h1 (.inl fun y hy => ?_)]
    · simp [mem]
    · cases C with
      | nil => cases hy
      | cons c r =>
        have hr := List.pairwise_cons.1 h.rise
        simp at q
        rcases List.mem_cons.1 hy with rfl | hy
        · exact q
        · have := hr.1 y hy
          omega
  · simp [mem, q]
theorem Cuts.lt {g : Int → Bool} {C : List Bd} (h : Cuts C g) (i : Nat) (hi : i + 1 < C.length) : (C[i]).v < (C[i + 1]).v := (List.pairwise_iff_getElem.1 h.rise) i (i + 1) (by omega) hi (by omega)
theorem Cuts.key {g : Int → Bool} {C : List Bd} (h : Cuts C g) (i : Nat) (hi : i + 1 < C.length) : (C[i]).b.length = 24 := by
  have h1 := h.lt i hi
  have h2 := (C[i + 1]).low
  exact key_of (by omega)
theorem WiK.no {g : Int → Bool} {C : List Bd} {k : Nat} {out : List Sp} (hc : Cuts C g) (h : WiK g C k out) (hk : k + 1 < C.length) (hg : g (C[k]).v = false) : WiK g C (k + 1) out :=
  ⟨fun _ => (h.at' (by omega)).no (hc.lt k hk) fun x h1 h2 => by rw [hc.piece k hk x h1 h2, hg], h.nil, by have := h.len; omega⟩
theorem WiK.yes {g : Int → Bool} {C : List Bd} {k : Nat} {out : List Sp} (hc : Cuts C g) (h : WiK g C k out) (hk : k + 1 < C.length) (hg : g (C[k]).v = true) : WiK g C (k + 1) (stepW out C[k] C[k + 1] (hc.key k hk)) :=
  ⟨fun _ => (h.at' (by omega)).yes _ (hc.lt k hk) fun x h1 h2 => by rw [hc.piece k hk x h1 h2, hg], fun e => by subst e; simp at hk, by have := h.len; have := stepW_len out C[k] C[k + 1] (hc.key k hk); omega⟩
theorem WiK.is {g : Int → Bool} {C : List Bd} {out : List Sp} (hc : Cuts C g) (h : WiK g C (C.length - 1) out) : Is out g := by
  by_cases h0 : C.length = 0
  · have e := List.eq_nil_of_length_eq_zero h0
    have := h.nil e
    subst this
    refine SetV.is ⟨List.Pairwise.nil, by simp⟩ fun K hK => ?_
    rw [hc.out _ (key_top K hK) (.inl (by rw [e]; simp))]
    rfl
  · have w := h.at' (by omega)
    refine w.s.is fun K hK => ?_
    rw [w.m _ (by omega) (key_top K hK)]
    by_cases q : (num K : Int) < (C[C.length - 1]).v
    · simp [q]
    · rw [hc.out _ (key_top K hK) (.inr fun y hy => ?_)]
      · simp
      · obtain ⟨i, hi, rfl⟩ := List.getElem_of_mem hy
        rcases Nat.lt_or_ge i (C.length - 1) with q2 | q2
        · have := (List.pairwise_iff_getElem.1 hc.rise) i (C.length - 1) hi (by omega) q2
          omega
        · have : i = C.length - 1 := by omega
          subst this
          omega
end Go.Proofs.Ytbdolhmeknlnpaa
