/- A slice of bytes that came in. -/
import Derived.Test.YtggbnacpgkbieaaNodS
namespace Go.Proofs.Ytggbnacpgkbieaa
set_option linter.unusedVariables false
open Go.RowKit

theorem own_byt {x : World} {base n : Nat} {sv : Value} {L : List UInt8} (h : x.ownsRow base 5 1 sv n (bc L)) : Byt x sv L := own_in h (Below.refl _ _)
theorem bytes_nil (w : World) (r : Option Nat) : BytesIn w (.slice none 0 0) [] r := ⟨none, 0, rfl, Nat.le_refl _, .inl ⟨rfl, rfl, rfl⟩⟩
theorem own_empty (W : World) (base : Nat) (hb : base ≤ W.heap.size) : (W.alloc (.cells #[] 5)).ownsRow base 5 1 (.slice (some ⟨W.heap.size, 0, none⟩) 0 0) 0 (bc []) := World.ownsRow_made (base := base) (e := 5) (size := 1) W #[] 0 hb (by unfold maxLen; omega) rfl
/-- A slice of bytes that came in, or was cut. -/
def ArgB (w : World) (a : Option Addr) (n cap : Nat) (L : List UInt8) : Prop :=
  n = L.length ∧ n ≤ cap ∧ (a = none → L = [] ∧ cap = 0) ∧ ∀ x, a = some x → ∀ j u, (bc L)[j]? = some u → x.block < w.heap.size ∧ w.cell? (x.add j) = some u
theorem ArgB.below {w w' : World} {a : Option Addr} {n cap : Nat} {L : List UInt8} (h : ArgB w a n cap L) (hb : Below w.heap.size w w') : ArgB w' a n cap L :=
  ⟨h.1, h.2.1, h.2.2.1, fun x hx j u hu => by
    obtain ⟨h1, h2⟩ := h.2.2.2 x hx j u hu
    have e : (x.add j).block = x.block := by unfold Addr.add; split <;> rfl
    exact ⟨by have := hb.size; omega, (World.cell?_of_block (by rw [e]; exact hb.block x.block h1)).trans h2⟩⟩
theorem ArgB.cut {w : World} {a : Option Addr} {n cap : Nat} {L : List UInt8} (h : ArgB w a n cap L) (m : Nat) (hm : m ≤ n) : ArgB w a m cap (L.take m) := by
  obtain ⟨h1, h2, h3, h4⟩ := h
  refine ⟨by simp; omega, by omega, fun e => by rw [(h3 e).1]; simp [(h3 e).2], fun x hx j u hu => h4 x hx j u (bc_take hu)⟩
/-- append of such bytes behind an empty slice of its own. -/
theorem append_arg {ops : Array Oper} {rest : List Oper} {o : Oper} {a : Act} {w : World} {Q : Exit → Act → World → Prop} (hgd : o.guard = none) (s x : Operand) (ho : o.op = .call { callee := .builtin .append, args := #[s, x], argTypes := #[26, 26] })
    (W : World) (hw : w = W.alloc (.cells #[] 5)) (hs : a.eval s = .slice (some ⟨W.heap.size, 0, none⟩) 0 0) (ad : Option Addr) (n cap : Nat) (L : List UInt8) (hx : a.eval x = .slice ad n cap) (hL : ArgB w ad n cap L) (hn : n ≤ 600)
    (h : ∀ v' w', Byt w' v' L → (∃ a' c', v' = .slice a' n c') → Below W.heap.size W w' → wpList Try.prog ops Q rest (a.put o.dst v') w') : wpList Try.prog ops Q (o :: rest) a w := by
  obtain ⟨i0, hi, hz0, hz1, hz2⟩ := info_parts Try.info_u8
  obtain ⟨h1, h2, h3, h4⟩ := hL
  subst hw
  have own0 := own_empty W W.heap.size (Nat.le_refl _)
  have bel0 : Below W.heap.size W (W.alloc (.cells #[] 5)) := (Below.refl _ _).alloc (Nat.le_refl _) _
  cases ad with
  | none =>
    obtain ⟨rfl, rfl⟩ := h3 rfl
    simp only [List.length_nil] at h1
    subst h1
    refine wpList_append_own_none hgd s x 26 ho W.heap.size 5 i0 1 Try.underlying26 hi (.slice (some ⟨W.heap.size, 0, none⟩) 0 0) 0 [] hs own0 hx ?_
    exact h _ _ (own_byt own0) ⟨_, _, rfl⟩ bel0
  | some y =>
    subst h1
    refine wpList_append_own _ hgd s x 26 ho W.heap.size 5 i0 (.int .u8 0) 1 1 Try.underlying26 hi hz0 hz1 hz2 rfl (by decide) (.slice (some ⟨W.heap.size, 0, none⟩) 0 0) 0 [] hs own0 y L.length cap (bc L) hx (by rw [bc_length]; omega) (fun j u hu => (h4 y rfl j u hu).2) (bc_one L) (by unfold maxLen; omega) (by omega) (by simp) ?_
    intro v' w' hown' hgrow _
    have hown : w'.ownsRow W.heap.size 5 1 v' L.length (bc L) := by simpa using hown'
    refine h v' w' (own_byt hown) (own_form hown) (bel0.grown hgrow (by simp) (fun k hk => by simp [Value.ownBlock] at hk; omega))
theorem conv_arg {w : World} {ad : Option Addr} {n cap : Nat} {L : List UInt8} (h : ArgB w ad n cap L) : (convert 26 9 (.slice ad n cap)).run Try.prog w = .ok (.string (str L)) w := by
  obtain ⟨h1, h2, h3, h4⟩ := h
  subst h1
  cases ad with
  | none =>
    obtain ⟨rfl, rfl⟩ := h3 rfl
    exact conv_bytes (r := none) (bytes_nil w none)
  | some y =>
    by_cases h0 : L = []
    · subst h0
      have hl : (loadCells y 0).run Try.prog w = .ok #[] w := by simpa using run_loadCells_list (P := Try.prog) w y [] (by simp)
      rw [List.length_nil, run_convert_bytes_string w 26 9 5 _ 0 cap Try.underlying26 Try.underlying5 Try.underlying9]
      simp [Conv.bytesToString, hl]
      rfl
    · have hl : 0 < L.length := by cases L; exact absurd rfl h0; simp
      have hc := (h4 y rfl 0 _ (bc_at L 0 hl))
      have spotless : y.spot = none := by simpa [Addr.add] using World.cell?_spot hc.2
      obtain ⟨g, off, sp⟩ := y
      simp only at spotless
      subst spotless
      exact conv_bytes (r := some g) ⟨some ⟨g, off, none⟩, cap, rfl, h2, .inr ⟨g, off, rfl, rfl, hc.1, fun j u hu => by have := (h4 _ rfl j u hu).2; rwa [add_lit] at this⟩⟩
end Go.Proofs.Ytggbnacpgkbieaa
