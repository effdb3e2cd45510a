/- What the walks are told of arguments that came in: a slice of bytes, a slice of fields; a writer and a reader side by side. -/
import Derived.Test.YtgijkgcekfbgeaaDoorShown
namespace Go.Proofs.YtgijkgcekfbgeaaDoor
set_option linter.unusedVariables false
open Go.RowKit

/-- A slice of bytes that came in. -/
def ArgBytes (w : World) (a : Option Addr) (cap : Nat) (L : List UInt8) : Prop :=
  L.length ≤ cap ∧ (a = none → L = [] ∧ cap = 0) ∧ ∀ x, a = some x → ∀ j u, (bc L)[j]? = some u → x.block < w.heap.size ∧ w.cell? (x.add j) = some u
theorem ArgBytes.pre {w : World} {a : Option Addr} {cap : Nat} {L : List UInt8} (h : ArgBytes w a cap L) (n : Nat) (hn : n ≤ L.length) : ArgBytes w a cap (L.take n) := by
  refine ⟨by have := h.1; simp; omega, fun e => ?_, fun x hx j u hu => h.2.2 x hx j u (bc_take hu)⟩
  have := h.2.1 e
  rw [this.1]
  exact ⟨by simp, this.2⟩
theorem ArgBytes.below {w w' : World} {B : Nat} {a : Option Addr} {cap : Nat} {L : List UInt8} (h : ArgBytes w a cap L) (hb : Below B w w') (hB : w.heap.size ≤ B) : ArgBytes w' a cap L :=
  ⟨h.1, h.2.1, fun x hx j u hu => by
    have h1 := h.2.2 x hx j u hu
    have e : (x.add j).block = x.block := by unfold Addr.add; split <;> rfl
    exact ⟨by have := hb.size; omega, (hb.cell (p := x.add j) (by rw [e]; omega)).trans h1.2⟩⟩

set_option maxHeartbeats 400000 in
theorem read_arg' (w : World) (x : Addr) (cap : Nat) (L : List UInt8) (hl : L.length ≤ 140737488351232) (hcell : ∀ j u, (bc L)[j]? = some u → x.block < w.heap.size ∧ w.cell? (x.add j) = some u) :
    Calls Tryd.prog 47 #[.slice (some x) L.length cap] w fun e w' => RdNew w L e w' := by
  obtain ⟨i0, hi, hz0, hz1, hz2⟩ := info_parts Tryd.info_u8
  have hm := World.ownsRow_made (base := w.heap.size) (e := 5) (size := 1) w #[] 0 (Nat.le_refl _) (by unfold maxLen; omega) rfl
  have hcs : ∀ j u, (bc L)[j]? = some u → (w.alloc (.cells #[] 5)).cell? (x.add j) = some u := fun j u hu => by
    have e : (x.add j).block = x.block := by unfold Addr.add; split <;> rfl
    exact (((Below.refl w.heap.size w).alloc (Nat.le_refl _) _).cell (p := x.add j) (by rw [e]; exact (hcell j u hu).1)).trans (hcell j u hu).2
  clear hcell
  go_enter Tryd.func47, Tryd.ntmps47
  go_wp2_with (at_builtin; refine wpList_append_own _ rfl (.tmp 3) (.tmp 4) 55 rfl w.heap.size 5 i0 (.int .u8 0) 1 1 Tryd.underlying55 hi hz0 hz1 hz2 rfl (by decide) (.slice (some ⟨w.heap.size, 0, none⟩) 0 0) 0 [] rfl hm x L.length cap (bc L) rfl (by rw [bc_length]; omega) hcs (bc_one L) (by unfold maxLen; omega) (by omega) (by simp) ?_; intro v' w1 hown0 hgrow _; have hown : w1.ownsRow w.heap.size 5 1 v' L.length (bc L) := (by simpa using hown0); clear hown0; obtain ⟨a', c', rfl⟩ := own_form hown)
  go_ret
  exact rd_new hown (((Below.refl _ _).alloc (Nat.le_refl _) _).grown hgrow (by simp) (fun k hk => by simp [Value.ownBlock] at hk; omega)) rfl
theorem read_arg (w : World) (a : Option Addr) (n cap : Nat) (L : List UInt8) (hn : n = L.length) (hl : n ≤ 140737488351232) (h : ArgBytes w a cap L) :
    Calls Tryd.prog 47 #[.slice a n cap] w fun e w' => RdNew w L e w' := by
  subst hn
  cases a with
  | none =>
    obtain ⟨e1, e2⟩ := h.2.1 rfl
    rw [e1, e2]
    exact read_none w
  | some x => exact read_arg' w x cap L hl (h.2.2 x rfl)

/-- A field that came in. -/
structure FD where
  kind : Int
  n : Int
  v : Int
  s : ByteArray
def FieldsIn (w : World) (a : Option Addr) (len : Nat) (fs : Nat → FD) : Prop :=
  ∀ i, i < len → ∃ b off, a = some ⟨b, off, none⟩ ∧ b < w.heap.size ∧ w.cell? ⟨b, off + i * 4, none⟩ = some (.int .i64 (fs i).kind) ∧ w.cell? ⟨b, off + i * 4 + 1, none⟩ = some (.int .i64 (fs i).n) ∧
    w.cell? ⟨b, off + i * 4 + 2, none⟩ = some (.int .u64 (fs i).v) ∧ w.cell? ⟨b, off + i * 4 + 3, none⟩ = some (.string (fs i).s) ∧
    (-9223372036854775808 ≤ (fs i).kind ∧ (fs i).kind ≤ 9223372036854775807) ∧ (-9223372036854775808 ≤ (fs i).n ∧ (fs i).n ≤ 9223372036854775807) ∧ (0 ≤ (fs i).v ∧ (fs i).v ≤ 18446744073709551615) ∧ (fs i).s.size ≤ maxLen

/-- Block x is none of a writer's. -/
def Off (r : Option Nat) (p x : Nat) : Prop := x ≠ p ∧ r ≠ some x
theorem Off.near {r r' : Option Nat} {p x n : Nat} (h : Off r p x) (hn : Near r r' n) (hx : x < n) : Off r' p x :=
  ⟨h.1, fun e => by rcases hn x e with e2 | e2; exact h.2 e2; omega⟩
/-- A writer and a reader side by side. -/
def Both (w : World) (p : Nat) (s : WS) (r : Option Nat) (q : Nat) (t : RS) (rr : Option Nat) : Prop :=
  WrS w p s r ∧ RdS w q t rr ∧ Off r p q ∧ ∀ k, rr = some k → k < w.heap.size ∧ Off r p k
theorem Both.wr {w w' : World} {p q : Nat} {s s' : WS} {r rr : Option Nat} {t : RS} (h : Both w p s r q t rr) (g : WrG p w r s' w') : ∃ r', Both w' p s' r' q t rr ∧ Touch p r w w' ∧ Near r r' w.heap.size := by
  obtain ⟨h1, h2, h3, h4⟩ := h
  obtain ⟨r', g1, g2, g3⟩ := g
  have hq := h2.lt
  exact ⟨r', ⟨g1, h2.kept (g2.block q hq h3.1 h3.2) (fun k hk => g2.block k (h4 k hk).1 (h4 k hk).2.1 (h4 k hk).2.2), h3.near g3 hq, fun k hk => ⟨by have := (h4 k hk).1; have := g2.size; omega, (h4 k hk).2.near g3 (h4 k hk).1⟩⟩, g2, g3⟩
theorem Both.rd {w w' : World} {p q : Nat} {s : WS} {r rr : Option Nat} {t t' : RS} (h : Both w p s r q t rr) (g : RdG q w rr t' w') : Both w' p s r q t' rr := by
  obtain ⟨h1, h2, h3, h4⟩ := h
  obtain ⟨g1, g2⟩ := g
  exact ⟨h1.kept (g2.block p h1.lt.1 (Ne.symm h3.1) (by simp)) (fun k hk => g2.block k (h1.lt.2 k hk).2 (fun e => h3.2 (by rw [hk, e])) (by simp)), g1, h3, fun k hk => ⟨by have := (h4 k hk).1; have := g2.size; omega, (h4 k hk).2⟩⟩
theorem Both.below {w w' : World} {p q : Nat} {s : WS} {r rr : Option Nat} {t : RS} (h : Both w p s r q t rr) (hb : Below w.heap.size w w') : Both w' p s r q t rr :=
  ⟨h.1.below hb (Nat.le_refl _), h.2.1.below hb h.2.1.lt (fun k hk => (h.2.2.2 k hk).1), h.2.2.1, fun k hk => ⟨by have := (h.2.2.2 k hk).1; have := hb.size; omega, (h.2.2.2 k hk).2⟩⟩

theorem got_bad (n : Int) : RS.got ⟨[], true⟩ n = [] := by unfold RS.got; rw [if_pos (.inl rfl)]
theorem take_bad (n : Int) : RS.take ⟨[], true⟩ n = ⟨[], true⟩ := by unfold RS.take; rw [if_pos (.inl rfl)]
theorem text_bad : RS.text ⟨[], true⟩ = [] := by unfold RS.text; rw [take_bad, got_bad]
theorem atext_bad : RS.atext ⟨[], true⟩ = ⟨[], true⟩ := by unfold RS.atext; rw [take_bad, take_bad]
end Go.Proofs.YtgijkgcekfbgeaaDoor
