/- Keys and what they say, held in memory by a statement. -/
import Derived.Test.YtkencjibpljpfaaKeyM
namespace Go.Proofs.Ytkencjibpljpfaa
set_option linter.unusedVariables false
open Go.RowKit

theorem HasP.called {w w' : World} {b : Nat} {i k : Int} {s : List UInt8} {p : Int} (h : HasP w b i k s p) (hb : Below w.heap.size w w') : HasP w' b i k s p := (hb.block _ (lt_of_block h)).trans h
theorem HasP.made {w : World} {b : Nat} {i k : Int} {s : List UInt8} {p : Int} (h : HasP w b i k s p) (o : Obj) : HasP (w.alloc o) b i k s p := (Below.heap_alloc _ _ _ (lt_of_block h)).trans h
theorem HasP.touch {w w' : World} {b q : Nat} {i k : Int} {s : List UInt8} {p : Int} (h : HasP w b i k s p) (ht : Touch q none w w') (hq : b ≠ q) : HasP w' b i k s p := (ht.block _ (lt_of_block h) hq (by simp)).trans h
/-- What the keys said, in blocks. -/
def HeldP (w : World) : List (Nat × Int × Int × List UInt8 × Int) → Prop
  | [] => True
  | x :: l => HasP w x.1 x.2.1 x.2.2.1 x.2.2.2.1 x.2.2.2.2 ∧ HeldP w l
theorem HeldP.called {w w' : World} (hb : Below w.heap.size w w') : ∀ {l : List (Nat × Int × Int × List UInt8 × Int)}, HeldP w l → HeldP w' l
  | [], _ => trivial
  | _ :: _, h => ⟨h.1.called hb, HeldP.called hb h.2⟩
theorem HeldP.made {w : World} (o : Obj) : ∀ {l : List (Nat × Int × Int × List UInt8 × Int)}, HeldP w l → HeldP (w.alloc o) l
  | [], _ => trivial
  | _ :: _, h => ⟨h.1.made o, HeldP.made o h.2⟩
theorem HeldP.touch {w w' w0 : World} {q : Nat} (hq : w0.heap.size ≤ q) (ht : Touch q none w w') : ∀ {l : List (Nat × Int × Int × List UInt8 × Int)}, HeldP w0 l → HeldP w l → HeldP w' l
  | [], _, _ => trivial
  | _ :: _, h0, h => ⟨h.1.touch ht (by have := lt_of_block h0.1; omega), HeldP.touch hq ht h0.2 h.2⟩
structure Mem2 (w0 w : World) (l : List (Nat × List UInt8)) (lp : List (Nat × Int × Int × List UInt8 × Int)) : Prop where
  bel : Below w0.heap.size w0 w
  held : Held w l
  parts : HeldP w lp
theorem Mem2.called {w0 w w' : World} {l : List (Nat × List UInt8)} {lp : List (Nat × Int × Int × List UInt8 × Int)} (h : Mem2 w0 w l lp) (hb : Below w.heap.size w w') : Mem2 w0 w' l lp := ⟨below_called h.bel hb (Nat.le_refl _), h.held.called hb, h.parts.called hb⟩
theorem Mem2.drew {w0 w : World} {l : List (Nat × List UInt8)} {lp : List (Nat × Int × Int × List UInt8 × Int)} (h : Mem2 w0 w l lp) : Mem2 w0 w.drew l lp := h.called ⟨rfl, rfl, rfl, Nat.le_refl _, fun _ _ => rfl⟩
theorem Mem2.add {w0 w w1 w2 : World} {l : List (Nat × List UInt8)} {lp : List (Nat × Int × Int × List UInt8 × Int)} {o : Obj} {X : List UInt8} (h : Mem2 w0 w l lp) (hb : Below w.heap.size w w1) (hX : Has w2 w1.heap.size X) (ht : Touch w1.heap.size none (w1.alloc o) w2) : Mem2 w0 w2 ((w1.heap.size, X) :: l) lp :=
  have h1 := h.called hb
  ⟨below_touched (below_made h1.bel (Nat.le_refl _) _) ht h1.bel.size (Nat.le_refl _), ⟨hX, Held.touch (Nat.le_refl _) ht h1.held (h1.held.made o)⟩, HeldP.touch (Nat.le_refl _) ht h1.parts (h1.parts.made o)⟩
theorem Mem2.addP {w0 w w1 : World} {l : List (Nat × List UInt8)} {lp : List (Nat × Int × Int × List UInt8 × Int)} (h : Mem2 w0 w l lp) (hb : Below w.heap.size w w1) (i k : Int) (s : List UInt8) (p : Int) : Mem2 w0 (w1.alloc (.cells #[.int .i64 i, .int .i64 k, .string (str s), .int .i64 p] 31)) l ((w1.heap.size, i, k, s, p) :: lp) :=
  have h1 := h.called hb
  ⟨below_made h1.bel (Nat.le_refl _) _, h1.held.made _, heap_alloc_new _ _, h1.parts.made _⟩
/-- A key that lies ahead of the others is written over. -/
theorem Mem2.put {w0 w w2 : World} {b : Nat} {X Y : List UInt8} {l : List (Nat × List UInt8)} {lp : List (Nat × Int × Int × List UInt8 × Int)} (h : Mem2 w0 w ((b, X) :: l) lp) (hY : Has w2 b Y) (ht : Touch b none w w2) (hb : w0.heap.size ≤ b) (hl : ∀ x ∈ l, x.1 ≠ b) (hp : ∀ x ∈ lp, x.1 ≠ b) : Mem2 w0 w2 ((b, Y) :: l) lp := by
  refine ⟨below_touched h.bel ht hb (Nat.le_refl _), ⟨hY, ?_⟩, ?_⟩
  · have := h.held.2
    clear h hY hp
    induction l with
    | nil => trivial
    | cons x l ih => exact ⟨this.1.touch ht (hl x (by simp)), ih (fun y hy => hl y (by simp [hy])) this.2⟩
  · have := h.parts
    clear h hY hl
    induction lp with
    | nil => trivial
    | cons x l ih => exact ⟨this.1.touch ht (hp x (by simp)), ih (fun y hy => hp y (by simp [hy])) this.2⟩
theorem zs_not : right (zs 24) = false := by decide
theorem zs_says : ofV (zs 24) = pv 0 0 [] 0 := by rw [ofV, zs_not]; rfl
theorem ofV_pv' (K : List UInt8) : ∃ i k s p, ofV K = pv i k s p := by
  unfold ofV
  split
  · exact ⟨_, _, _, _, rfl⟩
  · exact ⟨_, _, _, _, rfl⟩
end Go.Proofs.Ytkencjibpljpfaa
