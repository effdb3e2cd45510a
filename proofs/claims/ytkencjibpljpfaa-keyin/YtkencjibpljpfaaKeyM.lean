/- Keys and parts that a statement holds in memory. -/
import Derived.Test.YtkencjibpljpfaaKeyG
import Derived.Test.YtkencjibpljpfaaKeyN
namespace Go.Proofs.Ytkencjibpljpfaa
set_option linter.unusedVariables false
open Go.RowKit

/-- The keys that lie in blocks. -/
def Held (w : World) : List (Nat × List UInt8) → Prop
  | [] => True
  | x :: l => Has w x.1 x.2 ∧ Held w l
theorem Held.called {w w' : World} (hb : Below w.heap.size w w') : ∀ {l : List (Nat × List UInt8)}, Held w l → Held w' l
  | [], _ => trivial
  | _ :: _, h => ⟨h.1.below hb h.1.lt, Held.called hb h.2⟩
theorem Held.made {w : World} (o : Obj) : ∀ {l : List (Nat × List UInt8)}, Held w l → Held (w.alloc o) l
  | [], _ => trivial
  | _ :: _, h => ⟨h.1.alloc o, Held.made o h.2⟩
theorem Held.touch {w w' w0 : World} {q : Nat} (hq : w0.heap.size ≤ q) (ht : Touch q none w w') : ∀ {l : List (Nat × List UInt8)}, Held w0 l → Held w l → Held w' l
  | [], _, _ => trivial
  | _ :: _, h0, h => ⟨h.1.touch ht (by have := h0.1.lt; omega), Held.touch hq ht h0.2 h.2⟩
/-- What a statement has in memory. -/
structure Mem (w0 w : World) (l : List (Nat × List UInt8)) : Prop where
  bel : Below w0.heap.size w0 w
  held : Held w l
theorem Mem.start {w0 w : World} (h : Below w0.heap.size w0 w) : Mem w0 w [] := ⟨h, trivial⟩
theorem Mem.called {w0 w w' : World} {l : List (Nat × List UInt8)} (h : Mem w0 w l) (hb : Below w.heap.size w w') : Mem w0 w' l := ⟨below_called h.bel hb (Nat.le_refl _), h.held.called hb⟩
theorem Mem.drew {w0 w : World} {l : List (Nat × List UInt8)} (h : Mem w0 w l) : Mem w0 w.drew l := h.called ⟨rfl, rfl, rfl, Nat.le_refl _, fun _ _ => rfl⟩
theorem Mem.add {w0 w w1 w2 : World} {l : List (Nat × List UInt8)} {o : Obj} {X : List UInt8} (h : Mem w0 w l) (hb : Below w.heap.size w w1) (hX : Has w2 w1.heap.size X) (ht : Touch w1.heap.size none (w1.alloc o) w2) : Mem w0 w2 ((w1.heap.size, X) :: l) :=
  ⟨below_touched (below_made (below_called h.bel hb (Nat.le_refl _)) (Nat.le_refl _) _) ht (below_called h.bel hb (Nat.le_refl _)).size (Nat.le_refl _), hX,
    Held.touch (Nat.le_refl _) ht (h.held.called hb) ((h.held.called hb).made o)⟩
theorem eq_key' {K L : List UInt8} {b : Bool} (hK : K.length = 24) (hL : L.length = 24) (h : (K == L) = b) (w : World) : (Op.equalIn 10000 24 (kv K) (kv L)).run Try.prog w = .ok b w := by
  rw [eq_key w K L hK hL, h]
end Go.Proofs.Ytkencjibpljpfaa
