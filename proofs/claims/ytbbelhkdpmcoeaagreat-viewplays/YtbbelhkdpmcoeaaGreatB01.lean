import Derived.Test.YtbbelhkdpmcoeaaGreatRows
import Derived.WalkKit
import Derived.ProofKit
import Derived.OpenShut
import Derived.ShutString
import Derived.ChangeOld
import Derived.Below
import Derived.Deep.Slices
import Derived.WalkSpells
import Derived.WalkLawsBesides
import Derived.Lib.AppendStr
import Derived.Deep.AppendLies
import Derived.Deep.MidRow
import Derived.Laws.OwnMore
import Derived.Deep.Onto
import Derived.Laws.AppendOwnNone
import Derived.Sort.OwnSortedInts
import Derived.Lib.SmallJoins
/- What every statement's row wants: the closed facts on the program, and what an argument that came in looks like. -/
namespace Go.Proofs.YtbbelhkdpmcoeaaGreat
set_option linter.unusedVariables false
set_option maxRecDepth 100000
theorem Tryz.own : ownKnob Tryz.prog.godebug = none := by kernel_rfl
theorem Tryz.laidOut : laidOutB Tryz.prog = true := by kernel_rfl
end Go.Proofs.YtbbelhkdpmcoeaaGreat
/- Words and plain lemmas for the proofs over package pack: bytes as cells, what a call may touch, a writer and a reader in memory; nothing here speaks of a program. -/
namespace Go.Proofs.YtbbelhkdpmcoeaaGreat
set_option linter.unusedVariables false
set_option maxRecDepth 100000
open Go.RowKit

/-- Bytes as cells. -/
def bc (l : List UInt8) : List Value := l.map fun b => Value.int .u8 b.toNat
theorem bc_nil : bc [] = [] := rfl
theorem bc_length (l : List UInt8) : (bc l).length = l.length := by simp [bc]
theorem bc_append (a b : List UInt8) : bc (a ++ b) = bc a ++ bc b := by simp [bc]
theorem bc_one (l : List UInt8) : ∀ u ∈ bc l, u.oneCell' = true := by
  intro u hu
  simp only [bc, List.mem_map] at hu
  obtain ⟨b, _, rfl⟩ := hu
  rfl

/-- Of the blocks that were there all but p, and but the row r, are as they were. -/
structure Touch (p : Nat) (r : Option Nat) (w w' : World) : Prop where
  os : w'.os = w.os
  tape : w'.tape = w.tape
  output : w'.output = w.output
  size : w.heap.size ≤ w'.heap.size
  block : ∀ k, k < w.heap.size → k ≠ p → r ≠ some k → w'.heap[k]? = w.heap[k]?

theorem Touch.refl (p : Nat) (r : Option Nat) (w : World) : Touch p r w w := ⟨rfl, rfl, rfl, Nat.le_refl _, fun _ _ _ _ => rfl⟩

/-- The row is the old one, or one made since there were n blocks, or none. -/
def Near (r r' : Option Nat) (n : Nat) : Prop := ∀ k, r' = some k → r = some k ∨ n ≤ k
theorem Near.refl (r : Option Nat) (n : Nat) : Near r r n := fun _ h => .inl h
theorem Near.none (r : Option Nat) (n : Nat) : Near r none n := fun _ h => by cases h
theorem Near.trans {r r' r'' : Option Nat} {n m : Nat} (h : Near r r' n) (k : Near r' r'' m) (hnm : n ≤ m) : Near r r'' n := fun i hi => by
  rcases k i hi with hh | hh
  · exact h i hh
  · exact .inr (by omega)

theorem Touch.trans {p : Nat} {r r' : Option Nat} {a b c : World} (h : Touch p r a b) (k : Touch p r' b c) (hn : Near r r' a.heap.size) : Touch p r a c :=
  ⟨k.os.trans h.os, k.tape.trans h.tape, k.output.trans h.output, Nat.le_trans h.size k.size, fun i hi hp hr =>
    (k.block i (by have := h.size; omega) hp (fun e => by rcases hn i e with hh | hh; exact hr hh; omega)).trans (h.block i hi hp hr)⟩

theorem Touch.below {p : Nat} {r : Option Nat} {w w' : World} {B : Nat} (h : Touch p r w w') (hB : B ≤ w.heap.size) (hp : B ≤ p) (hr : ∀ k, r = some k → B ≤ k) : Below B w w' :=
  ⟨h.os, h.tape, h.output, h.size, fun k hk => h.block k (by omega) (by omega) (fun e => by have := hr k e; omega)⟩

theorem Touch.drewN {p : Nat} {r : Option Nat} {w w' : World} (h : Touch p r w w') (n : Nat) : Touch p r w (w'.drewN n) := ⟨h.os, h.tape, h.output, h.size, h.block⟩
theorem Touch.drew {p : Nat} {r : Option Nat} {w w' : World} (h : Touch p r w w') : Touch p r w w'.drew := ⟨h.os, h.tape, h.output, h.size, h.block⟩

theorem Touch.setCell {p : Nat} {r : Option Nat} {w w' : World} (h : Touch p r w w') (o : Nat) (u : Value) : Touch p r w (w'.setCell ⟨p, o, none⟩ u) :=
  ⟨h.os, h.tape, h.output, by have := h.size; simpa [World.setCell] using this, fun k hk hp hr => by
    rw [Below.heap_setCell _ _ _ _ (by simpa using hp)]; exact h.block k hk hp hr⟩

theorem Touch.alloc {p : Nat} {r : Option Nat} {w w' : World} (h : Touch p r w w') (o : Obj) : Touch p r w (w'.alloc o) :=
  ⟨h.os, h.tape, h.output, by have := h.size; simp; omega, fun k hk hp hr => by
    rw [Below.heap_alloc _ _ _ (by have := h.size; omega)]; exact h.block k hk hp hr⟩

theorem Touch.grown {p : Nat} {r : Option Nat} {w w' w'' : World} (h : Touch p r w w') (g : w'.grownBy w'' r) : Touch p r w w'' :=
  ⟨g.os.trans h.os, g.tape.trans h.tape, g.output.trans h.output, Nat.le_trans h.size g.size, fun k hk hp hr =>
    (g.block k (by have := h.size; omega) (fun e => hr e.symm)).trans (h.block k hk hp hr)⟩

theorem below_drewN {B : Nat} {a w : World} (h : Below B a w) (n : Nat) : Below B a (w.drewN n) := h.trans ⟨rfl, rfl, rfl, Nat.le_refl _, fun _ _ => rfl⟩
theorem ownsRow_drewN {w : World} {base : Nat} {e : TypeId} {size : Nat} {v : Value} {n : Nat} {xs : List Value} (h : w.ownsRow base e size v n xs) (k : Nat) : (w.drewN k).ownsRow base e size v n xs := h

/-! Three cells, two cells: a struct that lies alone in its block. -/
theorem cells3 {w : World} {b : Nat} {x y z : Value} {t : TypeId} (h : w.heap[b]? = some (.cells #[x, y, z] t (0, 0))) :
    w.cell? ⟨b, 0, none⟩ = some x ∧ w.cell? ⟨b, 1, none⟩ = some y ∧ w.cell? ⟨b, 2, none⟩ = some z := by
  refine ⟨?_, ?_, ?_⟩ <;> simp [World.cell?, h]
theorem free3 {w : World} {b : Nat} {x y z : Value} {t : TypeId} (h : w.heap[b]? = some (.cells #[x, y, z] t (0, 0))) :
    w.frozen? ⟨b, 0, none⟩ = false ∧ w.frozen? ⟨b, 1, none⟩ = false ∧ w.frozen? ⟨b, 2, none⟩ = false := by
  refine ⟨?_, ?_, ?_⟩ <;> simp [World.frozen?, h]
theorem cells2 {w : World} {b : Nat} {x y : Value} {t : TypeId} (h : w.heap[b]? = some (.cells #[x, y] t (0, 0))) :
    w.cell? ⟨b, 0, none⟩ = some x ∧ w.cell? ⟨b, 1, none⟩ = some y := by
  refine ⟨?_, ?_⟩ <;> simp [World.cell?, h]
theorem free2 {w : World} {b : Nat} {x y : Value} {t : TypeId} (h : w.heap[b]? = some (.cells #[x, y] t (0, 0))) :
    w.frozen? ⟨b, 0, none⟩ = false ∧ w.frozen? ⟨b, 1, none⟩ = false := by
  refine ⟨?_, ?_⟩ <;> simp [World.frozen?, h]
theorem set3 {w : World} {b : Nat} {x y z u : Value} {t : TypeId} (h : w.heap[b]? = some (.cells #[x, y, z] t (0, 0))) :
    (w.setCell ⟨b, 0, none⟩ u).heap[b]? = some (.cells #[u, y, z] t (0, 0)) ∧ (w.setCell ⟨b, 1, none⟩ u).heap[b]? = some (.cells #[x, u, z] t (0, 0)) ∧ (w.setCell ⟨b, 2, none⟩ u).heap[b]? = some (.cells #[x, y, u] t (0, 0)) := by
  refine ⟨?_, ?_, ?_⟩ <;> simp [World.setCell, Array.getElem?_modify, h]
theorem set2 {w : World} {b : Nat} {x y u : Value} {t : TypeId} (h : w.heap[b]? = some (.cells #[x, y] t (0, 0))) :
    (w.setCell ⟨b, 0, none⟩ u).heap[b]? = some (.cells #[u, y] t (0, 0)) ∧ (w.setCell ⟨b, 1, none⟩ u).heap[b]? = some (.cells #[x, u] t (0, 0)) := by
  refine ⟨?_, ?_⟩ <;> simp [World.setCell, Array.getElem?_modify, h]

end Go.Proofs.YtbbelhkdpmcoeaaGreat
/- Slices of elements of k cells each, whatever they are: how they lie, what a row of one's own holds; nothing here speaks of a program. -/
namespace Go.Proofs.YtbbelhkdpmcoeaaGreat
set_option linter.unusedVariables false
set_option maxRecDepth 100000
open Go.RowKit

/-- How an element lies: its cells, k of them. -/
structure Enc (α : Type) (k : Nat) where
  c : α → List Value
  len : ∀ x, (c x).length = k
  one : ∀ x, ∀ v ∈ c x, v.oneCell' = true
section
variable {α : Type} {k : Nat} {E : Enc α k}
theorem Enc.size (E : Enc α k) (x : α) : (E.c x).toArray.size = k := by simp [E.len]
theorem Enc.all (E : Enc α k) (x : α) : (E.c x).toArray.all (·.oneCell') = true := all_oneCell_toArray (E.one x)
/-- Elements behind one another. -/
def Enc.flat (E : Enc α k) (l : List α) : List Value := l.flatMap E.c
theorem Enc.flat_nil (E : Enc α k) : E.flat [] = [] := rfl
theorem Enc.flat_cons (E : Enc α k) (x : α) (l : List α) : E.flat (x :: l) = E.c x ++ E.flat l := by simp [Enc.flat]
theorem Enc.flat_one (E : Enc α k) (x : α) : E.flat [x] = E.c x := by simp [Enc.flat]
theorem Enc.flat_append (E : Enc α k) (l m : List α) : E.flat (l ++ m) = E.flat l ++ E.flat m := by simp [Enc.flat]
theorem Enc.flat_ones (E : Enc α k) (l : List α) : ∀ u ∈ E.flat l, u.oneCell' = true := by
  intro u hu
  simp only [Enc.flat, List.mem_flatMap] at hu
  obtain ⟨x, _, hx⟩ := hu
  exact E.one x u hx
theorem Enc.flat_length (E : Enc α k) : ∀ (l : List α), (E.flat l).length = l.length * k
  | [] => by simp [Enc.flat]
  | x :: l => by
    rw [E.flat_cons, List.length_append, E.len, E.flat_length l, List.length_cons, Nat.add_mul, Nat.one_mul, Nat.add_comm]
theorem Enc.flat_get (E : Enc α k) : ∀ (l : List α) (i j : Nat) (hi : i < l.length) (v : Value), (E.c l[i])[j]? = some v → (E.flat l)[i * k + j]? = some v
  | [], i, j, hi, v, _ => by cases hi
  | x :: l, i, j, hi, v, h => by
    rw [E.flat_cons]
    cases i with
    | zero =>
      have h' : (E.c x)[j]? = some v := h
      rw [Nat.zero_mul, Nat.zero_add, List.getElem?_append_left (List.getElem?_eq_some_iff.1 h').1]
      exact h'
    | succ i =>
      have h' := E.flat_get l i j (by simpa using hi) v (by simpa using h)
      rw [List.getElem?_append_right (by rw [E.len, Nat.add_mul, Nat.one_mul]; omega), E.len, show (i + 1) * k + j - k = i * k + j by rw [Nat.add_mul, Nat.one_mul]; omega]
      exact h'
theorem Enc.flat_range (E : Enc α k) {w : World} {g off : Nat} {l : List α} (h : w.rangeAt g off (E.flat l)) (i : Nat) (hi : i < l.length) : w.rangeAt g (off + i * k) (E.c l[i]) := fun j v hv => by
  have := h (i * k + j) v (E.flat_get l i j hi v hv)
  rwa [← Nat.add_assoc] at this
theorem Enc.range_flat (E : Enc α k) {w : World} {g : Nat} : ∀ (l : List α) (off : Nat), (∀ i (hi : i < l.length), w.rangeAt g (off + i * k) (E.c l[i])) → w.rangeAt g off (E.flat l)
  | [], off, _ => fun j v hv => by simp [Enc.flat] at hv
  | x :: l, off, hr => fun j v hv => by
    rw [E.flat_cons] at hv
    by_cases hj : j < k
    · rw [List.getElem?_append_left (by rw [E.len]; exact hj)] at hv
      have := hr 0 (by simp) j v hv
      simpa using this
    · rw [List.getElem?_append_right (by rw [E.len]; omega), E.len] at hv
      have ih := E.range_flat l (off + k) (fun i hi => by
        have := hr (i + 1) (by simp; omega)
        rw [show off + k + i * k = off + (i + 1) * k by rw [Nat.add_mul, Nat.one_mul]; omega]
        simpa using this) (j - k) v hv
      rwa [show off + k + (j - k) = off + j by omega] at ih

/-- A slice of them in blocks below B. -/
def SlB (E : Enc α k) (w : World) (B : Nat) (v : Value) (l : List α) : Prop :=
  ∃ ad cap, v = .slice ad l.length cap ∧ l.length ≤ cap ∧ l.length ≤ maxLen ∧ (ad = none → cap = 0) ∧ (l = [] ∨ ∃ g off, ad = some ⟨g, off, none⟩ ∧ g < B ∧ ∀ i (hi : i < l.length), w.rangeAt g (off + i * k) (E.c l[i]))
abbrev Sl (E : Enc α k) (w : World) (v : Value) (l : List α) : Prop := SlB E w w.heap.size v l
theorem range_same' {w w' : World} {g o : Nat} {cs : List Value} (h : w.rangeAt g o cs) (e : w'.heap[g]? = w.heap[g]?) : w'.rangeAt g o cs := fun j v hv => (World.cell?_of_block e).trans (h j v hv)
theorem SlB.kept {w w' : World} {B B' : Nat} {v : Value} {l : List α} (h : SlB E w B v l) (hb : ∀ g, g < B → w'.heap[g]? = w.heap[g]?) (hB : B ≤ B') : SlB E w' B' v l := by
  obtain ⟨ad, cap, h1, h2, h3, h4, h5⟩ := h
  refine ⟨ad, cap, h1, h2, h3, h4, ?_⟩
  rcases h5 with h5 | ⟨g, off, e, hg, hr⟩
  · exact .inl h5
  · exact .inr ⟨g, off, e, by omega, fun i hi => range_same' (hr i hi) (hb g hg)⟩
theorem SlB.below {w w' : World} {B : Nat} {v : Value} {l : List α} (h : SlB E w B v l) (hb : Below B w w') : SlB E w' B v l := h.kept hb.block (Nat.le_refl _)
theorem SlB.wide {w : World} {B B' : Nat} {v : Value} {l : List α} (h : SlB E w B v l) (hB : B ≤ B') : SlB E w B' v l := h.kept (fun _ _ => rfl) hB
theorem Sl.called {w w' : World} {v : Value} {l : List α} (h : Sl E w v l) (hb : Below w.heap.size w w') : Sl E w' v l := h.kept hb.block hb.size
theorem SlB.nil (E : Enc α k) (w : World) (B : Nat) : SlB E w B (.slice none 0 0) [] := ⟨none, 0, rfl, Nat.le_refl _, Nat.zero_le _, fun _ => rfl, .inl rfl⟩
theorem SlB.one {w : World} {B : Nat} {v : Value} {l : List α} (h : SlB E w B v l) : v.oneCell' = true := by
  obtain ⟨ad, cap, rfl, _⟩ := h
  rfl
/-- Where element i lies. -/
theorem SlB.at {w : World} {B : Nat} {ad : Option Addr} {n cap : Nat} {l : List α} (h : SlB E w B (.slice ad n cap) l) (i : Nat) (hi : i < l.length) : ∃ g off, ad = some ⟨g, off, none⟩ ∧ g < B ∧ w.rangeAt g (off + i * k) (E.c l[i]) := by
  obtain ⟨ad', cap', h1, h2, h3, h4, h5⟩ := h
  cases h1
  rcases h5 with rfl | ⟨g, off, e, hg, hr⟩
  · cases hi
  · exact ⟨g, off, e, hg, hr i hi⟩

/-- A row of one's own that holds them. -/
abbrev Own (E : Enc α k) (ty : TypeId) (w : World) (base : Nat) (v : Value) (l : List α) : Prop := w.ownsRow base ty k v l.length (E.flat l)
theorem Own.slB {ty : TypeId} {w : World} {base : Nat} {v : Value} {l : List α} (h : Own E ty w base v l) : SlB E w w.heap.size v l := by
  have hl := h.lt
  rcases h.2 with ⟨rfl, h0⟩ | ⟨g, cap, cur, rfl, hb, hg, hn, hm, _⟩
  · exact ⟨none, 0, by rw [h0], by omega, by omega, fun _ => rfl, .inl (List.eq_nil_of_length_eq_zero h0)⟩
  · refine ⟨_, cap, rfl, hn, by omega, (fun e => by cases e), .inr ⟨g, 0, rfl, (hl g rfl).2, fun i hi => E.flat_range (fun j u hu => ?_) i hi⟩⟩
    have := h.cells (g := g) rfl j u hu
    rwa [Addr.add_mid] at this
theorem Own.nil (E : Enc α k) (ty : TypeId) (w : World) (base : Nat) : Own E ty w base (.slice none 0 0) [] := World.ownsRow_nil w base ty k
/-- Is kept where its row is. -/
theorem Own.same {ty : TypeId} {w w' : World} {base : Nat} {v : Value} {l : List α} (h : Own E ty w base v l) (hb : ∀ g, v.ownBlock = some g → w'.heap[g]? = w.heap[g]?) : Own E ty w' base v l := by
  refine ⟨h.1, ?_⟩
  rcases h.2 with hn | ⟨g, cap, cur, rfl, h2, h3, h4⟩
  · exact .inl hn
  · exact .inr ⟨g, cap, cur, rfl, h2, (hb g rfl).trans h3, h4⟩
theorem Own.below {ty : TypeId} {w w' : World} {base : Nat} {v : Value} {l : List α} (h : Own E ty w base v l) (hb : Below w.heap.size w w') : Own E ty w' base v l := h.same fun g hg => hb.block g (h.lt g hg).2

/-- What lies in a slice that is read, cell by cell. -/
theorem SlB.news {w : World} {B : Nat} {ad : Option Addr} {n cap : Nat} {l : List α} (h : SlB E w B (.slice ad n cap) l) : n = l.length ∧ ((ad = none ∧ l = [] ∧ cap = 0) ∨ ∃ A, ad = some A ∧ ∀ j u, (E.flat l)[j]? = some u → w.cell? (A.add j) = some u) := by
  obtain ⟨ad', cap', h1, h2, h3, h4, h5⟩ := h
  cases h1
  refine ⟨rfl, ?_⟩
  rcases h5 with rfl | ⟨g, off, rfl, hg, hr⟩
  · cases ad with
    | none => exact .inl ⟨rfl, rfl, h4 rfl⟩
    | some A => exact .inr ⟨A, rfl, fun j u hu => by simp [Enc.flat] at hu⟩
  · refine .inr ⟨_, rfl, fun j u hu => ?_⟩
    rw [Addr.add_mid]
    exact E.range_flat l off hr j u hu
theorem SlB.take {w : World} {B : Nat} {ad : Option Addr} {n cap : Nat} {l : List α} (h : SlB E w B (.slice ad n cap) l) (m : Nat) (hm : m ≤ l.length) : SlB E w B (.slice ad m cap) (l.take m) := by
  obtain ⟨ad', cap', h1, h2, h3, h4, h5⟩ := h
  cases h1
  have hlen : (l.take m).length = m := by simp; omega
  refine ⟨ad, cap, by rw [hlen], by omega, by omega, h4, ?_⟩
  rcases h5 with rfl | ⟨g, off, rfl, hg, hr⟩
  · exact .inl (by simp)
  · refine .inr ⟨g, off, rfl, hg, fun i hi => ?_⟩
    rw [List.getElem_take]
    exact hr i (by omega)

/-- What append's law asks of a type, at once. -/
structure RowTy (P : Program) (E : Enc α k) (ts te : TypeId) (bytes : Nat) : Prop where
  under : P.underlying ts = some (.slice te)
  info : ∃ z, (P.info? te).map (fun i => (i.zero, i.size, i.bytes)) = some (some z, k, bytes) ∧ z.cells.size = k
  pos : 0 < k
theorem RowTy.parts {P : Program} {ts te : TypeId} {bytes : Nat} (h : RowTy P E ts te bytes) : ∃ i z, P.info? te = some i ∧ i.zero = some z ∧ i.size = k ∧ i.bytes = bytes ∧ z.cells.size = k := by
  obtain ⟨z, h1, h2⟩ := h.info
  cases hi : P.info? te with
  | none => rw [hi] at h1; cases h1
  | some i =>
    rw [hi] at h1
    simp only [Option.map_some, Option.some.injEq, Prod.mk.injEq] at h1
    exact ⟨i, z, rfl, h1.1, h1.2.1, h1.2.2, h2⟩

section
variable {P : Program} {ts te : TypeId} {bytes : Nat} {ops : Array Oper} {rest : List Oper} {o : Oper} {a : Act} {w : World} {Q : Exit → Act → World → Prop}
/-- append of one element behind a row of one's own. -/
theorem append_one (R : RowTy P E ts te bytes) (hgd : o.guard = none) (s x : Operand) (ho : o.op = .call { callee := .builtin .append, args := #[s, x], argTypes := #[ts, ts] })
    (base : Nat) (v : Value) (l : List α) (hs : a.eval s = v) (hown : Own E te w base v l)
    (b : Nat) (e : α) (hx : a.eval x = .slice (some ⟨b, 0, none⟩) 1 1) (fz : Nat × Nat) (tb : TypeId) (hb : w.heap[b]? = some (.cells (E.c e).toArray tb fz))
    (h63 : l.length + 1 ≤ 1000000) (hbytes : bytes ≤ 10000) (hbase : base ≤ w.heap.size)
    (h : ∀ g cap w', Own E te w' base (.slice (some ⟨g, 0, none⟩) (l.length + 1) cap) (l ++ [e]) → w.grownBy w' v.ownBlock → (v.ownBlock = some g ∨ g = w.heap.size) → g < w'.heap.size → wpList P ops Q rest (a.put o.dst (.slice (some ⟨g, 0, none⟩) (l.length + 1) cap)) w') : wpList P ops Q (o :: rest) a w := by
  obtain ⟨i, z, hi, hz, hsz, hby, hzc⟩ := R.parts
  have hB : (l.length + 1) * bytes ≤ 140737488355328 := by
    have := Nat.mul_le_mul h63 hbytes
    omega
  refine wpList_append_lies w hgd s x ts ho base te i z k bytes R.under hi hz hsz hby hzc R.pos v l.length (E.flat l) hs hown ⟨b, 0, none⟩ 1 1 (E.c e) hx (by rw [E.len, Nat.one_mul]) (fun j u hu => ?_) (E.one e) (by omega) (by unfold maxLen; omega) hB hbase w.heap.size rfl ?_
  · rw [Addr.add_mid, Nat.zero_add, cell_of_row w b j _ _ _ hb]
    simpa using hu
  · intro g cap w' h1 h2 h3 h4
    have hl : (l ++ [e]).length = l.length + 1 := by simp
    refine h g cap w' ?_ h2 h3 h4
    show w'.ownsRow base te k _ (l ++ [e]).length (E.flat (l ++ [e]))
    rw [hl, E.flat_append, E.flat_one]
    exact h1
/-- append of a slice behind a row of one's own. -/
theorem append_sl (R : RowTy P E ts te bytes) (hgd : o.guard = none) (s x : Operand) (ho : o.op = .call { callee := .builtin .append, args := #[s, x], argTypes := #[ts, ts] })
    (base : Nat) (v : Value) (l m : List α) (hs : a.eval s = v) (hown : Own E te w base v l)
    (u : Value) (hx : a.eval x = u) (B : Nat) (hu : SlB E w B u m)
    (h63 : l.length + m.length ≤ 1000000) (hbytes : bytes ≤ 10000) (hbase : base ≤ w.heap.size)
    (h : ∀ v' w', Own E te w' base v' (l ++ m) → w.grownBy w' v.ownBlock → wpList P ops Q rest (a.put o.dst v') w') : wpList P ops Q (o :: rest) a w := by
  obtain ⟨i, z, hi, hz, hsz, hby, hzc⟩ := R.parts
  have hB : (l.length + m.length) * bytes ≤ 140737488355328 := by
    have := Nat.mul_le_mul h63 hbytes
    omega
  have hl : (l ++ m).length = l.length + m.length := by simp
  have hu' := hu
  obtain ⟨ad, cap, rfl, _⟩ := hu'
  obtain ⟨_, hc⟩ := hu.news
  rcases hc with ⟨rfl, rfl, rfl⟩ | ⟨A, rfl, hn⟩
  · refine wpList_append_own_none hgd s x ts ho base te i k R.under hi v l.length (E.flat l) hs hown hx ?_
    exact h _ _ (by rw [List.append_nil]; exact hown) ⟨rfl, rfl, rfl, Nat.le_refl _, fun _ _ _ => rfl⟩
  · refine wpList_append_own w hgd s x ts ho base te i z k bytes R.under hi hz hsz hby hzc R.pos v l.length (E.flat l) hs hown A m.length cap (E.flat m) hx (E.flat_length m) hn (E.flat_ones m) (by unfold maxLen; omega) hB hbase ?_
    intro v' w' h1 h2 _
    refine h v' w' ?_ h2
    show w'.ownsRow base te k _ (l ++ m).length (E.flat (l ++ m))
    rw [hl, E.flat_append]
    exact h1
end
end
end Go.Proofs.YtbbelhkdpmcoeaaGreat
/- A slice of elements of k cells that came in: what the walk is told of it. -/
namespace Go.Proofs.YtbbelhkdpmcoeaaGreat
set_option linter.unusedVariables false
set_option maxRecDepth 100000
open Go.ChangeShapes Go.WideShapes Go.ChangeAt Go.RowKit

set_option maxRecDepth 100000 in
theorem open_els {α : Type} {k : Nat} (E : Enc α k) (ts te : TypeId) (hu : Tryz.prog.underlying ts = some (.slice te)) (hk : Tryz.prog.cellsOf te = k) (hpos : 0 < k) {H : Type} {enc : TypeId × Value → H} {W : World} {base : Nat} {held : Bool} {a : Option Addr} {len cap : Nat} {d : DataW H} {p : List MemPlace}
    (hel : ∀ (fuel : Nat) (z : DataW H × List MemPlace) (cs : List Value), DataW.trod enc Tryz.prog W base (fun _ => true) held fuel te cs = some z → cs.length = k → ∃ x : α, cs = E.c x)
    (h : DataW.Trod enc Tryz.prog W base (fun _ => true) held ts (.slice a len cap) d p) : ∃ l : List α, Sl E W (.slice a len cap) l := by
  obtain ⟨fuel, hf⟩ := h
  rcases Go.Deep.open_slice hu hf with ⟨hcs, _⟩ | ⟨x, l, c, m, n, D, Pl, hcs, _, hl, hm, hmm, _, hx⟩
  · simp [Value.cells] at hcs
    obtain ⟨rfl, rfl, rfl⟩ := hcs
    exact ⟨[], SlB.nil _ _ _⟩
  · simp [Value.cells] at hcs
    obtain ⟨rfl, rfl, rfl⟩ := hcs
    have hm' : m = cap := by simpa using hmm
    subst hm'
    by_cases hl0 : len = 0
    · subst hl0
      exact ⟨[], ⟨_, _, rfl, Nat.zero_le _, Nat.zero_le _, (fun e => by cases e), .inl rfl⟩⟩
    have spotless : x.spot = none := by
      obtain ⟨cs0, h0, _⟩ := hx 0 (by omega)
      rw [hk] at h0
      obtain ⟨_, hl0, hc0⟩ := World.cells?_some h0
      have hc := hc0 0 (by omega)
      rw [List.getElem?_eq_getElem (by omega)] at hc
      simpa [Addr.add] using World.cell?_spot hc
    obtain ⟨b, off, spot⟩ := x
    simp only at spotless
    subst spotless
    have each : ∀ i, i < len → ∃ s : α, W.rangeAt b (off + i * k) (E.c s) ∧ b < W.heap.size := by
      intro i hi
      obtain ⟨cs', h1, h2⟩ := hx i (by omega)
      rw [hk, Addr.add_mid] at h1
      obtain ⟨_, hl1, hc1⟩ := World.cells?_some h1
      obtain ⟨s, hs⟩ := hel _ _ _ h2 hl1
      subst hs
      refine ⟨s, fun j v hv => ?_, ?_⟩
      · have hj := (List.getElem?_eq_some_iff.1 hv).1
        have := hc1 j (by rw [E.len] at hj; omega)
        rw [Addr.add_mid] at this
        rw [this]
        exact hv
      · have := hc1 0 (by omega)
        rw [List.getElem?_eq_getElem (by omega)] at this
        have := World.block_lt_of_cell? W _ this
        rw [Addr.add_mid] at this
        exact this
    have hL : (List.ofFn fun i : Fin len => (each i.1 i.2).choose).length = len := by simp
    refine ⟨List.ofFn fun i : Fin len => (each i.1 i.2).choose, ⟨_, m, by rw [hL], by rw [hL]; omega, by rw [hL]; omega, (fun e => by cases e), .inr ⟨b, off, rfl, (each 0 (by omega)).choose_spec.2, fun i hi => ?_⟩⟩⟩
    rw [List.getElem_ofFn]
    exact (each i (by simpa using hi)).choose_spec.1
set_option maxRecDepth 100000 in
theorem bytes_list (l : List Value) (h : ∀ v ∈ l, ∃ b : UInt8, v = .int .u8 (b.toNat : Int)) : ∃ K : List UInt8, l = bc K := by
  induction l with
  | nil => exact ⟨[], rfl⟩
  | cons v l ih =>
    obtain ⟨b, rfl⟩ := h v (by simp)
    obtain ⟨K, rfl⟩ := ih fun x hx => h x (by simp [hx])
    exact ⟨b :: K, rfl⟩
set_option maxRecDepth 100000 in
theorem trod_key {H : Type} {enc : TypeId × Value → H} {W : World} {base : Nat} {held : Bool} {fuel : Nat} {z : DataW H × List MemPlace} {cs : List Value} (hf : DataW.trod enc Tryz.prog W base (fun _ => true) held fuel 29 cs = some z) : ∃ K : List UInt8, K.length = 24 ∧ cs = bc K := by
  have k1 : Tryz.prog.cellsOf 5 = 1 := by kernel_rfl
  have k24 : Tryz.prog.cellsOf 29 = 24 := by kernel_rfl
  obtain ⟨xs, m, _, _, hl, hx, he⟩ := DataW.trod_array Tryz.underlying29 hf
  rw [k24] at hl
  rw [k1] at he
  obtain ⟨K, hK⟩ := bytes_list cs (fun v hv => by
    obtain ⟨i, hi, rfl⟩ := List.mem_iff_getElem.1 hv
    have h1 := he i (by omega)
    rw [Nat.mul_one, List.getElem?_eq_getElem (by omega)] at h1
    obtain ⟨n, e, _, wf⟩ := DataW.trod_int Tryz.underlying5 h1
    have e2 : cs[i] = .int .u8 n := by
      have := congrArg (fun l => l[0]?) e
      simpa [List.getElem?_take, List.getElem?_drop, hi] using this
    have hb := bounds_u8 wf
    refine ⟨UInt8.ofNat n.toNat, ?_⟩
    rw [e2, UInt8.toNat_ofNat']
    congr 1
    omega)
  exact ⟨K, by rw [hK, bc_length] at hl; exact hl, hK⟩
end Go.Proofs.YtbbelhkdpmcoeaaGreat
/- Bytes of a number, the highest first, the number of bytes, bytes as a string: plain mathematics: they are ordered as the numbers, and read again they are the number. -/
namespace Go.Proofs.YtbbelhkdpmcoeaaGreat
set_option linter.unusedVariables false
set_option maxRecDepth 100000
open Go.RowKit

/-- The bytes of a number, k of them, the highest first. -/
def be (v : Nat) : Nat → List UInt8
  | 0 => []
  | k + 1 => UInt8.ofNat (v / 256 ^ k) :: be v k
theorem be_length (v k : Nat) : (be v k).length = k := by induction k with
  | zero => rfl
  | succ k ih => simp [be, ih]
theorem be_take (v : Nat) : ∀ (n k j : Nat), j + k + 1 = n → (be v n).take (k + 1) = (be v n).take k ++ [UInt8.ofNat (v / 256 ^ j)]
  | 0, k, j, h => by omega
  | n + 1, 0, j, h => by
    have : j = n := by omega
    subst this
    simp [be]
  | n + 1, k + 1, j, h => by
    have ih := be_take v n k j (by omega)
    simp only [be, List.take_succ_cons, List.cons_append, ih]
theorem u8_be (v : Nat) (j : Int) (h0 : 0 ≤ j) : IntKind.u8.wrap ((v : Int) / 2 ^ (8 * j).toNat) = ((UInt8.ofNat (v / 256 ^ j.toNat)).toNat : Int) := by
  obtain ⟨n, rfl⟩ := Int.eq_ofNat_of_zero_le h0
  have e1 : (8 * (n : Int)).toNat = 8 * n := by omega
  have e3 : (2 : Int) ^ (8 * n) = ((256 ^ n : Nat) : Int) := by rw [Int.pow_mul]; simp
  rw [e1, Int.toNat_natCast, e3, ← Int.natCast_ediv, IntKind.wrap_u8]
  simp

/-- The number that bytes are, the highest first. -/
def num (l : List UInt8) : Nat := l.foldl (fun a b => 256 * a + b.toNat) 0
theorem num_snoc (l : List UInt8) (b : UInt8) : num (l ++ [b]) = 256 * num l + b.toNat := by simp [num]
theorem foldl_lt : ∀ (l : List UInt8) (a : Nat), l.foldl (fun a b => 256 * a + b.toNat) a < (a + 1) * 256 ^ l.length
  | [], a => by simp
  | b :: l, a => by
    have ih := foldl_lt l (256 * a + b.toNat)
    have hb := b.toNat_lt
    have h2 : (256 * a + b.toNat + 1) * 256 ^ l.length ≤ (256 * (a + 1)) * 256 ^ l.length := Nat.mul_le_mul_right _ (by omega)
    rw [List.foldl_cons, List.length_cons, Nat.pow_succ]
    have h3 : (a + 1) * (256 ^ l.length * 256) = (256 * (a + 1)) * 256 ^ l.length := by rw [Nat.mul_comm (256 ^ l.length) 256, ← Nat.mul_assoc, Nat.mul_comm (a + 1) 256]
    omega
theorem num_lt (l : List UInt8) : num l < 256 ^ l.length := by
  have := foldl_lt l 0
  simpa [num] using this
theorem num_small {l : List UInt8} (h : l.length ≤ 8) : num l < 18446744073709551616 := by
  have h1 := num_lt l
  have h2 : 256 ^ l.length ≤ 256 ^ 8 := Nat.pow_le_pow_right (by omega) h
  have h3 : (256 : Nat) ^ 8 = 18446744073709551616 := by decide
  omega
theorem num_small7 {l : List UInt8} (h : l.length ≤ 7) : num l < 72057594037927936 := by
  have h1 := num_lt l
  have h2 : 256 ^ l.length ≤ 256 ^ 7 := Nat.pow_le_pow_right (by omega) h
  have h3 : (256 : Nat) ^ 7 = 72057594037927936 := by decide
  omega
theorem take_snoc8 (l : List UInt8) (k : Nat) (h : k < l.length) : l.take (k + 1) = l.take k ++ [l[k]] := List.take_succ_eq_append_getElem h

/-- Bytes as a string. -/
def str (l : List UInt8) : ByteArray := ⟨l.toArray⟩
theorem str_of (l : List UInt8) : strOfNums (l.map fun b => (b.toNat : Int)) = str l := by
  unfold strOfNums str
  congr 2
  rw [List.map_map]
  conv => rhs; rw [← List.map_id l]
  apply List.map_congr_left
  intro b _
  simp
theorem str_size (l : List UInt8) : (str l).size = l.length := by simp [str, ByteArray.size]
theorem str_list (l : List UInt8) : (str l).data.toList = l := by simp [str]
theorem str_data (s : ByteArray) : str s.data.toList = s := by simp [str]

theorem pow_pos256 (k : Nat) : 0 < 256 ^ k := Nat.pos_of_ne_zero (by simp)
theorem byte_mod (a c i : Nat) : UInt8.ofNat (a % (256 ^ i * (256 * c)) / 256 ^ i) = UInt8.ofNat (a / 256 ^ i) := by
  apply UInt8.toNat_inj.1
  rw [Nat.mod_mul_right_div_self]
  simp [Nat.mod_mul_right_mod]
theorem be_mod (a : Nat) : ∀ (k j : Nat), k ≤ j → be (a % 256 ^ j) k = be a k
  | 0, j, _ => rfl
  | k + 1, j, h => by
    have e : 256 ^ j = 256 ^ k * (256 * 256 ^ (j - (k + 1))) := by
      rw [← Nat.mul_assoc, ← Nat.pow_succ, ← Nat.pow_add]
      congr 1
      omega
    rw [be, be, be_mod a k j (by omega)]
    congr 1
    rw [e]
    exact byte_mod a _ k
theorem head_lt {a k : Nat} (h : a < 256 ^ (k + 1)) : a / 256 ^ k < 256 := by
  rw [Nat.div_lt_iff_lt_mul (pow_pos256 k)]
  rw [Nat.pow_succ] at h
  omega
theorem ofNat_lt {x y : Nat} (hx : x < 256) (hy : y < 256) : (UInt8.ofNat x < UInt8.ofNat y) ↔ x < y := by
  rw [UInt8.lt_iff_toNat_lt]
  simp [Nat.mod_eq_of_lt hx, Nat.mod_eq_of_lt hy]
theorem ofNat_eq {x y : Nat} (hx : x < 256) (hy : y < 256) : (UInt8.ofNat x = UInt8.ofNat y) ↔ x = y := by
  rw [← UInt8.toNat_inj]
  simp [Nat.mod_eq_of_lt hx, Nat.mod_eq_of_lt hy]

theorem be_less : ∀ (k a b : Nat), a < 256 ^ k → b < 256 ^ k → Op.bytesLess (be a k) (be b k) = decide (a < b)
  | 0, a, b, ha, hb => by
    have : a = 0 := by simpa using ha
    have : b = 0 := by simpa using hb
    subst a b
    rfl
  | k + 1, a, b, ha, hb => by
    have h1 := head_lt ha
    have h2 := head_lt hb
    have hp := pow_pos256 k
    have ia := Nat.div_add_mod a (256 ^ k)
    have ib := Nat.div_add_mod b (256 ^ k)
    have ma := Nat.mod_lt a hp
    have mb := Nat.mod_lt b hp
    rw [be, be, Op.bytesLess, ← be_mod a k k (Nat.le_refl _), ← be_mod b k k (Nat.le_refl _), be_less k _ _ ma mb]
    rw [Bool.eq_iff_iff]
    simp only [Bool.or_eq_true, Bool.and_eq_true, decide_eq_true_eq, beq_iff_eq, ofNat_lt h1 h2, ofNat_eq h1 h2]
    constructor
    · rintro (h | ⟨h, h'⟩)
      · have : 256 ^ k * (a / 256 ^ k + 1) ≤ 256 ^ k * (b / 256 ^ k) := Nat.mul_le_mul_left _ h
        rw [Nat.mul_add, Nat.mul_one] at this
        omega
      · rw [h] at ia
        omega
    · intro h
      rcases Nat.lt_trichotomy (a / 256 ^ k) (b / 256 ^ k) with hh | hh | hh
      · exact .inl hh
      · refine .inr ⟨hh, ?_⟩
        rw [hh] at ia
        omega
      · have : 256 ^ k * (b / 256 ^ k + 1) ≤ 256 ^ k * (a / 256 ^ k) := Nat.mul_le_mul_left _ hh
        rw [Nat.mul_add, Nat.mul_one] at this
        omega

theorem num_be : ∀ (k a : Nat), a < 256 ^ k → num (be a k) = a := by
  have gen : ∀ (k a c : Nat), a < 256 ^ k → (be a k).foldl (fun x b => 256 * x + b.toNat) c = c * 256 ^ k + a := by
    intro k
    induction k with
    | zero => intro a c h; simp at h; subst h; simp [be]
    | succ k ih =>
      intro a c h
      have hp := pow_pos256 k
      have h1 := head_lt h
      have ia := Nat.div_add_mod a (256 ^ k)
      have e : (UInt8.ofNat (a / 256 ^ k)).toNat = a / 256 ^ k := by simp [Nat.mod_eq_of_lt h1]
      rw [be, List.foldl_cons, ← be_mod a k k (Nat.le_refl _), ih _ _ (Nat.mod_lt a hp), e, Nat.pow_succ, Nat.add_mul]
      have e2 : 256 * c * 256 ^ k = c * (256 ^ k * 256) := by rw [Nat.mul_comm 256 c, Nat.mul_assoc, Nat.mul_comm 256]
      rw [e2, Nat.mul_comm (a / 256 ^ k)]
      omega
  intro k a h
  have := gen k a 0 h
  simpa [num] using this
theorem be_inj {k a b : Nat} (ha : a < 256 ^ k) (hb : b < 256 ^ k) : be a k = be b k ↔ a = b := by
  constructor
  · intro h
    rw [← num_be k a ha, ← num_be k b hb, h]
  · intro h
    rw [h]
theorem str_toList (l : List UInt8) : (str l).toList = l := by rw [ByteArray.toList_eq]; exact str_list l
theorem p4 : (256 : Nat) ^ 4 = 4294967296 := by decide
theorem p8 : (256 : Nat) ^ 8 = 18446744073709551616 := by decide
theorem less_str (k : Nat) (A B : Int) (hA0 : 0 ≤ A) (hB0 : 0 ≤ B) (hA : A.toNat < 256 ^ k) (hB : B.toNat < 256 ^ k) : Op.bytesLess (str (be A.toNat k)).toList (str (be B.toNat k)).toList = decide (A < B) := by
  rw [str_toList, str_toList, be_less k _ _ hA hB]
  simp only [decide_eq_decide]
  omega
theorem eq_str (k : Nat) (A B : Int) (hA0 : 0 ≤ A) (hB0 : 0 ≤ B) (hA : A.toNat < 256 ^ k) (hB : B.toNat < 256 ^ k) : ((str (be A.toNat k)).toList == (str (be B.toNat k)).toList) = (A == B) := by
  rw [str_toList, str_toList, Bool.eq_iff_iff, beq_iff_eq, beq_iff_eq, be_inj hA hB]
  omega
end Go.Proofs.YtbbelhkdpmcoeaaGreat
