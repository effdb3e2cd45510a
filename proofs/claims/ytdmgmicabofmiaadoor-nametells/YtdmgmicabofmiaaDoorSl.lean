/- Slices of elements of k cells each, whatever they are: how they lie, what a row of one's own holds; nothing here speaks of a program. -/
import Derived.Test.YtdmgmicabofmiaaDoorBase
import Derived.Deep.MidRow
import Derived.Laws.OwnMore
import Derived.Deep.Onto
import Derived.Laws.AppendOwnNone
import Derived.Sort.OwnSortedInts
namespace Go.Proofs.YtdmgmicabofmiaaDoor
set_option linter.unusedVariables false
open Go.RowKit

/-- How an element lies: its cells, k of them. -/
structure Enc (α : Type) (k : Nat) where
  c : α → List Value
  len : ∀ x, (c x).length = k
  one : ∀ x, ∀ v ∈ c x, v.oneCell' = true
section
variable {α : Type} {k : Nat} {E : Enc α k}
theorem Enc.size (E : Enc α k) (x : α) : (E.c x).toArray.size = k := by simp [E.len]
theorem Enc.all (E : Enc α k) (x : α) : (E.c x).toArray.all (·.oneCell') = true := all_oneCell_toArray (E.one x)
/-- Elements behind one another. -/
def Enc.flat (E : Enc α k) (l : List α) : List Value := l.flatMap E.c
theorem Enc.flat_nil (E : Enc α k) : E.flat [] = [] := rfl
theorem Enc.flat_cons (E : Enc α k) (x : α) (l : List α) : E.flat (x :: l) = E.c x ++ E.flat l := by simp [Enc.flat]
theorem Enc.flat_one (E : Enc α k) (x : α) : E.flat [x] = E.c x := by simp [Enc.flat]
theorem Enc.flat_append (E : Enc α k) (l m : List α) : E.flat (l ++ m) = E.flat l ++ E.flat m := by simp [Enc.flat]
theorem Enc.flat_ones (E : Enc α k) (l : List α) : ∀ u ∈ E.flat l, u.oneCell' = true := by
  intro u hu
  simp only [Enc.flat, List.mem_flatMap] at hu
  obtain ⟨x, _, hx⟩ := hu
  exact E.one x u hx
theorem Enc.flat_length (E : Enc α k) : ∀ (l : List α), (E.flat l).length = l.length * k
  | [] => by simp [Enc.flat]
  | x :: l => by
    rw [E.flat_cons, List.length_append, E.len, E.flat_length l, List.length_cons, Nat.add_mul, Nat.one_mul, Nat.add_comm]
theorem Enc.flat_get (E : Enc α k) : ∀ (l : List α) (i j : Nat) (hi : i < l.length) (v : Value), (E.c l[i])[j]? = some v → (E.flat l)[i * k + j]? = some v
  | [], i, j, hi, v, _ => by cases hi
  | x :: l, i, j, hi, v, h => by
    rw [E.flat_cons]
    cases i with
    | zero =>
      have h' : (E.c x)[j]? = some v := h
      rw [Nat.zero_mul, Nat.zero_add, List.getElem?_append_left (List.getElem?_eq_some_iff.1 h').1]
      exact h'
    | succ i =>
      have h' := E.flat_get l i j (by simpa using hi) v (by simpa using h)
      rw [List.getElem?_append_right (by rw [E.len, Nat.add_mul, Nat.one_mul]; omega), E.len, show (i + 1) * k + j - k = i * k + j by rw [Nat.add_mul, Nat.one_mul]; omega]
      exact h'
theorem Enc.flat_range (E : Enc α k) {w : World} {g off : Nat} {l : List α} (h : w.rangeAt g off (E.flat l)) (i : Nat) (hi : i < l.length) : w.rangeAt g (off + i * k) (E.c l[i]) := fun j v hv => by
  have := h (i * k + j) v (E.flat_get l i j hi v hv)
  rwa [← Nat.add_assoc] at this
theorem Enc.range_flat (E : Enc α k) {w : World} {g : Nat} : ∀ (l : List α) (off : Nat), (∀ i (hi : i < l.length), w.rangeAt g (off + i * k) (E.c l[i])) → w.rangeAt g off (E.flat l)
  | [], off, _ => fun j v hv => by simp [Enc.flat] at hv
  | x :: l, off, hr => fun j v hv => by
    rw [E.flat_cons] at hv
    by_cases hj : j < k
    · rw [List.getElem?_append_left (by rw [E.len]; exact hj)] at hv
      have := hr 0 (by simp) j v hv
      simpa using this
    · rw [List.getElem?_append_right (by rw [E.len]; omega), E.len] at hv
      have ih := E.range_flat l (off + k) (fun i hi => by
        have := hr (i + 1) (by simp; omega)
        rw [show off + k + i * k = off + (i + 1) * k by rw [Nat.add_mul, Nat.one_mul]; omega]
        simpa using this) (j - k) v hv
      rwa [show off + k + (j - k) = off + j by omega] at ih

/-- A slice of them in blocks below B. -/
def SlB (E : Enc α k) (w : World) (B : Nat) (v : Value) (l : List α) : Prop :=
  ∃ ad cap, v = .slice ad l.length cap ∧ l.length ≤ cap ∧ l.length ≤ maxLen ∧ (ad = none → cap = 0) ∧ (l = [] ∨ ∃ g off, ad = some ⟨g, off, none⟩ ∧ g < B ∧ ∀ i (hi : i < l.length), w.rangeAt g (off + i * k) (E.c l[i]))
abbrev Sl (E : Enc α k) (w : World) (v : Value) (l : List α) : Prop := SlB E w w.heap.size v l
theorem range_same' {w w' : World} {g o : Nat} {cs : List Value} (h : w.rangeAt g o cs) (e : w'.heap[g]? = w.heap[g]?) : w'.rangeAt g o cs := fun j v hv => (World.cell?_of_block e).trans (h j v hv)
theorem SlB.kept {w w' : World} {B B' : Nat} {v : Value} {l : List α} (h : SlB E w B v l) (hb : ∀ g, g < B → w'.heap[g]? = w.heap[g]?) (hB : B ≤ B') : SlB E w' B' v l := by
  obtain ⟨ad, cap, h1, h2, h3, h4, h5⟩ := h
  refine ⟨ad, cap, h1, h2, h3, h4, ?_⟩
  rcases h5 with h5 | ⟨g, off, e, hg, hr⟩
  · exact .inl h5
  · exact .inr ⟨g, off, e, by omega, fun i hi => range_same' (hr i hi) (hb g hg)⟩
theorem SlB.below {w w' : World} {B : Nat} {v : Value} {l : List α} (h : SlB E w B v l) (hb : Below B w w') : SlB E w' B v l := h.kept hb.block (Nat.le_refl _)
theorem SlB.wide {w : World} {B B' : Nat} {v : Value} {l : List α} (h : SlB E w B v l) (hB : B ≤ B') : SlB E w B' v l := h.kept (fun _ _ => rfl) hB
theorem Sl.called {w w' : World} {v : Value} {l : List α} (h : Sl E w v l) (hb : Below w.heap.size w w') : Sl E w' v l := h.kept hb.block hb.size
theorem SlB.nil (E : Enc α k) (w : World) (B : Nat) : SlB E w B (.slice none 0 0) [] := ⟨none, 0, rfl, Nat.le_refl _, Nat.zero_le _, fun _ => rfl, .inl rfl⟩
theorem SlB.one {w : World} {B : Nat} {v : Value} {l : List α} (h : SlB E w B v l) : v.oneCell' = true := by
  obtain ⟨ad, cap, rfl, _⟩ := h
  rfl
/-- Where element i lies. -/
theorem SlB.at {w : World} {B : Nat} {ad : Option Addr} {n cap : Nat} {l : List α} (h : SlB E w B (.slice ad n cap) l) (i : Nat) (hi : i < l.length) : ∃ g off, ad = some ⟨g, off, none⟩ ∧ g < B ∧ w.rangeAt g (off + i * k) (E.c l[i]) := by
  obtain ⟨ad', cap', h1, h2, h3, h4, h5⟩ := h
  cases h1
  rcases h5 with rfl | ⟨g, off, e, hg, hr⟩
  · cases hi
  · exact ⟨g, off, e, hg, hr i hi⟩

/-- A row of one's own that holds them. -/
abbrev Own (E : Enc α k) (ty : TypeId) (w : World) (base : Nat) (v : Value) (l : List α) : Prop := w.ownsRow base ty k v l.length (E.flat l)
theorem Own.slB {ty : TypeId} {w : World} {base : Nat} {v : Value} {l : List α} (h : Own E ty w base v l) : SlB E w w.heap.size v l := by
  have hl := h.lt
  rcases h.2 with ⟨rfl, h0⟩ | ⟨g, cap, cur, rfl, hb, hg, hn, hm, _⟩
  · exact ⟨none, 0, by rw [h0], by omega, by omega, fun _ => rfl, .inl (List.eq_nil_of_length_eq_zero h0)⟩
  · refine ⟨_, cap, rfl, hn, by omega, (fun e => by cases e), .inr ⟨g, 0, rfl, (hl g rfl).2, fun i hi => E.flat_range (fun j u hu => ?_) i hi⟩⟩
    have := h.cells (g := g) rfl j u hu
    rwa [Addr.add_mid] at this
theorem Own.nil (E : Enc α k) (ty : TypeId) (w : World) (base : Nat) : Own E ty w base (.slice none 0 0) [] := World.ownsRow_nil w base ty k
/-- Is kept where its row is. -/
theorem Own.same {ty : TypeId} {w w' : World} {base : Nat} {v : Value} {l : List α} (h : Own E ty w base v l) (hb : ∀ g, v.ownBlock = some g → w'.heap[g]? = w.heap[g]?) : Own E ty w' base v l := by
  refine ⟨h.1, ?_⟩
  rcases h.2 with hn | ⟨g, cap, cur, rfl, h2, h3, h4⟩
  · exact .inl hn
  · exact .inr ⟨g, cap, cur, rfl, h2, (hb g rfl).trans h3, h4⟩
theorem Own.below {ty : TypeId} {w w' : World} {base : Nat} {v : Value} {l : List α} (h : Own E ty w base v l) (hb : Below w.heap.size w w') : Own E ty w' base v l := h.same fun g hg => hb.block g (h.lt g hg).2

/-- What lies in a slice that is read, cell by cell. -/
theorem SlB.news {w : World} {B : Nat} {ad : Option Addr} {n cap : Nat} {l : List α} (h : SlB E w B (.slice ad n cap) l) : n = l.length ∧ ((ad = none ∧ l = [] ∧ cap = 0) ∨ ∃ A, ad = some A ∧ ∀ j u, (E.flat l)[j]? = some u → w.cell? (A.add j) = some u) := by
  obtain ⟨ad', cap', h1, h2, h3, h4, h5⟩ := h
  cases h1
  refine ⟨rfl, ?_⟩
  rcases h5 with rfl | ⟨g, off, rfl, hg, hr⟩
  · cases ad with
    | none => exact .inl ⟨rfl, rfl, h4 rfl⟩
    | some A => exact .inr ⟨A, rfl, fun j u hu => by simp [Enc.flat] at hu⟩
  · refine .inr ⟨_, rfl, fun j u hu => ?_⟩
    rw [Addr.add_mid]
    exact E.range_flat l off hr j u hu
theorem SlB.take {w : World} {B : Nat} {ad : Option Addr} {n cap : Nat} {l : List α} (h : SlB E w B (.slice ad n cap) l) (m : Nat) (hm : m ≤ l.length) : SlB E w B (.slice ad m cap) (l.take m) := by
  obtain ⟨ad', cap', h1, h2, h3, h4, h5⟩ := h
  cases h1
  have hlen : (l.take m).length = m := by simp; omega
  refine ⟨ad, cap, by rw [hlen], by omega, by omega, h4, ?_⟩
  rcases h5 with rfl | ⟨g, off, rfl, hg, hr⟩
  · exact .inl (by simp)
  · refine .inr ⟨g, off, rfl, hg, fun i hi => ?_⟩
    rw [List.getElem_take]
    exact hr i (by omega)

/-- What append's law asks of a type, at once. -/
structure RowTy (P : Program) (E : Enc α k) (ts te : TypeId) (bytes : Nat) : Prop where
  under : P.underlying ts = some (.slice te)
  info : ∃ z, (P.info? te).map (fun i => (i.zero, i.size, i.bytes)) = some (some z, k, bytes) ∧ z.cells.size = k
  pos : 0 < k
theorem RowTy.parts {P : Program} {ts te : TypeId} {bytes : Nat} (h : RowTy P E ts te bytes) : ∃ i z, P.info? te = some i ∧ i.zero = some z ∧ i.size = k ∧ i.bytes = bytes ∧ z.cells.size = k := by
  obtain ⟨z, h1, h2⟩ := h.info
  cases hi : P.info? te with
  | none => rw [hi] at h1; cases h1
  | some i =>
    rw [hi] at h1
    simp only [Option.map_some, Option.some.injEq, Prod.mk.injEq] at h1
    exact ⟨i, z, rfl, h1.1, h1.2.1, h1.2.2, h2⟩

section
variable {P : Program} {ts te : TypeId} {bytes : Nat} {ops : Array Oper} {rest : List Oper} {o : Oper} {a : Act} {w : World} {Q : Exit → Act → World → Prop}
/-- append of one element behind a row of one's own. -/
theorem append_one (R : RowTy P E ts te bytes) (hgd : o.guard = none) (s x : Operand) (ho : o.op = .call { callee := .builtin .append, args := #[s, x], argTypes := #[ts, ts] })
    (base : Nat) (v : Value) (l : List α) (hs : a.eval s = v) (hown : Own E te w base v l)
    (b : Nat) (e : α) (hx : a.eval x = .slice (some ⟨b, 0, none⟩) 1 1) (fz : Nat × Nat) (tb : TypeId) (hb : w.heap[b]? = some (.cells (E.c e).toArray tb fz))
    (h63 : l.length + 1 ≤ 1000000) (hbytes : bytes ≤ 10000) (hbase : base ≤ w.heap.size)
    (h : ∀ g cap w', Own E te w' base (.slice (some ⟨g, 0, none⟩) (l.length + 1) cap) (l ++ [e]) → w.grownBy w' v.ownBlock → (v.ownBlock = some g ∨ g = w.heap.size) → g < w'.heap.size → wpList P ops Q rest (a.put o.dst (.slice (some ⟨g, 0, none⟩) (l.length + 1) cap)) w') : wpList P ops Q (o :: rest) a w := by
  obtain ⟨i, z, hi, hz, hsz, hby, hzc⟩ := R.parts
  have hB : (l.length + 1) * bytes ≤ 140737488355328 := by
    have := Nat.mul_le_mul h63 hbytes
    omega
  refine wpList_append_lies w hgd s x ts ho base te i z k bytes R.under hi hz hsz hby hzc R.pos v l.length (E.flat l) hs hown ⟨b, 0, none⟩ 1 1 (E.c e) hx (by rw [E.len, Nat.one_mul]) (fun j u hu => ?_) (E.one e) (by omega) (by unfold maxLen; omega) hB hbase w.heap.size rfl ?_
  · rw [Addr.add_mid, Nat.zero_add, cell_of_row w b j _ _ _ hb]
    simpa using hu
  · intro g cap w' h1 h2 h3 h4
    have hl : (l ++ [e]).length = l.length + 1 := by simp
    refine h g cap w' ?_ h2 h3 h4
    show w'.ownsRow base te k _ (l ++ [e]).length (E.flat (l ++ [e]))
    rw [hl, E.flat_append, E.flat_one]
    exact h1
/-- append of a slice behind a row of one's own. -/
theorem append_sl (R : RowTy P E ts te bytes) (hgd : o.guard = none) (s x : Operand) (ho : o.op = .call { callee := .builtin .append, args := #[s, x], argTypes := #[ts, ts] })
    (base : Nat) (v : Value) (l m : List α) (hs : a.eval s = v) (hown : Own E te w base v l)
    (u : Value) (hx : a.eval x = u) (B : Nat) (hu : SlB E w B u m)
    (h63 : l.length + m.length ≤ 1000000) (hbytes : bytes ≤ 10000) (hbase : base ≤ w.heap.size)
    (h : ∀ v' w', Own E te w' base v' (l ++ m) → w.grownBy w' v.ownBlock → wpList P ops Q rest (a.put o.dst v') w') : wpList P ops Q (o :: rest) a w := by
  obtain ⟨i, z, hi, hz, hsz, hby, hzc⟩ := R.parts
  have hB : (l.length + m.length) * bytes ≤ 140737488355328 := by
    have := Nat.mul_le_mul h63 hbytes
    omega
  have hl : (l ++ m).length = l.length + m.length := by simp
  have hu' := hu
  obtain ⟨ad, cap, rfl, _⟩ := hu'
  obtain ⟨_, hc⟩ := hu.news
  rcases hc with ⟨rfl, rfl, rfl⟩ | ⟨A, rfl, hn⟩
  · refine wpList_append_own_none hgd s x ts ho base te i k R.under hi v l.length (E.flat l) hs hown hx ?_
    exact h _ _ (by rw [List.append_nil]; exact hown) ⟨rfl, rfl, rfl, Nat.le_refl _, fun _ _ _ => rfl⟩
  · refine wpList_append_own w hgd s x ts ho base te i z k bytes R.under hi hz hsz hby hzc R.pos v l.length (E.flat l) hs hown A m.length cap (E.flat m) hx (E.flat_length m) hn (E.flat_ones m) (by unfold maxLen; omega) hB hbase ?_
    intro v' w' h1 h2 _
    refine h v' w' ?_ h2
    show w'.ownsRow base te k _ (l ++ m).length (E.flat (l ++ m))
    rw [hl, E.flat_append]
    exact h1
end
end
end Go.Proofs.YtdmgmicabofmiaaDoor
