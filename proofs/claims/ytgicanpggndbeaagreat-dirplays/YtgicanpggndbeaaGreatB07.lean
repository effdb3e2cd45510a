import Derived.Test.YtgicanpggndbeaaGreatB01
import Derived.Deep.MidRow
import Derived.Laws.OwnMore
import Derived.Deep.Onto
import Derived.Laws.AppendOwnNone
import Derived.Sort.OwnSortedInts
import Derived.Laws.ResultCell
import Derived.Deep.WholeRow
import Derived.BigQuiet
import Derived.Great.BuildSlice
import Derived.Great.Walk
import Derived.Test.YtgicanpggndbeaaGreatB06
/- Slices of elements of k cells each, whatever they are: how they lie, what a row of one's own holds; nothing here speaks of a program. -/
namespace Go.Proofs.YtgicanpggndbeaaGreat
set_option linter.unusedVariables false
set_option maxRecDepth 100000
open Go.RowKit

/-- How an element lies: its cells, k of them. -/
structure Enc (α : Type) (k : Nat) where
 c : α → List Value
 len : ∀ x, (c x).length = k
 one : ∀ x, ∀ v ∈ c x, v.oneCell' = true
section
variable {α : Type} {k : Nat} {E : Enc α k}
theorem Enc.size (E : Enc α k) (x : α) : (E.c x).toArray.size = k := by simp [E.len]
theorem Enc.all (E : Enc α k) (x : α) : (E.c x).toArray.all (·.oneCell') = true := all_oneCell_toArray (E.one x)
/-- Elements behind one another. -/
def Enc.flat (E : Enc α k) (l : List α) : List Value := l.flatMap E.c
theorem Enc.flat_cons (E : Enc α k) (x : α) (l : List α) : E.flat (x :: l) = E.c x ++ E.flat l := by simp [Enc.flat]
theorem Enc.flat_one (E : Enc α k) (x : α) : E.flat [x] = E.c x := by simp [Enc.flat]
theorem Enc.flat_append (E : Enc α k) (l m : List α) : E.flat (l ++ m) = E.flat l ++ E.flat m := by simp [Enc.flat]
theorem Enc.flat_ones (E : Enc α k) (l : List α) : ∀ u ∈ E.flat l, u.oneCell' = true := by
 intro u hu
 simp only [Enc.flat, List.mem_flatMap] at hu
 obtain ⟨x, _, hx⟩ := hu
 exact E.one x u hx
theorem Enc.flat_length (E : Enc α k) : ∀ (l : List α), (E.flat l).length = l.length * k
 | [] => by simp [Enc.flat]
 | x :: l => by
  rw [E.flat_cons, List.length_append, E.len, E.flat_length l, List.length_cons, Nat.add_mul, Nat.one_mul, Nat.add_comm]
theorem Enc.flat_get (E : Enc α k) : ∀ (l : List α) (i j : Nat) (hi : i < l.length) (v : Value), (E.c l[i])[j]? = some v → (E.flat l)[i * k + j]? = some v
 | [], i, j, hi, v, _ => by cases hi
 | x :: l, i, j, hi, v, h => by
  rw [E.flat_cons]
  cases i with
  | zero =>
   have h' : (E.c x)[j]? = some v := h
   rw [Nat.zero_mul, Nat.zero_add, List.getElem?_append_left (List.getElem?_eq_some_iff.1 h').1]
   exact h'
  | succ i =>
   have h' := E.flat_get l i j (by simpa using hi) v (by simpa using h)
   rw [List.getElem?_append_right (by rw [E.len, Nat.add_mul, Nat.one_mul]; omega), E.len, show (i + 1) * k + j - k = i * k + j by rw [Nat.add_mul, Nat.one_mul]; omega]
   exact h'
theorem Enc.flat_range (E : Enc α k) {w : World} {g off : Nat} {l : List α} (h : w.rangeAt g off (E.flat l)) (i : Nat) (hi : i < l.length) : w.rangeAt g (off + i * k) (E.c l[i]) := fun j v hv => by
 have := h (i * k + j) v (E.flat_get l i j hi v hv)
 rwa [← Nat.add_assoc] at this
theorem Enc.range_flat (E : Enc α k) {w : World} {g : Nat} : ∀ (l : List α) (off : Nat), (∀ i (hi : i < l.length), w.rangeAt g (off + i * k) (E.c l[i])) → w.rangeAt g off (E.flat l)
 | [], off, _ => fun j v hv => by simp [Enc.flat] at hv
 | x :: l, off, hr => fun j v hv => by
  rw [E.flat_cons] at hv
  by_cases hj : j < k
  · rw [List.getElem?_append_left (by rw [E.len]; exact hj)] at hv
    have := hr 0 (by simp) j v hv
    simpa using this
  · rw [List.getElem?_append_right (by rw [E.len]; omega), E.len] at hv
    have ih := E.range_flat l (off + k) (fun i hi => by
     have := hr (i + 1) (by simp; omega)
     rw [show off + k + i * k = off + (i + 1) * k by rw [Nat.add_mul, Nat.one_mul]; omega]
     simpa using this) (j - k) v hv
    rwa [show off + k + (j - k) = off + j by omega] at ih

/-- A slice of them in blocks below B. -/
def SlB (E : Enc α k) (w : World) (B : Nat) (v : Value) (l : List α) : Prop :=
 ∃ ad cap, v = .slice ad l.length cap ∧ l.length ≤ cap ∧ l.length ≤ maxLen ∧ (ad = none → cap = 0) ∧ (l = [] ∨ ∃ g off, ad = some ⟨g, off, none⟩ ∧ g < B ∧ ∀ i (hi : i < l.length), w.rangeAt g (off + i * k) (E.c l[i]))
abbrev Sl (E : Enc α k) (w : World) (v : Value) (l : List α) : Prop := SlB E w w.heap.size v l
theorem range_same' {w w' : World} {g o : Nat} {cs : List Value} (h : w.rangeAt g o cs) (e : w'.heap[g]? = w.heap[g]?) : w'.rangeAt g o cs := fun j v hv => (World.cell?_of_block e).trans (h j v hv)
theorem SlB.kept {w w' : World} {B B' : Nat} {v : Value} {l : List α} (h : SlB E w B v l) (hb : ∀ g, g < B → w'.heap[g]? = w.heap[g]?) (hB : B ≤ B') : SlB E w' B' v l := by
 obtain ⟨ad, cap, h1, h2, h3, h4, h5⟩ := h
 refine ⟨ad, cap, h1, h2, h3, h4, ?_⟩
 rcases h5 with h5 | ⟨g, off, e, hg, hr⟩
 · exact .inl h5
 · exact .inr ⟨g, off, e, by omega, fun i hi => range_same' (hr i hi) (hb g hg)⟩
theorem SlB.below {w w' : World} {B : Nat} {v : Value} {l : List α} (h : SlB E w B v l) (hb : Below B w w') : SlB E w' B v l := h.kept hb.block (Nat.le_refl _)
theorem SlB.wide {w : World} {B B' : Nat} {v : Value} {l : List α} (h : SlB E w B v l) (hB : B ≤ B') : SlB E w B' v l := h.kept (fun _ _ => rfl) hB
theorem Sl.called {w w' : World} {v : Value} {l : List α} (h : Sl E w v l) (hb : Below w.heap.size w w') : Sl E w' v l := h.kept hb.block hb.size
theorem SlB.nil (E : Enc α k) (w : World) (B : Nat) : SlB E w B (.slice none 0 0) [] := ⟨none, 0, rfl, Nat.le_refl _, Nat.zero_le _, fun _ => rfl, .inl rfl⟩
/-- Where element i lies. -/
theorem SlB.at {w : World} {B : Nat} {ad : Option Addr} {n cap : Nat} {l : List α} (h : SlB E w B (.slice ad n cap) l) (i : Nat) (hi : i < l.length) : ∃ g off, ad = some ⟨g, off, none⟩ ∧ g < B ∧ w.rangeAt g (off + i * k) (E.c l[i]) := by
 obtain ⟨ad', cap', h1, h2, h3, h4, h5⟩ := h
 cases h1
 rcases h5 with rfl | ⟨g, off, e, hg, hr⟩
 · cases hi
 · exact ⟨g, off, e, hg, hr i hi⟩

/-- A row of one's own that holds them. -/
abbrev Own (E : Enc α k) (ty : TypeId) (w : World) (base : Nat) (v : Value) (l : List α) : Prop := w.ownsRow base ty k v l.length (E.flat l)
theorem Own.slB {ty : TypeId} {w : World} {base : Nat} {v : Value} {l : List α} (h : Own E ty w base v l) : SlB E w w.heap.size v l := by
 have hl := h.lt
 rcases h.2 with ⟨rfl, h0⟩ | ⟨g, cap, cur, rfl, hb, hg, hn, hm, _⟩
 · exact ⟨none, 0, by rw [h0], by omega, by omega, fun _ => rfl, .inl (List.eq_nil_of_length_eq_zero h0)⟩
 · refine ⟨_, cap, rfl, hn, by omega, (fun e => by cases e), .inr ⟨g, 0, rfl, (hl g rfl).2, fun i hi => E.flat_range (fun j u hu => ?_) i hi⟩⟩
   have := h.cells (g := g) rfl j u hu
   rwa [Addr.add_mid] at this
theorem Own.nil (E : Enc α k) (ty : TypeId) (w : World) (base : Nat) : Own E ty w base (.slice none 0 0) [] := World.ownsRow_nil w base ty k
/-- Is kept where its row is. -/
theorem Own.same {ty : TypeId} {w w' : World} {base : Nat} {v : Value} {l : List α} (h : Own E ty w base v l) (hb : ∀ g, v.ownBlock = some g → w'.heap[g]? = w.heap[g]?) : Own E ty w' base v l := by
 refine ⟨h.1, ?_⟩
 rcases h.2 with hn | ⟨g, cap, cur, rfl, h2, h3, h4⟩
 · exact .inl hn
 · exact .inr ⟨g, cap, cur, rfl, h2, (hb g rfl).trans h3, h4⟩
theorem Own.below {ty : TypeId} {w w' : World} {base : Nat} {v : Value} {l : List α} (h : Own E ty w base v l) (hb : Below w.heap.size w w') : Own E ty w' base v l := h.same fun g hg => hb.block g (h.lt g hg).2

/-- What lies in a slice that is read, cell by cell. -/
theorem SlB.news {w : World} {B : Nat} {ad : Option Addr} {n cap : Nat} {l : List α} (h : SlB E w B (.slice ad n cap) l) : n = l.length ∧ ((ad = none ∧ l = [] ∧ cap = 0) ∨ ∃ A, ad = some A ∧ ∀ j u, (E.flat l)[j]? = some u → w.cell? (A.add j) = some u) := by
 obtain ⟨ad', cap', h1, h2, h3, h4, h5⟩ := h
 cases h1
 refine ⟨rfl, ?_⟩
 rcases h5 with rfl | ⟨g, off, rfl, hg, hr⟩
 · cases ad with
   | none => exact .inl ⟨rfl, rfl, h4 rfl⟩
   | some A => exact .inr ⟨A, rfl, fun j u hu => by simp [Enc.flat] at hu⟩
 · refine .inr ⟨_, rfl, fun j u hu => ?_⟩
   rw [Addr.add_mid]
   exact E.range_flat l off hr j u hu
theorem SlB.take {w : World} {B : Nat} {ad : Option Addr} {n cap : Nat} {l : List α} (h : SlB E w B (.slice ad n cap) l) (m : Nat) (hm : m ≤ l.length) : SlB E w B (.slice ad m cap) (l.take m) := by
 obtain ⟨ad', cap', h1, h2, h3, h4, h5⟩ := h
 cases h1
 have hlen : (l.take m).length = m := by simp; omega
 refine ⟨ad, cap, by rw [hlen], by omega, by omega, h4, ?_⟩
 rcases h5 with rfl | ⟨g, off, rfl, hg, hr⟩
 · exact .inl (by simp)
 · refine .inr ⟨g, off, rfl, hg, fun i hi => ?_⟩
   rw [List.getElem_take]
   exact hr i (by omega)

/-- What append's law asks of a type, at once. -/
structure RowTy (P : Program) (E : Enc α k) (ts te : TypeId) (bytes : Nat) : Prop where
 under : P.underlying ts = some (.slice te)
 info : ∃ z, (P.info? te).map (fun i => (i.zero, i.size, i.bytes)) = some (some z, k, bytes) ∧ z.cells.size = k
 pos : 0 < k
theorem RowTy.parts {P : Program} {ts te : TypeId} {bytes : Nat} (h : RowTy P E ts te bytes) : ∃ i z, P.info? te = some i ∧ i.zero = some z ∧ i.size = k ∧ i.bytes = bytes ∧ z.cells.size = k := by
 obtain ⟨z, h1, h2⟩ := h.info
 cases hi : P.info? te with
 | none => rw [hi] at h1; cases h1
 | some i =>
  rw [hi] at h1
  simp only [Option.map_some, Option.some.injEq, Prod.mk.injEq] at h1
  exact ⟨i, z, rfl, h1.1, h1.2.1, h1.2.2, h2⟩

section
variable {P : Program} {ts te : TypeId} {bytes : Nat} {ops : Array Oper} {rest : List Oper} {o : Oper} {a : Act} {w : World} {Q : Exit → Act → World → Prop}
/-- append of one element behind a row of one's own. -/
theorem append_one (R : RowTy P E ts te bytes) (hgd : o.guard = none) (s x : Operand) (ho : o.op = .call { callee := .builtin .append, args := #[s, x], argTypes := #[ts, ts] })
    (base : Nat) (v : Value) (l : List α) (hs : a.eval s = v) (hown : Own E te w base v l)
    (b : Nat) (e : α) (hx : a.eval x = .slice (some ⟨b, 0, none⟩) 1 1) (fz : Nat × Nat) (tb : TypeId) (hb : w.heap[b]? = some (.cells (E.c e).toArray tb fz))
    (h63 : l.length + 1 ≤ 1000000) (hbytes : bytes ≤ 10000) (hbase : base ≤ w.heap.size)
    (h : ∀ g cap w', Own E te w' base (.slice (some ⟨g, 0, none⟩) (l.length + 1) cap) (l ++ [e]) → w.grownBy w' v.ownBlock → (v.ownBlock = some g ∨ g = w.heap.size) → g < w'.heap.size → wpList P ops Q rest (a.put o.dst (.slice (some ⟨g, 0, none⟩) (l.length + 1) cap)) w') : wpList P ops Q (o :: rest) a w := by
 obtain ⟨i, z, hi, hz, hsz, hby, hzc⟩ := R.parts
 have hB : (l.length + 1) * bytes ≤ 140737488355328 := by
  have := Nat.mul_le_mul h63 hbytes
  omega
 refine wpList_append_lies w hgd s x ts ho base te i z k bytes R.under hi hz hsz hby hzc R.pos v l.length (E.flat l) hs hown ⟨b, 0, none⟩ 1 1 (E.c e) hx (by rw [E.len, Nat.one_mul]) (fun j u hu => ?_) (E.one e) (by omega) (by unfold maxLen; omega) hB hbase w.heap.size rfl ?_
 · rw [Addr.add_mid, Nat.zero_add, cell_of_row w b j _ _ _ hb]
   simpa using hu
 · intro g cap w' h1 h2 h3 h4
   have hl : (l ++ [e]).length = l.length + 1 := by simp
   refine h g cap w' ?_ h2 h3 h4
   show w'.ownsRow base te k _ (l ++ [e]).length (E.flat (l ++ [e]))
   rw [hl, E.flat_append, E.flat_one]
   exact h1
/-- append of a slice behind a row of one's own. -/
theorem append_sl (R : RowTy P E ts te bytes) (hgd : o.guard = none) (s x : Operand) (ho : o.op = .call { callee := .builtin .append, args := #[s, x], argTypes := #[ts, ts] })
    (base : Nat) (v : Value) (l m : List α) (hs : a.eval s = v) (hown : Own E te w base v l)
    (u : Value) (hx : a.eval x = u) (B : Nat) (hu : SlB E w B u m)
    (h63 : l.length + m.length ≤ 1000000) (hbytes : bytes ≤ 10000) (hbase : base ≤ w.heap.size)
    (h : ∀ v' w', Own E te w' base v' (l ++ m) → w.grownBy w' v.ownBlock → wpList P ops Q rest (a.put o.dst v') w') : wpList P ops Q (o :: rest) a w := by
 obtain ⟨i, z, hi, hz, hsz, hby, hzc⟩ := R.parts
 have hB : (l.length + m.length) * bytes ≤ 140737488355328 := by
  have := Nat.mul_le_mul h63 hbytes
  omega
 have hl : (l ++ m).length = l.length + m.length := by simp
 have hu' := hu
 obtain ⟨ad, cap, rfl, _⟩ := hu'
 obtain ⟨_, hc⟩ := hu.news
 rcases hc with ⟨rfl, rfl, rfl⟩ | ⟨A, rfl, hn⟩
 · refine wpList_append_own_none hgd s x ts ho base te i k R.under hi v l.length (E.flat l) hs hown hx ?_
   exact h _ _ (by rw [List.append_nil]; exact hown) ⟨rfl, rfl, rfl, Nat.le_refl _, fun _ _ _ => rfl⟩
 · refine wpList_append_own w hgd s x ts ho base te i z k bytes R.under hi hz hsz hby hzc R.pos v l.length (E.flat l) hs hown A m.length cap (E.flat m) hx (E.flat_length m) hn (E.flat_ones m) (by unfold maxLen; omega) hB hbase ?_
   intro v' w' h1 h2 _
   refine h v' w' ?_ h2
   show w'.ownsRow base te k _ (l ++ m).length (E.flat (l ++ m))
   rw [hl, E.flat_append]
   exact h1
end
end
end Go.Proofs.YtgicanpggndbeaaGreat
/- Elements of k cells each: one in a block of its own, loaded, stored, handed back; slice literals of them. -/
namespace Go.Proofs.YtgicanpggndbeaaGreat
set_option linter.unusedVariables false
set_option maxRecDepth 100000
open Go.RowKit

section
variable {α : Type} {k : Nat} {E : Enc α k} {ty : TypeId}
/-- An element in a block of its own. -/
structure InB (E : Enc α k) (ty : TypeId) (w : World) (b : Nat) (x : α) : Prop where
 blk : w.heap[b]? = some (.cells (E.c x).toArray ty (0, 0))
theorem InB.lt {w : World} {b : Nat} {x : α} (h : InB E ty w b x) : b < w.heap.size := lt_of_block h.blk
theorem InB.same {w w' : World} {b : Nat} {x : α} (h : InB E ty w b x) (q : w'.heap[b]? = w.heap[b]?) : InB E ty w' b x := ⟨q.trans h.blk⟩
theorem InB.below {B : Nat} {w w' : World} {b : Nat} {x : α} (h : InB E ty w b x) (hb : Below B w w') (hB : b < B) : InB E ty w' b x := h.same (hb.block b hB)
theorem InB.touch {w w' : World} {b p : Nat} {r : Option Nat} {x : α} (h : InB E ty w b x) (ht : Touch p r w w') (hp : b ≠ p) (hr : r ≠ some b) : InB E ty w' b x := h.same (ht.block b h.lt hp hr)
theorem InB.alloc {w : World} {b : Nat} {x : α} (h : InB E ty w b x) (o : Obj) : InB E ty (w.alloc o) b x := h.same (Below.heap_alloc _ _ _ h.lt)
theorem InB.new (E : Enc α k) (ty : TypeId) (w : World) (x : α) (b : Nat) (hb : b = w.heap.size) : InB E ty (w.alloc (.cells (E.c x).toArray ty)) b x := by
 subst hb
 exact ⟨heap_alloc_new _ _⟩
theorem InB.range {w : World} {b : Nat} {x : α} (h : InB E ty w b x) : w.rangeAt b 0 (E.c x) := fun j v hv => by
 rw [Nat.zero_add, cell_of_row w b _ _ _ _ h.blk]
 simpa using hv
/-- What a type must be for them. -/
structure ElTy (P : Program) (E : Enc α k) (ty : TypeId) : Prop where
 row : ∃ d, P.underlying ty = some d ∧ d.isRow = true ∧ (match d with | .struct _ => true | .array _ _ => true | _ => false) = true
 info : (P.info? ty).map (·.size) = some k
section
variable {P : Program} {ops : Array Oper} {rest : List Oper} {o : Oper} {a : Act} {w : World} {Q : Exit → Act → World → Prop}
theorem load_el (R : ElTy P E ty) (x : Operand) (ho : o.op = .load ty x) (b i : Nat) (hx : a.eval x = .pointer (some ⟨b, i, none⟩)) (hgd : Region.wanted o (yielded ops a.tmps) = true) (e : α) (hK : w.rangeAt b i (E.c e))
    (h : wpList P ops Q rest (a.put o.dst (.agg (E.c e).toArray)) w) : wpList P ops Q (o :: rest) a w := by
 obtain ⟨d, hu, hd, _⟩ := R.row
 exact BigFrame.wpList_want hgd fun _ hK' => wp_load_mid _ x ho b i hx _ _ hK hu hd (by rw [E.len]; exact R.info) (hK' _ _ h)
theorem store_el (R : ElTy P E ty) (hgd : o.guard = none) (x y : Operand) (ho : o.op = .store ty x y) (b : Nat) (hx : a.eval x = .pointer (some ⟨b, 0, none⟩)) (e : α) (hy : a.eval y = .agg (E.c e).toArray) (e0 : α) (hK : InB E ty w b e0)
    (h : ∀ w', InB E ty w' b e → Touch b none w w' → w'.heap.size = w.heap.size → wpList P ops Q rest (a.put o.dst undef) w') : wpList P ops Q (o :: rest) a w :=
 wpList_store_row hgd _ x y ho b _ hx hy _ _ hK.blk (by rw [E.size]; exact R.info) (by rw [E.size, E.size]) (E.all e) (h _ ⟨setRow_heap w b _ _ _ _ hK.blk⟩ ⟨rfl, rfl, rfl, by simp, fun j _ hj _ => setRow_other w b j _ hj⟩ (by simp))
end
/-! Slice literals. -/
theorem fill_els (E : Enc α k) : ∀ (es : List α) (j : Nat) (C : Array Value), (j + es.length) * k = C.size →
    Instr.fill (fun i => some (i * k, k)) C ((es.zipIdx j).map fun x => (x.2, Value.agg (E.c x.1).toArray)) = some (C.toList.take (j * k) ++ E.flat es).toArray
 | [], j, C, h => by
  simp only [List.length_nil, Nat.add_zero] at h
  rw [h]
  simp only [List.zipIdx_nil, List.map_nil, Instr.fill, Enc.flat, List.flatMap_nil, List.append_nil]
  rw [List.take_of_length_le (by simp)]
 | e :: es, j, C, h => by
  have hl : j * k + k ≤ C.size := by
   rw [← h, List.length_cons, ← Nat.succ_mul]
   exact Nat.mul_le_mul_right k (by omega)
  rw [List.zipIdx_cons, List.map_cons, fill_put (off := j * k) (size := k) rfl (by simp [Value.cells, E.len]) hl]
  rw [fill_els E es (j + 1) _ (by simp only [List.size_toArray, List.length_append, List.length_take, List.length_drop, Array.length_toList, Value.cells, List.toList_toArray, E.len]; rw [show j + 1 + es.length = j + (e :: es).length by simp; omega, h]; omega)]
  congr 2
  simp only [Value.cells, List.toList_toArray, E.flat_cons]
  rw [List.take_append_of_le_length (by simp [E.len]; rw [Nat.succ_mul]; omega), List.take_of_length_le (by simp [E.len]; rw [Nat.succ_mul]; omega), List.append_assoc]
theorem wp_build_els {P : Program} {ts te : TypeId} {bytes : Nat} {o : Oper} {a : Act} {w : World} {K : Act → World → Prop} {Q : Exit → Act → World → Prop} (R : RowTy P E ts te bytes) (n : Nat) (parts : Array (Nat × Operand)) (ho : o.op = .buildSlice ts n parts) (es : List α) (hn : es.length = n) (hpos : 0 < n) (hsmall : n * k ≤ 16777216)
    (hv : (parts.map fun x => (x.1, a.eval x.2)).toList = (es.zipIdx 0).map fun x => (x.2, Value.agg (E.c x.1).toArray))
    (h : ∀ w', Own E te w' w.heap.size (.slice (some ⟨w.heap.size, 0, none⟩) n n) es → Below w.heap.size w w' → w'.heap.size = w.heap.size + 1 → w'.heap[w.heap.size]? = some (.cells (E.flat es).toArray te (0, 0)) → K (a.put o.dst (.slice (some ⟨w.heap.size, 0, none⟩) n n)) w') : o.wp P a w K Q := by
 obtain ⟨i, z, hi, hz, hsz, hby, hzc⟩ := R.parts
 subst hn
 have hmul := Nat.mul_pos hpos R.pos
 refine wp_buildSlice ts te es.length parts ho (E.flat es).toArray i z R.under hi hz (by rw [hsz]; omega) (by rw [hsz]; omega) ?_ ?_
 · rw [show (fun x : Nat × Operand => match x with | (i, x) => (i, a.eval x)) = (fun x => (x.1, a.eval x.2)) from rfl, hv, hsz]
   have := fill_els E es 0 ((Array.range (es.length * k)).map (z.cells[· % z.cells.size]!)) (by simp)
   simpa using this
 · refine h _ ⟨E.flat_length es, .inr ⟨w.heap.size, es.length, (E.flat es).toArray, rfl, Nat.le_refl _, heap_alloc_new _ _, Nat.le_refl _, ?_, by simp [E.flat_length], ?_⟩⟩ ((Below.refl _ w).alloc (Nat.le_refl _) _) (by simp) (heap_alloc_new _ _)
   · have : es.length ≤ es.length * k := Nat.le_mul_of_pos_right _ R.pos
     unfold maxLen; omega
   · simp [← E.flat_length es]
theorem build_els {P : Program} {ts te : TypeId} {bytes : Nat} {ops : Array Oper} {rest : List Oper} {o : Oper} {a : Act} {w : World} {Q : Exit → Act → World → Prop} (R : RowTy P E ts te bytes) (hg : o.guard = none) (n : Nat) (parts : Array (Nat × Operand)) (ho : o.op = .buildSlice ts n parts) (es : List α) (hn : es.length = n) (hpos : 0 < n) (hsmall : n * k ≤ 16777216)
    (hv : (parts.map fun x => (x.1, a.eval x.2)).toList = (es.zipIdx 0).map fun x => (x.2, Value.agg (E.c x.1).toArray))
    (h : ∀ w', Own E te w' w.heap.size (.slice (some ⟨w.heap.size, 0, none⟩) n n) es → Below w.heap.size w w' → w'.heap.size = w.heap.size + 1 → w'.heap[w.heap.size]? = some (.cells (E.flat es).toArray te (0, 0)) → wpList P ops Q rest (a.put o.dst (.slice (some ⟨w.heap.size, 0, none⟩) n n)) w') : wpList P ops Q (o :: rest) a w :=
 wpList_plain hg fun _ hK => wp_build_els R n parts ho es hn hpos hsmall hv fun w' h1 h2 h3 h4 => hK _ _ (h w' h1 h2 h3 h4)
theorem wp_build_el1 {P : Program} {ts te : TypeId} {bytes : Nat} {o : Oper} {a : Act} {w : World} {K : Act → World → Prop} {Q : Exit → Act → World → Prop} (R : RowTy P E ts te bytes) (x : Operand) (ho : o.op = .buildSlice ts 1 #[(0, x)]) (e : α) (hx : a.eval x = .agg (E.c e).toArray) (hsmall : k ≤ 1000)
    (h : ∀ w', Own E te w' w.heap.size (.slice (some ⟨w.heap.size, 0, none⟩) 1 1) [e] → Below w.heap.size w w' → w'.heap.size = w.heap.size + 1 → K (a.put o.dst (.slice (some ⟨w.heap.size, 0, none⟩) 1 1)) w') : o.wp P a w K Q :=
 wp_build_els R 1 _ ho [e] rfl (by decide) (by omega) (by simp [hx]) fun w' h1 h2 h3 _ => h w' h1 h2 h3
theorem build_el1 {P : Program} {ts te : TypeId} {bytes : Nat} {ops : Array Oper} {rest : List Oper} {o : Oper} {a : Act} {w : World} {Q : Exit → Act → World → Prop} (R : RowTy P E ts te bytes) (hg : o.guard = none) (x : Operand) (ho : o.op = .buildSlice ts 1 #[(0, x)]) (e : α) (hx : a.eval x = .agg (E.c e).toArray) (hsmall : k ≤ 1000)
    (h : ∀ w', Own E te w' w.heap.size (.slice (some ⟨w.heap.size, 0, none⟩) 1 1) [e] → Below w.heap.size w w' → w'.heap.size = w.heap.size + 1 → w'.heap[w.heap.size]? = some (.cells (E.c e).toArray te (0, 0)) → wpList P ops Q rest (a.put o.dst (.slice (some ⟨w.heap.size, 0, none⟩) 1 1)) w') : wpList P ops Q (o :: rest) a w :=
 build_els R hg 1 _ ho [e] rfl (by decide) (by omega) (by simp [hx]) fun w' h1 h2 h3 h4 => h w' h1 h2 h3 (by rw [h4, E.flat_one])
end
end Go.Proofs.YtgicanpggndbeaaGreat
/- More of slices of elements of k cells: the rest of one, append of any slice at one operation. -/
namespace Go.Proofs.YtgicanpggndbeaaGreat
set_option linter.unusedVariables false
set_option maxRecDepth 100000
open Go.RowKit

theorem SlB.drop {α : Type} {k : Nat} {E : Enc α k} {w : World} {B : Nat} {ad : Option Addr} {n cap : Nat} {l : List α} (h : SlB E w B (.slice ad n cap) l) (m : Nat) (hm : m ≤ l.length) : SlB E w B (.slice (if cap = m then ad else ad.map (·.add (m * k))) (n - m) (cap - m)) (l.drop m) := by
 obtain ⟨ad', cap', h1, h2, h3, h4, h5⟩ := h
 cases h1
 have hlen : (l.drop m).length = l.length - m := List.length_drop
 refine ⟨_, cap - m, by rw [hlen], by omega, by omega, fun e => ?_, ?_⟩
 · have : ad = none := by
     split at e
     · exact e
     · cases ad with
       | none => rfl
       | some a => cases e
   have := h4 this
   omega
 · rcases h5 with rfl | ⟨g, off, rfl, hg, hr⟩
   · exact .inl (by simp)
   · by_cases hc : cap = m
     · refine .inl (List.drop_of_length_le (by omega))
     · refine .inr ⟨g, off + m * k, by rw [if_neg hc]; simp [Addr.add_mid], hg, fun i hi => ?_⟩
       rw [List.getElem_drop]
       have := hr (m + i) (by rw [hlen] at hi; omega)
       rw [Nat.add_mul, ← Nat.add_assoc] at this
       exact this
theorem wp_build_c1 {α : Type} {E : Enc α 1} {P : Program} {ts te : TypeId} {bytes : Nat} {o : Oper} {a : Act} {w : World} {K : Act → World → Prop} {Q : Exit → Act → World → Prop} (R : RowTy P E ts te bytes) (x : Operand) (ho : o.op = .buildSlice ts 1 #[(0, x)]) (e : α) (v : Value) (hx : a.eval x = v) (hv : v.cells = (E.c e).toArray)
    (h : ∀ w', Own E te w' w.heap.size (.slice (some ⟨w.heap.size, 0, none⟩) 1 1) [e] → Below w.heap.size w w' → w'.heap.size = w.heap.size + 1 → K (a.put o.dst (.slice (some ⟨w.heap.size, 0, none⟩) 1 1)) w') : o.wp P a w K Q := by
 obtain ⟨i, z, hi, hz, hsz, hby, hzc⟩ := R.parts
 refine wp_buildSlice ts te 1 _ ho (E.flat [e]).toArray i z R.under hi hz (by rw [hsz]; decide) (by rw [hsz]; decide) ?_ ?_
 · rw [hsz]
   have e1 : (Array.map (fun x : Nat × Operand => match x with | (i, x) => (i, a.eval x)) #[(0, x)]).toList = [(0, v)] := by simp [hx]
   have hs : v.cells.size = 1 := by rw [hv]; simp [E.len]
   rw [e1, fill_put (off := 0) (size := 1) rfl hs (by simp), E.flat_one, hv]
   simp [Instr.fill]
 · refine h _ ⟨E.flat_length [e], .inr ⟨w.heap.size, 1, (E.flat [e]).toArray, rfl, Nat.le_refl _, heap_alloc_new _ _, Nat.le_refl _, by unfold maxLen; omega, by simp [E.flat_length], ?_⟩⟩ ((Below.refl _ w).alloc (Nat.le_refl _) _) (by simp)
   have := E.flat_length [e]
   rw [List.take_of_length_le (by simp [this])]
section
variable {α : Type} {k : Nat} {E : Enc α k} {P : Program} {ts te : TypeId} {bytes : Nat} {o : Oper} {a : Act} {w : World} {K : Act → World → Prop} {Q : Exit → Act → World → Prop}
theorem wp_append_sl (R : RowTy P E ts te bytes) (s x : Operand) (ho : o.op = .call { callee := .builtin .append, args := #[s, x], argTypes := #[ts, ts] })
    (base : Nat) (v : Value) (l m : List α) (hs : a.eval s = v) (hown : Own E te w base v l) (u : Value) (hx : a.eval x = u) (B : Nat) (hu : SlB E w B u m)
    (h63 : l.length + m.length ≤ 1000000) (hbytes : bytes ≤ 10000) (hbase : base ≤ w.heap.size)
    (h : ∀ v' w', Own E te w' base v' (l ++ m) → w.grownBy w' v.ownBlock → K (a.put o.dst v') w') : o.wp P a w K Q := by
 obtain ⟨i, z, hi, hz, hsz, hby, hzc⟩ := R.parts
 have hB : (l.length + m.length) * bytes ≤ 140737488355328 := by
  have := Nat.mul_le_mul h63 hbytes
  omega
 have hl : (l ++ m).length = l.length + m.length := by simp
 have hu' := hu
 obtain ⟨ad, cap, rfl, _⟩ := hu'
 obtain ⟨_, hc⟩ := hu.news
 rcases hc with ⟨rfl, rfl, rfl⟩ | ⟨A, rfl, hn⟩
 · have hrun := run_append_owned_none (P := P) (w := w) base ts o.type te i k R.under hi v l.length (E.flat l) hown
   have hx' : a.eval x = .slice none 0 0 := hx
   unfold Oper.wp
   simp only [execOp, ho, resolve, invoke, builtin, Sem.run_bind, Sem.run_pure, Result.andThen_ok, List.map_toArray, List.map_cons, List.map_nil, hs, hx', hrun]
   exact h _ _ (by rw [List.append_nil]; exact hown) ⟨rfl, rfl, rfl, Nat.le_refl _, fun _ _ _ => rfl⟩
 · refine wp_append_own w s x ts ho base te i z k bytes R.under hi hz hsz hby hzc R.pos v l.length (E.flat l) hs hown A m.length cap (E.flat m) hx (E.flat_length m) hn (E.flat_ones m) (by unfold maxLen; omega) hB hbase ?_
   intro v' w' h1 h2 _
   refine h v' w' ?_ h2
   show w'.ownsRow base te k _ (l ++ m).length (E.flat (l ++ m))
   rw [hl, E.flat_append]
   exact h1
end
theorem build_c1 {α : Type} {E : Enc α 1} {P : Program} {ts te : TypeId} {bytes : Nat} {ops : Array Oper} {rest : List Oper} {o : Oper} {a : Act} {w : World} {Q : Exit → Act → World → Prop} (R : RowTy P E ts te bytes) (hg : o.guard = none) (x : Operand) (ho : o.op = .buildSlice ts 1 #[(0, x)]) (e : α) (v : Value) (hx : a.eval x = v) (hv : v.cells = (E.c e).toArray)
    (h : ∀ w', Own E te w' w.heap.size (.slice (some ⟨w.heap.size, 0, none⟩) 1 1) [e] → Below w.heap.size w w' → w'.heap.size = w.heap.size + 1 → wpList P ops Q rest (a.put o.dst (.slice (some ⟨w.heap.size, 0, none⟩) 1 1)) w') : wpList P ops Q (o :: rest) a w :=
 wpList_plain hg fun _ hK => wp_build_c1 R x ho e v hx hv fun w' h1 h2 h3 => hK _ _ (h w' h1 h2 h3)
theorem append_slB {α : Type} {k : Nat} {E : Enc α k} {P : Program} {ts te : TypeId} {bytes : Nat} {ops : Array Oper} {rest : List Oper} {o : Oper} {a : Act} {w : World} {Q : Exit → Act → World → Prop} (R : RowTy P E ts te bytes) (hg : o.guard = none) (s x : Operand) (ho : o.op = .call { callee := .builtin .append, args := #[s, x], argTypes := #[ts, ts] })
    (base : Nat) (v : Value) (l m : List α) (hs : a.eval s = v) (hown : Own E te w base v l) (u : Value) (hx : a.eval x = u) (B : Nat) (hu : SlB E w B u m)
    (h63 : l.length + m.length ≤ 1000000) (hbytes : bytes ≤ 10000) (hbase : base ≤ w.heap.size)
    (h : ∀ v' w', Own E te w' base v' (l ++ m) → w.grownBy w' v.ownBlock → wpList P ops Q rest (a.put o.dst v') w') : wpList P ops Q (o :: rest) a w :=
 wpList_plain hg fun _ hK => wp_append_sl R s x ho base v l m hs hown u hx B hu h63 hbytes hbase fun v' w' h1 h2 => hK _ _ (h v' w' h1 h2)
theorem sl_open {α : Type} {k : Nat} {E : Enc α k} {w : World} {v : Value} {l : List α} (h : Sl E w v l) : ∃ ad N cap, v = .slice ad N cap ∧ Hid (N = l.length ∧ N ≤ cap ∧ Sl E w (.slice ad N cap) l ∧ ∀ i (hi : i < l.length), ∃ g off, ad = some ⟨g, off, none⟩ ∧ g < w.heap.size ∧ w.rangeAt g (off + i * k) (E.c l[i])) := by
 have h0 := h
 obtain ⟨ad, cap, rfl, hcap, hmax, _, _⟩ := h
 exact ⟨ad, _, cap, rfl, ⟨rfl, hcap, h0, fun i hi => SlB.at h0 i hi⟩⟩
end Go.Proofs.YtgicanpggndbeaaGreat
/- The document's own Right, pieces, Width, Short. -/
namespace Go.Proofs.YtgicanpggndbeaaGreat
set_option linter.unusedVariables false
set_option maxRecDepth 100000
open Go.RowKit

theorem dec_of_chr (L : List UInt8) : (dec L).2 = max (chr L).1 1 := by
 unfold dec
 split
 · rename_i h; rw [h]; rfl
 · rename_i h; show (chr L).1 = _; omega
theorem chr_v_le (L : List UInt8) : (chr L).2 ≤ 1114111 := by
 rcases chr_cases L with h | ⟨a, r, rfl, h1, h⟩ | ⟨a, b, r, rfl, h1, h2, h3, h4, h⟩ | ⟨a, b, c, r, rfl, h1, h2, h3, h4, h5, h6, h⟩ | ⟨a, b, c, d, r, rfl, h1, h2, h3, h4, h5, h6, h7, h⟩
 · rw [h]; decide
 · rw [h]; show a.toNat ≤ _; omega
 · rw [h]; rw [tlB_iff] at h3; show _ ≤ 1114111; omega
 · rw [h]; rw [tlB_iff] at h3 h4; show _ ≤ 1114111; omega
 · rw [h]; exact h7
theorem chr_n_le (L : List UInt8) : (chr L).1 ≤ 4 := by
 rcases chr_cases L with h | ⟨a, r, rfl, h1, h⟩ | ⟨a, b, r, rfl, h1, h2, h3, h4, h⟩ | ⟨a, b, c, r, rfl, h1, h2, h3, h4, h5, h6, h⟩ | ⟨a, b, c, d, r, rfl, h1, h2, h3, h4, h5, h6, h7, h⟩ <;> rw [h] <;> dsimp only <;> omega

set_option maxRecDepth 1000000 in
set_option maxHeartbeats 4000000 in
theorem r10right_calls (s : ByteArray) (w : World) :
    Calls Tryz.prog 69 #[.string s] w fun e w' => e = .returned (.bool (rightP s.data.toList)) ∧ Below w.heap.size w w' := by
 go_enter Tryz.func69, Tryz.ntmps69
 by_cases h1 : ¬ (1 ≤ s.size ∧ s.size ≤ 18)
 · have e : rightP s.data.toList = false := by
     rw [rightP, toList_size]
     by_cases h2 : 1 ≤ s.size
     · rw [decide_eq_true h2, decide_eq_false (show ¬ s.size ≤ 18 by omega)]; rfl
     · rw [decide_eq_false h2]; rfl
   rw [e]
   clear e
   by_cases h2 : 1 ≤ s.size
   · have a1 : ¬ (s.size : Int) < 1 := by omega
     have a2 : (s.size : Int) > 18 := by omega
     clear h1 h2
     go_wp2
     go_ret
     exact ⟨rfl, Below.refl _ _⟩
   · have a1 : (s.size : Int) < 1 := by omega
     clear h1 h2
     go_wp2
     go_ret
     exact ⟨rfl, Below.refl _ _⟩
 replace h1 := Classical.not_not.1 h1
 have a1 : ¬ (s.size : Int) < 1 := by omega
 have a2 : ¬ (s.size : Int) > 18 := by omega
 have HR : Hid (rightP s.data.toList = (!(s.toList == [46]) && (!(s.toList == [46, 46]) && okC s.data.toList))) := (show _ = _ by
  rw [rightP, toList_size, decide_eq_true h1.1, decide_eq_true h1.2, beq_str, beq_str]; rfl)
 obtain ⟨R, hR⟩ : ∃ R, rightP s.data.toList = R := ⟨_, rfl⟩
 rw [hR] at HR ⊢
 have HSZ : Hid (s.size ≤ 18) := h1.2
 clear hR h1
 cases hd1 : (s.toList == [46]) with
 | true =>
  have e : R = false := by rw [HR.out, hd1]; rfl
  subst e
  clear HR
  go_wp2
  go_ret
  exact ⟨rfl, Below.refl _ _⟩
 | false =>
 cases hd2 : (s.toList == [46, 46]) with
 | true =>
  have e : R = false := by rw [HR.out, hd1, hd2]; rfl
  subst e
  clear HR
  go_wp2
  go_ret
  exact ⟨rfl, Below.refl _ _⟩
 | false =>
 have HO : Hid (R = okC s.data.toList) := (show _ = _ by rw [HR.out, hd1, hd2]; rfl)
 clear HR
 obtain ⟨N, hN⟩ : ∃ N, s.size = N := ⟨_, rfl⟩
 have HN : Hid (s.size = N) := hN
 go_wp2_with fail
 go_loopg [3] N (fun g i wr => ∃ (pos n : Nat), i = .int .i64 (pos : Int) ∧ pos ≤ N ∧ N ≤ pos + g ∧ wr = w.drewN n ∧ Hid (okC (s.data.toList.drop pos) = okC s.data.toList))
 case atStart => exact ⟨0, 0, rfl, Nat.zero_le _, by omega, rfl, (show okC (s.data.toList.drop 0) = _ by simp)⟩
 case round =>
  obtain ⟨pos, n, rfl, hps, hpg, rfl, HW⟩ := hrel
  by_cases hp : pos < N
  · have hpI : (pos : Int) < (N : Int) := by omega
    have hp2 : (pos : Int) ≤ (N : Int) := by omega
    have hp0 : (0 : Int) ≤ (pos : Int) := by omega
    have hps2 : pos < s.size := by rw [HN.out]; exact hp
    have hne := drop_ne hps2
    have c1 := char_calls (s.extract pos s.size) (w.drewN n)
    have hex : (s.extract pos s.size).data.toList = s.data.toList.drop pos := Lib.extract_to_end s pos
    unfold CharTo at c1
    rw [hex] at c1
    rw [hN] at c1
    have HQ : Hid (okC s.data.toList = (okH (s.data.toList.drop pos) && okC (s.data.toList.drop (pos + (dec (s.data.toList.drop pos)).2)))) := (show _ = _ by
     rw [← HW.out, okC_cons _ hne, List.drop_drop])
    have hdl := dec_le _ hne
    rw [List.length_drop, toList_size, HN.out] at hdl
    have hdp := dec_pos (s.data.toList.drop pos)
    have hdc := dec_of_chr (s.data.toList.drop pos)
    have hv := chr_v_le (s.data.toList.drop pos)
    have hn4 := chr_n_le (s.data.toList.drop pos)
    have HH : Hid (okH (s.data.toList.drop pos) = (decide ((chr (s.data.toList.drop pos)).1 ≠ 0) && (decide (32 ≤ (chr (s.data.toList.drop pos)).2) && (decide ((chr (s.data.toList.drop pos)).2 ≠ 47) && decide ((chr (s.data.toList.drop pos)).2 ≠ 127))))) := rfl
    clear HW hne hex
    generalize (dec (s.data.toList.drop pos)).2 = D at *
    generalize okH (s.data.toList.drop pos) = O at *
    generalize (chr (s.data.toList.drop pos)).1 = c at *
    generalize (chr (s.data.toList.drop pos)).2 = v at *
    cases O with
    | false =>
     have e : R = false := by rw [HO.out, HQ.out]; rfl
     subst e
     have hbad : (c : Int) = 0 ∨ (v : Int) = 47 ∨ (v : Int) < 32 ∨ (v : Int) = 127 := by
      have := HH.out
      apply Classical.byContradiction
      intro hh
      have h1 : (decide (c ≠ 0) && (decide (32 ≤ v) && (decide (v ≠ 47) && decide (v ≠ 127)))) = true := by
       simp only [Bool.and_eq_true, decide_eq_true_eq]
       omega
      rw [h1] at this
      cases this
     clear HH HQ HO hdl hdp hdc hv hn4
     by_cases q1 : (c : Int) = 0
     · have q1b : ((c : Int) == 0) = true := by rw [q1]; rfl
       clear hbad q1
       go_wp2_with (go_at_call 110; refine c1.mono ?_; rintro e w3 ⟨rfl, m, hm⟩; have HM : Hid (w3 = (w.drewN n).drewN m) := hm; clear c1 hm)
       go_ret
       exact ⟨rfl, by rw [HM.out]; exact below_drewN (below_drewN (Below.refl _ _) n) m⟩
     have q1b : ((c : Int) == 0) = false := beq_eq_false_iff_ne.2 q1
     by_cases q2 : (v : Int) = 47
     · have q2b : ((v : Int) == 47) = true := by rw [q2]; rfl
       clear hbad q1 q2
       go_wp2_with (go_at_call 110; refine c1.mono ?_; rintro e w3 ⟨rfl, m, hm⟩; have HM : Hid (w3 = (w.drewN n).drewN m) := hm; clear c1 hm)
       go_ret
       exact ⟨rfl, by rw [HM.out]; exact below_drewN (below_drewN (Below.refl _ _) n) m⟩
     have q2b : ((v : Int) == 47) = false := beq_eq_false_iff_ne.2 q2
     by_cases q3 : (v : Int) < 32
     · clear hbad q1 q2
       go_wp2_with (go_at_call 110; refine c1.mono ?_; rintro e w3 ⟨rfl, m, hm⟩; have HM : Hid (w3 = (w.drewN n).drewN m) := hm; clear c1 hm)
       go_ret
       exact ⟨rfl, by rw [HM.out]; exact below_drewN (below_drewN (Below.refl _ _) n) m⟩
     have q4 : (v : Int) = 127 := by omega
     have q4b : ((v : Int) == 127) = true := by rw [q4]; rfl
     clear hbad q1 q2 q4
     go_wp2_with (go_at_call 110; refine c1.mono ?_; rintro e w3 ⟨rfl, m, hm⟩; have HM : Hid (w3 = (w.drewN n).drewN m) := hm; clear c1 hm)
     go_ret
     exact ⟨rfl, by rw [HM.out]; exact below_drewN (below_drewN (Below.refl _ _) n) m⟩
    | true =>
     have HD : Hid (okC (s.data.toList.drop (pos + D)) = okC s.data.toList) := (show _ = _ by rw [HQ.out]; rfl)
     obtain ⟨g1, g2, g3, g4⟩ : c ≠ 0 ∧ 32 ≤ v ∧ v ≠ 47 ∧ v ≠ 127 := by
      have := HH.out.symm
      simp only [Bool.and_eq_true, decide_eq_true_eq] at this
      exact ⟨this.1, this.2.1, this.2.2.1, this.2.2.2⟩
     have hDc : D = c := by omega
     subst hDc
     have i1 : ((D : Int) == 0) = false := beq_eq_false_iff_ne.2 (by omega)
     have i2 : ¬ (v : Int) < 32 := by omega
     have i3 : ((v : Int) == 47) = false := beq_eq_false_iff_ne.2 (by omega)
     have i4 : ((v : Int) == 127) = false := beq_eq_false_iff_ne.2 (by omega)
     have hdI : (D : Int) ≤ 4 := by omega
     have hd0 : (0 : Int) ≤ (D : Int) := by omega
     have hN18 : (N : Int) ≤ 18 := by have := HSZ.out; have := HN.out; omega
     clear HH HQ hdc g1 g2 g3 g4 hv hn4
     go_wp2_with (go_at_call 110; refine c1.mono ?_; rintro e w3 ⟨rfl, m, hm⟩; have HM : Hid (w3 = (w.drewN n).drewN m) := hm; clear c1 hm)
     cases gk with
     | zero => omega
     | succ g =>
     go_roundg g
     case measure => omega
     case rel => exact ⟨pos + D, n + m, rfl, by omega, by omega, by rw [HM.out, World.drewN_drewN], HD⟩
  · have hpI : ¬ (pos : Int) < (N : Int) := by omega
    have e : R = true := by rw [HO.out, ← HW.out, drop_nil (by rw [HN.out]; exact hp), okC_nil]
    subst e
    clear HW HO
    go_wp2_with fail
    go_ret
    exact ⟨rfl, below_drewN (Below.refl _ _) n⟩
end Go.Proofs.YtgicanpggndbeaaGreat
