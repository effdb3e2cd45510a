/- Elements of k cells each: one in a block of its own, loaded, stored, handed back; slice literals of them. -/
import Derived.Test.YtdmgmicabofmiaaDoorSl
import Derived.Test.YtdmgmicabofmiaaDoorArr
import Derived.Laws.ResultCell
import Derived.Deep.WholeRow
import Derived.BigQuiet
import Derived.Great.BuildSlice
import Derived.Great.Walk
namespace Go.Proofs.YtdmgmicabofmiaaDoor
set_option linter.unusedVariables false
open Go.RowKit

section
variable {α : Type} {k : Nat} {E : Enc α k} {ty : TypeId}
/-- An element in a block of its own. -/
structure InB (E : Enc α k) (ty : TypeId) (w : World) (b : Nat) (x : α) : Prop where
  blk : w.heap[b]? = some (.cells (E.c x).toArray ty (0, 0))
theorem InB.lt {w : World} {b : Nat} {x : α} (h : InB E ty w b x) : b < w.heap.size := lt_of_block h.blk
theorem InB.same {w w' : World} {b : Nat} {x : α} (h : InB E ty w b x) (q : w'.heap[b]? = w.heap[b]?) : InB E ty w' b x := ⟨q.trans h.blk⟩
theorem InB.below {B : Nat} {w w' : World} {b : Nat} {x : α} (h : InB E ty w b x) (hb : Below B w w') (hB : b < B) : InB E ty w' b x := h.same (hb.block b hB)
theorem InB.touch {w w' : World} {b p : Nat} {r : Option Nat} {x : α} (h : InB E ty w b x) (ht : Touch p r w w') (hp : b ≠ p) (hr : r ≠ some b) : InB E ty w' b x := h.same (ht.block b h.lt hp hr)
theorem InB.alloc {w : World} {b : Nat} {x : α} (h : InB E ty w b x) (o : Obj) : InB E ty (w.alloc o) b x := h.same (Below.heap_alloc _ _ _ h.lt)
theorem InB.new (E : Enc α k) (ty : TypeId) (w : World) (x : α) (b : Nat) (hb : b = w.heap.size) : InB E ty (w.alloc (.cells (E.c x).toArray ty)) b x := by
  subst hb
  exact ⟨heap_alloc_new _ _⟩
theorem InB.range {w : World} {b : Nat} {x : α} (h : InB E ty w b x) : w.rangeAt b 0 (E.c x) := fun j v hv => by
  rw [Nat.zero_add, cell_of_row w b _ _ _ _ h.blk]
  simpa using hv
/-- What a type must be for them. -/
structure ElTy (P : Program) (E : Enc α k) (ty : TypeId) : Prop where
  row : ∃ d, P.underlying ty = some d ∧ d.isRow = true ∧ (match d with | .struct _ => true | .array _ _ => true | _ => false) = true
  info : (P.info? ty).map (·.size) = some k
section
variable {P : Program} {ops : Array Oper} {rest : List Oper} {o : Oper} {a : Act} {w : World} {Q : Exit → Act → World → Prop}
theorem load_el (R : ElTy P E ty) (x : Operand) (ho : o.op = .load ty x) (b i : Nat) (hx : a.eval x = .pointer (some ⟨b, i, none⟩)) (hgd : Region.wanted o (yielded ops a.tmps) = true) (e : α) (hK : w.rangeAt b i (E.c e))
    (h : wpList P ops Q rest (a.put o.dst (.agg (E.c e).toArray)) w) : wpList P ops Q (o :: rest) a w := by
  obtain ⟨d, hu, hd, _⟩ := R.row
  exact BigFrame.wpList_want hgd fun _ hK' => wp_load_mid _ x ho b i hx _ _ hK hu hd (by rw [E.len]; exact R.info) (hK' _ _ h)
theorem store_el (R : ElTy P E ty) (hgd : o.guard = none) (x y : Operand) (ho : o.op = .store ty x y) (b : Nat) (hx : a.eval x = .pointer (some ⟨b, 0, none⟩)) (e : α) (hy : a.eval y = .agg (E.c e).toArray) (e0 : α) (hK : InB E ty w b e0)
    (h : ∀ w', InB E ty w' b e → Touch b none w w' → w'.heap.size = w.heap.size → wpList P ops Q rest (a.put o.dst undef) w') : wpList P ops Q (o :: rest) a w :=
  wpList_store_row hgd _ x y ho b _ hx hy _ _ hK.blk (by rw [E.size]; exact R.info) (by rw [E.size, E.size]) (E.all e) (h _ ⟨setRow_heap w b _ _ _ _ hK.blk⟩ ⟨rfl, rfl, rfl, by simp, fun j _ hj _ => setRow_other w b j _ hj⟩ (by simp))
end
theorem ret_el {P : Program} (R : ElTy P E ty) {fn : Func} {A : Ending → World → Prop} {a : Act} {w : World} {p : Tmp} (hr : fn.results = #[.cell p ty]) (b : Nat) (e : α) (hp : a.tmps.getD p undef = .pointer (some ⟨b, 0, none⟩)) (hK : InB E ty w b e)
    (hd : a.defers = []) (hA : A (.returned (.agg (E.c e).toArray)) w) : bodyPost P fn A .ret a w := by
  obtain ⟨d, hu, _, hdd⟩ := R.row
  cases d with
  | struct fs => exact bodyPost_ret (results_cell_row hr _ w b _ _ _ _ hp hK.blk hu rfl (by rw [E.size]; exact R.info)) hd hA
  | array n t => exact bodyPost_ret (results_cell_row hr _ w b _ _ _ _ hp hK.blk hu rfl (by rw [E.size]; exact R.info)) hd hA
  | _ => cases hdd

/-! Slice literals. -/
theorem fill_els (E : Enc α k) : ∀ (es : List α) (j : Nat) (C : Array Value), (j + es.length) * k = C.size →
    Instr.fill (fun i => some (i * k, k)) C ((es.zipIdx j).map fun x => (x.2, Value.agg (E.c x.1).toArray)) = some (C.toList.take (j * k) ++ E.flat es).toArray
  | [], j, C, h => by
    simp only [List.length_nil, Nat.add_zero] at h
    rw [h]
    simp only [List.zipIdx_nil, List.map_nil, Instr.fill, Enc.flat, List.flatMap_nil, List.append_nil]
    rw [List.take_of_length_le (by simp)]
  | e :: es, j, C, h => by
    have hl : j * k + k ≤ C.size := by
      rw [← h, List.length_cons, ← Nat.succ_mul]
      exact Nat.mul_le_mul_right k (by omega)
    rw [List.zipIdx_cons, List.map_cons, fill_put (off := j * k) (size := k) rfl (by simp [Value.cells, E.len]) hl]
    rw [fill_els E es (j + 1) _ (by simp only [List.size_toArray, List.length_append, List.length_take, List.length_drop, Array.length_toList, Value.cells, List.toList_toArray, E.len]; rw [show j + 1 + es.length = j + (e :: es).length by simp; omega, h]; omega)]
    congr 2
    simp only [Value.cells, List.toList_toArray, E.flat_cons]
    rw [List.take_append_of_le_length (by simp [E.len]; rw [Nat.succ_mul]; omega), List.take_of_length_le (by simp [E.len]; rw [Nat.succ_mul]; omega), List.append_assoc]
theorem wp_build_els {P : Program} {ts te : TypeId} {bytes : Nat} {o : Oper} {a : Act} {w : World} {K : Act → World → Prop} {Q : Exit → Act → World → Prop} (R : RowTy P E ts te bytes) (n : Nat) (parts : Array (Nat × Operand)) (ho : o.op = .buildSlice ts n parts) (es : List α) (hn : es.length = n) (hpos : 0 < n) (hsmall : n * k ≤ 16777216)
    (hv : (parts.map fun x => (x.1, a.eval x.2)).toList = (es.zipIdx 0).map fun x => (x.2, Value.agg (E.c x.1).toArray))
    (h : ∀ w', Own E te w' w.heap.size (.slice (some ⟨w.heap.size, 0, none⟩) n n) es → Below w.heap.size w w' → w'.heap.size = w.heap.size + 1 → w'.heap[w.heap.size]? = some (.cells (E.flat es).toArray te (0, 0)) → K (a.put o.dst (.slice (some ⟨w.heap.size, 0, none⟩) n n)) w') : o.wp P a w K Q := by
  obtain ⟨i, z, hi, hz, hsz, hby, hzc⟩ := R.parts
  subst hn
  have hmul := Nat.mul_pos hpos R.pos
  refine wp_buildSlice ts te es.length parts ho (E.flat es).toArray i z R.under hi hz (by rw [hsz]; omega) (by rw [hsz]; omega) ?_ ?_
  · rw [show (fun x : Nat × Operand => match x with | (i, x) => (i, a.eval x)) = (fun x => (x.1, a.eval x.2)) from rfl, hv, hsz]
    have := fill_els E es 0 ((Array.range (es.length * k)).map (z.cells[· % z.cells.size]!)) (by simp)
    simpa using this
  · refine h _ ⟨E.flat_length es, .inr ⟨w.heap.size, es.length, (E.flat es).toArray, rfl, Nat.le_refl _, heap_alloc_new _ _, Nat.le_refl _, ?_, by simp [E.flat_length], ?_⟩⟩ ((Below.refl _ w).alloc (Nat.le_refl _) _) (by simp) (heap_alloc_new _ _)
    · have : es.length ≤ es.length * k := Nat.le_mul_of_pos_right _ R.pos
      unfold maxLen; omega
    · simp [← E.flat_length es]
theorem build_els {P : Program} {ts te : TypeId} {bytes : Nat} {ops : Array Oper} {rest : List Oper} {o : Oper} {a : Act} {w : World} {Q : Exit → Act → World → Prop} (R : RowTy P E ts te bytes) (hg : o.guard = none) (n : Nat) (parts : Array (Nat × Operand)) (ho : o.op = .buildSlice ts n parts) (es : List α) (hn : es.length = n) (hpos : 0 < n) (hsmall : n * k ≤ 16777216)
    (hv : (parts.map fun x => (x.1, a.eval x.2)).toList = (es.zipIdx 0).map fun x => (x.2, Value.agg (E.c x.1).toArray))
    (h : ∀ w', Own E te w' w.heap.size (.slice (some ⟨w.heap.size, 0, none⟩) n n) es → Below w.heap.size w w' → w'.heap.size = w.heap.size + 1 → w'.heap[w.heap.size]? = some (.cells (E.flat es).toArray te (0, 0)) → wpList P ops Q rest (a.put o.dst (.slice (some ⟨w.heap.size, 0, none⟩) n n)) w') : wpList P ops Q (o :: rest) a w :=
  wpList_plain hg fun _ hK => wp_build_els R n parts ho es hn hpos hsmall hv fun w' h1 h2 h3 h4 => hK _ _ (h w' h1 h2 h3 h4)
theorem wp_build_el1 {P : Program} {ts te : TypeId} {bytes : Nat} {o : Oper} {a : Act} {w : World} {K : Act → World → Prop} {Q : Exit → Act → World → Prop} (R : RowTy P E ts te bytes) (x : Operand) (ho : o.op = .buildSlice ts 1 #[(0, x)]) (e : α) (hx : a.eval x = .agg (E.c e).toArray) (hsmall : k ≤ 1000)
    (h : ∀ w', Own E te w' w.heap.size (.slice (some ⟨w.heap.size, 0, none⟩) 1 1) [e] → Below w.heap.size w w' → w'.heap.size = w.heap.size + 1 → K (a.put o.dst (.slice (some ⟨w.heap.size, 0, none⟩) 1 1)) w') : o.wp P a w K Q :=
  wp_build_els R 1 _ ho [e] rfl (by decide) (by omega) (by simp [hx]) fun w' h1 h2 h3 _ => h w' h1 h2 h3
theorem build_el1 {P : Program} {ts te : TypeId} {bytes : Nat} {ops : Array Oper} {rest : List Oper} {o : Oper} {a : Act} {w : World} {Q : Exit → Act → World → Prop} (R : RowTy P E ts te bytes) (hg : o.guard = none) (x : Operand) (ho : o.op = .buildSlice ts 1 #[(0, x)]) (e : α) (hx : a.eval x = .agg (E.c e).toArray) (hsmall : k ≤ 1000)
    (h : ∀ w', Own E te w' w.heap.size (.slice (some ⟨w.heap.size, 0, none⟩) 1 1) [e] → Below w.heap.size w w' → w'.heap.size = w.heap.size + 1 → w'.heap[w.heap.size]? = some (.cells (E.c e).toArray te (0, 0)) → wpList P ops Q rest (a.put o.dst (.slice (some ⟨w.heap.size, 0, none⟩) 1 1)) w') : wpList P ops Q (o :: rest) a w :=
  build_els R hg 1 _ ho [e] rfl (by decide) (by omega) (by simp [hx]) fun w' h1 h2 h3 h4 => h w' h1 h2 h3 (by rw [h4, E.flat_one])
theorem build_el2 {P : Program} {ts te : TypeId} {bytes : Nat} {ops : Array Oper} {rest : List Oper} {o : Oper} {a : Act} {w : World} {Q : Exit → Act → World → Prop} (R : RowTy P E ts te bytes) (hg : o.guard = none) (x y : Operand) (ho : o.op = .buildSlice ts 2 #[(0, x), (1, y)]) (e f : α) (hx : a.eval x = .agg (E.c e).toArray) (hy : a.eval y = .agg (E.c f).toArray) (hsmall : k ≤ 1000)
    (h : ∀ w', Own E te w' w.heap.size (.slice (some ⟨w.heap.size, 0, none⟩) 2 2) [e, f] → Below w.heap.size w w' → w'.heap.size = w.heap.size + 1 → wpList P ops Q rest (a.put o.dst (.slice (some ⟨w.heap.size, 0, none⟩) 2 2)) w') : wpList P ops Q (o :: rest) a w :=
  build_els R hg 2 _ ho [e, f] rfl (by decide) (by omega) (by simp [hx, hy]) fun w' h1 h2 h3 _ => h w' h1 h2 h3
end
end Go.Proofs.YtdmgmicabofmiaaDoor
