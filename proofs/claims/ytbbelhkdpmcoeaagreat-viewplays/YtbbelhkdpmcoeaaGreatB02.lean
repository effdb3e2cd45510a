import Derived.Test.YtbbelhkdpmcoeaaGreatB01
import Derived.Laws.Tables
import Derived.Laws.StructEq
import Derived.Laws.CopyRow
import Derived.Laws.ResultCell
import Derived.Deep.WholeRow
import Derived.BigQuiet
import Derived.Great.BuildSlice
import Derived.Great.Walk
/- Arrays of bytes by value: one put into a greater one, two held against one another; nothing here speaks of a program. -/
namespace Go.Proofs.YtbbelhkdpmcoeaaGreat
set_option linter.unusedVariables false
set_option maxRecDepth 100000
open Go.RowKit

theorem fold_put : ∀ (vs : List Value) (i off : Nat) (C : Array Value), off + i + vs.length ≤ C.size →
    ((vs.zipIdx i).foldl (fun cs x => cs.setIfInBounds (off + x.2) x.1) C) = (C.toList.take (off + i) ++ vs ++ C.toList.drop (off + i + vs.length)).toArray
  | [], i, off, C, _ => by simp
  | v :: rest, i, off, C, h => by
    have hl : off + i < C.size := by simp at h; omega
    have ih := fold_put rest (i + 1) off (C.setIfInBounds (off + i) v) (by simp at h ⊢; omega)
    rw [List.zipIdx_cons, List.foldl_cons, ih]
    have e := list_seg_step C.toList (off + i) v rest (by simp at h ⊢; omega)
    congr 1
    simpa [Array.toList_setIfInBounds, Nat.add_assoc] using e

theorem fill_put {place : Nat → Option (Nat × Nat)} {C : Array Value} {i off size : Nat} {v : Value} {rest : List (Nat × Value)} (hp : place i = some (off, size)) (hs : v.cells.size = size) (ho : off + size ≤ C.size) :
    Instr.fill place C ((i, v) :: rest) = Instr.fill place (C.toList.take off ++ v.cells.toList ++ C.toList.drop (off + size)).toArray rest := by
  rw [Instr.fill]
  simp only [hp]
  have hcond : (decide (v.cells.size ≠ size) || decide (off + v.cells.size > C.size)) = false := by simp; omega
  rw [if_neg (by simpa using hcond)]
  have e := fold_put v.cells.toList 0 off C (by simp; omega)
  congr 1
  rw [← Array.foldl_toList, Array.toList_zipIdx, e]
  simp [hs]

end Go.Proofs.YtbbelhkdpmcoeaaGreat
/- Elements of k cells each: one in a block of its own, loaded, stored, handed back; slice literals of them. -/
namespace Go.Proofs.YtbbelhkdpmcoeaaGreat
set_option linter.unusedVariables false
set_option maxRecDepth 100000
open Go.RowKit

section
variable {α : Type} {k : Nat} {E : Enc α k} {ty : TypeId}
/-- An element in a block of its own. -/
structure InB (E : Enc α k) (ty : TypeId) (w : World) (b : Nat) (x : α) : Prop where
  blk : w.heap[b]? = some (.cells (E.c x).toArray ty (0, 0))
theorem InB.lt {w : World} {b : Nat} {x : α} (h : InB E ty w b x) : b < w.heap.size := lt_of_block h.blk
theorem InB.same {w w' : World} {b : Nat} {x : α} (h : InB E ty w b x) (q : w'.heap[b]? = w.heap[b]?) : InB E ty w' b x := ⟨q.trans h.blk⟩
theorem InB.below {B : Nat} {w w' : World} {b : Nat} {x : α} (h : InB E ty w b x) (hb : Below B w w') (hB : b < B) : InB E ty w' b x := h.same (hb.block b hB)
theorem InB.touch {w w' : World} {b p : Nat} {r : Option Nat} {x : α} (h : InB E ty w b x) (ht : Touch p r w w') (hp : b ≠ p) (hr : r ≠ some b) : InB E ty w' b x := h.same (ht.block b h.lt hp hr)
theorem InB.alloc {w : World} {b : Nat} {x : α} (h : InB E ty w b x) (o : Obj) : InB E ty (w.alloc o) b x := h.same (Below.heap_alloc _ _ _ h.lt)
theorem InB.new (E : Enc α k) (ty : TypeId) (w : World) (x : α) (b : Nat) (hb : b = w.heap.size) : InB E ty (w.alloc (.cells (E.c x).toArray ty)) b x := by
  subst hb
  exact ⟨heap_alloc_new _ _⟩
theorem InB.range {w : World} {b : Nat} {x : α} (h : InB E ty w b x) : w.rangeAt b 0 (E.c x) := fun j v hv => by
  rw [Nat.zero_add, cell_of_row w b _ _ _ _ h.blk]
  simpa using hv
/-- What a type must be for them. -/
structure ElTy (P : Program) (E : Enc α k) (ty : TypeId) : Prop where
  row : ∃ d, P.underlying ty = some d ∧ d.isRow = true ∧ (match d with | .struct _ => true | .array _ _ => true | _ => false) = true
  info : (P.info? ty).map (·.size) = some k
section
variable {P : Program} {ops : Array Oper} {rest : List Oper} {o : Oper} {a : Act} {w : World} {Q : Exit → Act → World → Prop}
theorem load_el (R : ElTy P E ty) (x : Operand) (ho : o.op = .load ty x) (b i : Nat) (hx : a.eval x = .pointer (some ⟨b, i, none⟩)) (hgd : Region.wanted o (yielded ops a.tmps) = true) (e : α) (hK : w.rangeAt b i (E.c e))
    (h : wpList P ops Q rest (a.put o.dst (.agg (E.c e).toArray)) w) : wpList P ops Q (o :: rest) a w := by
  obtain ⟨d, hu, hd, _⟩ := R.row
  exact BigFrame.wpList_want hgd fun _ hK' => wp_load_mid _ x ho b i hx _ _ hK hu hd (by rw [E.len]; exact R.info) (hK' _ _ h)
theorem store_el (R : ElTy P E ty) (hgd : o.guard = none) (x y : Operand) (ho : o.op = .store ty x y) (b : Nat) (hx : a.eval x = .pointer (some ⟨b, 0, none⟩)) (e : α) (hy : a.eval y = .agg (E.c e).toArray) (e0 : α) (hK : InB E ty w b e0)
    (h : ∀ w', InB E ty w' b e → Touch b none w w' → w'.heap.size = w.heap.size → wpList P ops Q rest (a.put o.dst undef) w') : wpList P ops Q (o :: rest) a w :=
  wpList_store_row hgd _ x y ho b _ hx hy _ _ hK.blk (by rw [E.size]; exact R.info) (by rw [E.size, E.size]) (E.all e) (h _ ⟨setRow_heap w b _ _ _ _ hK.blk⟩ ⟨rfl, rfl, rfl, by simp, fun j _ hj _ => setRow_other w b j _ hj⟩ (by simp))
end
theorem ret_el {P : Program} (R : ElTy P E ty) {fn : Func} {A : Ending → World → Prop} {a : Act} {w : World} {p : Tmp} (hr : fn.results = #[.cell p ty]) (b : Nat) (e : α) (hp : a.tmps.getD p undef = .pointer (some ⟨b, 0, none⟩)) (hK : InB E ty w b e)
    (hd : a.defers = []) (hA : A (.returned (.agg (E.c e).toArray)) w) : bodyPost P fn A .ret a w := by
  obtain ⟨d, hu, _, hdd⟩ := R.row
  cases d with
  | struct fs => exact bodyPost_ret (results_cell_row hr _ w b _ _ _ _ hp hK.blk hu rfl (by rw [E.size]; exact R.info)) hd hA
  | array n t => exact bodyPost_ret (results_cell_row hr _ w b _ _ _ _ hp hK.blk hu rfl (by rw [E.size]; exact R.info)) hd hA
  | _ => cases hdd

/-! Slice literals. -/
theorem fill_els (E : Enc α k) : ∀ (es : List α) (j : Nat) (C : Array Value), (j + es.length) * k = C.size →
    Instr.fill (fun i => some (i * k, k)) C ((es.zipIdx j).map fun x => (x.2, Value.agg (E.c x.1).toArray)) = some (C.toList.take (j * k) ++ E.flat es).toArray
  | [], j, C, h => by
    simp only [List.length_nil, Nat.add_zero] at h
    rw [h]
    simp only [List.zipIdx_nil, List.map_nil, Instr.fill, Enc.flat, List.flatMap_nil, List.append_nil]
    rw [List.take_of_length_le (by simp)]
  | e :: es, j, C, h => by
    have hl : j * k + k ≤ C.size := by
      rw [← h, List.length_cons, ← Nat.succ_mul]
      exact Nat.mul_le_mul_right k (by omega)
    rw [List.zipIdx_cons, List.map_cons, fill_put (off := j * k) (size := k) rfl (by simp [Value.cells, E.len]) hl]
    rw [fill_els E es (j + 1) _ (by simp only [List.size_toArray, List.length_append, List.length_take, List.length_drop, Array.length_toList, Value.cells, List.toList_toArray, E.len]; rw [show j + 1 + es.length = j + (e :: es).length by simp; omega, h]; omega)]
    congr 2
    simp only [Value.cells, List.toList_toArray, E.flat_cons]
    rw [List.take_append_of_le_length (by simp [E.len]; rw [Nat.succ_mul]; omega), List.take_of_length_le (by simp [E.len]; rw [Nat.succ_mul]; omega), List.append_assoc]
theorem wp_build_els {P : Program} {ts te : TypeId} {bytes : Nat} {o : Oper} {a : Act} {w : World} {K : Act → World → Prop} {Q : Exit → Act → World → Prop} (R : RowTy P E ts te bytes) (n : Nat) (parts : Array (Nat × Operand)) (ho : o.op = .buildSlice ts n parts) (es : List α) (hn : es.length = n) (hpos : 0 < n) (hsmall : n * k ≤ 16777216)
    (hv : (parts.map fun x => (x.1, a.eval x.2)).toList = (es.zipIdx 0).map fun x => (x.2, Value.agg (E.c x.1).toArray))
    (h : ∀ w', Own E te w' w.heap.size (.slice (some ⟨w.heap.size, 0, none⟩) n n) es → Below w.heap.size w w' → w'.heap.size = w.heap.size + 1 → w'.heap[w.heap.size]? = some (.cells (E.flat es).toArray te (0, 0)) → K (a.put o.dst (.slice (some ⟨w.heap.size, 0, none⟩) n n)) w') : o.wp P a w K Q := by
  obtain ⟨i, z, hi, hz, hsz, hby, hzc⟩ := R.parts
  subst hn
  have hmul := Nat.mul_pos hpos R.pos
  refine wp_buildSlice ts te es.length parts ho (E.flat es).toArray i z R.under hi hz (by rw [hsz]; omega) (by rw [hsz]; omega) ?_ ?_
  · rw [show (fun x : Nat × Operand => match x with | (i, x) => (i, a.eval x)) = (fun x => (x.1, a.eval x.2)) from rfl, hv, hsz]
    have := fill_els E es 0 ((Array.range (es.length * k)).map (z.cells[· % z.cells.size]!)) (by simp)
    simpa using this
  · refine h _ ⟨E.flat_length es, .inr ⟨w.heap.size, es.length, (E.flat es).toArray, rfl, Nat.le_refl _, heap_alloc_new _ _, Nat.le_refl _, ?_, by simp [E.flat_length], ?_⟩⟩ ((Below.refl _ w).alloc (Nat.le_refl _) _) (by simp) (heap_alloc_new _ _)
    · have : es.length ≤ es.length * k := Nat.le_mul_of_pos_right _ R.pos
      unfold maxLen; omega
    · simp [← E.flat_length es]
theorem build_els {P : Program} {ts te : TypeId} {bytes : Nat} {ops : Array Oper} {rest : List Oper} {o : Oper} {a : Act} {w : World} {Q : Exit → Act → World → Prop} (R : RowTy P E ts te bytes) (hg : o.guard = none) (n : Nat) (parts : Array (Nat × Operand)) (ho : o.op = .buildSlice ts n parts) (es : List α) (hn : es.length = n) (hpos : 0 < n) (hsmall : n * k ≤ 16777216)
    (hv : (parts.map fun x => (x.1, a.eval x.2)).toList = (es.zipIdx 0).map fun x => (x.2, Value.agg (E.c x.1).toArray))
    (h : ∀ w', Own E te w' w.heap.size (.slice (some ⟨w.heap.size, 0, none⟩) n n) es → Below w.heap.size w w' → w'.heap.size = w.heap.size + 1 → w'.heap[w.heap.size]? = some (.cells (E.flat es).toArray te (0, 0)) → wpList P ops Q rest (a.put o.dst (.slice (some ⟨w.heap.size, 0, none⟩) n n)) w') : wpList P ops Q (o :: rest) a w :=
  wpList_plain hg fun _ hK => wp_build_els R n parts ho es hn hpos hsmall hv fun w' h1 h2 h3 h4 => hK _ _ (h w' h1 h2 h3 h4)
theorem wp_build_el1 {P : Program} {ts te : TypeId} {bytes : Nat} {o : Oper} {a : Act} {w : World} {K : Act → World → Prop} {Q : Exit → Act → World → Prop} (R : RowTy P E ts te bytes) (x : Operand) (ho : o.op = .buildSlice ts 1 #[(0, x)]) (e : α) (hx : a.eval x = .agg (E.c e).toArray) (hsmall : k ≤ 1000)
    (h : ∀ w', Own E te w' w.heap.size (.slice (some ⟨w.heap.size, 0, none⟩) 1 1) [e] → Below w.heap.size w w' → w'.heap.size = w.heap.size + 1 → K (a.put o.dst (.slice (some ⟨w.heap.size, 0, none⟩) 1 1)) w') : o.wp P a w K Q :=
  wp_build_els R 1 _ ho [e] rfl (by decide) (by omega) (by simp [hx]) fun w' h1 h2 h3 _ => h w' h1 h2 h3
theorem build_el1 {P : Program} {ts te : TypeId} {bytes : Nat} {ops : Array Oper} {rest : List Oper} {o : Oper} {a : Act} {w : World} {Q : Exit → Act → World → Prop} (R : RowTy P E ts te bytes) (hg : o.guard = none) (x : Operand) (ho : o.op = .buildSlice ts 1 #[(0, x)]) (e : α) (hx : a.eval x = .agg (E.c e).toArray) (hsmall : k ≤ 1000)
    (h : ∀ w', Own E te w' w.heap.size (.slice (some ⟨w.heap.size, 0, none⟩) 1 1) [e] → Below w.heap.size w w' → w'.heap.size = w.heap.size + 1 → w'.heap[w.heap.size]? = some (.cells (E.c e).toArray te (0, 0)) → wpList P ops Q rest (a.put o.dst (.slice (some ⟨w.heap.size, 0, none⟩) 1 1)) w') : wpList P ops Q (o :: rest) a w :=
  build_els R hg 1 _ ho [e] rfl (by decide) (by omega) (by simp [hx]) fun w' h1 h2 h3 h4 => h w' h1 h2 h3 (by rw [h4, E.flat_one])
theorem build_el2 {P : Program} {ts te : TypeId} {bytes : Nat} {ops : Array Oper} {rest : List Oper} {o : Oper} {a : Act} {w : World} {Q : Exit → Act → World → Prop} (R : RowTy P E ts te bytes) (hg : o.guard = none) (x y : Operand) (ho : o.op = .buildSlice ts 2 #[(0, x), (1, y)]) (e f : α) (hx : a.eval x = .agg (E.c e).toArray) (hy : a.eval y = .agg (E.c f).toArray) (hsmall : k ≤ 1000)
    (h : ∀ w', Own E te w' w.heap.size (.slice (some ⟨w.heap.size, 0, none⟩) 2 2) [e, f] → Below w.heap.size w w' → w'.heap.size = w.heap.size + 1 → wpList P ops Q rest (a.put o.dst (.slice (some ⟨w.heap.size, 0, none⟩) 2 2)) w') : wpList P ops Q (o :: rest) a w :=
  build_els R hg 2 _ ho [e, f] rfl (by decide) (by omega) (by simp [hx, hy]) fun w' h1 h2 h3 _ => h w' h1 h2 h3
end
end Go.Proofs.YtbbelhkdpmcoeaaGreat
/- Lists that rise by a number (keys as numbers): a list is what its lookups are; to put one in, to strike one out. Plain mathematics, for whatever has keys. -/
namespace Go.Proofs.YtbbelhkdpmcoeaaGreat
set_option linter.unusedVariables false
set_option maxRecDepth 100000

section
variable {α : Type} (key : α → Int)
def Asc (l : List α) : Prop := l.Pairwise fun a b => key a < key b
def look : List α → Int → Option α
  | [], _ => none
  | a :: r, x => if key a = x then some a else look r x
theorem look_key {l : List α} {x : Int} {a : α} (h : look key l x = some a) : a ∈ l ∧ key a = x := by
  induction l with
  | nil => cases h
  | cons b r ih =>
    unfold look at h
    split at h
    · rename_i q
      cases h
      exact ⟨by simp, q⟩
    · have := ih h
      exact ⟨by simp [this.1], this.2⟩
theorem look_none {l : List α} {x : Int} : look key l x = none ↔ ∀ a ∈ l, key a ≠ x := by
  induction l with
  | nil => simp [look]
  | cons b r ih =>
    unfold look
    split
    · rename_i q
      simp [q]
    · rename_i q
      rw [ih]
      simp [q]
theorem look_low {l : List α} {x : Int} (h : ∀ a ∈ l, x < key a) : look key l x = none := (look_none key).2 fun a ha q => by have := h a ha; omega
theorem look_mem {l : List α} (h : Asc key l) {a : α} (ha : a ∈ l) : look key l (key a) = some a := by
  induction l with
  | nil => cases ha
  | cons b r ih =>
    have hp := List.pairwise_cons.1 h
    unfold look
    rcases List.mem_cons.1 ha with rfl | hr
    · rw [if_pos rfl]
    · have := hp.1 a hr
      rw [if_neg (by omega)]
      exact ih hp.2 hr
/-- A rising list is what its lookups are. -/
theorem asc_ext : ∀ {l m : List α}, Asc key l → Asc key m → (∀ x, look key l x = look key m x) → l = m
  | [], [], _, _, _ => rfl
  | [], b :: s, _, _, h => by
    have := h (key b)
    simp [look] at this
  | a :: r, [], _, _, h => by
    have := h (key a)
    simp [look] at this
  | a :: r, b :: s, hl, hm, h => by
    have pl := List.pairwise_cons.1 hl
    have pm := List.pairwise_cons.1 hm
    have ha := h (key a)
    have hb := h (key b)
    simp only [look, if_true] at ha hb
    rcases Int.lt_trichotomy (key a) (key b) with q | q | q
    · rw [if_neg (by omega), look_low key (fun c hc => by have := pm.1 c hc; omega)] at ha
      cases ha
    · rw [if_pos q.symm] at ha
      cases ha
      have : r = s := asc_ext pl.2 pm.2 fun x => by
        have hx := h x
        simp only [look] at hx
        by_cases e : key a = x
        · rw [look_low key (fun c hc => by have := pl.1 c hc; omega), look_low key (fun c hc => by have := pm.1 c hc; omega)]
        · rwa [if_neg e, if_neg e] at hx
      rw [this]
    · rw [if_neg (by omega), look_low key (fun c hc => by have := pl.1 c hc; omega)] at hb
      cases hb
/-- One more, in its place; whoever stood there gives way. -/
def putA : List α → α → List α
  | [], p => [p]
  | a :: r, p => if key a < key p then a :: putA r p else if key a = key p then p :: r else p :: a :: r
/-- Without one. -/
def delA : List α → Int → List α
  | [], _ => []
  | a :: r, x => if key a < x then a :: delA r x else if key a = x then r else a :: r
def posA (l : List α) (x : Int) : Nat := (l.takeWhile fun a => decide (key a < x)).length
def hitA (l : List α) (x : Int) : Bool := decide ((l[posA key l x]?).map key = some x)
theorem posA_le (l : List α) (x : Int) : posA key l x ≤ l.length := (List.takeWhile_prefix _).length_le
theorem posA_lt {a : α} {r : List α} {x : Int} (h : key a < x) : posA key (a :: r) x = posA key r x + 1 := by unfold posA; rw [List.takeWhile_cons_of_pos (by simpa using h)]; rfl
theorem posA_ge {a : α} {r : List α} {x : Int} (h : ¬ key a < x) : posA key (a :: r) x = 0 := by unfold posA; rw [List.takeWhile_cons_of_neg (by simpa using h)]; rfl
theorem posA_eq (l : List α) (x : Int) (k : Nat) (h1 : ∀ j (hj : j < l.length), j < k → key l[j] < x) (hk : k ≤ l.length) (h2 : ∀ h : k < l.length, ¬ key l[k] < x) : posA key l x = k := by
  induction l generalizing k with
  | nil => simp at hk; subst hk; rfl
  | cons z r ih =>
    cases k with
    | zero => exact posA_ge key (h2 (Nat.zero_lt_succ _))
    | succ k =>
      rw [posA_lt (a := z) key (h1 0 (Nat.zero_lt_succ _) (Nat.zero_lt_succ _))]
      rw [ih k (fun j hj hjk => by have := h1 (j + 1) (by simpa using hj) (by omega); simpa using this) (by simpa using hk) (fun h => by have := h2 (by simpa using h); simpa using this)]
theorem putA_at (l : List α) (p : α) : putA key l p = l.take (posA key l (key p)) ++ p :: l.drop (posA key l (key p) + if hitA key l (key p) then 1 else 0) := by
  induction l with
  | nil => simp [putA]
  | cons a r ih =>
    unfold putA
    by_cases h : key a < key p
    · have hh : hitA key (a :: r) (key p) = hitA key r (key p) := by unfold hitA; rw [posA_lt key h]; simp
      rw [if_pos h, posA_lt key h, hh, ih, show ∀ k : Nat, posA key r (key p) + 1 + k = (posA key r (key p) + k) + 1 by intro k; omega]
      simp
    · rw [if_neg h, posA_ge key h]
      by_cases e : key a = key p
      · have hh : hitA key (a :: r) (key p) = true := by unfold hitA; rw [posA_ge key h]; simpa using e
        rw [if_pos e, hh]
        simp
      · have hh : hitA key (a :: r) (key p) = false := by unfold hitA; rw [posA_ge key h]; simpa using e
        rw [if_neg e, hh]
        simp
theorem delA_at (l : List α) (x : Int) : delA key l x = if hitA key l x then l.take (posA key l x) ++ l.drop (posA key l x + 1) else l := by
  induction l with
  | nil => simp [delA]
  | cons a r ih =>
    unfold delA
    by_cases h : key a < x
    · have hh : hitA key (a :: r) x = hitA key r x := by unfold hitA; rw [posA_lt key h]; simp
      rw [if_pos h, posA_lt key h, hh, ih]
      split <;> simp
    · rw [if_neg h, posA_ge key h]
      by_cases e : key a = x
      · have hh : hitA key (a :: r) x = true := by unfold hitA; rw [posA_ge key h]; simpa using e
        rw [if_pos e, hh]
        simp
      · have hh : hitA key (a :: r) x = false := by unfold hitA; rw [posA_ge key h]; simpa using e
        rw [if_neg e, hh]
        simp
theorem putA_mem {l : List α} {p c : α} (h : c ∈ putA key l p) : c ∈ l ∨ c = p := by
  induction l with
  | nil => simpa [putA] using h
  | cons a r ih =>
    unfold putA at h
    split at h
    · rcases List.mem_cons.1 h with rfl | h
      · simp
      · rcases ih h with q | q
        · simp [q]
        · exact .inr q
    · split at h
      · rcases List.mem_cons.1 h with rfl | h
        · exact .inr rfl
        · simp [h]
      · rcases List.mem_cons.1 h with rfl | h
        · exact .inr rfl
        · exact .inl h
theorem delA_mem {l : List α} {x : Int} {c : α} (h : c ∈ delA key l x) : c ∈ l := by
  induction l with
  | nil => exact h
  | cons a r ih =>
    unfold delA at h
    split at h
    · rcases List.mem_cons.1 h with rfl | h
      · simp
      · simp [ih h]
    · split at h
      · simp [h]
      · exact h
theorem putA_asc {l : List α} (p : α) (h : Asc key l) : Asc key (putA key l p) := by
  induction l with
  | nil => simp [putA, Asc]
  | cons a r ih =>
    have hp := List.pairwise_cons.1 h
    unfold putA
    split
    · rename_i q
      refine List.pairwise_cons.2 ⟨fun c hc => ?_, ih hp.2⟩
      rcases putA_mem key hc with m | rfl
      · exact hp.1 c m
      · exact q
    · split
      · rename_i e
        exact List.pairwise_cons.2 ⟨fun c hc => by have := hp.1 c hc; omega, hp.2⟩
      · refine List.pairwise_cons.2 ⟨fun c hc => ?_, h⟩
        rcases List.mem_cons.1 hc with rfl | hc
        · omega
        · have := hp.1 c hc
          omega
theorem delA_asc {l : List α} (x : Int) (h : Asc key l) : Asc key (delA key l x) := by
  induction l with
  | nil => exact h
  | cons a r ih =>
    have hp := List.pairwise_cons.1 h
    unfold delA
    split
    · exact List.pairwise_cons.2 ⟨fun c hc => hp.1 c (delA_mem key hc), ih hp.2⟩
    · split
      · exact hp.2
      · exact h
theorem putA_look {l : List α} (p : α) (x : Int) : Asc key l → look key (putA key l p) x = if key p = x then some p else look key l x := by
  induction l with
  | nil => intro _; simp [putA, look]
  | cons a r ih =>
    intro h
    have hp := List.pairwise_cons.1 h
    unfold putA
    split
    · simp only [look]
      rw [ih hp.2]
      by_cases e : key a = x
      · rw [if_pos e, if_neg (by omega), if_pos e]
      · rw [if_neg e, if_neg e]
    · split
      · simp only [look]
        by_cases e : key p = x
        · rw [if_pos e, if_pos e]
        · rw [if_neg e, if_neg e, if_neg (by omega)]
      · simp only [look]
theorem delA_look {l : List α} (y x : Int) : Asc key l → look key (delA key l y) x = if y = x then none else look key l x := by
  induction l with
  | nil => intro _; simp [delA, look]
  | cons a r ih =>
    intro h
    have hp := List.pairwise_cons.1 h
    unfold delA
    split
    · simp only [look]
      rw [ih hp.2]
      by_cases e : key a = x
      · rw [if_pos e, if_neg (by omega), if_pos e]
      · rw [if_neg e, if_neg e]
    · split
      · rename_i e2
        by_cases e : y = x
        · rw [if_pos e]
          exact look_low key fun c hc => by have := hp.1 c hc; omega
        · rw [if_neg e]
          simp only [look]
          rw [if_neg (by omega)]
      · by_cases e : y = x
        · rw [if_pos e]
          refine look_low key fun c hc => ?_
          rcases List.mem_cons.1 hc with rfl | hc
          · omega
          · have := hp.1 c hc
            omega
        · rw [if_neg e]
theorem putA_len (l : List α) (p : α) : (putA key l p).length ≤ l.length + 1 := by
  induction l with
  | nil => simp [putA]
  | cons a r ih =>
    unfold putA
    split
    · simp only [List.length_cons]; omega
    · split <;> simp
theorem delA_len (l : List α) (x : Int) : (delA key l x).length ≤ l.length := by
  induction l with
  | nil => simp [delA]
  | cons a r ih =>
    unfold delA
    split
    · simp only [List.length_cons]; omega
    · split <;> simp
/-- What the document's find tells. -/
theorem hitA_look {l : List α} (x : Int) : Asc key l → look key l x = if hitA key l x then l[posA key l x]? else none := by
  induction l with
  | nil => intro _; simp [look]
  | cons a r ih =>
    intro h
    have hp := List.pairwise_cons.1 h
    by_cases q : key a < x
    · have hh : hitA key (a :: r) x = hitA key r x := by unfold hitA; rw [posA_lt key q]; simp
      simp only [look]
      rw [if_neg (by omega), hh, posA_lt key q, ih hp.2]
      simp
    · rw [posA_ge key q]
      by_cases e : key a = x
      · have hh : hitA key (a :: r) x = true := by unfold hitA; rw [posA_ge key q]; simpa using e
        simp [look, e, hh]
      · have hh : hitA key (a :: r) x = false := by unfold hitA; rw [posA_ge key q]; simpa using e
        rw [hh]
        exact look_low key fun c hc => by
          rcases List.mem_cons.1 hc with rfl | hc
          · omega
          · have := hp.1 c hc
            omega
end
end Go.Proofs.YtbbelhkdpmcoeaaGreat
/- Maps, deltas and merges as rising lists: what each is, by its lookups (mathematics for stage 9). -/
namespace Go.Proofs.YtbbelhkdpmcoeaaGreat
set_option linter.unusedVariables false
set_option maxRecDepth 100000

theorem snoc_ind {α : Type} {motive : List α → Prop} (h0 : motive []) (h1 : ∀ l a, motive l → motive (l ++ [a])) (l : List α) : motive l := by
  rw [← List.reverse_reverse l]
  induction l.reverse with
  | nil => exact h0
  | cons a r ih => rw [List.reverse_cons]; exact h1 _ _ ih
section
variable {α : Type} (key : α → Int)
/-- The last one of a key. -/
def lastA (l : List α) (x : Int) : Option α := l.foldl (fun o a => if key a = x then some a else o) none
theorem lastA_snoc (l : List α) (a : α) (x : Int) : lastA key (l ++ [a]) x = if key a = x then some a else lastA key l x := by simp [lastA]
theorem lastA_nil (x : Int) : lastA key [] x = none := rfl
theorem lastA_append (l m : List α) (x : Int) : lastA key (l ++ m) x = (lastA key m x).or (lastA key l x) := by
  induction m using snoc_ind with
  | h0 => simp [lastA_nil]
  | h1 m a ih =>
    rw [← List.append_assoc, lastA_snoc, lastA_snoc, ih]
    split <;> simp
theorem lastA_key {l : List α} {x : Int} {a : α} (h : lastA key l x = some a) : a ∈ l ∧ key a = x := by
  induction l using snoc_ind with
  | h0 => cases h
  | h1 l b ih =>
    rw [lastA_snoc] at h
    split at h
    · rename_i q
      cases h
      exact ⟨by simp, q⟩
    · have := ih h
      exact ⟨by simp [this.1], this.2⟩
theorem lastA_asc {l : List α} (h : Asc key l) (x : Int) : lastA key l x = look key l x := by
  cases e : lastA key l x with
  | some a =>
    obtain ⟨h1, h2⟩ := lastA_key key e
    rw [← h2, look_mem key h h1]
  | none =>
    cases e2 : look key l x with
    | none => rfl
    | some a =>
      obtain ⟨h1, h2⟩ := look_key key e2
      exfalso
      have : ∀ m : List α, a ∈ m → lastA key m x ≠ none := fun m => by
        induction m using snoc_ind with
        | h0 => intro q; cases q
        | h1 m b ih =>
          intro q
          rw [lastA_snoc]
          split
          · simp
          · rename_i r
            rcases List.mem_append.1 q with q | q
            · exact ih q
            · rw [List.mem_singleton] at q
              subst q
              exact absurd h2 r
      exact this l h1 e
/-- All put in, one behind the other. -/
theorem puts_is (l m : List α) (h : Asc key m) : Asc key (l.foldl (putA key) m) ∧ ∀ x, look key (l.foldl (putA key) m) x = (lastA key l x).or (look key m x) := by
  induction l using snoc_ind with
  | h0 => exact ⟨h, fun x => by simp [lastA_nil]⟩
  | h1 l a ih =>
    rw [List.foldl_append]
    refine ⟨putA_asc key a ih.1, fun x => ?_⟩
    show look key (putA key _ a) x = _
    rw [putA_look key a x ih.1, lastA_snoc, ih.2]
    split <;> simp
end
structure Pa where
  k : List UInt8
  h : k.length = 24
  v : List UInt8
structure Ch where
  k : List UInt8
  h : k.length = 24
  v : List UInt8
  g : Bool
def Pa.n (p : Pa) : Int := (num p.k : Int)
def Ch.n (p : Ch) : Int := (num p.k : Int)
def Ch.pa (c : Ch) : Pa := ⟨c.k, c.h, c.v⟩
/-- A change as a delta holds it. -/
def Ch.plain (c : Ch) : Ch := if c.g then ⟨c.k, c.h, [], true⟩ else c
theorem Ch.plain_n (c : Ch) : c.plain.n = c.n := by unfold Ch.plain; split <;> rfl
theorem Ch.plain_plain (c : Ch) : c.plain.plain = c.plain := by
  unfold Ch.plain
  split
  · rfl
  · rfl
/-- What a change makes of what is there. -/
def doneA (o : Option Ch) (p : Option Pa) : Option Pa := match o with
  | none => p
  | some c => if c.g then none else some c.pa
def MapIs (l m : List Pa) : Prop := Asc Pa.n m ∧ ∀ x, look Pa.n m x = lastA Pa.n l x
def ApplyIs (l : List Pa) (c : List Ch) (m : List Pa) : Prop := Asc Pa.n m ∧ ∀ x, look Pa.n m x = doneA (lastA Ch.n c x) (lastA Pa.n l x)
/-- What is to be done that one becomes the other. -/
def diffA : Option Pa → Option Pa → Option Ch
  | none, none => none
  | some p, none => some ⟨p.k, p.h, [], true⟩
  | none, some q => some ⟨q.k, q.h, q.v, false⟩
  | some p, some q => if p.v = q.v then none else some ⟨q.k, q.h, q.v, false⟩
def DiffIs (a b : List Pa) (d : List Ch) : Prop := Asc Ch.n d ∧ ∀ x, look Ch.n d x = diffA (lastA Pa.n a x) (lastA Pa.n b x)
def JoinIs (l d : List Ch) : Prop := Asc Ch.n d ∧ ∀ x, look Ch.n d x = (lastA Ch.n l x).map Ch.plain
theorem MapIs.unique {l m n : List Pa} (h : MapIs l m) (h' : MapIs l n) : m = n := asc_ext Pa.n h.1 h'.1 fun x => by rw [h.2, h'.2]
theorem ApplyIs.unique {l : List Pa} {c : List Ch} {m n : List Pa} (h : ApplyIs l c m) (h' : ApplyIs l c n) : m = n := asc_ext Pa.n h.1 h'.1 fun x => by rw [h.2, h'.2]
theorem DiffIs.unique {a b : List Pa} {d e : List Ch} (h : DiffIs a b d) (h' : DiffIs a b e) : d = e := asc_ext Ch.n h.1 h'.1 fun x => by rw [h.2, h'.2]
theorem JoinIs.unique {l d e : List Ch} (h : JoinIs l d) (h' : JoinIs l e) : d = e := asc_ext Ch.n h.1 h'.1 fun x => by rw [h.2, h'.2]
/-- A map of a map is itself. -/
theorem MapIs.last {l m : List Pa} (h : MapIs l m) (x : Int) : lastA Pa.n m x = lastA Pa.n l x := by rw [lastA_asc Pa.n h.1, h.2]
theorem ApplyIs.last {l : List Pa} {c : List Ch} {m : List Pa} (h : ApplyIs l c m) (x : Int) : lastA Pa.n m x = doneA (lastA Ch.n c x) (lastA Pa.n l x) := by rw [lastA_asc Pa.n h.1, h.2]
theorem DiffIs.last {a b : List Pa} {d : List Ch} (h : DiffIs a b d) (x : Int) : lastA Ch.n d x = diffA (lastA Pa.n a x) (lastA Pa.n b x) := by rw [lastA_asc Ch.n h.1, h.2]
theorem JoinIs.last {l d : List Ch} (h : JoinIs l d) (x : Int) : lastA Ch.n d x = (lastA Ch.n l x).map Ch.plain := by rw [lastA_asc Ch.n h.1, h.2]
/-- The document's Map. -/
theorem map_is (l : List Pa) : MapIs l (l.foldl (putA Pa.n) []) := by
  have := puts_is Pa.n l [] List.Pairwise.nil
  exact ⟨this.1, fun x => by rw [this.2]; simp [look]⟩
def stepA (m : List Pa) (c : Ch) : List Pa := if c.g then delA Pa.n m c.n else putA Pa.n m c.pa
/-- The document's Apply, from its map on. -/
theorem apply_is {l m : List Pa} (h : MapIs l m) (c : List Ch) : ApplyIs l c (c.foldl stepA m) := by
  induction c using snoc_ind with
  | h0 => exact ⟨h.1, fun x => by rw [lastA_nil]; exact h.2 x⟩
  | h1 c a ih =>
    rw [List.foldl_append]
    show ApplyIs l _ (stepA (List.foldl stepA m c) a)
    generalize List.foldl stepA m c = M at ih ⊢
    unfold stepA
    split
    · rename_i hg
      refine ⟨delA_asc Pa.n _ ih.1, fun x => ?_⟩
      rw [delA_look Pa.n _ x ih.1, ih.2, lastA_snoc]
      split
      · simp [doneA, hg]
      · rfl
    · rename_i hg
      refine ⟨putA_asc Pa.n _ ih.1, fun x => ?_⟩
      rw [putA_look Pa.n _ x ih.1, ih.2, lastA_snoc]
      show (if a.n = x then _ else _) = _
      split
      · simp [doneA, hg]
      · rfl
/-- The document's Join: all put in, each as a delta holds it. -/
theorem join_is (l : List Ch) : JoinIs l ((l.map Ch.plain).foldl (putA Ch.n) []) := by
  have h := puts_is Ch.n (l.map Ch.plain) [] List.Pairwise.nil
  refine ⟨h.1, fun x => ?_⟩
  rw [h.2]
  simp only [look, Option.or_none]
  induction l using snoc_ind with
  | h0 => rfl
  | h1 l a ih =>
    rw [List.map_append, List.map_singleton, lastA_snoc, lastA_snoc, Ch.plain_n, ih (puts_is Ch.n _ [] List.Pairwise.nil)]
    split <;> rfl
end Go.Proofs.YtbbelhkdpmcoeaaGreat
