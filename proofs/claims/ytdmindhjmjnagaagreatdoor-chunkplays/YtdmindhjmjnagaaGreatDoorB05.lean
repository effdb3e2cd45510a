import Derived.Test.YtdmindhjmjnagaaGreatDoorB04
import Derived.Test.YtdmindhjmjnagaaGreatDoorB01
import Derived.Laws.ResultCell
import Derived.Deep.WholeRow
import Derived.BigQuiet
import Derived.Great.BuildSlice
import Derived.Great.Walk
import Derived.Sort.Statements
/- Sl2 AscM Dl9M SpM Dl9N Dl9D Dl9E -/
namespace Go.Proofs.YtdmindhjmjnagaaGreatDoor
set_option linter.unusedVariables false
set_option maxRecDepth 1000000
set_option maxHeartbeats 32000000
section
open Go.RowKit
section
variable {α : Type} {k : Nat} {E : Enc α k} {ty : TypeId}
structure InB (E : Enc α k) (ty : TypeId) (w : World) (b : Nat) (x : α) : Prop where
 blk : w.heap[b]? = some (.cells (E.c x).toArray ty (0, 0))
theorem InB.lt {w : World} {b : Nat} {x : α} (h : InB E ty w b x) : b < w.heap.size := lt_of_block h.blk
theorem InB.same {w w' : World} {b : Nat} {x : α} (h : InB E ty w b x) (q : w'.heap[b]? = w.heap[b]?) : InB E ty w' b x := ⟨q.trans h.blk⟩
theorem InB.below {B : Nat} {w w' : World} {b : Nat} {x : α} (h : InB E ty w b x) (hb : Below B w w') (hB : b < B) : InB E ty w' b x := h.same (hb.block b hB)
theorem InB.touch {w w' : World} {b p : Nat} {r : Option Nat} {x : α} (h : InB E ty w b x) (ht : Touch p r w w') (hp : b ≠ p) (hr : r ≠ some b) : InB E ty w' b x := h.same (ht.block b h.lt hp hr)
theorem InB.alloc {w : World} {b : Nat} {x : α} (h : InB E ty w b x) (o : Obj) : InB E ty (w.alloc o) b x := h.same (Below.heap_alloc _ _ _ h.lt)
theorem InB.new (E : Enc α k) (ty : TypeId) (w : World) (x : α) (b : Nat) (hb : b = w.heap.size) : InB E ty (w.alloc (.cells (E.c x).toArray ty)) b x := by
 subst hb
 exact ⟨heap_alloc_new _ _⟩
theorem InB.range {w : World} {b : Nat} {x : α} (h : InB E ty w b x) : w.rangeAt b 0 (E.c x) := fun j v hv => by
 rw [Nat.zero_add, cell_of_row w b _ _ _ _ h.blk]
 simpa using hv
structure ElTy (P : Program) (E : Enc α k) (ty : TypeId) : Prop where
 row : ∃ d, P.underlying ty = some d ∧ d.isRow = true ∧ (match d with | .struct _ => true | .array _ _ => true | _ => false) = true
 info : (P.info? ty).map (·.size) = some k
section
variable {P : Program} {ops : Array Oper} {rest : List Oper} {o : Oper} {a : Act} {w : World} {Q : Exit → Act → World → Prop}
theorem load_el (R : ElTy P E ty) (x : Operand) (ho : o.op = .load ty x) (b i : Nat) (hx : a.eval x = .pointer (some ⟨b, i, none⟩)) (hgd : Region.wanted o (yielded ops a.tmps) = true) (e : α) (hK : w.rangeAt b i (E.c e))
    (h : wpList P ops Q rest (a.put o.dst (.agg (E.c e).toArray)) w) : wpList P ops Q (o :: rest) a w := by
 obtain ⟨d, hu, hd, _⟩ := R.row
 exact BigFrame.wpList_want hgd fun _ hK' => wp_load_mid _ x ho b i hx _ _ hK hu hd (by rw [E.len]; exact R.info) (hK' _ _ h)
theorem store_el (R : ElTy P E ty) (hgd : o.guard = none) (x y : Operand) (ho : o.op = .store ty x y) (b : Nat) (hx : a.eval x = .pointer (some ⟨b, 0, none⟩)) (e : α) (hy : a.eval y = .agg (E.c e).toArray) (e0 : α) (hK : InB E ty w b e0)
    (h : ∀ w', InB E ty w' b e → Touch b none w w' → w'.heap.size = w.heap.size → wpList P ops Q rest (a.put o.dst undef) w') : wpList P ops Q (o :: rest) a w :=
 wpList_store_row hgd _ x y ho b _ hx hy _ _ hK.blk (by rw [E.size]; exact R.info) (by rw [E.size, E.size]) (E.all e) (h _ ⟨setRow_heap w b _ _ _ _ hK.blk⟩ ⟨rfl, rfl, rfl, by simp, fun j _ hj _ => setRow_other w b j _ hj⟩ (by simp))
end
theorem ret_el {P : Program} (R : ElTy P E ty) {fn : Func} {A : Ending → World → Prop} {a : Act} {w : World} {p : Tmp} (hr : fn.results = #[.cell p ty]) (b : Nat) (e : α) (hp : a.tmps.getD p undef = .pointer (some ⟨b, 0, none⟩)) (hK : InB E ty w b e)
    (hd : a.defers = []) (hA : A (.returned (.agg (E.c e).toArray)) w) : bodyPost P fn A .ret a w := by
 obtain ⟨d, hu, _, hdd⟩ := R.row
 cases d with
 | struct fs => exact bodyPost_ret (results_cell_row hr _ w b _ _ _ _ hp hK.blk hu rfl (by rw [E.size]; exact R.info)) hd hA
 | array n t => exact bodyPost_ret (results_cell_row hr _ w b _ _ _ _ hp hK.blk hu rfl (by rw [E.size]; exact R.info)) hd hA
 | _ => cases hdd
theorem fill_els (E : Enc α k) : ∀ (es : List α) (j : Nat) (C : Array Value), (j + es.length) * k = C.size →
    Instr.fill (fun i => some (i * k, k)) C ((es.zipIdx j).map fun x => (x.2, Value.agg (E.c x.1).toArray)) = some (C.toList.take (j * k) ++ E.flat es).toArray
 | [], j, C, h => by
  simp only [List.length_nil, Nat.add_zero] at h
  rw [h]
  simp only [List.zipIdx_nil, List.map_nil, Instr.fill, Enc.flat, List.flatMap_nil, List.append_nil]
  rw [List.take_of_length_le (by simp)]
 | e :: es, j, C, h => by
  have hl : j * k + k ≤ C.size := by
   rw [← h, List.length_cons, ← Nat.succ_mul]
   exact Nat.mul_le_mul_right k (by omega)
  rw [List.zipIdx_cons, List.map_cons, fill_put (off := j * k) (size := k) rfl (by simp [Value.cells, E.len]) hl]
  rw [fill_els E es (j + 1) _ (by simp only [List.size_toArray, List.length_append, List.length_take, List.length_drop, Array.length_toList, Value.cells, List.toList_toArray, E.len]; rw [show j + 1 + es.length = j + (e :: es).length by simp; omega, h]; omega)]
  congr 2
  simp only [Value.cells, List.toList_toArray, E.flat_cons]
  rw [List.take_append_of_le_length (by simp [E.len]; rw [Nat.succ_mul]; omega), List.take_of_length_le (by simp [E.len]; rw [Nat.succ_mul]; omega), List.append_assoc]
theorem wp_build_els {P : Program} {ts te : TypeId} {bytes : Nat} {o : Oper} {a : Act} {w : World} {K : Act → World → Prop} {Q : Exit → Act → World → Prop} (R : RowTy P E ts te bytes) (n : Nat) (parts : Array (Nat × Operand)) (ho : o.op = .buildSlice ts n parts) (es : List α) (hn : es.length = n) (hpos : 0 < n) (hsmall : n * k ≤ 16777216)
    (hv : (parts.map fun x => (x.1, a.eval x.2)).toList = (es.zipIdx 0).map fun x => (x.2, Value.agg (E.c x.1).toArray))
    (h : ∀ w', Own E te w' w.heap.size (.slice (some ⟨w.heap.size, 0, none⟩) n n) es → Below w.heap.size w w' → w'.heap.size = w.heap.size + 1 → w'.heap[w.heap.size]? = some (.cells (E.flat es).toArray te (0, 0)) → K (a.put o.dst (.slice (some ⟨w.heap.size, 0, none⟩) n n)) w') : o.wp P a w K Q := by
 obtain ⟨i, z, hi, hz, hsz, hby, hzc⟩ := R.parts
 subst hn
 have hmul := Nat.mul_pos hpos R.pos
 refine wp_buildSlice ts te es.length parts ho (E.flat es).toArray i z R.under hi hz (by rw [hsz]; omega) (by rw [hsz]; omega) ?_ ?_
 · rw [show (fun x : Nat × Operand => match x with | (i, x) => (i, a.eval x)) = (fun x => (x.1, a.eval x.2)) from rfl, hv, hsz]
   have := fill_els E es 0 ((Array.range (es.length * k)).map (z.cells[· % z.cells.size]!)) (by simp)
   simpa using this
 · refine h _ ⟨E.flat_length es, .inr ⟨w.heap.size, es.length, (E.flat es).toArray, rfl, Nat.le_refl _, heap_alloc_new _ _, Nat.le_refl _, ?_, by simp [E.flat_length], ?_⟩⟩ ((Below.refl _ w).alloc (Nat.le_refl _) _) (by simp) (heap_alloc_new _ _)
   · have : es.length ≤ es.length * k := Nat.le_mul_of_pos_right _ R.pos
     unfold maxLen; omega
   · simp [← E.flat_length es]
theorem build_els {P : Program} {ts te : TypeId} {bytes : Nat} {ops : Array Oper} {rest : List Oper} {o : Oper} {a : Act} {w : World} {Q : Exit → Act → World → Prop} (R : RowTy P E ts te bytes) (hg : o.guard = none) (n : Nat) (parts : Array (Nat × Operand)) (ho : o.op = .buildSlice ts n parts) (es : List α) (hn : es.length = n) (hpos : 0 < n) (hsmall : n * k ≤ 16777216)
    (hv : (parts.map fun x => (x.1, a.eval x.2)).toList = (es.zipIdx 0).map fun x => (x.2, Value.agg (E.c x.1).toArray))
    (h : ∀ w', Own E te w' w.heap.size (.slice (some ⟨w.heap.size, 0, none⟩) n n) es → Below w.heap.size w w' → w'.heap.size = w.heap.size + 1 → w'.heap[w.heap.size]? = some (.cells (E.flat es).toArray te (0, 0)) → wpList P ops Q rest (a.put o.dst (.slice (some ⟨w.heap.size, 0, none⟩) n n)) w') : wpList P ops Q (o :: rest) a w :=
 wpList_plain hg fun _ hK => wp_build_els R n parts ho es hn hpos hsmall hv fun w' h1 h2 h3 h4 => hK _ _ (h w' h1 h2 h3 h4)
theorem wp_build_el1 {P : Program} {ts te : TypeId} {bytes : Nat} {o : Oper} {a : Act} {w : World} {K : Act → World → Prop} {Q : Exit → Act → World → Prop} (R : RowTy P E ts te bytes) (x : Operand) (ho : o.op = .buildSlice ts 1 #[(0, x)]) (e : α) (hx : a.eval x = .agg (E.c e).toArray) (hsmall : k ≤ 1000)
    (h : ∀ w', Own E te w' w.heap.size (.slice (some ⟨w.heap.size, 0, none⟩) 1 1) [e] → Below w.heap.size w w' → w'.heap.size = w.heap.size + 1 → K (a.put o.dst (.slice (some ⟨w.heap.size, 0, none⟩) 1 1)) w') : o.wp P a w K Q :=
 wp_build_els R 1 _ ho [e] rfl (by decide) (by omega) (by simp [hx]) fun w' h1 h2 h3 _ => h w' h1 h2 h3
theorem build_el1 {P : Program} {ts te : TypeId} {bytes : Nat} {ops : Array Oper} {rest : List Oper} {o : Oper} {a : Act} {w : World} {Q : Exit → Act → World → Prop} (R : RowTy P E ts te bytes) (hg : o.guard = none) (x : Operand) (ho : o.op = .buildSlice ts 1 #[(0, x)]) (e : α) (hx : a.eval x = .agg (E.c e).toArray) (hsmall : k ≤ 1000)
    (h : ∀ w', Own E te w' w.heap.size (.slice (some ⟨w.heap.size, 0, none⟩) 1 1) [e] → Below w.heap.size w w' → w'.heap.size = w.heap.size + 1 → w'.heap[w.heap.size]? = some (.cells (E.c e).toArray te (0, 0)) → wpList P ops Q rest (a.put o.dst (.slice (some ⟨w.heap.size, 0, none⟩) 1 1)) w') : wpList P ops Q (o :: rest) a w :=
 build_els R hg 1 _ ho [e] rfl (by decide) (by omega) (by simp [hx]) fun w' h1 h2 h3 h4 => h w' h1 h2 h3 (by rw [h4, E.flat_one])
end
end
section
section
variable {α : Type} (key : α → Int)
def Asc (l : List α) : Prop := l.Pairwise fun a b => key a < key b
def look : List α → Int → Option α
 | [], _ => none
 | a :: r, x => if key a = x then some a else look r x
theorem look_key {l : List α} {x : Int} {a : α} (h : look key l x = some a) : a ∈ l ∧ key a = x := by
 induction l with
 | nil => cases h
 | cons b r ih =>
  unfold look at h
  split at h
  · rename_i q
    cases h
    exact ⟨by simp, q⟩
  · have := ih h
    exact ⟨by simp [this.1], this.2⟩
theorem look_none {l : List α} {x : Int} : look key l x = none ↔ ∀ a ∈ l, key a ≠ x := by
 induction l with
 | nil => simp [look]
 | cons b r ih =>
  unfold look
  split
  · rename_i q
    simp [q]
  · rename_i q
    rw [ih]
    simp [q]
theorem look_low {l : List α} {x : Int} (h : ∀ a ∈ l, x < key a) : look key l x = none := (look_none key).2 fun a ha q => by have := h a ha; omega
theorem look_mem {l : List α} (h : Asc key l) {a : α} (ha : a ∈ l) : look key l (key a) = some a := by
 induction l with
 | nil => cases ha
 | cons b r ih =>
  have hp := List.pairwise_cons.1 h
  unfold look
  rcases List.mem_cons.1 ha with rfl | hr
  · rw [if_pos rfl]
  · have := hp.1 a hr
    rw [if_neg (by omega)]
    exact ih hp.2 hr
theorem asc_ext : ∀ {l m : List α}, Asc key l → Asc key m → (∀ x, look key l x = look key m x) → l = m
 | [], [], _, _, _ => rfl
 | [], b :: s, _, _, h => by
  have := h (key b)
  simp [look] at this
 | a :: r, [], _, _, h => by
  have := h (key a)
  simp [look] at this
 | a :: r, b :: s, hl, hm, h => by
  have pl := List.pairwise_cons.1 hl
  have pm := List.pairwise_cons.1 hm
  have ha := h (key a)
  have hb := h (key b)
  simp only [look, if_true] at ha hb
  rcases Int.lt_trichotomy (key a) (key b) with q | q | q
  · rw [if_neg (by omega), look_low key (fun c hc => by have := pm.1 c hc; omega)] at ha
    cases ha
  · rw [if_pos q.symm] at ha
    cases ha
    have : r = s := asc_ext pl.2 pm.2 fun x => by
     have hx := h x
     simp only [look] at hx
     by_cases e : key a = x
     · rw [look_low key (fun c hc => by have := pl.1 c hc; omega), look_low key (fun c hc => by have := pm.1 c hc; omega)]
     · rwa [if_neg e, if_neg e] at hx
    rw [this]
  · rw [if_neg (by omega), look_low key (fun c hc => by have := pl.1 c hc; omega)] at hb
    cases hb
def putA : List α → α → List α
 | [], p => [p]
 | a :: r, p => if key a < key p then a :: putA r p else if key a = key p then p :: r else p :: a :: r
def delA : List α → Int → List α
 | [], _ => []
 | a :: r, x => if key a < x then a :: delA r x else if key a = x then r else a :: r
def posA (l : List α) (x : Int) : Nat := (l.takeWhile fun a => decide (key a < x)).length
def hitA (l : List α) (x : Int) : Bool := decide ((l[posA key l x]?).map key = some x)
theorem posA_le (l : List α) (x : Int) : posA key l x ≤ l.length := (List.takeWhile_prefix _).length_le
theorem posA_lt {a : α} {r : List α} {x : Int} (h : key a < x) : posA key (a :: r) x = posA key r x + 1 := by unfold posA; rw [List.takeWhile_cons_of_pos (by simpa using h)]; rfl
theorem posA_ge {a : α} {r : List α} {x : Int} (h : ¬ key a < x) : posA key (a :: r) x = 0 := by unfold posA; rw [List.takeWhile_cons_of_neg (by simpa using h)]; rfl
theorem posA_eq (l : List α) (x : Int) (k : Nat) (h1 : ∀ j (hj : j < l.length), j < k → key l[j] < x) (hk : k ≤ l.length) (h2 : ∀ h : k < l.length, ¬ key l[k] < x) : posA key l x = k := by
 induction l generalizing k with
 | nil => simp at hk; subst hk; rfl
 | cons z r ih =>
  cases k with
  | zero => exact posA_ge key (h2 (Nat.zero_lt_succ _))
  | succ k =>
   rw [posA_lt (a := z) key (h1 0 (Nat.zero_lt_succ _) (Nat.zero_lt_succ _))]
   rw [ih k (fun j hj hjk => by have := h1 (j + 1) (by simpa using hj) (by omega); simpa using this) (by simpa using hk) (fun h => by have := h2 (by simpa using h); simpa using this)]
theorem putA_at (l : List α) (p : α) : putA key l p = l.take (posA key l (key p)) ++ p :: l.drop (posA key l (key p) + if hitA key l (key p) then 1 else 0) := by
 induction l with
 | nil => simp [putA]
 | cons a r ih =>
  unfold putA
  by_cases h : key a < key p
  · have hh : hitA key (a :: r) (key p) = hitA key r (key p) := by unfold hitA; rw [posA_lt key h]; simp
    rw [if_pos h, posA_lt key h, hh, ih, show ∀ k : Nat, posA key r (key p) + 1 + k = (posA key r (key p) + k) + 1 by intro k; omega]
    simp
  · rw [if_neg h, posA_ge key h]
    by_cases e : key a = key p
    · have hh : hitA key (a :: r) (key p) = true := by unfold hitA; rw [posA_ge key h]; simpa using e
      rw [if_pos e, hh]
      simp
    · have hh : hitA key (a :: r) (key p) = false := by unfold hitA; rw [posA_ge key h]; simpa using e
      rw [if_neg e, hh]
      simp
theorem delA_at (l : List α) (x : Int) : delA key l x = if hitA key l x then l.take (posA key l x) ++ l.drop (posA key l x + 1) else l := by
 induction l with
 | nil => simp [delA]
 | cons a r ih =>
  unfold delA
  by_cases h : key a < x
  · have hh : hitA key (a :: r) x = hitA key r x := by unfold hitA; rw [posA_lt key h]; simp
    rw [if_pos h, posA_lt key h, hh, ih]
    split <;> simp
  · rw [if_neg h, posA_ge key h]
    by_cases e : key a = x
    · have hh : hitA key (a :: r) x = true := by unfold hitA; rw [posA_ge key h]; simpa using e
      rw [if_pos e, hh]
      simp
    · have hh : hitA key (a :: r) x = false := by unfold hitA; rw [posA_ge key h]; simpa using e
      rw [if_neg e, hh]
      simp
theorem putA_mem {l : List α} {p c : α} (h : c ∈ putA key l p) : c ∈ l ∨ c = p := by
 induction l with
 | nil => simpa [putA] using h
 | cons a r ih =>
  unfold putA at h
  split at h
  · rcases List.mem_cons.1 h with rfl | h
    · simp
    · rcases ih h with q | q
      · simp [q]
      · exact .inr q
  · split at h
    · rcases List.mem_cons.1 h with rfl | h
      · exact .inr rfl
      · simp [h]
    · rcases List.mem_cons.1 h with rfl | h
      · exact .inr rfl
      · exact .inl h
theorem delA_mem {l : List α} {x : Int} {c : α} (h : c ∈ delA key l x) : c ∈ l := by
 induction l with
 | nil => exact h
 | cons a r ih =>
  unfold delA at h
  split at h
  · rcases List.mem_cons.1 h with rfl | h
    · simp
    · simp [ih h]
  · split at h
    · simp [h]
    · exact h
theorem putA_asc {l : List α} (p : α) (h : Asc key l) : Asc key (putA key l p) := by
 induction l with
 | nil => simp [putA, Asc]
 | cons a r ih =>
  have hp := List.pairwise_cons.1 h
  unfold putA
  split
  · rename_i q
    refine List.pairwise_cons.2 ⟨fun c hc => ?_, ih hp.2⟩
    rcases putA_mem key hc with m | rfl
    · exact hp.1 c m
    · exact q
  · split
    · rename_i e
      exact List.pairwise_cons.2 ⟨fun c hc => by have := hp.1 c hc; omega, hp.2⟩
    · refine List.pairwise_cons.2 ⟨fun c hc => ?_, h⟩
      rcases List.mem_cons.1 hc with rfl | hc
      · omega
      · have := hp.1 c hc
        omega
theorem delA_asc {l : List α} (x : Int) (h : Asc key l) : Asc key (delA key l x) := by
 induction l with
 | nil => exact h
 | cons a r ih =>
  have hp := List.pairwise_cons.1 h
  unfold delA
  split
  · exact List.pairwise_cons.2 ⟨fun c hc => hp.1 c (delA_mem key hc), ih hp.2⟩
  · split
    · exact hp.2
    · exact h
theorem putA_look {l : List α} (p : α) (x : Int) : Asc key l → look key (putA key l p) x = if key p = x then some p else look key l x := by
 induction l with
 | nil => intro _; simp [putA, look]
 | cons a r ih =>
  intro h
  have hp := List.pairwise_cons.1 h
  unfold putA
  split
  · simp only [look]
    rw [ih hp.2]
    by_cases e : key a = x
    · rw [if_pos e, if_neg (by omega), if_pos e]
    · rw [if_neg e, if_neg e]
  · split
    · simp only [look]
      by_cases e : key p = x
      · rw [if_pos e, if_pos e]
      · rw [if_neg e, if_neg e, if_neg (by omega)]
    · simp only [look]
theorem delA_look {l : List α} (y x : Int) : Asc key l → look key (delA key l y) x = if y = x then none else look key l x := by
 induction l with
 | nil => intro _; simp [delA, look]
 | cons a r ih =>
  intro h
  have hp := List.pairwise_cons.1 h
  unfold delA
  split
  · simp only [look]
    rw [ih hp.2]
    by_cases e : key a = x
    · rw [if_pos e, if_neg (by omega), if_pos e]
    · rw [if_neg e, if_neg e]
  · split
    · rename_i e2
      by_cases e : y = x
      · rw [if_pos e]
        exact look_low key fun c hc => by have := hp.1 c hc; omega
      · rw [if_neg e]
        simp only [look]
        rw [if_neg (by omega)]
    · by_cases e : y = x
      · rw [if_pos e]
        refine look_low key fun c hc => ?_
        rcases List.mem_cons.1 hc with rfl | hc
        · omega
        · have := hp.1 c hc
          omega
      · rw [if_neg e]
theorem putA_len (l : List α) (p : α) : (putA key l p).length ≤ l.length + 1 := by
 induction l with
 | nil => simp [putA]
 | cons a r ih =>
  unfold putA
  split
  · simp only [List.length_cons]; omega
  · split <;> simp
theorem delA_len (l : List α) (x : Int) : (delA key l x).length ≤ l.length := by
 induction l with
 | nil => simp [delA]
 | cons a r ih =>
  unfold delA
  split
  · simp only [List.length_cons]; omega
  · split <;> simp
theorem hitA_look {l : List α} (x : Int) : Asc key l → look key l x = if hitA key l x then l[posA key l x]? else none := by
 induction l with
 | nil => intro _; simp [look]
 | cons a r ih =>
  intro h
  have hp := List.pairwise_cons.1 h
  by_cases q : key a < x
  · have hh : hitA key (a :: r) x = hitA key r x := by unfold hitA; rw [posA_lt key q]; simp
    simp only [look]
    rw [if_neg (by omega), hh, posA_lt key q, ih hp.2]
    simp
  · rw [posA_ge key q]
    by_cases e : key a = x
    · have hh : hitA key (a :: r) x = true := by unfold hitA; rw [posA_ge key q]; simpa using e
      simp [look, e, hh]
    · have hh : hitA key (a :: r) x = false := by unfold hitA; rw [posA_ge key q]; simpa using e
      rw [hh]
      exact look_low key fun c hc => by
       rcases List.mem_cons.1 hc with rfl | hc
       · omega
       · have := hp.1 c hc
         omega
end
end
section
theorem snoc_ind {α : Type} {motive : List α → Prop} (h0 : motive []) (h1 : ∀ l a, motive l → motive (l ++ [a])) (l : List α) : motive l := by
 rw [← List.reverse_reverse l]
 induction l.reverse with
 | nil => exact h0
 | cons a r ih => rw [List.reverse_cons]; exact h1 _ _ ih
section
variable {α : Type} (key : α → Int)
def lastA (l : List α) (x : Int) : Option α := l.foldl (fun o a => if key a = x then some a else o) none
theorem lastA_snoc (l : List α) (a : α) (x : Int) : lastA key (l ++ [a]) x = if key a = x then some a else lastA key l x := by simp [lastA]
theorem lastA_nil (x : Int) : lastA key [] x = none := rfl
theorem lastA_key {l : List α} {x : Int} {a : α} (h : lastA key l x = some a) : a ∈ l ∧ key a = x := by
 induction l using snoc_ind with
 | h0 => cases h
 | h1 l b ih =>
  rw [lastA_snoc] at h
  split at h
  · rename_i q
    cases h
    exact ⟨by simp, q⟩
  · have := ih h
    exact ⟨by simp [this.1], this.2⟩
theorem lastA_asc {l : List α} (h : Asc key l) (x : Int) : lastA key l x = look key l x := by
 cases e : lastA key l x with
 | some a =>
  obtain ⟨h1, h2⟩ := lastA_key key e
  rw [← h2, look_mem key h h1]
 | none =>
  cases e2 : look key l x with
  | none => rfl
  | some a =>
   obtain ⟨h1, h2⟩ := look_key key e2
   exfalso
   have : ∀ m : List α, a ∈ m → lastA key m x ≠ none := fun m => by
    induction m using snoc_ind with
    | h0 => intro q; cases q
    | h1 m b ih =>
     intro q
     rw [lastA_snoc]
     split
     · simp
     · rename_i r
       rcases List.mem_append.1 q with q | q
       · exact ih q
       · rw [List.mem_singleton] at q
         subst q
         exact absurd h2 r
   exact this l h1 e
theorem puts_is (l m : List α) (h : Asc key m) : Asc key (l.foldl (putA key) m) ∧ ∀ x, look key (l.foldl (putA key) m) x = (lastA key l x).or (look key m x) := by
 induction l using snoc_ind with
 | h0 => exact ⟨h, fun x => by simp [lastA_nil]⟩
 | h1 l a ih =>
  rw [List.foldl_append]
  refine ⟨putA_asc key a ih.1, fun x => ?_⟩
  show look key (putA key _ a) x = _
  rw [putA_look key a x ih.1, lastA_snoc, ih.2]
  split <;> simp
end
structure Pa where
 k : List UInt8
 h : k.length = 24
 v : List UInt8
structure Ch where
 k : List UInt8
 h : k.length = 24
 v : List UInt8
 g : Bool
def Pa.n (p : Pa) : Int := (num p.k : Int)
def Ch.n (p : Ch) : Int := (num p.k : Int)
def Ch.pa (c : Ch) : Pa := ⟨c.k, c.h, c.v⟩
def Ch.plain (c : Ch) : Ch := if c.g then ⟨c.k, c.h, [], true⟩ else c
theorem Ch.plain_n (c : Ch) : c.plain.n = c.n := by unfold Ch.plain; split <;> rfl
theorem Ch.plain_plain (c : Ch) : c.plain.plain = c.plain := by
 unfold Ch.plain
 split
 · rfl
 · rfl
def doneA (o : Option Ch) (p : Option Pa) : Option Pa := match o with
 | none => p
 | some c => if c.g then none else some c.pa
def MapIs (l m : List Pa) : Prop := Asc Pa.n m ∧ ∀ x, look Pa.n m x = lastA Pa.n l x
def ApplyIs (l : List Pa) (c : List Ch) (m : List Pa) : Prop := Asc Pa.n m ∧ ∀ x, look Pa.n m x = doneA (lastA Ch.n c x) (lastA Pa.n l x)
def JoinIs (l d : List Ch) : Prop := Asc Ch.n d ∧ ∀ x, look Ch.n d x = (lastA Ch.n l x).map Ch.plain
theorem ApplyIs.unique {l : List Pa} {c : List Ch} {m n : List Pa} (h : ApplyIs l c m) (h' : ApplyIs l c n) : m = n := asc_ext Pa.n h.1 h'.1 fun x => by rw [h.2, h'.2]
theorem map_is (l : List Pa) : MapIs l (l.foldl (putA Pa.n) []) := by
 have := puts_is Pa.n l [] List.Pairwise.nil
 exact ⟨this.1, fun x => by rw [this.2]; simp [look]⟩
def stepA (m : List Pa) (c : Ch) : List Pa := if c.g then delA Pa.n m c.n else putA Pa.n m c.pa
theorem apply_is {l m : List Pa} (h : MapIs l m) (c : List Ch) : ApplyIs l c (c.foldl stepA m) := by
 induction c using snoc_ind with
 | h0 => exact ⟨h.1, fun x => by rw [lastA_nil]; exact h.2 x⟩
 | h1 c a ih =>
  rw [List.foldl_append]
  show ApplyIs l _ (stepA (List.foldl stepA m c) a)
  generalize List.foldl stepA m c = M at ih ⊢
  unfold stepA
  split
  · rename_i hg
    refine ⟨delA_asc Pa.n _ ih.1, fun x => ?_⟩
    rw [delA_look Pa.n _ x ih.1, ih.2, lastA_snoc]
    split
    · simp [doneA, hg]
    · rfl
  · rename_i hg
    refine ⟨putA_asc Pa.n _ ih.1, fun x => ?_⟩
    rw [putA_look Pa.n _ x ih.1, ih.2, lastA_snoc]
    show (if a.n = x then _ else _) = _
    split
    · simp [doneA, hg]
    · rfl
theorem join_is (l : List Ch) : JoinIs l ((l.map Ch.plain).foldl (putA Ch.n) []) := by
 have h := puts_is Ch.n (l.map Ch.plain) [] List.Pairwise.nil
 refine ⟨h.1, fun x => ?_⟩
 rw [h.2]
 simp only [look, Option.or_none]
 induction l using snoc_ind with
 | h0 => rfl
 | h1 l a ih =>
  rw [List.map_append, List.map_singleton, lastA_snoc, lastA_snoc, Ch.plain_n, ih (puts_is Ch.n _ [] List.Pairwise.nil)]
  split <;> rfl
end
section
open Go.RowKit
theorem foldl_split : ∀ (l : List UInt8) (a : Nat), l.foldl (fun a b => 256 * a + b.toNat) a = a * 256 ^ l.length + num l
 | [], a => by simp [num]
 | b :: l, a => by
  have e : num (b :: l) = List.foldl (fun a b => 256 * a + b.toNat) (256 * 0 + b.toNat) l := rfl
  rw [e, List.foldl_cons, foldl_split l (256 * a + b.toNat), foldl_split l (256 * 0 + b.toNat), List.length_cons, Nat.pow_succ, Nat.add_mul, Nat.add_mul]
  rw [show 256 * a * 256 ^ l.length = a * (256 ^ l.length * 256) by rw [Nat.mul_comm 256 a, Nat.mul_assoc, Nat.mul_comm 256]]
  simp [Nat.add_assoc]
theorem num_cons (b : UInt8) (l : List UInt8) : num (b :: l) = b.toNat * 256 ^ l.length + num l := by
 rw [num, List.foldl_cons, foldl_split]
 simp
theorem less_num : ∀ (K L : List UInt8), K.length = L.length → Op.bytesLess K L = decide (num K < num L)
 | [], [], _ => rfl
 | [], _ :: _, h => by cases h
 | _ :: _, [], h => by cases h
 | a :: xs, b :: ys, h => by
  have hl : xs.length = ys.length := by simpa using h
  have ih := less_num xs ys hl
  have hx := num_lt xs
  have hy := num_lt ys
  rw [Op.bytesLess, num_cons, num_cons, hl, ih]
  rw [hl] at hx
  generalize 256 ^ ys.length = M at *
  have hab : a = b ↔ a.toNat = b.toNat := UInt8.toNat_inj.symm
  have hlt : a < b ↔ a.toNat < b.toNat := UInt8.lt_iff_toNat_lt
  rcases Nat.lt_trichotomy a.toNat b.toNat with h1 | h1 | h1
  · have e : a.toNat * M + num xs < b.toNat * M + num ys := by
      have := Nat.mul_le_mul_right M (show a.toNat + 1 ≤ b.toNat from h1)
      rw [Nat.add_mul, Nat.one_mul] at this
      omega
    have n1 : a < b := hlt.2 h1
    simp [n1, e]
  · have e : a = b := hab.2 h1
    subst e
    simp
  · have e : ¬ a.toNat * M + num xs < b.toNat * M + num ys := by
      have := Nat.mul_le_mul_right M (show b.toNat + 1 ≤ a.toNat from h1)
      rw [Nat.add_mul, Nat.one_mul] at this
      omega
    have n1 : ¬ a < b := fun q => by have := hlt.1 q; omega
    have n2 : ¬ a = b := fun q => by have := hab.1 q; omega
    simp [n1, n2, e]
theorem num_inj : ∀ (K L : List UInt8), K.length = L.length → num K = num L → K = L
 | [], [], _, _ => rfl
 | [], _ :: _, h, _ => by cases h
 | _ :: _, [], h, _ => by cases h
 | a :: xs, b :: ys, h, he => by
  have hl : xs.length = ys.length := by simpa using h
  have hx := num_lt xs
  have hy := num_lt ys
  rw [num_cons, num_cons, hl] at he
  rw [hl] at hx
  have h0 : a.toNat = b.toNat := by
   generalize 256 ^ ys.length = M at *
   rcases Nat.lt_trichotomy a.toNat b.toNat with h1 | h1 | h1
   · have := Nat.mul_le_mul_right M (show a.toNat + 1 ≤ b.toNat from h1)
     rw [Nat.add_mul, Nat.one_mul] at this
     omega
   · exact h1
   · have := Nat.mul_le_mul_right M (show b.toNat + 1 ≤ a.toNat from h1)
     rw [Nat.add_mul, Nat.one_mul] at this
     omega
  rw [h0] at he
  rw [UInt8.toNat_inj.1 h0, num_inj xs ys hl (by omega)]
structure Sp where
 F : List UInt8
 T : List UInt8
 e : Bool
 hF : F.length = 24
 hT : T.length = 24
theorem Sp.ext' {s u : Sp} (h1 : s.F = u.F) (h2 : s.T = u.T) (h3 : s.e = u.e) : s = u := by
 cases s; cases u; simp at h1 h2 h3; subst h1 h2 h3; rfl
def Sp.inb (s : Sp) (x : Int) : Bool := decide ((num s.F : Int) ≤ x) && (s.e || decide (x < (num s.T : Int)))
def mem (l : List Sp) (x : Int) : Bool := l.any fun s => s.inb x
theorem mem_nil (x : Int) : mem [] x = false := rfl
theorem mem_cons (s : Sp) (l : List Sp) (x : Int) : mem (s :: l) x = (s.inb x || mem l x) := rfl
theorem mem_append (l m : List Sp) (x : Int) : mem (l ++ m) x = (mem l x || mem m x) := by simp [mem]
def SetFrom : Int → List Sp → Prop
 | _, [] => True
 | lo, s :: r => lo < (num s.F : Int) ∧ (s.e = true ∧ r = [] ∧ s.T = zs 24 ∨ s.e = false ∧ (num s.F : Int) < (num s.T : Int) ∧ SetFrom (num s.T) r)
theorem SetFrom.lt : ∀ {lo : Int} {l : List Sp} {x : Int}, SetFrom lo l → mem l x = true → lo < x
 | _, [], _, _, h => by cases h
 | lo, s :: r, x, ⟨h1, h2⟩, h => by
  rw [mem_cons, Bool.or_eq_true] at h
  rcases h with h | h
  · simp only [Sp.inb, Bool.and_eq_true, decide_eq_true_eq] at h
    omega
  · rcases h2 with ⟨_, rfl, _⟩ | ⟨_, h3, h4⟩
    · cases h
    · have := SetFrom.lt h4 h
      omega
theorem SetFrom.first {lo : Int} {s : Sp} {r : List Sp} (h : SetFrom lo (s :: r)) : s.inb (num s.F) = true := by
 rcases h.2 with ⟨h1, _⟩ | ⟨h1, h2, _⟩
 · simp [Sp.inb, h1]
 · simp [Sp.inb, h1, h2]
theorem SetFrom.unique : ∀ {l m : List Sp} {lo lo' : Int}, SetFrom lo l → SetFrom lo' m → (∀ K : List UInt8, K.length = 24 → mem l (num K) = mem m (num K)) → l = m
 | [], [], _, _, _, _, _ => rfl
 | [], u :: q, _, _, _, hm, h => by
  have := h u.F u.hF
  rw [mem_nil, mem_cons, hm.first] at this
  cases this
 | s :: r, [], _, _, hl, _, h => by
  have := h s.F s.hF
  rw [mem_nil, mem_cons, hl.first] at this
  cases this
 | s :: r, u :: q, lo, lo', hl, hm, h => by
  have lowS : ∀ x : Int, mem (s :: r) x = true → (num s.F : Int) ≤ x := fun x hx => by
   rw [mem_cons, Bool.or_eq_true] at hx
   rcases hx with hx | hx
   · simp only [Sp.inb, Bool.and_eq_true, decide_eq_true_eq] at hx; omega
   · rcases hl.2 with ⟨_, rfl, _⟩ | ⟨_, h3, h4⟩
     · cases hx
     · have := h4.lt hx; omega
  have lowU : ∀ x : Int, mem (u :: q) x = true → (num u.F : Int) ≤ x := fun x hx => by
   rw [mem_cons, Bool.or_eq_true] at hx
   rcases hx with hx | hx
   · simp only [Sp.inb, Bool.and_eq_true, decide_eq_true_eq] at hx; omega
   · rcases hm.2 with ⟨_, rfl, _⟩ | ⟨_, h3, h4⟩
     · cases hx
     · have := h4.lt hx; omega
  have hs := hl.first
  have hu := hm.first
  have e1 : s.F = u.F := by
   apply num_inj _ _ (by rw [s.hF, u.hF])
   have a1 := lowU (num s.F) (by rw [← h s.F s.hF, mem_cons, hs]; rfl)
   have a2 := lowS (num u.F) (by rw [h u.F u.hF, mem_cons, hu]; rfl)
   omega
  have endS : s.e = false → mem (s :: r) (num s.T) = false := fun he => by
   rw [mem_cons, Bool.or_eq_false_iff]
   refine ⟨by simp [Sp.inb, he], ?_⟩
   rcases hl.2 with ⟨h1, _⟩ | ⟨_, _, h4⟩
   · rw [he] at h1; cases h1
   · cases hx : mem r (num s.T) with
     | false => rfl
     | true => have := h4.lt hx; omega
  have endU : u.e = false → mem (u :: q) (num u.T) = false := fun he => by
   rw [mem_cons, Bool.or_eq_false_iff]
   refine ⟨by simp [Sp.inb, he], ?_⟩
   rcases hm.2 with ⟨h1, _⟩ | ⟨_, _, h4⟩
   · rw [he] at h1; cases h1
   · cases hx : mem q (num u.T) with
     | false => rfl
     | true => have := h4.lt hx; omega
  rcases hl.2 with ⟨se, rfl, sT⟩ | ⟨se, sl, hr⟩
  · rcases hm.2 with ⟨ue, rfl, uT⟩ | ⟨ue, ul, hq⟩
    · rw [Sp.ext' e1 (by rw [sT, uT]) (by rw [se, ue])]
    · have h1 := endU ue
      rw [← h u.T u.hT, mem_cons, Bool.or_eq_false_iff] at h1
      have h2 := h1.1
      simp [Sp.inb, se, e1] at h2
      omega
  · rcases hm.2 with ⟨ue, rfl, uT⟩ | ⟨ue, ul, hq⟩
    · have h1 := endS se
      rw [h s.T s.hT, mem_cons, Bool.or_eq_false_iff] at h1
      have h2 := h1.1
      simp [Sp.inb, ue, ← e1] at h2
      omega
    · have e2 : s.T = u.T := by
        apply num_inj _ _ (by rw [s.hT, u.hT])
        have h1 := endS se
        have h2 := endU ue
        rw [h s.T s.hT, mem_cons, Bool.or_eq_false_iff] at h1
        rw [← h u.T u.hT, mem_cons, Bool.or_eq_false_iff] at h2
        have h3 := h1.1
        have h4 := h2.1
        simp [Sp.inb, ue, ← e1] at h3
        simp [Sp.inb, se, e1] at h4
        rw [e1] at sl h3
        omega
      have e3 : s = u := Sp.ext' e1 e2 (by rw [se, ue])
      subst e3
      have e4 : r = q := SetFrom.unique hr hq fun K hK => by
       have h1 := h K hK
       rw [mem_cons, mem_cons] at h1
       by_cases hx : (num s.T : Int) < num K
       · have : s.inb (num K) = false := by simp [Sp.inb, se]; omega
         rw [this] at h1
         simpa using h1
       · have a1 : mem r (num K) = false := by
           cases hz : mem r (num K) with
           | false => rfl
           | true => exact absurd (hr.lt hz) hx
         have a2 : mem q (num K) = false := by
          cases hz : mem q (num K) with
          | false => rfl
          | true => exact absurd (hq.lt hz) hx
         rw [a1, a2]
      rw [e4]
def Is (l : List Sp) (g : Int → Bool) : Prop := SetFrom (-1) l ∧ ∀ K : List UInt8, K.length = 24 → mem l (num K) = g (num K)
theorem Is.unique {l m : List Sp} {g h : Int → Bool} (hl : Is l g) (hm : Is m h) (he : ∀ K : List UInt8, K.length = 24 → g (num K) = h (num K)) : l = m :=
 hl.1.unique hm.1 fun K hK => by rw [hl.2 K hK, hm.2 K hK, he K hK]
end
section
theorem doneA_plain (o : Option Ch) (p : Option Pa) : doneA (o.map Ch.plain) p = doneA o p := by
 cases o with
 | none => rfl
 | some c =>
  simp only [Option.map_some, doneA, Ch.plain]
  cases h : c.g <;> simp [h]
end
section
section
variable {α β : Type} {key : α → Int} {key' : β → Int}
end
end
section
structure Kz where
 k : List UInt8
 h : k.length = 24
def Kz.n (x : Kz) : Int := (num x.k : Int)
theorem Kz.same {p q : Kz} (h : p.n = q.n) : p = q := by
 obtain ⟨k, hk⟩ := p
 obtain ⟨k', hk'⟩ := q
 have : k = k' := num_inj k k' (by rw [hk, hk']) (by have e : (num k : Int) = (num k' : Int) := h; omega)
 subst this
 rfl
end
end Go.Proofs.YtdmindhjmjnagaaGreatDoor
