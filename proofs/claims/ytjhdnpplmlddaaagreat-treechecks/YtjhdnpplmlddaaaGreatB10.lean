import Derived.Test.YtjhdnpplmlddaaaGreatB09
import Derived.Test.YtjhdnpplmlddaaaGreatB01
import Derived.Laws.ResultCell
import Derived.Deep.WholeRow
import Derived.BigQuiet
import Derived.Great.BuildSlice
import Derived.Great.Walk
/- Elements of k cells each: one in a block of its own, loaded, stored, handed back; slice literals of them. -/
namespace Go.Proofs.YtjhdnpplmlddaaaGreat
set_option linter.unusedVariables false
open Go.RowKit

section
variable {α : Type} {k : Nat} {E : Enc α k} {ty : TypeId}
/-- An element in a block of its own. -/
structure InB (E : Enc α k) (ty : TypeId) (w : World) (b : Nat) (x : α) : Prop where
  blk : w.heap[b]? = some (.cells (E.c x).toArray ty (0, 0))
theorem InB.lt {w : World} {b : Nat} {x : α} (h : InB E ty w b x) : b < w.heap.size := lt_of_block h.blk
theorem InB.same {w w' : World} {b : Nat} {x : α} (h : InB E ty w b x) (q : w'.heap[b]? = w.heap[b]?) : InB E ty w' b x := ⟨q.trans h.blk⟩
theorem InB.below {B : Nat} {w w' : World} {b : Nat} {x : α} (h : InB E ty w b x) (hb : Below B w w') (hB : b < B) : InB E ty w' b x := h.same (hb.block b hB)
theorem InB.touch {w w' : World} {b p : Nat} {r : Option Nat} {x : α} (h : InB E ty w b x) (ht : Touch p r w w') (hp : b ≠ p) (hr : r ≠ some b) : InB E ty w' b x := h.same (ht.block b h.lt hp hr)
theorem InB.alloc {w : World} {b : Nat} {x : α} (h : InB E ty w b x) (o : Obj) : InB E ty (w.alloc o) b x := h.same (Below.heap_alloc _ _ _ h.lt)
theorem InB.new (E : Enc α k) (ty : TypeId) (w : World) (x : α) (b : Nat) (hb : b = w.heap.size) : InB E ty (w.alloc (.cells (E.c x).toArray ty)) b x := by
  subst hb
  exact ⟨heap_alloc_new _ _⟩
theorem InB.range {w : World} {b : Nat} {x : α} (h : InB E ty w b x) : w.rangeAt b 0 (E.c x) := fun j v hv => by
  rw [Nat.zero_add, cell_of_row w b _ _ _ _ h.blk]
  simpa using hv
/-- What a type must be for them. -/
structure ElTy (P : Program) (E : Enc α k) (ty : TypeId) : Prop where
  row : ∃ d, P.underlying ty = some d ∧ d.isRow = true ∧ (match d with | .struct _ => true | .array _ _ => true | _ => false) = true
  info : (P.info? ty).map (·.size) = some k
section
variable {P : Program} {ops : Array Oper} {rest : List Oper} {o : Oper} {a : Act} {w : World} {Q : Exit → Act → World → Prop}
theorem load_el (R : ElTy P E ty) (x : Operand) (ho : o.op = .load ty x) (b i : Nat) (hx : a.eval x = .pointer (some ⟨b, i, none⟩)) (hgd : Region.wanted o (yielded ops a.tmps) = true) (e : α) (hK : w.rangeAt b i (E.c e))
    (h : wpList P ops Q rest (a.put o.dst (.agg (E.c e).toArray)) w) : wpList P ops Q (o :: rest) a w := by
  obtain ⟨d, hu, hd, _⟩ := R.row
  exact BigFrame.wpList_want hgd fun _ hK' => wp_load_mid _ x ho b i hx _ _ hK hu hd (by rw [E.len]; exact R.info) (hK' _ _ h)
theorem store_el (R : ElTy P E ty) (hgd : o.guard = none) (x y : Operand) (ho : o.op = .store ty x y) (b : Nat) (hx : a.eval x = .pointer (some ⟨b, 0, none⟩)) (e : α) (hy : a.eval y = .agg (E.c e).toArray) (e0 : α) (hK : InB E ty w b e0)
    (h : ∀ w', InB E ty w' b e → Touch b none w w' → w'.heap.size = w.heap.size → wpList P ops Q rest (a.put o.dst undef) w') : wpList P ops Q (o :: rest) a w :=
  wpList_store_row hgd _ x y ho b _ hx hy _ _ hK.blk (by rw [E.size]; exact R.info) (by rw [E.size, E.size]) (E.all e) (h _ ⟨setRow_heap w b _ _ _ _ hK.blk⟩ ⟨rfl, rfl, rfl, by simp, fun j _ hj _ => setRow_other w b j _ hj⟩ (by simp))
end
theorem ret_el {P : Program} (R : ElTy P E ty) {fn : Func} {A : Ending → World → Prop} {a : Act} {w : World} {p : Tmp} (hr : fn.results = #[.cell p ty]) (b : Nat) (e : α) (hp : a.tmps.getD p undef = .pointer (some ⟨b, 0, none⟩)) (hK : InB E ty w b e)
    (hd : a.defers = []) (hA : A (.returned (.agg (E.c e).toArray)) w) : bodyPost P fn A .ret a w := by
  obtain ⟨d, hu, _, hdd⟩ := R.row
  cases d with
  | struct fs => exact bodyPost_ret (results_cell_row hr _ w b _ _ _ _ hp hK.blk hu rfl (by rw [E.size]; exact R.info)) hd hA
  | array n t => exact bodyPost_ret (results_cell_row hr _ w b _ _ _ _ hp hK.blk hu rfl (by rw [E.size]; exact R.info)) hd hA
  | _ => cases hdd

/-! Slice literals. -/
theorem fill_els (E : Enc α k) : ∀ (es : List α) (j : Nat) (C : Array Value), (j + es.length) * k = C.size →
    Instr.fill (fun i => some (i * k, k)) C ((es.zipIdx j).map fun x => (x.2, Value.agg (E.c x.1).toArray)) = some (C.toList.take (j * k) ++ E.flat es).toArray
  | [], j, C, h => by
    simp only [List.length_nil, Nat.add_zero] at h
    rw [h]
    simp only [List.zipIdx_nil, List.map_nil, Instr.fill, Enc.flat, List.flatMap_nil, List.append_nil]
    rw [List.take_of_length_le (by simp)]
  | e :: es, j, C, h => by
    have hl : j * k + k ≤ C.size := by
      rw [← h, List.length_cons, ← Nat.succ_mul]
      exact Nat.mul_le_mul_right k (by omega)
    rw [List.zipIdx_cons, List.map_cons, fill_put (off := j * k) (size := k) rfl (by simp [Value.cells, E.len]) hl]
    rw [fill_els E es (j + 1) _ (by simp only [List.size_toArray, List.length_append, List.length_take, List.length_drop, Array.length_toList, Value.cells, List.toList_toArray, E.len]; rw [show j + 1 + es.length = j + (e :: es).length by simp; omega, h]; omega)]
    congr 2
    simp only [Value.cells, List.toList_toArray, E.flat_cons]
    rw [List.take_append_of_le_length (by simp [E.len]; rw [Nat.succ_mul]; omega), List.take_of_length_le (by simp [E.len]; rw [Nat.succ_mul]; omega), List.append_assoc]
theorem wp_build_els {P : Program} {ts te : TypeId} {bytes : Nat} {o : Oper} {a : Act} {w : World} {K : Act → World → Prop} {Q : Exit → Act → World → Prop} (R : RowTy P E ts te bytes) (n : Nat) (parts : Array (Nat × Operand)) (ho : o.op = .buildSlice ts n parts) (es : List α) (hn : es.length = n) (hpos : 0 < n) (hsmall : n * k ≤ 16777216)
    (hv : (parts.map fun x => (x.1, a.eval x.2)).toList = (es.zipIdx 0).map fun x => (x.2, Value.agg (E.c x.1).toArray))
    (h : ∀ w', Own E te w' w.heap.size (.slice (some ⟨w.heap.size, 0, none⟩) n n) es → Below w.heap.size w w' → w'.heap.size = w.heap.size + 1 → w'.heap[w.heap.size]? = some (.cells (E.flat es).toArray te (0, 0)) → K (a.put o.dst (.slice (some ⟨w.heap.size, 0, none⟩) n n)) w') : o.wp P a w K Q := by
  obtain ⟨i, z, hi, hz, hsz, hby, hzc⟩ := R.parts
  subst hn
  have hmul := Nat.mul_pos hpos R.pos
  refine wp_buildSlice ts te es.length parts ho (E.flat es).toArray i z R.under hi hz (by rw [hsz]; omega) (by rw [hsz]; omega) ?_ ?_
  · rw [show (fun x : Nat × Operand => match x with | (i, x) => (i, a.eval x)) = (fun x => (x.1, a.eval x.2)) from rfl, hv, hsz]
    have := fill_els E es 0 ((Array.range (es.length * k)).map (z.cells[· % z.cells.size]!)) (by simp)
    simpa using this
  · refine h _ ⟨E.flat_length es, .inr ⟨w.heap.size, es.length, (E.flat es).toArray, rfl, Nat.le_refl _, heap_alloc_new _ _, Nat.le_refl _, ?_, by simp [E.flat_length], ?_⟩⟩ ((Below.refl _ w).alloc (Nat.le_refl _) _) (by simp) (heap_alloc_new _ _)
    · have : es.length ≤ es.length * k := Nat.le_mul_of_pos_right _ R.pos
      unfold maxLen; omega
    · simp [← E.flat_length es]
theorem build_els {P : Program} {ts te : TypeId} {bytes : Nat} {ops : Array Oper} {rest : List Oper} {o : Oper} {a : Act} {w : World} {Q : Exit → Act → World → Prop} (R : RowTy P E ts te bytes) (hg : o.guard = none) (n : Nat) (parts : Array (Nat × Operand)) (ho : o.op = .buildSlice ts n parts) (es : List α) (hn : es.length = n) (hpos : 0 < n) (hsmall : n * k ≤ 16777216)
    (hv : (parts.map fun x => (x.1, a.eval x.2)).toList = (es.zipIdx 0).map fun x => (x.2, Value.agg (E.c x.1).toArray))
    (h : ∀ w', Own E te w' w.heap.size (.slice (some ⟨w.heap.size, 0, none⟩) n n) es → Below w.heap.size w w' → w'.heap.size = w.heap.size + 1 → w'.heap[w.heap.size]? = some (.cells (E.flat es).toArray te (0, 0)) → wpList P ops Q rest (a.put o.dst (.slice (some ⟨w.heap.size, 0, none⟩) n n)) w') : wpList P ops Q (o :: rest) a w :=
  wpList_plain hg fun _ hK => wp_build_els R n parts ho es hn hpos hsmall hv fun w' h1 h2 h3 h4 => hK _ _ (h w' h1 h2 h3 h4)
theorem wp_build_el1 {P : Program} {ts te : TypeId} {bytes : Nat} {o : Oper} {a : Act} {w : World} {K : Act → World → Prop} {Q : Exit → Act → World → Prop} (R : RowTy P E ts te bytes) (x : Operand) (ho : o.op = .buildSlice ts 1 #[(0, x)]) (e : α) (hx : a.eval x = .agg (E.c e).toArray) (hsmall : k ≤ 1000)
    (h : ∀ w', Own E te w' w.heap.size (.slice (some ⟨w.heap.size, 0, none⟩) 1 1) [e] → Below w.heap.size w w' → w'.heap.size = w.heap.size + 1 → K (a.put o.dst (.slice (some ⟨w.heap.size, 0, none⟩) 1 1)) w') : o.wp P a w K Q :=
  wp_build_els R 1 _ ho [e] rfl (by decide) (by omega) (by simp [hx]) fun w' h1 h2 h3 _ => h w' h1 h2 h3
theorem build_el1 {P : Program} {ts te : TypeId} {bytes : Nat} {ops : Array Oper} {rest : List Oper} {o : Oper} {a : Act} {w : World} {Q : Exit → Act → World → Prop} (R : RowTy P E ts te bytes) (hg : o.guard = none) (x : Operand) (ho : o.op = .buildSlice ts 1 #[(0, x)]) (e : α) (hx : a.eval x = .agg (E.c e).toArray) (hsmall : k ≤ 1000)
    (h : ∀ w', Own E te w' w.heap.size (.slice (some ⟨w.heap.size, 0, none⟩) 1 1) [e] → Below w.heap.size w w' → w'.heap.size = w.heap.size + 1 → w'.heap[w.heap.size]? = some (.cells (E.c e).toArray te (0, 0)) → wpList P ops Q rest (a.put o.dst (.slice (some ⟨w.heap.size, 0, none⟩) 1 1)) w') : wpList P ops Q (o :: rest) a w :=
  build_els R hg 1 _ ho [e] rfl (by decide) (by omega) (by simp [hx]) fun w' h1 h2 h3 h4 => h w' h1 h2 h3 (by rw [h4, E.flat_one])
theorem build_el2 {P : Program} {ts te : TypeId} {bytes : Nat} {ops : Array Oper} {rest : List Oper} {o : Oper} {a : Act} {w : World} {Q : Exit → Act → World → Prop} (R : RowTy P E ts te bytes) (hg : o.guard = none) (x y : Operand) (ho : o.op = .buildSlice ts 2 #[(0, x), (1, y)]) (e f : α) (hx : a.eval x = .agg (E.c e).toArray) (hy : a.eval y = .agg (E.c f).toArray) (hsmall : k ≤ 1000)
    (h : ∀ w', Own E te w' w.heap.size (.slice (some ⟨w.heap.size, 0, none⟩) 2 2) [e, f] → Below w.heap.size w w' → w'.heap.size = w.heap.size + 1 → wpList P ops Q rest (a.put o.dst (.slice (some ⟨w.heap.size, 0, none⟩) 2 2)) w') : wpList P ops Q (o :: rest) a w :=
  build_els R hg 2 _ ho [e, f] rfl (by decide) (by omega) (by simp [hx, hy]) fun w' h1 h2 h3 _ => h w' h1 h2 h3
end
end Go.Proofs.YtjhdnpplmlddaaaGreat
/- The bag of TreeChecks: entries in a slice; its Get, and the document's find. -/
namespace Go.Proofs.YtjhdnpplmlddaaaGreat
set_option linter.unusedVariables false
open Go.RowKit

/-- An entry: a block's number, its node, and where its slices lie. -/
structure Ent where
  n : Int
  x : Nod
  pa : Option Addr
  pc : Nat
  qa : Option Addr
  qc : Nat
abbrev Ent.pv (e : Ent) : Value := .slice e.pa e.x.ps.length e.pc
abbrev Ent.qv (e : Ent) : Value := .slice e.qa e.x.ks.length e.qc
def encT : Enc Ent 4 := ⟨fun e => [.int .i64 e.n, .int .i64 e.x.lv, e.pv, e.qv], fun _ => rfl, fun e v hv => by
  simp only [List.mem_cons, List.not_mem_nil, or_false] at hv
  rcases hv with rfl | rfl | rfl | rfl <;> rfl⟩
/-- An entry's node alone. -/
def encV : Enc Ent 3 := ⟨fun e => [.int .i64 e.x.lv, e.pv, e.qv], fun _ => rfl, fun e v hv => by
  simp only [List.mem_cons, List.not_mem_nil, or_false] at hv
  rcases hv with rfl | rfl | rfl <;> rfl⟩
theorem elV : ElTy Tryz.prog encV 60 := ⟨⟨_, Tryz.underlying60, rfl, rfl⟩, Tryz.node_info⟩
structure BagIn (w : World) (lim : Nat) (v : Value) (l : List Ent) : Prop where
  le : lim ≤ w.heap.size
  sl : SlB encT w lim v l
  pt : ∀ e ∈ l, Parts w e.x e.pv e.qv ∧ Lim (· < lim) e.pv ∧ Lim (· < lim) e.qv
theorem BagIn.below {w w' : World} {lim : Nat} {v : Value} {l : List Ent} (h : BagIn w lim v l) (b : Below w.heap.size w w') : BagIn w' lim v l :=
  ⟨Nat.le_trans h.le b.size, h.sl.below (b.mono h.le), fun e he => ⟨(h.pt e he).1.below b, (h.pt e he).2⟩⟩
/-- What the entries tell of a number. -/
def bagG : List Ent → Int → Nod × Int
  | [], _ => (nilN, 1)
  | e :: t, n => if e.n = n then (e.x, 0) else bagG t n
theorem bagG_code : ∀ (l : List Ent) (n : Int), (bagG l n).2 = 0 ∨ (bagG l n).2 = 1
  | [], _ => .inr rfl
  | e :: t, n => by
    rw [bagG]
    split
    · exact .inl rfl
    · exact bagG_code t n
theorem bagG_drop {l : List Ent} {k : Nat} (h : k < l.length) (n : Int) : bagG (l.drop k) n = if (l[k]).n = n then ((l[k]).x, 0) else bagG (l.drop (k + 1)) n := by
  rw [List.drop_eq_getElem_cons h, bagG]
theorem bag_at {w : World} {g o : Nat} {e : Ent} (h : w.rangeAt g o (encT.c e)) : w.cell? ⟨g, o, none⟩ = some (.int .i64 e.n) ∧ w.rangeAt g (o + 1) (encV.c e) :=
  ⟨by simpa using h 0 _ rfl, fun j v hv => by
    have := h (j + 1) v (by simpa [encT, encV] using hv)
    rwa [show o + (j + 1) = o + 1 + j by omega] at this⟩
set_option maxHeartbeats 8000000 in
set_option maxRecDepth 100000 in
theorem bagGet_calls (w : World) (lim : Nat) (v : Value) (l : List Ent) (n : Int) (h : BagIn w lim v l) : Calls Tryz.prog 134 #[.agg #[v], .int .i64 n] w (ReadTo lim w (bagG l n)) := by
  have hl' := h.sl
  obtain ⟨ad, cap, rfl, hcap, hmax, _, _⟩ := hl'
  have HI : Hid (∀ i (hi : i < l.length), ∃ g off, ad = some ⟨g, off, none⟩ ∧ g < lim ∧ w.rangeAt g (off + i * 4) (encT.c l[i])) := fun i hi => SlB.at h.sl i hi
  have HPT : Hid (lim ≤ w.heap.size ∧ ∀ e ∈ l, Parts w e.x e.pv e.qv ∧ Lim (· < lim) e.pv ∧ Lim (· < lim) e.qv) := ⟨h.le, h.pt⟩
  obtain ⟨N, hN⟩ : ∃ N : Nat, N = l.length := ⟨_, rfl⟩
  rw [← hN] at hcap hmax ⊢
  have HN : Hid (N = l.length) := hN
  have hmN : (N : Int) ≤ 9223372036854775807 := by unfold maxLen at hmax; omega
  have b0 : Below w.heap.size w (w.alloc (.cells #[.slice ad N cap] 57)) := (Below.refl _ w).alloc (Nat.le_refl _) _
  have HST : Hid (Below w.heap.size w ((w.alloc (.cells #[.slice ad N cap] 57)).alloc (.cells #[.int .i64 0, .slice none 0 0, .slice none 0 0] 60))
      ∧ HasN ((w.alloc (.cells #[.slice ad N cap] 57)).alloc (.cells #[.int .i64 0, .slice none 0 0, .slice none 0 0] 60)) (w.heap.size + 1) nilN (.slice none 0 0) (.slice none 0 0)
      ∧ ((w.alloc (.cells #[.slice ad N cap] 57)).alloc (.cells #[.int .i64 0, .slice none 0 0, .slice none 0 0] 60)).cell? ⟨w.heap.size, 0, none⟩ = some (.slice ad N cap)) :=
    ⟨b0.alloc (by simp) _, HasN.new _ nilN _ _ _ (by simp) rfl rfl, by
      rw [World.cell?_of_block (Below.heap_alloc _ _ _ (by simp)), cell_of_row _ _ _ _ _ _ (heap_alloc_new w (.cells #[.slice ad N cap] 57))]; rfl⟩
  obtain ⟨RES, hRES⟩ : ∃ R, R = bagG l n := ⟨_, rfl⟩
  have HR0 : Hid (bagG (l.drop 0) n = RES) := hRES.symm
  rw [← hRES]
  clear hN h hRES b0 hcap hmax
  go_enter Tryz.func134, Tryz.ntmps134
  go_wp2_with fail
  go_loopg [6] N (fun g i wr => ∃ k : Nat, k + g = N ∧ i = .int .i64 (k : Int) ∧ Hid (Below w.heap.size w wr ∧ HasN wr (w.heap.size + 1) nilN (.slice none 0 0) (.slice none 0 0) ∧ wr.cell? ⟨w.heap.size, 0, none⟩ = some (.slice ad N cap)) ∧ Hid (bagG (l.drop k) n = RES))
  case atStart => exact ⟨0, by omega, rfl, HST.out, HR0.out⟩
  case round =>
    obtain ⟨k, hkg, rfl, HE, HD⟩ := hrel
    clear HST HR0
    have c0 := HE.out.2.2
    cases gk with
    | zero =>
      have hkN : k = N := by omega
      subst hkN
      have HRR : Hid (RES = (nilN, 1)) := (show _ = _ by rw [← HD.out, HN.out, List.drop_length]; rfl)
      clear HD HI HPT
      go_wp2_with (first
        | (refine build_any rfl 60 _ rfl [] rfl _ Tryz.node0 ?_)
        | (refine store_node rfl _ _ rfl (w.heap.size + 1) rfl nilN (.slice none 0 0) (.slice none 0 0) rfl rfl rfl nilN (.slice none 0 0) (.slice none 0 0) HE.out.2.1 ?_; intro y hy ty sy))
      refine ret_node_ok rfl _ _ _ _ _ rfl rfl hy rfl ?_
      rw [HRR.out]
      exact ⟨_, _, rfl, Parts.nil _, below_touched HE.out.1 ty (by omega) (Nat.le_refl _), Lim.nil _ _ _, Lim.nil _ _ _⟩
    | succ g =>
      have hlt : k < N := by omega
      have hltI : (k : Int) < (N : Int) := by omega
      have hk0 : (0 : Int) ≤ (k : Int) := by omega
      have hkl : k < l.length := by rw [← HN.out]; exact hlt
      obtain ⟨g0, off, rfl, hg0, hat⟩ := HI.out k hkl
      have hgl : g0 < w.heap.size := Nat.lt_of_lt_of_le hg0 HPT.out.1
      obtain ⟨c1, hrv⟩ := bag_at (range_same' hat (HE.out.1.block g0 hgl))
      have HV : Hid (wr.rangeAt g0 (off + k * 4 + 1) (encV.c l[k])) := hrv
      have HX : Hid (Parts w (l[k]).x (l[k]).pv (l[k]).qv ∧ Lim (· < lim) (l[k]).pv ∧ Lim (· < lim) (l[k]).qv) := HPT.out.2 _ (List.getElem_mem _)
      have HD' : Hid (RES = if (l[k]).n = n then ((l[k]).x, 0) else bagG (l.drop (k + 1)) n) := (show _ = _ by rw [← HD.out, bagG_drop hkl])
      generalize l[k] = e at *
      clear hat hrv HD hgl hg0
      by_cases he : e.n = n
      · have HRR : Hid (RES = (e.x, 0)) := (show _ = _ by rw [HD'.out, if_pos he])
        have hb : (e.n == n) = true := by simpa using he
        clear he HD'
        go_wp2_with (first
          | (refine load_el elV _ rfl g0 (off + k * 4 + 1) rfl rfl e HV.out ?_)
          | (refine store_node rfl _ _ rfl (w.heap.size + 1) rfl e.x e.pv e.qv rfl rfl rfl nilN (.slice none 0 0) (.slice none 0 0) HE.out.2.1 ?_; intro y hy ty sy))
        refine ret_node_ok rfl _ _ _ _ _ rfl rfl hy rfl ?_
        rw [HRR.out]
        have B2 : Below w.heap.size w y := below_touched HE.out.1 ty (by omega) (Nat.le_refl _)
        exact ⟨_, _, rfl, HX.out.1.below B2, B2, HX.out.2.1.mono (fun k hk => .inl hk), HX.out.2.2.mono (fun k hk => .inl hk)⟩
      · have HRR : Hid (bagG (l.drop (k + 1)) n = RES) := (show _ = _ by rw [HD'.out, if_neg he])
        have hb : (e.n == n) = false := by simpa using he
        clear he HD' HX HV HPT
        have hws : wrap64 ((k : Int) + 1) = ((k + 1 : Nat) : Int) := by unfold wrap64; omega
        go_wp2_with fail
        go_roundg g
        case measure => omega
        exact ⟨k + 1, by omega, by simp, HE.out, HRR.out⟩
end Go.Proofs.YtjhdnpplmlddaaaGreat
