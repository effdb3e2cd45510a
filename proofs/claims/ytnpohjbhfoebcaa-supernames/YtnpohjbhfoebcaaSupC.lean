/- The fields of a block: how they lie in memory, what the operations on all of them come to; fieldsOf, held, says. -/
import Derived.Test.YtnpohjbhfoebcaaSupB
import Derived.Stop.BytesEq
namespace Go.Proofs.Ytnpohjbhfoebcaa
set_option linter.unusedVariables false
open Go.RowKit

/-- All that a block has beside its noughts. -/
structure Fld where
  g : Int
  lt : ByteArray
  r : Int
  x : Int
  c : Int
  n : Int
  l : List Snp
  e : Int
deriving DecidableEq
def nilS : Snp := ⟨ByteArray.empty, 0, 0⟩
def snc (s : Snp) : List Value := [.string s.n, .int .i64 s.r, .int .i64 s.c]
def sncs : List Snp → List Value
  | [] => []
  | s :: l => .string s.n :: .int .i64 s.r :: .int .i64 s.c :: sncs l
theorem sncs_append (a b : List Snp) : sncs (a ++ b) = sncs a ++ sncs b := by
  induction a with
  | nil => rfl
  | cons s a ih => simp [sncs, ih]
theorem sncs_length (l : List Snp) : (sncs l).length = l.length * 3 := by
  induction l with
  | nil => rfl
  | cons s l ih => simp [sncs, ih]; omega
theorem sncs_one (l : List Snp) : ∀ u ∈ sncs l, u.oneCell' = true := by
  induction l with
  | nil => intro u hu; cases hu
  | cons s l ih =>
    intro u hu
    simp only [sncs, List.mem_cons] at hu
    rcases hu with rfl | rfl | rfl | hu
    · rfl
    · rfl
    · rfl
    · exact ih u hu
theorem sncs_at : ∀ (l : List Snp) (i : Nat) (hi : i < l.length), (sncs l)[i * 3]? = some (.string l[i].n) ∧ (sncs l)[i * 3 + 1]? = some (.int .i64 l[i].r) ∧ (sncs l)[i * 3 + 2]? = some (.int .i64 l[i].c)
  | s :: l, 0, _ => ⟨rfl, rfl, rfl⟩
  | s :: l, i + 1, hi => by
    have ih := sncs_at l i (by simpa using hi)
    have e : (i + 1) * 3 = i * 3 + 3 := by omega
    simp only [e, sncs, List.getElem_cons_succ]
    exact ih
/-- Where a slice of snapshots has its cells. -/
theorem sncs_cells {w : World} {g off : Nat} {l : List Snp} (h : ∀ i (hi : i < l.length), SnpAt w g (off + i * 3) l[i]) : ∀ j u, (sncs l)[j]? = some u → w.cell? ⟨g, off + j, none⟩ = some u := by
  intro j u hu
  have hj : j < l.length * 3 := by
    have := (List.getElem?_eq_some_iff.1 hu).1
    rw [sncs_length] at this
    exact this
  have hi : j / 3 < l.length := by omega
  obtain ⟨a0, a1, a2⟩ := sncs_at l (j / 3) hi
  obtain ⟨b0, b1, b2⟩ := h (j / 3) hi
  have hm : j = j / 3 * 3 ∨ j = j / 3 * 3 + 1 ∨ j = j / 3 * 3 + 2 := by omega
  rcases hm with e | e | e
  · rw [← e] at a0 b0; rw [a0] at hu; cases hu; exact b0
  · rw [← e] at a1; rw [a1] at hu; cases hu; rw [show off + j / 3 * 3 + 1 = off + j by omega] at b1; exact b1
  · rw [← e] at a2; rw [a2] at hu; cases hu; rw [show off + j / 3 * 3 + 2 = off + j by omega] at b2; exact b2
theorem sncs_back {w : World} {g off : Nat} {l : List Snp} (h : ∀ j u, (sncs l)[j]? = some u → w.cell? ⟨g, off + j, none⟩ = some u) : ∀ i (hi : i < l.length), SnpAt w g (off + i * 3) l[i] := by
  intro i hi
  obtain ⟨a0, a1, a2⟩ := sncs_at l i hi
  exact ⟨h _ _ a0, by have := h _ _ a1; rwa [← Nat.add_assoc] at this, by have := h _ _ a2; rwa [← Nat.add_assoc] at this⟩

def fc (F : Fld) : List Value := .int .i64 F.g :: .string F.lt :: .int .i64 F.r :: .int .i64 F.x :: .int .i64 F.c :: .int .i64 F.n :: (sncs F.l ++ [.int .i64 F.e])
abbrev fv (F : Fld) : Value := .agg (fc F).toArray
theorem fc_length (F : Fld) (h : F.l.length = 8) : (fc F).length = 31 := by simp [fc, sncs_length, h]
theorem fc_size (F : Fld) (h : F.l.length = 8) : (fc F).toArray.size = 31 := by simpa using fc_length F h
theorem fc_all (F : Fld) : (fc F).toArray.all (·.oneCell') = true := all_oneCell_toArray (by
  intro u hu
  simp only [fc, List.mem_cons, List.mem_append, List.not_mem_nil, or_false] at hu
  rcases hu with rfl | rfl | rfl | rfl | rfl | rfl | hu | rfl
  iterate 6 rfl
  · exact sncs_one _ u hu
  · rfl)
structure HasF (w : World) (b : Nat) (F : Fld) : Prop where
  len : F.l.length = 8
  blk : w.heap[b]? = some (.cells (fc F).toArray 48 (0, 0))
theorem Try.fld_info : (Try.prog.info? 48).map (·.size) = some 31 := by kernel_rfl
theorem HasF.lt {w : World} {b : Nat} {F : Fld} (h : HasF w b F) : b < w.heap.size := lt_of_block h.blk
theorem HasF.same {w w' : World} {b : Nat} {F : Fld} (h : HasF w b F) (e : w'.heap[b]? = w.heap[b]?) : HasF w' b F := ⟨h.len, e.trans h.blk⟩
theorem HasF.below {B : Nat} {w w' : World} {b : Nat} {F : Fld} (h : HasF w b F) (hb : Below B w w') (hB : b < B) : HasF w' b F := h.same (hb.block b hB)
theorem HasF.touch {w w' : World} {b p : Nat} {F : Fld} (h : HasF w b F) (ht : Touch p none w w') (hp : b ≠ p) : HasF w' b F := h.same (ht.block b h.lt hp (by simp))
theorem HasF.alloc {w : World} {b : Nat} {F : Fld} (h : HasF w b F) (o : Obj) : HasF (w.alloc o) b F := h.same (Below.heap_alloc _ _ _ h.lt)
theorem HasF.new (w : World) (F : Fld) (h : F.l.length = 8) : HasF (w.alloc (.cells (fc F).toArray 48 (0, 0))) w.heap.size F := ⟨h, heap_alloc_new _ _⟩
theorem HasF.cell {w : World} {b : Nat} {F : Fld} (h : HasF w b F) (j : Nat) {u : Value} (hj : (fc F)[j]? = some u) : w.cell? ⟨b, j, none⟩ = some u := by
  rw [cell_of_row w b j _ _ _ h.blk]
  simpa using hj
theorem HasF.free {w : World} {b : Nat} {F : Fld} (h : HasF w b F) (j : Nat) : w.frozen? ⟨b, j, none⟩ = false := by simp [World.frozen?, h.blk]
/-- Its first six cells, and the last. -/
theorem HasF.six {w : World} {b : Nat} {F : Fld} (h : HasF w b F) : w.cell? ⟨b, 0, none⟩ = some (.int .i64 F.g) ∧ w.cell? ⟨b, 1, none⟩ = some (.string F.lt) ∧ w.cell? ⟨b, 2, none⟩ = some (.int .i64 F.r) ∧ w.cell? ⟨b, 3, none⟩ = some (.int .i64 F.x) ∧ w.cell? ⟨b, 4, none⟩ = some (.int .i64 F.c) ∧ w.cell? ⟨b, 5, none⟩ = some (.int .i64 F.n) ∧ w.cell? ⟨b, 30, none⟩ = some (.int .i64 F.e) := by
  refine ⟨h.cell 0 rfl, h.cell 1 rfl, h.cell 2 rfl, h.cell 3 rfl, h.cell 4 rfl, h.cell 5 rfl, h.cell 30 ?_⟩
  have := sncs_length F.l
  rw [h.len] at this
  simp only [fc, List.getElem?_cons_succ]
  rw [List.getElem?_append_right (by omega), this]
  rfl
theorem HasF.snaps {w : World} {b : Nat} {F : Fld} (h : HasF w b F) : ∀ i (hi : i < F.l.length), SnpAt w b (6 + i * 3) F.l[i] := by
  refine sncs_back fun j u hu => h.cell _ ?_
  have hj := (List.getElem?_eq_some_iff.1 hu).1
  simp only [fc, show 6 + j = j + 6 by omega, List.getElem?_cons_succ]
  rw [List.getElem?_append_left hj]
  exact hu

theorem load_fld {ops : Array Oper} {rest : List Oper} {o : Oper} {a : Act} {w : World} {Q : Exit → Act → World → Prop} (x : Operand) (ho : o.op = .load 48 x) (b : Nat) (hx : a.eval x = .pointer (some ⟨b, 0, none⟩)) (hgd : Region.wanted o (yielded ops a.tmps) = true) (F : Fld) (hF : HasF w b F)
    (h : wpList Try.prog ops Q rest (a.put o.dst (fv F)) w) : wpList Try.prog ops Q (o :: rest) a w :=
  BigFrame.wpList_want hgd fun _ hK' => wp_load_row _ x ho b hx _ _ _ _ hF.blk Try.underlying48 rfl (by rw [fc_size F hF.len]; exact Try.fld_info) (hK' _ _ h)
theorem HasF.setRow {w : World} {b : Nat} {F : Fld} (h : HasF w b F) (L : Fld) (hl : L.l.length = 8) : HasF (w.setRow b (fc L).toArray) b L := ⟨hl, setRow_heap w b _ _ _ _ h.blk⟩
theorem touch_row (w : World) (b : Nat) (C : Array Value) : Touch b none w (w.setRow b C) := ⟨rfl, rfl, rfl, by simp, fun k _ hk _ => setRow_other w b k C hk⟩
theorem store_fld {ops : Array Oper} {rest : List Oper} {o : Oper} {a : Act} {w : World} {Q : Exit → Act → World → Prop} (hgd : o.guard = none) (x y : Operand) (ho : o.op = .store 48 x y) (b : Nat) (hx : a.eval x = .pointer (some ⟨b, 0, none⟩)) (L : Fld) (hy : a.eval y = fv L) (hL : L.l.length = 8) (F : Fld) (hF : HasF w b F)
    (h : ∀ w', HasF w' b L → Touch b none w w' → w'.heap.size = w.heap.size → wpList Try.prog ops Q rest (a.put o.dst undef) w') : wpList Try.prog ops Q (o :: rest) a w :=
  wpList_store_row hgd _ x y ho b _ hx hy _ _ hF.blk (by rw [fc_size L hL]; exact Try.fld_info) (by rw [fc_size F hF.len, fc_size L hL]) (fc_all _) (h _ (hF.setRow L hL) (touch_row _ _ _) (by simp))

theorem ret_fld {fn : Func} {R : Ending → World → Prop} {a : Act} {w : World} {p : Tmp} (hr : fn.results = #[.cell p 48]) (b : Nat) (F : Fld) (hp : a.tmps.getD p undef = .pointer (some ⟨b, 0, none⟩)) (hF : HasF w b F)
    (hd : a.defers = []) (hR : R (.returned (fv F)) w) : bodyPost Try.prog fn R .ret a w :=
  bodyPost_ret (results_cell_row hr _ w b _ _ _ _ hp hF.blk Try.underlying48 rfl (by rw [fc_size F hF.len]; exact Try.fld_info)) hd hR
theorem ret_fld_ok {fn : Func} {R : Ending → World → Prop} {a : Act} {w : World} {p u : Tmp} (hr : fn.results = #[.cell p 48, .tmp u]) (b : Nat) (F : Fld) (v : Value) (hp : a.tmps.getD p undef = .pointer (some ⟨b, 0, none⟩)) (hv : a.tmps.getD u undef = v) (hF : HasF w b F)
    (hd : a.defers = []) (hR : R (.returned (.tuple #[fv F, v])) w) : bodyPost Try.prog fn R .ret a w := by
  refine bodyPost_ret (v := .tuple #[fv F, v]) ?_ hd hR
  have hl := run_loadVar_row (P := Try.prog) w b 48 48 _ _ _ hF.blk Try.underlying48 rfl (by rw [fc_size F hF.len]; exact Try.fld_info)
  rw [results_cell_tmp hr, hp, hv]
  simp [asAddr, Result.andThen, hl]

/-- The zero fields. -/
def zeroF : Fld := ⟨0, ByteArray.empty, 0, 0, 0, 0, List.replicate 8 nilS, 0⟩
theorem Try.fld_zero : (Try.prog.info? 48).map (·.zero) = some (some (fv zeroF)) := by kernel_rfl
theorem Try.fld_built (g : Int) (lt : ByteArray) (r x c n e : Int) : Try.prog.built 48 [(0, .int .i64 g), (1, .string lt), (2, .int .i64 r), (3, .int .i64 x), (4, .int .i64 c), (5, .int .i64 n), (7, .int .i64 e)] = some (fc ⟨g, lt, r, x, c, n, List.replicate 8 nilS, e⟩).toArray := by kernel_rfl
theorem Try.fld_built0 : Try.prog.built 48 [] = some (fc zeroF).toArray := by kernel_rfl

/-! copy of whole elements. -/
theorem run_copy_rows {P : Program} (w : World) (dT sT ty elem : TypeId) (size g o dLen dCap : Nat) (a : Addr) (sLen sCap : Nat) (cur : Array Value) (t : TypeId) (cs : List Value)
    (hu : P.underlying dT = some (.slice elem)) (hs : (P.info? elem).map (·.size) = some size)
    (hg : w.heap[g]? = some (.cells cur t (0, 0))) (hn : cs.length = Nat.min sLen dLen * size)
    (hsrc : ∀ j v, cs[j]? = some v → w.cell? (a.add j) = some v) (hfit : o + cs.length ≤ cur.size) (h1 : ∀ v ∈ cs, v.oneCell' = true) :
    (Builtin.copy_ #[dT, sT] ty #[.slice (some ⟨g, o, none⟩) dLen dCap, .slice (some a) sLen sCap]).run P w =
      .ok (goInt (Nat.min sLen dLen)) (w.setRow g (cur.toList.take o ++ cs ++ cur.toList.drop (o + cs.length)).toArray) := by
  have hl := run_loadCells_list (P := P) w a cs hsrc
  have hst := run_storeCells_at P g o t cs 0 cur w hg (by simpa using hfit) h1
  cases hq : P.info? elem with
  | none => simp [hq] at hs
  | some i =>
    have hi : i.size = size := by simpa [hq] using hs
    simp [Builtin.copy_, run_underlying hu, Builtin.lenOf, Builtin.firstCells, sizeOf, typeInfo, hq, hi, ← hn, hl, hst]
theorem run_copy_no {P : Program} (w : World) (dT sT ty elem : TypeId) (d a : Option Addr) (dLen dCap sLen sCap : Nat) (hu : P.underlying dT = some (.slice elem)) (hs : ((P.info? elem).map (·.size)).isSome = true) (hn : Nat.min sLen dLen = 0) :
    (Builtin.copy_ #[dT, sT] ty #[.slice d dLen dCap, .slice a sLen sCap]).run P w = .ok (goInt 0) w := by
  cases hq : P.info? elem with
  | none => simp [hq] at hs
  | some i =>
    have hl : ∀ (x : Addr), (loadCells x 0).run P w = .ok #[] w := fun x => by simpa using run_loadCells_list (P := P) w x [] (by simp)
    cases d <;> cases a <;> simp [Builtin.copy_, run_underlying hu, Builtin.lenOf, Builtin.firstCells, sizeOf, typeInfo, hq, hn, storeCells, hl]
end Go.Proofs.Ytnpohjbhfoebcaa
