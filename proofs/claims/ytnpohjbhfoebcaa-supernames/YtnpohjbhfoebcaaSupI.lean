/- The fields that are read: read. -/
import Derived.Test.YtnpohjbhfoebcaaSupH
namespace Go.Proofs.Ytnpohjbhfoebcaa
set_option linter.unusedVariables false
open Go.RowKit

/-- What is left of the reader behind each field. -/
def rd1 (s : RS) : RS := s.take 8
def rd2 (s : RS) : RS := (rd1 s).take 4
def rd3 (s : RS) : RS := (rd2 s).take 4
def rd4 (s : RS) : RS := (rd3 s).take 4
def rd5 (s : RS) : RS := (rd4 s).take 8
def rd6 (s : RS) : RS := (rd5 s).take 1
def rdN : Nat → RS → List Snp
  | 0, _ => []
  | k + 1, s => rdSnap s :: rdN k (rdRest s)
def rdR : Nat → RS → RS
  | 0, s => s
  | k + 1, s => rdR k (rdRest s)
theorem rdR_succ (k : Nat) : ∀ s, rdR (k + 1) s = rdRest (rdR k s) := by
  induction k with
  | zero => intro s; rfl
  | succ k ih => intro s; rw [rdR, ih]; rfl
theorem rdN_succ (k : Nat) : ∀ s, rdN (k + 1) s = rdN k s ++ [rdSnap (rdR k s)] := by
  induction k with
  | zero => intro s; rfl
  | succ k ih => intro s; rw [rdN, ih]; rfl
theorem rdN_length (k : Nat) : ∀ s, (rdN k s).length = k := by
  induction k with
  | zero => intro s; rfl
  | succ k ih => intro s; simp [rdN, ih]
def rdCount (s : RS) : Nat := num ((rd5 s).got 1)
def rdHeld (s : RS) : Nat := min (rdCount s) 8
/-- The fields of the bytes s and t, of which k snapshots have been read. -/
def rdF (s : RS) (k : Nat) (e : Int) : Fld := ⟨i64 (num (s.got 8)), str ((rd1 s).got 4), (num ((rd2 s).got 4) : Int), (num ((rd3 s).got 4) : Int), i64 (num ((rd4 s).got 8)), (rdCount s : Int), rdN k (rd6 s) ++ List.replicate (8 - k) nilS, e⟩
def readF (L : List UInt8) : Fld × Bool :=
  if L.length = 512 then (rdF ⟨L.take 504, false⟩ (rdHeld ⟨L.take 504, false⟩) (i64 (num ((⟨L.drop 504, false⟩ : RS).got 8))), !(rdR (rdHeld ⟨L.take 504, false⟩) (rd6 ⟨L.take 504, false⟩)).bad && (rdR (rdHeld ⟨L.take 504, false⟩) (rd6 ⟨L.take 504, false⟩)).l.all (· == 0))
  else (zeroF, false)

/-- What read's walk holds: the readers p and q, what reads a long, the result, the fields. -/
structure RSt (w wr : World) (p q nb b : Nat) (r rq : Option Nat) (s t : RS) (F : Fld) : Prop where
  hp : RdS wr p s r
  hq : RdS wr q t rq
  lg : longAt wr nb p
  z : HasF wr w.heap.size zeroF
  f : HasF wr b F
  bel : Below w.heap.size w wr
  ord : w.heap.size < p ∧ p < q ∧ q < nb ∧ nb < b
  rr : ∀ k, r = some k → w.heap.size < k ∧ k < nb ∧ k ≠ p ∧ k ≠ q
  rs : ∀ k, rq = some k → w.heap.size < k ∧ k < nb ∧ k ≠ p ∧ k ≠ q
theorem RSt.read {w wr w' : World} {p q nb b : Nat} {r rq : Option Nat} {s s' t : RS} {F : Fld} (h : RSt w wr p q nb b r rq s t F) (g : RdG p wr r s' w') : RSt w w' p q nb b r rq s' t F := by
  obtain ⟨o1, o2, o3, o4⟩ := h.ord
  have hb := h.f.lt
  have hh : ∀ k, k < wr.heap.size → k ≠ p → w'.heap[k]? = wr.heap[k]? := fun k hk hp => g.2.block k hk hp (by simp)
  refine ⟨g.1, h.hq.kept (hh _ (by omega) (by omega)) fun k hk => hh _ (by have := h.rs k hk; omega) (by have := h.rs k hk; omega), (hh _ (by omega) (by omega)).trans h.lg, h.z.same (hh _ (by omega) (by omega)), h.f.same (hh _ hb (by omega)), h.bel.trans (g.2.below h.bel.size (by omega) (by simp)), h.ord, h.rr, h.rs⟩
theorem RSt.touch {w wr w' : World} {p q nb b : Nat} {r rq : Option Nat} {s t : RS} {F F' : Fld} (h : RSt w wr p q nb b r rq s t F) (hf : HasF w' b F') (g : Touch b none wr w') : RSt w w' p q nb b r rq s t F' := by
  obtain ⟨o1, o2, o3, o4⟩ := h.ord
  have hb := h.f.lt
  have hh : ∀ k, k < wr.heap.size → k ≠ b → w'.heap[k]? = wr.heap[k]? := fun k hk hp => g.block k hk hp (by simp)
  refine ⟨h.hp.kept (hh _ (by omega) (by omega)) fun k hk => hh _ (by have := h.rr k hk; omega) (by have := h.rr k hk; omega), h.hq.kept (hh _ (by omega) (by omega)) fun k hk => hh _ (by have := h.rs k hk; omega) (by have := h.rs k hk; omega), (hh _ (by omega) (by omega)).trans h.lg, h.z.same (hh _ (by omega) (by omega)), hf, h.bel.trans (g.below h.bel.size (by omega) (by simp)), h.ord, h.rr, h.rs⟩
theorem RSt.called {w wr w' : World} {p q nb b : Nat} {r rq : Option Nat} {s t : RS} {F : Fld} (h : RSt w wr p q nb b r rq s t F) (g : Below wr.heap.size wr w') : RSt w w' p q nb b r rq s t F := by
  obtain ⟨o1, o2, o3, o4⟩ := h.ord
  have hb := h.f.lt
  have hh : ∀ k, k < wr.heap.size → w'.heap[k]? = wr.heap[k]? := fun k hk => g.block k hk
  refine ⟨h.hp.kept (hh _ (by omega)) fun k hk => hh _ (by have := h.rr k hk; omega), h.hq.kept (hh _ (by omega)) fun k hk => hh _ (by have := h.rs k hk; omega), (hh _ (by omega)).trans h.lg, h.z.same (hh _ (by omega)), h.f.same (hh _ hb), h.bel.trans (g.mono h.bel.size), h.ord, h.rr, h.rs⟩
theorem HasF.put {w : World} {b : Nat} {F F' : Fld} (h : HasF w b F) (j : Nat) (u : Value) (hl : F'.l.length = 8) (e : fc F' = (fc F).set j u) : HasF (w.setCell ⟨b, j, none⟩ u) b F' := by
  refine ⟨hl, ?_⟩
  rw [setCell_eq_setRow w b j _ _ _ _ h.blk, setRow_heap w b _ _ _ _ h.blk, e]
  simp
theorem touch_set (w : World) (b j : Nat) (u : Value) : Touch b none w (w.setCell ⟨b, j, none⟩ u) := (Touch.refl _ _ _).setCell _ _
theorem RSt.put {w wr : World} {p q nb b : Nat} {r rq : Option Nat} {s t : RS} {F : Fld} (h : RSt w wr p q nb b r rq s t F) (F' : Fld) (j : Nat) (u : Value) (hl : F'.l.length = 8) (e : fc F' = (fc F).set j u) : RSt w (wr.setCell ⟨b, j, none⟩ u) p q nb b r rq s t F' :=
  h.touch (h.f.put j u hl e) (touch_set _ _ _ _)

theorem sncs_set : ∀ (l : List Snp) (k : Nat) (X : Snp), k < l.length → sncs (l.set k X) = (sncs l).take (k * 3) ++ snc X ++ (sncs l).drop (k * 3 + 3)
  | s :: l, 0, X, _ => by simp [sncs, snc]
  | s :: l, k + 1, X, h => by
    have ih := sncs_set l k X (by simpa using h)
    rw [show (k + 1) * 3 = k * 3 + 3 by omega, show k * 3 + 3 + 3 = (k * 3 + 3) + 3 by rfl]
    simp only [List.set_cons_succ, sncs, ih, List.take_succ_cons, List.drop_succ_cons, List.cons_append]
theorem fc_set (F : Fld) (k : Nat) (X : Snp) (hl : F.l.length = 8) (hk : k < 8) : fc { F with l := F.l.set k X } = (fc F).take (6 + k * 3) ++ snc X ++ (fc F).drop (6 + k * 3 + 3) := by
  have h1 := sncs_length F.l
  simp only [fc, sncs_set F.l k X (by omega), show 6 + k * 3 = k * 3 + 6 by omega, show k * 3 + 6 + 3 = (k * 3 + 3) + 6 by omega, List.take_succ_cons, List.drop_succ_cons, List.cons_append]
  rw [List.take_append_of_le_length (by omega), List.drop_append_of_le_length (by omega)]
  simp
theorem setCells_row {b : Nat} {t : TypeId} : ∀ (vs : List Value) (o : Nat) (w : World) (C : List Value), w.heap[b]? = some (.cells C.toArray t (0, 0)) → o + vs.length ≤ C.length → (w.setCells b o vs).heap[b]? = some (.cells (C.take o ++ vs ++ C.drop (o + vs.length)).toArray t (0, 0))
  | [], o, w, C, h, _ => by simpa [World.setCells] using h
  | v :: vs, o, w, C, h, hl => by
    have h1 : (w.setCell ⟨b, o, none⟩ v).heap[b]? = some (.cells (C.set o v).toArray t (0, 0)) := by
      rw [setCell_eq_setRow w b o _ _ _ _ h, setRow_heap w b _ _ _ _ h]
      simp
    have ih := setCells_row vs (o + 1) (w.setCell ⟨b, o, none⟩ v) (C.set o v) h1 (by simp at hl ⊢; omega)
    rw [World.setCells, ih]
    have e := list_seg_step C o v vs (by simpa using hl)
    congr 2
    simpa [Nat.add_assoc, Nat.add_comm] using e
theorem touch_setCells {b : Nat} : ∀ (vs : List Value) (o : Nat) (w : World), Touch b none w (w.setCells b o vs)
  | [], o, w => Touch.refl _ _ _
  | v :: vs, o, w => (touch_set w b o v).trans (touch_setCells vs (o + 1) _) (Near.none _ _)
theorem store_snp {ops : Array Oper} {rest : List Oper} {o : Oper} {a : Act} {w : World} {Q : Exit → Act → World → Prop} (hgd : o.guard = none) (x y : Operand) (ho : o.op = .store 40 x y) (b k : Nat) (hx : a.eval x = .pointer (some ⟨b, 6 + k * 3, none⟩)) (X : Snp) (hy : a.eval y = .agg (snc X).toArray) (F : Fld) (hF : HasF w b F) (hk : k < 8)
    (h : ∀ w', HasF w' b { F with l := F.l.set k X } → Touch b none w w' → wpList Try.prog ops Q rest (a.put o.dst undef) w') : wpList Try.prog ops Q (o :: rest) a w := by
  have hl := hF.len
  have hth : w.there b (6 + k * 3) (snc X).toArray.size := fun j hj => by
    have hj3 : j < 3 := hj
    have hlen := fc_length F hl
    refine ⟨?_, hF.free _⟩
    rw [hF.cell (6 + k * 3 + j) (List.getElem?_eq_getElem (by omega))]
    rfl
  refine wpList_store_mid hgd 40 x y ho b (6 + k * 3) _ hx hy hth Try.snap_info (sncs_all1 X) (h _ ?_ ?_)
  · refine ⟨by simp [hl], ?_⟩
    rw [fc_set F k X hl hk]
    have := fc_length F hl
    exact setCells_row (snc X) (6 + k * 3) w (fc F) hF.blk (by simp [snc]; omega)
  · exact touch_setCells _ _ _
end Go.Proofs.Ytnpohjbhfoebcaa
