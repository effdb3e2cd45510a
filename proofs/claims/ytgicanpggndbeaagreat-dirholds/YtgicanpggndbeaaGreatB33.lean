import Derived.Test.YtgicanpggndbeaaGreatSi
import Derived.Test.YtgicanpggndbeaaGreatB21
import Derived.Test.YtgicanpggndbeaaGreatB32
/- A view in memory; what its calls leave as it is. -/
namespace Go.Proofs.YtgicanpggndbeaaGreat
set_option linter.unusedVariables false
set_option maxRecDepth 100000
open Go.RowKit

/-- What is remembered at a mark of a key. -/
structure Fo where
  k : Kz
  c : Ch
  was : Bool
def Fo.n (f : Fo) : Int := f.k.n
def encF : Enc Fo 27 := ⟨fun f => ccd f.c ++ [.bool f.was], fun f => by have := encC.len f.c; simpa [encC] using this, fun f v hv => by
  rw [List.mem_append, List.mem_singleton] at hv
  rcases hv with h | rfl
  · exact encC.one f.c v h
  · rfl⟩
def fo0 : Fo := ⟨⟨zs 24, rfl⟩, ch0, false⟩
theorem tyF : MapTy encF 144 189 fo0 := ⟨Tryz.underlying144, fun w => by kernel_rfl⟩
theorem elF : ElTy Tryz.prog encF 189 := ⟨⟨_, Tryz.underlying189, rfl, rfl⟩, by kernel_rfl⟩
def encM : Enc Nat 1 := ⟨fun b => [.map (some b)], fun _ => rfl, fun b v hv => by rw [List.mem_singleton] at hv; subst hv; rfl⟩
theorem rowM : RowTy Tryz.prog encM 73 144 8 := ⟨Tryz.underlying73, ⟨.map none, by kernel_rfl, by simp [Value.cells]⟩, by decide⟩
/-- A view as plain data: its changes, what was read, what the marks remember. -/
structure VS where
  C : List Ch
  R : List Sp
  U : List (List Fo)
/-- Where its parts lie, and how many there may be. -/
structure VR where
  c : Nat
  r : Nat
  m : Value
  u : List Nat
  n : Nat
def VR.own (p : Nat) (x : VR) (i : Nat) : Prop := i = p ∨ i = x.c ∨ i = x.r ∨ i ∈ x.u ∨ x.m.ownBlock = some i
structure VwIn (w : World) (p : Nat) (iv : Value) (x : VR) (V : VS) : Prop where
  blk : w.heap[p]? = some (.cells #[iv, .map (some x.c), .map (some x.r), x.m] 75 (0, 0))
  mapC : MapA encC Ch.n w x.c x.n V.C
  setR : SetA w x.r x.n V.R
  row : Own encM 144 w 0 x.m x.u
  maps : ∀ i (h : i < x.u.length), ∃ L, V.U[i]? = some L ∧ MapA encF Fo.n w x.u[i] x.n L
  len : V.U.length = x.u.length
  most : x.u.length ≤ x.n
  apart : (x.c :: x.r :: x.u).Nodup
theorem MapA.isMap {α : Type} {k : Nat} {E : Enc α k} {key : α → Int} {w : World} {b n : Nat} {L : List α} (h : MapA E key w b n L) : ∃ es c, w.heap[b]? = some (.map es c) := by
  obtain ⟨⟨D, ⟨es, clock, h1, h2⟩, h3⟩, h4⟩ := h
  exact ⟨es, clock, h1⟩
theorem SetA.isMap {w : World} {b n : Nat} {R : List Sp} (h : SetA w b n R) : ∃ es c, w.heap[b]? = some (.map es c) := by
  obtain ⟨D, ⟨es, clock, h1, h2⟩, h3⟩ := h
  exact ⟨es, clock, h1⟩
theorem SetA.mono {w : World} {b n n' : Nat} {R : List Sp} (h : SetA w b n R) (hn : n ≤ n') : SetA w b n' R := by
  obtain ⟨D, h1, h3⟩ := h
  exact ⟨D, h1.mono hn, h3⟩
variable {w w' : World} {p : Nat} {iv : Value} {x : VR} {V : VS}
theorem VwIn.kept (h : VwIn w p iv x V) (hk : ∀ i, x.own p i → w'.heap[i]? = w.heap[i]?) : VwIn w' p iv x V :=
  ⟨(hk p (.inl rfl)).trans h.blk, h.mapC.kept (hk _ (.inr (.inl rfl))), h.setR.kept (hk _ (.inr (.inr (.inl rfl)))), Own.same h.row (fun g hg => hk g (.inr (.inr (.inr (.inr hg))))),
    fun i hi => by
      obtain ⟨L, h1, h2⟩ := h.maps i hi
      exact ⟨L, h1, h2.kept (hk _ (.inr (.inr (.inr (.inl (List.getElem_mem hi))))))⟩, h.len, h.most, h.apart⟩
theorem VwIn.lt (h : VwIn w p iv x V) {i : Nat} (hi : x.own p i) : i < w.heap.size := by
  rcases hi with rfl | rfl | rfl | hi | hi
  · exact lt_of_block h.blk
  · exact h.mapC.lt
  · exact h.setR.lt
  · obtain ⟨j, hj, rfl⟩ := List.mem_iff_getElem.1 hi
    obtain ⟨L, _, h2⟩ := h.maps j hj
    exact h2.lt
  · exact (h.row.lt i hi).2
theorem VwIn.called (h : VwIn w p iv x V) (b : Below w.heap.size w w') : VwIn w' p iv x V := h.kept fun i hi => b.block i (h.lt hi)
/-- All old blocks but those of S stand. -/
structure FrV (S : Nat → Prop) (w w' : World) : Prop where
  bel : Below 0 w w'
  block : ∀ i, i < w.heap.size → ¬ S i → w'.heap[i]? = w.heap[i]?
theorem FrV.refl (S : Nat → Prop) (w : World) : FrV S w w := ⟨Below.refl _ w, fun _ _ _ => rfl⟩
theorem FrV.size {S : Nat → Prop} (h : FrV S w w') : w.heap.size ≤ w'.heap.size := h.bel.size
theorem FrV.of_below {S : Nat → Prop} (h : Below w.heap.size w w') : FrV S w w' := ⟨⟨h.os, h.tape, h.output, h.size, fun k hk => absurd hk (Nat.not_lt_zero k)⟩, fun i hi _ => h.block i hi⟩
theorem FrV.of_grown {S : Nat → Prop} {row : Option Nat} (h : w.grownBy w' row) (hS : ∀ i, row = some i → S i) : FrV S w w' := ⟨⟨h.os, h.tape, h.output, h.size, fun k hk => absurd hk (Nat.not_lt_zero k)⟩, fun i hi hn => h.block i hi (fun e => hn (hS i e.symm))⟩
theorem FrV.trans {S S' : Nat → Prop} {w1 w2 : World} (h1 : FrV S w w1) (h2 : FrV S' w1 w2) (hS : ∀ i, S' i → S i ∨ w.heap.size ≤ i) : FrV S w w2 :=
  ⟨h1.bel.trans h2.bel, fun i hi hn => (h2.block i (by have := h1.size; omega) (fun e => (hS i e).elim hn (fun q => by omega))).trans (h1.block i hi hn)⟩
theorem FrV.below {S : Nat → Prop} {B : Nat} (h : FrV S w w') (hS : ∀ i, S i → B ≤ i) (hB : B ≤ w.heap.size) : Below B w w' := ⟨h.bel.os, h.bel.tape, h.bel.output, h.bel.size, fun k hk => h.block k (by omega) (fun e => by have := hS k e; omega)⟩
/-- What a call on a view leaves: the view is V, and nothing else has changed. -/
structure VLeft (w : World) (p : Nat) (iv : Value) (x : VR) (V : VS) (w' : World) (x' : VR) : Prop where
  vw : VwIn w' p iv x' V
  more : x'.n ≤ x.n + 4
  fr : FrV (x.own p) w w'
  own : ∀ i, x'.own p i → x.own p i ∨ w.heap.size ≤ i
theorem VwIn.up (h : VwIn w p iv x V) (n : Nat) (hn : x.n ≤ n) : VwIn w p iv { x with n := n } V :=
  ⟨h.blk, h.mapC.mono hn, h.setR.mono hn, h.row, fun i hi => by
    obtain ⟨L, h1, h2⟩ := h.maps i hi
    exact ⟨L, h1, h2.mono hn⟩, h.len, Nat.le_trans h.most hn, h.apart⟩
theorem VwIn.cell (h : VwIn w p iv x V) : w.cell? ⟨p, 0, none⟩ = some iv ∧ w.cell? ⟨p, 1, none⟩ = some (.map (some x.c)) ∧ w.cell? ⟨p, 2, none⟩ = some (.map (some x.r)) ∧ w.cell? ⟨p, 3, none⟩ = some x.m := by
  refine ⟨?_, ?_, ?_, ?_⟩ <;> · rw [cell_of_row _ _ _ _ _ _ h.blk]; rfl
theorem VwIn.ne_map (h : VwIn w p iv x V) {b : Nat} (hb : ∃ es c, w.heap[b]? = some (.map es c)) : p ≠ b := fun e => by
  obtain ⟨es, c, hb⟩ := hb
  rw [← e, h.blk] at hb
  cases hb
theorem VwIn.row_ne (h : VwIn w p iv x V) {b : Nat} (hb : ∃ es c, w.heap[b]? = some (.map es c)) : x.m.ownBlock ≠ some b := fun e => by
  obtain ⟨es, c, hb⟩ := hb
  rcases ownsRow_ne_a h.row hb (fun cur q => by cases q) with q | q
  · rw [q] at e; cases e
  · exact q e
/-- Only the set of what was read has changed. -/
theorem VwIn.putR (h : VwIn w p iv x V) {R : List Sp} (hR : SetA w' x.r (x.n + 1) R) (hg : w.grownBy w' (some x.r)) : VLeft w p iv x { V with R := R } w' { x with n := x.n + 1 } := by
  have hq : ∀ i, x.own p i → i ≠ x.r → w'.heap[i]? = w.heap[i]? := fun i hi hne => hg.block i (h.lt hi) (fun e => hne (by cases e; rfl))
  have hu := h.up (x.n + 1) (Nat.le_succ _)
  have hnd := h.apart
  rw [List.nodup_cons, List.nodup_cons, List.mem_cons] at hnd
  refine ⟨⟨(hq p (.inl rfl) (h.ne_map h.setR.isMap)).trans h.blk, hu.mapC.kept (hq _ (.inr (.inl rfl)) (fun e => hnd.1 (.inl e))), hR, Own.same h.row (fun g hg => hq g (.inr (.inr (.inr (.inr hg)))) (fun e => h.row_ne h.setR.isMap (e ▸ hg))), fun i hi => ?_, h.len, hu.most, h.apart⟩, (show x.n + 1 ≤ x.n + 4 by omega), FrV.of_grown hg (fun i e => by cases e; exact .inr (.inr (.inl rfl))), fun i hi => .inl hi⟩
  obtain ⟨L, h1, h2⟩ := hu.maps i hi
  exact ⟨L, h1, h2.kept (hq _ (.inr (.inr (.inr (.inl (List.getElem_mem hi))))) (fun e => hnd.2.1 (e ▸ List.getElem_mem hi)))⟩
/-- Only the map of the changes has changed. -/
theorem VwIn.putC (h : VwIn w p iv x V) {C : List Ch} (hC : MapA encC Ch.n w' x.c (x.n + 1) C) (hg : w.grownBy w' (some x.c)) : VLeft w p iv x { V with C := C } w' { x with n := x.n + 1 } := by
  have hq : ∀ i, x.own p i → i ≠ x.c → w'.heap[i]? = w.heap[i]? := fun i hi hne => hg.block i (h.lt hi) (fun e => hne (by cases e; rfl))
  have hu := h.up (x.n + 1) (Nat.le_succ _)
  have hnd := h.apart
  rw [List.nodup_cons, List.nodup_cons, List.mem_cons] at hnd
  refine ⟨⟨(hq p (.inl rfl) (h.ne_map h.mapC.isMap)).trans h.blk, hC, hu.setR.kept (hq _ (.inr (.inr (.inl rfl))) (fun e => hnd.1 (.inl e.symm))), Own.same h.row (fun g hg => hq g (.inr (.inr (.inr (.inr hg)))) (fun e => h.row_ne h.mapC.isMap (e ▸ hg))), fun i hi => ?_, h.len, hu.most, h.apart⟩, (show x.n + 1 ≤ x.n + 4 by omega), FrV.of_grown hg (fun i e => by cases e; exact .inr (.inl rfl)), fun i hi => .inl hi⟩
  obtain ⟨L, h1, h2⟩ := hu.maps i hi
  exact ⟨L, h1, h2.kept (hq _ (.inr (.inr (.inr (.inl (List.getElem_mem hi))))) (fun e => hnd.1 (.inr (e ▸ List.getElem_mem hi))))⟩
theorem nodup_idx {l : List Nat} (h : l.Nodup) {i j : Nat} (hi : i < l.length) (hj : j < l.length) (e : l[i] = l[j]) : i = j := by
  have hp := List.pairwise_iff_getElem.1 h
  rcases Nat.lt_trichotomy i j with q | q | q
  · exact absurd e (hp i j hi hj q)
  · exact q
  · exact absurd e.symm (hp j i hj hi q)
/-- Only the map of one mark has changed. -/
theorem VwIn.putU (h : VwIn w p iv x V) (j : Nat) (hj : j < x.u.length) {L : List Fo} (hL : MapA encF Fo.n w' x.u[j] (x.n + 1) L) (hg : w.grownBy w' (some x.u[j])) : VLeft w p iv x { V with U := V.U.set j L } w' { x with n := x.n + 1 } := by
  have hq : ∀ i, x.own p i → i ≠ x.u[j] → w'.heap[i]? = w.heap[i]? := fun i hi hne => hg.block i (h.lt hi) (fun e => hne (by cases e; rfl))
  have hu := h.up (x.n + 1) (Nat.le_succ _)
  have hnd := h.apart
  obtain ⟨L0, _, hm0⟩ := h.maps j hj
  rw [List.nodup_cons, List.nodup_cons, List.mem_cons] at hnd
  refine ⟨⟨(hq p (.inl rfl) (h.ne_map hm0.isMap)).trans h.blk, hu.mapC.kept (hq _ (.inr (.inl rfl)) (fun e => hnd.1 (.inr (e ▸ List.getElem_mem hj)))), hu.setR.kept (hq _ (.inr (.inr (.inl rfl))) (fun e => hnd.2.1 (e ▸ List.getElem_mem hj))), Own.same h.row (fun g hg => hq g (.inr (.inr (.inr (.inr hg)))) (fun e => h.row_ne hm0.isMap (e ▸ hg))), fun i hi => ?_, by simpa using h.len, hu.most, h.apart⟩, (show x.n + 1 ≤ x.n + 4 by omega), FrV.of_grown hg (fun i e => by cases e; exact .inr (.inr (.inr (.inl (List.getElem_mem hj))))), fun i hi => .inl hi⟩
  by_cases e : i = j
  · subst e
    exact ⟨L, by rw [List.getElem?_set_self (by rw [h.len]; exact hj)], hL⟩
  · obtain ⟨L1, h1, h2⟩ := hu.maps i hi
    exact ⟨L1, by rw [List.getElem?_set_ne (fun q => e q.symm)]; exact h1, h2.kept (hq _ (.inr (.inr (.inr (.inl (List.getElem_mem hi))))) (fun q => e (nodup_idx hnd.2.2 hi hj q)))⟩
theorem VLeft.trans {w1 w2 : World} {x1 x2 : VR} {V1 V2 : VS} (h1 : VLeft w p iv x V1 w1 x1) (h2 : VLeft w1 p iv x1 V2 w2 x2) : VwIn w2 p iv x2 V2 ∧ x2.n ≤ x.n + 8 ∧ FrV (x.own p) w w2 ∧ ∀ i, x2.own p i → x.own p i ∨ w.heap.size ≤ i :=
  ⟨h2.vw, by have := h1.more; have := h2.more; omega, h1.fr.trans h2.fr h1.own, fun i hi => by
    rcases h2.own i hi with q | q
    · exact h1.own i q
    · exact .inr (Nat.le_trans h1.fr.size q)⟩
end Go.Proofs.YtgicanpggndbeaaGreat
/- read of a view; stores into its maps at one operation of a drawn region. -/
namespace Go.Proofs.YtgicanpggndbeaaGreat
set_option linter.unusedVariables false
set_option maxRecDepth 100000
open Go.RowKit

section
variable {o : Oper} {a : Act} {w : World} {K : Act → World → Prop} {Q : Exit → Act → World → Prop}
theorem wp_store_s {t te : TypeId} (ht : Tryz.prog.underlying t = some (.map 96 te)) (m x v : Operand) (hop : o.op = Op.mapUpdate t m x v)
    (b n : Nat) (R : List Sp) (hm : a.eval m = .map (some b)) (h : SetA w b n R) (hn : n < 1000000000) (s : Sp) (hx : a.eval x = spv s)
    (hK : ∀ w', SetA w' b (n + 1) (R ++ [s]) → w.grownBy w' (some b) → K (a.put o.dst undef) w') : o.wp Tryz.prog a w K Q := by
  obtain ⟨w', hrun, r1, r2⟩ := h.store ht (by unfold maxLen; omega) s (a.eval v)
  unfold Oper.wp
  simp [execOp, hop, hm, hx, hrun, Result.andThen]
  exact hK w' r1 r2
theorem wp_store_a {α : Type} {k : Nat} {E : Enc α k} {key : α → Int} {t te : TypeId} {z : α} (T : MapTy E t te z) (m x v : Operand) (hop : o.op = Op.mapUpdate t m x v)
    (b n : Nat) (L : List α) (hm : a.eval m = .map (some b)) (h : MapA E key w b n L) (hn : n < 1000000000) (J : Kz) (hx : a.eval x = kv J.k) (y : α) (hv : a.eval v = .agg (E.c y).toArray) (hy : key y = J.n)
    (hK : ∀ w', MapA E key w' b (n + 1) (putA key L y) → w.grownBy w' (some b) → K (a.put o.dst undef) w') : o.wp Tryz.prog a w K Q := by
  obtain ⟨w', hrun, r1, r2⟩ := h.store T (by unfold maxLen; omega) J y hy
  unfold Oper.wp
  simp [execOp, hop, hm, hx, hv, hrun, Result.andThen]
  exact hK w' r1 r2
end
/-- What read holds. -/
structure RdV (y : World) (p q : Nat) (iv cv rv mv : Value) (s : Sp) : Prop where
  blk : y.heap[p]? = some (.cells #[iv, cv, rv, mv] 75 (0, 0))
  box : HasS y q s.F s.T s.e
theorem RdV.span {y : World} {p q : Nat} {iv cv rv mv : Value} {s : Sp} (h : RdV y p q iv cv rv mv s) : y.rangeAt q 0 (sc s.F s.T s.e) := fun j v hv => by
  rw [Nat.zero_add, cell_of_row _ _ _ _ _ _ h.box.blk]
  simpa using hv
theorem RdV.cell2 {y : World} {p q : Nat} {iv cv rv mv : Value} {s : Sp} (h : RdV y p q iv cv rv mv s) : y.cell? ⟨p, 2, none⟩ = some rv := by rw [cell_of_row _ _ _ _ _ _ h.blk]; rfl
theorem spanset : Tryz.prog.underlying 72 = some (.map 96 118) := Tryz.underlying72
set_option maxHeartbeats 4000000 in
theorem vread_calls (w : World) (p : Nat) (iv : Value) (x : VR) (V : VS) (s : Sp) (h : VwIn w p iv x V) (hn : x.n ≤ 100000) :
    Calls Tryz.prog 113 #[.pointer (some ⟨p, 0, none⟩), spv s] w fun e w' => (∃ rv, e = .returned rv) ∧ VLeft w p iv x { V with R := V.R ++ [s] } w' { x with n := x.n + 1 } := by
  have b1 : Below w.heap.size w (w.alloc (.cells (sc s.F s.T s.e).toArray 96)) := (Below.refl _ w).alloc (Nat.le_refl _) _
  have h1 := h.called b1
  have hbx : HasS (w.alloc (.cells (sc s.F s.T s.e).toArray 96)) w.heap.size s.F s.T s.e := ⟨s.hF, s.hT, heap_alloc_new _ _⟩
  have HQ : Hid (w.heap.size ≠ x.r ∧ p ≠ x.r) := ⟨fun e => by have := h.setR.lt; omega, h.ne_map h.setR.isMap⟩
  have HV : Hid (VwIn (w.alloc (.cells (sc s.F s.T s.e).toArray 96)).drew p iv x V ∧ Below w.heap.size w (w.alloc (.cells (sc s.F s.T s.e).toArray 96)).drew) := ⟨h1.called ⟨rfl, rfl, rfl, Nat.le_refl _, fun _ _ => rfl⟩, b1.trans ⟨rfl, rfl, rfl, Nat.le_refl _, fun _ _ => rfl⟩⟩
  have HS : Hid (RdV (w.alloc (.cells (sc s.F s.T s.e).toArray 96)).drew p w.heap.size iv (.map (some x.c)) (.map (some x.r)) x.m s) := ⟨h1.blk, ⟨s.hF, s.hT, hbx.blk⟩⟩
  have HOW : Hid (∀ i, x.own p i → i < w.heap.size) := fun i hi => h.lt hi
  have HKL : Hid ((sc s.F s.T s.e).length = 49) := by show _ = _; simp [sc, bc_length, s.hF, s.hT]
  have HCK : Hid ((Tryz.prog.info? 96).map (·.size) = some 49) := elS.info
  clear h h1 b1 hbx
  go_enter Tryz.func113, Tryz.ntmps113
  go_upto_region 1 with fail
  refine wp_region_noPanic ?_
  refine wp_region_held_drew (S := (fun y => RdV y p w.heap.size iv (.map (some x.c)) (.map (some x.r)) x.m s)) (by kernel_rfl) (HS.out) (fun hHeld => ?_)
  refine wpAnyH_take (i := 0) (v := ?_) rfl (by kernel_rfl) (by kernel_rfl) (by kernel_rfl) (fun _ _ _ h => h) (Or.inl ⟨by rfl, ?_⟩) hHeld ?_
  case refine_2 => (intro w hSw; (try dsimp only at hSw); go_simp; try (with_reducible rfl))
  (try simp only [gs])
  refine wpAnyH_take (i := 1) (v := ?_) rfl (by kernel_rfl) (by kernel_rfl) (by kernel_rfl) (fun _ _ _ h => h) (Or.inl ⟨by rfl, ?_⟩) hHeld ?_
  case refine_2 => (intro w hSw; (try dsimp only at hSw); go_simp; try (with_reducible rfl))
  (try simp only [gs])
  refine wpAnyH_take (i := 2) (v := ?_) rfl (by kernel_rfl) (by kernel_rfl) (by kernel_rfl) (fun _ _ _ h => h) (Or.inl ⟨by rfl, ?_⟩) hHeld ?_
  case refine_2 => (intro w hSw; (try dsimp only at hSw); go_simp; try (with_reducible rfl))
  (try simp only [gs])
  refine wpAnyH_take (i := 3) (v := ?_) rfl (by kernel_rfl) (by kernel_rfl) (by kernel_rfl) (fun _ _ _ h => h) (Or.inl ⟨by rfl, ?_⟩) hHeld ?_
  case refine_2 => (intro w hSw; (try dsimp only at hSw); have hc := hSw.cell2; go_simp; try (with_reducible rfl))
  (try simp only [gs])
  refine wpAnyH_take (i := 4) rfl (by kernel_rfl) (by kernel_rfl) (by kernel_rfl) (fun _ _ _ h => h) (yieldsIf_load_mid (by rfl) _ _ rfl _ _ rfl _ _ (fun y h => RdV.span h) Tryz.underlying96 rfl (by rw [HKL.out]; exact HCK.out)) hHeld ?_
  (try simp only [gs])
  refine wpAnyH_take (i := 5) (v := ?_) rfl (by kernel_rfl) (by kernel_rfl) (by kernel_rfl) (fun _ _ _ h => h) (Or.inl ⟨by rfl, ?_⟩) hHeld ?_
  case refine_2 => (intro w hSw; (try dsimp only at hSw); go_simp; try (with_reducible rfl))
  (try simp only [gs])
  generalize (w.alloc (.cells (sc s.F s.T s.e).toArray 96)).drew = y1 at *
  refine wpAnyH_ready (rs := [6]) (by kernel_rfl) (by simp) (AllReadyH.cons rfl (fun K hK => ?_) AllReadyH.nil)
  rw [if_pos (by rfl)]
  refine wp_store_s spanset _ _ _ rfl x.r x.n V.R rfl HV.out.1.setR (by omega) s rfl ?_
  intro y2 hs2 hg2
  have hB : ∀ i, i < y1.heap.size → i ≠ x.r → y2.heap[i]? = y1.heap[i]? := fun i hi hne => hg2.block i hi (fun e => hne (by cases e; rfl))
  refine hK.out _ _ ⟨(hB p (lt_of_block hHeld.blk) HQ.out.2).trans hHeld.blk, ⟨s.hF, s.hT, (hB _ hHeld.box.lt HQ.out.1).trans hHeld.box.blk⟩⟩ (fun g1 => ?_)
  clear hK K
  refine wpAnyH_done (by kernel_rfl) ?_ _
  refine NoPanic.normal ?_
  have HE : Hid (VLeft y1 p iv x { V with R := V.R ++ [s] } y2 { x with n := x.n + 1 }) := HV.out.1.putR hs2 hg2
  have HB1 : Hid (Below w.heap.size w y1) := HV.out.2
  clear g1 hHeld hs2 hg2 hB HS HV HQ HKL HCK
  go_wp2_with fail
  go_end0
  have E := HE.out
  exact ⟨⟨_, rfl⟩, E.vw, E.more, (FrV.of_below HB1.out).trans E.fr (fun i hi => .inl hi), fun i hi => .inl ((E.own i hi).elim id (fun q => absurd (HOW.out i hi) (by have := HB1.out.size; omega)))⟩
end Go.Proofs.YtgicanpggndbeaaGreat
