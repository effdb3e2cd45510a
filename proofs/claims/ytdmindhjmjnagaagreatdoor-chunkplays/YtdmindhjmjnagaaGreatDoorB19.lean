import Derived.Test.YtdmindhjmjnagaaGreatDoorSi
import Derived.Test.YtdmindhjmjnagaaGreatDoorB12
import Derived.Test.YtdmindhjmjnagaaGreatDoorB18
import Derived.Test.YtdmindhjmjnagaaGreatDoorB01
/- VwF VwG VwH -/
namespace Go.Proofs.YtdmindhjmjnagaaGreatDoor
set_option linter.unusedVariables false
set_option maxRecDepth 1000000
set_option maxHeartbeats 32000000
section
open Go.RowKit
structure Fo where
 k : Kz
 c : Ch
 was : Bool
def Fo.n (f : Fo) : Int := f.k.n
def encF : Enc Fo 27 := ⟨fun f => ccd f.c ++ [.bool f.was], fun f => by have := encC.len f.c; simpa [encC] using this, fun f v hv => by
 rw [List.mem_append, List.mem_singleton] at hv
 rcases hv with h | rfl
 · exact encC.one f.c v h
 · rfl⟩
def fo0 : Fo := ⟨⟨zs 24, rfl⟩, ch0, false⟩
theorem tyF : MapTy encF 243 259 fo0 := ⟨Tryz.underlying243, fun w => by kernel_rfl⟩
theorem elF : ElTy Tryz.prog encF 259 := ⟨⟨_, Tryz.underlying259, rfl, rfl⟩, by kernel_rfl⟩
def encM : Enc Nat 1 := ⟨fun b => [.map (some b)], fun _ => rfl, fun b v hv => by rw [List.mem_singleton] at hv; subst hv; rfl⟩
structure VS where
 C : List Ch
 R : List Sp
 U : List (List Fo)
structure VR where
 c : Nat
 r : Nat
 m : Value
 u : List Nat
 n : Nat
def VR.own (p : Nat) (x : VR) (i : Nat) : Prop := i = p ∨ i = x.c ∨ i = x.r ∨ i ∈ x.u ∨ x.m.ownBlock = some i
structure VwIn (w : World) (p : Nat) (iv : Value) (x : VR) (V : VS) : Prop where
 blk : w.heap[p]? = some (.cells #[iv, .map (some x.c), .map (some x.r), x.m] 77 (0, 0))
 mapC : MapA encC Ch.n w x.c x.n V.C
 setR : SetA w x.r x.n V.R
 row : Own encM 243 w 0 x.m x.u
 maps : ∀ i (h : i < x.u.length), ∃ L, V.U[i]? = some L ∧ MapA encF Fo.n w x.u[i] x.n L
 len : V.U.length = x.u.length
 most : x.u.length ≤ x.n
 apart : (x.c :: x.r :: x.u).Nodup
theorem MapA.isMap {α : Type} {k : Nat} {E : Enc α k} {key : α → Int} {w : World} {b n : Nat} {L : List α} (h : MapA E key w b n L) : ∃ es c, w.heap[b]? = some (.map es c) := by
 obtain ⟨⟨D, ⟨es, clock, h1, h2⟩, h3⟩, h4⟩ := h
 exact ⟨es, clock, h1⟩
theorem SetA.isMap {w : World} {b n : Nat} {R : List Sp} (h : SetA w b n R) : ∃ es c, w.heap[b]? = some (.map es c) := by
 obtain ⟨D, ⟨es, clock, h1, h2⟩, h3⟩ := h
 exact ⟨es, clock, h1⟩
theorem SetA.mono {w : World} {b n n' : Nat} {R : List Sp} (h : SetA w b n R) (hn : n ≤ n') : SetA w b n' R := by
 obtain ⟨D, h1, h3⟩ := h
 exact ⟨D, h1.mono hn, h3⟩
variable {w w' : World} {p : Nat} {iv : Value} {x : VR} {V : VS}
theorem VwIn.kept (h : VwIn w p iv x V) (hk : ∀ i, x.own p i → w'.heap[i]? = w.heap[i]?) : VwIn w' p iv x V :=
 ⟨(hk p (.inl rfl)).trans h.blk, h.mapC.kept (hk _ (.inr (.inl rfl))), h.setR.kept (hk _ (.inr (.inr (.inl rfl)))), Own.same h.row (fun g hg => hk g (.inr (.inr (.inr (.inr hg))))),
   fun i hi => by
    obtain ⟨L, h1, h2⟩ := h.maps i hi
    exact ⟨L, h1, h2.kept (hk _ (.inr (.inr (.inr (.inl (List.getElem_mem hi))))))⟩, h.len, h.most, h.apart⟩
theorem VwIn.lt (h : VwIn w p iv x V) {i : Nat} (hi : x.own p i) : i < w.heap.size := by
 rcases hi with rfl | rfl | rfl | hi | hi
 · exact lt_of_block h.blk
 · exact h.mapC.lt
 · exact h.setR.lt
 · obtain ⟨j, hj, rfl⟩ := List.mem_iff_getElem.1 hi
   obtain ⟨L, _, h2⟩ := h.maps j hj
   exact h2.lt
 · exact (h.row.lt i hi).2
theorem VwIn.called (h : VwIn w p iv x V) (b : Below w.heap.size w w') : VwIn w' p iv x V := h.kept fun i hi => b.block i (h.lt hi)
structure FrV (S : Nat → Prop) (w w' : World) : Prop where
 bel : Below 0 w w'
 block : ∀ i, i < w.heap.size → ¬ S i → w'.heap[i]? = w.heap[i]?
theorem FrV.refl (S : Nat → Prop) (w : World) : FrV S w w := ⟨Below.refl _ w, fun _ _ _ => rfl⟩
theorem FrV.size {S : Nat → Prop} (h : FrV S w w') : w.heap.size ≤ w'.heap.size := h.bel.size
theorem FrV.of_below {S : Nat → Prop} (h : Below w.heap.size w w') : FrV S w w' := ⟨⟨h.os, h.tape, h.output, h.size, fun k hk => absurd hk (Nat.not_lt_zero k)⟩, fun i hi _ => h.block i hi⟩
theorem FrV.of_grown {S : Nat → Prop} {row : Option Nat} (h : w.grownBy w' row) (hS : ∀ i, row = some i → S i) : FrV S w w' := ⟨⟨h.os, h.tape, h.output, h.size, fun k hk => absurd hk (Nat.not_lt_zero k)⟩, fun i hi hn => h.block i hi (fun e => hn (hS i e.symm))⟩
theorem FrV.trans {S S' : Nat → Prop} {w1 w2 : World} (h1 : FrV S w w1) (h2 : FrV S' w1 w2) (hS : ∀ i, S' i → S i ∨ w.heap.size ≤ i) : FrV S w w2 :=
 ⟨h1.bel.trans h2.bel, fun i hi hn => (h2.block i (by have := h1.size; omega) (fun e => (hS i e).elim hn (fun q => by omega))).trans (h1.block i hi hn)⟩
theorem FrV.below {S : Nat → Prop} {B : Nat} (h : FrV S w w') (hS : ∀ i, S i → B ≤ i) (hB : B ≤ w.heap.size) : Below B w w' := ⟨h.bel.os, h.bel.tape, h.bel.output, h.bel.size, fun k hk => h.block k (by omega) (fun e => by have := hS k e; omega)⟩
structure VLeft (w : World) (p : Nat) (iv : Value) (x : VR) (V : VS) (w' : World) (x' : VR) : Prop where
 vw : VwIn w' p iv x' V
 more : x'.n ≤ x.n + 4
 fr : FrV (x.own p) w w'
 own : ∀ i, x'.own p i → x.own p i ∨ w.heap.size ≤ i
theorem VwIn.up (h : VwIn w p iv x V) (n : Nat) (hn : x.n ≤ n) : VwIn w p iv { x with n := n } V :=
 ⟨h.blk, h.mapC.mono hn, h.setR.mono hn, h.row, fun i hi => by
  obtain ⟨L, h1, h2⟩ := h.maps i hi
  exact ⟨L, h1, h2.mono hn⟩, h.len, Nat.le_trans h.most hn, h.apart⟩
theorem VwIn.cell (h : VwIn w p iv x V) : w.cell? ⟨p, 0, none⟩ = some iv ∧ w.cell? ⟨p, 1, none⟩ = some (.map (some x.c)) ∧ w.cell? ⟨p, 2, none⟩ = some (.map (some x.r)) ∧ w.cell? ⟨p, 3, none⟩ = some x.m := by
 refine ⟨?_, ?_, ?_, ?_⟩ <;> · rw [cell_of_row _ _ _ _ _ _ h.blk]; rfl
theorem VwIn.ne_map (h : VwIn w p iv x V) {b : Nat} (hb : ∃ es c, w.heap[b]? = some (.map es c)) : p ≠ b := fun e => by
 obtain ⟨es, c, hb⟩ := hb
 rw [← e, h.blk] at hb
 cases hb
theorem VwIn.row_ne (h : VwIn w p iv x V) {b : Nat} (hb : ∃ es c, w.heap[b]? = some (.map es c)) : x.m.ownBlock ≠ some b := fun e => by
 obtain ⟨es, c, hb⟩ := hb
 rcases ownsRow_ne_a h.row hb (fun cur q => by cases q) with q | q
 · rw [q] at e; cases e
 · exact q e
theorem VwIn.putR (h : VwIn w p iv x V) {R : List Sp} (hR : SetA w' x.r (x.n + 1) R) (hg : w.grownBy w' (some x.r)) : VLeft w p iv x { V with R := R } w' { x with n := x.n + 1 } := by
 have hq : ∀ i, x.own p i → i ≠ x.r → w'.heap[i]? = w.heap[i]? := fun i hi hne => hg.block i (h.lt hi) (fun e => hne (by cases e; rfl))
 have hu := h.up (x.n + 1) (Nat.le_succ _)
 have hnd := h.apart
 rw [List.nodup_cons, List.nodup_cons, List.mem_cons] at hnd
 refine ⟨⟨(hq p (.inl rfl) (h.ne_map h.setR.isMap)).trans h.blk, hu.mapC.kept (hq _ (.inr (.inl rfl)) (fun e => hnd.1 (.inl e))), hR, Own.same h.row (fun g hg => hq g (.inr (.inr (.inr (.inr hg)))) (fun e => h.row_ne h.setR.isMap (e ▸ hg))), fun i hi => ?_, h.len, hu.most, h.apart⟩, (show x.n + 1 ≤ x.n + 4 by omega), FrV.of_grown hg (fun i e => by cases e; exact .inr (.inr (.inl rfl))), fun i hi => .inl hi⟩
 obtain ⟨L, h1, h2⟩ := hu.maps i hi
 exact ⟨L, h1, h2.kept (hq _ (.inr (.inr (.inr (.inl (List.getElem_mem hi))))) (fun e => hnd.2.1 (e ▸ List.getElem_mem hi)))⟩
theorem VwIn.putC (h : VwIn w p iv x V) {C : List Ch} (hC : MapA encC Ch.n w' x.c (x.n + 1) C) (hg : w.grownBy w' (some x.c)) : VLeft w p iv x { V with C := C } w' { x with n := x.n + 1 } := by
 have hq : ∀ i, x.own p i → i ≠ x.c → w'.heap[i]? = w.heap[i]? := fun i hi hne => hg.block i (h.lt hi) (fun e => hne (by cases e; rfl))
 have hu := h.up (x.n + 1) (Nat.le_succ _)
 have hnd := h.apart
 rw [List.nodup_cons, List.nodup_cons, List.mem_cons] at hnd
 refine ⟨⟨(hq p (.inl rfl) (h.ne_map h.mapC.isMap)).trans h.blk, hC, hu.setR.kept (hq _ (.inr (.inr (.inl rfl))) (fun e => hnd.1 (.inl e.symm))), Own.same h.row (fun g hg => hq g (.inr (.inr (.inr (.inr hg)))) (fun e => h.row_ne h.mapC.isMap (e ▸ hg))), fun i hi => ?_, h.len, hu.most, h.apart⟩, (show x.n + 1 ≤ x.n + 4 by omega), FrV.of_grown hg (fun i e => by cases e; exact .inr (.inl rfl)), fun i hi => .inl hi⟩
 obtain ⟨L, h1, h2⟩ := hu.maps i hi
 exact ⟨L, h1, h2.kept (hq _ (.inr (.inr (.inr (.inl (List.getElem_mem hi))))) (fun e => hnd.1 (.inr (e ▸ List.getElem_mem hi))))⟩
theorem nodup_idx {l : List Nat} (h : l.Nodup) {i j : Nat} (hi : i < l.length) (hj : j < l.length) (e : l[i] = l[j]) : i = j := by
 have hp := List.pairwise_iff_getElem.1 h
 rcases Nat.lt_trichotomy i j with q | q | q
 · exact absurd e (hp i j hi hj q)
 · exact q
 · exact absurd e.symm (hp j i hj hi q)
theorem VwIn.putU (h : VwIn w p iv x V) (j : Nat) (hj : j < x.u.length) {L : List Fo} (hL : MapA encF Fo.n w' x.u[j] (x.n + 1) L) (hg : w.grownBy w' (some x.u[j])) : VLeft w p iv x { V with U := V.U.set j L } w' { x with n := x.n + 1 } := by
 have hq : ∀ i, x.own p i → i ≠ x.u[j] → w'.heap[i]? = w.heap[i]? := fun i hi hne => hg.block i (h.lt hi) (fun e => hne (by cases e; rfl))
 have hu := h.up (x.n + 1) (Nat.le_succ _)
 have hnd := h.apart
 obtain ⟨L0, _, hm0⟩ := h.maps j hj
 rw [List.nodup_cons, List.nodup_cons, List.mem_cons] at hnd
 refine ⟨⟨(hq p (.inl rfl) (h.ne_map hm0.isMap)).trans h.blk, hu.mapC.kept (hq _ (.inr (.inl rfl)) (fun e => hnd.1 (.inr (e ▸ List.getElem_mem hj)))), hu.setR.kept (hq _ (.inr (.inr (.inl rfl))) (fun e => hnd.2.1 (e ▸ List.getElem_mem hj))), Own.same h.row (fun g hg => hq g (.inr (.inr (.inr (.inr hg)))) (fun e => h.row_ne hm0.isMap (e ▸ hg))), fun i hi => ?_, by simpa using h.len, hu.most, h.apart⟩, (show x.n + 1 ≤ x.n + 4 by omega), FrV.of_grown hg (fun i e => by cases e; exact .inr (.inr (.inr (.inl (List.getElem_mem hj))))), fun i hi => .inl hi⟩
 by_cases e : i = j
 · subst e
   exact ⟨L, by rw [List.getElem?_set_self (by rw [h.len]; exact hj)], hL⟩
 · obtain ⟨L1, h1, h2⟩ := hu.maps i hi
   exact ⟨L1, by rw [List.getElem?_set_ne (fun q => e q.symm)]; exact h1, h2.kept (hq _ (.inr (.inr (.inr (.inl (List.getElem_mem hi))))) (fun q => e (nodup_idx hnd.2.2 hi hj q)))⟩
end
section
open Go.RowKit
section
variable {o : Oper} {a : Act} {w : World} {K : Act → World → Prop} {Q : Exit → Act → World → Prop}
theorem wp_store_s {t te : TypeId} (ht : Tryz.prog.underlying t = some (.map 56 te)) (m x v : Operand) (hop : o.op = Op.mapUpdate t m x v)
    (b n : Nat) (R : List Sp) (hm : a.eval m = .map (some b)) (h : SetA w b n R) (hn : n < 1000000000) (s : Sp) (hx : a.eval x = spv s)
    (hK : ∀ w', SetA w' b (n + 1) (R ++ [s]) → w.grownBy w' (some b) → K (a.put o.dst undef) w') : o.wp Tryz.prog a w K Q := by
 obtain ⟨w', hrun, r1, r2⟩ := h.store ht (by unfold maxLen; omega) s (a.eval v)
 unfold Oper.wp
 simp [execOp, hop, hm, hx, hrun, Result.andThen]
 exact hK w' r1 r2
theorem wp_store_a {α : Type} {k : Nat} {E : Enc α k} {key : α → Int} {t te : TypeId} {z : α} (T : MapTy E t te z) (m x v : Operand) (hop : o.op = Op.mapUpdate t m x v)
    (b n : Nat) (L : List α) (hm : a.eval m = .map (some b)) (h : MapA E key w b n L) (hn : n < 1000000000) (J : Kz) (hx : a.eval x = kv J.k) (y : α) (hv : a.eval v = .agg (E.c y).toArray) (hy : key y = J.n)
    (hK : ∀ w', MapA E key w' b (n + 1) (putA key L y) → w.grownBy w' (some b) → K (a.put o.dst undef) w') : o.wp Tryz.prog a w K Q := by
 obtain ⟨w', hrun, r1, r2⟩ := h.store T (by unfold maxLen; omega) J y hy
 unfold Oper.wp
 simp [execOp, hop, hm, hx, hv, hrun, Result.andThen]
 exact hK w' r1 r2
end
structure RdV (y : World) (p q : Nat) (iv cv rv mv : Value) (s : Sp) : Prop where
 blk : y.heap[p]? = some (.cells #[iv, cv, rv, mv] 77 (0, 0))
 box : HasS y q s.F s.T s.e
theorem RdV.span {y : World} {p q : Nat} {iv cv rv mv : Value} {s : Sp} (h : RdV y p q iv cv rv mv s) : y.rangeAt q 0 (sc s.F s.T s.e) := fun j v hv => by
 rw [Nat.zero_add, cell_of_row _ _ _ _ _ _ h.box.blk]
 simpa using hv
theorem RdV.cell2 {y : World} {p q : Nat} {iv cv rv mv : Value} {s : Sp} (h : RdV y p q iv cv rv mv s) : y.cell? ⟨p, 2, none⟩ = some rv := by rw [cell_of_row _ _ _ _ _ _ h.blk]; rfl
theorem spanset : Tryz.prog.underlying 74 = some (.map 56 106) := Tryz.underlying74
theorem vread_calls (w : World) (p : Nat) (iv : Value) (x : VR) (V : VS) (s : Sp) (h : VwIn w p iv x V) (hn : x.n ≤ 100000) :
    Calls Tryz.prog 53 #[.pointer (some ⟨p, 0, none⟩), spv s] w fun e w' => (∃ rv, e = .returned rv) ∧ VLeft w p iv x { V with R := V.R ++ [s] } w' { x with n := x.n + 1 } := by
 have b1 : Below w.heap.size w (w.alloc (.cells (sc s.F s.T s.e).toArray 56)) := (Below.refl _ w).alloc (Nat.le_refl _) _
 have h1 := h.called b1
 have hbx : HasS (w.alloc (.cells (sc s.F s.T s.e).toArray 56)) w.heap.size s.F s.T s.e := ⟨s.hF, s.hT, heap_alloc_new _ _⟩
 have HQ : Hid (w.heap.size ≠ x.r ∧ p ≠ x.r) := ⟨fun e => by have := h.setR.lt; omega, h.ne_map h.setR.isMap⟩
 have HV : Hid (VwIn (w.alloc (.cells (sc s.F s.T s.e).toArray 56)).drew p iv x V ∧ Below w.heap.size w (w.alloc (.cells (sc s.F s.T s.e).toArray 56)).drew) := ⟨h1.called ⟨rfl, rfl, rfl, Nat.le_refl _, fun _ _ => rfl⟩, b1.trans ⟨rfl, rfl, rfl, Nat.le_refl _, fun _ _ => rfl⟩⟩
 have HS : Hid (RdV (w.alloc (.cells (sc s.F s.T s.e).toArray 56)).drew p w.heap.size iv (.map (some x.c)) (.map (some x.r)) x.m s) := ⟨h1.blk, ⟨s.hF, s.hT, hbx.blk⟩⟩
 have HOW : Hid (∀ i, x.own p i → i < w.heap.size) := fun i hi => h.lt hi
 have HKL : Hid ((sc s.F s.T s.e).length = 49) := by show _ = _; simp [sc, bc_length, s.hF, s.hT]
 have HCK : Hid ((Tryz.prog.info? 56).map (·.size) = some 49) := elS.info
 clear h h1 b1 hbx
 go_enter Tryz.func53, Tryz.ntmps53
 go_upto_region 1 with fail
 refine wp_region_noPanic ?_
 refine wp_region_held_drew (S := (fun y => RdV y p w.heap.size iv (.map (some x.c)) (.map (some x.r)) x.m s)) (by kernel_rfl) (HS.out) (fun hh => ?_)
 refine tl ?_ 0 rfl hh ⟨by rfl, ?_⟩ ?_
 case refine_2 => (intro w hSw; go_simp; try with_reducible rfl)
 (try simp only [gs])
 refine tl ?_ 1 rfl hh ⟨by rfl, ?_⟩ ?_
 case refine_2 => (intro w hSw; go_simp; try with_reducible rfl)
 (try simp only [gs])
 refine tl ?_ 2 rfl hh ⟨by rfl, ?_⟩ ?_
 case refine_2 => (intro w hSw; go_simp; try with_reducible rfl)
 (try simp only [gs])
 refine tl ?_ 3 rfl hh ⟨by rfl, ?_⟩ ?_
 case refine_2 => (intro w hSw; have hc := hSw.cell2; go_simp; try with_reducible rfl)
 (try simp only [gs])
 refine tk 4 rfl hh (yieldsIf_load_mid (by rfl) _ _ rfl _ _ rfl _ _ (fun y h => RdV.span h) Tryz.underlying56 rfl (by rw [HKL.out]; exact HCK.out)) ?_
 (try simp only [gs])
 refine tl ?_ 5 rfl hh ⟨by rfl, ?_⟩ ?_
 case refine_2 => (intro w hSw; go_simp; try with_reducible rfl)
 (try simp only [gs])
 generalize (w.alloc (.cells (sc s.F s.T s.e).toArray 56)).drew = y1 at *
 refine wpAnyH_ready (rs := [6]) (by kernel_rfl) (by simp) (AllReadyH.cons rfl (fun K hK => ?_) AllReadyH.nil)
 rw [if_pos (by rfl)]
 refine wp_store_s spanset _ _ _ rfl x.r x.n V.R rfl HV.out.1.setR (by omega) s rfl ?_
 intro y2 hs2 hg2
 have hB : ∀ i, i < y1.heap.size → i ≠ x.r → y2.heap[i]? = y1.heap[i]? := fun i hi hne => hg2.block i hi (fun e => hne (by cases e; rfl))
 refine hK.out _ _ ⟨(hB p (lt_of_block hh.blk) HQ.out.2).trans hh.blk, ⟨s.hF, s.hT, (hB _ hh.box.lt HQ.out.1).trans hh.box.blk⟩⟩ (fun g1 => ?_)
 clear hK K
 refine wpAnyH_done (by kernel_rfl) ?_ _
 refine NoPanic.normal ?_
 have HE : Hid (VLeft y1 p iv x { V with R := V.R ++ [s] } y2 { x with n := x.n + 1 }) := HV.out.1.putR hs2 hg2
 have HB1 : Hid (Below w.heap.size w y1) := HV.out.2
 clear g1 hh hs2 hg2 hB HS HV HQ HKL HCK
 go_wp2_with fail
 go_end0
 have E := HE.out
 exact ⟨⟨_, rfl⟩, E.vw, E.more, (FrV.of_below HB1.out).trans E.fr (fun i hi => .inl hi), fun i hi => .inl ((E.own i hi).elim id (fun q => absurd (HOW.out i hi) (by have := HB1.out.size; omega)))⟩
end
section
open Go.RowKit
def keepL (C : List Ch) (L : List Fo) (J : Kz) : List Fo := if (look Fo.n L J.n).isSome = true then L else putA Fo.n L ⟨J, (look Ch.n C J.n).getD ch0, (look Ch.n C J.n).isSome⟩
theorem built_Fz (parts : List (Nat × Value)) : Tryz.prog.built 259 parts = Instr.fill ([(0, 26), (26, 1)].toArray[·]?) (encF.c fo0).toArray parts := built_of _ _ _ (by kernel_rfl) (by kernel_rfl) parts
theorem built_f (c : Ch) (b : Bool) : Tryz.prog.built 259 [(0, .agg (encC.c c).toArray), (1, .bool b)] = some (ccd c ++ [Value.bool b]).toArray := by
 have hc : (ccd c).length = 26 := encC.len c
 have h0 : (ccd ch0).length = 26 := encC.len ch0
 rw [built_Fz, fill_put (off := 0) (size := 26) rfl (by simp [Value.cells, encC, hc]) (by simp [encF, fo0, h0]), fill_put (off := 26) (size := 1) rfl rfl (by simp [Value.cells, encC, hc, encF, fo0, h0])]
 simp only [Instr.fill, Value.cells, encC, encF, fo0, List.toList_toArray, List.take_zero, List.nil_append, Nat.zero_add]
 rw [List.drop_append_of_le_length (by omega), List.drop_of_length_le (by omega), List.nil_append]
 congr 2
 rw [List.take_append_of_le_length (by omega), List.take_of_length_le (by omega), List.drop_of_length_le (by simp [hc])]
 simp
theorem build_f {ops : Array Oper} {rest : List Oper} {o : Oper} {a : Act} {w : World} {Q : Exit → Act → World → Prop} (hg : o.guard = none) (x y : Operand) (ho : o.op = .build 259 #[(0, x), (1, y)]) (c : Ch) (b : Bool) (hx : a.eval x = .agg (encC.c c).toArray) (hy : a.eval y = .bool b)
    (h : wpList Tryz.prog ops Q rest (a.put o.dst (.agg (ccd c ++ [Value.bool b]).toArray)) w) : wpList Tryz.prog ops Q (o :: rest) a w :=
 wpList_plain hg fun _ hK => by
  unfold Oper.wp
  rw [exec_build ho (by simpa [hx, hy] using built_f c b) w]
  exact hK _ _ h
theorem wp_store_el {α : Type} {k : Nat} {E : Enc α k} {ty : TypeId} {o : Oper} {a : Act} {w : World} {K : Act → World → Prop} {Q : Exit → Act → World → Prop} (R : ElTy Tryz.prog E ty) (x y : Operand) (ho : o.op = .store ty x y) (b : Nat) (hx : a.eval x = .pointer (some ⟨b, 0, none⟩)) (e : α) (hy : a.eval y = .agg (E.c e).toArray) (e0 : α) (hK : InB E ty w b e0)
    (h : ∀ w', InB E ty w' b e → Touch b none w w' → w'.heap.size = w.heap.size → K (a.put o.dst undef) w') : o.wp Tryz.prog a w K Q :=
 wp_store_row _ x y ho b _ hx hy _ _ hK.blk (by rw [E.size]; exact R.info) (by rw [E.size, E.size]) (E.all e) (h _ ⟨setRow_heap w b _ _ _ _ hK.blk⟩ (touch_setRow _ _ _) (by simp))
structure KpV (w0 y : World) (p q : Nat) (iv cv rv mv : Value) (c n : Nat) (C : List Ch) (J : Kz) : Prop where
 bel : Below w0.heap.size w0 y
 blk : y.heap[p]? = some (.cells #[iv, cv, rv, mv] 77 (0, 0))
 box : Has y q J.k
 mp : MapA encC Ch.n y c n C
theorem KpV.called {w0 y z : World} {p q : Nat} {iv cv rv mv : Value} {c n : Nat} {C : List Ch} {J : Kz} (h : KpV w0 y p q iv cv rv mv c n C J) (b : Below y.heap.size y z) : KpV w0 z p q iv cv rv mv c n C J := ⟨h.bel.trans (b.mono h.bel.size), (b.block p (lt_of_block h.blk)).trans h.blk, h.box.below b h.box.lt, h.mp.below b (Nat.le_refl _)⟩
theorem KpV.key {w0 y : World} {p q : Nat} {iv cv rv mv : Value} {c n : Nat} {C : List Ch} {J : Kz} (h : KpV w0 y p q iv cv rv mv c n C J) : y.rangeAt q 0 (bc J.k) := fun j v hv => by
 rw [Nat.zero_add, cell_of_row _ _ _ _ _ _ h.box.blk]
 simpa using hv
theorem KpV.cell1 {w0 y : World} {p q : Nat} {iv cv rv mv : Value} {c n : Nat} {C : List Ch} {J : Kz} (h : KpV w0 y p q iv cv rv mv c n C J) : y.cell? ⟨p, 1, none⟩ = some cv := by rw [cell_of_row _ _ _ _ _ _ h.blk]; rfl
theorem VLeft.shift {w w1 w2 : World} {p : Nat} {iv : Value} {x : VR} {V : VS} {x' : VR} (h0 : ∀ i, x.own p i → i < w.heap.size) (b : Below w.heap.size w w1) (h : VLeft w1 p iv x V w2 x') : VLeft w p iv x V w2 x' :=
 ⟨h.vw, h.more, (FrV.of_below b).trans h.fr (fun i hi => .inl hi), fun i hi => (h.own i hi).imp id (fun q => Nat.le_trans b.size q)⟩
theorem VwIn.left {w w' : World} {p : Nat} {iv : Value} {x : VR} {V : VS} (h : VwIn w p iv x V) (b : Below w.heap.size w w') : VLeft w p iv x V w' { x with n := x.n + 1 } := ⟨(h.called b).up _ (Nat.le_succ _), (show x.n + 1 ≤ x.n + 4 by omega), FrV.of_below b, fun i hi => .inl hi⟩
theorem VS.set_same (V : VS) (j : Nat) (L : List Fo) (h : V.U[j]? = some L) : { V with U := V.U.set j L } = V := by
 obtain ⟨hj, e⟩ := List.getElem?_eq_some_iff.1 h
 have : V.U.set j L = V.U := by rw [← e]; exact List.set_getElem_self hj
 rw [this]
theorem VwIn.mapU {w : World} {p : Nat} {iv : Value} {x : VR} {V : VS} (h : VwIn w p iv x V) {j ub : Nat} {L : List Fo} (hu : x.u[j]? = some ub) (hL : V.U[j]? = some L) : MapA encF Fo.n w ub x.n L := by
 obtain ⟨hj, rfl⟩ := List.getElem?_eq_some_iff.1 hu
 obtain ⟨L', h1, h2⟩ := h.maps j hj
 rw [hL] at h1
 cases h1
 exact h2
theorem VwIn.putU' {w w' : World} {p : Nat} {iv : Value} {x : VR} {V : VS} (h : VwIn w p iv x V) {j ub : Nat} (hu : x.u[j]? = some ub) {L : List Fo} (hL : MapA encF Fo.n w' ub (x.n + 1) L) (hg : w.grownBy w' (some ub)) : VLeft w p iv x { V with U := V.U.set j L } w' { x with n := x.n + 1 } := by
 obtain ⟨hj, rfl⟩ := List.getElem?_eq_some_iff.1 hu
 exact h.putU j hj hL hg
theorem keep_calls (w : World) (p : Nat) (iv : Value) (x : VR) (V : VS) (j ub : Nat) (hj : x.u[j]? = some ub) (L : List Fo) (hL : V.U[j]? = some L) (J : Kz) (h : VwIn w p iv x V) (hn : x.n ≤ 100000) :
    Calls Tryz.prog 187 #[.pointer (some ⟨p, 0, none⟩), .map (some ub), kv J.k] w fun e w' => (∃ rv, e = .returned rv) ∧ VLeft w p iv x { V with U := V.U.set j (keepL V.C L J) } w' { x with n := x.n + 1 } := by
 have b1 : Below w.heap.size w (w.alloc (.cells (bc J.k).toArray 54)) := (Below.refl _ w).alloc (Nat.le_refl _) _
 have hk1 : Has (w.alloc (.cells (bc J.k).toArray 54)) w.heap.size J.k := Has.new w J.k J.h
 have h1 := h.called b1
 have hM := h1.mapU hj hL
 have hlk := hM.look2 tyF J
 have HOW : Hid (∀ i, x.own p i → i < w.heap.size) := fun i hi => h.lt hi
 have H1 : Hid (VwIn (w.alloc (.cells (bc J.k).toArray 54)) p iv x V) := h1
 have HB1 : Hid (Below w.heap.size w (w.alloc (.cells (bc J.k).toArray 54))) := b1
 have HH : Hid (VwIn w p iv x V) := h
 have HLJ : Hid (V.U[j]? = some L) := hL
 have HUB : Hid (x.u[j]? = some ub) := hj
 have HKP : Hid (keepL V.C L J = if (look Fo.n L J.n).isSome = true then L else putA Fo.n L ⟨J, (look Ch.n V.C J.n).getD ch0, (look Ch.n V.C J.n).isSome⟩) := rfl
 have HMU : Hid (∀ y, Below (w.alloc (.cells (bc J.k).toArray 54)).heap.size (w.alloc (.cells (bc J.k).toArray 54)) y → MapA encF Fo.n y ub x.n L) := fun y hy => hM.below hy (Nat.le_refl _)
 generalize keepL V.C L J = KL at *
 clear h h1 b1 hM hL hj
 cases hs : (look Fo.n L J.n).isSome with
 | true =>
  have HKE : Hid (KL = L) := (show _ = _ by rw [HKP.out, if_pos hs])
  rw [hs] at hlk
  clear hs HKP
  generalize (look Fo.n L J.n).getD fo0 = f0 at *
  go_enter Tryz.func187, Tryz.ntmps187
  go_upto_region 1 with fail
  generalize (w.alloc (.cells (bc J.k).toArray 54)) = w1 at *
  go_wp2_with (first
   | (refine load_key _ rfl w.heap.size rfl rfl J.k hk1 ?_)
   | (refine store_el elF rfl _ _ rfl w1.heap.size rfl f0 rfl fo0 (InB.new encF 259 _ fo0 _ rfl) ?_; intro x1 hu1 tx1 sx1))
  ((try simp only [Exit.inBlock, Exit.then]); refine bodyPost_ret (results_none rfl _ _ _) rfl ?_)
  have BX : Below w1.heap.size w1 x1 := ((Below.refl _ _).alloc (Nat.le_refl _) _).trans (tx1.below (by simp) (Nat.le_refl _) (by simp))
  refine ⟨⟨_, rfl⟩, ?_⟩
  rw [HKE.out, VS.set_same V j L HLJ.out]
  exact HH.out.left (HB1.out.trans (BX.mono HB1.out.size))
 | false =>
  have HKE : Hid (KL = putA Fo.n L ⟨J, (look Ch.n V.C J.n).getD ch0, (look Ch.n V.C J.n).isSome⟩) := (show _ = _ by rw [HKP.out, if_neg (by rw [hs]; simp)])
  rw [hs] at hlk
  clear hs HKP
  generalize (look Fo.n L J.n).getD fo0 = f0 at *
  go_enter Tryz.func187, Tryz.ntmps187
  go_upto_region 1 with fail
  generalize (w.alloc (.cells (bc J.k).toArray 54)) = w1 at *
  go_upto_region 3 with (first
   | (refine load_key _ rfl w.heap.size rfl rfl J.k hk1 ?_)
   | (refine store_el elF rfl _ _ rfl w1.heap.size rfl f0 rfl fo0 (InB.new encF 259 _ fo0 _ rfl) ?_; intro x1 hu1 tx1 sx1))
  have BX : Below w1.heap.size w1 x1 := ((Below.refl _ _).alloc (Nat.le_refl _) _).trans (tx1.below (by simp) (Nat.le_refl _) (by simp))
  have V1 := H1.out.called BX
  have B1 : Below w.heap.size w x1 := HB1.out.trans (BX.mono HB1.out.size)
  have HMU1 : Hid (∀ y, Below x1.heap.size x1 y → MapA encF Fo.n y ub x.n L) := fun y hy => HMU.out y (BX.trans (hy.mono BX.size))
  have HS : Hid (KpV x1 x1.drew p w.heap.size iv (.map (some x.c)) (.map (some x.r)) x.m x.c x.n V.C J) := (show KpV _ _ _ _ _ _ _ _ _ _ _ _ from KpV.called ⟨Below.refl _ _, V1.blk, hk1.below BX hk1.lt, V1.mapC⟩ ⟨rfl, rfl, rfl, Nat.le_refl _, fun _ _ => rfl⟩)
  have HV1 : Hid (VwIn x1 p iv x V ∧ Below w.heap.size w x1) := ⟨V1, B1⟩
  have HKL : Hid ((bc J.k).length = 24) := (show _ = _ by rw [bc_length, J.h])
  have HCK : Hid ((Tryz.prog.info? 54).map (·.size) = some 24) := Tryz.key_info
  clear BX V1 B1 HMU H1 HB1 tx1 sx1 hu1 hlk hk1
  refine wp_region_noPanic ?_
  refine wp_region_held_drew (S := (fun y => KpV x1 y p w.heap.size iv (.map (some x.c)) (.map (some x.r)) x.m x.c x.n V.C J)) (by kernel_rfl) (HS.out) (fun hh => ?_)
  refine tl ?_ 0 rfl hh ⟨by rfl, ?_⟩ ?_
  case refine_2 => (intro w hSw; go_simp; try with_reducible rfl)
  (try simp only [gs])
  refine tl ?_ 1 rfl hh ⟨by rfl, ?_⟩ ?_
  case refine_2 => (intro w hSw; go_simp; try with_reducible rfl)
  (try simp only [gs])
  refine tl ?_ 2 rfl hh ⟨by rfl, ?_⟩ ?_
  case refine_2 => (intro w hSw; go_simp; try with_reducible rfl)
  (try simp only [gs])
  refine tl ?_ 3 rfl hh ⟨by rfl, ?_⟩ ?_
  case refine_2 => (intro w hSw; have hc := hSw.cell1; go_simp; try with_reducible rfl)
  (try simp only [gs])
  refine tk 4 rfl hh (yieldsIf_load_mid (by rfl) _ _ rfl _ _ rfl _ _ (fun y h => KpV.key h) Tryz.underlying54 rfl (by rw [HKL.out]; exact HCK.out)) ?_
  (try simp only [gs])
  refine tl ?_ 5 rfl hh ⟨by rfl, ?_⟩ ?_
  case refine_2 => (intro w hSw; have hlk := hSw.mp.look2 tyC J; go_simp; try with_reducible rfl)
  (try simp only [gs])
  generalize (look Ch.n V.C J.n).getD ch0 = c0 at *
  generalize (look Ch.n V.C J.n).isSome = wa at *
  refine tl ?_ 6 rfl hh ⟨by rfl, ?_⟩ ?_
  case refine_2 => (intro w hSw; go_simp; try with_reducible rfl)
  (try simp only [gs])
  refine tl ?_ 7 rfl hh ⟨by rfl, ?_⟩ ?_
  case refine_2 => (intro w hSw; go_simp; try with_reducible rfl)
  (try simp only [gs])
  generalize x1.drew = y1 at *
  refine tl ?_ 8 rfl hh ⟨by rfl, ?_⟩ ?_
  case refine_2 => (intro w hSw; go_simp; try with_reducible rfl)
  (try simp only [gs])
  refine wpAnyH_ready (rs := [9]) (by kernel_rfl) (by simp) (AllReadyH.cons rfl (fun K hK => ?_) AllReadyH.nil)
  rw [if_pos (by rfl)]
  (try simp only [gs])
  go_simp
  refine hK.out _ _ (hh.called ((Below.refl _ y1).alloc (Nat.le_refl _) _)) (fun g1 => ?_)
  clear hK K
  (try simp only [gs])
  refine wpAnyH_ready (rs := [10]) (by kernel_rfl) (by simp) (AllReadyH.cons rfl (fun K hK => ?_) AllReadyH.nil)
  rw [if_pos (by rfl)]
  (try simp only [gs])
  refine wp_store_el elC _ _ rfl y1.heap.size rfl c0 rfl ch0 (InB.new encC 95 y1 ch0 _ rfl) ?_
  intro y2 hu2 t2 s2
  have BY : Below y1.heap.size y1 y2 := ((Below.refl _ _).alloc (Nat.le_refl _) _).trans (t2.below (by simp) (Nat.le_refl _) (by simp))
  refine hK.out _ _ (hh.called BY) (fun g2 => ?_)
  clear hK K
  (try simp only [gs])
  refine tl ?_ 11 rfl g2 ⟨by rfl, ?_⟩ ?_
  case refine_2 => (intro w hSw; go_simp; try with_reducible rfl)
  (try simp only [gs])
  refine wpAnyH_done (by kernel_rfl) ?_ _
  refine NoPanic.normal ?_
  have HG : Hid (Below x1.heap.size x1 y2) := g2.bel
  have hkb : Has y2 w.heap.size J.k := g2.box
  have hm := HMU1.out y2 g2.bel
  clear g1 g2 hh BY t2 s2 HS HMU1 HKL HCK
  generalize y1.heap.size = q at *
  go_wp2_with (first
   | (refine load_key _ rfl w.heap.size rfl rfl J.k hkb ?_)
   | (refine load_el elC _ rfl q 0 rfl rfl c0 hu2.range ?_)
   | (refine build_f rfl _ _ rfl c0 wa rfl rfl ?_)
   | (refine store_a tyF rfl _ _ _ rfl ub x.n L rfl hm (by omega) J rfl ⟨J, c0, wa⟩ rfl rfl ?_; intro y3 hm3 gr3))
  go_end0
  refine ⟨⟨_, rfl⟩, ?_⟩
  rw [HKE.out]
  exact VLeft.shift HOW.out (HV1.out.2.trans (HG.out.mono HV1.out.2.size)) (VwIn.putU' (HV1.out.1.called HG.out) HUB.out hm3 gr3)
end
end Go.Proofs.YtdmindhjmjnagaaGreatDoor
