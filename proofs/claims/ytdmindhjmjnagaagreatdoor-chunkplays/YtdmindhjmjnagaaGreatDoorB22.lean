import Derived.Test.YtdmindhjmjnagaaGreatDoorSi
import Derived.Test.YtdmindhjmjnagaaGreatDoorB01
import Derived.Test.YtdmindhjmjnagaaGreatDoorB21
import Derived.Lib.SliceRun
import Derived.Deep.Upon
import Derived.RangeFuncWrites
import Derived.RangeFuncLeaves
import Derived.RangeFuncCalls
import Derived.Stop.Asserts
/- VwS VwT VwU VwV VwW VwY VwZ SqW -/
namespace Go.Proofs.YtdmindhjmjnagaaGreatDoor
set_option linter.unusedVariables false
set_option maxRecDepth 1000000
set_option maxHeartbeats 32000000
section
open Go.RowKit
def applyL (l : List Pa) (c : List Ch) : List Pa := c.foldl stepA (l.foldl (putA Pa.n) [])
theorem applyL_is (l : List Pa) (c : List Ch) : ApplyIs l c (applyL l c) := apply_is (map_is l) c
theorem applyL_eq {l : List Pa} {c d : List Ch} {m : List Pa} (h : ApplyIs l c m) (hcd : ∀ x, lastA Ch.n c x = lastA Ch.n d x) : m = applyL l d :=
 ApplyIs.unique (l := l) (c := d) ⟨h.1, fun x => by rw [h.2 x, hcd x]⟩ (applyL_is l d)
def scanV (C : List Ch) (sn : Sp → List Pa × Int) (s : Sp) : List Pa × Int := if (sn s).2 ≠ 0 then ([], (sn s).2) else (applyL (sn s).1 (inL C s), 0)
theorem vscan_calls {lim : Nat} {S : Nat → Prop} {I : Nat → World → Prop} {iv : Value} {ge : Kz → List UInt8 × Bool × Int} {sn : Sp → List Pa × Int} (D : Baser lim S I iv ge sn) (k : Nat) (w : World) (p : Nat) (x : VR) (V : VS) (s : Sp) (h : VwIn w p iv x V) (hI : I (k + 1) w) (ho : ∀ i, x.own p i → lim ≤ i) (hn : x.n ≤ 5000) :
    Calls Tryz.prog 22 #[.pointer (some ⟨p, 0, none⟩), spv s] w fun e w' => ∃ v, e = .returned (.tuple #[v, .int .i64 (scanV V.C sn s).2]) ∧ Own encP 62 w' w.heap.size v (scanV V.C sn s).1 ∧ I k w' ∧ VGo S w p iv x { V with R := V.R ++ [s] } w' { x with n := x.n + 1 } := by
 have b1 : Below w.heap.size w (w.alloc (.cells (sc s.F s.T s.e).toArray 56)) := (Below.refl _ w).alloc (Nat.le_refl _) _
 have hs1 : HasS (w.alloc (.cells (sc s.F s.T s.e).toArray 56)) w.heap.size s.F s.T s.e := HasS.new w _ _ _ s.hF s.hT
 have hsr := hs1.inB.range
 have HLW : Hid (lim ≤ w.heap.size) := D.size _ _ hI
 have HOW : Hid (∀ i, x.own p i → i < w.heap.size) := fun i hi => h.lt hi
 have HOL : Hid (∀ i, x.own p i → lim ≤ i) := ho
 have HV1 : Hid (VwIn (w.alloc (.cells (sc s.F s.T s.e).toArray 56)) p iv x V ∧ Below w.heap.size w (w.alloc (.cells (sc s.F s.T s.e).toArray 56)) ∧ HasS (w.alloc (.cells (sc s.F s.T s.e).toArray 56)) w.heap.size s.F s.T s.e) := ⟨h.called b1, b1, hs1⟩
 have HI1 : Hid (I (k + 1) w) := hI
 have hR := vread_calls _ p iv x V s (h.called b1) (by omega)
 have HKL : Hid ((sc s.F s.T s.e).length = 49) := by show _ = _; simp [sc, bc_length, s.hF, s.hT]
 have HCK : Hid ((Tryz.prog.info? 56).map (·.size) = some 49) := elS.info
 have HHN : Hid (x.n ≤ 5000) := hn
 obtain ⟨G, recv, HM0, hscan⟩ := D.scan
 have HM : Hid (Meth iv "Scan" G recv) := HM0
 have HGT : Hid (∀ y, I (k + 1) y → Calls Tryz.prog G (#[recv] ++ #[spv s]) y fun e w' => ∃ v, e = .returned (.tuple #[v, .int .i64 (sn s).2]) ∧ Sl encP w' v (sn s).1 ∧ I k w' ∧ FrV S y w') := fun y hy => hscan k y s hy
 have HLO : Hid (∀ i, S i → i < lim) := D.low
 have hlen := D.len s
 have HMO : Hid (∀ k w w', I k w → Below lim w w' → I k w') := D.mono
 have HSV : Hid (scanV V.C sn s = if (sn s).2 ≠ 0 then ([], (sn s).2) else (applyL (sn s).1 (inL V.C s), 0)) := rfl
 generalize scanV V.C sn s = RES at *
 generalize sn s = sr at *
 obtain ⟨l, c⟩ := sr
 (try simp only at HGT)
 (try simp only at HSV)
 simp only at hlen
 clear h hI ho hn HM0 hscan D b1 hs1
 go_enter Tryz.func22, Tryz.ntmps22
 go_upto_region 2 with (first
  | (refine load_el elS _ rfl w.heap.size 0 rfl rfl s hsr ?_)
  | (go_at_call 53; refine hR.mono ?_; clear hR; rintro e y4 ⟨⟨rv, rfl⟩, E1⟩))
 have HE1 : Hid (VLeft w p iv x { V with R := V.R ++ [s] } y4 { x with n := x.n + 1 }) := VLeft.shift HOW.out HV1.out.2.1 E1
 have hbq : y4.heap[w.heap.size]? = (w.alloc (.cells (sc s.F s.T s.e).toArray 56)).heap[w.heap.size]? := E1.fr.block _ HV1.out.2.2.lt (fun q => Nat.lt_irrefl _ (HOW.out _ q))
 have HS5 : Hid (ScV y4.drew p w.heap.size iv (.map (some x.c)) (.map (some x.r)) x.m s) := ⟨E1.vw.blk, ⟨s.hF, s.hT, (show y4.heap[w.heap.size]? = _ from hbq.trans HV1.out.2.2.blk)⟩⟩
 have HI5 : Hid (I (k + 1) y4.drew) := HMO.out _ _ _ HI1.out ((HE1.out.above HOL.out HLW.out).trans ⟨rfl, rfl, rfl, Nat.le_refl _, fun _ _ => rfl⟩)
 clear E1 hbq hsr
 refine wp_region_noPanic ?_
 refine wp_region_held_drew (S := (fun y => ScV y p w.heap.size iv (.map (some x.c)) (.map (some x.r)) x.m s)) (by kernel_rfl) (HS5.out) (fun hh => ?_)
 refine tl ?_ 0 rfl hh ⟨by rfl, ?_⟩ ?_
 case refine_2 => (intro w hSw; go_simp; try with_reducible rfl)
 (try simp only [gs])
 refine tl ?_ 1 rfl hh ⟨by rfl, ?_⟩ ?_
 case refine_2 => (intro w hSw; go_simp; try with_reducible rfl)
 (try simp only [gs])
 refine tl ?_ 2 rfl hh ⟨by rfl, ?_⟩ ?_
 case refine_2 => (intro w hSw; go_simp; try with_reducible rfl)
 (try simp only [gs])
 refine tl ?_ 3 rfl hh ⟨by rfl, ?_⟩ ?_
 case refine_2 => (intro w hSw; have hc := hSw.cell0; go_simp; try with_reducible rfl)
 (try simp only [gs])
 refine tk 4 rfl hh (yieldsIf_load_mid (by rfl) _ _ rfl _ _ rfl _ _ (fun y h => ScV.span h) Tryz.underlying56 rfl (by rw [HKL.out]; exact HCK.out)) ?_
 (try simp only [gs])
 generalize hy5 : y4.drew = y5 at *
 refine wpAnyH_ready (rs := [5]) (by kernel_rfl) (by simp) (AllReadyH.cons rfl (fun K hK => ?_) AllReadyH.nil)
 rw [if_pos (by rfl)]
 (try simp only [gs])
 refine wp_invoke1 (.tmp 15) "Scan" (.tmp 16) 56 rfl iv G recv (spv s) rfl HM.out rfl (HGT.out y5 HI5.out) ?_
 rintro e y6 ⟨v, rfl, hsl6, hi6, hfr⟩
 refine ⟨_, rfl, ?_⟩
 have hb6 : y6.heap[p]? = y5.heap[p]? := hfr.block _ (lt_of_block hh.blk) (fun q => by have := HLO.out _ q; have := HOL.out p (.inl rfl); omega)
 have hq6 : y6.heap[w.heap.size]? = y5.heap[w.heap.size]? := hfr.block _ hh.box.lt (fun q => by have := HLO.out _ q; have := HLW.out; omega)
 refine hK.out _ _ ⟨hb6.trans hh.blk, ⟨s.hF, s.hT, hq6.trans hh.box.blk⟩⟩ (fun g1 => ?_)
 clear hK K
 (try simp only [gs])
 refine tl ?_ 6 rfl g1 ⟨by rfl, ?_⟩ ?_
 case refine_2 => (intro w hSw; go_simp; try with_reducible rfl)
 (try simp only [gs])
 refine tl ?_ 7 rfl g1 ⟨by rfl, ?_⟩ ?_
 case refine_2 => (intro w hSw; go_simp; try with_reducible rfl)
 (try simp only [gs])
 refine tl ?_ 8 rfl g1 ⟨by rfl, ?_⟩ ?_
 case refine_2 => (intro w hSw; go_simp; try with_reducible rfl)
 (try simp only [gs])
 refine tl ?_ 9 rfl g1 ⟨by rfl, ?_⟩ ?_
 case refine_2 => (intro w hSw; go_simp; try with_reducible rfl)
 (try simp only [gs])
 refine tl ?_ 10 rfl g1 ⟨by rfl, ?_⟩ ?_
 case refine_2 => (intro w hSw; go_simp; try with_reducible rfl)
 (try simp only [gs])
 refine wpAnyH_done (by kernel_rfl) ?_ _
 refine NoPanic.normal ?_
 clear hb6 hq6
 rw [← hy5] at hfr
 clear hy5
 have E := HE1.out.go S
 have VW6 : VwIn y6 p iv { x with n := x.n + 1 } { V with R := V.R ++ [s] } := (show VwIn y4.drew p iv _ _ from E.vw.called ⟨rfl, rfl, rfl, Nat.le_refl _, fun _ _ => rfl⟩).based hfr HLO.out (fun i hi => (HE1.out.own i hi).elim (HOL.out i) (fun q => Nat.le_trans HLW.out q))
 have HV6 : Hid (VGo S w p iv x { V with R := V.R ++ [s] } y6 { x with n := x.n + 1 } ∧ I k y6) := ⟨⟨VW6, E.more, (E.fr.trans (FrV.of_below ⟨rfl, rfl, rfl, Nat.le_refl _, fun _ _ => rfl⟩ : FrV (fun i => x.own p i ∨ S i) y4 y4.drew) (fun i hi => .inl hi)).trans hfr (fun i hi => .inl (.inr hi)), E.own⟩, hi6⟩
 have hsp6 := g1.box.inB.range
 have hwi := within_calls y6 p iv { x with n := x.n + 1 } { V with R := V.R ++ [s] } s VW6 (show x.n + 1 ≤ 100000 by have := HHN.out; omega)
 have HSL : Hid (Sl encP y6 v l) := hsl6
 have HLE : Hid (l.length ≤ 5000) := hlen
 have HBW : Hid (w.heap.size ≤ y6.heap.size) := HV6.out.1.fr.size
 obtain ⟨ad6, cap6, rfl, -, -, -, -⟩ := id hsl6
 clear g1 hh hfr hi6 HS5 HI5 HE1 HGT HM HKL HCK E VW6 hsl6 HI1 HV1 hlen
 by_cases hc : c = 0
 · subst hc
   have HF : Hid (RES = (applyL l (inL V.C s), 0)) := (show _ = _ by rw [HSV.out]; rfl)
   clear HSV
   go_wp2_with (first
    | (refine load_el elS _ rfl w.heap.size 0 rfl rfl s hsp6 ?_)
    | (go_at_call 54; refine hA.mono ?_; clear hA; rintro e y8 ⟨va, m, rfl, o8, a8, l8, b8⟩)
    | (go_at_call 55; refine hwi.mono ?_; clear hwi; rintro e y7 ⟨vc, cc, rfl, o7, e7, l7, b7⟩
       have hA := apply_calls y7 _ vc l cc (Sl.called HSL.out b7) o7.slB (by have := HLE.out; omega) (by have := HHN.out; have l7' : cc.length ≤ x.n + 1 := l7; omega)
       have HE7 : Hid ((∀ y, lastA Ch.n cc y = lastA Ch.n (inL V.C s) y) ∧ Below y6.heap.size y6 y7) := ⟨e7, b7⟩
       clear o7 e7 l7 b7))
   obtain ⟨ad8, cap8, rfl, -, -, -, -⟩ := id o8.slB
   go_ret2
   have B8 : Below y6.heap.size y6 y8 := HE7.out.2.trans (b8.mono HE7.out.2.size)
   have hm := applyL_eq a8 HE7.out.1
   refine ⟨.slice ad8 m.length cap8, by rw [HF.out]; rfl, ?_, HMO.out _ _ _ HV6.out.2 (B8.mono (Nat.le_trans HLW.out HBW.out)), HV6.out.1.vw.called B8, HV6.out.1.more, HV6.out.1.fr.trans (FrV.of_below B8 : FrV (fun i => x.own p i ∨ S i) y6 y8) (fun i hi => .inl hi), HV6.out.1.own⟩
   rw [HF.out]
   show Own encP 62 y8 w.heap.size _ (applyL l (inL V.C s))
   rw [← hm]
   exact o8.lower (Nat.le_trans HBW.out HE7.out.2.size)
 · have hcb : (c != 0) = true := by simpa using hc
   have HF : Hid (RES = ([], c)) := (show _ = _ by rw [HSV.out]; simp [hc])
   clear hc HSV
   go_wp2_with fail
   go_ret2
   refine ⟨.slice none 0 0, by rw [HF.out]; rfl, ?_, HV6.out.2, HV6.out.1⟩
   rw [HF.out]
   exact Own.nil _ _ _ _
end
section
open Go.RowKit
end
section
open Go.RowKit
end
section
open Go.RowKit
def dn (n k : Nat) : List Nat := (List.range' k (n - k)).reverse
end
section
open Go.RowKit
attribute [local go_sem] Oper.semAt_some
end
section
open Go.RowKit
end
section
open Go.RowKit
structure VAt (w0 : World) (lim : Nat) (I : Nat → World → Prop) (k : Nat) (iv : Value) (q : Nat) (x : VR) (V : VS) (y : World) : Prop where
 vw : VwIn y q iv x V
 base : I k y
 own : ∀ i, x.own q i → lim ≤ i
 bel : Below w0.heap.size w0 y
 le : w0.heap.size ≤ lim
 limy : lim ≤ y.heap.size
structure VTo (S : Nat → Prop) (w0 : World) (lim : Nat) (I : Nat → World → Prop) (k : Nat) (iv : Value) (q : Nat) (x : VR) (V : VS) (y : World) (x' : VR) (y' : World) : Prop where
 at_ : VAt w0 lim I k iv q x' V y'
 fr : FrV (fun i => x.own q i ∨ S i) y y'
 own : ∀ i, x'.own q i → x.own q i ∨ y.heap.size ≤ i
 n : x'.n ≤ x.n + 4
section
variable {lim : Nat} {S : Nat → Prop} {I : Nat → World → Prop} {iv : Value} {ge : Kz → List UInt8 × Bool × Int} {sn : Sp → List Pa × Int} {w0 y : World} {k q : Nat} {x : VR} {V : VS}
theorem VAt.step (h : VAt w0 lim I k iv q x V y) (hS : ∀ i, S i → w0.heap.size ≤ i) {k' : Nat} {V' : VS} {y' : World} {x' : VR} (g : VGo S y q iv x V' y' x') (hI : I k' y') : VTo S w0 lim I k' iv q x V' y x' y' :=
 ⟨⟨g.vw, hI, fun i hi => (g.own i hi).elim (h.own i) (fun e => Nat.le_trans h.limy e), h.bel.trans (g.fr.below (fun i hi => hi.elim (fun e => Nat.le_trans h.le (h.own i e)) (hS i)) (Nat.le_trans h.le h.limy)), h.le, Nat.le_trans h.limy g.fr.size⟩, g.fr, g.own, g.more⟩
theorem VAt.left (D : Baser lim S I iv ge sn) (h : VAt w0 lim I k iv q x V y) (hS : ∀ i, S i → w0.heap.size ≤ i) {V' : VS} {y' : World} {x' : VR} (g : VLeft y q iv x V' y' x') : VTo S w0 lim I k iv q x V' y x' y' :=
 h.step hS (g.go S) (D.mono _ _ _ h.base (g.above h.own h.limy))
theorem VAt.tight (h : VAt w0 lim I k iv q x V y) (n : Nat) (hn : V.most n) : VAt w0 lim I k iv q { x with n := n } V y := ⟨h.vw.tight n hn, h.base, h.own, h.bel, h.le, h.limy⟩
theorem VAt.called (D : Baser lim S I iv ge sn) (h : VAt w0 lim I k iv q x V y) {y' : World} (b : Below y.heap.size y y') : VAt w0 lim I k iv q x V y' :=
 ⟨h.vw.called b, D.mono _ _ _ h.base (b.mono h.limy), h.own, h.bel.trans (b.mono (Nat.le_trans h.le h.limy)), h.le, Nat.le_trans h.limy b.size⟩
theorem VAt.put (D : Baser lim S I iv ge sn) (h : VAt w0 lim I k iv q x V y) (hS : ∀ i, S i → w0.heap.size ≤ i) (hn : x.n ≤ 100000) (c : Ch) (hg : c.g = false) (hv : okV c.v = true) :
    Calls Tryz.prog 147 #[.pointer (some ⟨q, 0, none⟩), kv c.k, .string (str c.v)] y fun e y' => e = .returned (.int .i64 0) ∧ ∃ x', VTo S w0 lim I k iv q x (V.change c) y x' y' :=
 (vput_calls y q iv x V c hg h.vw hn hv).mono fun e y' r => by
  obtain ⟨r1, x', r2⟩ := r
  exact ⟨r1, x', h.left D hS r2⟩
theorem VAt.delete (D : Baser lim S I iv ge sn) (h : VAt w0 lim I k iv q x V y) (hS : ∀ i, S i → w0.heap.size ≤ i) (hn : x.n ≤ 100000) (K : Kz) :
    Calls Tryz.prog 146 #[.pointer (some ⟨q, 0, none⟩), kv K.k] y fun e y' => e = .returned (.int .i64 0) ∧ ∃ x', VTo S w0 lim I k iv q x (V.change (goneC K)) y x' y' :=
 (vdelete_calls y q iv x V K h.vw hn).mono fun e y' r => by
  obtain ⟨r1, x', r2⟩ := r
  exact ⟨r1, x', h.left D hS r2⟩
theorem VAt.get (D : Baser lim S I iv ge sn) (h : VAt w0 lim I (k + 1) iv q x V y) (hS : ∀ i, S i → w0.heap.size ≤ i) (hn : x.n ≤ 100000) (J : Kz) :
    Calls Tryz.prog 108 #[.pointer (some ⟨q, 0, none⟩), kv J.k] y fun e y' => e = .returned (gv (getV V.C ge J)) ∧ VTo S w0 lim I k iv q x (getW V J) y { x with n := x.n + 1 } y' :=
 (vget_calls D k y q x V J h.vw h.base h.own hn).mono fun e y' r => by
  obtain ⟨r1, r2, r3⟩ := r
  exact ⟨r1, h.step hS r3 r2⟩
theorem VAt.scan (D : Baser lim S I iv ge sn) (h : VAt w0 lim I (k + 1) iv q x V y) (hS : ∀ i, S i → w0.heap.size ≤ i) (hn : x.n ≤ 5000) (s : Sp) :
    Calls Tryz.prog 22 #[.pointer (some ⟨q, 0, none⟩), spv s] y fun e y' => ∃ ad cap, e = .returned (.tuple #[.slice ad (scanV V.C sn s).1.length cap, .int .i64 (scanV V.C sn s).2]) ∧ Own encP 62 y' y.heap.size (.slice ad (scanV V.C sn s).1.length cap) (scanV V.C sn s).1 ∧ VTo S w0 lim I k iv q x { V with R := V.R ++ [s] } y { x with n := x.n + 1 } y' :=
 (vscan_calls D k y q x V s h.vw h.base h.own hn).mono fun e y' r => by
  obtain ⟨v, r1, r2, r3, r4⟩ := r
  obtain ⟨ad, cap, rfl, -, -, -, -⟩ := id r2.slB
  exact ⟨ad, cap, r1, r2, h.step hS r4 r3⟩
theorem vreads_at (h : VAt w0 lim I k iv q x V y) (hn : x.n ≤ 50000) : Calls Tryz.prog 21 #[.pointer (some ⟨q, 0, none⟩)] y (SetTo y (mem V.R) (2 * x.n)) := vreads_calls y q iv x V h.vw hn
end
end
section
open Go.RowKit
section
variable {F : Fence} {n : Nat} {ops : Array Oper} {rest : List Oper} {o : Oper} {a : Act} {w : World} {Q : Exit → Act → World → Prop}
theorem loadIn_w (hg : o.guard = none) (x : Operand) (ho : o.op = .load 95 x) (b : Nat) (hx : a.eval x = .pointer (some ⟨b, 0, none⟩)) (K : Ch) (hK : InB encC 95 w b K)
    (h : wpListIn F n Tryz.prog ops Q rest (a.put o.dst (.agg (encC.c K).toArray)) w) : wpListIn F n Tryz.prog ops Q (o :: rest) a w := by
 refine wpListIn_plain hg fun K' hK' => ?_
 unfold Oper.wpIn
 refine ⟨by simp [Oper.about, ho], ?_⟩
 rw [Oper.semAt_plain F _ _ (by rw [ho]; intro c hc; cases hc)]
 unfold execOp
 simp only [ho, hx, Instr.loadAt, Instr.sureAddr, Sem.run_bind, Sem.run_pure, Result.andThen_ok, run_loadVar_row w b _ _ _ _ _ hK.blk Tryz.underlying95 rfl (by rw [encC.size]; exact elC.info)]
 exact hK' _ _ h
theorem storeIn_w (hg : o.guard = none) (x y : Operand) (ho : o.op = .store 95 x y) (b : Nat) (hx : a.eval x = .pointer (some ⟨b, 0, none⟩)) (L : Ch) (hy : a.eval y = .agg (encC.c L).toArray) (K : Ch) (hK : InB encC 95 w b K)
    (h : ∀ w', InB encC 95 w' b L → Touch b none w w' → w'.heap.size = w.heap.size → wpListIn F n Tryz.prog ops Q rest (a.put o.dst undef) w') : wpListIn F n Tryz.prog ops Q (o :: rest) a w := by
 refine wpListIn_plain hg fun K' hK' => ?_
 unfold Oper.wpIn
 refine ⟨by simp [Oper.about, ho], ?_⟩
 rw [Oper.semAt_plain F _ _ (by rw [ho]; intro c hc; cases hc)]
 unfold execOp
 simp only [ho, hx, hy, Instr.storeAt, Instr.sureAddr, Sem.run_bind, Sem.run_pure, Result.andThen_ok, run_storeVar_row w b _ 95 _ _ hK.blk (by rw [encC.size]; exact elC.info) (by rw [encC.size, encC.size]) (encC.all L)]
 exact hK' _ _ (h _ ⟨setRow_heap w b _ _ _ _ hK.blk⟩ (touch_setRow _ _ _) (by simp))
theorem buildIn_w (hg : o.guard = none) (x : Operand) (ho : o.op = .buildSlice 39 1 #[(0, x)]) (K : Ch) (hx : a.eval x = .agg (encC.c K).toArray)
    (h : wpListIn F n Tryz.prog ops Q rest (a.put o.dst (.slice (some ⟨w.heap.size, 0, none⟩) 1 1)) (w.alloc (.cells (encC.c K).toArray 95))) : wpListIn F n Tryz.prog ops Q (o :: rest) a w := by
 obtain ⟨i, z, hi, hz, hsz, hby, hzc⟩ := rowC.parts
 refine wpListIn_plain hg fun K' hK' => ?_
 unfold Oper.wpIn
 refine ⟨by simp [Oper.about, ho], ?_⟩
 rw [Oper.semAt_plain F _ _ (by rw [ho]; intro c hc; cases hc)]
 unfold execOp
 have hf : Instr.fill (fun i' => some (i' * i.size, i.size)) ((Array.range (1 * i.size)).map (z.cells[· % z.cells.size]!)) (#[(0, x)].map fun (i, x) => (i, a.eval x)).toList = some (encC.c K).toArray := by
  have := fill_els encC [K] 0 ((Array.range (1 * 26)).map (z.cells[· % z.cells.size]!)) (by simp)
  rw [hsz]
  simpa [hx, Enc.flat] using this
 simp only [ho, Sem.run_bind, run_buildSlice w 39 95 1 _ (encC.c K).toArray i z Tryz.underlying39 hi hz (by rw [hsz]; omega) (by rw [hsz]; omega) hf, Result.andThen_ok]
 exact hK' _ _ h
end
def apAssignW : Code := (Code.region 2 #[{ dst := some 5, op := Op.alloc 95, type := 0, pos := "iter.go:51", after := #[], guard := none }, { dst := none, op := Op.store 95 (Operand.tmp 5) (Operand.tmp 7), type := 0, pos := "iter.go:51", after := #[{ on := 0, ground := Ground.data }, { on := 0, ground := Ground.phase }], guard := none }] false)
def apBodyW : Code := (Code.block 1 (Code.region 3 #[{ dst := some 8, op := Op.load 39 (Operand.tmp 2), type := 39, pos := "iter.go:52", after := #[], guard := none },
 { dst := some 9, op := Op.load 95 (Operand.tmp 5), type := 95, pos := "iter.go:52", after := #[], guard := none },
 { dst := some 10, op := Op.buildSlice 39 1 #[(0, Operand.tmp 9)], type := 39, pos := "iter.go:52", after := #[{ on := 1, ground := Ground.data }], guard := none },
 { dst := some 11, op := Op.call { callee := Callee.builtin Builtin.append, args := #[Operand.tmp 8, Operand.tmp 10], argTypes := #[39, 39] }, type := 39, pos := "iter.go:52", after := #[{ on := 0, ground := Ground.data }, { on := 2, ground := Ground.data }], guard := none },
 { dst := none, op := Op.store 39 (Operand.tmp 2) (Operand.tmp 11), type := 0, pos := "iter.go:52", after := #[{ on := 3, ground := Ground.data }, { on := 3, ground := Ground.chain }, { on := 0, ground := Ground.phase }, { on := 1, ground := Ground.phase }, { on := 2, ground := Ground.phase }, { on := 3, ground := Ground.phase }], guard := none }] false))
def apRecW (fn : FuncId) (sv : Value) (Bs D : Nat) (st : LoopState) (pend : Option Code) : Loop :=
 { state := st, pending := pend, fn, tmps := #[.slice none 0 0, sv, .pointer (some ⟨Bs, 0, none⟩), undef, .slice none 0 0, undef, sv, undef, undef, undef, undef, undef, undef], params := #[7], assign := apAssignW, body := apBodyW, defers := D }
structure ApAtW (w0 : World) (fn : FuncId) (sv : Value) (Bs l D : Nat) (ss : List Ch) (W : World) : Prop where
 box : ∃ v, W.heap[Bs]? = some (.cells #[v] 39 (0, 0)) ∧ Own encC 95 W w0.heap.size v ss
 L : W.heap[l]? = some (.loop (apRecW fn sv Bs D .ready none))
 K : W.heap[D]? = some (.deferred (some []))
 below : Below w0.heap.size w0 W
theorem ap_abidesW (w0 : World) (fn : FuncId) (sv : Value) (Bs l D B : Nat) (hB : w0.heap.size ≤ B) : AbidesFrom B (ApAtW w0 fn sv Bs l D) := fun s W W' row h hg hrow => by
 have hrow' : ∀ r, row = some r → ∃ o : Obj, W.heap[r]? = some o ∧ o.isWalk = true := fun r e => (hrow r e).2
 obtain ⟨v, hv, hr⟩ := h.box
 exact ⟨⟨v, (grownBy_keeps hg hrow' hv rfl).trans hv, ownsRow_abides_a hr hg hrow'⟩, (grownBy_keeps hg hrow' h.L rfl).trans h.L, (grownBy_keeps hg hrow' h.K rfl).trans h.K,
   h.below.grown hg h.below.size (fun k e => Nat.le_trans hB (hrow k e).1)⟩
theorem ne_tyW : (39 : TypeId) ≠ 95 := by decide
theorem box_noW (v : Value) : ∀ cur, (Obj.cells #[v] 39 (0, 0)) ≠ .cells cur 95 (0, 0) := fun cur e => ne_tyW (Obj.cells.inj e).2.1
theorem loop_noW (r : Loop) : ∀ cur, (Obj.loop r) ≠ .cells cur 95 (0, 0) := fun cur e => by cases e
theorem def_noW (d : Option (List Deferred)) : ∀ cur, (Obj.deferred d) ≠ .cells cur 95 (0, 0) := fun cur e => by cases e
theorem ownKey_neW {W : World} {base : Nat} {v : Value} {ss : List Ch} (h : Own encC 95 W base v ss) {j : Nat} {o : Obj} (hj : W.heap[j]? = some o) (hno : ∀ cur, o ≠ .cells cur 95 (0, 0)) : some j ≠ v.ownBlock := by
 rcases ownsRow_ne_a h hj hno with e | e
 · rw [e]; simp
 · exact fun e' => e e'.symm
theorem apYieldW (m : Nat) (w0 : World) (fn : FuncId) (sv : Value) (Bs l D : Nat) (hBl : Bs ≠ l) (hDl : D ≠ l) (hDB : D ≠ Bs) (h0B : w0.heap.size ≤ Bs) (h0l : w0.heap.size ≤ l)
    (ss : List Ch) (x : Ch) (W : World) (h : ApAtW w0 fn sv Bs l D ss W) (hlen : ss.length < 1000000) :
    YieldAt Fence.wide m Tryz.prog l #[.agg (encC.c x).toArray] W fun e W' => e = .returned (.bool true) ∧ ApAtW w0 fn sv Bs l D (ss ++ [x]) W' ∧ KeepsWalks W W' := by
 obtain ⟨i0, z0, hi, hz0, hz1, hz2, hzc⟩ := rowC.parts
 obtain ⟨v, hv, hrow⟩ := h.box
 refine ⟨fn, #[.slice none 0 0, sv, .pointer (some ⟨Bs, 0, none⟩), undef, .slice none 0 0, undef, sv, .agg (encC.c x).toArray, undef, undef, undef, undef, undef], apAssignW, apBodyW, by simpa [apRecW] using run_yield (P := Tryz.prog) (args := #[.agg (encC.c x).toArray]) h.L rfl, roundIn_of_wpIn trivial ?_⟩
 have hBlt : Bs < W.heap.size := lt_of_block hv
 have hl : l < W.heap.size := lt_of_block h.L
 have hDlt : D < W.heap.size := lt_of_block h.K
 unfold apAssignW
 gi_wp2_with (first
  | (refine storeIn_w rfl _ _ rfl W.heap.size rfl x rfl ch0 (InB.new encC 95 W ch0 _ rfl) ?_
     intro w2 hw2 t2 s2
     have B2 : Below W.heap.size W w2 := ((Below.refl _ W).alloc (Nat.le_refl _) _).trans (t2.below (by simp) (Nat.le_refl _) (by simp))
     have hL2 := (B2.block l hl).trans h.L
     have hbr := run_beginRound (P := Tryz.prog) hL2 rfl
     obtain ⟨w3, hW3⟩ : ∃ w3, w2.putObj l (.loop { apRecW fn sv Bs D .ready none with state := .busy }) = w3 := ⟨_, rfl⟩
     rw [hW3] at hbr)
  | gi_round_op_a)
 have hs2 : W.heap.size < w2.heap.size := by rw [s2]; simp
 have hl2 : l < w2.heap.size := by omega
 have hrow2 := hrow.below B2
 have hg3 : w2.grownBy w3 (some l) := by rw [← hW3]; exact grownBy_putObj_a _ _ _
 have hw3 : InB encC 95 w3 W.heap.size x := ⟨by rw [← hW3]; exact (World.putObj_heap_other (by omega)).trans hw2.blk⟩
 have hv3 : w3.heap[Bs]? = some (.cells #[v] 39 (0, 0)) := by rw [← hW3]; exact (World.putObj_heap_other hBl).trans ((B2.block Bs hBlt).trans hv)
 have hK3 : w3.heap[D]? = some (.deferred (some [])) := by rw [← hW3]; exact (World.putObj_heap_other hDl).trans ((B2.block D hDlt).trans h.K)
 have hL3 : w3.heap[l]? = some (.loop { apRecW fn sv Bs D .ready none with state := .busy }) := by rw [← hW3]; exact World.putObj_heap_same hl2
 have hrow3 : Own encC 95 w3 w0.heap.size v ss := hrow2.kept hg3 (ownsRow_ne_a hrow2 hL2 (loop_noW _))
 have hb2 : Below w0.heap.size w0 w2 := h.below.trans (B2.mono h.below.size)
 have hb3 : Below w0.heap.size w0 w3 := hb2.grown hg3 hb2.size (fun k e => by cases e; exact h0l)
 have hk3 : KeepsWalks W w3 := (KeepsWalks.trans ⟨B2.size, fun k o ho _ => (B2.block k (lt_of_block ho)).trans ho⟩ (by rw [← hW3]; exact KeepsWalks.putObj _ hL2 rfl))
 obtain ⟨hc3, hf3⟩ := cell_of_box_a hv3
 have hBlt3 : Bs < w3.heap.size := lt_of_block hv3
 clear hv hrow hrow2 hb2 B2 t2 s2 hW3 hbr hL2 h hg3 hw2
 generalize W.heap.size = q at *
 unfold apBodyW
 gi_wp2_with (first
  | (refine loadIn_w rfl _ rfl q rfl x hw3 ?_)
  | (refine buildIn_w rfl _ rfl x rfl ?_)
  | (gi_at_builtin
     refine wpListIn_append_own _ rfl _ _ 39 rfl w0.heap.size 95 i0 z0 26 48 Tryz.underlying39 hi hz0 hz1 hz2 hzc (by decide) _ _ _ rfl (Own.below hrow3 ((Below.refl _ w3).alloc (Nat.le_refl _) _)) ⟨w3.heap.size, 0, none⟩ 1 1 (encC.c x) rfl (encC.len x) (fun j u hu => by rw [Addr.add_mid, Nat.zero_add, cell_of_row _ _ _ _ _ _ (heap_alloc_new _ _)]; simpa using hu) (encC.one x) (by unfold maxLen; omega) (by omega) (by have := hb3.size; simp; omega) ?_
     intro v' w4 hown' hg4 hnil4
     have hv4 : w4.heap[Bs]? = some (.cells #[v] 39 (0, 0)) := (hg4.block Bs (by simp; omega) (ownKey_neW hrow3 hv3 (box_noW _))).trans ((Below.heap_alloc _ _ Bs hBlt3).trans hv3)
     obtain ⟨hc4, hf4⟩ := cell_of_box_a hv4
     obtain ⟨g', cap', cur', rfl, _⟩ : ∃ g' cap' cur', v' = .slice (some ⟨g', 0, none⟩) (ss.length + 1) cap' ∧ w0.heap.size ≤ g' ∧ w4.heap[g']? = some (.cells cur' 95 (0, 0)) ∧ ss.length + 1 ≤ cap' ∧ cap' ≤ maxLen ∧ cur'.size = cap' * 26 ∧ cur'.toList.take ((ss.length + 1) * 26) = encC.flat ss ++ encC.c x := by
      rcases hown'.2 with ⟨_, h0⟩ | h'
      · exact absurd h0 (by omega)
      · exact h'
     go_frame)
  | gi_round_op_a)
 have hg4' : (w3.alloc (.cells (encC.c x).toArray 95)).grownBy w4 v.ownBlock := hg4
 have hl3 : l < w3.heap.size := lt_of_block hL3
 have hD3 : D < w3.heap.size := lt_of_block hK3
 have hL4 := (hg4'.block l (by simp; omega) (ownKey_neW hrow3 hL3 (loop_noW _))).trans ((Below.heap_alloc _ _ l hl3).trans hL3)
 have hK4 := (hg4'.block D (by simp; omega) (ownKey_neW hrow3 hK3 (def_noW _))).trans ((Below.heap_alloc _ _ D hD3).trans hK3)
 have hown4 : Own encC 95 w4 w0.heap.size (.slice (some ⟨g', 0, none⟩) (ss.length + 1) cap') (ss ++ [x]) := by
  show w4.ownsRow _ _ 26 _ (ss ++ [x]).length (encC.flat (ss ++ [x]))
  rw [List.length_append, List.length_singleton, encC.flat_append, encC.flat_one]
  exact hown'
 obtain ⟨w5, hw5⟩ : ∃ w5, w4.setCell ⟨Bs, 0, none⟩ (.slice (some ⟨g', 0, none⟩) (ss.length + 1) cap') = w5 := ⟨_, rfl⟩
 rw [hw5]
 have hg5 : w4.grownBy w5 (some Bs) := by rw [← hw5]; exact grownBy_setCell0_a _ _ _
 have hv5 : w5.heap[Bs]? = some (.cells #[.slice (some ⟨g', 0, none⟩) (ss.length + 1) cap'] 39 (0, 0)) := by rw [← hw5]; exact heap_setCell_box_a _ hv4
 have hL5 := (hg5.block l (lt_of_block hL4) (fun e => hBl (by cases e; rfl))).trans hL4
 have hK5 := (hg5.block D (lt_of_block hK4) (fun e => hDB (by cases e; rfl))).trans hK4
 have hrow5 : Own encC 95 w5 w0.heap.size (.slice (some ⟨g', 0, none⟩) (ss.length + 1) cap') (ss ++ [x]) := hown4.kept hg5 (ownsRow_ne_a hown4 hv4 (box_noW _))
 have hl5 : l < w5.heap.size := lt_of_block hL5
 have hb4 : Below w0.heap.size w0 w4 := (hb3.alloc hb3.size _).grown hg4' (by have := hb3.size; simp; omega) (fun k e => (hrow3.lt k e).1)
 have hb5 : Below w0.heap.size w0 w5 := hb4.grown hg5 hb4.size (fun k e => by cases e; exact h0B)
 have hk5 : KeepsWalks W w5 := ((hk3.trans (KeepsWalks.alloc _ _)).trans (KeepsWalks.of_grownBy hg4' (ownsRow_not_walk_a (Own.below hrow3 ((Below.refl _ w3).alloc (Nat.le_refl _) _))))).trans (by rw [← hw5]; exact KeepsWalks.setCell _ _ _)
 clear hw5
 refine ⟨_, _, run_endRound none hL5, rfl, ⟨⟨_, (World.putObj_heap_other hBl).trans hv5, ?_⟩, World.putObj_heap_same hl5, (World.putObj_heap_other hDl).trans hK5, hb5.grown (grownBy_putObj_a _ _ _) hb5.size (fun k e => by cases e; exact h0l)⟩, hk5.trans (KeepsWalks.putObj _ hL5 rfl)⟩
 exact Own.same hrow5 fun g hg => World.putObj_heap_other (fun e => by subst e; exact ownKey_neW hrow5 hL5 (loop_noW _) hg.symm)
theorem appendSeq_inW (n : Nat) (g : Nat) (lb : Array Value) (eg : ∀ args w, (callFunc g args).run Tryz.prog w = .ok (.enter g args) w)
    (S : List Ch → Prop) (N : Nat) (hN : N ≤ 1000000) (w : World) (hseq : SeqGives Fence.wide (n - 1) Tryz.prog g lb (fun K : Ch => .agg (encC.c K).toArray) S N w) (hn : 1 ≤ n) :
    CallsIn Fence.wide n Tryz.prog 91 #[.slice none 0 0, .func (.func g) #[] lb] w fun e w' => ∃ (v : Value) (ss : List Ch), e = .returned v ∧ S ss ∧ Own encC 95 w' w.heap.size v ss ∧ Below w.heap.size w w' := by
 refine callsIn_of_wp_marks Tryz.func91 rfl trivial ?_ rfl
 simp only [Tryz.ntmps91, List.size_toArray, List.length_cons, List.length_nil, Nat.reduceAdd, Nat.reduceSub, Array.replicate_succ, Array.replicate_zero, List.push_toArray, List.append_toArray, List.nil_append, List.cons_append]
 gi_wp2
 refine wpIn_rangeFunc ?_
 intro fn hfn
 rw [show Fence.wide.round = none from rfl]
 obtain ⟨W0, hW0⟩ : ∃ W0, w.alloc (.cells #[.slice none 0 0] 39) = W0 := ⟨_, rfl⟩
 have hs0 : W0.heap.size = w.heap.size + 1 := by rw [← hW0]; simp
 have hv0 : W0.heap[w.heap.size]? = some (.cells #[.slice none 0 0] 39 (0, 0)) := by rw [← hW0]; exact World.alloc_heap_new w _
 have hb0 : Below w.heap.size w W0 := by rw [← hW0]; exact (Below.refl _ w).alloc (Nat.le_refl _) _
 rw [hW0]
 obtain ⟨W1, hW1⟩ : ∃ W1, (W0.alloc (.deferred (some []))).alloc (.loop (apRecW fn (.func (.func g) #[] lb) w.heap.size W0.heap.size .ready none)) = W1 := ⟨_, rfl⟩
 have hold : ∀ k, k < W0.heap.size → W1.heap[k]? = W0.heap[k]? := fun k hk => by
  rw [← hW1]; exact (Below.heap_alloc _ _ k (by simp; omega)).trans (Below.heap_alloc _ _ k hk)
 have hb1 : Below w.heap.size w W1 := by rw [← hW1]; exact (hb0.alloc hb0.size _).alloc (by have := hb0.size; simp; omega) _
 have hs1 : W1.heap.size = W0.heap.size + 2 := by rw [← hW1]; simp
 have hM : ApAtW w fn (.func (.func g) #[] lb) w.heap.size (W0.heap.size + 1) W0.heap.size [] W1 :=
  ⟨⟨_, (hold w.heap.size (by omega)).trans hv0, Own.nil _ _ _ _⟩,
   by rw [← hW1]; have := World.alloc_heap_new (W0.alloc (.deferred (some []))) (.loop (apRecW fn (.func (.func g) #[] lb) w.heap.size W0.heap.size .ready none)); rwa [World.size_alloc] at this,
   by rw [← hW1]; exact (Below.heap_alloc _ _ _ (by simp)).trans (World.alloc_heap_new W0 _), hb1⟩
 refine ⟨W0.heap.size + 1, [{ target := .collected W0.heap.size, args := #[] }], W1, { target := .fn (.func g) lb, args := #[.func (.yield (W0.heap.size + 1)) #[] #[]] }, W1, g,
   #[.func (.yield (W0.heap.size + 1)) #[] #[]] ++ lb, W1, ?_, ?_, ?_, ?_, fun _ => hn, ?_⟩
 · rw [← hW1]; exact run_enterLoop_outer _ _ _ _ _
 · simp [resolve, go_sem]
 · intro f' hf'; trivial
 · simp [invoke, go_sem, eg]
 · refine (hseq (W0.heap.size + 1) (ApAtW w fn (.func (.func g) #[] lb) w.heap.size (W0.heap.size + 1) W0.heap.size) W1 hb1 (ap_abidesW _ _ _ _ _ _ _ hb1.size)
     (fun pre x W hJ hl => apYieldW (n - 1 - 1) w fn _ w.heap.size (W0.heap.size + 1) W0.heap.size (by omega) (by omega) (by omega) (Nat.le_refl _) (by omega) pre x W hJ (by omega)) hM).mono ?_
   rintro e W2 ⟨⟨v0, rfl⟩, ss, hS, h2⟩
   obtain ⟨v, hv, hrow⟩ := h2.box
   have hend := run_endLoop (P := Tryz.prog) h2.L (by simp [apRecW])
   obtain ⟨W3, hW3⟩ : ∃ W3, W2.putObj (W0.heap.size + 1) (.loop { apRecW fn (.func (.func g) #[] lb) w.heap.size W0.heap.size .ready none with state := .exhausted }) = W3 := ⟨_, rfl⟩
   rw [hW3] at hend
   have hg3 : W2.grownBy W3 (some (W0.heap.size + 1)) := by rw [← hW3]; exact grownBy_putObj_a _ _ _
   have hv3 : W3.heap[w.heap.size]? = some (.cells #[v] 39 (0, 0)) := by rw [← hW3]; exact (World.putObj_heap_other (by omega)).trans hv
   have hK3 : W3.heap[W0.heap.size]? = some (.deferred (some [])) := by rw [← hW3]; exact (World.putObj_heap_other (by omega)).trans h2.K
   have hrow3 : Own encC 95 W3 w.heap.size v ss := hrow.kept hg3 (ownsRow_ne_a hrow h2.L (loop_noW _))
   have hb3 : Below w.heap.size w W3 := h2.below.grown hg3 h2.below.size (fun k e => by cases e; omega)
   obtain ⟨hc3, hf3⟩ := cell_of_box_a hv3
   clear hW3
   refine ⟨none, W3, hend, ?_⟩
   gi_wp2
   rw [← hs0]
   refine ⟨by simp, .inl ⟨_, _, rfl, run_takeDeferred hK3, ?_⟩⟩
   exact ⟨_, results_tmp rfl _ _ _, v, ss, rfl, hS, hrow3.kept (grownBy_putObj_a _ _ _) (ownsRow_ne_a hrow3 hK3 (def_noW _)), hb3.grown (grownBy_putObj_a _ _ _) hb3.size (fun k e => by cases e; omega)⟩
theorem collect_inW (n : Nat) (g : Nat) (lb : Array Value) (eg : ∀ args w, (callFunc g args).run Tryz.prog w = .ok (.enter g args) w)
    (S : List Ch → Prop) (N : Nat) (hN : N ≤ 1000000) (w : World) (hseq : SeqGives Fence.wide (n - 1) Tryz.prog g lb (fun K : Ch => .agg (encC.c K).toArray) S N w) (hn : 1 ≤ n) :
    Calls Tryz.prog 48 #[.func (.func g) #[] lb] w fun e w' => ∃ (v : Value) (ss : List Ch), e = .returned v ∧ S ss ∧ Own encC 95 w' w.heap.size v ss ∧ Below w.heap.size w w' := by
 have hA := callsIn_wide.1 (appendSeq_inW n g lb eg S N hN w hseq hn)
 go_enter Tryz.func48, Tryz.ntmps48
 go_wp2_with (go_at_call 91; refine hA.mono ?_; rintro e w1 ⟨v, ss, rfl, h1, h2, h3⟩)
 go_ret
 exact ⟨v, ss, rfl, h1, h2, h3⟩
def ValL (n : Nat) (C : List Ch) (ss : List Ch) : Prop := ss.length ≤ n ∧ ∀ K : Kz, lastA Ch.n ss K.n = look Ch.n C K.n
structure GotW (C : List Ch) (todo : Kz → Bool) (ss : List Ch) : Prop where
 at_ : ∀ K : Kz, lastA Ch.n ss K.n = if todo K then none else look Ch.n C K.n
theorem GotW.start (C : List Ch) : GotW C (fun K => (look Ch.n C K.n).isSome) [] := ⟨fun K => by
 rw [lastA_nil]
 cases h : look Ch.n C K.n <;> simp⟩
theorem GotW.step {C : List Ch} {todo : Kz → Bool} {ss : List Ch} (h : GotW C todo ss) {K : Kz} {x : Ch} (hx : look Ch.n C K.n = some x) : GotW C (without todo K) (ss ++ [x]) := ⟨fun J => by
 have hn : x.n = K.n := (look_key Ch.n hx).2
 rw [lastA_snoc, hn, h.at_ J]
 unfold without
 by_cases e : K.n = J.n
 · have : K = J := Kz.same e
   subst this
   rw [if_pos rfl]
   simp [hx]
 · rw [if_neg e]
   simp [show J.n ≠ K.n from fun q => e q.symm]⟩
theorem GotW.done {C : List Ch} {todo : Kz → Bool} {ss : List Ch} (h : GotW C todo ss) (ht : ∀ K, todo K = false) (K : Kz) : lastA Ch.n ss K.n = look Ch.n C K.n := by
 rw [h.at_ K, ht K]
 simp
theorem keys1W_in (n : Nat) (l Bm b nn : Nat) (L : List Ch) (J : List Ch → World → Prop)
    (hY : ∀ pre (x : Ch) W, J pre W → pre.length < nn → YieldAt Fence.wide (n - 1) Tryz.prog l #[.agg (encC.c x).toArray] W fun e W' => e = .returned (.bool true) ∧ J (pre ++ [x]) W' ∧ KeepsWalks W W')
    (W : World) (hJ : AbidesFrom W.heap.size J) (hm : W.cell? ⟨Bm, 0, none⟩ = some (.map (some b))) (hown : MapA encC Ch.n W b nn L) (h0 : J [] W) :
    CallsIn Fence.wide n Tryz.prog 92 #[.func (.yield l) #[] #[], .pointer (some ⟨Bm, 0, none⟩)] W fun e W' => (∃ v, e = .returned v) ∧ ∃ ss : List Ch, ValL nn L ss ∧ J ss W' := by
 refine callsIn_of_wp Tryz.func92 rfl trivial ?_ rfl
 simp only [Tryz.ntmps92, List.size_toArray, List.length_cons, List.length_nil, Nat.reduceAdd, Nat.reduceSub, Array.replicate_succ, Array.replicate_zero, List.push_toArray, List.append_toArray, List.nil_append, List.cons_append]
 gi_wp2_with (first
  | (gi_at_range; refine rangeIn_a tyC rfl _ rfl b nn L rfl hown ?_; intro w0 cnt0 hrg0 hc0 hg0 hs0)
  | gi_in)
 go_frame
 gi_loopw [4] (fun _ wr => ∃ (todo : Kz → Bool) (cnt : Nat) (ss : List Ch), RangeA encC Ch.n wr b W.heap.size nn L todo cnt ∧ ss.length + cnt ≤ nn ∧ GotW L todo ss ∧ J ss wr)
   (fun _ wr => wr.rangeLeft b W.heap.size)
 case atStart =>
  exact ⟨_, cnt0, [], hrg0, by simpa using hc0, GotW.start _, hJ [] W w0 none h0 hg0 (fun r e => by cases e)⟩
 case round =>
  obtain ⟨todo, cnt, ss, hrg, hcs, hC, hJs⟩ := hrel
  have HWT : Hid (W.heap.size ≤ W.heap.size ∧ W.heap.size < wr.heap.size) := ⟨Nat.le_refl _, hrg.lt⟩
  gi_wp2_with (first
   | (gi_at_next; refine nextIn_a rfl _ rfl b W.heap.size nn L todo cnt rfl hrg ?_ ?_)
   | gi_in)
  · intro hl0
    gi_wp2
    go_end0
    exact ⟨⟨_, rfl⟩, ss, ⟨by omega, hC.done hl0⟩, hJs⟩
  · intro K x w2 cnt2 hK hx hrg2 hlt hg2 hs2 hen
    have hJ2 : J ss w2 := hJ ss wr w2 (some W.heap.size) hJs hg2 (fun r e => by cases e; exact ⟨Nat.le_refl _, hrg.walk⟩)
    have HR2 : Hid (RangeA encC Ch.n w2 b W.heap.size nn L (without todo K) cnt2) := hrg2
    have HJ2 : Hid (J ss w2) := hJ2
    clear hs2 hrg2 hJ2 hg2
    gi_wp2_with (first
     | (refine storeIn_w rfl _ _ rfl w2.heap.size rfl x rfl ch0 (InB.new encC 95 w2 ch0 _ rfl) ?_
        intro w3 hw3 t3 s3
        have B3 : Below w2.heap.size w2 w3 := ((Below.refl _ w2).alloc (Nat.le_refl _) _).trans (t3.below (by simp) (Nat.le_refl _) (by simp))
        have hJ3 : J ss w3 := hJ ss w2 w3 none HJ2.out ⟨B3.os, B3.tape, B3.output, B3.size, fun i hi _ => B3.block i hi⟩ (fun r e => by cases e)
        have hrg3 := HR2.out.below B3 (Nat.le_refl _)
        obtain ⟨fn, tmps, assign, body, hy, hR⟩ := hY ss x w3 hJ3 (by omega)
        clear B3 t3 s3 hen)
     | (refine loadIn_w rfl _ rfl w2.heap.size rfl x hw3 ?_)
     | gi_in)
    refine ⟨(fun h => by cases h), hR.mono ?_⟩
    rintro e W3 ⟨rfl, hJ4, hk4⟩
    gi_wp2
    have hrg4 := hrg3.walks hk4
    go_roundw
    case rel => exact ⟨_, cnt2, ss ++ [x], hrg4, by simp; omega, hC.step hx, hJ4⟩
    case measure => rw [hrg4.left_eq, hrg.left_eq]; exact hlt
theorem keysW_gives (n : Nat) (Bm b nn : Nat) (L : List Ch) (w : World) (hBm : Bm < w.heap.size) (hm : w.cell? ⟨Bm, 0, none⟩ = some (.map (some b))) (hown : MapA encC Ch.n w b nn L) :
    SeqGives Fence.wide n Tryz.prog 92 #[.pointer (some ⟨Bm, 0, none⟩)] (fun K : Ch => .agg (encC.c K).toArray) (ValL nn L) nn w := fun l J W hW hJ hY h0 =>
 keys1W_in n l Bm b nn L J hY W hJ ((hW.cell (p := ⟨Bm, 0, none⟩) hBm).trans hm) (hown.below hW (Nat.le_refl _)) h0
theorem keysW_calls (mb : Option Nat) (w : World) :
    Calls Tryz.prog 49 #[.map mb] w fun e w' => e = .returned (.func (.func 92) #[] #[.pointer (some ⟨w.heap.size, 0, none⟩)]) ∧ w' = w.alloc (.cells #[.map mb] 73) := by
 go_enter Tryz.func49, Tryz.ntmps49
 go_wp2
 go_ret
 exact ⟨rfl, rfl⟩
end
end Go.Proofs.YtdmindhjmjnagaaGreatDoor
