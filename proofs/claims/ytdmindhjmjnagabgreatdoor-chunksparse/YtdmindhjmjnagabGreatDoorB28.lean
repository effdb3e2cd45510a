import Derived.Test.YtdmindhjmjnagabGreatDoorSi
import Derived.Test.YtdmindhjmjnagabGreatDoorB27
import Derived.Lib.SliceRun
import Derived.Deep.Upon
import Derived.RangeFuncWrites
import Derived.RangeFuncLeaves
import Derived.RangeFuncCalls
import Derived.Stop.Asserts
/- Scan of a view. -/
namespace Go.Proofs.YtdmindhjmjnagabGreatDoor
set_option linter.unusedVariables false
set_option maxRecDepth 100000
open Go.RowKit

/-- A list with changes in it. -/
def applyL (l : List Pa) (c : List Ch) : List Pa := c.foldl stepA (l.foldl (putA Pa.n) [])
theorem applyL_is (l : List Pa) (c : List Ch) : ApplyIs l c (applyL l c) := apply_is (map_is l) c
theorem applyL_eq {l : List Pa} {c d : List Ch} {m : List Pa} (h : ApplyIs l c m) (hcd : ∀ x, lastA Ch.n c x = lastA Ch.n d x) : m = applyL l d :=
  ApplyIs.unique (l := l) (c := d) ⟨h.1, fun x => by rw [h.2 x, hcd x]⟩ (applyL_is l d)
/-- What Scan tells. -/
def scanV (C : List Ch) (sn : Sp → List Pa × Int) (s : Sp) : List Pa × Int := if (sn s).2 ≠ 0 then ([], (sn s).2) else (applyL (sn s).1 (inL C s), 0)
set_option maxHeartbeats 8000000 in
theorem vscan_calls {lim : Nat} {S : Nat → Prop} {I : Nat → World → Prop} {iv : Value} {ge : Kz → List UInt8 × Bool × Int} {sn : Sp → List Pa × Int} (D : Baser lim S I iv ge sn) (k : Nat) (w : World) (p : Nat) (x : VR) (V : VS) (s : Sp) (h : VwIn w p iv x V) (hI : I (k + 1) w) (ho : ∀ i, x.own p i → lim ≤ i) (hn : x.n ≤ 5000) :
    Calls Tryz.prog 7 #[.pointer (some ⟨p, 0, none⟩), spv s] w fun e w' => ∃ v, e = .returned (.tuple #[v, .int .i64 (scanV V.C sn s).2]) ∧ Own encP 76 w' w.heap.size v (scanV V.C sn s).1 ∧ I k w' ∧ VGo S w p iv x { V with R := V.R ++ [s] } w' { x with n := x.n + 1 } := by
  have b1 : Below w.heap.size w (w.alloc (.cells (sc s.F s.T s.e).toArray 33)) := (Below.refl _ w).alloc (Nat.le_refl _) _
  have hs1 : HasS (w.alloc (.cells (sc s.F s.T s.e).toArray 33)) w.heap.size s.F s.T s.e := HasS.new w _ _ _ s.hF s.hT
  have hsr := hs1.inB.range
  have HLW : Hid (lim ≤ w.heap.size) := D.size _ _ hI
  have HOW : Hid (∀ i, x.own p i → i < w.heap.size) := fun i hi => h.lt hi
  have HOL : Hid (∀ i, x.own p i → lim ≤ i) := ho
  have HV1 : Hid (VwIn (w.alloc (.cells (sc s.F s.T s.e).toArray 33)) p iv x V ∧ Below w.heap.size w (w.alloc (.cells (sc s.F s.T s.e).toArray 33)) ∧ HasS (w.alloc (.cells (sc s.F s.T s.e).toArray 33)) w.heap.size s.F s.T s.e) := ⟨h.called b1, b1, hs1⟩
  have HI1 : Hid (I (k + 1) w) := hI
  have hR := vread_calls _ p iv x V s (h.called b1) (by omega)
  have HKL : Hid ((sc s.F s.T s.e).length = 49) := by show _ = _; simp [sc, bc_length, s.hF, s.hT]
  have HCK : Hid ((Tryz.prog.info? 33).map (·.size) = some 49) := elS.info
  have HHN : Hid (x.n ≤ 5000) := hn
  obtain ⟨G, recv, HM0, hscan⟩ := D.scan
  have HM : Hid (Meth iv "Scan" G recv) := HM0
  have HGT : Hid (∀ y, I (k + 1) y → Calls Tryz.prog G (#[recv] ++ #[spv s]) y fun e w' => ∃ v, e = .returned (.tuple #[v, .int .i64 (sn s).2]) ∧ Sl encP w' v (sn s).1 ∧ I k w' ∧ FrV S y w') := fun y hy => hscan k y s hy
  have HLO : Hid (∀ i, S i → i < lim) := D.low
  have hlen := D.len s
  have HMO : Hid (∀ k w w', I k w → Below lim w w' → I k w') := D.mono
  have HSV : Hid (scanV V.C sn s = if (sn s).2 ≠ 0 then ([], (sn s).2) else (applyL (sn s).1 (inL V.C s), 0)) := rfl
  generalize scanV V.C sn s = RES at *
  generalize sn s = sr at *
  obtain ⟨l, c⟩ := sr
  (try simp only at HGT)
  (try simp only at HSV)
  simp only at hlen
  clear h hI ho hn HM0 hscan D b1 hs1
  go_enter Tryz.func7, Tryz.ntmps7
  go_upto_region 2 with (first
    | (refine load_el elS _ rfl w.heap.size 0 rfl rfl s hsr ?_)
    | (go_at_call 17; refine hR.mono ?_; clear hR; rintro e y4 ⟨⟨rv, rfl⟩, E1⟩))
  have HE1 : Hid (VLeft w p iv x { V with R := V.R ++ [s] } y4 { x with n := x.n + 1 }) := VLeft.shift HOW.out HV1.out.2.1 E1
  have hbq : y4.heap[w.heap.size]? = (w.alloc (.cells (sc s.F s.T s.e).toArray 33)).heap[w.heap.size]? := E1.fr.block _ HV1.out.2.2.lt (fun q => Nat.lt_irrefl _ (HOW.out _ q))
  have HS5 : Hid (ScV y4.drew p w.heap.size iv (.map (some x.c)) (.map (some x.r)) x.m s) := ⟨E1.vw.blk, ⟨s.hF, s.hT, (show y4.heap[w.heap.size]? = _ from hbq.trans HV1.out.2.2.blk)⟩⟩
  have HI5 : Hid (I (k + 1) y4.drew) := HMO.out _ _ _ HI1.out ((HE1.out.above HOL.out HLW.out).trans ⟨rfl, rfl, rfl, Nat.le_refl _, fun _ _ => rfl⟩)
  clear E1 hbq hsr
  refine wp_region_noPanic ?_
  refine wp_region_held_drew (S := (fun y => ScV y p w.heap.size iv (.map (some x.c)) (.map (some x.r)) x.m s)) (by kernel_rfl) (HS5.out) (fun hHeld => ?_)
  refine wpAnyH_take (i := 0) (v := ?_) rfl (by kernel_rfl) (by kernel_rfl) (by kernel_rfl) (fun _ _ _ h => h) (Or.inl ⟨by rfl, ?_⟩) hHeld ?_
  case refine_2 => (intro w hSw; (try dsimp only at hSw); go_simp; try (with_reducible rfl))
  (try simp only [gs])
  refine wpAnyH_take (i := 1) (v := ?_) rfl (by kernel_rfl) (by kernel_rfl) (by kernel_rfl) (fun _ _ _ h => h) (Or.inl ⟨by rfl, ?_⟩) hHeld ?_
  case refine_2 => (intro w hSw; (try dsimp only at hSw); go_simp; try (with_reducible rfl))
  (try simp only [gs])
  refine wpAnyH_take (i := 2) (v := ?_) rfl (by kernel_rfl) (by kernel_rfl) (by kernel_rfl) (fun _ _ _ h => h) (Or.inl ⟨by rfl, ?_⟩) hHeld ?_
  case refine_2 => (intro w hSw; (try dsimp only at hSw); go_simp; try (with_reducible rfl))
  (try simp only [gs])
  refine wpAnyH_take (i := 3) (v := ?_) rfl (by kernel_rfl) (by kernel_rfl) (by kernel_rfl) (fun _ _ _ h => h) (Or.inl ⟨by rfl, ?_⟩) hHeld ?_
  case refine_2 => (intro w hSw; (try dsimp only at hSw); have hc := hSw.cell0; go_simp; try (with_reducible rfl))
  (try simp only [gs])
  refine wpAnyH_take (i := 4) rfl (by kernel_rfl) (by kernel_rfl) (by kernel_rfl) (fun _ _ _ h => h) (yieldsIf_load_mid (by rfl) _ _ rfl _ _ rfl _ _ (fun y h => ScV.span h) Tryz.underlying33 rfl (by rw [HKL.out]; exact HCK.out)) hHeld ?_
  (try simp only [gs])
  generalize hy5 : y4.drew = y5 at *
  refine wpAnyH_ready (rs := [5]) (by kernel_rfl) (by simp) (AllReadyH.cons rfl (fun K hK => ?_) AllReadyH.nil)
  rw [if_pos (by rfl)]
  (try simp only [gs])
  refine wp_invoke1 (.tmp 15) "Scan" (.tmp 16) 33 rfl iv G recv (spv s) rfl HM.out rfl (HGT.out y5 HI5.out) ?_
  rintro e y6 ⟨v, rfl, hsl6, hi6, hfr⟩
  refine ⟨_, rfl, ?_⟩
  have hb6 : y6.heap[p]? = y5.heap[p]? := hfr.block _ (lt_of_block hHeld.blk) (fun q => by have := HLO.out _ q; have := HOL.out p (.inl rfl); omega)
  have hq6 : y6.heap[w.heap.size]? = y5.heap[w.heap.size]? := hfr.block _ hHeld.box.lt (fun q => by have := HLO.out _ q; have := HLW.out; omega)
  refine hK.out _ _ ⟨hb6.trans hHeld.blk, ⟨s.hF, s.hT, hq6.trans hHeld.box.blk⟩⟩ (fun g1 => ?_)
  clear hK K
  (try simp only [gs])
  refine wpAnyH_take (i := 6) (v := ?_) rfl (by kernel_rfl) (by kernel_rfl) (by kernel_rfl) (fun _ _ _ h => h) (Or.inl ⟨by rfl, ?_⟩) g1 ?_
  case refine_2 => (intro w hSw; (try dsimp only at hSw); go_simp; try (with_reducible rfl))
  (try simp only [gs])
  refine wpAnyH_take (i := 7) (v := ?_) rfl (by kernel_rfl) (by kernel_rfl) (by kernel_rfl) (fun _ _ _ h => h) (Or.inl ⟨by rfl, ?_⟩) g1 ?_
  case refine_2 => (intro w hSw; (try dsimp only at hSw); go_simp; try (with_reducible rfl))
  (try simp only [gs])
  refine wpAnyH_take (i := 8) (v := ?_) rfl (by kernel_rfl) (by kernel_rfl) (by kernel_rfl) (fun _ _ _ h => h) (Or.inl ⟨by rfl, ?_⟩) g1 ?_
  case refine_2 => (intro w hSw; (try dsimp only at hSw); go_simp; try (with_reducible rfl))
  (try simp only [gs])
  refine wpAnyH_take (i := 9) (v := ?_) rfl (by kernel_rfl) (by kernel_rfl) (by kernel_rfl) (fun _ _ _ h => h) (Or.inl ⟨by rfl, ?_⟩) g1 ?_
  case refine_2 => (intro w hSw; (try dsimp only at hSw); go_simp; try (with_reducible rfl))
  (try simp only [gs])
  refine wpAnyH_take (i := 10) (v := ?_) rfl (by kernel_rfl) (by kernel_rfl) (by kernel_rfl) (fun _ _ _ h => h) (Or.inl ⟨by rfl, ?_⟩) g1 ?_
  case refine_2 => (intro w hSw; (try dsimp only at hSw); go_simp; try (with_reducible rfl))
  (try simp only [gs])
  refine wpAnyH_done (by kernel_rfl) ?_ _
  refine NoPanic.normal ?_
  clear hb6 hq6
  rw [← hy5] at hfr
  clear hy5
  have E := HE1.out.go S
  have VW6 : VwIn y6 p iv { x with n := x.n + 1 } { V with R := V.R ++ [s] } := (show VwIn y4.drew p iv _ _ from E.vw.called ⟨rfl, rfl, rfl, Nat.le_refl _, fun _ _ => rfl⟩).based hfr HLO.out (fun i hi => (HE1.out.own i hi).elim (HOL.out i) (fun q => Nat.le_trans HLW.out q))
  have HV6 : Hid (VGo S w p iv x { V with R := V.R ++ [s] } y6 { x with n := x.n + 1 } ∧ I k y6) := ⟨⟨VW6, E.more, (E.fr.trans (FrV.of_below ⟨rfl, rfl, rfl, Nat.le_refl _, fun _ _ => rfl⟩ : FrV (fun i => x.own p i ∨ S i) y4 y4.drew) (fun i hi => .inl hi)).trans hfr (fun i hi => .inl (.inr hi)), E.own⟩, hi6⟩
  have hsp6 := g1.box.inB.range
  have hwi := within_calls y6 p iv { x with n := x.n + 1 } { V with R := V.R ++ [s] } s VW6 (show x.n + 1 ≤ 100000 by have := HHN.out; omega)
  have HSL : Hid (Sl encP y6 v l) := hsl6
  have HLE : Hid (l.length ≤ 5000) := hlen
  have HBW : Hid (w.heap.size ≤ y6.heap.size) := HV6.out.1.fr.size
  obtain ⟨ad6, cap6, rfl, -, -, -, -⟩ := id hsl6
  clear g1 hHeld hfr hi6 HS5 HI5 HE1 HGT HM HKL HCK E VW6 hsl6 HI1 HV1 hlen
  by_cases hc : c = 0
  · subst hc
    have HF : Hid (RES = (applyL l (inL V.C s), 0)) := (show _ = _ by rw [HSV.out]; rfl)
    clear HSV
    go_wp2_with (first
      | (refine load_el elS _ rfl w.heap.size 0 rfl rfl s hsp6 ?_)
      | (go_at_call 18; refine hA.mono ?_; clear hA; rintro e y8 ⟨va, m, rfl, o8, a8, l8, b8⟩)
      | (go_at_call 19; refine hwi.mono ?_; clear hwi; rintro e y7 ⟨vc, cc, rfl, o7, e7, l7, b7⟩
         have hA := apply_calls y7 _ vc l cc (Sl.called HSL.out b7) o7.slB (by have := HLE.out; omega) (by have := HHN.out; have l7' : cc.length ≤ x.n + 1 := l7; omega)
         have HE7 : Hid ((∀ y, lastA Ch.n cc y = lastA Ch.n (inL V.C s) y) ∧ Below y6.heap.size y6 y7) := ⟨e7, b7⟩
         clear o7 e7 l7 b7))
    obtain ⟨ad8, cap8, rfl, -, -, -, -⟩ := id o8.slB
    go_ret2
    have B8 : Below y6.heap.size y6 y8 := HE7.out.2.trans (b8.mono HE7.out.2.size)
    have hm := applyL_eq a8 HE7.out.1
    refine ⟨.slice ad8 m.length cap8, by rw [HF.out]; rfl, ?_, HMO.out _ _ _ HV6.out.2 (B8.mono (Nat.le_trans HLW.out HBW.out)), HV6.out.1.vw.called B8, HV6.out.1.more, HV6.out.1.fr.trans (FrV.of_below B8 : FrV (fun i => x.own p i ∨ S i) y6 y8) (fun i hi => .inl hi), HV6.out.1.own⟩
    rw [HF.out]
    show Own encP 76 y8 w.heap.size _ (applyL l (inL V.C s))
    rw [← hm]
    exact o8.lower (Nat.le_trans HBW.out HE7.out.2.size)
  · have hcb : (c != 0) = true := by simpa using hc
    have HF : Hid (RES = ([], c)) := (show _ = _ by rw [HSV.out]; simp [hc])
    clear hc HSV
    go_wp2_with fail
    go_ret2
    refine ⟨.slice none 0 0, by rw [HF.out]; rfl, ?_, HV6.out.2, HV6.out.1⟩
    rw [HF.out]
    exact Own.nil _ _ _ _
end Go.Proofs.YtdmindhjmjnagabGreatDoor
/- takeBack of a view. -/
namespace Go.Proofs.YtdmindhjmjnagabGreatDoor
set_option linter.unusedVariables false
set_option maxRecDepth 100000
open Go.RowKit

theorem wp_drop_a {α : Type} {k : Nat} {E : Enc α k} {key : α → Int} {t te : TypeId} {z : α} {o : Oper} {a : Act} {w : World} {K : Act → World → Prop} {Q : Exit → Act → World → Prop} (T : MapTy E t te z) (m x : Operand) (hop : o.op = Op.call { callee := Callee.builtin Builtin.delete, args := #[m, x], argTypes := #[t, 31] })
    (b n : Nat) (L : List α) (hm : a.eval m = .map (some b)) (h : MapA E key w b n L) (J : Kz) (hx : a.eval x = kv J.k)
    (hK : ∀ w', MapA E key w' b n (delA key L J.n) → w.grownBy w' (some b) → K (a.put o.dst (.tuple #[])) w') : o.wp Tryz.prog a w K Q := by
  obtain ⟨w', hrun, r1, r2⟩ := h.drop T J o.type
  unfold Oper.wp
  simp [execOp, hop, resolve, invoke, builtin, hm, hx, hrun, Result.andThen]
  exact hK w' r1 r2
theorem range_cF {w : World} {g : Nat} {f : Fo} (h : w.rangeAt g 0 (encF.c f)) : w.rangeAt g 0 (encC.c f.c) := fun j v hv => by
  refine h j v ?_
  show (ccd f.c ++ [Value.bool f.was])[j]? = some v
  have hv' : (ccd f.c)[j]? = some v := hv
  rw [List.getElem?_append_left (List.getElem?_eq_some_iff.1 hv').1]
  exact hv'
theorem range_wF {w : World} {g : Nat} {f : Fo} (h : w.rangeAt g 0 (encF.c f)) : w.cell? ⟨g, 26, none⟩ = some (.bool f.was) := by
  have := h 26 (.bool f.was) (by
    show (ccd f.c ++ [Value.bool f.was])[26]? = _
    have hl : (ccd f.c).length = 26 := encC.len f.c
    rw [List.getElem?_append_right (by omega), hl]
    rfl)
  simpa using this
/-- What a round of takeBack holds. -/
structure TbV (y : World) (p q : Nat) (iv cv rv mv : Value) (J : Kz) (f : Fo) : Prop where
  blk : y.heap[p]? = some (.cells #[iv, cv, rv, mv] 49 (0, 0))
  box : Has y q J.k
  el : InB encF 187 y (q + 1) f
theorem TbV.key {y : World} {p q : Nat} {iv cv rv mv : Value} {J : Kz} {f : Fo} (h : TbV y p q iv cv rv mv J f) : y.rangeAt q 0 (bc J.k) := fun j v hv => by
  rw [Nat.zero_add, cell_of_row _ _ _ _ _ _ h.box.blk]
  simpa using hv
theorem TbV.ch {y : World} {p q : Nat} {iv cv rv mv : Value} {J : Kz} {f : Fo} (h : TbV y p q iv cv rv mv J f) : y.rangeAt (q + 1) 0 (encC.c f.c) := range_cF h.el.range
theorem TbV.cell1 {y : World} {p q : Nat} {iv cv rv mv : Value} {J : Kz} {f : Fo} (h : TbV y p q iv cv rv mv J f) : y.cell? ⟨p, 1, none⟩ = some cv := by rw [cell_of_row _ _ _ _ _ _ h.blk]; rfl
/-- Where takeBack's loop stands. -/
structure TbAt (w : World) (c ub r n m : Nat) (C : List Ch) (L : List Fo) (todo : Kz → Bool) (gg : Nat) (C' : List Ch) (k : Nat) (wr : World) : Prop where
  rg : RangeA encF Fo.n wr ub r n L todo gg
  mp : MapA encC Ch.n wr c k C'
  le : k + gg ≤ m + n
  bk : BackAt C L todo C'
  fr : FrV (fun i => i = c) w wr
end Go.Proofs.YtdmindhjmjnagabGreatDoor
/- slices.Delete of the marks' end. -/
namespace Go.Proofs.YtdmindhjmjnagabGreatDoor
set_option linter.unusedVariables false
set_option maxRecDepth 100000
open Go.RowKit

theorem setCells_grown (g : Nat) : ∀ (vs : List Value) (o : Nat) (w : World), w.grownBy (w.setCells g o vs) (some g)
  | [], o, w => ⟨rfl, rfl, rfl, Nat.le_refl _, fun _ _ _ => rfl⟩
  | v :: r, o, w => by
    have ih := setCells_grown g r (o + 1) (w.setCell ⟨g, o, none⟩ v)
    exact ⟨ih.os, ih.tape, ih.output, (by have := ih.size; simp at this ⊢; try omega), fun i hi hne => (ih.block i (by simpa using hi) hne).trans (heap_setCell_other _ _ _ _ (fun e => hne (by rw [e])))⟩
theorem setCells_row (g : Nat) (ty : TypeId) : ∀ (vs : List Value) (o : Nat) (w : World) (cur : Array Value), w.heap[g]? = some (.cells cur ty (0, 0)) → o + vs.length ≤ cur.size →
    ∃ cur', (w.setCells g o vs).heap[g]? = some (.cells cur' ty (0, 0)) ∧ cur'.size = cur.size ∧ ∀ j, j < o → cur'[j]? = cur[j]?
  | [], o, w, cur, h, _ => ⟨cur, h, rfl, fun _ _ => rfl⟩
  | v :: r, o, w, cur, h, hl => by
    have h1 : (w.setCell ⟨g, o, none⟩ v).heap[g]? = some (.cells (cur.setIfInBounds o v) ty (0, 0)) := by
      rw [setCell_eq_setRow w g o _ _ _ _ h, setRow_heap w g _ _ _ _ h]
    obtain ⟨cur', q1, q2, q3⟩ := setCells_row g ty r (o + 1) (w.setCell ⟨g, o, none⟩ v) _ h1 (by simp at hl ⊢; omega)
    refine ⟨cur', q1, by rw [q2]; simp, fun j hj => ?_⟩
    rw [q3 j (by omega)]
    simp [show o ≠ j by omega]
theorem wp_append_none {P : Program} {t e : TypeId} {i : TypeInfo} {o : Oper} {a : Act} {w : World} {K : Act → World → Prop} {Q : Exit → Act → World → Prop} (ht : P.underlying t = some (.slice e)) (hi : P.info? e = some i) (s x : Operand) (ho : o.op = .call { callee := .builtin .append, args := #[s, x], argTypes := #[t, t] })
    (b : Addr) (n c : Nat) (ao : Option Addr) (c' : Nat) (hn : n ≤ c) (hs : a.eval s = .slice (some b) n c) (hx : a.eval x = .slice ao 0 c') (h : K (a.put o.dst (.slice (some b) n c)) w) : o.wp P a w K Q := by
  have hsrc : Src P i.size t (.slice ao 0 c') 0 [] w := by
    cases ao with
    | none => exact Src.ofNil w ht c'
    | some A => exact Src.ofSlice w ht A 0 c' [] (by simp) (fun j u hu => by simp at hu) (fun u hu => by cases hu)
  have hr := run_append_nothing w t t o.type e i ht hi (some b) n c hn (.slice ao 0 c') hsrc
  unfold Oper.wp
  simp [execOp, ho, resolve, invoke, builtin, hs, hx, hr, Result.andThen]
  exact h
theorem del_end (w y1 : World) (g cap N i : Nat) (u : List Nat) (cur : Array Value) (hsz : cur.size = cap) (htk : cur.toList.take N = encM.flat u) (hN : u.length = N) (hcm : cap ≤ maxLen) (hNc : N ≤ cap) (hi : i < N) (hy : y1.heap[g]? = some (.cells cur 170 (0, 0))) (hb : Below w.heap.size w y1) :
    Own encM 170 (y1.setCells g i (List.replicate (N - i) (.map none))) 0 (.slice (some ⟨g, 0, none⟩) i cap) (u.take i) ∧ w.grownBy (y1.setCells g i (List.replicate (N - i) (.map none))) (some g) := by
  obtain ⟨cur', q1, q2, q3⟩ := setCells_row g 170 (List.replicate (N - i) (.map none)) i y1 cur hy (by simp; omega)
  have hlen : (u.take i).length = i := by rw [List.length_take]; omega
  have hg := setCells_grown g (List.replicate (N - i) (.map none)) i y1
  refine ⟨⟨encM.flat_length _, .inr ⟨g, cap, cur', by rw [hlen], Nat.zero_le _, q1, by rw [hlen]; omega, hcm, by rw [q2, hsz, Nat.mul_one], ?_⟩⟩, ⟨hg.os.trans hb.os, hg.tape.trans hb.tape, hg.output.trans hb.output, Nat.le_trans hb.size hg.size, fun j hj hne => (hg.block j (by have := hb.size; omega) hne).trans (hb.block j hj)⟩⟩
  rw [hlen, Nat.mul_one, flatM]
  rw [flatM] at htk
  apply List.ext_getElem?
  intro j
  rw [List.getElem?_take]
  by_cases hj : j < i
  · rw [if_pos hj]
    have h1 : cur'.toList[j]? = cur.toList[j]? := by simpa using q3 j hj
    have h2 : (cur.toList.take N)[j]? = cur.toList[j]? := by rw [List.getElem?_take, if_pos (by omega)]
    rw [h1, ← h2, htk]
    simp [hj]
  · rw [if_neg hj]
    have : (u.take i).length ≤ j := by rw [hlen]; omega
    simp [List.getElem?_take, hj]
end Go.Proofs.YtdmindhjmjnagabGreatDoor
/- slices.Backward over marks; the loop over it, in the words of the range over a function. -/
namespace Go.Proofs.YtdmindhjmjnagabGreatDoor
set_option linter.unusedVariables false
set_option maxRecDepth 100000
open Go.RowKit

/-- n - 1, .., k: what has come when k are left. -/
def dn (n k : Nat) : List Nat := (List.range' k (n - k)).reverse
theorem dn_start (n : Nat) : dn n n = [] := by simp [dn]
theorem dn_step {n k : Nat} (hk : k + 1 ≤ n) : dn n k = dn n (k + 1) ++ [k] := by
  unfold dn
  rw [show n - k = (n - (k + 1)) + 1 by omega, List.range'_succ, List.reverse_cons]
theorem dn_length (n k : Nat) : (dn n k).length = n - k := by simp [dn]
theorem dn_zero (n : Nat) : dn n 0 = (List.range n).reverse := by simp [dn, List.range_eq_range']
/-- All old blocks but one stand. -/
def KpB (B c : Nat) (W W' : World) : Prop := ∀ b, b < B → b ≠ c → W'.heap[b]? = W.heap[b]?
theorem kpB_t {B c : Nat} {X Y Z : World} (h : KpB B c X Y) (k : KpB B c Y Z) : KpB B c X Z := fun b hb hc => (k b hb hc).trans (h b hb hc)
theorem kpB_b {B c : Nat} {w : World} (hB : B ≤ w.heap.size) (W : World) (l : Nat) (o o' : Obj) (hl : w.heap.size ≤ l) (_ : W.heap[l]? = some o) (_ : o.isCells = false) (_ : o.isWalk = false) : KpB B c W (W.putObj l o') :=
  fun b hb _ => World.putObj_heap_other (by omega)
end Go.Proofs.YtdmindhjmjnagabGreatDoor
/- Back of a view. -/
namespace Go.Proofs.YtdmindhjmjnagabGreatDoor
set_option linter.unusedVariables false
set_option maxRecDepth 100000
open Go.RowKit

attribute [local go_sem] Oper.semAt_some
/-- Between two rounds of Back. -/
def BkAt (w2 : World) (c n : Nat) (C : List Ch) (Us : Nat → List Fo) (pre : List Nat) (W : World) : Prop :=
  (∃ k, k ≤ n + pre.length * n ∧ MapA encC Ch.n W c k (pre.foldl (fun D j => takeL D (Us j)) C)) ∧ FrV (fun i => i = c) w2 W
theorem bkAt_own (w2 : World) (c n B : Nat) (C : List Ch) (Us : Nat → List Fo) (hB : w2.heap.size ≤ B) (hc : c < w2.heap.size) : OwnFrom B (BkAt w2 c n C Us) := fun s W W' row h hg hr => by
  obtain ⟨⟨k, h1, h2⟩, h3⟩ := h
  have hne : row ≠ some c := fun e => by
    have := (hr c e).1
    omega
  exact ⟨⟨k, h1, h2.grown hg hne⟩, h3.trans (FrV.of_grown (S := fun i => row = some i) hg (fun i e => e)) (fun i e => .inr (by have := (hr i e).1; omega))⟩
theorem back_fold (C : List Ch) (U : List (List Fo)) (Us : Nat → List Fo) (h : ∀ j (hj : j < U.length), Us j = U[j]) : (List.range U.length).reverse.foldl (fun D j => takeL D (Us j)) C = backC C U := by
  unfold backC
  have e : U = (List.range U.length).map Us := by
    apply List.ext_getElem
    · simp
    · intro i h1 h2
      simp [h i h1]
  conv => rhs; rw [e]
  rw [← List.map_reverse, List.foldl_map]
theorem KeepsFrom.of_frv {B c : Nat} {W W' : World} (h : FrV (fun i => i = c) W W') (hc : c < B) : KeepsFrom B W W' := ⟨h.size, fun k o hB hk _ => (h.block k (lt_of_block hk) (fun e => by omega)).trans hk⟩
theorem KpB.of_frv {B c : Nat} {W W' : World} (h : FrV (fun i => i = c) W W') (hB : B ≤ W.heap.size) : KpB B c W W' := fun b hb hne => h.block b (by omega) hne
/-- Behind the marks are cut and the new slice is stored. -/
theorem VwIn.cut {w y2 : World} {p : Nat} {iv : Value} {x : VR} {V : VS} (h : VwIn w p iv x V) (m g cap N k : Nat) (C' : List Ch) (hmm : x.m = .slice (some ⟨g, 0, none⟩) N cap) (hN : N = x.u.length) (hm : m < N) (hold : ∀ b, b < w.heap.size → b ≠ x.c → b ≠ g → y2.heap[b]? = w.heap[b]?) (hC : MapA encC Ch.n y2 x.c k C') (hk : x.n ≤ k) (hrow : Own encM 170 y2 0 (.slice (some ⟨g, 0, none⟩) m cap) (x.u.take m)) (hg : g < w.heap.size ∧ g ≠ x.c ∧ g ≠ p ∧ g ≠ x.r ∧ ∀ j (hj : j < x.u.length), g ≠ x.u[j]) :
    VwIn (y2.setCell ⟨p, 3, none⟩ (.slice (some ⟨g, 0, none⟩) m cap)) p iv { x with m := .slice (some ⟨g, 0, none⟩) m cap, u := x.u.take m, n := k } { C := C', R := V.R, U := V.U.take m } := by
  have hpc : p ≠ x.c := h.ne_map h.mapC.isMap
  have hpr : p ≠ x.r := h.ne_map h.setR.isMap
  have hnd := h.apart
  rw [List.nodup_cons, List.nodup_cons, List.mem_cons] at hnd
  have hpb : y2.heap[p]? = some (.cells #[iv, .map (some x.c), .map (some x.r), x.m] 49 (0, 0)) := (hold p (lt_of_block h.blk) hpc (fun e => hg.2.2.1 e.symm)).trans h.blk
  have hoth : ∀ b, b ≠ p → (y2.setCell ⟨p, 3, none⟩ (.slice (some ⟨g, 0, none⟩) m cap)).heap[b]? = y2.heap[b]? := fun b hb => heap_setCell_other _ _ _ _ hb
  refine ⟨heap_setCell_same _ _ _ _ _ _ hpb, hC.kept (hoth _ hpc.symm), (h.setR.kept ((hoth _ hpr.symm).trans (hold _ h.setR.lt (fun e => hnd.1 (.inl e.symm)) (fun e => hg.2.2.2.1 e.symm)))).mono hk, Own.same hrow (fun g' hg' => by cases hg'; exact hoth _ hg.2.2.1), fun i hi => ?_, ?_, ?_, ?_⟩
  · have hi' : i < m := by have : (x.u.take m).length = m := by rw [List.length_take]; omega
                           have hi2 : i < (x.u.take m).length := hi
                           omega
    have hiu : i < x.u.length := by omega
    obtain ⟨L, q1, q2⟩ := h.maps i hiu
    have hmem : x.u[i] ∈ x.u := List.getElem_mem hiu
    refine ⟨L, ?_, ?_⟩
    · show (V.U.take m)[i]? = some L
      rw [List.getElem?_take, if_pos hi']
      exact q1
    · show MapA encF Fo.n _ (x.u.take m)[i] k L
      rw [List.getElem_take]
      exact (q2.kept ((hoth _ (fun e => h.ne_map q2.isMap e.symm)).trans (hold _ q2.lt (fun e => hnd.1 (.inr (e ▸ hmem))) (fun e => hg.2.2.2.2 i hiu e.symm)))).mono hk
  · show (V.U.take m).length = (x.u.take m).length
    rw [List.length_take, List.length_take, h.len]
  · show (x.u.take m).length ≤ k
    have := h.most
    rw [List.length_take]
    omega
  · show (x.c :: x.r :: x.u.take m).Nodup
    exact List.Pairwise.sublist (List.Sublist.cons_cons _ (List.Sublist.cons_cons _ (List.take_sublist m x.u))) h.apart
end Go.Proofs.YtdmindhjmjnagabGreatDoor
/- Size of a base, and As. -/
namespace Go.Proofs.YtdmindhjmjnagabGreatDoor
set_option linter.unusedVariables false
set_option maxRecDepth 100000
open Go.RowKit

theorem invoke_op0 {ops : Array Oper} {rest : List Oper} {o : Oper} {a : Act} {w : World} {Q : Exit → Act → World → Prop} (r : Operand) (name : String) (ho : o.op = .call { callee := .invoke r name, args := #[], argTypes := #[] }) (hg : o.guard = none)
    (iv : Value) (G : FuncId) (recv : Value) (hr : a.eval r = iv) (hm : Meth iv name G recv) {R : Ending → World → Prop} (hc : Calls Tryz.prog G #[recv] w R)
    (h : ∀ e w', R e w' → ∃ v, e = .returned v ∧ wpList Tryz.prog ops Q rest (a.put o.dst v) w') : wpList Tryz.prog ops Q (o :: rest) a w :=
  wpList_plain hg fun _ hK => wp_invoke r name #[] #[] ho iv G recv hr hm #[] (by simp) (by simpa using hc) fun e w' he => by
    obtain ⟨v, h1, h2⟩ := h e w' he
    exact ⟨v, h1, hK _ _ h2⟩
end Go.Proofs.YtdmindhjmjnagabGreatDoor
/- A view over a base, as a statement's walk holds it: one contract a call. -/
namespace Go.Proofs.YtdmindhjmjnagabGreatDoor
set_option linter.unusedVariables false
set_option maxRecDepth 100000
open Go.RowKit

/-- A view over a base, behind w0; blocks from lim on are the view's. -/
structure VAt (w0 : World) (lim : Nat) (I : Nat → World → Prop) (k : Nat) (iv : Value) (q : Nat) (x : VR) (V : VS) (y : World) : Prop where
  vw : VwIn y q iv x V
  base : I k y
  own : ∀ i, x.own q i → lim ≤ i
  bel : Below w0.heap.size w0 y
  le : w0.heap.size ≤ lim
  limy : lim ≤ y.heap.size
/-- Behind a call. -/
structure VTo (S : Nat → Prop) (w0 : World) (lim : Nat) (I : Nat → World → Prop) (k : Nat) (iv : Value) (q : Nat) (x : VR) (V : VS) (y : World) (x' : VR) (y' : World) : Prop where
  at_ : VAt w0 lim I k iv q x' V y'
  fr : FrV (fun i => x.own q i ∨ S i) y y'
  own : ∀ i, x'.own q i → x.own q i ∨ y.heap.size ≤ i
  n : x'.n ≤ x.n + 4
section
variable {lim : Nat} {S : Nat → Prop} {I : Nat → World → Prop} {iv : Value} {ge : Kz → List UInt8 × Bool × Int} {sn : Sp → List Pa × Int} {w0 y : World} {k q : Nat} {x : VR} {V : VS}
theorem VAt.step (h : VAt w0 lim I k iv q x V y) (hS : ∀ i, S i → w0.heap.size ≤ i) {k' : Nat} {V' : VS} {y' : World} {x' : VR} (g : VGo S y q iv x V' y' x') (hI : I k' y') : VTo S w0 lim I k' iv q x V' y x' y' :=
  ⟨⟨g.vw, hI, fun i hi => (g.own i hi).elim (h.own i) (fun e => Nat.le_trans h.limy e), h.bel.trans (g.fr.below (fun i hi => hi.elim (fun e => Nat.le_trans h.le (h.own i e)) (hS i)) (Nat.le_trans h.le h.limy)), h.le, Nat.le_trans h.limy g.fr.size⟩, g.fr, g.own, g.more⟩
/-- What lies below lim stands. -/
theorem VTo.old {k' : Nat} {V' : VS} {x' : VR} {y' : World} (t : VTo S w0 lim I k' iv q x V' y x' y') (h : VAt w0 lim I k iv q x V y) {b : Nat} (hb : b < lim) (hS : ¬ S b) : y'.heap[b]? = y.heap[b]? :=
  t.fr.block b (Nat.lt_of_lt_of_le hb h.limy) (fun e => e.elim (fun q => by have := h.own b q; omega) hS)
theorem VAt.left (D : Baser lim S I iv ge sn) (h : VAt w0 lim I k iv q x V y) (hS : ∀ i, S i → w0.heap.size ≤ i) {V' : VS} {y' : World} {x' : VR} (g : VLeft y q iv x V' y' x') : VTo S w0 lim I k iv q x V' y x' y' :=
  h.step hS (g.go S) (D.mono _ _ _ h.base (g.above h.own h.limy))
theorem VAt.tight (h : VAt w0 lim I k iv q x V y) (n : Nat) (hn : V.most n) : VAt w0 lim I k iv q { x with n := n } V y := ⟨h.vw.tight n hn, h.base, h.own, h.bel, h.le, h.limy⟩
theorem VAt.called (D : Baser lim S I iv ge sn) (h : VAt w0 lim I k iv q x V y) {y' : World} (b : Below y.heap.size y y') : VAt w0 lim I k iv q x V y' :=
  ⟨h.vw.called b, D.mono _ _ _ h.base (b.mono h.limy), h.own, h.bel.trans (b.mono (Nat.le_trans h.le h.limy)), h.le, Nat.le_trans h.limy b.size⟩
theorem VAt.put (D : Baser lim S I iv ge sn) (h : VAt w0 lim I k iv q x V y) (hS : ∀ i, S i → w0.heap.size ≤ i) (hn : x.n ≤ 100000) (c : Ch) (hg : c.g = false) (hv : okV c.v = true) :
    Calls Tryz.prog 84 #[.pointer (some ⟨q, 0, none⟩), kv c.k, .string (str c.v)] y fun e y' => e = .returned (.int .i64 0) ∧ ∃ x', VTo S w0 lim I k iv q x (V.change c) y x' y' :=
  (vput_calls y q iv x V c hg h.vw hn hv).mono fun e y' r => by
    obtain ⟨r1, x', r2⟩ := r
    exact ⟨r1, x', h.left D hS r2⟩
theorem VAt.delete (D : Baser lim S I iv ge sn) (h : VAt w0 lim I k iv q x V y) (hS : ∀ i, S i → w0.heap.size ≤ i) (hn : x.n ≤ 100000) (K : Kz) :
    Calls Tryz.prog 83 #[.pointer (some ⟨q, 0, none⟩), kv K.k] y fun e y' => e = .returned (.int .i64 0) ∧ ∃ x', VTo S w0 lim I k iv q x (V.change (goneC K)) y x' y' :=
  (vdelete_calls y q iv x V K h.vw hn).mono fun e y' r => by
    obtain ⟨r1, x', r2⟩ := r
    exact ⟨r1, x', h.left D hS r2⟩
theorem VAt.get (D : Baser lim S I iv ge sn) (h : VAt w0 lim I (k + 1) iv q x V y) (hS : ∀ i, S i → w0.heap.size ≤ i) (hn : x.n ≤ 100000) (J : Kz) :
    Calls Tryz.prog 53 #[.pointer (some ⟨q, 0, none⟩), kv J.k] y fun e y' => e = .returned (gv (getV V.C ge J)) ∧ VTo S w0 lim I k iv q x (getW V J) y { x with n := x.n + 1 } y' :=
  (vget_calls D k y q x V J h.vw h.base h.own hn).mono fun e y' r => by
    obtain ⟨r1, r2, r3⟩ := r
    exact ⟨r1, h.step hS r3 r2⟩
theorem VAt.scan (D : Baser lim S I iv ge sn) (h : VAt w0 lim I (k + 1) iv q x V y) (hS : ∀ i, S i → w0.heap.size ≤ i) (hn : x.n ≤ 5000) (s : Sp) :
    Calls Tryz.prog 7 #[.pointer (some ⟨q, 0, none⟩), spv s] y fun e y' => ∃ ad cap, e = .returned (.tuple #[.slice ad (scanV V.C sn s).1.length cap, .int .i64 (scanV V.C sn s).2]) ∧ Own encP 76 y' y.heap.size (.slice ad (scanV V.C sn s).1.length cap) (scanV V.C sn s).1 ∧ VTo S w0 lim I k iv q x { V with R := V.R ++ [s] } y { x with n := x.n + 1 } y' :=
  (vscan_calls D k y q x V s h.vw h.base h.own hn).mono fun e y' r => by
    obtain ⟨v, r1, r2, r3, r4⟩ := r
    obtain ⟨ad, cap, rfl, -, -, -, -⟩ := id r2.slB
    exact ⟨ad, cap, r1, r2, h.step hS r4 r3⟩
end
/-- A new view over a base that is there. -/
theorem VAt.new {lim : Nat} {S : Nat → Prop} {I : Nat → World → Prop} {ge : Kz → List UInt8 × Bool × Int} {sn : Sp → List Pa × Int} {T : TypeId} {r : Value} (D : Baser lim S I (.iface T r) ge sn) (w0 y : World) (k : Nat) (hI : I k y) (hle : w0.heap.size ≤ lim) (hb : Below w0.heap.size w0 y) :
    Calls Tryz.prog 5 #[.iface T r] y fun e y' => ∃ q x, e = .returned (.pointer (some ⟨q, 0, none⟩)) ∧ VAt w0 lim I k (.iface T r) q x vs0 y' ∧ x.n = 0 ∧ (∀ i, x.own q i → y.heap.size ≤ i) ∧ Below y.heap.size y y' :=
  (vnew_calls y T r).mono fun e y' h => by
    obtain ⟨q, x, h1, h2, h3, h4, h5⟩ := h
    have hl := D.size _ _ hI
    exact ⟨q, x, h1, ⟨h2, D.mono _ _ _ hI (h5.mono hl), fun i hi => Nat.le_trans hl (h4 i hi), hb.trans (h5.mono (Nat.le_trans hle hl)), hle, Nat.le_trans hl h5.size⟩, h3, h4, h5⟩
end Go.Proofs.YtdmindhjmjnagabGreatDoor
