import Derived.Test.YtdmindhjmjnagabGreatDoorSi
import Derived.Test.YtdmindhjmjnagabGreatDoorB26
import Derived.Test.YtdmindhjmjnagabGreatDoorB03
/- Bases: whoever answers Get and Scan; what a call on a view over one leaves. -/
namespace Go.Proofs.YtdmindhjmjnagabGreatDoor
set_option linter.unusedVariables false
set_option maxRecDepth 100000
open Go.RowKit

theorem wp_invoke1 {o : Oper} {a : Act} {w : World} {K : Act → World → Prop} {Q : Exit → Act → World → Prop} (r : Operand) (name : String) (x : Operand) (ty : TypeId) (ho : o.op = .call { callee := .invoke r name, args := #[x], argTypes := #[ty] })
    (iv : Value) (G : FuncId) (recv v : Value) (hr : a.eval r = iv) (hm : Meth iv name G recv) (hv : a.eval x = v) {R : Ending → World → Prop} (hc : Calls Tryz.prog G (#[recv] ++ #[v]) w R)
    (h : ∀ e w', R e w' → ∃ v, e = .returned v ∧ K (a.put o.dst v) w') : o.wp Tryz.prog a w K Q :=
  wp_invoke r name #[x] #[ty] ho iv G recv hr hm #[v] (by simp [hv]) hc h
/-- What Get of a base answers: a text, whether it is there, an error. -/
def gv (r : List UInt8 × Bool × Int) : Value := .tuple #[.string (str r.1), .bool r.2.1, .int .i64 r.2.2]
/-- Whoever is a base, that may be asked so many times more: it writes blocks of S alone. -/
structure Baser (lim : Nat) (S : Nat → Prop) (I : Nat → World → Prop) (iv : Value) (ge : Kz → List UInt8 × Bool × Int) (sn : Sp → List Pa × Int) : Prop where
  get : ∃ G recv, Meth iv "Get" G recv ∧ ∀ k w K, I (k + 1) w → Calls Tryz.prog G (#[recv] ++ #[kv K.k]) w fun e w' => e = .returned (gv (ge K)) ∧ I k w' ∧ FrV S w w'
  scan : ∃ G recv, Meth iv "Scan" G recv ∧ ∀ k w s, I (k + 1) w → Calls Tryz.prog G (#[recv] ++ #[spv s]) w fun e w' => ∃ v, e = .returned (.tuple #[v, .int .i64 (sn s).2]) ∧ Sl encP w' v (sn s).1 ∧ I k w' ∧ FrV S w w'
  mono : ∀ k w w', I k w → Below lim w w' → I k w'
  down : ∀ k w, I (k + 1) w → I k w
  low : ∀ i, S i → i < lim
  size : ∀ k w, I k w → lim ≤ w.heap.size
  len : ∀ s, (sn s).1.length ≤ 5000
  ifc : ∃ T rv, iv = .iface T rv
/-- No block. -/
def noB (_ : Nat) : Prop := False
theorem frv_no {w w' : World} (h : Below w.heap.size w w') : FrV noB w w' := FrV.of_below h

/-! A base of pairs. -/
def plGe (L : List Pa) (K : Kz) : List UInt8 × Bool × Int := match look Pa.n L K.n with
  | none => ([], false, 0)
  | some x => (x.v, true, 0)
theorem plGe_v (L : List Pa) (K : Kz) : gv (plGe L K) = gotV (look Pa.n L K.n) := by
  unfold plGe
  cases look Pa.n L K.n <;> rfl
theorem plain_methG (p : Nat) : Meth (.iface 43 (.pointer (some ⟨p, 0, none⟩))) "Get" 150 (.pointer (some ⟨p, 0, none⟩)) := fun w args => by
  exact meth_of (P := Tryz.prog) (fun w => by kernel_rfl) (fun args w => callFunc_go Tryz.func150 (by kernel_rfl) (by rfl) args w) w args
theorem plain_methS (p : Nat) : Meth (.iface 43 (.pointer (some ⟨p, 0, none⟩))) "Scan" 152 (.pointer (some ⟨p, 0, none⟩)) := fun w args => by
  exact meth_of (P := Tryz.prog) (fun w => by kernel_rfl) (fun args w => callFunc_go Tryz.func152 (by kernel_rfl) (by rfl) args w) w args
/-- A base of pairs whose parts lie below lim. -/
structure PlB (lim : Nat) (w : World) (p : Nat) (v : Value) (L : List Pa) : Prop where
  pl : ∃ y, PlIn y p v L ∧ y.heap.size ≤ lim ∧ Below y.heap.size y w
  le : lim ≤ w.heap.size
theorem PlB.inn {lim : Nat} {w : World} {p : Nat} {v : Value} {L : List Pa} (h : PlB lim w p v L) : PlIn w p v L := by
  obtain ⟨y, h1, h2, h3⟩ := h.pl
  exact h1.called h3
theorem PlB.of {w : World} {p : Nat} {v : Value} {L : List Pa} (h : PlIn w p v L) : PlB w.heap.size w p v L := ⟨⟨w, h, Nat.le_refl _, Below.refl _ _⟩, Nat.le_refl _⟩
theorem PlB.mono {lim : Nat} {w w' : World} {p : Nat} {v : Value} {L : List Pa} (h : PlB lim w p v L) (b : Below lim w w') : PlB lim w' p v L := by
  obtain ⟨y, h1, h2, h3⟩ := h.pl
  exact ⟨⟨y, h1, h2, h3.trans (b.mono h2)⟩, Nat.le_trans h.le b.size⟩
theorem scanL_len (s : Sp) (L : List Pa) : (scanL s L).length ≤ L.length := List.length_filter_le _ _
theorem plain_base (lim p : Nat) (v : Value) (L : List Pa) (hl : L.length ≤ 5000) : Baser lim noB (fun _ w => PlB lim w p v L) (.iface 43 (.pointer (some ⟨p, 0, none⟩))) (plGe L) (fun s => (scanL s L, 0)) where
  get := ⟨150, _, plain_methG p, fun k w K h => (pget_calls w p v L K h.inn (by omega)).mono fun e w' q => ⟨by rw [plGe_v]; exact q.1, h.mono (q.2.mono h.le), frv_no q.2⟩⟩
  scan := ⟨152, _, plain_methS p, fun k w s h => (pscan_calls w p v L s h.inn (by omega)).mono fun e w' q => by
    obtain ⟨u, e1, o1, b1⟩ := q
    exact ⟨u, e1, o1.slB, h.mono (b1.mono h.le), frv_no b1⟩⟩
  mono := fun k w w' h b => h.mono b
  down := fun k w h => h
  low := fun i h => h.elim
  size := fun k w h => h.le
  len := fun s => Nat.le_trans (scanL_len s L) hl
  ifc := ⟨_, _, rfl⟩

/-! A view over a base. -/
/-- What a call on a view over a base leaves. -/
structure VGo (S : Nat → Prop) (w : World) (p : Nat) (iv : Value) (x : VR) (V : VS) (w' : World) (x' : VR) : Prop where
  vw : VwIn w' p iv x' V
  more : x'.n ≤ x.n + 4
  fr : FrV (fun i => x.own p i ∨ S i) w w'
  own : ∀ i, x'.own p i → x.own p i ∨ w.heap.size ≤ i
theorem VLeft.go {w w' : World} {p : Nat} {iv : Value} {x x' : VR} {V : VS} (h : VLeft w p iv x V w' x') (S : Nat → Prop) : VGo S w p iv x V w' x' :=
  ⟨h.vw, h.more, ⟨h.fr.bel, fun i hi hn => h.fr.block i hi (fun q => hn (.inl q))⟩, h.own⟩
/-- What the base has done leaves the view. -/
theorem VwIn.based {S : Nat → Prop} {lim : Nat} {w w' : World} {p : Nat} {iv : Value} {x : VR} {V : VS} (h : VwIn w p iv x V) (hf : FrV S w w') (hS : ∀ i, S i → i < lim) (ho : ∀ i, x.own p i → lim ≤ i) : VwIn w' p iv x V :=
  h.kept fun i hi => hf.block i (h.lt hi) (fun q => by have := hS i q; have := ho i hi; omega)
/-- A view is changed above lim alone. -/
theorem VLeft.above {lim : Nat} {w w' : World} {p : Nat} {iv : Value} {x x' : VR} {V : VS} (h : VLeft w p iv x V w' x') (ho : ∀ i, x.own p i → lim ≤ i) (hl : lim ≤ w.heap.size) : Below lim w w' := h.fr.below ho hl
/-- What Get tells. -/
def getV (C : List Ch) (ge : Kz → List UInt8 × Bool × Int) (K : Kz) : List UInt8 × Bool × Int := match look Ch.n C K.n with
  | some c => (c.v, !c.g, 0)
  | none => if (ge K).2.2 ≠ 0 ∨ (ge K).2.1 = false then ([], false, (ge K).2.2) else ((ge K).1, true, 0)
def oneSp (K : Kz) : Sp := ⟨K.k, oneT K.k, oneE K.k, K.h, oneT_length K.k K.h⟩
/-- What Get leaves. -/
def getW (V : VS) (K : Kz) : VS := if (look Ch.n V.C K.n).isSome = true then V else { V with R := V.R ++ [oneSp K] }
/-- What Get's regions hold. -/
structure GtV (y : World) (p q : Nat) (iv cv rv mv : Value) (J : Kz) : Prop where
  blk : y.heap[p]? = some (.cells #[iv, cv, rv, mv] 49 (0, 0))
  box : Has y q J.k
theorem GtV.key {y : World} {p q : Nat} {iv cv rv mv : Value} {J : Kz} (h : GtV y p q iv cv rv mv J) : y.rangeAt q 0 (bc J.k) := fun j v hv => by
  rw [Nat.zero_add, cell_of_row _ _ _ _ _ _ h.box.blk]
  simpa using hv
theorem GtV.cell0 {y : World} {p q : Nat} {iv cv rv mv : Value} {J : Kz} (h : GtV y p q iv cv rv mv J) : y.cell? ⟨p, 0, none⟩ = some iv := by rw [cell_of_row _ _ _ _ _ _ h.blk]; rfl
/-- What Scan's region holds. -/
structure ScV (y : World) (p q : Nat) (iv cv rv mv : Value) (s : Sp) : Prop where
  blk : y.heap[p]? = some (.cells #[iv, cv, rv, mv] 49 (0, 0))
  box : HasS y q s.F s.T s.e
theorem ScV.span {y : World} {p q : Nat} {iv cv rv mv : Value} {s : Sp} (h : ScV y p q iv cv rv mv s) : y.rangeAt q 0 (sc s.F s.T s.e) := fun j v hv => by
  rw [Nat.zero_add, cell_of_row _ _ _ _ _ _ h.box.blk]
  simpa using hv
theorem ScV.cell0 {y : World} {p q : Nat} {iv cv rv mv : Value} {s : Sp} (h : ScV y p q iv cv rv mv s) : y.cell? ⟨p, 0, none⟩ = some iv := by rw [cell_of_row _ _ _ _ _ _ h.blk]; rfl
end Go.Proofs.YtdmindhjmjnagabGreatDoor
/- Get of a view. -/
namespace Go.Proofs.YtdmindhjmjnagabGreatDoor
set_option linter.unusedVariables false
set_option maxRecDepth 100000
open Go.RowKit

set_option maxHeartbeats 8000000 in
theorem vget_calls {lim : Nat} {S : Nat → Prop} {I : Nat → World → Prop} {iv : Value} {ge : Kz → List UInt8 × Bool × Int} {sn : Sp → List Pa × Int} (D : Baser lim S I iv ge sn) (k : Nat) (w : World) (p : Nat) (x : VR) (V : VS) (J : Kz) (h : VwIn w p iv x V) (hI : I (k + 1) w) (ho : ∀ i, x.own p i → lim ≤ i) (hn : x.n ≤ 100000) :
    Calls Tryz.prog 53 #[.pointer (some ⟨p, 0, none⟩), kv J.k] w fun e w' => e = .returned (gv (getV V.C ge J)) ∧ I k w' ∧ VGo S w p iv x (getW V J) w' { x with n := x.n + 1 } := by
  have b1 : Below w.heap.size w (w.alloc (.cells (bc J.k).toArray 31)) := (Below.refl _ w).alloc (Nat.le_refl _) _
  have hk1 : Has (w.alloc (.cells (bc J.k).toArray 31)) w.heap.size J.k := Has.new w J.k J.h
  have h1 := h.called b1
  have HLW : Hid (lim ≤ w.heap.size) := D.size _ _ hI
  have HOW : Hid (∀ i, x.own p i → i < w.heap.size) := fun i hi => h.lt hi
  have HOL : Hid (∀ i, x.own p i → lim ≤ i) := ho
  have HH : Hid (VwIn w p iv x V) := h
  have H1 : Hid (VwIn (w.alloc (.cells (bc J.k).toArray 31)) p iv x V) := h1
  have HB1 : Hid (Below w.heap.size w (w.alloc (.cells (bc J.k).toArray 31))) := b1
  have HI1 : Hid (I (k + 1) w) := hI
  have HGV : Hid (getV V.C ge J = match look Ch.n V.C J.n with
    | some c => (c.v, !c.g, 0)
    | none => if (ge J).2.2 ≠ 0 ∨ (ge J).2.1 = false then ([], false, (ge J).2.2) else ((ge J).1, true, 0)) := rfl
  have HGW : Hid (getW V J = if (look Ch.n V.C J.n).isSome = true then V else { V with R := V.R ++ [oneSp J] }) := rfl
  have HKL : Hid ((bc J.k).length = 24) := (show _ = _ by rw [bc_length, J.h])
  have HCK : Hid ((Tryz.prog.info? 31).map (·.size) = some 24) := Tryz.key_info
  have HHN : Hid (x.n ≤ 100000) := hn
  generalize getV V.C ge J = RES at *
  generalize getW V J = VW at *
  have HS : Hid (KpV (w.alloc (.cells (bc J.k).toArray 31)) (w.alloc (.cells (bc J.k).toArray 31)).drew p w.heap.size iv (.map (some x.c)) (.map (some x.r)) x.m x.c x.n V.C J) := (show KpV _ _ _ _ _ _ _ _ _ _ _ _ from KpV.called ⟨Below.refl _ _, h1.blk, hk1, h1.mapC⟩ ⟨rfl, rfl, rfl, Nat.le_refl _, fun _ _ => rfl⟩)
  clear h h1 b1 hI ho hn hk1
  cases hlc : look Ch.n V.C J.n with
  | some c =>
    have HF : Hid (RES = (c.v, !c.g, 0)) := (show _ = _ by rw [HGV.out, hlc])
    have HW : Hid (VW = V) := (show _ = _ by rw [HGW.out, hlc]; rfl)
    have HL : Hid (look Ch.n V.C J.n = some c) := hlc
    clear HGV HGW hlc
    go_enter Tryz.func53, Tryz.ntmps53
    go_upto_region 1 with fail
    generalize (w.alloc (.cells (bc J.k).toArray 31)) = w1 at *
    refine wp_region_noPanic ?_
    refine wp_region_held_drew (S := (fun y => KpV w1 y p w.heap.size iv (.map (some x.c)) (.map (some x.r)) x.m x.c x.n V.C J)) (by kernel_rfl) (HS.out) (fun hHeld => ?_)
    refine wpAnyH_take (i := 0) (v := ?_) rfl (by kernel_rfl) (by kernel_rfl) (by kernel_rfl) (fun _ _ _ h => h) (Or.inl ⟨by rfl, ?_⟩) hHeld ?_
    case refine_2 => (intro w hSw; (try dsimp only at hSw); go_simp; try (with_reducible rfl))
    (try simp only [gs])
    refine wpAnyH_take (i := 1) (v := ?_) rfl (by kernel_rfl) (by kernel_rfl) (by kernel_rfl) (fun _ _ _ h => h) (Or.inl ⟨by rfl, ?_⟩) hHeld ?_
    case refine_2 => (intro w hSw; (try dsimp only at hSw); go_simp; try (with_reducible rfl))
    (try simp only [gs])
    refine wpAnyH_take (i := 2) (v := ?_) rfl (by kernel_rfl) (by kernel_rfl) (by kernel_rfl) (fun _ _ _ h => h) (Or.inl ⟨by rfl, ?_⟩) hHeld ?_
    case refine_2 => (intro w hSw; (try dsimp only at hSw); go_simp; try (with_reducible rfl))
    (try simp only [gs])
    refine wpAnyH_take (i := 3) (v := ?_) rfl (by kernel_rfl) (by kernel_rfl) (by kernel_rfl) (fun _ _ _ h => h) (Or.inl ⟨by rfl, ?_⟩) hHeld ?_
    case refine_2 => (intro w hSw; (try dsimp only at hSw); have hc := hSw.cell1; go_simp; try (with_reducible rfl))
    (try simp only [gs])
    refine wpAnyH_take (i := 4) rfl (by kernel_rfl) (by kernel_rfl) (by kernel_rfl) (fun _ _ _ h => h) (yieldsIf_load_mid (by rfl) _ _ rfl _ _ rfl _ _ (fun y h => KpV.key h) Tryz.underlying31 rfl (by rw [HKL.out]; exact HCK.out)) hHeld ?_
    (try simp only [gs])
    refine wpAnyH_take (i := 5) (v := ?_) rfl (by kernel_rfl) (by kernel_rfl) (by kernel_rfl) (fun _ _ _ h => h) (Or.inl ⟨by rfl, ?_⟩) hHeld ?_
    case refine_2 => (intro w hSw; (try dsimp only at hSw); have hlk := hSw.mp.look2 tyC J; go_simp; try (with_reducible rfl))
    (try simp only [gs])
    have HCO : Hid ((look Ch.n V.C J.n).getD ch0 = c ∧ (look Ch.n V.C J.n).isSome = true) := (show _ ∧ _ by rw [HL.out]; exact ⟨rfl, rfl⟩)
    rw [HCO.out.1, HCO.out.2]
    refine wpAnyH_take (i := 6) (v := ?_) rfl (by kernel_rfl) (by kernel_rfl) (by kernel_rfl) (fun _ _ _ h => h) (Or.inl ⟨by rfl, ?_⟩) hHeld ?_
    case refine_2 => (intro w hSw; (try dsimp only at hSw); go_simp; try (with_reducible rfl))
    (try simp only [gs])
    refine wpAnyH_take (i := 7) (v := ?_) rfl (by kernel_rfl) (by kernel_rfl) (by kernel_rfl) (fun _ _ _ h => h) (Or.inl ⟨by rfl, ?_⟩) hHeld ?_
    case refine_2 => (intro w hSw; (try dsimp only at hSw); go_simp; try (with_reducible rfl))
    (try simp only [gs])
    refine wpAnyH_take (i := 8) (v := ?_) rfl (by kernel_rfl) (by kernel_rfl) (by kernel_rfl) (fun _ _ _ h => h) (Or.inl ⟨by rfl, ?_⟩) hHeld ?_
    case refine_2 => (intro w hSw; (try dsimp only at hSw); go_simp; try (with_reducible rfl))
    (try simp only [gs])
    generalize hy1 : w1.drew = y1 at *
    refine wpAnyH_ready (rs := [9]) (by kernel_rfl) (by simp) (AllReadyH.cons rfl (fun K hK => ?_) AllReadyH.nil)
    rw [if_pos (by rfl)]
    (try simp only [gs])
    go_simp
    refine hK.out _ _ (hHeld.called ((Below.refl _ y1).alloc (Nat.le_refl _) _)) (fun g1 => ?_)
    clear hK K
    (try simp only [gs])
    refine wpAnyH_ready (rs := [10]) (by kernel_rfl) (by simp) (AllReadyH.cons rfl (fun K hK => ?_) AllReadyH.nil)
    rw [if_pos (by rfl)]
    (try simp only [gs])
    refine wp_store_el elC _ _ rfl y1.heap.size rfl c rfl ch0 (InB.new encC 60 y1 ch0 _ rfl) ?_
    intro y2 hu t2 s2
    have BY : Below y1.heap.size y1 y2 := ((Below.refl _ _).alloc (Nat.le_refl _) _).trans (t2.below (by simp) (Nat.le_refl _) (by simp))
    refine hK.out _ _ (hHeld.called BY) (fun g2 => ?_)
    clear hK K
    (try simp only [gs])
    refine wpAnyH_take (i := 11) (v := ?_) rfl (by kernel_rfl) (by kernel_rfl) (by kernel_rfl) (fun _ _ _ h => h) (Or.inl ⟨by rfl, ?_⟩) g2 ?_
    case refine_2 => (intro w hSw; (try dsimp only at hSw); go_simp; try (with_reducible rfl))
    (try simp only [gs])
    refine wpAnyH_done (by kernel_rfl) ?_ _
    refine NoPanic.normal ?_
    obtain ⟨cv, cg⟩ := range_vC hu.range
    simp only [Nat.zero_add] at cv cg
    have HG : Hid (Below w1.heap.size w1 y2) := g2.bel
    clear g1 g2 hHeld BY t2 s2 HS HKL HCK hu HL
    generalize y1.heap.size = q at *
    go_wp2_with (first | (go_quiet (fail)) | fail)
    go_ret3
    have bd : Below y2.heap.size y2 (y2.drewN nq) := ⟨rfl, rfl, rfl, Nat.le_refl _, fun _ _ => rfl⟩
    have bw : Below w.heap.size w (y2.drewN nq) := (HB1.out.trans (HG.out.mono HB1.out.size)).trans (bd.mono (Nat.le_trans HB1.out.size HG.out.size))
    refine ⟨by rw [HF.out]; rfl, D.mono _ _ _ (D.down _ _ HI1.out) (bw.mono HLW.out), ?_⟩
    rw [HW.out]
    exact (HH.out.left bw).go S
  | none =>
    have HL : Hid (look Ch.n V.C J.n = none) := hlc
    have HF : Hid (RES = if (ge J).2.2 ≠ 0 ∨ (ge J).2.1 = false then ([], false, (ge J).2.2) else ((ge J).1, true, 0)) := (show _ = _ by rw [HGV.out, hlc])
    have HW : Hid (VW = { V with R := V.R ++ [oneSp J] }) := (show _ = _ by rw [HGW.out, hlc]; rfl)
    clear HGV HGW hlc
    go_enter Tryz.func53, Tryz.ntmps53
    go_upto_region 1 with fail
    generalize (w.alloc (.cells (bc J.k).toArray 31)) = w1 at *
    refine wp_region_noPanic ?_
    refine wp_region_held_drew (S := (fun y => KpV w1 y p w.heap.size iv (.map (some x.c)) (.map (some x.r)) x.m x.c x.n V.C J)) (by kernel_rfl) (HS.out) (fun hHeld => ?_)
    refine wpAnyH_take (i := 0) (v := ?_) rfl (by kernel_rfl) (by kernel_rfl) (by kernel_rfl) (fun _ _ _ h => h) (Or.inl ⟨by rfl, ?_⟩) hHeld ?_
    case refine_2 => (intro w hSw; (try dsimp only at hSw); go_simp; try (with_reducible rfl))
    (try simp only [gs])
    refine wpAnyH_take (i := 1) (v := ?_) rfl (by kernel_rfl) (by kernel_rfl) (by kernel_rfl) (fun _ _ _ h => h) (Or.inl ⟨by rfl, ?_⟩) hHeld ?_
    case refine_2 => (intro w hSw; (try dsimp only at hSw); go_simp; try (with_reducible rfl))
    (try simp only [gs])
    refine wpAnyH_take (i := 2) (v := ?_) rfl (by kernel_rfl) (by kernel_rfl) (by kernel_rfl) (fun _ _ _ h => h) (Or.inl ⟨by rfl, ?_⟩) hHeld ?_
    case refine_2 => (intro w hSw; (try dsimp only at hSw); go_simp; try (with_reducible rfl))
    (try simp only [gs])
    refine wpAnyH_take (i := 3) (v := ?_) rfl (by kernel_rfl) (by kernel_rfl) (by kernel_rfl) (fun _ _ _ h => h) (Or.inl ⟨by rfl, ?_⟩) hHeld ?_
    case refine_2 => (intro w hSw; (try dsimp only at hSw); have hc := hSw.cell1; go_simp; try (with_reducible rfl))
    (try simp only [gs])
    refine wpAnyH_take (i := 4) rfl (by kernel_rfl) (by kernel_rfl) (by kernel_rfl) (fun _ _ _ h => h) (yieldsIf_load_mid (by rfl) _ _ rfl _ _ rfl _ _ (fun y h => KpV.key h) Tryz.underlying31 rfl (by rw [HKL.out]; exact HCK.out)) hHeld ?_
    (try simp only [gs])
    refine wpAnyH_take (i := 5) (v := ?_) rfl (by kernel_rfl) (by kernel_rfl) (by kernel_rfl) (fun _ _ _ h => h) (Or.inl ⟨by rfl, ?_⟩) hHeld ?_
    case refine_2 => (intro w hSw; (try dsimp only at hSw); have hlk := hSw.mp.look2 tyC J; go_simp; try (with_reducible rfl))
    (try simp only [gs])
    have HCO : Hid ((look Ch.n V.C J.n).getD ch0 = ch0 ∧ (look Ch.n V.C J.n).isSome = false) := (show _ ∧ _ by rw [HL.out]; exact ⟨rfl, rfl⟩)
    rw [HCO.out.1, HCO.out.2]
    refine wpAnyH_take (i := 6) (v := ?_) rfl (by kernel_rfl) (by kernel_rfl) (by kernel_rfl) (fun _ _ _ h => h) (Or.inl ⟨by rfl, ?_⟩) hHeld ?_
    case refine_2 => (intro w hSw; (try dsimp only at hSw); go_simp; try (with_reducible rfl))
    (try simp only [gs])
    refine wpAnyH_take (i := 7) (v := ?_) rfl (by kernel_rfl) (by kernel_rfl) (by kernel_rfl) (fun _ _ _ h => h) (Or.inl ⟨by rfl, ?_⟩) hHeld ?_
    case refine_2 => (intro w hSw; (try dsimp only at hSw); go_simp; try (with_reducible rfl))
    (try simp only [gs])
    refine wpAnyH_take (i := 8) (v := ?_) rfl (by kernel_rfl) (by kernel_rfl) (by kernel_rfl) (fun _ _ _ h => h) (Or.inl ⟨by rfl, ?_⟩) hHeld ?_
    case refine_2 => (intro w hSw; (try dsimp only at hSw); go_simp; try (with_reducible rfl))
    (try simp only [gs])
    generalize hy1 : w1.drew = y1 at *
    refine wpAnyH_ready (rs := [9]) (by kernel_rfl) (by simp) (AllReadyH.cons rfl (fun K hK => ?_) AllReadyH.nil)
    rw [if_pos (by rfl)]
    (try simp only [gs])
    go_simp
    refine hK.out _ _ (hHeld.called ((Below.refl _ y1).alloc (Nat.le_refl _) _)) (fun g1 => ?_)
    clear hK K
    (try simp only [gs])
    refine wpAnyH_ready (rs := [10]) (by kernel_rfl) (by simp) (AllReadyH.cons rfl (fun K hK => ?_) AllReadyH.nil)
    rw [if_pos (by rfl)]
    (try simp only [gs])
    refine wp_store_el elC _ _ rfl y1.heap.size rfl ch0 rfl ch0 (InB.new encC 60 y1 ch0 _ rfl) ?_
    intro y2 hu t2 s2
    have BY : Below y1.heap.size y1 y2 := ((Below.refl _ _).alloc (Nat.le_refl _) _).trans (t2.below (by simp) (Nat.le_refl _) (by simp))
    refine hK.out _ _ (hHeld.called BY) (fun g2 => ?_)
    clear hK K
    (try simp only [gs])
    refine wpAnyH_take (i := 11) (v := ?_) rfl (by kernel_rfl) (by kernel_rfl) (by kernel_rfl) (fun _ _ _ h => h) (Or.inl ⟨by rfl, ?_⟩) g2 ?_
    case refine_2 => (intro w hSw; (try dsimp only at hSw); go_simp; try (with_reducible rfl))
    (try simp only [gs])
    refine wpAnyH_done (by kernel_rfl) ?_ _
    refine NoPanic.normal ?_
    have HG : Hid (Below w1.heap.size w1 y2) := g2.bel
    have hkb : Has y2 w.heap.size J.k := g2.box
    have HBW : Hid (Below w.heap.size w y2) := HB1.out.trans (g2.bel.mono HB1.out.size)
    have HKB : Hid (Has y2 w.heap.size J.k) := hkb
    have hO := one_calls y2 J.k J.h
    clear g1 g2 hHeld BY t2 s2 HS hu HL
    generalize y1.heap.size = q at *
    go_upto_region 5 with (first
      | (refine load_key _ rfl w.heap.size rfl rfl J.k hkb ?_)
      | (go_at_call 17; refine hR.mono ?_; clear hR; rintro e y4 ⟨⟨rv, rfl⟩, E1⟩)
      | (go_at_call 62; refine hO.mono ?_; clear hO; rintro e y3 ⟨rfl, b3⟩
         have HV3 : Hid (VwIn y3 p iv x V ∧ Below w.heap.size w y3 ∧ Below y2.heap.size y2 y3) := ⟨(H1.out.called HG.out).called b3, HBW.out.trans (b3.mono HBW.out.size), b3⟩
         have hR := vread_calls y3 p iv x V (oneSp J) HV3.out.1 HHN.out))
    have HE1 : Hid (VLeft w p iv x { V with R := V.R ++ [oneSp J] } y4 { x with n := x.n + 1 }) := VLeft.shift HOW.out HV3.out.2.1 E1
    have hbq : y4.heap[w.heap.size]? = y3.heap[w.heap.size]? := E1.fr.block _ (by have := HKB.out.lt; have := HV3.out.2.2.size; omega) (fun q => Nat.lt_irrefl _ (HOW.out _ q))
    have HS5 : Hid (GtV y4.drew p w.heap.size iv (.map (some x.c)) (.map (some x.r)) x.m J) := ⟨E1.vw.blk, ⟨J.h, (show y4.heap[w.heap.size]? = _ from hbq.trans ((HV3.out.2.2.block _ HKB.out.lt).trans HKB.out.blk))⟩⟩
    have HI5 : Hid (I (k + 1) y4.drew) := D.mono _ _ _ HI1.out ((HE1.out.above HOL.out HLW.out).trans ⟨rfl, rfl, rfl, Nat.le_refl _, fun _ _ => rfl⟩)
    clear E1 hbq hkb HV3 HKB HBW HG b3
    obtain ⟨G, recv, HM0, hget⟩ := D.get
    have HM : Hid (Meth iv "Get" G recv) := HM0
    have HGT : Hid (∀ y, I (k + 1) y → Calls Tryz.prog G (#[recv] ++ #[kv J.k]) y fun e w' => e = .returned (gv (ge J)) ∧ I k w' ∧ FrV S y w') := fun y hy => hget k y J hy
    have HLO : Hid (∀ i, S i → i < lim) := D.low
    clear HM0 hget
    generalize ge J = gr at *
    obtain ⟨v, is_, c⟩ := gr
    (try simp only at HF); (try simp only [gv] at HGT)
    refine wp_region_noPanic ?_
    refine wp_region_held_drew (S := (fun y => GtV y p w.heap.size iv (.map (some x.c)) (.map (some x.r)) x.m J)) (by kernel_rfl) (HS5.out) (fun hHeld => ?_)
    refine wpAnyH_take (i := 0) (v := ?_) rfl (by kernel_rfl) (by kernel_rfl) (by kernel_rfl) (fun _ _ _ h => h) (Or.inl ⟨by rfl, ?_⟩) hHeld ?_
    case refine_2 => (intro w hSw; (try dsimp only at hSw); go_simp; try (with_reducible rfl))
    (try simp only [gs])
    refine wpAnyH_take (i := 1) (v := ?_) rfl (by kernel_rfl) (by kernel_rfl) (by kernel_rfl) (fun _ _ _ h => h) (Or.inl ⟨by rfl, ?_⟩) hHeld ?_
    case refine_2 => (intro w hSw; (try dsimp only at hSw); go_simp; try (with_reducible rfl))
    (try simp only [gs])
    refine wpAnyH_take (i := 2) (v := ?_) rfl (by kernel_rfl) (by kernel_rfl) (by kernel_rfl) (fun _ _ _ h => h) (Or.inl ⟨by rfl, ?_⟩) hHeld ?_
    case refine_2 => (intro w hSw; (try dsimp only at hSw); go_simp; try (with_reducible rfl))
    (try simp only [gs])
    refine wpAnyH_take (i := 3) (v := ?_) rfl (by kernel_rfl) (by kernel_rfl) (by kernel_rfl) (fun _ _ _ h => h) (Or.inl ⟨by rfl, ?_⟩) hHeld ?_
    case refine_2 => (intro w hSw; (try dsimp only at hSw); have hc := hSw.cell0; go_simp; try (with_reducible rfl))
    (try simp only [gs])
    refine wpAnyH_take (i := 4) rfl (by kernel_rfl) (by kernel_rfl) (by kernel_rfl) (fun _ _ _ h => h) (yieldsIf_load_mid (by rfl) _ _ rfl _ _ rfl _ _ (fun y h => GtV.key h) Tryz.underlying31 rfl (by rw [HKL.out]; exact HCK.out)) hHeld ?_
    (try simp only [gs])
    generalize hy5 : y4.drew = y5 at *
    refine wpAnyH_ready (rs := [5]) (by kernel_rfl) (by simp) (AllReadyH.cons rfl (fun K hK => ?_) AllReadyH.nil)
    rw [if_pos (by rfl)]
    (try simp only [gs])
    refine wp_invoke1 (.tmp 35) "Get" (.tmp 36) 31 rfl iv G recv (kv J.k) rfl HM.out rfl (HGT.out y5 HI5.out) ?_
    rintro e y6 ⟨rfl, hi6, hfr⟩
    refine ⟨_, rfl, ?_⟩
    have hb6 : y6.heap[p]? = y5.heap[p]? := hfr.block _ (lt_of_block hHeld.blk) (fun q => by have := HLO.out _ q; have := HOL.out p (.inl rfl); omega)
    have hq6 : y6.heap[w.heap.size]? = y5.heap[w.heap.size]? := hfr.block _ hHeld.box.lt (fun q => by have := HLO.out _ q; have := HLW.out; omega)
    refine hK.out _ _ ⟨hb6.trans hHeld.blk, ⟨J.h, hq6.trans hHeld.box.blk⟩⟩ (fun g1 => ?_)
    clear hK K
    (try simp only [gs])
    refine wpAnyH_take (i := 6) (v := ?_) rfl (by kernel_rfl) (by kernel_rfl) (by kernel_rfl) (fun _ _ _ h => h) (Or.inl ⟨by rfl, ?_⟩) g1 ?_
    case refine_2 => (intro w hSw; (try dsimp only at hSw); go_simp; try (with_reducible rfl))
    (try simp only [gs])
    refine wpAnyH_take (i := 7) (v := ?_) rfl (by kernel_rfl) (by kernel_rfl) (by kernel_rfl) (fun _ _ _ h => h) (Or.inl ⟨by rfl, ?_⟩) g1 ?_
    case refine_2 => (intro w hSw; (try dsimp only at hSw); go_simp; try (with_reducible rfl))
    (try simp only [gs])
    refine wpAnyH_take (i := 8) (v := ?_) rfl (by kernel_rfl) (by kernel_rfl) (by kernel_rfl) (fun _ _ _ h => h) (Or.inl ⟨by rfl, ?_⟩) g1 ?_
    case refine_2 => (intro w hSw; (try dsimp only at hSw); go_simp; try (with_reducible rfl))
    (try simp only [gs])
    refine wpAnyH_take (i := 9) (v := ?_) rfl (by kernel_rfl) (by kernel_rfl) (by kernel_rfl) (fun _ _ _ h => h) (Or.inl ⟨by rfl, ?_⟩) g1 ?_
    case refine_2 => (intro w hSw; (try dsimp only at hSw); go_simp; try (with_reducible rfl))
    (try simp only [gs])
    refine wpAnyH_take (i := 10) (v := ?_) rfl (by kernel_rfl) (by kernel_rfl) (by kernel_rfl) (fun _ _ _ h => h) (Or.inl ⟨by rfl, ?_⟩) g1 ?_
    case refine_2 => (intro w hSw; (try dsimp only at hSw); go_simp; try (with_reducible rfl))
    (try simp only [gs])
    refine wpAnyH_take (i := 11) (v := ?_) rfl (by kernel_rfl) (by kernel_rfl) (by kernel_rfl) (fun _ _ _ h => h) (Or.inl ⟨by rfl, ?_⟩) g1 ?_
    case refine_2 => (intro w hSw; (try dsimp only at hSw); go_simp; try (with_reducible rfl))
    (try simp only [gs])
    refine wpAnyH_take (i := 12) (v := ?_) rfl (by kernel_rfl) (by kernel_rfl) (by kernel_rfl) (fun _ _ _ h => h) (Or.inl ⟨by rfl, ?_⟩) g1 ?_
    case refine_2 => (intro w hSw; (try dsimp only at hSw); go_simp; try (with_reducible rfl))
    (try simp only [gs])
    refine wpAnyH_done (by kernel_rfl) ?_ _
    refine NoPanic.normal ?_
    clear hb6 hq6
    rw [← hy5] at hfr
    clear hy5
    have HV6 : Hid (VGo S w p iv x { V with R := V.R ++ [oneSp J] } y6 { x with n := x.n + 1 } ∧ I k y6) := by
      have E := HE1.out.go S
      exact ⟨⟨(show VwIn y4.drew p iv _ _ from E.vw.called ⟨rfl, rfl, rfl, Nat.le_refl _, fun _ _ => rfl⟩).based hfr HLO.out (fun i hi => (HE1.out.own i hi).elim (HOL.out i) (fun q => Nat.le_trans HLW.out q)), E.more, (E.fr.trans (FrV.of_below ⟨rfl, rfl, rfl, Nat.le_refl _, fun _ _ => rfl⟩ : FrV (fun i => x.own p i ∨ S i) y4 y4.drew) (fun i hi => .inl hi)).trans hfr (fun i hi => .inl (.inr hi)), E.own⟩, hi6⟩
    clear g1 hHeld hfr hi6 HS5 HI5 HE1 HGT HM HKL HCK
    by_cases hc : c = 0
    · subst hc
      cases is_ with
      | true =>
        go_wp2_with fail
        go_ret3
        refine ⟨by rw [HF.out]; rfl, HV6.out.2, ?_⟩
        rw [HW.out]
        exact HV6.out.1
      | false =>
        go_wp2_with fail
        go_ret3
        refine ⟨by rw [HF.out]; rfl, HV6.out.2, ?_⟩
        rw [HW.out]
        exact HV6.out.1
    · have hcb : (c != 0) = true := by simpa using hc
      have HF2 : Hid (RES = ([], false, c)) := (show _ = _ by rw [HF.out, if_pos (.inl hc)])
      clear hc HF
      go_wp2_with fail
      go_ret3
      refine ⟨by rw [HF2.out]; rfl, HV6.out.2, ?_⟩
      rw [HW.out]
      exact HV6.out.1
end Go.Proofs.YtdmindhjmjnagabGreatDoor
