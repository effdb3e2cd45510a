import Derived.Test.YtgicanpggndbeaaGreatSi
import Derived.Test.YtgicanpggndbeaaGreatB33
/- keep of a view: what is there of a key is remembered, once a mark. -/
namespace Go.Proofs.YtgicanpggndbeaaGreat
set_option linter.unusedVariables false
set_option maxRecDepth 100000
open Go.RowKit

/-- What a mark knows behind keep. -/
def keepL (C : List Ch) (L : List Fo) (J : Kz) : List Fo := if (look Fo.n L J.n).isSome = true then L else putA Fo.n L ⟨J, (look Ch.n C J.n).getD ch0, (look Ch.n C J.n).isSome⟩
theorem built_Fz (parts : List (Nat × Value)) : Tryz.prog.built 189 parts = Instr.fill ([(0, 26), (26, 1)].toArray[·]?) (encF.c fo0).toArray parts := built_of _ _ _ (by kernel_rfl) (by kernel_rfl) parts
theorem built_f (c : Ch) (b : Bool) : Tryz.prog.built 189 [(0, .agg (encC.c c).toArray), (1, .bool b)] = some (ccd c ++ [Value.bool b]).toArray := by
  have hc : (ccd c).length = 26 := encC.len c
  have h0 : (ccd ch0).length = 26 := encC.len ch0
  rw [built_Fz, fill_put (off := 0) (size := 26) rfl (by simp [Value.cells, encC, hc]) (by simp [encF, fo0, h0]), fill_put (off := 26) (size := 1) rfl rfl (by simp [Value.cells, encC, hc, encF, fo0, h0])]
  simp only [Instr.fill, Value.cells, encC, encF, fo0, List.toList_toArray, List.take_zero, List.nil_append, Nat.zero_add]
  rw [List.drop_append_of_le_length (by omega), List.drop_of_length_le (by omega), List.nil_append]
  congr 2
  rw [List.take_append_of_le_length (by omega), List.take_of_length_le (by omega), List.drop_of_length_le (by simp [hc])]
  simp
theorem build_f {ops : Array Oper} {rest : List Oper} {o : Oper} {a : Act} {w : World} {Q : Exit → Act → World → Prop} (hg : o.guard = none) (x y : Operand) (ho : o.op = .build 189 #[(0, x), (1, y)]) (c : Ch) (b : Bool) (hx : a.eval x = .agg (encC.c c).toArray) (hy : a.eval y = .bool b)
    (h : wpList Tryz.prog ops Q rest (a.put o.dst (.agg (ccd c ++ [Value.bool b]).toArray)) w) : wpList Tryz.prog ops Q (o :: rest) a w :=
  wpList_plain hg fun _ hK => by
    unfold Oper.wp
    rw [exec_build ho (by simpa [hx, hy] using built_f c b) w]
    exact hK _ _ h
theorem wp_store_el {α : Type} {k : Nat} {E : Enc α k} {ty : TypeId} {o : Oper} {a : Act} {w : World} {K : Act → World → Prop} {Q : Exit → Act → World → Prop} (R : ElTy Tryz.prog E ty) (x y : Operand) (ho : o.op = .store ty x y) (b : Nat) (hx : a.eval x = .pointer (some ⟨b, 0, none⟩)) (e : α) (hy : a.eval y = .agg (E.c e).toArray) (e0 : α) (hK : InB E ty w b e0)
    (h : ∀ w', InB E ty w' b e → Touch b none w w' → w'.heap.size = w.heap.size → K (a.put o.dst undef) w') : o.wp Tryz.prog a w K Q :=
  wp_store_row _ x y ho b _ hx hy _ _ hK.blk (by rw [E.size]; exact R.info) (by rw [E.size, E.size]) (E.all e) (h _ ⟨setRow_heap w b _ _ _ _ hK.blk⟩ (touch_setRow _ _ _) (by simp))
/-- What keep holds. -/
structure KpV (w0 y : World) (p q : Nat) (iv cv rv mv : Value) (c n : Nat) (C : List Ch) (J : Kz) : Prop where
  bel : Below w0.heap.size w0 y
  blk : y.heap[p]? = some (.cells #[iv, cv, rv, mv] 75 (0, 0))
  box : Has y q J.k
  mp : MapA encC Ch.n y c n C
theorem KpV.called {w0 y z : World} {p q : Nat} {iv cv rv mv : Value} {c n : Nat} {C : List Ch} {J : Kz} (h : KpV w0 y p q iv cv rv mv c n C J) (b : Below y.heap.size y z) : KpV w0 z p q iv cv rv mv c n C J := ⟨h.bel.trans (b.mono h.bel.size), (b.block p (lt_of_block h.blk)).trans h.blk, h.box.below b h.box.lt, h.mp.below b (Nat.le_refl _)⟩
theorem KpV.key {w0 y : World} {p q : Nat} {iv cv rv mv : Value} {c n : Nat} {C : List Ch} {J : Kz} (h : KpV w0 y p q iv cv rv mv c n C J) : y.rangeAt q 0 (bc J.k) := fun j v hv => by
  rw [Nat.zero_add, cell_of_row _ _ _ _ _ _ h.box.blk]
  simpa using hv
theorem KpV.cell1 {w0 y : World} {p q : Nat} {iv cv rv mv : Value} {c n : Nat} {C : List Ch} {J : Kz} (h : KpV w0 y p q iv cv rv mv c n C J) : y.cell? ⟨p, 1, none⟩ = some cv := by rw [cell_of_row _ _ _ _ _ _ h.blk]; rfl
theorem VLeft.shift {w w1 w2 : World} {p : Nat} {iv : Value} {x : VR} {V : VS} {x' : VR} (h0 : ∀ i, x.own p i → i < w.heap.size) (b : Below w.heap.size w w1) (h : VLeft w1 p iv x V w2 x') : VLeft w p iv x V w2 x' :=
  ⟨h.vw, h.more, (FrV.of_below b).trans h.fr (fun i hi => .inl hi), fun i hi => (h.own i hi).imp id (fun q => Nat.le_trans b.size q)⟩
theorem VwIn.left {w w' : World} {p : Nat} {iv : Value} {x : VR} {V : VS} (h : VwIn w p iv x V) (b : Below w.heap.size w w') : VLeft w p iv x V w' { x with n := x.n + 1 } := ⟨(h.called b).up _ (Nat.le_succ _), (show x.n + 1 ≤ x.n + 4 by omega), FrV.of_below b, fun i hi => .inl hi⟩
theorem VS.set_same (V : VS) (j : Nat) (L : List Fo) (h : V.U[j]? = some L) : { V with U := V.U.set j L } = V := by
  obtain ⟨hj, e⟩ := List.getElem?_eq_some_iff.1 h
  have : V.U.set j L = V.U := by rw [← e]; exact List.set_getElem_self hj
  rw [this]
theorem VwIn.mapU {w : World} {p : Nat} {iv : Value} {x : VR} {V : VS} (h : VwIn w p iv x V) {j ub : Nat} {L : List Fo} (hu : x.u[j]? = some ub) (hL : V.U[j]? = some L) : MapA encF Fo.n w ub x.n L := by
  obtain ⟨hj, rfl⟩ := List.getElem?_eq_some_iff.1 hu
  obtain ⟨L', h1, h2⟩ := h.maps j hj
  rw [hL] at h1
  cases h1
  exact h2
theorem VwIn.putU' {w w' : World} {p : Nat} {iv : Value} {x : VR} {V : VS} (h : VwIn w p iv x V) {j ub : Nat} (hu : x.u[j]? = some ub) {L : List Fo} (hL : MapA encF Fo.n w' ub (x.n + 1) L) (hg : w.grownBy w' (some ub)) : VLeft w p iv x { V with U := V.U.set j L } w' { x with n := x.n + 1 } := by
  obtain ⟨hj, rfl⟩ := List.getElem?_eq_some_iff.1 hu
  exact h.putU j hj hL hg
set_option maxHeartbeats 4000000 in
theorem keep_calls (w : World) (p : Nat) (iv : Value) (x : VR) (V : VS) (j ub : Nat) (hj : x.u[j]? = some ub) (L : List Fo) (hL : V.U[j]? = some L) (J : Kz) (h : VwIn w p iv x V) (hn : x.n ≤ 100000) :
    Calls Tryz.prog 84 #[.pointer (some ⟨p, 0, none⟩), .map (some ub), kv J.k] w fun e w' => (∃ rv, e = .returned rv) ∧ VLeft w p iv x { V with U := V.U.set j (keepL V.C L J) } w' { x with n := x.n + 1 } := by
  have b1 : Below w.heap.size w (w.alloc (.cells (bc J.k).toArray 29)) := (Below.refl _ w).alloc (Nat.le_refl _) _
  have hk1 : Has (w.alloc (.cells (bc J.k).toArray 29)) w.heap.size J.k := Has.new w J.k J.h
  have h1 := h.called b1
  have hM := h1.mapU hj hL
  have hlk := hM.look2 tyF J
  have HOW : Hid (∀ i, x.own p i → i < w.heap.size) := fun i hi => h.lt hi
  have H1 : Hid (VwIn (w.alloc (.cells (bc J.k).toArray 29)) p iv x V) := h1
  have HB1 : Hid (Below w.heap.size w (w.alloc (.cells (bc J.k).toArray 29))) := b1
  have HH : Hid (VwIn w p iv x V) := h
  have HLJ : Hid (V.U[j]? = some L) := hL
  have HUB : Hid (x.u[j]? = some ub) := hj
  have HKP : Hid (keepL V.C L J = if (look Fo.n L J.n).isSome = true then L else putA Fo.n L ⟨J, (look Ch.n V.C J.n).getD ch0, (look Ch.n V.C J.n).isSome⟩) := rfl
  have HMU : Hid (∀ y, Below (w.alloc (.cells (bc J.k).toArray 29)).heap.size (w.alloc (.cells (bc J.k).toArray 29)) y → MapA encF Fo.n y ub x.n L) := fun y hy => hM.below hy (Nat.le_refl _)
  generalize keepL V.C L J = KL at *
  clear h h1 b1 hM hL hj
  cases hs : (look Fo.n L J.n).isSome with
  | true =>
    have HKE : Hid (KL = L) := (show _ = _ by rw [HKP.out, if_pos hs])
    rw [hs] at hlk
    clear hs HKP
    generalize (look Fo.n L J.n).getD fo0 = f0 at *
    go_enter Tryz.func84, Tryz.ntmps84
    go_upto_region 1 with fail
    generalize (w.alloc (.cells (bc J.k).toArray 29)) = w1 at *
    go_wp2_with (first
      | (refine load_key _ rfl w.heap.size rfl rfl J.k hk1 ?_)
      | (refine store_el elF rfl _ _ rfl w1.heap.size rfl f0 rfl fo0 (InB.new encF 189 _ fo0 _ rfl) ?_; intro x1 hu1 tx1 sx1))
    ((try simp only [Exit.inBlock, Exit.then]); refine bodyPost_ret (results_none rfl _ _ _) rfl ?_)
    have BX : Below w1.heap.size w1 x1 := ((Below.refl _ _).alloc (Nat.le_refl _) _).trans (tx1.below (by simp) (Nat.le_refl _) (by simp))
    refine ⟨⟨_, rfl⟩, ?_⟩
    rw [HKE.out, VS.set_same V j L HLJ.out]
    exact HH.out.left (HB1.out.trans (BX.mono HB1.out.size))
  | false =>
    have HKE : Hid (KL = putA Fo.n L ⟨J, (look Ch.n V.C J.n).getD ch0, (look Ch.n V.C J.n).isSome⟩) := (show _ = _ by rw [HKP.out, if_neg (by rw [hs]; simp)])
    rw [hs] at hlk
    clear hs HKP
    generalize (look Fo.n L J.n).getD fo0 = f0 at *
    go_enter Tryz.func84, Tryz.ntmps84
    go_upto_region 1 with fail
    generalize (w.alloc (.cells (bc J.k).toArray 29)) = w1 at *
    go_upto_region 3 with (first
      | (refine load_key _ rfl w.heap.size rfl rfl J.k hk1 ?_)
      | (refine store_el elF rfl _ _ rfl w1.heap.size rfl f0 rfl fo0 (InB.new encF 189 _ fo0 _ rfl) ?_; intro x1 hu1 tx1 sx1))
    have BX : Below w1.heap.size w1 x1 := ((Below.refl _ _).alloc (Nat.le_refl _) _).trans (tx1.below (by simp) (Nat.le_refl _) (by simp))
    have V1 := H1.out.called BX
    have B1 : Below w.heap.size w x1 := HB1.out.trans (BX.mono HB1.out.size)
    have HMU1 : Hid (∀ y, Below x1.heap.size x1 y → MapA encF Fo.n y ub x.n L) := fun y hy => HMU.out y (BX.trans (hy.mono BX.size))
    have HS : Hid (KpV x1 x1.drew p w.heap.size iv (.map (some x.c)) (.map (some x.r)) x.m x.c x.n V.C J) := (show KpV _ _ _ _ _ _ _ _ _ _ _ _ from KpV.called ⟨Below.refl _ _, V1.blk, hk1.below BX hk1.lt, V1.mapC⟩ ⟨rfl, rfl, rfl, Nat.le_refl _, fun _ _ => rfl⟩)
    have HV1 : Hid (VwIn x1 p iv x V ∧ Below w.heap.size w x1) := ⟨V1, B1⟩
    have HKL : Hid ((bc J.k).length = 24) := (show _ = _ by rw [bc_length, J.h])
    have HCK : Hid ((Tryz.prog.info? 29).map (·.size) = some 24) := Tryz.key_info
    clear BX V1 B1 HMU H1 HB1 tx1 sx1 hu1 hlk hk1
    refine wp_region_noPanic ?_
    refine wp_region_held_drew (S := (fun y => KpV x1 y p w.heap.size iv (.map (some x.c)) (.map (some x.r)) x.m x.c x.n V.C J)) (by kernel_rfl) (HS.out) (fun hHeld => ?_)
    refine wpAnyH_take (i := 0) (v := ?_) rfl (by kernel_rfl) (by kernel_rfl) (by kernel_rfl) (fun _ _ _ h => h) (Or.inl ⟨by rfl, ?_⟩) hHeld ?_
    case refine_2 => (intro w hSw; (try dsimp only at hSw); go_simp; try (with_reducible rfl))
    (try simp only [gs])
    refine wpAnyH_take (i := 1) (v := ?_) rfl (by kernel_rfl) (by kernel_rfl) (by kernel_rfl) (fun _ _ _ h => h) (Or.inl ⟨by rfl, ?_⟩) hHeld ?_
    case refine_2 => (intro w hSw; (try dsimp only at hSw); go_simp; try (with_reducible rfl))
    (try simp only [gs])
    refine wpAnyH_take (i := 2) (v := ?_) rfl (by kernel_rfl) (by kernel_rfl) (by kernel_rfl) (fun _ _ _ h => h) (Or.inl ⟨by rfl, ?_⟩) hHeld ?_
    case refine_2 => (intro w hSw; (try dsimp only at hSw); go_simp; try (with_reducible rfl))
    (try simp only [gs])
    refine wpAnyH_take (i := 3) (v := ?_) rfl (by kernel_rfl) (by kernel_rfl) (by kernel_rfl) (fun _ _ _ h => h) (Or.inl ⟨by rfl, ?_⟩) hHeld ?_
    case refine_2 => (intro w hSw; (try dsimp only at hSw); have hc := hSw.cell1; go_simp; try (with_reducible rfl))
    (try simp only [gs])
    refine wpAnyH_take (i := 4) rfl (by kernel_rfl) (by kernel_rfl) (by kernel_rfl) (fun _ _ _ h => h) (yieldsIf_load_mid (by rfl) _ _ rfl _ _ rfl _ _ (fun y h => KpV.key h) Tryz.underlying29 rfl (by rw [HKL.out]; exact HCK.out)) hHeld ?_
    (try simp only [gs])
    refine wpAnyH_take (i := 5) (v := ?_) rfl (by kernel_rfl) (by kernel_rfl) (by kernel_rfl) (fun _ _ _ h => h) (Or.inl ⟨by rfl, ?_⟩) hHeld ?_
    case refine_2 => (intro w hSw; (try dsimp only at hSw); have hlk := hSw.mp.look2 tyC J; go_simp; try (with_reducible rfl))
    (try simp only [gs])
    generalize (look Ch.n V.C J.n).getD ch0 = c0 at *
    generalize (look Ch.n V.C J.n).isSome = wa at *
    refine wpAnyH_take (i := 6) (v := ?_) rfl (by kernel_rfl) (by kernel_rfl) (by kernel_rfl) (fun _ _ _ h => h) (Or.inl ⟨by rfl, ?_⟩) hHeld ?_
    case refine_2 => (intro w hSw; (try dsimp only at hSw); go_simp; try (with_reducible rfl))
    (try simp only [gs])
    refine wpAnyH_take (i := 7) (v := ?_) rfl (by kernel_rfl) (by kernel_rfl) (by kernel_rfl) (fun _ _ _ h => h) (Or.inl ⟨by rfl, ?_⟩) hHeld ?_
    case refine_2 => (intro w hSw; (try dsimp only at hSw); go_simp; try (with_reducible rfl))
    (try simp only [gs])
    generalize x1.drew = y1 at *
    refine wpAnyH_take (i := 8) (v := ?_) rfl (by kernel_rfl) (by kernel_rfl) (by kernel_rfl) (fun _ _ _ h => h) (Or.inl ⟨by rfl, ?_⟩) hHeld ?_
    case refine_2 => (intro w hSw; (try dsimp only at hSw); go_simp; try (with_reducible rfl))
    (try simp only [gs])
    refine wpAnyH_ready (rs := [9]) (by kernel_rfl) (by simp) (AllReadyH.cons rfl (fun K hK => ?_) AllReadyH.nil)
    rw [if_pos (by rfl)]
    (try simp only [gs])
    go_simp
    refine hK.out _ _ (hHeld.called ((Below.refl _ y1).alloc (Nat.le_refl _) _)) (fun g1 => ?_)
    clear hK K
    (try simp only [gs])
    refine wpAnyH_ready (rs := [10]) (by kernel_rfl) (by simp) (AllReadyH.cons rfl (fun K hK => ?_) AllReadyH.nil)
    rw [if_pos (by rfl)]
    (try simp only [gs])
    refine wp_store_el elC _ _ rfl y1.heap.size rfl c0 rfl ch0 (InB.new encC 64 y1 ch0 _ rfl) ?_
    intro y2 hu2 t2 s2
    have BY : Below y1.heap.size y1 y2 := ((Below.refl _ _).alloc (Nat.le_refl _) _).trans (t2.below (by simp) (Nat.le_refl _) (by simp))
    refine hK.out _ _ (hHeld.called BY) (fun g2 => ?_)
    clear hK K
    (try simp only [gs])
    refine wpAnyH_take (i := 11) (v := ?_) rfl (by kernel_rfl) (by kernel_rfl) (by kernel_rfl) (fun _ _ _ h => h) (Or.inl ⟨by rfl, ?_⟩) g2 ?_
    case refine_2 => (intro w hSw; (try dsimp only at hSw); go_simp; try (with_reducible rfl))
    (try simp only [gs])
    refine wpAnyH_done (by kernel_rfl) ?_ _
    refine NoPanic.normal ?_
    have HG : Hid (Below x1.heap.size x1 y2) := g2.bel
    have hkb : Has y2 w.heap.size J.k := g2.box
    have hm := HMU1.out y2 g2.bel
    clear g1 g2 hHeld BY t2 s2 HS HMU1 HKL HCK
    generalize y1.heap.size = q at *
    go_wp2_with (first
      | (refine load_key _ rfl w.heap.size rfl rfl J.k hkb ?_)
      | (refine load_el elC _ rfl q 0 rfl rfl c0 hu2.range ?_)
      | (refine build_f rfl _ _ rfl c0 wa rfl rfl ?_)
      | (refine store_a tyF rfl _ _ _ rfl ub x.n L rfl hm (by omega) J rfl ⟨J, c0, wa⟩ rfl rfl ?_; intro y3 hm3 gr3))
    go_end0
    refine ⟨⟨_, rfl⟩, ?_⟩
    rw [HKE.out]
    exact VLeft.shift HOW.out (HV1.out.2.trans (HG.out.mono HV1.out.2.size)) (VwIn.putU' (HV1.out.1.called HG.out) HUB.out hm3 gr3)
end Go.Proofs.YtgicanpggndbeaaGreat
