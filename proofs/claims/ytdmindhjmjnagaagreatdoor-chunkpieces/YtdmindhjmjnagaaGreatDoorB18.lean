import Derived.Test.YtdmindhjmjnagaaGreatDoorB17
import Derived.Test.YtdmindhjmjnagaaGreatDoorB15
import Derived.Test.YtdmindhjmjnagaaGreatDoorB07
import Derived.Test.YtdmindhjmjnagaaGreatDoorB08
import Derived.Lib.VarintMem
import Derived.Shelf.SlSortCmp.NoneTotal
/- The spans of a set, collected: maps.Keys, slices.AppendSeq, slices.Collect. -/
namespace Go.Proofs.YtdmindhjmjnagaaGreatDoor
set_option linter.unusedVariables false
set_option maxRecDepth 100000
open Go.RowKit

def spz0 : Sp := ⟨zs 24, zs 24, false, rfl, rfl⟩
section
variable {F : Fence} {n : Nat} {ops : Array Oper} {rest : List Oper} {o : Oper} {a : Act} {w : World} {Q : Exit → Act → World → Prop}
theorem loadIn_s (hg : o.guard = none) (x : Operand) (ho : o.op = .load 56 x) (b : Nat) (hx : a.eval x = .pointer (some ⟨b, 0, none⟩)) (K : Sp) (hK : InB encS 56 w b K)
    (h : wpListIn F n Tryz.prog ops Q rest (a.put o.dst (.agg (encS.c K).toArray)) w) : wpListIn F n Tryz.prog ops Q (o :: rest) a w := by
  refine wpListIn_plain hg fun K' hK' => ?_
  unfold Oper.wpIn
  refine ⟨by simp [Oper.about, ho], ?_⟩
  rw [Oper.semAt_plain F _ _ (by rw [ho]; intro c hc; cases hc)]
  unfold execOp
  simp only [ho, hx, Instr.loadAt, Instr.sureAddr, Sem.run_bind, Sem.run_pure, Result.andThen_ok, run_loadVar_row w b _ _ _ _ _ hK.blk Tryz.underlying56 rfl (by rw [encS.size]; exact elS.info)]
  exact hK' _ _ h
theorem storeIn_s (hg : o.guard = none) (x y : Operand) (ho : o.op = .store 56 x y) (b : Nat) (hx : a.eval x = .pointer (some ⟨b, 0, none⟩)) (L : Sp) (hy : a.eval y = .agg (encS.c L).toArray) (K : Sp) (hK : InB encS 56 w b K)
    (h : ∀ w', InB encS 56 w' b L → Touch b none w w' → w'.heap.size = w.heap.size → wpListIn F n Tryz.prog ops Q rest (a.put o.dst undef) w') : wpListIn F n Tryz.prog ops Q (o :: rest) a w := by
  refine wpListIn_plain hg fun K' hK' => ?_
  unfold Oper.wpIn
  refine ⟨by simp [Oper.about, ho], ?_⟩
  rw [Oper.semAt_plain F _ _ (by rw [ho]; intro c hc; cases hc)]
  unfold execOp
  simp only [ho, hx, hy, Instr.storeAt, Instr.sureAddr, Sem.run_bind, Sem.run_pure, Result.andThen_ok, run_storeVar_row w b _ 56 _ _ hK.blk (by rw [encS.size]; exact elS.info) (by rw [encS.size, encS.size]) (encS.all L)]
  exact hK' _ _ (h _ ⟨setRow_heap w b _ _ _ _ hK.blk⟩ (touch_setRow _ _ _) (by simp))
theorem buildIn_s (hg : o.guard = none) (x : Operand) (ho : o.op = .buildSlice 42 1 #[(0, x)]) (K : Sp) (hx : a.eval x = .agg (encS.c K).toArray)
    (h : wpListIn F n Tryz.prog ops Q rest (a.put o.dst (.slice (some ⟨w.heap.size, 0, none⟩) 1 1)) (w.alloc (.cells (encS.c K).toArray 56))) : wpListIn F n Tryz.prog ops Q (o :: rest) a w := by
  obtain ⟨i, z, hi, hz, hsz, hby, hzc⟩ := rowS.parts
  refine wpListIn_plain hg fun K' hK' => ?_
  unfold Oper.wpIn
  refine ⟨by simp [Oper.about, ho], ?_⟩
  rw [Oper.semAt_plain F _ _ (by rw [ho]; intro c hc; cases hc)]
  unfold execOp
  have hf : Instr.fill (fun i' => some (i' * i.size, i.size)) ((Array.range (1 * i.size)).map (z.cells[· % z.cells.size]!)) (#[(0, x)].map fun (i, x) => (i, a.eval x)).toList = some (encS.c K).toArray := by
    have := fill_els encS [K] 0 ((Array.range (1 * 49)).map (z.cells[· % z.cells.size]!)) (by simp)
    rw [hsz]
    simpa [hx, Enc.flat] using this
  simp only [ho, Sem.run_bind, run_buildSlice w 42 56 1 _ (encS.c K).toArray i z Tryz.underlying42 hi hz (by rw [hsz]; omega) (by rw [hsz]; omega) hf, Result.andThen_ok]
  exact hK' _ _ h
end
/-! slices.AppendSeq. -/
def apAssignS : Code := (Code.region 2 #[{ dst := some 5, op := Op.alloc 56, type := 0, pos := "iter.go:51", after := #[], guard := none }, { dst := none, op := Op.store 56 (Operand.tmp 5) (Operand.tmp 7), type := 0, pos := "iter.go:51", after := #[{ on := 0, ground := Ground.data }, { on := 0, ground := Ground.phase }], guard := none }] false)
def apBodyS : Code := (Code.block 1 (Code.region 3 #[{ dst := some 8, op := Op.load 42 (Operand.tmp 2), type := 42, pos := "iter.go:52", after := #[], guard := none },
  { dst := some 9, op := Op.load 56 (Operand.tmp 5), type := 56, pos := "iter.go:52", after := #[], guard := none },
  { dst := some 10, op := Op.buildSlice 42 1 #[(0, Operand.tmp 9)], type := 42, pos := "iter.go:52", after := #[{ on := 1, ground := Ground.data }], guard := none },
  { dst := some 11, op := Op.call { callee := Callee.builtin Builtin.append, args := #[Operand.tmp 8, Operand.tmp 10], argTypes := #[42, 42] }, type := 42, pos := "iter.go:52", after := #[{ on := 0, ground := Ground.data }, { on := 2, ground := Ground.data }], guard := none },
  { dst := none, op := Op.store 42 (Operand.tmp 2) (Operand.tmp 11), type := 0, pos := "iter.go:52", after := #[{ on := 3, ground := Ground.data }, { on := 3, ground := Ground.chain }, { on := 0, ground := Ground.phase }, { on := 1, ground := Ground.phase }, { on := 2, ground := Ground.phase }, { on := 3, ground := Ground.phase }], guard := none }] false))
/-- The loop's record. -/
def apRecS (fn : FuncId) (sv : Value) (Bs D : Nat) (st : LoopState) (pend : Option Code) : Loop :=
  { state := st, pending := pend, fn, tmps := #[.slice none 0 0, sv, .pointer (some ⟨Bs, 0, none⟩), undef, .slice none 0 0, undef, sv, undef, undef, undef, undef, undef, undef], params := #[7], assign := apAssignS, body := apBodyS, defers := D }
/-- Between two rounds. -/
structure ApAtS (w0 : World) (fn : FuncId) (sv : Value) (Bs l D : Nat) (ss : List Sp) (W : World) : Prop where
  box : ∃ v, W.heap[Bs]? = some (.cells #[v] 42 (0, 0)) ∧ Own encS 56 W w0.heap.size v ss
  L : W.heap[l]? = some (.loop (apRecS fn sv Bs D .ready none))
  K : W.heap[D]? = some (.deferred (some []))
  below : Below w0.heap.size w0 W
theorem ap_abidesS (w0 : World) (fn : FuncId) (sv : Value) (Bs l D B : Nat) (hB : w0.heap.size ≤ B) : AbidesFrom B (ApAtS w0 fn sv Bs l D) := fun s W W' row h hg hrow => by
  have hrow' : ∀ r, row = some r → ∃ o : Obj, W.heap[r]? = some o ∧ o.isWalk = true := fun r e => (hrow r e).2
  obtain ⟨v, hv, hr⟩ := h.box
  exact ⟨⟨v, (grownBy_keeps hg hrow' hv rfl).trans hv, ownsRow_abides_a hr hg hrow'⟩, (grownBy_keeps hg hrow' h.L rfl).trans h.L, (grownBy_keeps hg hrow' h.K rfl).trans h.K,
    h.below.grown hg h.below.size (fun k e => Nat.le_trans hB (hrow k e).1)⟩
theorem ne_tyS : (42 : TypeId) ≠ 56 := by decide
theorem box_noS (v : Value) : ∀ cur, (Obj.cells #[v] 42 (0, 0)) ≠ .cells cur 56 (0, 0) := fun cur e => ne_tyS (Obj.cells.inj e).2.1
theorem loop_noS (r : Loop) : ∀ cur, (Obj.loop r) ≠ .cells cur 56 (0, 0) := fun cur e => by cases e
theorem def_noS (d : Option (List Deferred)) : ∀ cur, (Obj.deferred d) ≠ .cells cur 56 (0, 0) := fun cur e => by cases e
theorem ownKey_neS {W : World} {base : Nat} {v : Value} {ss : List Sp} (h : Own encS 56 W base v ss) {j : Nat} {o : Obj} (hj : W.heap[j]? = some o) (hno : ∀ cur, o ≠ .cells cur 56 (0, 0)) : some j ≠ v.ownBlock := by
  rcases ownsRow_ne_a h hj hno with e | e
  · rw [e]; simp
  · exact fun e' => e e'.symm
set_option maxRecDepth 100000 in
set_option maxHeartbeats 4000000 in
theorem apYieldS (m : Nat) (w0 : World) (fn : FuncId) (sv : Value) (Bs l D : Nat) (hBl : Bs ≠ l) (hDl : D ≠ l) (hDB : D ≠ Bs) (h0B : w0.heap.size ≤ Bs) (h0l : w0.heap.size ≤ l)
    (ss : List Sp) (x : Sp) (W : World) (h : ApAtS w0 fn sv Bs l D ss W) (hlen : ss.length < 1000000) :
    YieldAt Fence.wide m Tryz.prog l #[.agg (encS.c x).toArray] W fun e W' => e = .returned (.bool true) ∧ ApAtS w0 fn sv Bs l D (ss ++ [x]) W' ∧ KeepsWalks W W' := by
  obtain ⟨i0, z0, hi, hz0, hz1, hz2, hzc⟩ := rowS.parts
  obtain ⟨v, hv, hrow⟩ := h.box
  refine ⟨fn, #[.slice none 0 0, sv, .pointer (some ⟨Bs, 0, none⟩), undef, .slice none 0 0, undef, sv, .agg (encS.c x).toArray, undef, undef, undef, undef, undef], apAssignS, apBodyS, by simpa [apRecS] using run_yield (P := Tryz.prog) (args := #[.agg (encS.c x).toArray]) h.L rfl, roundIn_of_wpIn trivial ?_⟩
  have hBlt : Bs < W.heap.size := lt_of_block hv
  have hl : l < W.heap.size := lt_of_block h.L
  have hDlt : D < W.heap.size := lt_of_block h.K
  unfold apAssignS
  gi_wp2_with (first
    | (refine storeIn_s rfl _ _ rfl W.heap.size rfl x rfl spz0 (InB.new encS 56 W spz0 _ rfl) ?_
       intro w2 hw2 t2 s2
       have B2 : Below W.heap.size W w2 := ((Below.refl _ W).alloc (Nat.le_refl _) _).trans (t2.below (by simp) (Nat.le_refl _) (by simp))
       have hL2 := (B2.block l hl).trans h.L
       have hbr := run_beginRound (P := Tryz.prog) hL2 rfl
       obtain ⟨w3, hW3⟩ : ∃ w3, w2.putObj l (.loop { apRecS fn sv Bs D .ready none with state := .busy }) = w3 := ⟨_, rfl⟩
       rw [hW3] at hbr)
    | gi_round_op_a)
  have hs2 : W.heap.size < w2.heap.size := by rw [s2]; simp
  have hl2 : l < w2.heap.size := by omega
  have hrow2 := hrow.below B2
  have hg3 : w2.grownBy w3 (some l) := by rw [← hW3]; exact grownBy_putObj_a _ _ _
  have hw3 : InB encS 56 w3 W.heap.size x := ⟨by rw [← hW3]; exact (World.putObj_heap_other (by omega)).trans hw2.blk⟩
  have hv3 : w3.heap[Bs]? = some (.cells #[v] 42 (0, 0)) := by rw [← hW3]; exact (World.putObj_heap_other hBl).trans ((B2.block Bs hBlt).trans hv)
  have hK3 : w3.heap[D]? = some (.deferred (some [])) := by rw [← hW3]; exact (World.putObj_heap_other hDl).trans ((B2.block D hDlt).trans h.K)
  have hL3 : w3.heap[l]? = some (.loop { apRecS fn sv Bs D .ready none with state := .busy }) := by rw [← hW3]; exact World.putObj_heap_same hl2
  have hrow3 : Own encS 56 w3 w0.heap.size v ss := hrow2.kept hg3 (ownsRow_ne_a hrow2 hL2 (loop_noS _))
  have hb2 : Below w0.heap.size w0 w2 := h.below.trans (B2.mono h.below.size)
  have hb3 : Below w0.heap.size w0 w3 := hb2.grown hg3 hb2.size (fun k e => by cases e; exact h0l)
  have hk3 : KeepsWalks W w3 := (KeepsWalks.trans ⟨B2.size, fun k o ho _ => (B2.block k (lt_of_block ho)).trans ho⟩ (by rw [← hW3]; exact KeepsWalks.putObj _ hL2 rfl))
  obtain ⟨hc3, hf3⟩ := cell_of_box_a hv3
  have hBlt3 : Bs < w3.heap.size := lt_of_block hv3
  clear hv hrow hrow2 hb2 B2 t2 s2 hW3 hbr hL2 h hg3 hw2
  generalize W.heap.size = q at *
  unfold apBodyS
  gi_wp2_with (first
    | (refine loadIn_s rfl _ rfl q rfl x hw3 ?_)
    | (refine buildIn_s rfl _ rfl x rfl ?_)
    | (gi_at_builtin
       refine wpListIn_append_own _ rfl _ _ 42 rfl w0.heap.size 56 i0 z0 49 49 Tryz.underlying42 hi hz0 hz1 hz2 hzc (by decide) _ _ _ rfl (Own.below hrow3 ((Below.refl _ w3).alloc (Nat.le_refl _) _)) ⟨w3.heap.size, 0, none⟩ 1 1 (encS.c x) rfl (encS.len x) (fun j u hu => by rw [Addr.add_mid, Nat.zero_add, cell_of_row _ _ _ _ _ _ (heap_alloc_new _ _)]; simpa using hu) (encS.one x) (by unfold maxLen; omega) (by omega) (by have := hb3.size; simp; omega) ?_
       intro v' w4 hown' hg4 hnil4
       have hv4 : w4.heap[Bs]? = some (.cells #[v] 42 (0, 0)) := (hg4.block Bs (by simp; omega) (ownKey_neS hrow3 hv3 (box_noS _))).trans ((Below.heap_alloc _ _ Bs hBlt3).trans hv3)
       obtain ⟨hc4, hf4⟩ := cell_of_box_a hv4
       obtain ⟨g', cap', cur', rfl, _⟩ : ∃ g' cap' cur', v' = .slice (some ⟨g', 0, none⟩) (ss.length + 1) cap' ∧ w0.heap.size ≤ g' ∧ w4.heap[g']? = some (.cells cur' 56 (0, 0)) ∧ ss.length + 1 ≤ cap' ∧ cap' ≤ maxLen ∧ cur'.size = cap' * 49 ∧ cur'.toList.take ((ss.length + 1) * 49) = encS.flat ss ++ encS.c x := by
         rcases hown'.2 with ⟨_, h0⟩ | h'
         · exact absurd h0 (by omega)
         · exact h'
       go_frame)
    | gi_round_op_a)
  have hg4' : (w3.alloc (.cells (encS.c x).toArray 56)).grownBy w4 v.ownBlock := hg4
  have hl3 : l < w3.heap.size := lt_of_block hL3
  have hD3 : D < w3.heap.size := lt_of_block hK3
  have hL4 := (hg4'.block l (by simp; omega) (ownKey_neS hrow3 hL3 (loop_noS _))).trans ((Below.heap_alloc _ _ l hl3).trans hL3)
  have hK4 := (hg4'.block D (by simp; omega) (ownKey_neS hrow3 hK3 (def_noS _))).trans ((Below.heap_alloc _ _ D hD3).trans hK3)
  have hown4 : Own encS 56 w4 w0.heap.size (.slice (some ⟨g', 0, none⟩) (ss.length + 1) cap') (ss ++ [x]) := by
    show w4.ownsRow _ _ 49 _ (ss ++ [x]).length (encS.flat (ss ++ [x]))
    rw [List.length_append, List.length_singleton, encS.flat_append, encS.flat_one]
    exact hown'
  obtain ⟨w5, hw5⟩ : ∃ w5, w4.setCell ⟨Bs, 0, none⟩ (.slice (some ⟨g', 0, none⟩) (ss.length + 1) cap') = w5 := ⟨_, rfl⟩
  rw [hw5]
  have hg5 : w4.grownBy w5 (some Bs) := by rw [← hw5]; exact grownBy_setCell0_a _ _ _
  have hv5 : w5.heap[Bs]? = some (.cells #[.slice (some ⟨g', 0, none⟩) (ss.length + 1) cap'] 42 (0, 0)) := by rw [← hw5]; exact heap_setCell_box_a _ hv4
  have hL5 := (hg5.block l (lt_of_block hL4) (fun e => hBl (by cases e; rfl))).trans hL4
  have hK5 := (hg5.block D (lt_of_block hK4) (fun e => hDB (by cases e; rfl))).trans hK4
  have hrow5 : Own encS 56 w5 w0.heap.size (.slice (some ⟨g', 0, none⟩) (ss.length + 1) cap') (ss ++ [x]) := hown4.kept hg5 (ownsRow_ne_a hown4 hv4 (box_noS _))
  have hl5 : l < w5.heap.size := lt_of_block hL5
  have hb4 : Below w0.heap.size w0 w4 := (hb3.alloc hb3.size _).grown hg4' (by have := hb3.size; simp; omega) (fun k e => (hrow3.lt k e).1)
  have hb5 : Below w0.heap.size w0 w5 := hb4.grown hg5 hb4.size (fun k e => by cases e; exact h0B)
  have hk5 : KeepsWalks W w5 := ((hk3.trans (KeepsWalks.alloc _ _)).trans (KeepsWalks.of_grownBy hg4' (ownsRow_not_walk_a (Own.below hrow3 ((Below.refl _ w3).alloc (Nat.le_refl _) _))))).trans (by rw [← hw5]; exact KeepsWalks.setCell _ _ _)
  clear hw5
  refine ⟨_, _, run_endRound none hL5, rfl, ⟨⟨_, (World.putObj_heap_other hBl).trans hv5, ?_⟩, World.putObj_heap_same hl5, (World.putObj_heap_other hDl).trans hK5, hb5.grown (grownBy_putObj_a _ _ _) hb5.size (fun k e => by cases e; exact h0l)⟩, hk5.trans (KeepsWalks.putObj _ hL5 rfl)⟩
  exact Own.same hrow5 fun g hg => World.putObj_heap_other (fun e => by subst e; exact ownKey_neS hrow5 hL5 (loop_noS _) hg.symm)

set_option maxRecDepth 100000 in
set_option maxHeartbeats 2000000 in
theorem appendSeq_inS (n : Nat) (g : Nat) (lb : Array Value) (eg : ∀ args w, (callFunc g args).run Tryz.prog w = .ok (.enter g args) w)
    (S : List Sp → Prop) (N : Nat) (hN : N ≤ 1000000) (w : World) (hseq : SeqGives Fence.wide (n - 1) Tryz.prog g lb (fun K : Sp => .agg (encS.c K).toArray) S N w) (hn : 1 ≤ n) :
    CallsIn Fence.wide n Tryz.prog 95 #[.slice none 0 0, .func (.func g) #[] lb] w fun e w' => ∃ (v : Value) (ss : List Sp), e = .returned v ∧ S ss ∧ Own encS 56 w' w.heap.size v ss ∧ Below w.heap.size w w' := by
  refine callsIn_of_wp_marks Tryz.func95 rfl trivial ?_ rfl
  simp only [Tryz.ntmps95, List.size_toArray, List.length_cons, List.length_nil, Nat.reduceAdd, Nat.reduceSub, Array.replicate_succ, Array.replicate_zero, List.push_toArray, List.append_toArray, List.nil_append, List.cons_append]
  gi_wp2
  refine wpIn_rangeFunc ?_
  intro fn hfn
  rw [show Fence.wide.round = none from rfl]
  obtain ⟨W0, hW0⟩ : ∃ W0, w.alloc (.cells #[.slice none 0 0] 42) = W0 := ⟨_, rfl⟩
  have hs0 : W0.heap.size = w.heap.size + 1 := by rw [← hW0]; simp
  have hv0 : W0.heap[w.heap.size]? = some (.cells #[.slice none 0 0] 42 (0, 0)) := by rw [← hW0]; exact World.alloc_heap_new w _
  have hb0 : Below w.heap.size w W0 := by rw [← hW0]; exact (Below.refl _ w).alloc (Nat.le_refl _) _
  rw [hW0]
  obtain ⟨W1, hW1⟩ : ∃ W1, (W0.alloc (.deferred (some []))).alloc (.loop (apRecS fn (.func (.func g) #[] lb) w.heap.size W0.heap.size .ready none)) = W1 := ⟨_, rfl⟩
  have hold : ∀ k, k < W0.heap.size → W1.heap[k]? = W0.heap[k]? := fun k hk => by
    rw [← hW1]; exact (Below.heap_alloc _ _ k (by simp; omega)).trans (Below.heap_alloc _ _ k hk)
  have hb1 : Below w.heap.size w W1 := by rw [← hW1]; exact (hb0.alloc hb0.size _).alloc (by have := hb0.size; simp; omega) _
  have hs1 : W1.heap.size = W0.heap.size + 2 := by rw [← hW1]; simp
  have hM : ApAtS w fn (.func (.func g) #[] lb) w.heap.size (W0.heap.size + 1) W0.heap.size [] W1 :=
    ⟨⟨_, (hold w.heap.size (by omega)).trans hv0, Own.nil _ _ _ _⟩,
     by rw [← hW1]; have := World.alloc_heap_new (W0.alloc (.deferred (some []))) (.loop (apRecS fn (.func (.func g) #[] lb) w.heap.size W0.heap.size .ready none)); rwa [World.size_alloc] at this,
     by rw [← hW1]; exact (Below.heap_alloc _ _ _ (by simp)).trans (World.alloc_heap_new W0 _), hb1⟩
  refine ⟨W0.heap.size + 1, [{ target := .collected W0.heap.size, args := #[] }], W1, { target := .fn (.func g) lb, args := #[.func (.yield (W0.heap.size + 1)) #[] #[]] }, W1, g,
    #[.func (.yield (W0.heap.size + 1)) #[] #[]] ++ lb, W1, ?_, ?_, ?_, ?_, fun _ => hn, ?_⟩
  · rw [← hW1]; exact run_enterLoop_outer _ _ _ _ _
  · simp [resolve, go_sem]
  · intro f' hf'; trivial
  · simp [invoke, go_sem, eg]
  · refine (hseq (W0.heap.size + 1) (ApAtS w fn (.func (.func g) #[] lb) w.heap.size (W0.heap.size + 1) W0.heap.size) W1 hb1 (ap_abidesS _ _ _ _ _ _ _ hb1.size)
      (fun pre x W hJ hl => apYieldS (n - 1 - 1) w fn _ w.heap.size (W0.heap.size + 1) W0.heap.size (by omega) (by omega) (by omega) (Nat.le_refl _) (by omega) pre x W hJ (by omega)) hM).mono ?_
    rintro e W2 ⟨⟨v0, rfl⟩, ss, hS, h2⟩
    obtain ⟨v, hv, hrow⟩ := h2.box
    have hend := run_endLoop (P := Tryz.prog) h2.L (by simp [apRecS])
    obtain ⟨W3, hW3⟩ : ∃ W3, W2.putObj (W0.heap.size + 1) (.loop { apRecS fn (.func (.func g) #[] lb) w.heap.size W0.heap.size .ready none with state := .exhausted }) = W3 := ⟨_, rfl⟩
    rw [hW3] at hend
    have hg3 : W2.grownBy W3 (some (W0.heap.size + 1)) := by rw [← hW3]; exact grownBy_putObj_a _ _ _
    have hv3 : W3.heap[w.heap.size]? = some (.cells #[v] 42 (0, 0)) := by rw [← hW3]; exact (World.putObj_heap_other (by omega)).trans hv
    have hK3 : W3.heap[W0.heap.size]? = some (.deferred (some [])) := by rw [← hW3]; exact (World.putObj_heap_other (by omega)).trans h2.K
    have hrow3 : Own encS 56 W3 w.heap.size v ss := hrow.kept hg3 (ownsRow_ne_a hrow h2.L (loop_noS _))
    have hb3 : Below w.heap.size w W3 := h2.below.grown hg3 h2.below.size (fun k e => by cases e; omega)
    obtain ⟨hc3, hf3⟩ := cell_of_box_a hv3
    clear hW3
    refine ⟨none, W3, hend, ?_⟩
    gi_wp2
    rw [← hs0]
    refine ⟨by simp, .inl ⟨_, _, rfl, run_takeDeferred hK3, ?_⟩⟩
    exact ⟨_, results_tmp rfl _ _ _, v, ss, rfl, hS, hrow3.kept (grownBy_putObj_a _ _ _) (ownsRow_ne_a hrow3 hK3 (def_noS _)), hb3.grown (grownBy_putObj_a _ _ _) hb3.size (fun k e => by cases e; omega)⟩
set_option maxHeartbeats 1000000 in
theorem collect_inS (n : Nat) (g : Nat) (lb : Array Value) (eg : ∀ args w, (callFunc g args).run Tryz.prog w = .ok (.enter g args) w)
    (S : List Sp → Prop) (N : Nat) (hN : N ≤ 1000000) (w : World) (hseq : SeqGives Fence.wide (n - 1) Tryz.prog g lb (fun K : Sp => .agg (encS.c K).toArray) S N w) (hn : 1 ≤ n) :
    Calls Tryz.prog 51 #[.func (.func g) #[] lb] w fun e w' => ∃ (v : Value) (ss : List Sp), e = .returned v ∧ S ss ∧ Own encS 56 w' w.heap.size v ss ∧ Below w.heap.size w w' := by
  have hA := callsIn_wide.1 (appendSeq_inS n g lb eg S N hN w hseq hn)
  go_enter Tryz.func51, Tryz.ntmps51
  go_wp2_with (go_at_call 95; refine hA.mono ?_; rintro e w1 ⟨v, ss, rfl, h1, h2, h3⟩)
  go_ret
  exact ⟨v, ss, rfl, h1, h2, h3⟩
/-- Just the spans of R. -/
def SpsL (n : Nat) (R : List Sp) (ss : List Sp) : Prop := ss.length ≤ n ∧ ∀ s, s ∈ ss ↔ s ∈ R
structure GotS (R : List Sp) (todo : Sp → Prop) (ss : List Sp) : Prop where
  mem : ∀ s, s ∈ R ↔ s ∈ ss ∨ todo s
theorem GotS.start (R : List Sp) : GotS R (fun s => s ∈ R) [] := ⟨fun s => by simp⟩
theorem GotS.step {R : List Sp} {todo : Sp → Prop} {ss : List Sp} (h : GotS R todo ss) (K : Sp) (hK : todo K) : GotS R (fun s => todo s ∧ s ≠ K) (ss ++ [K]) := ⟨fun s => by
  rw [h.mem, List.mem_append, List.mem_singleton]
  by_cases e : s = K
  · subst e; simp [hK]
  · simp [e]⟩
theorem GotS.done {R : List Sp} {todo : Sp → Prop} {ss : List Sp} (h : GotS R todo ss) (ht : ∀ s, ¬ todo s) : ∀ s, s ∈ ss ↔ s ∈ R := fun s => by rw [h.mem]; simp [ht]
set_option maxRecDepth 100000 in
set_option maxHeartbeats 2000000 in
theorem keys1S_in (n : Nat) (l Bm b nn : Nat) (L : List Sp) (J : List Sp → World → Prop)
    (hY : ∀ pre (x : Sp) W, J pre W → pre.length < nn → YieldAt Fence.wide (n - 1) Tryz.prog l #[.agg (encS.c x).toArray] W fun e W' => e = .returned (.bool true) ∧ J (pre ++ [x]) W' ∧ KeepsWalks W W')
    (W : World) (hJ : AbidesFrom W.heap.size J) (hm : W.cell? ⟨Bm, 0, none⟩ = some (.map (some b))) (hown : SetA W b nn L) (h0 : J [] W) :
    CallsIn Fence.wide n Tryz.prog 96 #[.func (.yield l) #[] #[], .pointer (some ⟨Bm, 0, none⟩)] W fun e W' => (∃ v, e = .returned v) ∧ ∃ ss : List Sp, SpsL nn L ss ∧ J ss W' := by
  refine callsIn_of_wp Tryz.func96 rfl trivial ?_ rfl
  simp only [Tryz.ntmps96, List.size_toArray, List.length_cons, List.length_nil, Nat.reduceAdd, Nat.reduceSub, Array.replicate_succ, Array.replicate_zero, List.push_toArray, List.append_toArray, List.nil_append, List.cons_append]
  gi_wp2_with (first
    | (gi_at_range; refine rangeIn_s Tryz.underlying74 rfl _ rfl b nn L rfl hown ?_; intro w0 cnt0 hrg0 hc0 hg0 hs0)
    | gi_in)
  go_frame
  gi_loopw [3] (fun _ wr => ∃ (todo : Sp → Prop) (cnt : Nat) (ss : List Sp), RangeS wr b W.heap.size nn L todo cnt ∧ ss.length + cnt ≤ nn ∧ GotS L todo ss ∧ J ss wr)
    (fun _ wr => wr.rangeLeft b W.heap.size)
  case atStart =>
    exact ⟨_, cnt0, [], hrg0, by simpa using hc0, GotS.start _, hJ [] W w0 none h0 hg0 (fun r e => by cases e)⟩
  case round =>
    obtain ⟨todo, cnt, ss, hrg, hcs, hC, hJs⟩ := hrel
    have HWT : Hid (W.heap.size ≤ W.heap.size ∧ W.heap.size < wr.heap.size) := ⟨Nat.le_refl _, hrg.lt⟩
    gi_wp2_with (first
      | (gi_at_next; refine nextIn_s rfl _ rfl b W.heap.size nn L todo cnt rfl hrg ?_ ?_)
      | gi_in)
    · intro hl0
      gi_wp2
      go_end0
      exact ⟨⟨_, rfl⟩, ss, ⟨by omega, hC.done hl0⟩, hJs⟩
    · intro K x w2 cnt2 hK hrg2 hlt hg2 hs2 hen
      have hJ2 : J ss w2 := hJ ss wr w2 (some W.heap.size) hJs hg2 (fun r e => by cases e; exact ⟨Nat.le_refl _, hrg.walk⟩)
      have HR2 : Hid (RangeS w2 b W.heap.size nn L (fun s => todo s ∧ s ≠ K) cnt2) := hrg2
      have HJ2 : Hid (J ss w2) := hJ2
      clear hs2 hrg2 hJ2 hg2
      gi_wp2_with (first
        | (refine storeIn_s rfl _ _ rfl w2.heap.size rfl K rfl spz0 (InB.new encS 56 w2 spz0 _ rfl) ?_
           intro w3 hw3 t3 s3
           have B3 : Below w2.heap.size w2 w3 := ((Below.refl _ w2).alloc (Nat.le_refl _) _).trans (t3.below (by simp) (Nat.le_refl _) (by simp))
           have hJ3 : J ss w3 := hJ ss w2 w3 none HJ2.out ⟨B3.os, B3.tape, B3.output, B3.size, fun i hi _ => B3.block i hi⟩ (fun r e => by cases e)
           have hrg3 := HR2.out.below B3 (Nat.le_refl _)
           obtain ⟨fn, tmps, assign, body, hy, hR⟩ := hY ss K w3 hJ3 (by omega)
           clear B3 t3 s3 hen)
        | (refine loadIn_s rfl _ rfl w2.heap.size rfl K hw3 ?_)
        | gi_in)
      refine ⟨(fun h => by cases h), hR.mono ?_⟩
      rintro e W3 ⟨rfl, hJ4, hk4⟩
      gi_wp2
      have hrg4 := hrg3.walks hk4
      go_roundw
      case rel => exact ⟨_, cnt2, ss ++ [K], hrg4, by simp; omega, hC.step K hK, hJ4⟩
      case measure => rw [hrg4.left_eq, hrg.left_eq]; exact hlt
theorem keysS_gives (n : Nat) (Bm b nn : Nat) (L : List Sp) (w : World) (hBm : Bm < w.heap.size) (hm : w.cell? ⟨Bm, 0, none⟩ = some (.map (some b))) (hown : SetA w b nn L) :
    SeqGives Fence.wide n Tryz.prog 96 #[.pointer (some ⟨Bm, 0, none⟩)] (fun K : Sp => .agg (encS.c K).toArray) (SpsL nn L) nn w := fun l J W hW hJ hY h0 =>
  keys1S_in n l Bm b nn L J hY W hJ ((hW.cell (p := ⟨Bm, 0, none⟩) hBm).trans hm) (hown.below hW (Nat.le_refl _)) h0
set_option maxHeartbeats 1000000 in
theorem keysS_calls (mb : Option Nat) (w : World) :
    Calls Tryz.prog 52 #[.map mb] w fun e w' => e = .returned (.func (.func 96) #[] #[.pointer (some ⟨w.heap.size, 0, none⟩)]) ∧ w' = w.alloc (.cells #[.map mb] 74) := by
  go_enter Tryz.func52, Tryz.ntmps52
  go_wp2
  go_ret
  exact ⟨rfl, rfl⟩
end Go.Proofs.YtdmindhjmjnagaaGreatDoor
/- bytes.Compare of keys that lie anywhere; when it is nought. -/
namespace Go.Proofs.YtdmindhjmjnagaaGreatDoor
set_option linter.unusedVariables false
set_option maxRecDepth 100000
open Go.RowKit

/-! bytes.Compare. -/
theorem run_bytesOf_at (w : World) (b : Nat) (K : List UInt8) (hK : K.length = 24) (h : w.rangeAt b 0 (bc K)) (cap : Nat) : (Extern.Bytes.bytesOf (.slice (some ⟨b, 0, none⟩) 24 cap)).run Tryz.prog w = .ok (str K) w := by
  have hl := Lib.run_loadBytesX (P := Tryz.prog) w (K.map fun b => (b.toNat : Int)) ⟨b, 0, none⟩ .empty (fun j x hj => by
    have e : (⟨b, 0, none⟩ : Addr).add j = ⟨b, j, none⟩ := by unfold Addr.add; split <;> simp_all
    rw [e]
    have := h j (.int .u8 x) (by
      simp only [bc, List.getElem?_map, Option.map_eq_some_iff] at hj ⊢
      obtain ⟨a, ha, rfl⟩ := hj
      exact ⟨a, ha, rfl⟩)
    simpa using this)
  rw [List.length_map, hK, bytes_num] at hl
  have e : (⟨ByteArray.empty.data ++ K.toArray⟩ : ByteArray) = str K := by
    apply ByteArray.ext
    show (#[] : Array UInt8) ++ K.toArray = K.toArray
    simp
  rw [e] at hl
  exact hl
theorem run_compare_at (w : World) (b c : Nat) (K L : List UInt8) (hK : K.length = 24) (hL : L.length = 24) (h : w.rangeAt b 0 (bc K)) (h' : w.rangeAt c 0 (bc L)) (cap cap' : Nat) :
    (Extern.BytealgCompare.compare #[.slice (some ⟨b, 0, none⟩) 24 cap, .slice (some ⟨c, 0, none⟩) 24 cap']).run Tryz.prog w = .ok (.int .i64 (Lib.compareBytes K L)) w := by
  change Sem.run Tryz.prog (do pure (goInt (Extern.BytealgCompare.cmp (← Extern.Bytes.bytesOf (.slice (some ⟨b, 0, none⟩) 24 cap)) (← Extern.Bytes.bytesOf (.slice (some ⟨c, 0, none⟩) 24 cap'))))) w = _
  simp only [Sem.run_bind, run_bytesOf_at w b K hK h, run_bytesOf_at w c L hL h', Result.andThen_ok, Sem.run_pure]
  rw [Lib.cmp_eq, str_list, str_list]
  rfl
set_option maxRecDepth 100000 in
set_option maxHeartbeats 1000000 in
theorem compareAt_calls (w : World) (b c : Nat) (K L : List UInt8) (hK : K.length = 24) (hL : L.length = 24) (h : w.rangeAt b 0 (bc K)) (h' : w.rangeAt c 0 (bc L)) (cap cap' : Nat) :
    Calls Tryz.prog 126 #[.slice (some ⟨b, 0, none⟩) 24 cap, .slice (some ⟨c, 0, none⟩) 24 cap'] w fun e w' => e = .returned (.int .i64 (Lib.compareBytes K L)) ∧ w' = w := by
  have H := run_compare_at w b c K L hK hL h h' cap cap'
  clear h h'
  go_enter Tryz.func126, Tryz.ntmps126
  go_wp2
  rw [run_callFunc_extern Tryz.func157 (by kernel_rfl) (by kernel_rfl) (by kernel_rfl) (e := Extern.BytealgCompare.compare) (by kernel_rfl), H]
  simp only [Result.andThen]
  rw [Oper.upon_value]
  go_wp2
  go_ret
  exact ⟨rfl, rfl⟩
theorem compare_zero : ∀ (K L : List UInt8), Lib.compareBytes K L = 0 ↔ K = L
  | [], [] => by simp [Lib.compareBytes]
  | [], _ :: _ => by simp [Lib.compareBytes]
  | _ :: _, [] => by simp [Lib.compareBytes]
  | a :: xs, b :: ys => by
    have ih := compare_zero xs ys
    rw [Lib.compareBytes]
    by_cases h1 : a < b
    · have : ¬ a = b := fun e => by subst e; simp at h1
      simp [h1, this]
    · by_cases h2 : b < a
      · have : ¬ a = b := fun e => by subst e; exact h1 h2
        simp [h1, h2, this]
      · have : a = b := by
          apply UInt8.toNat_inj.1
          simp only [UInt8.lt_iff_toNat_lt] at h1 h2
          omega
        subst this
        simp [ih]
end Go.Proofs.YtdmindhjmjnagaaGreatDoor
/- A row of elements of k cells as the library's sort holds it. -/
namespace Go.Proofs.YtdmindhjmjnagaaGreatDoor
set_option linter.unusedVariables false
set_option maxRecDepth 100000
open Go.RowKit Go.Sort

theorem Own.frozenAt9 {α : Type} {k : Nat} {E : Enc α k} {ty : TypeId} {w : World} {base g n cap : Nat} {l : List α} (h : Own E ty w base (.slice (some ⟨g, 0, none⟩) n cap) l) (j : Nat) : w.frozen? ⟨g, j, none⟩ = false := by
  rcases h.2 with ⟨h', _⟩ | ⟨g', cap', cur, h', _, hg, _⟩
  · cases h'
  · cases h'
    simp [World.frozen?, hg]
section
variable {α : Type} [Inhabited α] {k : Nat} (E : Enc α k)
theorem flatK_eq9 (d : Array α) : flatK E.c k d = (E.flat d.toList).toArray := by
  refine ext_get! (by simp [E.flat_length]) fun t ht => ?_
  have ht' : t < d.size * k := by simpa using ht
  have k0 : 0 < k := by
    rcases Nat.eq_zero_or_pos k with h | h
    · subst h; simp at ht'
    · exact h
  have hd : t / k < d.toList.length := by
    rw [Array.length_toList]
    exact Nat.div_lt_of_lt_mul (by rwa [Nat.mul_comm] at ht')
  have hm : t % k < (E.c d.toList[t / k]).length := by rw [E.len]; exact Nat.mod_lt _ k0
  have h1 := E.flat_get d.toList (t / k) (t % k) hd _ (List.getElem?_eq_getElem hm)
  rw [show t / k * k + t % k = t by rw [Nat.mul_comm]; exact Nat.div_add_mod t k] at h1
  rw [get_flatK _ _ _ t ht']
  have h2 : d[t / k]! = d.toList[t / k] := by
    have : t / k < d.size := by simpa using hd
    rw [getElem!_pos d _ this]; rfl
  rw [h2]
  have h3 : (E.c d.toList[t / k])[t % k]! = (E.c d.toList[t / k])[t % k] := getElem!_pos (E.c d.toList[t / k]) (t % k) hm
  rw [h3]
  have h4 := List.getElem?_eq_some_iff.1 h1
  obtain ⟨h5, h6⟩ := h4
  rw [getElem!_pos (E.flat d.toList).toArray t (by simpa using h5)]
  simpa using h6.symm
theorem holds_own9 {ty : TypeId} {w : World} {base g cap : Nat} {l : List α} (h : Own E ty w base (.slice (some ⟨g, 0, none⟩) l.length cap) l) : HoldsK E.c k w g 0 l.toArray := by
  intro j hj
  rw [flatK_eq9] at hj ⊢
  have hj' : j < (E.flat l).length := by simpa using hj
  have h1 := h.cells (g := g) rfl j _ (List.getElem?_eq_getElem hj')
  rw [Addr.add_mid] at h1
  refine ⟨?_, by simpa using h.frozenAt9 (0 + j)⟩
  rw [h1, getElem!_pos (E.flat l).toArray j (by simpa using hj')]
  simp
theorem take_put9 (cur : Array Value) (F : List Value) (h : F.length ≤ cur.size) : (putCells id 0 F.toArray cur).toList.take F.length = F := by
  apply List.ext_getElem?
  intro j
  by_cases hj : j < F.length
  · rw [List.getElem?_take_of_lt hj, Array.getElem?_toList]
    simp [putCells, hj, show j < cur.size by omega]
  · rw [List.getElem?_take_eq_none (by omega), List.getElem?_eq_none (by omega)]
theorem own_sorted9 {ty : TypeId} {w : World} {base g cap n : Nat} {l : List α} {os : Array Obj} (h : Own E ty w base (.slice (some ⟨g, 0, none⟩) l.length cap) l) (d : Array α) (hd : d.size = l.length) :
    Own E ty (sortWorldK E.c k w g 0 n d os) base (.slice (some ⟨g, 0, none⟩) l.length cap) d.toList ∧ w.grownBy (sortWorldK E.c k w g 0 n d os) (some g) := by
  rcases h.2 with ⟨h0, _⟩ | ⟨g', cap', cur, hv, h2, h3, h4, h5, h6, h7⟩
  · cases h0
  · cases hv
    have hg : g < w.heap.size := lt_of_block h3
    have hlen : (E.flat d.toList).length = l.length * k := by rw [E.flat_length, Array.length_toList, hd]
    have hb : (sortWorldK E.c k w g 0 n d os).heap[g]? = some (.cells (putCells id 0 (E.flat d.toList).toArray cur) ty (0, 0)) := by
      unfold sortWorldK putRowK
      rw [flatK_eq9, heap_grow_old _ _ (by simpa using hg)]
      simp [putRow, mapBlock, Array.getElem?_modify, h3, onCells]
    refine ⟨⟨by rw [E.flat_length], .inr ⟨g, cap, _, by rw [show d.toList.length = l.length by simpa using hd], h2, hb, by rw [Array.length_toList, hd]; exact h4, h5, by simp [putCells, h6], ?_⟩⟩, ?_⟩
    · rw [Array.length_toList, hd, ← hlen]
      refine take_put9 cur _ ?_
      rw [hlen, h6]
      exact Nat.mul_le_mul_right k h4
    · unfold sortWorldK putRowK
      refine ⟨rfl, rfl, rfl, by simp, fun j hj hne => ?_⟩
      rw [heap_grow_old _ _ (by simpa using hj)]
      have : g ≠ j := fun e => hne (by rw [e])
      simp [putRow, mapBlock, Array.getElem?_modify, this]
end
end Go.Proofs.YtdmindhjmjnagaaGreatDoor
