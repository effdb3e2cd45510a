import Derived.Test.YtbbelhkdpmcoeaaGreatB04
import Derived.Shelf.SlIter.Sorted
import Derived.RangeFuncBound
import Derived.Test.YtbbelhkdpmcoeaaGreatB03
import Derived.Laws.ResultCell
/- An iterator over keys is collected: slices.AppendSeq, slices.Collect, at keys of 24 bytes. -/
namespace Go.Proofs.YtbbelhkdpmcoeaaGreat
set_option linter.unusedVariables false
set_option maxRecDepth 100000
open Go.RowKit

def encKz : Enc Kz 24 := ⟨fun x => bc x.k, fun x => by rw [bc_length, x.h], fun x => bc_one x.k⟩
theorem rowK : RowTy Tryz.prog encKz 128 29 24 := ⟨Tryz.underlying128, ⟨kv (zs 24), by kernel_rfl, by simp [Value.cells, bc_length, zs_length]⟩, by decide⟩
section
variable {F : Fence} {n : Nat} {ops : Array Oper} {rest : List Oper} {o : Oper} {a : Act} {w : World} {Q : Exit → Act → World → Prop}
theorem loadIn_key (hg : o.guard = none) (x : Operand) (ho : o.op = .load 29 x) (b : Nat) (hx : a.eval x = .pointer (some ⟨b, 0, none⟩)) (K : List UInt8) (hK : Has w b K)
    (h : wpListIn F n Tryz.prog ops Q rest (a.put o.dst (kv K)) w) : wpListIn F n Tryz.prog ops Q (o :: rest) a w := by
  refine wpListIn_plain hg fun K' hK' => ?_
  unfold Oper.wpIn
  refine ⟨by simp [Oper.about, ho], ?_⟩
  rw [Oper.semAt_plain F _ _ (by rw [ho]; intro c hc; cases hc)]
  unfold execOp
  simp only [ho, hx, Instr.loadAt, Instr.sureAddr, Sem.run_bind, Sem.run_pure, Result.andThen_ok, run_loadVar_row w b _ _ _ _ _ hK.blk Tryz.underlying29 rfl (by rw [bc_size, hK.len]; exact Tryz.key_info)]
  exact hK' _ _ h
theorem storeIn_key (hg : o.guard = none) (x y : Operand) (ho : o.op = .store 29 x y) (b : Nat) (hx : a.eval x = .pointer (some ⟨b, 0, none⟩)) (L : List UInt8) (hy : a.eval y = kv L) (hL : L.length = 24) (K : List UInt8) (hK : Has w b K)
    (h : ∀ w', Has w' b L → Touch b none w w' → w'.heap.size = w.heap.size → wpListIn F n Tryz.prog ops Q rest (a.put o.dst undef) w') : wpListIn F n Tryz.prog ops Q (o :: rest) a w := by
  refine wpListIn_plain hg fun K' hK' => ?_
  unfold Oper.wpIn
  refine ⟨by simp [Oper.about, ho], ?_⟩
  rw [Oper.semAt_plain F _ _ (by rw [ho]; intro c hc; cases hc)]
  unfold execOp
  simp only [ho, hx, hy, Instr.storeAt, Instr.sureAddr, Sem.run_bind, Sem.run_pure, Result.andThen_ok, run_storeVar_row w b _ 29 _ _ hK.blk (by rw [bc_size, hL]; exact Tryz.key_info) (by rw [bc_size, bc_size, hL, hK.len]) (bc_all L)]
  exact hK' _ _ (h _ (hK.setRow L hL) (touch_setRow _ _ _) (by simp))
theorem buildIn_key (hg : o.guard = none) (x : Operand) (ho : o.op = .buildSlice 128 1 #[(0, x)]) (K : List UInt8) (hK : K.length = 24) (hx : a.eval x = kv K)
    (h : wpListIn F n Tryz.prog ops Q rest (a.put o.dst (.slice (some ⟨w.heap.size, 0, none⟩) 1 1)) (w.alloc (.cells (bc K).toArray 29))) : wpListIn F n Tryz.prog ops Q (o :: rest) a w := by
  obtain ⟨i, z, hi, hz, hsz, hby, hzc⟩ := rowK.parts
  refine wpListIn_plain hg fun K' hK' => ?_
  unfold Oper.wpIn
  refine ⟨by simp [Oper.about, ho], ?_⟩
  rw [Oper.semAt_plain F _ _ (by rw [ho]; intro c hc; cases hc)]
  unfold execOp
  have hf : Instr.fill (fun i' => some (i' * i.size, i.size)) ((Array.range (1 * i.size)).map (z.cells[· % z.cells.size]!)) (#[(0, x)].map fun (i, x) => (i, a.eval x)).toList = some (bc K).toArray := by
    have := fill_els encKz [⟨K, hK⟩] 0 ((Array.range (1 * 24)).map (z.cells[· % z.cells.size]!)) (by simp)
    rw [hsz]
    simpa [hx, Enc.flat, encKz] using this
  simp only [ho, Sem.run_bind, run_buildSlice w 128 29 1 _ (bc K).toArray i z Tryz.underlying128 hi hz (by rw [hsz]; omega) (by rw [hsz]; omega) hf, Result.andThen_ok]
  exact hK' _ _ h
end

/-! slices.AppendSeq. -/
def apAssign : Code := (Code.region 2 #[{ dst := some 5, op := Op.alloc 29, type := 0, pos := "iter.go:51", after := #[], guard := none }, { dst := none, op := Op.store 29 (Operand.tmp 5) (Operand.tmp 7), type := 0, pos := "iter.go:51", after := #[{ on := 0, ground := Ground.data }, { on := 0, ground := Ground.phase }], guard := none }] false)
def apBody : Code := (Code.block 1 (Code.region 3 #[{ dst := some 8, op := Op.load 128 (Operand.tmp 2), type := 128, pos := "iter.go:52", after := #[], guard := none },
  { dst := some 9, op := Op.load 29 (Operand.tmp 5), type := 29, pos := "iter.go:52", after := #[], guard := none },
  { dst := some 10, op := Op.buildSlice 128 1 #[(0, Operand.tmp 9)], type := 128, pos := "iter.go:52", after := #[{ on := 1, ground := Ground.data }], guard := none },
  { dst := some 11, op := Op.call { callee := Callee.builtin Builtin.append, args := #[Operand.tmp 8, Operand.tmp 10], argTypes := #[128, 128] }, type := 128, pos := "iter.go:52", after := #[{ on := 0, ground := Ground.data }, { on := 2, ground := Ground.data }], guard := none },
  { dst := none, op := Op.store 128 (Operand.tmp 2) (Operand.tmp 11), type := 0, pos := "iter.go:52", after := #[{ on := 3, ground := Ground.data }, { on := 3, ground := Ground.chain }, { on := 0, ground := Ground.phase }, { on := 1, ground := Ground.phase }, { on := 2, ground := Ground.phase }, { on := 3, ground := Ground.phase }], guard := none }] false))
/-- The loop's record. -/
def apRec (fn : FuncId) (sv : Value) (Bs D : Nat) (st : LoopState) (pend : Option Code) : Loop :=
  { state := st, pending := pend, fn, tmps := #[.slice none 0 0, sv, .pointer (some ⟨Bs, 0, none⟩), undef, .slice none 0 0, undef, sv, undef, undef, undef, undef, undef, undef], params := #[7], assign := apAssign, body := apBody, defers := D }
/-- Between two rounds. -/
structure ApAt (w0 : World) (fn : FuncId) (sv : Value) (Bs l D : Nat) (ss : List Kz) (W : World) : Prop where
  box : ∃ v, W.heap[Bs]? = some (.cells #[v] 128 (0, 0)) ∧ Own encKz 29 W w0.heap.size v ss
  L : W.heap[l]? = some (.loop (apRec fn sv Bs D .ready none))
  K : W.heap[D]? = some (.deferred (some []))
  below : Below w0.heap.size w0 W
theorem ap_abides (w0 : World) (fn : FuncId) (sv : Value) (Bs l D B : Nat) (hB : w0.heap.size ≤ B) : AbidesFrom B (ApAt w0 fn sv Bs l D) := fun s W W' row h hg hrow => by
  have hrow' : ∀ r, row = some r → ∃ o : Obj, W.heap[r]? = some o ∧ o.isWalk = true := fun r e => (hrow r e).2
  obtain ⟨v, hv, hr⟩ := h.box
  exact ⟨⟨v, (grownBy_keeps hg hrow' hv rfl).trans hv, ownsRow_abides_a hr hg hrow'⟩, (grownBy_keeps hg hrow' h.L rfl).trans h.L, (grownBy_keeps hg hrow' h.K rfl).trans h.K,
    h.below.grown hg h.below.size (fun k e => Nat.le_trans hB (hrow k e).1)⟩
theorem ne_ty : (128 : TypeId) ≠ 29 := by decide
theorem box_no (v : Value) : ∀ cur, (Obj.cells #[v] 128 (0, 0)) ≠ .cells cur 29 (0, 0) := fun cur e => ne_ty (Obj.cells.inj e).2.1
theorem loop_no (r : Loop) : ∀ cur, (Obj.loop r) ≠ .cells cur 29 (0, 0) := fun cur e => by cases e
theorem def_no (d : Option (List Deferred)) : ∀ cur, (Obj.deferred d) ≠ .cells cur 29 (0, 0) := fun cur e => by cases e
theorem ownKey_ne {W : World} {base : Nat} {v : Value} {ss : List Kz} (h : Own encKz 29 W base v ss) {j : Nat} {o : Obj} (hj : W.heap[j]? = some o) (hno : ∀ cur, o ≠ .cells cur 29 (0, 0)) : some j ≠ v.ownBlock := by
  rcases ownsRow_ne_a h hj hno with e | e
  · rw [e]; simp
  · exact fun e' => e e'.symm
set_option maxRecDepth 100000 in
set_option maxHeartbeats 4000000 in
theorem apYield (m : Nat) (w0 : World) (fn : FuncId) (sv : Value) (Bs l D : Nat) (hBl : Bs ≠ l) (hDl : D ≠ l) (hDB : D ≠ Bs) (h0B : w0.heap.size ≤ Bs) (h0l : w0.heap.size ≤ l)
    (ss : List Kz) (x : Kz) (W : World) (h : ApAt w0 fn sv Bs l D ss W) (hlen : ss.length < 1000000) :
    YieldAt Fence.wide m Tryz.prog l #[kv x.k] W fun e W' => e = .returned (.bool true) ∧ ApAt w0 fn sv Bs l D (ss ++ [x]) W' ∧ KeepsWalks W W' := by
  obtain ⟨i0, z0, hi, hz0, hz1, hz2, hzc⟩ := rowK.parts
  obtain ⟨v, hv, hrow⟩ := h.box
  refine ⟨fn, #[.slice none 0 0, sv, .pointer (some ⟨Bs, 0, none⟩), undef, .slice none 0 0, undef, sv, kv x.k, undef, undef, undef, undef, undef], apAssign, apBody, by simpa [apRec] using run_yield (P := Tryz.prog) (args := #[kv x.k]) h.L rfl, roundIn_of_wpIn trivial ?_⟩
  have hBlt : Bs < W.heap.size := lt_of_block hv
  have hl : l < W.heap.size := lt_of_block h.L
  have hDlt : D < W.heap.size := lt_of_block h.K
  unfold apAssign
  gi_wp2_with (first
    | (refine storeIn_key rfl _ _ rfl W.heap.size rfl x.k rfl x.h (zs 24) (Has.new W (zs 24) rfl) ?_
       intro w2 hw2 t2 s2
       have B2 : Below W.heap.size W w2 := ((Below.refl _ W).alloc (Nat.le_refl _) _).trans (t2.below (by simp) (Nat.le_refl _) (by simp))
       have hL2 := (B2.block l hl).trans h.L
       have hbr := run_beginRound (P := Tryz.prog) hL2 rfl
       obtain ⟨w3, hW3⟩ : ∃ w3, w2.putObj l (.loop { apRec fn sv Bs D .ready none with state := .busy }) = w3 := ⟨_, rfl⟩
       rw [hW3] at hbr)
    | gi_round_op_a)
  have hs2 : W.heap.size < w2.heap.size := by rw [s2]; simp
  have hl2 : l < w2.heap.size := by omega
  have hrow2 := hrow.below B2
  have hg3 : w2.grownBy w3 (some l) := by rw [← hW3]; exact grownBy_putObj_a _ _ _
  have hw3 : Has w3 W.heap.size x.k := ⟨x.h, by rw [← hW3]; exact (World.putObj_heap_other (by omega)).trans hw2.blk⟩
  have hv3 : w3.heap[Bs]? = some (.cells #[v] 128 (0, 0)) := by rw [← hW3]; exact (World.putObj_heap_other hBl).trans ((B2.block Bs hBlt).trans hv)
  have hK3 : w3.heap[D]? = some (.deferred (some [])) := by rw [← hW3]; exact (World.putObj_heap_other hDl).trans ((B2.block D hDlt).trans h.K)
  have hL3 : w3.heap[l]? = some (.loop { apRec fn sv Bs D .ready none with state := .busy }) := by rw [← hW3]; exact World.putObj_heap_same hl2
  have hrow3 : Own encKz 29 w3 w0.heap.size v ss := hrow2.kept hg3 (ownsRow_ne_a hrow2 hL2 (loop_no _))
  have hb2 : Below w0.heap.size w0 w2 := h.below.trans (B2.mono h.below.size)
  have hb3 : Below w0.heap.size w0 w3 := hb2.grown hg3 hb2.size (fun k e => by cases e; exact h0l)
  have hk3 : KeepsWalks W w3 := (KeepsWalks.trans ⟨B2.size, fun k o ho _ => (B2.block k (lt_of_block ho)).trans ho⟩ (by rw [← hW3]; exact KeepsWalks.putObj _ hL2 rfl))
  obtain ⟨hc3, hf3⟩ := cell_of_box_a hv3
  have hBlt3 : Bs < w3.heap.size := lt_of_block hv3
  clear hv hrow hrow2 hb2 B2 t2 s2 hW3 hbr hL2 h hg3 hw2
  generalize W.heap.size = q at *
  unfold apBody
  gi_wp2_with (first
    | (refine loadIn_key rfl _ rfl q rfl x.k hw3 ?_)
    | (refine buildIn_key rfl _ rfl x.k x.h rfl ?_)
    | (gi_at_builtin
       refine wpListIn_append_own _ rfl _ _ 128 rfl w0.heap.size 29 i0 z0 24 24 Tryz.underlying128 hi hz0 hz1 hz2 hzc (by decide) _ _ _ rfl (Own.below hrow3 ((Below.refl _ w3).alloc (Nat.le_refl _) _)) ⟨w3.heap.size, 0, none⟩ 1 1 (bc x.k) rfl (by rw [bc_length, x.h]) (fun j u hu => by rw [Addr.add_mid, Nat.zero_add, cell_of_row _ _ _ _ _ _ (heap_alloc_new _ _)]; simpa using hu) (bc_one x.k) (by unfold maxLen; omega) (by omega) (by have := hb3.size; simp; omega) ?_
       intro v' w4 hown' hg4 hnil4
       have hv4 : w4.heap[Bs]? = some (.cells #[v] 128 (0, 0)) := (hg4.block Bs (by simp; omega) (ownKey_ne hrow3 hv3 (box_no _))).trans ((Below.heap_alloc _ _ Bs hBlt3).trans hv3)
       obtain ⟨hc4, hf4⟩ := cell_of_box_a hv4
       obtain ⟨g', cap', cur', rfl, _⟩ : ∃ g' cap' cur', v' = .slice (some ⟨g', 0, none⟩) (ss.length + 1) cap' ∧ w0.heap.size ≤ g' ∧ w4.heap[g']? = some (.cells cur' 29 (0, 0)) ∧ ss.length + 1 ≤ cap' ∧ cap' ≤ maxLen ∧ cur'.size = cap' * 24 ∧ cur'.toList.take ((ss.length + 1) * 24) = encKz.flat ss ++ bc x.k := by
         rcases hown'.2 with ⟨_, h0⟩ | h'
         · exact absurd h0 (by omega)
         · exact h'
       go_frame)
    | gi_round_op_a)
  have hg4' : (w3.alloc (.cells (bc x.k).toArray 29)).grownBy w4 v.ownBlock := hg4
  have hl3 : l < w3.heap.size := lt_of_block hL3
  have hD3 : D < w3.heap.size := lt_of_block hK3
  have hL4 := (hg4'.block l (by simp; omega) (ownKey_ne hrow3 hL3 (loop_no _))).trans ((Below.heap_alloc _ _ l hl3).trans hL3)
  have hK4 := (hg4'.block D (by simp; omega) (ownKey_ne hrow3 hK3 (def_no _))).trans ((Below.heap_alloc _ _ D hD3).trans hK3)
  have hown4 : Own encKz 29 w4 w0.heap.size (.slice (some ⟨g', 0, none⟩) (ss.length + 1) cap') (ss ++ [x]) := by
    show w4.ownsRow _ _ 24 _ (ss ++ [x]).length (encKz.flat (ss ++ [x]))
    rw [List.length_append, List.length_singleton, encKz.flat_append, encKz.flat_one]
    exact hown'
  obtain ⟨w5, hw5⟩ : ∃ w5, w4.setCell ⟨Bs, 0, none⟩ (.slice (some ⟨g', 0, none⟩) (ss.length + 1) cap') = w5 := ⟨_, rfl⟩
  rw [hw5]
  have hg5 : w4.grownBy w5 (some Bs) := by rw [← hw5]; exact grownBy_setCell0_a _ _ _
  have hv5 : w5.heap[Bs]? = some (.cells #[.slice (some ⟨g', 0, none⟩) (ss.length + 1) cap'] 128 (0, 0)) := by rw [← hw5]; exact heap_setCell_box_a _ hv4
  have hL5 := (hg5.block l (lt_of_block hL4) (fun e => hBl (by cases e; rfl))).trans hL4
  have hK5 := (hg5.block D (lt_of_block hK4) (fun e => hDB (by cases e; rfl))).trans hK4
  have hrow5 : Own encKz 29 w5 w0.heap.size (.slice (some ⟨g', 0, none⟩) (ss.length + 1) cap') (ss ++ [x]) := hown4.kept hg5 (ownsRow_ne_a hown4 hv4 (box_no _))
  have hl5 : l < w5.heap.size := lt_of_block hL5
  have hb4 : Below w0.heap.size w0 w4 := (hb3.alloc hb3.size _).grown hg4' (by have := hb3.size; simp; omega) (fun k e => (hrow3.lt k e).1)
  have hb5 : Below w0.heap.size w0 w5 := hb4.grown hg5 hb4.size (fun k e => by cases e; exact h0B)
  have hk5 : KeepsWalks W w5 := ((hk3.trans (KeepsWalks.alloc _ _)).trans (KeepsWalks.of_grownBy hg4' (ownsRow_not_walk_a (Own.below hrow3 ((Below.refl _ w3).alloc (Nat.le_refl _) _))))).trans (by rw [← hw5]; exact KeepsWalks.setCell _ _ _)
  clear hw5
  refine ⟨_, _, run_endRound none hL5, rfl, ⟨⟨_, (World.putObj_heap_other hBl).trans hv5, ?_⟩, World.putObj_heap_same hl5, (World.putObj_heap_other hDl).trans hK5, hb5.grown (grownBy_putObj_a _ _ _) hb5.size (fun k e => by cases e; exact h0l)⟩, hk5.trans (KeepsWalks.putObj _ hL5 rfl)⟩
  exact Own.same hrow5 fun g hg => World.putObj_heap_other (fun e => by subst e; exact ownKey_ne hrow5 hL5 (loop_no _) hg.symm)

set_option maxRecDepth 100000 in
set_option maxHeartbeats 2000000 in
theorem appendSeq_in (n : Nat) (g : Nat) (lb : Array Value) (eg : ∀ args w, (callFunc g args).run Tryz.prog w = .ok (.enter g args) w)
    (S : List Kz → Prop) (N : Nat) (hN : N ≤ 1000000) (w : World) (hseq : SeqGives Fence.wide (n - 1) Tryz.prog g lb (fun K : Kz => kv K.k) S N w) (hn : 1 ≤ n) :
    CallsIn Fence.wide n Tryz.prog 99 #[.slice none 0 0, .func (.func g) #[] lb] w fun e w' => ∃ (v : Value) (ss : List Kz), e = .returned v ∧ S ss ∧ Own encKz 29 w' w.heap.size v ss ∧ Below w.heap.size w w' := by
  refine callsIn_of_wp_marks Tryz.func99 rfl trivial ?_ rfl
  simp only [Tryz.ntmps99, List.size_toArray, List.length_cons, List.length_nil, Nat.reduceAdd, Nat.reduceSub, Array.replicate_succ, Array.replicate_zero, List.push_toArray, List.append_toArray, List.nil_append, List.cons_append]
  gi_wp2
  refine wpIn_rangeFunc ?_
  intro fn hfn
  rw [show Fence.wide.round = none from rfl]
  obtain ⟨W0, hW0⟩ : ∃ W0, w.alloc (.cells #[.slice none 0 0] 128) = W0 := ⟨_, rfl⟩
  have hs0 : W0.heap.size = w.heap.size + 1 := by rw [← hW0]; simp
  have hv0 : W0.heap[w.heap.size]? = some (.cells #[.slice none 0 0] 128 (0, 0)) := by rw [← hW0]; exact World.alloc_heap_new w _
  have hb0 : Below w.heap.size w W0 := by rw [← hW0]; exact (Below.refl _ w).alloc (Nat.le_refl _) _
  rw [hW0]
  obtain ⟨W1, hW1⟩ : ∃ W1, (W0.alloc (.deferred (some []))).alloc (.loop (apRec fn (.func (.func g) #[] lb) w.heap.size W0.heap.size .ready none)) = W1 := ⟨_, rfl⟩
  have hold : ∀ k, k < W0.heap.size → W1.heap[k]? = W0.heap[k]? := fun k hk => by
    rw [← hW1]; exact (Below.heap_alloc _ _ k (by simp; omega)).trans (Below.heap_alloc _ _ k hk)
  have hb1 : Below w.heap.size w W1 := by rw [← hW1]; exact (hb0.alloc hb0.size _).alloc (by have := hb0.size; simp; omega) _
  have hs1 : W1.heap.size = W0.heap.size + 2 := by rw [← hW1]; simp
  have hM : ApAt w fn (.func (.func g) #[] lb) w.heap.size (W0.heap.size + 1) W0.heap.size [] W1 :=
    ⟨⟨_, (hold w.heap.size (by omega)).trans hv0, Own.nil _ _ _ _⟩,
     by rw [← hW1]; have := World.alloc_heap_new (W0.alloc (.deferred (some []))) (.loop (apRec fn (.func (.func g) #[] lb) w.heap.size W0.heap.size .ready none)); rwa [World.size_alloc] at this,
     by rw [← hW1]; exact (Below.heap_alloc _ _ _ (by simp)).trans (World.alloc_heap_new W0 _), hb1⟩
  refine ⟨W0.heap.size + 1, [{ target := .collected W0.heap.size, args := #[] }], W1, { target := .fn (.func g) lb, args := #[.func (.yield (W0.heap.size + 1)) #[] #[]] }, W1, g,
    #[.func (.yield (W0.heap.size + 1)) #[] #[]] ++ lb, W1, ?_, ?_, ?_, ?_, fun _ => hn, ?_⟩
  · rw [← hW1]; exact run_enterLoop_outer _ _ _ _ _
  · simp [resolve, go_sem]
  · intro f' hf'; trivial
  · simp [invoke, go_sem, eg]
  · refine (hseq (W0.heap.size + 1) (ApAt w fn (.func (.func g) #[] lb) w.heap.size (W0.heap.size + 1) W0.heap.size) W1 hb1 (ap_abides _ _ _ _ _ _ _ hb1.size)
      (fun pre x W hJ hl => apYield (n - 1 - 1) w fn _ w.heap.size (W0.heap.size + 1) W0.heap.size (by omega) (by omega) (by omega) (Nat.le_refl _) (by omega) pre x W hJ (by omega)) hM).mono ?_
    rintro e W2 ⟨⟨v0, rfl⟩, ss, hS, h2⟩
    obtain ⟨v, hv, hrow⟩ := h2.box
    have hend := run_endLoop (P := Tryz.prog) h2.L (by simp [apRec])
    obtain ⟨W3, hW3⟩ : ∃ W3, W2.putObj (W0.heap.size + 1) (.loop { apRec fn (.func (.func g) #[] lb) w.heap.size W0.heap.size .ready none with state := .exhausted }) = W3 := ⟨_, rfl⟩
    rw [hW3] at hend
    have hg3 : W2.grownBy W3 (some (W0.heap.size + 1)) := by rw [← hW3]; exact grownBy_putObj_a _ _ _
    have hv3 : W3.heap[w.heap.size]? = some (.cells #[v] 128 (0, 0)) := by rw [← hW3]; exact (World.putObj_heap_other (by omega)).trans hv
    have hK3 : W3.heap[W0.heap.size]? = some (.deferred (some [])) := by rw [← hW3]; exact (World.putObj_heap_other (by omega)).trans h2.K
    have hrow3 : Own encKz 29 W3 w.heap.size v ss := hrow.kept hg3 (ownsRow_ne_a hrow h2.L (loop_no _))
    have hb3 : Below w.heap.size w W3 := h2.below.grown hg3 h2.below.size (fun k e => by cases e; omega)
    obtain ⟨hc3, hf3⟩ := cell_of_box_a hv3
    clear hW3
    refine ⟨none, W3, hend, ?_⟩
    gi_wp2
    rw [← hs0]
    refine ⟨by simp, .inl ⟨_, _, rfl, run_takeDeferred hK3, ?_⟩⟩
    exact ⟨_, results_tmp rfl _ _ _, v, ss, rfl, hS, hrow3.kept (grownBy_putObj_a _ _ _) (ownsRow_ne_a hrow3 hK3 (def_no _)), hb3.grown (grownBy_putObj_a _ _ _) hb3.size (fun k e => by cases e; omega)⟩
set_option maxHeartbeats 1000000 in
theorem collect_in (n : Nat) (g : Nat) (lb : Array Value) (eg : ∀ args w, (callFunc g args).run Tryz.prog w = .ok (.enter g args) w)
    (S : List Kz → Prop) (N : Nat) (hN : N ≤ 1000000) (w : World) (hseq : SeqGives Fence.wide (n - 1) Tryz.prog g lb (fun K : Kz => kv K.k) S N w) (hn : 1 ≤ n) :
    Calls Tryz.prog 87 #[.func (.func g) #[] lb] w fun e w' => ∃ (v : Value) (ss : List Kz), e = .returned v ∧ S ss ∧ Own encKz 29 w' w.heap.size v ss ∧ Below w.heap.size w w' := by
  have hA := callsIn_wide.1 (appendSeq_in n g lb eg S N hN w hseq hn)
  go_enter Tryz.func87, Tryz.ntmps87
  go_wp2_with (go_at_call 99; refine hA.mono ?_; rintro e w1 ⟨v, ss, rfl, h1, h2, h3⟩)
  go_ret
  exact ⟨v, ss, rfl, h1, h2, h3⟩
end Go.Proofs.YtbbelhkdpmcoeaaGreat
/- The calls that make keys: what each comes to. -/
namespace Go.Proofs.YtbbelhkdpmcoeaaGreat
set_option linter.unusedVariables false
set_option maxRecDepth 100000
open Go.RowKit

theorem ret_key {fn : Func} {R : Ending → World → Prop} {a : Act} {w : World} {p : Tmp} (hr : fn.results = #[.cell p 29]) (b : Nat) (K : List UInt8) (hp : a.tmps.getD p undef = .pointer (some ⟨b, 0, none⟩)) (hK : Has w b K)
    (hd : a.defers = []) (hR : R (.returned (kv K)) w) : bodyPost Tryz.prog fn R .ret a w :=
  bodyPost_ret (results_cell_row hr _ w b _ _ _ _ hp hK.blk Tryz.underlying29 rfl (by rw [bc_size, hK.len]; exact Tryz.key_info)) hd hR
theorem ret_key_ok {fn : Func} {R : Ending → World → Prop} {a : Act} {w : World} {p u : Tmp} (hr : fn.results = #[.cell p 29, .tmp u]) (b : Nat) (K : List UInt8) (v : Value) (hp : a.tmps.getD p undef = .pointer (some ⟨b, 0, none⟩)) (hv : a.tmps.getD u undef = v) (hK : Has w b K)
    (hd : a.defers = []) (hR : R (.returned (.tuple #[kv K, v])) w) : bodyPost Tryz.prog fn R .ret a w := by
  refine bodyPost_ret (v := .tuple #[kv K, v]) ?_ hd hR
  have hl := run_loadVar_row (P := Tryz.prog) w b 29 29 _ _ _ hK.blk Tryz.underlying29 rfl (by rw [bc_size, hK.len]; exact Tryz.key_info)
  rw [results_cell_tmp hr, hp, hv]
  simp [asAddr, Result.andThen, hl]

/-- The least key of a number and a kind; the keys of an inode, an entry, a chunk. -/
def headK (n : Nat) (k : UInt8) : List UInt8 := be n 4 ++ k :: zs 19
def entryK (n : Nat) (s : List UInt8) : List UInt8 := be n 4 ++ 2 :: (s ++ zs (18 - s.length) ++ [UInt8.ofNat s.length])
def chunkK (n p : Nat) : List UInt8 := be n 4 ++ 3 :: (zs 15 ++ be p 4)
theorem headK_length (n : Nat) (k : UInt8) : (headK n k).length = 24 := by simp [headK, be_length, zs_length]
theorem entryK_length (n : Nat) (s : List UInt8) (h : s.length ≤ 18) : (entryK n s).length = 24 := by simp [entryK, be_length, zs_length]; omega
theorem chunkK_length (n p : Nat) : (chunkK n p).length = 24 := by simp [chunkK, be_length, zs_length]

theorem zero_has (w : World) (b : Nat) (hb : b = w.heap.size) : Has (w.alloc (.cells #[.int .u8 0, .int .u8 0, .int .u8 0, .int .u8 0, .int .u8 0, .int .u8 0, .int .u8 0, .int .u8 0, .int .u8 0, .int .u8 0, .int .u8 0, .int .u8 0, .int .u8 0, .int .u8 0, .int .u8 0, .int .u8 0, .int .u8 0, .int .u8 0, .int .u8 0, .int .u8 0, .int .u8 0, .int .u8 0, .int .u8 0, .int .u8 0] 29)) b (zs 24) := hb ▸ Has.new w (zs 24) rfl

/-- Numbers, names and places that keys are made of. -/
def okN (n : Int) : Bool := decide (1 ≤ n ∧ n < 1073741824)
def okP (p : Int) : Bool := decide (0 ≤ p ∧ p ≤ 4294967295)
def okS (s : List UInt8) : Bool := decide (1 ≤ s.length ∧ s.length ≤ 18 ∧ (0 : UInt8) ∉ s)
def inodeR (n : Int) : List UInt8 := if okN n then headK n.toNat 1 else zs 24
def entryR (n : Int) (s : List UInt8) : List UInt8 := if okN n && okS s then entryK n.toNat s else zs 24
def chunkR (n p : Int) : List UInt8 := if okN n && okP p then chunkK n.toNat p.toNat else zs 24
theorem inodeR_length (n : Int) : (inodeR n).length = 24 := by unfold inodeR; split <;> simp [headK_length, zs_length]
theorem entryR_length (n : Int) (s : List UInt8) : (entryR n s).length = 24 := by
  unfold entryR
  split
  · rename_i h
    simp only [okS, Bool.and_eq_true, decide_eq_true_eq] at h
    exact entryK_length _ _ h.2.2.1
  · exact zs_length 24
theorem chunkR_length (n p : Int) : (chunkR n p).length = 24 := by unfold chunkR; split <;> simp [chunkK_length, zs_length]

theorem indexByte_neg (l : List UInt8) (c : UInt8) : decide (Lib.indexByte l c < 0) = decide (c ∉ l) := by
  induction l with
  | nil => simp [Lib.indexByte]
  | cons b l ih =>
    have hg := Lib.indexByte_ge l c
    unfold Lib.indexByte
    by_cases hb : b = c
    · subst hb; simp
    · have hb' : (b == c) = false := by simpa using hb
      have hc : ¬ c = b := fun e => hb e.symm
      simp only [decide_eq_decide] at ih ⊢
      rw [hb']
      simp only [Bool.false_eq_true, if_false, List.mem_cons, hc, false_or]
      rw [← ih]
      by_cases h1 : Lib.indexByte l c = -1
      · simp [h1]
      · have : (Lib.indexByte l c == -1) = false := by simpa using h1
        rw [this]
        simp only [Bool.false_eq_true, if_false]
        omega
theorem bc_map (l : List UInt8) : Lib.byteCells l = bc l := rfl
theorem bc_take (l : List UInt8) (k : Nat) : (bc l).take k = bc (l.take k) := by simp [bc]
theorem bc_drop' (l : List UInt8) (k : Nat) : (bc l).drop k = bc (l.drop k) := by simp [bc]
theorem entry_list (n : Nat) (s : List UInt8) (h : s.length ≤ 18) : ((headK n 2).take 5 ++ s ++ (headK n 2).drop (5 + s.length)).set 23 (UInt8.ofNat s.length) = entryK n s := by
  have h1 : (headK n 2).take 5 = be n 4 ++ [2] := rfl
  have h2 : (headK n 2).drop (5 + s.length) = zs (18 - s.length) ++ [0] := by
    have e : headK n 2 = be n 4 ++ [2] ++ zs 19 := by simp [headK]
    rw [e, List.drop_append, List.drop_of_length_le (by simp [be_length])]
    simp only [List.length_append, be_length, List.length_cons, List.length_nil, List.nil_append, zs, List.drop_replicate]
    rw [show 19 - (5 + s.length - (4 + (0 + 1))) = (18 - s.length) + 1 by omega, List.replicate_succ']
  rw [h1, h2, entryK, List.set_append_right _ _ (by simp [be_length]; omega), List.set_append_right _ _ (by simp [be_length, zs]; omega)]
  simp [be_length, zs, List.append_assoc]
  rw [show 23 - (4 + (s.length + 1)) - (18 - s.length) = 0 by omega]
  simp

theorem Has.copied {w : World} {b : Nat} {K : List UInt8} (h : Has w b K) (o : Nat) (s : ByteArray) (ho : o + s.size ≤ 24) :
    Has (w.setRow b ((bc K).toArray.toList.take o ++ Lib.byteCells s.data.toList ++ (bc K).toArray.toList.drop (o + s.size)).toArray) b (K.take o ++ s.data.toList ++ K.drop (o + s.data.toList.length)) := by
  have hs : s.size = s.data.toList.length := rfl
  have e : ((bc K).toArray.toList.take o ++ Lib.byteCells s.data.toList ++ (bc K).toArray.toList.drop (o + s.size)) = bc (K.take o ++ s.data.toList ++ K.drop (o + s.data.toList.length)) := by
    rw [bc_map, bc_append, bc_append, ← bc_take, ← bc_drop', hs]
  rw [e]
  refine h.setRow _ ?_
  have := h.len
  simp only [List.length_append, List.length_take, List.length_drop]
  omega
theorem chunk_list (n p : Nat) : (headK n 3).take 20 ++ be p 4 ++ (headK n 3).drop (20 + 4) = chunkK n p := rfl
end Go.Proofs.YtbbelhkdpmcoeaaGreat
