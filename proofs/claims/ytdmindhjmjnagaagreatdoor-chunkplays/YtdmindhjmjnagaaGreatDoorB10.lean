import Derived.Test.YtdmindhjmjnagaaGreatDoorB06
import Derived.Shelf.SlIter.Sorted
import Derived.RangeFuncBound
import Derived.Test.YtdmindhjmjnagaaGreatDoorB02
/- SqA Cmp9 SqB -/
namespace Go.Proofs.YtdmindhjmjnagaaGreatDoor
set_option linter.unusedVariables false
set_option maxRecDepth 1000000
set_option maxHeartbeats 32000000
section
open Go.RowKit
def encKz : Enc Kz 24 := ⟨fun x => bc x.k, fun x => by rw [bc_length, x.h], fun x => bc_one x.k⟩
theorem rowK : RowTy Tryz.prog encKz 180 54 24 := ⟨Tryz.underlying180, ⟨kv (zs 24), by kernel_rfl, by simp [Value.cells, bc_length, zs_length]⟩, by decide⟩
section
variable {F : Fence} {n : Nat} {ops : Array Oper} {rest : List Oper} {o : Oper} {a : Act} {w : World} {Q : Exit → Act → World → Prop}
theorem loadIn_key (hg : o.guard = none) (x : Operand) (ho : o.op = .load 54 x) (b : Nat) (hx : a.eval x = .pointer (some ⟨b, 0, none⟩)) (K : List UInt8) (hK : Has w b K)
    (h : wpListIn F n Tryz.prog ops Q rest (a.put o.dst (kv K)) w) : wpListIn F n Tryz.prog ops Q (o :: rest) a w := by
 refine wpListIn_plain hg fun K' hK' => ?_
 unfold Oper.wpIn
 refine ⟨by simp [Oper.about, ho], ?_⟩
 rw [Oper.semAt_plain F _ _ (by rw [ho]; intro c hc; cases hc)]
 unfold execOp
 simp only [ho, hx, Instr.loadAt, Instr.sureAddr, Sem.run_bind, Sem.run_pure, Result.andThen_ok, run_loadVar_row w b _ _ _ _ _ hK.blk Tryz.underlying54 rfl (by rw [bc_size, hK.len]; exact Tryz.key_info)]
 exact hK' _ _ h
theorem storeIn_key (hg : o.guard = none) (x y : Operand) (ho : o.op = .store 54 x y) (b : Nat) (hx : a.eval x = .pointer (some ⟨b, 0, none⟩)) (L : List UInt8) (hy : a.eval y = kv L) (hL : L.length = 24) (K : List UInt8) (hK : Has w b K)
    (h : ∀ w', Has w' b L → Touch b none w w' → w'.heap.size = w.heap.size → wpListIn F n Tryz.prog ops Q rest (a.put o.dst undef) w') : wpListIn F n Tryz.prog ops Q (o :: rest) a w := by
 refine wpListIn_plain hg fun K' hK' => ?_
 unfold Oper.wpIn
 refine ⟨by simp [Oper.about, ho], ?_⟩
 rw [Oper.semAt_plain F _ _ (by rw [ho]; intro c hc; cases hc)]
 unfold execOp
 simp only [ho, hx, hy, Instr.storeAt, Instr.sureAddr, Sem.run_bind, Sem.run_pure, Result.andThen_ok, run_storeVar_row w b _ 54 _ _ hK.blk (by rw [bc_size, hL]; exact Tryz.key_info) (by rw [bc_size, bc_size, hL, hK.len]) (bc_all L)]
 exact hK' _ _ (h _ (hK.setRow L hL) (touch_setRow _ _ _) (by simp))
theorem buildIn_key (hg : o.guard = none) (x : Operand) (ho : o.op = .buildSlice 180 1 #[(0, x)]) (K : List UInt8) (hK : K.length = 24) (hx : a.eval x = kv K)
    (h : wpListIn F n Tryz.prog ops Q rest (a.put o.dst (.slice (some ⟨w.heap.size, 0, none⟩) 1 1)) (w.alloc (.cells (bc K).toArray 54))) : wpListIn F n Tryz.prog ops Q (o :: rest) a w := by
 obtain ⟨i, z, hi, hz, hsz, hby, hzc⟩ := rowK.parts
 refine wpListIn_plain hg fun K' hK' => ?_
 unfold Oper.wpIn
 refine ⟨by simp [Oper.about, ho], ?_⟩
 rw [Oper.semAt_plain F _ _ (by rw [ho]; intro c hc; cases hc)]
 unfold execOp
 have hf : Instr.fill (fun i' => some (i' * i.size, i.size)) ((Array.range (1 * i.size)).map (z.cells[· % z.cells.size]!)) (#[(0, x)].map fun (i, x) => (i, a.eval x)).toList = some (bc K).toArray := by
  have := fill_els encKz [⟨K, hK⟩] 0 ((Array.range (1 * 24)).map (z.cells[· % z.cells.size]!)) (by simp)
  rw [hsz]
  simpa [hx, Enc.flat, encKz] using this
 simp only [ho, Sem.run_bind, run_buildSlice w 180 54 1 _ (bc K).toArray i z Tryz.underlying180 hi hz (by rw [hsz]; omega) (by rw [hsz]; omega) hf, Result.andThen_ok]
 exact hK' _ _ h
end
def apAssign : Code := (Code.region 2 #[{ dst := some 5, op := Op.alloc 54, type := 0, pos := "iter.go:51", after := #[], guard := none }, { dst := none, op := Op.store 54 (Operand.tmp 5) (Operand.tmp 7), type := 0, pos := "iter.go:51", after := #[{ on := 0, ground := Ground.data }, { on := 0, ground := Ground.phase }], guard := none }] false)
def apBody : Code := (Code.block 1 (Code.region 3 #[{ dst := some 8, op := Op.load 180 (Operand.tmp 2), type := 180, pos := "iter.go:52", after := #[], guard := none },
 { dst := some 9, op := Op.load 54 (Operand.tmp 5), type := 54, pos := "iter.go:52", after := #[], guard := none },
 { dst := some 10, op := Op.buildSlice 180 1 #[(0, Operand.tmp 9)], type := 180, pos := "iter.go:52", after := #[{ on := 1, ground := Ground.data }], guard := none },
 { dst := some 11, op := Op.call { callee := Callee.builtin Builtin.append, args := #[Operand.tmp 8, Operand.tmp 10], argTypes := #[180, 180] }, type := 180, pos := "iter.go:52", after := #[{ on := 0, ground := Ground.data }, { on := 2, ground := Ground.data }], guard := none },
 { dst := none, op := Op.store 180 (Operand.tmp 2) (Operand.tmp 11), type := 0, pos := "iter.go:52", after := #[{ on := 3, ground := Ground.data }, { on := 3, ground := Ground.chain }, { on := 0, ground := Ground.phase }, { on := 1, ground := Ground.phase }, { on := 2, ground := Ground.phase }, { on := 3, ground := Ground.phase }], guard := none }] false))
def apRec (fn : FuncId) (sv : Value) (Bs D : Nat) (st : LoopState) (pend : Option Code) : Loop :=
 { state := st, pending := pend, fn, tmps := #[.slice none 0 0, sv, .pointer (some ⟨Bs, 0, none⟩), undef, .slice none 0 0, undef, sv, undef, undef, undef, undef, undef, undef], params := #[7], assign := apAssign, body := apBody, defers := D }
structure ApAt (w0 : World) (fn : FuncId) (sv : Value) (Bs l D : Nat) (ss : List Kz) (W : World) : Prop where
 box : ∃ v, W.heap[Bs]? = some (.cells #[v] 180 (0, 0)) ∧ Own encKz 54 W w0.heap.size v ss
 L : W.heap[l]? = some (.loop (apRec fn sv Bs D .ready none))
 K : W.heap[D]? = some (.deferred (some []))
 below : Below w0.heap.size w0 W
theorem ap_abides (w0 : World) (fn : FuncId) (sv : Value) (Bs l D B : Nat) (hB : w0.heap.size ≤ B) : AbidesFrom B (ApAt w0 fn sv Bs l D) := fun s W W' row h hg hrow => by
 have hrow' : ∀ r, row = some r → ∃ o : Obj, W.heap[r]? = some o ∧ o.isWalk = true := fun r e => (hrow r e).2
 obtain ⟨v, hv, hr⟩ := h.box
 exact ⟨⟨v, (grownBy_keeps hg hrow' hv rfl).trans hv, ownsRow_abides_a hr hg hrow'⟩, (grownBy_keeps hg hrow' h.L rfl).trans h.L, (grownBy_keeps hg hrow' h.K rfl).trans h.K,
   h.below.grown hg h.below.size (fun k e => Nat.le_trans hB (hrow k e).1)⟩
theorem ne_ty : (180 : TypeId) ≠ 54 := by decide
theorem box_no (v : Value) : ∀ cur, (Obj.cells #[v] 180 (0, 0)) ≠ .cells cur 54 (0, 0) := fun cur e => ne_ty (Obj.cells.inj e).2.1
theorem loop_no (r : Loop) : ∀ cur, (Obj.loop r) ≠ .cells cur 54 (0, 0) := fun cur e => by cases e
theorem def_no (d : Option (List Deferred)) : ∀ cur, (Obj.deferred d) ≠ .cells cur 54 (0, 0) := fun cur e => by cases e
theorem ownKey_ne {W : World} {base : Nat} {v : Value} {ss : List Kz} (h : Own encKz 54 W base v ss) {j : Nat} {o : Obj} (hj : W.heap[j]? = some o) (hno : ∀ cur, o ≠ .cells cur 54 (0, 0)) : some j ≠ v.ownBlock := by
 rcases ownsRow_ne_a h hj hno with e | e
 · rw [e]; simp
 · exact fun e' => e e'.symm
theorem apYield (m : Nat) (w0 : World) (fn : FuncId) (sv : Value) (Bs l D : Nat) (hBl : Bs ≠ l) (hDl : D ≠ l) (hDB : D ≠ Bs) (h0B : w0.heap.size ≤ Bs) (h0l : w0.heap.size ≤ l)
    (ss : List Kz) (x : Kz) (W : World) (h : ApAt w0 fn sv Bs l D ss W) (hlen : ss.length < 1000000) :
    YieldAt Fence.wide m Tryz.prog l #[kv x.k] W fun e W' => e = .returned (.bool true) ∧ ApAt w0 fn sv Bs l D (ss ++ [x]) W' ∧ KeepsWalks W W' := by
 obtain ⟨i0, z0, hi, hz0, hz1, hz2, hzc⟩ := rowK.parts
 obtain ⟨v, hv, hrow⟩ := h.box
 refine ⟨fn, #[.slice none 0 0, sv, .pointer (some ⟨Bs, 0, none⟩), undef, .slice none 0 0, undef, sv, kv x.k, undef, undef, undef, undef, undef], apAssign, apBody, by simpa [apRec] using run_yield (P := Tryz.prog) (args := #[kv x.k]) h.L rfl, roundIn_of_wpIn trivial ?_⟩
 have hBlt : Bs < W.heap.size := lt_of_block hv
 have hl : l < W.heap.size := lt_of_block h.L
 have hDlt : D < W.heap.size := lt_of_block h.K
 unfold apAssign
 gi_wp2_with (first
  | (refine storeIn_key rfl _ _ rfl W.heap.size rfl x.k rfl x.h (zs 24) (Has.new W (zs 24) rfl) ?_
     intro w2 hw2 t2 s2
     have B2 : Below W.heap.size W w2 := ((Below.refl _ W).alloc (Nat.le_refl _) _).trans (t2.below (by simp) (Nat.le_refl _) (by simp))
     have hL2 := (B2.block l hl).trans h.L
     have hbr := run_beginRound (P := Tryz.prog) hL2 rfl
     obtain ⟨w3, hW3⟩ : ∃ w3, w2.putObj l (.loop { apRec fn sv Bs D .ready none with state := .busy }) = w3 := ⟨_, rfl⟩
     rw [hW3] at hbr)
  | gi_round_op_a)
 have hs2 : W.heap.size < w2.heap.size := by rw [s2]; simp
 have hl2 : l < w2.heap.size := by omega
 have hrow2 := hrow.below B2
 have hg3 : w2.grownBy w3 (some l) := by rw [← hW3]; exact grownBy_putObj_a _ _ _
 have hw3 : Has w3 W.heap.size x.k := ⟨x.h, by rw [← hW3]; exact (World.putObj_heap_other (by omega)).trans hw2.blk⟩
 have hv3 : w3.heap[Bs]? = some (.cells #[v] 180 (0, 0)) := by rw [← hW3]; exact (World.putObj_heap_other hBl).trans ((B2.block Bs hBlt).trans hv)
 have hK3 : w3.heap[D]? = some (.deferred (some [])) := by rw [← hW3]; exact (World.putObj_heap_other hDl).trans ((B2.block D hDlt).trans h.K)
 have hL3 : w3.heap[l]? = some (.loop { apRec fn sv Bs D .ready none with state := .busy }) := by rw [← hW3]; exact World.putObj_heap_same hl2
 have hrow3 : Own encKz 54 w3 w0.heap.size v ss := hrow2.kept hg3 (ownsRow_ne_a hrow2 hL2 (loop_no _))
 have hb2 : Below w0.heap.size w0 w2 := h.below.trans (B2.mono h.below.size)
 have hb3 : Below w0.heap.size w0 w3 := hb2.grown hg3 hb2.size (fun k e => by cases e; exact h0l)
 have hk3 : KeepsWalks W w3 := (KeepsWalks.trans ⟨B2.size, fun k o ho _ => (B2.block k (lt_of_block ho)).trans ho⟩ (by rw [← hW3]; exact KeepsWalks.putObj _ hL2 rfl))
 obtain ⟨hc3, hf3⟩ := cell_of_box_a hv3
 have hBlt3 : Bs < w3.heap.size := lt_of_block hv3
 clear hv hrow hrow2 hb2 B2 t2 s2 hW3 hbr hL2 h hg3 hw2
 generalize W.heap.size = q at *
 unfold apBody
 gi_wp2_with (first
  | (refine loadIn_key rfl _ rfl q rfl x.k hw3 ?_)
  | (refine buildIn_key rfl _ rfl x.k x.h rfl ?_)
  | (gi_at_builtin
     refine wpListIn_append_own _ rfl _ _ 180 rfl w0.heap.size 54 i0 z0 24 24 Tryz.underlying180 hi hz0 hz1 hz2 hzc (by decide) _ _ _ rfl (Own.below hrow3 ((Below.refl _ w3).alloc (Nat.le_refl _) _)) ⟨w3.heap.size, 0, none⟩ 1 1 (bc x.k) rfl (by rw [bc_length, x.h]) (fun j u hu => by rw [Addr.add_mid, Nat.zero_add, cell_of_row _ _ _ _ _ _ (heap_alloc_new _ _)]; simpa using hu) (bc_one x.k) (by unfold maxLen; omega) (by omega) (by have := hb3.size; simp; omega) ?_
     intro v' w4 hown' hg4 hnil4
     have hv4 : w4.heap[Bs]? = some (.cells #[v] 180 (0, 0)) := (hg4.block Bs (by simp; omega) (ownKey_ne hrow3 hv3 (box_no _))).trans ((Below.heap_alloc _ _ Bs hBlt3).trans hv3)
     obtain ⟨hc4, hf4⟩ := cell_of_box_a hv4
     obtain ⟨g', cap', cur', rfl, _⟩ : ∃ g' cap' cur', v' = .slice (some ⟨g', 0, none⟩) (ss.length + 1) cap' ∧ w0.heap.size ≤ g' ∧ w4.heap[g']? = some (.cells cur' 54 (0, 0)) ∧ ss.length + 1 ≤ cap' ∧ cap' ≤ maxLen ∧ cur'.size = cap' * 24 ∧ cur'.toList.take ((ss.length + 1) * 24) = encKz.flat ss ++ bc x.k := by
      rcases hown'.2 with ⟨_, h0⟩ | h'
      · exact absurd h0 (by omega)
      · exact h'
     go_frame)
  | gi_round_op_a)
 have hg4' : (w3.alloc (.cells (bc x.k).toArray 54)).grownBy w4 v.ownBlock := hg4
 have hl3 : l < w3.heap.size := lt_of_block hL3
 have hD3 : D < w3.heap.size := lt_of_block hK3
 have hL4 := (hg4'.block l (by simp; omega) (ownKey_ne hrow3 hL3 (loop_no _))).trans ((Below.heap_alloc _ _ l hl3).trans hL3)
 have hK4 := (hg4'.block D (by simp; omega) (ownKey_ne hrow3 hK3 (def_no _))).trans ((Below.heap_alloc _ _ D hD3).trans hK3)
 have hown4 : Own encKz 54 w4 w0.heap.size (.slice (some ⟨g', 0, none⟩) (ss.length + 1) cap') (ss ++ [x]) := by
  show w4.ownsRow _ _ 24 _ (ss ++ [x]).length (encKz.flat (ss ++ [x]))
  rw [List.length_append, List.length_singleton, encKz.flat_append, encKz.flat_one]
  exact hown'
 obtain ⟨w5, hw5⟩ : ∃ w5, w4.setCell ⟨Bs, 0, none⟩ (.slice (some ⟨g', 0, none⟩) (ss.length + 1) cap') = w5 := ⟨_, rfl⟩
 rw [hw5]
 have hg5 : w4.grownBy w5 (some Bs) := by rw [← hw5]; exact grownBy_setCell0_a _ _ _
 have hv5 : w5.heap[Bs]? = some (.cells #[.slice (some ⟨g', 0, none⟩) (ss.length + 1) cap'] 180 (0, 0)) := by rw [← hw5]; exact heap_setCell_box_a _ hv4
 have hL5 := (hg5.block l (lt_of_block hL4) (fun e => hBl (by cases e; rfl))).trans hL4
 have hK5 := (hg5.block D (lt_of_block hK4) (fun e => hDB (by cases e; rfl))).trans hK4
 have hrow5 : Own encKz 54 w5 w0.heap.size (.slice (some ⟨g', 0, none⟩) (ss.length + 1) cap') (ss ++ [x]) := hown4.kept hg5 (ownsRow_ne_a hown4 hv4 (box_no _))
 have hl5 : l < w5.heap.size := lt_of_block hL5
 have hb4 : Below w0.heap.size w0 w4 := (hb3.alloc hb3.size _).grown hg4' (by have := hb3.size; simp; omega) (fun k e => (hrow3.lt k e).1)
 have hb5 : Below w0.heap.size w0 w5 := hb4.grown hg5 hb4.size (fun k e => by cases e; exact h0B)
 have hk5 : KeepsWalks W w5 := ((hk3.trans (KeepsWalks.alloc _ _)).trans (KeepsWalks.of_grownBy hg4' (ownsRow_not_walk_a (Own.below hrow3 ((Below.refl _ w3).alloc (Nat.le_refl _) _))))).trans (by rw [← hw5]; exact KeepsWalks.setCell _ _ _)
 clear hw5
 refine ⟨_, _, run_endRound none hL5, rfl, ⟨⟨_, (World.putObj_heap_other hBl).trans hv5, ?_⟩, World.putObj_heap_same hl5, (World.putObj_heap_other hDl).trans hK5, hb5.grown (grownBy_putObj_a _ _ _) hb5.size (fun k e => by cases e; exact h0l)⟩, hk5.trans (KeepsWalks.putObj _ hL5 rfl)⟩
 exact Own.same hrow5 fun g hg => World.putObj_heap_other (fun e => by subst e; exact ownKey_ne hrow5 hL5 (loop_no _) hg.symm)
theorem appendSeq_in (n : Nat) (g : Nat) (lb : Array Value) (eg : ∀ args w, (callFunc g args).run Tryz.prog w = .ok (.enter g args) w)
    (S : List Kz → Prop) (N : Nat) (hN : N ≤ 1000000) (w : World) (hseq : SeqGives Fence.wide (n - 1) Tryz.prog g lb (fun K : Kz => kv K.k) S N w) (hn : 1 ≤ n) :
    CallsIn Fence.wide n Tryz.prog 171 #[.slice none 0 0, .func (.func g) #[] lb] w fun e w' => ∃ (v : Value) (ss : List Kz), e = .returned v ∧ S ss ∧ Own encKz 54 w' w.heap.size v ss ∧ Below w.heap.size w w' := by
 refine callsIn_of_wp_marks Tryz.func171 rfl trivial ?_ rfl
 simp only [Tryz.ntmps171, List.size_toArray, List.length_cons, List.length_nil, Nat.reduceAdd, Nat.reduceSub, Array.replicate_succ, Array.replicate_zero, List.push_toArray, List.append_toArray, List.nil_append, List.cons_append]
 gi_wp2
 refine wpIn_rangeFunc ?_
 intro fn hfn
 rw [show Fence.wide.round = none from rfl]
 obtain ⟨W0, hW0⟩ : ∃ W0, w.alloc (.cells #[.slice none 0 0] 180) = W0 := ⟨_, rfl⟩
 have hs0 : W0.heap.size = w.heap.size + 1 := by rw [← hW0]; simp
 have hv0 : W0.heap[w.heap.size]? = some (.cells #[.slice none 0 0] 180 (0, 0)) := by rw [← hW0]; exact World.alloc_heap_new w _
 have hb0 : Below w.heap.size w W0 := by rw [← hW0]; exact (Below.refl _ w).alloc (Nat.le_refl _) _
 rw [hW0]
 obtain ⟨W1, hW1⟩ : ∃ W1, (W0.alloc (.deferred (some []))).alloc (.loop (apRec fn (.func (.func g) #[] lb) w.heap.size W0.heap.size .ready none)) = W1 := ⟨_, rfl⟩
 have hold : ∀ k, k < W0.heap.size → W1.heap[k]? = W0.heap[k]? := fun k hk => by
  rw [← hW1]; exact (Below.heap_alloc _ _ k (by simp; omega)).trans (Below.heap_alloc _ _ k hk)
 have hb1 : Below w.heap.size w W1 := by rw [← hW1]; exact (hb0.alloc hb0.size _).alloc (by have := hb0.size; simp; omega) _
 have hs1 : W1.heap.size = W0.heap.size + 2 := by rw [← hW1]; simp
 have hM : ApAt w fn (.func (.func g) #[] lb) w.heap.size (W0.heap.size + 1) W0.heap.size [] W1 :=
  ⟨⟨_, (hold w.heap.size (by omega)).trans hv0, Own.nil _ _ _ _⟩,
   by rw [← hW1]; have := World.alloc_heap_new (W0.alloc (.deferred (some []))) (.loop (apRec fn (.func (.func g) #[] lb) w.heap.size W0.heap.size .ready none)); rwa [World.size_alloc] at this,
   by rw [← hW1]; exact (Below.heap_alloc _ _ _ (by simp)).trans (World.alloc_heap_new W0 _), hb1⟩
 refine ⟨W0.heap.size + 1, [{ target := .collected W0.heap.size, args := #[] }], W1, { target := .fn (.func g) lb, args := #[.func (.yield (W0.heap.size + 1)) #[] #[]] }, W1, g,
   #[.func (.yield (W0.heap.size + 1)) #[] #[]] ++ lb, W1, ?_, ?_, ?_, ?_, fun _ => hn, ?_⟩
 · rw [← hW1]; exact run_enterLoop_outer _ _ _ _ _
 · simp [resolve, go_sem]
 · intro f' hf'; trivial
 · simp [invoke, go_sem, eg]
 · refine (hseq (W0.heap.size + 1) (ApAt w fn (.func (.func g) #[] lb) w.heap.size (W0.heap.size + 1) W0.heap.size) W1 hb1 (ap_abides _ _ _ _ _ _ _ hb1.size)
     (fun pre x W hJ hl => apYield (n - 1 - 1) w fn _ w.heap.size (W0.heap.size + 1) W0.heap.size (by omega) (by omega) (by omega) (Nat.le_refl _) (by omega) pre x W hJ (by omega)) hM).mono ?_
   rintro e W2 ⟨⟨v0, rfl⟩, ss, hS, h2⟩
   obtain ⟨v, hv, hrow⟩ := h2.box
   have hend := run_endLoop (P := Tryz.prog) h2.L (by simp [apRec])
   obtain ⟨W3, hW3⟩ : ∃ W3, W2.putObj (W0.heap.size + 1) (.loop { apRec fn (.func (.func g) #[] lb) w.heap.size W0.heap.size .ready none with state := .exhausted }) = W3 := ⟨_, rfl⟩
   rw [hW3] at hend
   have hg3 : W2.grownBy W3 (some (W0.heap.size + 1)) := by rw [← hW3]; exact grownBy_putObj_a _ _ _
   have hv3 : W3.heap[w.heap.size]? = some (.cells #[v] 180 (0, 0)) := by rw [← hW3]; exact (World.putObj_heap_other (by omega)).trans hv
   have hK3 : W3.heap[W0.heap.size]? = some (.deferred (some [])) := by rw [← hW3]; exact (World.putObj_heap_other (by omega)).trans h2.K
   have hrow3 : Own encKz 54 W3 w.heap.size v ss := hrow.kept hg3 (ownsRow_ne_a hrow h2.L (loop_no _))
   have hb3 : Below w.heap.size w W3 := h2.below.grown hg3 h2.below.size (fun k e => by cases e; omega)
   obtain ⟨hc3, hf3⟩ := cell_of_box_a hv3
   clear hW3
   refine ⟨none, W3, hend, ?_⟩
   gi_wp2
   rw [← hs0]
   refine ⟨by simp, .inl ⟨_, _, rfl, run_takeDeferred hK3, ?_⟩⟩
   exact ⟨_, results_tmp rfl _ _ _, v, ss, rfl, hS, hrow3.kept (grownBy_putObj_a _ _ _) (ownsRow_ne_a hrow3 hK3 (def_no _)), hb3.grown (grownBy_putObj_a _ _ _) hb3.size (fun k e => by cases e; omega)⟩
theorem collect_in (n : Nat) (g : Nat) (lb : Array Value) (eg : ∀ args w, (callFunc g args).run Tryz.prog w = .ok (.enter g args) w)
    (S : List Kz → Prop) (N : Nat) (hN : N ≤ 1000000) (w : World) (hseq : SeqGives Fence.wide (n - 1) Tryz.prog g lb (fun K : Kz => kv K.k) S N w) (hn : 1 ≤ n) :
    Calls Tryz.prog 158 #[.func (.func g) #[] lb] w fun e w' => ∃ (v : Value) (ss : List Kz), e = .returned v ∧ S ss ∧ Own encKz 54 w' w.heap.size v ss ∧ Below w.heap.size w w' := by
 have hA := callsIn_wide.1 (appendSeq_in n g lb eg S N hN w hseq hn)
 go_enter Tryz.func158, Tryz.ntmps158
 go_wp2_with (go_at_call 171; refine hA.mono ?_; rintro e w1 ⟨v, ss, rfl, h1, h2, h3⟩)
 go_ret
 exact ⟨v, ss, rfl, h1, h2, h3⟩
end
section
end
section
open Go.RowKit
def pcd (p : Pa) : List Value := bc p.k ++ [.string (str p.v)]
def ccd (c : Ch) : List Value := bc c.k ++ [.string (str c.v), .bool c.g]
def encP : Enc Pa 25 := ⟨pcd, fun p => by simp [pcd, bc_length, p.h], fun p v hv => by
 simp only [pcd, List.mem_append, List.mem_singleton] at hv
 rcases hv with h | rfl
 · exact bc_one _ v h
 · rfl⟩
def encC : Enc Ch 26 := ⟨ccd, fun p => by simp [ccd, bc_length, p.h], fun p v hv => by
 simp only [ccd, List.mem_append, List.mem_cons, List.not_mem_nil, or_false] at hv
 rcases hv with h | rfl | rfl
 · exact bc_one _ v h
 · rfl
 · rfl⟩
def pa0 : Pa := ⟨zs 24, rfl, []⟩
def ch0 : Ch := ⟨zs 24, rfl, [], false⟩
theorem rowP : RowTy Tryz.prog encP 41 62 40 := ⟨Tryz.underlying41, ⟨.agg (pcd pa0).toArray, by kernel_rfl, by simp [Value.cells, pcd, bc_length, pa0, zs_length]⟩, by decide⟩
theorem rowC : RowTy Tryz.prog encC 39 95 48 := ⟨Tryz.underlying39, ⟨.agg (ccd ch0).toArray, by kernel_rfl, by simp [Value.cells, ccd, bc_length, ch0, zs_length]⟩, by decide⟩
theorem elP : ElTy Tryz.prog encP 62 := ⟨⟨_, Tryz.underlying62, rfl, rfl⟩, by kernel_rfl⟩
theorem elC : ElTy Tryz.prog encC 95 := ⟨⟨_, Tryz.underlying95, rfl, rfl⟩, by kernel_rfl⟩
theorem elK : ElTy Tryz.prog encKz 54 := ⟨⟨_, Tryz.underlying54, rfl, rfl⟩, Tryz.key_info⟩
theorem tyP : MapTy encP 151 62 pa0 := ⟨Tryz.underlying151, fun w => by kernel_rfl⟩
theorem tyC : MapTy encC 73 95 ch0 := ⟨Tryz.underlying73, fun w => by kernel_rfl⟩
def KeysL {α : Type} (key : α → Int) (L : List α) (ss : List Kz) : Prop := ss.Nodup ∧ ∀ K, K ∈ ss ↔ (look key L K.n).isSome = true
theorem RangeA.walks {α : Type} {k : Nat} {E : Enc α k} {key : α → Int} {w w' : World} {b r n : Nat} {L : List α} {todo : Kz → Bool} {cnt : Nat} (h : RangeA E key w b r n L todo cnt) (hk : KeepsWalks w w') : RangeA E key w' b r n L todo cnt := by
 obtain ⟨⟨D, left, h1, h2⟩, h3, h4⟩ := h
 exact ⟨⟨D, left, h1.of_walks hk, h2⟩, h3, h4⟩
theorem RangeA.walk {α : Type} {k : Nat} {E : Enc α k} {key : α → Int} {w : World} {b r n : Nat} {L : List α} {todo : Kz → Bool} {cnt : Nat} (h : RangeA E key w b r n L todo cnt) : ∃ o : Obj, w.heap[r]? = some o ∧ o.isWalk = true := by
 obtain ⟨⟨D, left, h1, h2⟩, h3, h4⟩ := h
 exact h1.iter_walk
structure Got {α : Type} (key : α → Int) (L : List α) (todo : Kz → Bool) (ss : List Kz) : Prop where
 nodup : ss.Nodup
 mem : ∀ K, K ∈ ss ↔ (look key L K.n).isSome = true ∧ todo K = false
theorem Got.start {α : Type} (key : α → Int) (L : List α) : Got key L (fun K => (look key L K.n).isSome) [] := ⟨List.nodup_nil, fun K => by cases (look key L K.n).isSome <;> simp⟩
theorem Got.step {α : Type} {key : α → Int} {L : List α} {todo : Kz → Bool} {ss : List Kz} (h : Got key L todo ss) {K : Kz} (hK : todo K = true) {x : α} (hx : look key L K.n = some x) : Got key L (without todo K) (ss ++ [K]) := by
 refine ⟨List.nodup_append.2 ⟨h.nodup, by simp, fun a ha b hb => ?_⟩, fun J => ?_⟩
 · rw [List.mem_singleton] at hb
   subst hb
   intro e
   subst e
   have := ((h.mem a).1 ha).2
   rw [hK] at this
   cases this
 · rw [List.mem_append, List.mem_singleton, h.mem]
   unfold without
   by_cases e : J = K
   · subst e
     simp [hx]
   · simp [e, kz_ne e]
theorem Got.done {α : Type} {key : α → Int} {L : List α} {todo : Kz → Bool} {ss : List Kz} (h : Got key L todo ss) (ht : ∀ K, todo K = false) : KeysL key L ss := ⟨h.nodup, fun K => by rw [h.mem, ht]; simp⟩
theorem keys1P_in (n : Nat) (l Bm b nn : Nat) (L : List Pa) (J : List Kz → World → Prop)
    (hY : ∀ pre (x : Kz) W, J pre W → pre.length < nn → YieldAt Fence.wide (n - 1) Tryz.prog l #[kv x.k] W fun e W' => e = .returned (.bool true) ∧ J (pre ++ [x]) W' ∧ KeepsWalks W W')
    (W : World) (hJ : AbidesFrom W.heap.size J) (hm : W.cell? ⟨Bm, 0, none⟩ = some (.map (some b))) (hown : MapA encP Pa.n W b nn L) (h0 : J [] W) :
    CallsIn Fence.wide n Tryz.prog 164 #[.func (.yield l) #[] #[], .pointer (some ⟨Bm, 0, none⟩)] W fun e W' => (∃ v, e = .returned v) ∧ ∃ ss : List Kz, KeysL Pa.n L ss ∧ J ss W' := by
 refine callsIn_of_wp Tryz.func164 rfl trivial ?_ rfl
 simp only [Tryz.ntmps164, List.size_toArray, List.length_cons, List.length_nil, Nat.reduceAdd, Nat.reduceSub, Array.replicate_succ, Array.replicate_zero, List.push_toArray, List.append_toArray, List.nil_append, List.cons_append]
 gi_wp2_with (first
  | (gi_at_range; refine rangeIn_a tyP rfl _ rfl b nn L rfl hown ?_; intro w0 cnt0 hrg0 hc0 hg0 hs0)
  | gi_in)
 go_frame
 gi_loopw [3] (fun _ wr => ∃ (todo : Kz → Bool) (cnt : Nat) (ss : List Kz), RangeA encP Pa.n wr b W.heap.size nn L todo cnt ∧ ss.length + cnt ≤ nn ∧ Got Pa.n L todo ss ∧ J ss wr)
   (fun _ wr => wr.rangeLeft b W.heap.size)
 case atStart =>
  exact ⟨_, cnt0, [], hrg0, by simpa using hc0, Got.start _ _, hJ [] W w0 none h0 hg0 (fun r e => by cases e)⟩
 case round =>
  obtain ⟨todo, cnt, ss, hrg, hcs, hC, hJs⟩ := hrel
  have HWT : Hid (W.heap.size ≤ W.heap.size ∧ W.heap.size < wr.heap.size) := ⟨Nat.le_refl _, hrg.lt⟩
  gi_wp2_with (first
   | (gi_at_next; refine nextIn_a rfl _ rfl b W.heap.size nn L todo cnt rfl hrg ?_ ?_)
   | gi_in)
  · intro hl0
    gi_wp2
    go_end0
    exact ⟨⟨_, rfl⟩, ss, hC.done hl0, hJs⟩
  · intro K x w2 cnt2 hK hx hrg2 hlt hg2 hs2 hen
    have hJ2 : J ss w2 := hJ ss wr w2 (some W.heap.size) hJs hg2 (fun r e => by cases e; exact ⟨Nat.le_refl _, hrg.walk⟩)
    have HR2 : Hid (RangeA encP Pa.n w2 b W.heap.size nn L (without todo K) cnt2) := hrg2
    have HJ2 : Hid (J ss w2) := hJ2
    clear hs2 hrg2 hJ2 hg2
    gi_wp2_with (first
     | (refine storeIn_key rfl _ _ rfl w2.heap.size rfl K.k rfl K.h (zs 24) (Has.new w2 (zs 24) rfl) ?_
        intro w3 hw3 t3 s3
        have B3 : Below w2.heap.size w2 w3 := ((Below.refl _ w2).alloc (Nat.le_refl _) _).trans (t3.below (by simp) (Nat.le_refl _) (by simp))
        have hJ3 : J ss w3 := hJ ss w2 w3 none HJ2.out ⟨B3.os, B3.tape, B3.output, B3.size, fun i hi _ => B3.block i hi⟩ (fun r e => by cases e)
        have hrg3 := HR2.out.below B3 (Nat.le_refl _)
        obtain ⟨fn, tmps, assign, body, hy, hR⟩ := hY ss K w3 hJ3 (by omega)
        clear B3 t3 s3 hen)
     | (refine loadIn_key rfl _ rfl w2.heap.size rfl K.k hw3 ?_)
     | gi_in)
    refine ⟨(fun h => by cases h), hR.mono ?_⟩
    rintro e W3 ⟨rfl, hJ4, hk4⟩
    gi_wp2
    have hrg4 := hrg3.walks hk4
    go_roundw
    case rel => exact ⟨_, cnt2, ss ++ [K], hrg4, by simp; omega, hC.step hK hx, hJ4⟩
    case measure => rw [hrg4.left_eq, hrg.left_eq]; exact hlt
theorem keysP_gives (n : Nat) (Bm b nn : Nat) (L : List Pa) (w : World) (hBm : Bm < w.heap.size) (hm : w.cell? ⟨Bm, 0, none⟩ = some (.map (some b))) (hown : MapA encP Pa.n w b nn L) :
    SeqGives Fence.wide n Tryz.prog 164 #[.pointer (some ⟨Bm, 0, none⟩)] (fun K : Kz => kv K.k) (KeysL Pa.n L) nn w := fun l J W hW hJ hY h0 =>
 keys1P_in n l Bm b nn L J hY W hJ ((hW.cell (p := ⟨Bm, 0, none⟩) hBm).trans hm) (hown.below hW (Nat.le_refl _)) h0
theorem keysP_calls (mb : Option Nat) (w : World) :
    Calls Tryz.prog 137 #[.map mb] w fun e w' => e = .returned (.func (.func 164) #[] #[.pointer (some ⟨w.heap.size, 0, none⟩)]) ∧ w' = w.alloc (.cells #[.map mb] 151) := by
 go_enter Tryz.func137, Tryz.ntmps137
 go_wp2
 go_ret
 exact ⟨rfl, rfl⟩
theorem keys1C_in (n : Nat) (l Bm b nn : Nat) (L : List Ch) (J : List Kz → World → Prop)
    (hY : ∀ pre (x : Kz) W, J pre W → pre.length < nn → YieldAt Fence.wide (n - 1) Tryz.prog l #[kv x.k] W fun e W' => e = .returned (.bool true) ∧ J (pre ++ [x]) W' ∧ KeepsWalks W W')
    (W : World) (hJ : AbidesFrom W.heap.size J) (hm : W.cell? ⟨Bm, 0, none⟩ = some (.map (some b))) (hown : MapA encC Ch.n W b nn L) (h0 : J [] W) :
    CallsIn Fence.wide n Tryz.prog 160 #[.func (.yield l) #[] #[], .pointer (some ⟨Bm, 0, none⟩)] W fun e W' => (∃ v, e = .returned v) ∧ ∃ ss : List Kz, KeysL Ch.n L ss ∧ J ss W' := by
 refine callsIn_of_wp Tryz.func160 rfl trivial ?_ rfl
 simp only [Tryz.ntmps160, List.size_toArray, List.length_cons, List.length_nil, Nat.reduceAdd, Nat.reduceSub, Array.replicate_succ, Array.replicate_zero, List.push_toArray, List.append_toArray, List.nil_append, List.cons_append]
 gi_wp2_with (first
  | (gi_at_range; refine rangeIn_a tyC rfl _ rfl b nn L rfl hown ?_; intro w0 cnt0 hrg0 hc0 hg0 hs0)
  | gi_in)
 go_frame
 gi_loopw [3] (fun _ wr => ∃ (todo : Kz → Bool) (cnt : Nat) (ss : List Kz), RangeA encC Ch.n wr b W.heap.size nn L todo cnt ∧ ss.length + cnt ≤ nn ∧ Got Ch.n L todo ss ∧ J ss wr)
   (fun _ wr => wr.rangeLeft b W.heap.size)
 case atStart =>
  exact ⟨_, cnt0, [], hrg0, by simpa using hc0, Got.start _ _, hJ [] W w0 none h0 hg0 (fun r e => by cases e)⟩
 case round =>
  obtain ⟨todo, cnt, ss, hrg, hcs, hC, hJs⟩ := hrel
  have HWT : Hid (W.heap.size ≤ W.heap.size ∧ W.heap.size < wr.heap.size) := ⟨Nat.le_refl _, hrg.lt⟩
  gi_wp2_with (first
   | (gi_at_next; refine nextIn_a rfl _ rfl b W.heap.size nn L todo cnt rfl hrg ?_ ?_)
   | gi_in)
  · intro hl0
    gi_wp2
    go_end0
    exact ⟨⟨_, rfl⟩, ss, hC.done hl0, hJs⟩
  · intro K x w2 cnt2 hK hx hrg2 hlt hg2 hs2 hen
    have hJ2 : J ss w2 := hJ ss wr w2 (some W.heap.size) hJs hg2 (fun r e => by cases e; exact ⟨Nat.le_refl _, hrg.walk⟩)
    have HR2 : Hid (RangeA encC Ch.n w2 b W.heap.size nn L (without todo K) cnt2) := hrg2
    have HJ2 : Hid (J ss w2) := hJ2
    clear hs2 hrg2 hJ2 hg2
    gi_wp2_with (first
     | (refine storeIn_key rfl _ _ rfl w2.heap.size rfl K.k rfl K.h (zs 24) (Has.new w2 (zs 24) rfl) ?_
        intro w3 hw3 t3 s3
        have B3 : Below w2.heap.size w2 w3 := ((Below.refl _ w2).alloc (Nat.le_refl _) _).trans (t3.below (by simp) (Nat.le_refl _) (by simp))
        have hJ3 : J ss w3 := hJ ss w2 w3 none HJ2.out ⟨B3.os, B3.tape, B3.output, B3.size, fun i hi _ => B3.block i hi⟩ (fun r e => by cases e)
        have hrg3 := HR2.out.below B3 (Nat.le_refl _)
        obtain ⟨fn, tmps, assign, body, hy, hR⟩ := hY ss K w3 hJ3 (by omega)
        clear B3 t3 s3 hen)
     | (refine loadIn_key rfl _ rfl w2.heap.size rfl K.k hw3 ?_)
     | gi_in)
    refine ⟨(fun h => by cases h), hR.mono ?_⟩
    rintro e W3 ⟨rfl, hJ4, hk4⟩
    gi_wp2
    have hrg4 := hrg3.walks hk4
    go_roundw
    case rel => exact ⟨_, cnt2, ss ++ [K], hrg4, by simp; omega, hC.step hK hx, hJ4⟩
    case measure => rw [hrg4.left_eq, hrg.left_eq]; exact hlt
theorem keysC_gives (n : Nat) (Bm b nn : Nat) (L : List Ch) (w : World) (hBm : Bm < w.heap.size) (hm : w.cell? ⟨Bm, 0, none⟩ = some (.map (some b))) (hown : MapA encC Ch.n w b nn L) :
    SeqGives Fence.wide n Tryz.prog 160 #[.pointer (some ⟨Bm, 0, none⟩)] (fun K : Kz => kv K.k) (KeysL Ch.n L) nn w := fun l J W hW hJ hY h0 =>
 keys1C_in n l Bm b nn L J hY W hJ ((hW.cell (p := ⟨Bm, 0, none⟩) hBm).trans hm) (hown.below hW (Nat.le_refl _)) h0
theorem keysC_calls (mb : Option Nat) (w : World) :
    Calls Tryz.prog 128 #[.map mb] w fun e w' => e = .returned (.func (.func 160) #[] #[.pointer (some ⟨w.heap.size, 0, none⟩)]) ∧ w' = w.alloc (.cells #[.map mb] 73) := by
 go_enter Tryz.func128, Tryz.ntmps128
 go_wp2
 go_ret
 exact ⟨rfl, rfl⟩
end
end Go.Proofs.YtdmindhjmjnagaaGreatDoor
