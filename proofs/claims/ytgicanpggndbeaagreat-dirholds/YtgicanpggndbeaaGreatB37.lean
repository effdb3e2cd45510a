import Derived.Test.YtgicanpggndbeaaGreatB01
import Derived.Test.YtgicanpggndbeaaGreatB36
import Derived.Test.YtgicanpggndbeaaGreatB04
/- Calls through an interface whose dynamic type is a letter. -/
namespace Go.Proofs.YtgicanpggndbeaaGreat
set_option linter.unusedVariables false
set_option maxRecDepth 100000
open Go.RowKit

/-- A method of an interface's value: the function that it is, and the receiver. -/
def Meth (iv : Value) (name : String) (G : FuncId) (recv : Value) : Prop :=
  ∀ (w : World) (args : Array Value), (invoke (.fn (.method name) #[]) (#[iv] ++ args)).run Tryz.prog w = .ok (.enter G (#[recv] ++ args)) w
theorem wp_invoke {o : Oper} {a : Act} {w : World} {K : Act → World → Prop} {Q : Exit → Act → World → Prop} (r : Operand) (name : String) (args : Array Operand) (tys : Array TypeId) (ho : o.op = .call { callee := .invoke r name, args := args, argTypes := tys })
    (iv : Value) (G : FuncId) (recv : Value) (hr : a.eval r = iv) (hm : Meth iv name G recv) (vs : Array Value) (hv : args.map a.eval = vs) {R : Ending → World → Prop} (hc : Calls Tryz.prog G (#[recv] ++ vs) w R)
    (h : ∀ e w', R e w' → ∃ v, e = .returned v ∧ K (a.put o.dst v) w') : o.wp Tryz.prog a w K Q := by
  have e1 : (execOp a.eval o).run Tryz.prog w = .ok (.enter G (#[recv] ++ vs)) w := by
    have := hm w vs
    simp only [execOp, ho, resolve, hv, hr]
    simpa [Result.andThen] using this
  unfold Oper.wp
  rw [e1, Oper.upon_enter]
  refine hc.mono fun e w' he => ?_
  obtain ⟨v, rfl, hk⟩ := h e w' he
  exact hk
theorem invoke_op {ops : Array Oper} {rest : List Oper} {o : Oper} {a : Act} {w : World} {Q : Exit → Act → World → Prop} (r : Operand) (name : String) (x : Operand) (ty : TypeId) (ho : o.op = .call { callee := .invoke r name, args := #[x], argTypes := #[ty] }) (hg : o.guard = none)
    (iv : Value) (G : FuncId) (recv v : Value) (hr : a.eval r = iv) (hm : Meth iv name G recv) (hv : a.eval x = v) {R : Ending → World → Prop} (hc : Calls Tryz.prog G (#[recv] ++ #[v]) w R)
    (h : ∀ e w', R e w' → ∃ v, e = .returned v ∧ wpList Tryz.prog ops Q rest (a.put o.dst v) w') : wpList Tryz.prog ops Q (o :: rest) a w :=
  wpList_plain hg fun _ hK => wp_invoke r name #[x] #[ty] ho iv G recv hr hm #[v] (by simp [hv]) hc fun e w' he => by
    obtain ⟨v, h1, h2⟩ := h e w' he
    exact ⟨v, h1, hK _ _ h2⟩
theorem callFunc_go {f : FuncId} {fn : Func} {c : Code} (hf : Tryz.prog.funcs[f]? = some fn) (hname : (fn.name == "runtime.NumGoroutine") = false) (hb : fn.body = some c) (args : Array Value) (w : World) : (callFunc f args).run Tryz.prog w = .ok (.enter f args) w := by
  have h1 : fn.name ≠ "runtime.NumGoroutine" := by simpa using hname
  simp [callFunc, hf, h1, hb]
theorem meth_of {P : Program} {T : TypeId} {recv : Value} {name : String} {F : FuncId} (hm : ∀ w, (Go.method (P.types.size + Made.depth) T recv name).run P w = .ok (F, recv) w) (hc : ∀ args w, (callFunc F args).run P w = .ok (.enter F args) w) (w : World) (args : Array Value) :
    (invoke (.fn (.method name) #[]) (#[.iface T recv] ++ args)).run P w = .ok (.enter F (#[recv] ++ args)) w := by
  obtain ⟨l⟩ := args
  have h1 : (Go.method (P.types.size + 100) T recv name).run P w = .ok (F, recv) w := hm w
  have h2 := hc (#[recv] ++ ⟨l⟩) w
  simp only [invoke, callMethod, List.append_toArray, List.cons_append, List.nil_append, List.getElem?_toArray, List.getElem?_cons_zero] at h2 ⊢
  simp [go_sem, h1, h2, Result.andThen]
end Go.Proofs.YtgicanpggndbeaaGreat
/- Bases: whoever answers Get and Scan; what a call on a view over one leaves. -/
namespace Go.Proofs.YtgicanpggndbeaaGreat
set_option linter.unusedVariables false
set_option maxRecDepth 100000
open Go.RowKit

theorem wp_invoke1 {o : Oper} {a : Act} {w : World} {K : Act → World → Prop} {Q : Exit → Act → World → Prop} (r : Operand) (name : String) (x : Operand) (ty : TypeId) (ho : o.op = .call { callee := .invoke r name, args := #[x], argTypes := #[ty] })
    (iv : Value) (G : FuncId) (recv v : Value) (hr : a.eval r = iv) (hm : Meth iv name G recv) (hv : a.eval x = v) {R : Ending → World → Prop} (hc : Calls Tryz.prog G (#[recv] ++ #[v]) w R)
    (h : ∀ e w', R e w' → ∃ v, e = .returned v ∧ K (a.put o.dst v) w') : o.wp Tryz.prog a w K Q :=
  wp_invoke r name #[x] #[ty] ho iv G recv hr hm #[v] (by simp [hv]) hc h
/-- What Get of a base answers: a text, whether it is there, an error. -/
def gv (r : List UInt8 × Bool × Int) : Value := .tuple #[.string (str r.1), .bool r.2.1, .int .i64 r.2.2]
/-- Whoever is a base, that may be asked so many times more: it writes blocks of S alone. -/
structure Baser (lim : Nat) (S : Nat → Prop) (I : Nat → World → Prop) (iv : Value) (ge : Kz → List UInt8 × Bool × Int) (sn : Sp → List Pa × Int) : Prop where
  get : ∃ G recv, Meth iv "Get" G recv ∧ ∀ k w K, I (k + 1) w → Calls Tryz.prog G (#[recv] ++ #[kv K.k]) w fun e w' => e = .returned (gv (ge K)) ∧ I k w' ∧ FrV S w w'
  scan : ∃ G recv, Meth iv "Scan" G recv ∧ ∀ k w s, I (k + 1) w → Calls Tryz.prog G (#[recv] ++ #[spv s]) w fun e w' => ∃ v, e = .returned (.tuple #[v, .int .i64 (sn s).2]) ∧ Sl encP w' v (sn s).1 ∧ I k w' ∧ FrV S w w'
  mono : ∀ k w w', I k w → Below lim w w' → I k w'
  down : ∀ k w, I (k + 1) w → I k w
  low : ∀ i, S i → i < lim
  size : ∀ k w, I k w → lim ≤ w.heap.size
  len : ∀ s, (sn s).1.length ≤ 5000
  ifc : ∃ T rv, iv = .iface T rv
/-- No block. -/
def noB (_ : Nat) : Prop := False
theorem frv_no {w w' : World} (h : Below w.heap.size w w') : FrV noB w w' := FrV.of_below h

/-! A base of pairs. -/
def plGe (L : List Pa) (K : Kz) : List UInt8 × Bool × Int := match look Pa.n L K.n with
  | none => ([], false, 0)
  | some x => (x.v, true, 0)
theorem plGe_v (L : List Pa) (K : Kz) : gv (plGe L K) = gotV (look Pa.n L K.n) := by
  unfold plGe
  cases look Pa.n L K.n <;> rfl
theorem plain_methG (p : Nat) : Meth (.iface 69 (.pointer (some ⟨p, 0, none⟩))) "Get" 216 (.pointer (some ⟨p, 0, none⟩)) := fun w args => by
  exact meth_of (P := Tryz.prog) (fun w => by kernel_rfl) (fun args w => callFunc_go Tryz.func216 (by kernel_rfl) (by rfl) args w) w args
theorem plain_methS (p : Nat) : Meth (.iface 69 (.pointer (some ⟨p, 0, none⟩))) "Scan" 218 (.pointer (some ⟨p, 0, none⟩)) := fun w args => by
  exact meth_of (P := Tryz.prog) (fun w => by kernel_rfl) (fun args w => callFunc_go Tryz.func218 (by kernel_rfl) (by rfl) args w) w args
/-- A base of pairs whose parts lie below lim. -/
structure PlB (lim : Nat) (w : World) (p : Nat) (v : Value) (L : List Pa) : Prop where
  pl : ∃ y, PlIn y p v L ∧ y.heap.size ≤ lim ∧ Below y.heap.size y w
  le : lim ≤ w.heap.size
theorem PlB.inn {lim : Nat} {w : World} {p : Nat} {v : Value} {L : List Pa} (h : PlB lim w p v L) : PlIn w p v L := by
  obtain ⟨y, h1, h2, h3⟩ := h.pl
  exact h1.called h3
theorem PlB.of {w : World} {p : Nat} {v : Value} {L : List Pa} (h : PlIn w p v L) : PlB w.heap.size w p v L := ⟨⟨w, h, Nat.le_refl _, Below.refl _ _⟩, Nat.le_refl _⟩
theorem PlB.mono {lim : Nat} {w w' : World} {p : Nat} {v : Value} {L : List Pa} (h : PlB lim w p v L) (b : Below lim w w') : PlB lim w' p v L := by
  obtain ⟨y, h1, h2, h3⟩ := h.pl
  exact ⟨⟨y, h1, h2, h3.trans (b.mono h2)⟩, Nat.le_trans h.le b.size⟩
theorem scanL_len (s : Sp) (L : List Pa) : (scanL s L).length ≤ L.length := List.length_filter_le _ _
theorem plain_base (lim p : Nat) (v : Value) (L : List Pa) (hl : L.length ≤ 5000) : Baser lim noB (fun _ w => PlB lim w p v L) (.iface 69 (.pointer (some ⟨p, 0, none⟩))) (plGe L) (fun s => (scanL s L, 0)) where
  get := ⟨216, _, plain_methG p, fun k w K h => (pget_calls w p v L K h.inn (by omega)).mono fun e w' q => ⟨by rw [plGe_v]; exact q.1, h.mono (q.2.mono h.le), frv_no q.2⟩⟩
  scan := ⟨218, _, plain_methS p, fun k w s h => (pscan_calls w p v L s h.inn (by omega)).mono fun e w' q => by
    obtain ⟨u, e1, o1, b1⟩ := q
    exact ⟨u, e1, o1.slB, h.mono (b1.mono h.le), frv_no b1⟩⟩
  mono := fun k w w' h b => h.mono b
  down := fun k w h => h
  low := fun i h => h.elim
  size := fun k w h => h.le
  len := fun s => Nat.le_trans (scanL_len s L) hl
  ifc := ⟨_, _, rfl⟩

/-! A view over a base. -/
/-- What a call on a view over a base leaves. -/
structure VGo (S : Nat → Prop) (w : World) (p : Nat) (iv : Value) (x : VR) (V : VS) (w' : World) (x' : VR) : Prop where
  vw : VwIn w' p iv x' V
  more : x'.n ≤ x.n + 4
  fr : FrV (fun i => x.own p i ∨ S i) w w'
  own : ∀ i, x'.own p i → x.own p i ∨ w.heap.size ≤ i
theorem VLeft.go {w w' : World} {p : Nat} {iv : Value} {x x' : VR} {V : VS} (h : VLeft w p iv x V w' x') (S : Nat → Prop) : VGo S w p iv x V w' x' :=
  ⟨h.vw, h.more, ⟨h.fr.bel, fun i hi hn => h.fr.block i hi (fun q => hn (.inl q))⟩, h.own⟩
/-- What the base has done leaves the view. -/
theorem VwIn.based {S : Nat → Prop} {lim : Nat} {w w' : World} {p : Nat} {iv : Value} {x : VR} {V : VS} (h : VwIn w p iv x V) (hf : FrV S w w') (hS : ∀ i, S i → i < lim) (ho : ∀ i, x.own p i → lim ≤ i) : VwIn w' p iv x V :=
  h.kept fun i hi => hf.block i (h.lt hi) (fun q => by have := hS i q; have := ho i hi; omega)
/-- A view is changed above lim alone. -/
theorem VLeft.above {lim : Nat} {w w' : World} {p : Nat} {iv : Value} {x x' : VR} {V : VS} (h : VLeft w p iv x V w' x') (ho : ∀ i, x.own p i → lim ≤ i) (hl : lim ≤ w.heap.size) : Below lim w w' := h.fr.below ho hl
/-- What Get tells. -/
def getV (C : List Ch) (ge : Kz → List UInt8 × Bool × Int) (K : Kz) : List UInt8 × Bool × Int := match look Ch.n C K.n with
  | some c => (c.v, !c.g, 0)
  | none => if (ge K).2.2 ≠ 0 ∨ (ge K).2.1 = false then ([], false, (ge K).2.2) else ((ge K).1, true, 0)
def oneSp (K : Kz) : Sp := ⟨K.k, oneT K.k, oneE K.k, K.h, oneT_length K.k K.h⟩
/-- What Get leaves. -/
def getW (V : VS) (K : Kz) : VS := if (look Ch.n V.C K.n).isSome = true then V else { V with R := V.R ++ [oneSp K] }
/-- What Get's regions hold. -/
structure GtV (y : World) (p q : Nat) (iv cv rv mv : Value) (J : Kz) : Prop where
  blk : y.heap[p]? = some (.cells #[iv, cv, rv, mv] 75 (0, 0))
  box : Has y q J.k
theorem GtV.key {y : World} {p q : Nat} {iv cv rv mv : Value} {J : Kz} (h : GtV y p q iv cv rv mv J) : y.rangeAt q 0 (bc J.k) := fun j v hv => by
  rw [Nat.zero_add, cell_of_row _ _ _ _ _ _ h.box.blk]
  simpa using hv
theorem GtV.cell0 {y : World} {p q : Nat} {iv cv rv mv : Value} {J : Kz} (h : GtV y p q iv cv rv mv J) : y.cell? ⟨p, 0, none⟩ = some iv := by rw [cell_of_row _ _ _ _ _ _ h.blk]; rfl
/-- What Scan's region holds. -/
structure ScV (y : World) (p q : Nat) (iv cv rv mv : Value) (s : Sp) : Prop where
  blk : y.heap[p]? = some (.cells #[iv, cv, rv, mv] 75 (0, 0))
  box : HasS y q s.F s.T s.e
theorem ScV.span {y : World} {p q : Nat} {iv cv rv mv : Value} {s : Sp} (h : ScV y p q iv cv rv mv s) : y.rangeAt q 0 (sc s.F s.T s.e) := fun j v hv => by
  rw [Nat.zero_add, cell_of_row _ _ _ _ _ _ h.box.blk]
  simpa using hv
theorem ScV.cell0 {y : World} {p q : Nat} {iv cv rv mv : Value} {s : Sp} (h : ScV y p q iv cv rv mv s) : y.cell? ⟨p, 0, none⟩ = some iv := by rw [cell_of_row _ _ _ _ _ _ h.blk]; rfl
end Go.Proofs.YtgicanpggndbeaaGreat
