import Derived.Test.YtdmindhjmjnagaaGreatDoorSi
import Derived.Test.YtdmindhjmjnagaaGreatDoorB20
import Derived.Test.YtdmindhjmjnagaaGreatDoorB01
import Derived.Test.YtdmindhjmjnagaaGreatDoorB03
/- VwO Ifc VwQ VwR -/
namespace Go.Proofs.YtdmindhjmjnagaaGreatDoor
set_option linter.unusedVariables false
set_option maxRecDepth 1000000
set_option maxHeartbeats 32000000
section
open Go.RowKit
def vs0 : VS := ⟨[], [], []⟩
theorem vnew_in (w : World) (iv : Value) (w3 : World) (h : w3 = ((w.alloc (.map #[] 0)).alloc (.map #[] 0)).alloc (.cells #[iv, .map (some w.heap.size), .map (some (w.heap.size + 1)), .slice none 0 0] 77)) :
    VwIn w3 (w.heap.size + 2) iv ⟨w.heap.size, w.heap.size + 1, .slice none 0 0, [], 0⟩ vs0 ∧ Below w.heap.size w w3 ∧ w3.heap.size = w.heap.size + 3 := by
 have e2 : (w.alloc (.map #[] 0)).heap.size = w.heap.size + 1 := by simp
 have e3 : ((w.alloc (.map #[] 0)).alloc (.map #[] 0)).heap.size = w.heap.size + 2 := by simp
 have hb := heap_alloc_new ((w.alloc (.map #[] 0)).alloc (.map #[] 0)) (.cells #[iv, .map (some w.heap.size), .map (some (w.heap.size + 1)), .slice none 0 0] 77)
 rw [e3] at hb
 have hm1 : MapA encC Ch.n w3 w.heap.size 0 [] := by rw [h]; exact ((MapA.made encC Ch.n w _ rfl).alloc _).alloc _
 have hm2 : SetA w3 (w.heap.size + 1) 0 [] := by
  rw [h]
  have h1 := SetA.made (w.alloc (.map #[] 0)) (w.heap.size + 1) e2.symm
  exact h1.kept (Below.heap_alloc _ _ _ (by simp))
 refine ⟨⟨by rw [h]; exact hb, hm1, hm2, Own.nil _ _ _ _, (fun i hi => by cases hi), rfl, Nat.le_refl _, by simp⟩, ?_, by rw [h]; simp⟩
 rw [h]
 exact (((Below.refl _ w).alloc (Nat.le_refl _) _).alloc (by simp) _).alloc (by simp; omega) _
structure InAt (C : List Ch) (s : Sp) (todo : Kz → Bool) (c : List Ch) : Prop where
 at_ : ∀ K : Kz, lastA Ch.n c K.n = if s.inb K.n && !todo K then look Ch.n C K.n else none
theorem InAt.start (C : List Ch) (s : Sp) : InAt C s (fun K => (look Ch.n C K.n).isSome) [] := ⟨fun K => by
 rw [lastA_nil]
 cases h : look Ch.n C K.n <;> simp⟩
theorem InAt.step {C : List Ch} {s : Sp} {todo : Kz → Bool} {c : List Ch} (h : InAt C s todo c) {K : Kz} {x : Ch} (hx : look Ch.n C K.n = some x) (hi : s.inb K.n = true) : InAt C s (without todo K) (c ++ [x]) := ⟨fun J => by
 have hn : x.n = K.n := (look_key Ch.n hx).2
 rw [lastA_snoc, hn, h.at_ J]
 unfold without
 by_cases e : K.n = J.n
 · have : K = J := Kz.same e
   subst this
   rw [if_pos rfl]
   simp [hi, hx]
 · rw [if_neg e]
   simp [show J.n ≠ K.n from fun q => e q.symm]⟩
theorem InAt.skip {C : List Ch} {s : Sp} {todo : Kz → Bool} {c : List Ch} (h : InAt C s todo c) {K : Kz} (hi : s.inb K.n = false) : InAt C s (without todo K) c := ⟨fun J => by
 rw [h.at_ J]
 unfold without
 by_cases e : K.n = J.n
 · rw [← e, hi]
   simp
 · simp [show J.n ≠ K.n from fun q => e q.symm]⟩
def inL (C : List Ch) (s : Sp) : List Ch := C.filter fun c => s.inb c.n
theorem look_filter {C : List Ch} (s : Sp) (x : Int) : look Ch.n (inL C s) x = if s.inb x then look Ch.n C x else none := by
 unfold inL
 induction C with
 | nil => simp [look]
 | cons a r ih =>
  by_cases hi : s.inb a.n
  · rw [List.filter_cons_of_pos (p := fun x : Ch => s.inb x.n) hi]
    simp only [look]
    rw [ih]
    by_cases hx : a.n = x
    · subst hx; simp [hi]
    · simp [hx]
  · rw [List.filter_cons_of_neg (p := fun x : Ch => s.inb x.n) hi, ih]
    simp only [look]
    by_cases hx : a.n = x
    · subst hx; simp [hi]
    · simp [hx]
theorem inL_asc {C : List Ch} (ha : Asc Ch.n C) (s : Sp) : Asc Ch.n (inL C s) := List.Pairwise.sublist List.filter_sublist ha
theorem InAt.done {C : List Ch} {s : Sp} {todo : Kz → Bool} {c : List Ch} (h : InAt C s todo c) (ha : Asc Ch.n C) (ht : ∀ K, todo K = false) (x : Int) : lastA Ch.n c x = lastA Ch.n (inL C s) x := by
 rw [lastA_asc Ch.n (inL_asc ha s), look_filter]
 by_cases hx : ∃ K : Kz, K.n = x
 · obtain ⟨K, rfl⟩ := hx
   rw [h.at_ K, ht K]
   simp
 · have e1 : look Ch.n C x = none := (look_none Ch.n).2 fun c hc e => hx ⟨c.kz, e⟩
   have e2 : lastA Ch.n c x = none := by
    cases q : lastA Ch.n c x with
    | none => rfl
    | some y => exact absurd (lastA_key Ch.n q).2 (fun e => hx ⟨y.kz, e⟩)
   rw [e1, e2]
   simp
theorem within_calls (w : World) (p : Nat) (iv : Value) (x : VR) (V : VS) (s : Sp) (h : VwIn w p iv x V) (hn : x.n ≤ 100000) :
    Calls Tryz.prog 55 #[.pointer (some ⟨p, 0, none⟩), spv s] w fun e w' => ∃ v c, e = .returned v ∧ Own encC 95 w' w.heap.size v c ∧ (∀ y, lastA Ch.n c y = lastA Ch.n (inL V.C s) y) ∧ c.length ≤ x.n ∧ Below w.heap.size w w' := by
 have b1 : Below w.heap.size w (w.alloc (.cells (sc s.F s.T s.e).toArray 56)) := (Below.refl _ w).alloc (Nat.le_refl _) _
 have h1 := h.called b1
 have hc1 := h1.cell.2.1
 have hm1 := h1.mapC
 have HB1 : Hid (Below w.heap.size w (w.alloc (.cells (sc s.F s.T s.e).toArray 56))) := b1
 have HS1 : Hid (HasS (w.alloc (.cells (sc s.F s.T s.e).toArray 56)) w.heap.size s.F s.T s.e) := HasS.new w _ _ _ s.hF s.hT
 have HAS : Hid (Asc Ch.n V.C) := h.mapC.asc
 generalize V.C = C at *
 obtain ⟨NN, hNN⟩ : ∃ N, N = x.n := ⟨_, rfl⟩
 rw [← hNN] at hm1 hn ⊢
 clear h h1 b1 hNN
 go_enter Tryz.func55, Tryz.ntmps55
 go_upto_region 1 with fail
 generalize hW : w.alloc (.cells (sc s.F s.T s.e).toArray 56) = w1 at *
 go_wp2_with (first
  | (refine range_a tyC rfl _ rfl x.c NN C rfl hm1 ?_; intro w0 cnt0 hrg0 hc0 hg0 hs0))
 have HR0 : Hid (RangeA encC Ch.n w0 x.c w1.heap.size NN C (fun K => (look Ch.n C K.n).isSome) cnt0 ∧ cnt0 ≤ NN ∧ Below w.heap.size w w0 ∧ HasS w0 w.heap.size s.F s.T s.e ∧ w.heap.size < w1.heap.size) := by
  have q1 : w.heap.size < w1.heap.size := by rw [← hW]; simp
  exact ⟨hrg0, hc0, HB1.out.grown hg0 HB1.out.size (fun j hj => by cases hj), ⟨s.hF, s.hT, (hg0.block _ HS1.out.lt (by simp)).trans HS1.out.blk⟩, q1⟩
 clear hrg0 hc0 hg0 hs0 hm1 hc1 HS1 HB1 hW
 generalize w1.heap.size = r at *
 clear w1
 go_frame
 go_loopg [5] cnt0 (fun gg v wr => ∃ (todo : Kz → Bool) (c : List Ch) (M : Nat) (ad : Option Addr) (cap : Nat), v = .slice ad M cap ∧ Hid (c.length = M ∧ RangeA encC Ch.n wr x.c r NN C todo gg ∧ M + gg ≤ NN ∧ Below w.heap.size w wr ∧ HasS wr w.heap.size s.F s.T s.e ∧ w.heap.size < r ∧ InAt C s todo c ∧ Own encC 95 wr w.heap.size (.slice ad M cap) c))
 case atStart =>
  exact ⟨_, [], 0, none, 0, rfl, (⟨rfl, HR0.out.1, by simpa using HR0.out.2.1, HR0.out.2.2.1, HR0.out.2.2.2.1, HR0.out.2.2.2.2, InAt.start C s, Own.nil _ _ _ _⟩ : _ ∧ _)⟩
 case round =>
  clear HR0
  obtain ⟨todo, c, M, ad, cap, rfl, HE⟩ := hrel
  have hrg := HE.out.2.1
  generalize gk = cnt at *
  go_wp2_with (first
   | (at_next; refine next_a rfl _ rfl x.c r NN C todo cnt rfl hrg ?_ ?_)
   | go_in)
  · intro hl0
    have HD : Hid (∀ K, todo K = false) := hl0
    clear hl0 hrg
    go_wp2_with fail
    go_ret
    have E := HE.out
    exact ⟨_, c, rfl, E.2.2.2.2.2.2.2, E.2.2.2.2.2.2.1.done HAS.out HD.out, by omega, E.2.2.2.1⟩
  · intro K y x0 cnt2 hK hy hrg2 hlt hg2 hs2 hen
    have hrn := hrg.lt
    have E := HE.out
    have hqr : w.heap.size < r := E.2.2.2.2.2.1
    have H1 : Hid (RangeA encC Ch.n x0 x.c r NN C (without todo K) cnt2 ∧ Below w.heap.size w x0 ∧ HasS x0 w.heap.size s.F s.T s.e ∧ Own encC 95 x0 w.heap.size (.slice ad M cap) c) :=
     ⟨hrg2, E.2.2.2.1.grown hg2 E.2.2.2.1.size (fun k e => by cases e; omega), ⟨s.hF, s.hT, (hg2.block _ E.2.2.2.2.1.lt (by simp; omega)).trans E.2.2.2.2.1.blk⟩, ownsRow_abides_a E.2.2.2.2.2.2.2 hg2 (fun j e => by cases e; exact hrg.data.choose_spec.choose_spec.1.iter_walk)⟩
    have HC : Hid (c.length = M ∧ M + cnt ≤ NN ∧ InAt C s todo c ∧ w.heap.size < r) := ⟨E.1, E.2.2.1, E.2.2.2.2.2.2.1, hqr⟩
    have HLT : Hid (cnt2 < cnt) := hlt
    have HKY : Hid (todo K = true ∧ look Ch.n C K.n = some y) := ⟨hK, hy⟩
    clear hg2 hrg2 hs2 hlt hK hy hrg hrn E HE hqr
    go_upto_region 5 with (first
     | (refine store_el elK rfl _ _ rfl x0.heap.size rfl K rfl kz0 ((InB.new encKz _ x0 kz0 _ rfl).alloc _) ?_; intro x1 hu1 tx1 sx1
        have hz1 : InB encC 95 x1 (x0.heap.size + 1) ch0 := (InB.new encC _ (x0.alloc (.cells (encKz.c kz0).toArray 54)) ch0 _ (by simp)).touch tx1 (by omega) (by simp))
     | (refine store_el elC rfl _ _ rfl (x0.heap.size + 1) rfl y rfl ch0 hz1 ?_; intro x2 hu2 tx2 sx2))
    have BX : Below x0.heap.size x0 x2 := ((((Below.refl _ x0).alloc (Nat.le_refl _) _).alloc (by simp) _).trans (tx1.below (by simp; omega) (Nat.le_refl _) (by simp))).trans (tx2.below (by rw [sx1]; simp; omega) (by omega) (by simp))
    have hK2 : InB encKz 54 x2 x0.heap.size K := hu1.touch tx2 (by omega) (by simp)
    have H2 : Hid (RangeA encC Ch.n x2 x.c r NN C (without todo K) cnt2 ∧ Below w.heap.size w x2 ∧ HasS x2 w.heap.size s.F s.T s.e ∧ Own encC 95 x2 w.heap.size (.slice ad M cap) c) :=
     ⟨H1.out.1.below BX (Nat.le_refl _), H1.out.2.1.trans (BX.mono H1.out.2.1.size), H1.out.2.2.1.below BX H1.out.2.2.1.lt, H1.out.2.2.2.below BX⟩
    have hsp := H2.out.2.2.1.inB.range
    have hIn := in_calls x2 s.F s.T s.e K.k s.hF s.hT K.h
    rw [in_num s _ K.h] at hIn
    clear hz1 tx1 tx2 sx1 sx2 hu1 BX H1 hen
    generalize x0.heap.size = q at *
    have HIE : Hid ((num K.k : Int) = K.n) := rfl
    rw [HIE.out] at hIn
    cases hi : s.inb K.n with
    | false =>
     rw [hi] at hIn
     have HI : Hid (s.inb K.n = false) := hi
     clear hi
     go_wp2_with (first
      | (refine load_el elS _ rfl w.heap.size 0 rfl rfl s hsp ?_)
      | (refine load_el elK _ rfl q 0 rfl rfl K hK2.range ?_)
      | (go_at_call 99; refine hIn.mono ?_; clear hIn; rintro e x3 ⟨rfl, b3⟩))
     go_roundg cnt2
     case measure => exact HLT.out
     case rel =>
      have h2 := H2.out
      have hc := HC.out
      exact ⟨_, c, M, ad, cap, rfl, (show _ ∧ _ from ⟨hc.1, h2.1.below b3 (Nat.le_refl _), by have := HLT.out; omega, h2.2.1.trans (b3.mono h2.2.1.size), h2.2.2.1.below b3 h2.2.2.1.lt, hc.2.2.2, hc.2.2.1.skip HI.out, h2.2.2.2.below b3⟩)⟩
    | true =>
     rw [hi] at hIn
     have HI : Hid (s.inb K.n = true) := hi
     clear hi
     have HH : Hid (InB encC 95 x2 (q + 1) y ∧ q + 1 < x2.heap.size) := ⟨hu2, hu2.lt⟩
     clear hu2
     go_upto_region 6 with (first
      | (refine load_el elS _ rfl w.heap.size 0 rfl rfl s hsp ?_)
      | (refine load_el elK _ rfl q 0 rfl rfl K hK2.range ?_)
      | (go_at_call 99; refine hIn.mono ?_; clear hIn; rintro e x3 ⟨rfl, b3⟩))
     have hu3 : InB encC 95 x3 (q + 1) y := HH.out.1.below b3 HH.out.2
     have H3 : Hid (RangeA encC Ch.n x3 x.c r NN C (without todo K) cnt2 ∧ Below w.heap.size w x3 ∧ HasS x3 w.heap.size s.F s.T s.e) :=
      ⟨H2.out.1.below b3 (Nat.le_refl _), H2.out.2.1.trans (b3.mono H2.out.2.1.size), H2.out.2.2.1.below b3 H2.out.2.2.1.lt⟩
     have ho3 : Own encC 95 x3 w.heap.size (.slice ad M cap) c := H2.out.2.2.2.below b3
     clear H2 HH b3 hsp hK2
     go_wp2_with (first
      | (refine load_el elC _ rfl (q + 1) 0 rfl rfl y hu3.range ?_)
      | (refine build_el1 rowC rfl _ rfl y rfl (by decide) ?_; intro x4 ho4 b4 s4 hb4
         have ho5 := ho3.below b4)
      | (at_builtin
         refine append_one rowC rfl _ _ rfl w.heap.size (.slice ad M cap) c rfl ho5 x3.heap.size y rfl (0, 0) 95 hb4 (by have := HC.out; have := hn; omega) (by decide) (by have := H3.out.2.1.size; omega) ?_
         intro g cap' x5 hown hg5 hgw hlt5
         rw [HC.out.1]))
     go_roundg cnt2
     case measure => exact HLT.out
     case rel =>
      have h3 := H3.out
      have hc := HC.out
      have hr4 := h3.1.below b4 (Nat.le_refl _)
      have n1 : some x.c ≠ Value.ownBlock (.slice ad M cap) := by
       obtain ⟨es, cl, hb⟩ := hr4.map.isMap
       rcases ownsRow_ne_a ho5 hb (fun cur q => by cases q) with q | q
       · rw [q]; simp
       · exact fun e => q e.symm
      have n2 : some r ≠ Value.ownBlock (.slice ad M cap) := by
       obtain ⟨o, hb, ho⟩ := hr4.walk
       rcases ownsRow_ne_a ho5 hb (fun cur q => by rw [q] at ho; cases ho) with q | q
       · rw [q]; simp
       · exact fun e => q e.symm
      have hbox : (HasS x5 w.heap.size s.F s.T s.e) := ⟨s.hF, s.hT, (hg5.block _ (h3.2.2.below b4 h3.2.2.lt).lt (fun e => by
       rcases ownsRow_ne_a ho5 (h3.2.2.below b4 h3.2.2.lt).blk (fun cur q => absurd (Obj.cells.inj q).2.1 (by decide)) with q | q
       · rw [q] at e; cases e
       · exact q e.symm)).trans (h3.2.2.below b4 h3.2.2.lt).blk⟩
      rw [hc.1] at hown
      exact ⟨_, c ++ [y], M + 1, _, cap', rfl, (show _ ∧ _ from ⟨by simp [hc.1], hr4.kept hg5 n1 n2, by have := HLT.out; omega, (h3.2.1.trans (b4.mono h3.2.1.size)).grown hg5 (Nat.le_trans h3.2.1.size b4.size) (fun j e => (ho5.lt j e).1), hbox, hc.2.2.2, hc.2.2.1.step HKY.out.2 HI.out, hown⟩)⟩
end
section
open Go.RowKit
def Meth (iv : Value) (name : String) (G : FuncId) (recv : Value) : Prop :=
 ∀ (w : World) (args : Array Value), (invoke (.fn (.method name) #[]) (#[iv] ++ args)).run Tryz.prog w = .ok (.enter G (#[recv] ++ args)) w
theorem wp_invoke {o : Oper} {a : Act} {w : World} {K : Act → World → Prop} {Q : Exit → Act → World → Prop} (r : Operand) (name : String) (args : Array Operand) (tys : Array TypeId) (ho : o.op = .call { callee := .invoke r name, args := args, argTypes := tys })
    (iv : Value) (G : FuncId) (recv : Value) (hr : a.eval r = iv) (hm : Meth iv name G recv) (vs : Array Value) (hv : args.map a.eval = vs) {R : Ending → World → Prop} (hc : Calls Tryz.prog G (#[recv] ++ vs) w R)
    (h : ∀ e w', R e w' → ∃ v, e = .returned v ∧ K (a.put o.dst v) w') : o.wp Tryz.prog a w K Q := by
 have e1 : (execOp a.eval o).run Tryz.prog w = .ok (.enter G (#[recv] ++ vs)) w := by
  have := hm w vs
  simp only [execOp, ho, resolve, hv, hr]
  simpa [Result.andThen] using this
 unfold Oper.wp
 rw [e1, Oper.upon_enter]
 refine hc.mono fun e w' he => ?_
 obtain ⟨v, rfl, hk⟩ := h e w' he
 exact hk
theorem callFunc_go {f : FuncId} {fn : Func} {c : Code} (hf : Tryz.prog.funcs[f]? = some fn) (hname : (fn.name == "runtime.NumGoroutine") = false) (hb : fn.body = some c) (args : Array Value) (w : World) : (callFunc f args).run Tryz.prog w = .ok (.enter f args) w := by
 have h1 : fn.name ≠ "runtime.NumGoroutine" := by simpa using hname
 simp [callFunc, hf, h1, hb]
theorem meth_of {P : Program} {T : TypeId} {recv : Value} {name : String} {F : FuncId} (hm : ∀ w, (Go.method (P.types.size + Made.depth) T recv name).run P w = .ok (F, recv) w) (hc : ∀ args w, (callFunc F args).run P w = .ok (.enter F args) w) (w : World) (args : Array Value) :
    (invoke (.fn (.method name) #[]) (#[.iface T recv] ++ args)).run P w = .ok (.enter F (#[recv] ++ args)) w := by
 obtain ⟨l⟩ := args
 have h1 : (Go.method (P.types.size + 100) T recv name).run P w = .ok (F, recv) w := hm w
 have h2 := hc (#[recv] ++ ⟨l⟩) w
 simp only [invoke, callMethod, List.append_toArray, List.cons_append, List.nil_append, List.getElem?_toArray, List.getElem?_cons_zero] at h2 ⊢
 simp [go_sem, h1, h2, Result.andThen]
end
section
open Go.RowKit
theorem wp_invoke1 {o : Oper} {a : Act} {w : World} {K : Act → World → Prop} {Q : Exit → Act → World → Prop} (r : Operand) (name : String) (x : Operand) (ty : TypeId) (ho : o.op = .call { callee := .invoke r name, args := #[x], argTypes := #[ty] })
    (iv : Value) (G : FuncId) (recv v : Value) (hr : a.eval r = iv) (hm : Meth iv name G recv) (hv : a.eval x = v) {R : Ending → World → Prop} (hc : Calls Tryz.prog G (#[recv] ++ #[v]) w R)
    (h : ∀ e w', R e w' → ∃ v, e = .returned v ∧ K (a.put o.dst v) w') : o.wp Tryz.prog a w K Q :=
 wp_invoke r name #[x] #[ty] ho iv G recv hr hm #[v] (by simp [hv]) hc h
def gv (r : List UInt8 × Bool × Int) : Value := .tuple #[.string (str r.1), .bool r.2.1, .int .i64 r.2.2]
structure Baser (lim : Nat) (S : Nat → Prop) (I : Nat → World → Prop) (iv : Value) (ge : Kz → List UInt8 × Bool × Int) (sn : Sp → List Pa × Int) : Prop where
 get : ∃ G recv, Meth iv "Get" G recv ∧ ∀ k w K, I (k + 1) w → Calls Tryz.prog G (#[recv] ++ #[kv K.k]) w fun e w' => e = .returned (gv (ge K)) ∧ I k w' ∧ FrV S w w'
 scan : ∃ G recv, Meth iv "Scan" G recv ∧ ∀ k w s, I (k + 1) w → Calls Tryz.prog G (#[recv] ++ #[spv s]) w fun e w' => ∃ v, e = .returned (.tuple #[v, .int .i64 (sn s).2]) ∧ Sl encP w' v (sn s).1 ∧ I k w' ∧ FrV S w w'
 mono : ∀ k w w', I k w → Below lim w w' → I k w'
 down : ∀ k w, I (k + 1) w → I k w
 low : ∀ i, S i → i < lim
 size : ∀ k w, I k w → lim ≤ w.heap.size
 len : ∀ s, (sn s).1.length ≤ 5000
 ifc : ∃ T rv, iv = .iface T rv
def noB (_ : Nat) : Prop := False
theorem frv_no {w w' : World} (h : Below w.heap.size w w') : FrV noB w w' := FrV.of_below h
def plGe (L : List Pa) (K : Kz) : List UInt8 × Bool × Int := match look Pa.n L K.n with
 | none => ([], false, 0)
 | some x => (x.v, true, 0)
theorem plGe_v (L : List Pa) (K : Kz) : gv (plGe L K) = gotV (look Pa.n L K.n) := by
 unfold plGe
 cases look Pa.n L K.n <;> rfl
theorem plain_methG (p : Nat) : Meth (.iface 71 (.pointer (some ⟨p, 0, none⟩))) "Get" 229 (.pointer (some ⟨p, 0, none⟩)) := fun w args => by
 exact meth_of (P := Tryz.prog) (fun w => by kernel_rfl) (fun args w => callFunc_go Tryz.func229 (by kernel_rfl) (by rfl) args w) w args
theorem plain_methS (p : Nat) : Meth (.iface 71 (.pointer (some ⟨p, 0, none⟩))) "Scan" 231 (.pointer (some ⟨p, 0, none⟩)) := fun w args => by
 exact meth_of (P := Tryz.prog) (fun w => by kernel_rfl) (fun args w => callFunc_go Tryz.func231 (by kernel_rfl) (by rfl) args w) w args
theorem scanL_len (s : Sp) (L : List Pa) : (scanL s L).length ≤ L.length := List.length_filter_le _ _
structure VGo (S : Nat → Prop) (w : World) (p : Nat) (iv : Value) (x : VR) (V : VS) (w' : World) (x' : VR) : Prop where
 vw : VwIn w' p iv x' V
 more : x'.n ≤ x.n + 4
 fr : FrV (fun i => x.own p i ∨ S i) w w'
 own : ∀ i, x'.own p i → x.own p i ∨ w.heap.size ≤ i
theorem VLeft.go {w w' : World} {p : Nat} {iv : Value} {x x' : VR} {V : VS} (h : VLeft w p iv x V w' x') (S : Nat → Prop) : VGo S w p iv x V w' x' :=
 ⟨h.vw, h.more, ⟨h.fr.bel, fun i hi hn => h.fr.block i hi (fun q => hn (.inl q))⟩, h.own⟩
theorem VwIn.based {S : Nat → Prop} {lim : Nat} {w w' : World} {p : Nat} {iv : Value} {x : VR} {V : VS} (h : VwIn w p iv x V) (hf : FrV S w w') (hS : ∀ i, S i → i < lim) (ho : ∀ i, x.own p i → lim ≤ i) : VwIn w' p iv x V :=
 h.kept fun i hi => hf.block i (h.lt hi) (fun q => by have := hS i q; have := ho i hi; omega)
theorem VLeft.above {lim : Nat} {w w' : World} {p : Nat} {iv : Value} {x x' : VR} {V : VS} (h : VLeft w p iv x V w' x') (ho : ∀ i, x.own p i → lim ≤ i) (hl : lim ≤ w.heap.size) : Below lim w w' := h.fr.below ho hl
def getV (C : List Ch) (ge : Kz → List UInt8 × Bool × Int) (K : Kz) : List UInt8 × Bool × Int := match look Ch.n C K.n with
 | some c => (c.v, !c.g, 0)
 | none => if (ge K).2.2 ≠ 0 ∨ (ge K).2.1 = false then ([], false, (ge K).2.2) else ((ge K).1, true, 0)
def oneSp (K : Kz) : Sp := ⟨K.k, oneT K.k, oneE K.k, K.h, oneT_length K.k K.h⟩
def getW (V : VS) (K : Kz) : VS := if (look Ch.n V.C K.n).isSome = true then V else { V with R := V.R ++ [oneSp K] }
structure GtV (y : World) (p q : Nat) (iv cv rv mv : Value) (J : Kz) : Prop where
 blk : y.heap[p]? = some (.cells #[iv, cv, rv, mv] 77 (0, 0))
 box : Has y q J.k
theorem GtV.key {y : World} {p q : Nat} {iv cv rv mv : Value} {J : Kz} (h : GtV y p q iv cv rv mv J) : y.rangeAt q 0 (bc J.k) := fun j v hv => by
 rw [Nat.zero_add, cell_of_row _ _ _ _ _ _ h.box.blk]
 simpa using hv
theorem GtV.cell0 {y : World} {p q : Nat} {iv cv rv mv : Value} {J : Kz} (h : GtV y p q iv cv rv mv J) : y.cell? ⟨p, 0, none⟩ = some iv := by rw [cell_of_row _ _ _ _ _ _ h.blk]; rfl
structure ScV (y : World) (p q : Nat) (iv cv rv mv : Value) (s : Sp) : Prop where
 blk : y.heap[p]? = some (.cells #[iv, cv, rv, mv] 77 (0, 0))
 box : HasS y q s.F s.T s.e
theorem ScV.span {y : World} {p q : Nat} {iv cv rv mv : Value} {s : Sp} (h : ScV y p q iv cv rv mv s) : y.rangeAt q 0 (sc s.F s.T s.e) := fun j v hv => by
 rw [Nat.zero_add, cell_of_row _ _ _ _ _ _ h.box.blk]
 simpa using hv
theorem ScV.cell0 {y : World} {p q : Nat} {iv cv rv mv : Value} {s : Sp} (h : ScV y p q iv cv rv mv s) : y.cell? ⟨p, 0, none⟩ = some iv := by rw [cell_of_row _ _ _ _ _ _ h.blk]; rfl
end
section
open Go.RowKit
theorem vget_calls {lim : Nat} {S : Nat → Prop} {I : Nat → World → Prop} {iv : Value} {ge : Kz → List UInt8 × Bool × Int} {sn : Sp → List Pa × Int} (D : Baser lim S I iv ge sn) (k : Nat) (w : World) (p : Nat) (x : VR) (V : VS) (J : Kz) (h : VwIn w p iv x V) (hI : I (k + 1) w) (ho : ∀ i, x.own p i → lim ≤ i) (hn : x.n ≤ 100000) :
    Calls Tryz.prog 108 #[.pointer (some ⟨p, 0, none⟩), kv J.k] w fun e w' => e = .returned (gv (getV V.C ge J)) ∧ I k w' ∧ VGo S w p iv x (getW V J) w' { x with n := x.n + 1 } := by
 have b1 : Below w.heap.size w (w.alloc (.cells (bc J.k).toArray 54)) := (Below.refl _ w).alloc (Nat.le_refl _) _
 have hk1 : Has (w.alloc (.cells (bc J.k).toArray 54)) w.heap.size J.k := Has.new w J.k J.h
 have h1 := h.called b1
 have HLW : Hid (lim ≤ w.heap.size) := D.size _ _ hI
 have HOW : Hid (∀ i, x.own p i → i < w.heap.size) := fun i hi => h.lt hi
 have HOL : Hid (∀ i, x.own p i → lim ≤ i) := ho
 have HH : Hid (VwIn w p iv x V) := h
 have H1 : Hid (VwIn (w.alloc (.cells (bc J.k).toArray 54)) p iv x V) := h1
 have HB1 : Hid (Below w.heap.size w (w.alloc (.cells (bc J.k).toArray 54))) := b1
 have HI1 : Hid (I (k + 1) w) := hI
 have HGV : Hid (getV V.C ge J = match look Ch.n V.C J.n with
  | some c => (c.v, !c.g, 0)
  | none => if (ge J).2.2 ≠ 0 ∨ (ge J).2.1 = false then ([], false, (ge J).2.2) else ((ge J).1, true, 0)) := rfl
 have HGW : Hid (getW V J = if (look Ch.n V.C J.n).isSome = true then V else { V with R := V.R ++ [oneSp J] }) := rfl
 have HKL : Hid ((bc J.k).length = 24) := (show _ = _ by rw [bc_length, J.h])
 have HCK : Hid ((Tryz.prog.info? 54).map (·.size) = some 24) := Tryz.key_info
 have HHN : Hid (x.n ≤ 100000) := hn
 generalize getV V.C ge J = RES at *
 generalize getW V J = VW at *
 have HS : Hid (KpV (w.alloc (.cells (bc J.k).toArray 54)) (w.alloc (.cells (bc J.k).toArray 54)).drew p w.heap.size iv (.map (some x.c)) (.map (some x.r)) x.m x.c x.n V.C J) := (show KpV _ _ _ _ _ _ _ _ _ _ _ _ from KpV.called ⟨Below.refl _ _, h1.blk, hk1, h1.mapC⟩ ⟨rfl, rfl, rfl, Nat.le_refl _, fun _ _ => rfl⟩)
 clear h h1 b1 hI ho hn hk1
 cases hlc : look Ch.n V.C J.n with
 | some c =>
  have HF : Hid (RES = (c.v, !c.g, 0)) := (show _ = _ by rw [HGV.out, hlc])
  have HW : Hid (VW = V) := (show _ = _ by rw [HGW.out, hlc]; rfl)
  have HL : Hid (look Ch.n V.C J.n = some c) := hlc
  clear HGV HGW hlc
  go_enter Tryz.func108, Tryz.ntmps108
  go_upto_region 1 with fail
  generalize (w.alloc (.cells (bc J.k).toArray 54)) = w1 at *
  refine wp_region_noPanic ?_
  refine wp_region_held_drew (S := (fun y => KpV w1 y p w.heap.size iv (.map (some x.c)) (.map (some x.r)) x.m x.c x.n V.C J)) (by kernel_rfl) (HS.out) (fun hh => ?_)
  refine tl ?_ 0 rfl hh ⟨by rfl, ?_⟩ ?_
  case refine_2 => (intro w hSw; go_simp; try with_reducible rfl)
  (try simp only [gs])
  refine tl ?_ 1 rfl hh ⟨by rfl, ?_⟩ ?_
  case refine_2 => (intro w hSw; go_simp; try with_reducible rfl)
  (try simp only [gs])
  refine tl ?_ 2 rfl hh ⟨by rfl, ?_⟩ ?_
  case refine_2 => (intro w hSw; go_simp; try with_reducible rfl)
  (try simp only [gs])
  refine tl ?_ 3 rfl hh ⟨by rfl, ?_⟩ ?_
  case refine_2 => (intro w hSw; have hc := hSw.cell1; go_simp; try with_reducible rfl)
  (try simp only [gs])
  refine tk 4 rfl hh (yieldsIf_load_mid (by rfl) _ _ rfl _ _ rfl _ _ (fun y h => KpV.key h) Tryz.underlying54 rfl (by rw [HKL.out]; exact HCK.out)) ?_
  (try simp only [gs])
  refine tl ?_ 5 rfl hh ⟨by rfl, ?_⟩ ?_
  case refine_2 => (intro w hSw; have hlk := hSw.mp.look2 tyC J; go_simp; try with_reducible rfl)
  (try simp only [gs])
  have HCO : Hid ((look Ch.n V.C J.n).getD ch0 = c ∧ (look Ch.n V.C J.n).isSome = true) := (show _ ∧ _ by rw [HL.out]; exact ⟨rfl, rfl⟩)
  rw [HCO.out.1, HCO.out.2]
  refine tl ?_ 6 rfl hh ⟨by rfl, ?_⟩ ?_
  case refine_2 => (intro w hSw; go_simp; try with_reducible rfl)
  (try simp only [gs])
  refine tl ?_ 7 rfl hh ⟨by rfl, ?_⟩ ?_
  case refine_2 => (intro w hSw; go_simp; try with_reducible rfl)
  (try simp only [gs])
  refine tl ?_ 8 rfl hh ⟨by rfl, ?_⟩ ?_
  case refine_2 => (intro w hSw; go_simp; try with_reducible rfl)
  (try simp only [gs])
  generalize hy1 : w1.drew = y1 at *
  refine wpAnyH_ready (rs := [9]) (by kernel_rfl) (by simp) (AllReadyH.cons rfl (fun K hK => ?_) AllReadyH.nil)
  rw [if_pos (by rfl)]
  (try simp only [gs])
  go_simp
  refine hK.out _ _ (hh.called ((Below.refl _ y1).alloc (Nat.le_refl _) _)) (fun g1 => ?_)
  clear hK K
  (try simp only [gs])
  refine wpAnyH_ready (rs := [10]) (by kernel_rfl) (by simp) (AllReadyH.cons rfl (fun K hK => ?_) AllReadyH.nil)
  rw [if_pos (by rfl)]
  (try simp only [gs])
  refine wp_store_el elC _ _ rfl y1.heap.size rfl c rfl ch0 (InB.new encC 95 y1 ch0 _ rfl) ?_
  intro y2 hu t2 s2
  have BY : Below y1.heap.size y1 y2 := ((Below.refl _ _).alloc (Nat.le_refl _) _).trans (t2.below (by simp) (Nat.le_refl _) (by simp))
  refine hK.out _ _ (hh.called BY) (fun g2 => ?_)
  clear hK K
  (try simp only [gs])
  refine tl ?_ 11 rfl g2 ⟨by rfl, ?_⟩ ?_
  case refine_2 => (intro w hSw; go_simp; try with_reducible rfl)
  (try simp only [gs])
  refine wpAnyH_done (by kernel_rfl) ?_ _
  refine NoPanic.normal ?_
  obtain ⟨cv, cg⟩ := range_vC hu.range
  simp only [Nat.zero_add] at cv cg
  have HG : Hid (Below w1.heap.size w1 y2) := g2.bel
  clear g1 g2 hh BY t2 s2 HS HKL HCK hu HL
  generalize y1.heap.size = q at *
  go_wp2_with (first | (go_quiet (fail)) | fail)
  go_ret3
  have bd : Below y2.heap.size y2 (y2.drewN nq) := ⟨rfl, rfl, rfl, Nat.le_refl _, fun _ _ => rfl⟩
  have bw : Below w.heap.size w (y2.drewN nq) := (HB1.out.trans (HG.out.mono HB1.out.size)).trans (bd.mono (Nat.le_trans HB1.out.size HG.out.size))
  refine ⟨by rw [HF.out]; rfl, D.mono _ _ _ (D.down _ _ HI1.out) (bw.mono HLW.out), ?_⟩
  rw [HW.out]
  exact (HH.out.left bw).go S
 | none =>
  have HL : Hid (look Ch.n V.C J.n = none) := hlc
  have HF : Hid (RES = if (ge J).2.2 ≠ 0 ∨ (ge J).2.1 = false then ([], false, (ge J).2.2) else ((ge J).1, true, 0)) := (show _ = _ by rw [HGV.out, hlc])
  have HW : Hid (VW = { V with R := V.R ++ [oneSp J] }) := (show _ = _ by rw [HGW.out, hlc]; rfl)
  clear HGV HGW hlc
  go_enter Tryz.func108, Tryz.ntmps108
  go_upto_region 1 with fail
  generalize (w.alloc (.cells (bc J.k).toArray 54)) = w1 at *
  refine wp_region_noPanic ?_
  refine wp_region_held_drew (S := (fun y => KpV w1 y p w.heap.size iv (.map (some x.c)) (.map (some x.r)) x.m x.c x.n V.C J)) (by kernel_rfl) (HS.out) (fun hh => ?_)
  refine tl ?_ 0 rfl hh ⟨by rfl, ?_⟩ ?_
  case refine_2 => (intro w hSw; go_simp; try with_reducible rfl)
  (try simp only [gs])
  refine tl ?_ 1 rfl hh ⟨by rfl, ?_⟩ ?_
  case refine_2 => (intro w hSw; go_simp; try with_reducible rfl)
  (try simp only [gs])
  refine tl ?_ 2 rfl hh ⟨by rfl, ?_⟩ ?_
  case refine_2 => (intro w hSw; go_simp; try with_reducible rfl)
  (try simp only [gs])
  refine tl ?_ 3 rfl hh ⟨by rfl, ?_⟩ ?_
  case refine_2 => (intro w hSw; have hc := hSw.cell1; go_simp; try with_reducible rfl)
  (try simp only [gs])
  refine tk 4 rfl hh (yieldsIf_load_mid (by rfl) _ _ rfl _ _ rfl _ _ (fun y h => KpV.key h) Tryz.underlying54 rfl (by rw [HKL.out]; exact HCK.out)) ?_
  (try simp only [gs])
  refine tl ?_ 5 rfl hh ⟨by rfl, ?_⟩ ?_
  case refine_2 => (intro w hSw; have hlk := hSw.mp.look2 tyC J; go_simp; try with_reducible rfl)
  (try simp only [gs])
  have HCO : Hid ((look Ch.n V.C J.n).getD ch0 = ch0 ∧ (look Ch.n V.C J.n).isSome = false) := (show _ ∧ _ by rw [HL.out]; exact ⟨rfl, rfl⟩)
  rw [HCO.out.1, HCO.out.2]
  refine tl ?_ 6 rfl hh ⟨by rfl, ?_⟩ ?_
  case refine_2 => (intro w hSw; go_simp; try with_reducible rfl)
  (try simp only [gs])
  refine tl ?_ 7 rfl hh ⟨by rfl, ?_⟩ ?_
  case refine_2 => (intro w hSw; go_simp; try with_reducible rfl)
  (try simp only [gs])
  refine tl ?_ 8 rfl hh ⟨by rfl, ?_⟩ ?_
  case refine_2 => (intro w hSw; go_simp; try with_reducible rfl)
  (try simp only [gs])
  generalize hy1 : w1.drew = y1 at *
  refine wpAnyH_ready (rs := [9]) (by kernel_rfl) (by simp) (AllReadyH.cons rfl (fun K hK => ?_) AllReadyH.nil)
  rw [if_pos (by rfl)]
  (try simp only [gs])
  go_simp
  refine hK.out _ _ (hh.called ((Below.refl _ y1).alloc (Nat.le_refl _) _)) (fun g1 => ?_)
  clear hK K
  (try simp only [gs])
  refine wpAnyH_ready (rs := [10]) (by kernel_rfl) (by simp) (AllReadyH.cons rfl (fun K hK => ?_) AllReadyH.nil)
  rw [if_pos (by rfl)]
  (try simp only [gs])
  refine wp_store_el elC _ _ rfl y1.heap.size rfl ch0 rfl ch0 (InB.new encC 95 y1 ch0 _ rfl) ?_
  intro y2 hu t2 s2
  have BY : Below y1.heap.size y1 y2 := ((Below.refl _ _).alloc (Nat.le_refl _) _).trans (t2.below (by simp) (Nat.le_refl _) (by simp))
  refine hK.out _ _ (hh.called BY) (fun g2 => ?_)
  clear hK K
  (try simp only [gs])
  refine tl ?_ 11 rfl g2 ⟨by rfl, ?_⟩ ?_
  case refine_2 => (intro w hSw; go_simp; try with_reducible rfl)
  (try simp only [gs])
  refine wpAnyH_done (by kernel_rfl) ?_ _
  refine NoPanic.normal ?_
  have HG : Hid (Below w1.heap.size w1 y2) := g2.bel
  have hkb : Has y2 w.heap.size J.k := g2.box
  have HBW : Hid (Below w.heap.size w y2) := HB1.out.trans (g2.bel.mono HB1.out.size)
  have HKB : Hid (Has y2 w.heap.size J.k) := hkb
  have hO := one_calls y2 J.k J.h
  clear g1 g2 hh BY t2 s2 HS hu HL
  generalize y1.heap.size = q at *
  go_upto_region 5 with (first
   | (refine load_key _ rfl w.heap.size rfl rfl J.k hkb ?_)
   | (go_at_call 53; refine hR.mono ?_; clear hR; rintro e y4 ⟨⟨rv, rfl⟩, E1⟩)
   | (go_at_call 122; refine hO.mono ?_; clear hO; rintro e y3 ⟨rfl, b3⟩
      have HV3 : Hid (VwIn y3 p iv x V ∧ Below w.heap.size w y3 ∧ Below y2.heap.size y2 y3) := ⟨(H1.out.called HG.out).called b3, HBW.out.trans (b3.mono HBW.out.size), b3⟩
      have hR := vread_calls y3 p iv x V (oneSp J) HV3.out.1 HHN.out))
  have HE1 : Hid (VLeft w p iv x { V with R := V.R ++ [oneSp J] } y4 { x with n := x.n + 1 }) := VLeft.shift HOW.out HV3.out.2.1 E1
  have hbq : y4.heap[w.heap.size]? = y3.heap[w.heap.size]? := E1.fr.block _ (by have := HKB.out.lt; have := HV3.out.2.2.size; omega) (fun q => Nat.lt_irrefl _ (HOW.out _ q))
  have HS5 : Hid (GtV y4.drew p w.heap.size iv (.map (some x.c)) (.map (some x.r)) x.m J) := ⟨E1.vw.blk, ⟨J.h, (show y4.heap[w.heap.size]? = _ from hbq.trans ((HV3.out.2.2.block _ HKB.out.lt).trans HKB.out.blk))⟩⟩
  have HI5 : Hid (I (k + 1) y4.drew) := D.mono _ _ _ HI1.out ((HE1.out.above HOL.out HLW.out).trans ⟨rfl, rfl, rfl, Nat.le_refl _, fun _ _ => rfl⟩)
  clear E1 hbq hkb HV3 HKB HBW HG b3
  obtain ⟨G, recv, HM0, hget⟩ := D.get
  have HM : Hid (Meth iv "Get" G recv) := HM0
  have HGT : Hid (∀ y, I (k + 1) y → Calls Tryz.prog G (#[recv] ++ #[kv J.k]) y fun e w' => e = .returned (gv (ge J)) ∧ I k w' ∧ FrV S y w') := fun y hy => hget k y J hy
  have HLO : Hid (∀ i, S i → i < lim) := D.low
  clear HM0 hget
  generalize ge J = gr at *
  obtain ⟨v, is_, c⟩ := gr
  (try simp only at HF); (try simp only [gv] at HGT)
  refine wp_region_noPanic ?_
  refine wp_region_held_drew (S := (fun y => GtV y p w.heap.size iv (.map (some x.c)) (.map (some x.r)) x.m J)) (by kernel_rfl) (HS5.out) (fun hh => ?_)
  refine tl ?_ 0 rfl hh ⟨by rfl, ?_⟩ ?_
  case refine_2 => (intro w hSw; go_simp; try with_reducible rfl)
  (try simp only [gs])
  refine tl ?_ 1 rfl hh ⟨by rfl, ?_⟩ ?_
  case refine_2 => (intro w hSw; go_simp; try with_reducible rfl)
  (try simp only [gs])
  refine tl ?_ 2 rfl hh ⟨by rfl, ?_⟩ ?_
  case refine_2 => (intro w hSw; go_simp; try with_reducible rfl)
  (try simp only [gs])
  refine tl ?_ 3 rfl hh ⟨by rfl, ?_⟩ ?_
  case refine_2 => (intro w hSw; have hc := hSw.cell0; go_simp; try with_reducible rfl)
  (try simp only [gs])
  refine tk 4 rfl hh (yieldsIf_load_mid (by rfl) _ _ rfl _ _ rfl _ _ (fun y h => GtV.key h) Tryz.underlying54 rfl (by rw [HKL.out]; exact HCK.out)) ?_
  (try simp only [gs])
  generalize hy5 : y4.drew = y5 at *
  refine wpAnyH_ready (rs := [5]) (by kernel_rfl) (by simp) (AllReadyH.cons rfl (fun K hK => ?_) AllReadyH.nil)
  rw [if_pos (by rfl)]
  (try simp only [gs])
  refine wp_invoke1 (.tmp 35) "Get" (.tmp 36) 54 rfl iv G recv (kv J.k) rfl HM.out rfl (HGT.out y5 HI5.out) ?_
  rintro e y6 ⟨rfl, hi6, hfr⟩
  refine ⟨_, rfl, ?_⟩
  have hb6 : y6.heap[p]? = y5.heap[p]? := hfr.block _ (lt_of_block hh.blk) (fun q => by have := HLO.out _ q; have := HOL.out p (.inl rfl); omega)
  have hq6 : y6.heap[w.heap.size]? = y5.heap[w.heap.size]? := hfr.block _ hh.box.lt (fun q => by have := HLO.out _ q; have := HLW.out; omega)
  refine hK.out _ _ ⟨hb6.trans hh.blk, ⟨J.h, hq6.trans hh.box.blk⟩⟩ (fun g1 => ?_)
  clear hK K
  (try simp only [gs])
  refine tl ?_ 6 rfl g1 ⟨by rfl, ?_⟩ ?_
  case refine_2 => (intro w hSw; go_simp; try with_reducible rfl)
  (try simp only [gs])
  refine tl ?_ 7 rfl g1 ⟨by rfl, ?_⟩ ?_
  case refine_2 => (intro w hSw; go_simp; try with_reducible rfl)
  (try simp only [gs])
  refine tl ?_ 8 rfl g1 ⟨by rfl, ?_⟩ ?_
  case refine_2 => (intro w hSw; go_simp; try with_reducible rfl)
  (try simp only [gs])
  refine tl ?_ 9 rfl g1 ⟨by rfl, ?_⟩ ?_
  case refine_2 => (intro w hSw; go_simp; try with_reducible rfl)
  (try simp only [gs])
  refine tl ?_ 10 rfl g1 ⟨by rfl, ?_⟩ ?_
  case refine_2 => (intro w hSw; go_simp; try with_reducible rfl)
  (try simp only [gs])
  refine tl ?_ 11 rfl g1 ⟨by rfl, ?_⟩ ?_
  case refine_2 => (intro w hSw; go_simp; try with_reducible rfl)
  (try simp only [gs])
  refine tl ?_ 12 rfl g1 ⟨by rfl, ?_⟩ ?_
  case refine_2 => (intro w hSw; go_simp; try with_reducible rfl)
  (try simp only [gs])
  refine wpAnyH_done (by kernel_rfl) ?_ _
  refine NoPanic.normal ?_
  clear hb6 hq6
  rw [← hy5] at hfr
  clear hy5
  have HV6 : Hid (VGo S w p iv x { V with R := V.R ++ [oneSp J] } y6 { x with n := x.n + 1 } ∧ I k y6) := by
   have E := HE1.out.go S
   exact ⟨⟨(show VwIn y4.drew p iv _ _ from E.vw.called ⟨rfl, rfl, rfl, Nat.le_refl _, fun _ _ => rfl⟩).based hfr HLO.out (fun i hi => (HE1.out.own i hi).elim (HOL.out i) (fun q => Nat.le_trans HLW.out q)), E.more, (E.fr.trans (FrV.of_below ⟨rfl, rfl, rfl, Nat.le_refl _, fun _ _ => rfl⟩ : FrV (fun i => x.own p i ∨ S i) y4 y4.drew) (fun i hi => .inl hi)).trans hfr (fun i hi => .inl (.inr hi)), E.own⟩, hi6⟩
  clear g1 hh hfr hi6 HS5 HI5 HE1 HGT HM HKL HCK
  by_cases hc : c = 0
  · subst hc
    cases is_ with
    | true =>
     go_wp2_with fail
     go_ret3
     refine ⟨by rw [HF.out]; rfl, HV6.out.2, ?_⟩
     rw [HW.out]
     exact HV6.out.1
    | false =>
     go_wp2_with fail
     go_ret3
     refine ⟨by rw [HF.out]; rfl, HV6.out.2, ?_⟩
     rw [HW.out]
     exact HV6.out.1
  · have hcb : (c != 0) = true := by simpa using hc
    have HF2 : Hid (RES = ([], false, c)) := (show _ = _ by rw [HF.out, if_pos (.inl hc)])
    clear hc HF
    go_wp2_with fail
    go_ret3
    refine ⟨by rw [HF2.out]; rfl, HV6.out.2, ?_⟩
    rw [HW.out]
    exact HV6.out.1
end
end Go.Proofs.YtdmindhjmjnagaaGreatDoor
