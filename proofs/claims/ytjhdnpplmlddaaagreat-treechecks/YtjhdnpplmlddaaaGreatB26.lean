import Derived.Test.YtjhdnpplmlddaaaGreatSi
import Derived.Test.YtjhdnpplmlddaaaGreatB25
/- The Memory of package tree: Dec, Get. -/
namespace Go.Proofs.YtjhdnpplmlddaaaGreat
set_option linter.unusedVariables false
open Go.RowKit

def delN (N : Int → Option NV) (n : Int) : Int → Option NV := fun k => if k = n then none else N k
def putN (N : Int → Option NV) (n : Int) (x : NV) : Int → Option NV := fun k => if k = n then some x else N k
theorem delN_map (N : Int → Option NV) (n : Int) : delAt (fun k => (N k).map nvOf) n = fun k => (delN N n k).map nvOf := by
  funext k
  unfold delAt delN
  split <;> rfl
theorem putN_map (N : Int → Option NV) (n : Int) (x : NV) : putAt (fun k => (N k).map nvOf) n (nvOf x) = fun k => (putN N n x k).map nvOf := by
  funext k
  unfold putAt putN
  split <;> rfl
set_option maxHeartbeats 4000000 in
set_option maxRecDepth 100000 in
theorem mdec_calls (w : World) (p q b m K L : Nat) (S : RfS) (N : Int → Option NV) (n : Int) (h : Mm w p q b m K L S N) (hn : I64 n) (hK : K ≤ 1000000) : Calls Tryz.prog 117 #[.pointer (some ⟨p, 0, none⟩), .int .i64 n] w fun e w' => e = .returned (.tuple #[.bool (S.last n), .int .i64 (incE S n)]) ∧ Mm w' p q b m (K + 1) L (S.dec n) (if S.last n then delN N n else N) ∧ FrM q b m w w' := by
  obtain ⟨c0, c1⟩ := h.cells
  have hc := dec_calls w q b K S n h.rf hn hK
  have HM : Hid (Mm w p q b m K L S N) := h
  have HN : Hid (I64 n) := hn
  have HE : Hid (incE S n = if S.need n = 0 then 0 else 1) := rfl
  have HLA : Hid (S.last n = decide (S.need n = 0 ∧ cnt S.L n = 1)) := rfl
  have HG : Hid (∀ z, RGo w q b K (S.dec n) z → Mm z p q b m (K + 1) L (S.dec n) N ∧ FrM q b m w z) := fun z hz => by
    have f : FrM q b m w z := FrM.of_touch hz.2
    have hl := HM.out.lt
    have ha := HM.out.ap
    exact ⟨⟨(f.block p hl.1 ha.1 ha.2.1 ha.2.2.1).trans HM.out.blk, hz.1, HM.out.mp.kept (hz.2.block m hl.2.2.2 (fun e => ha.2.2.2.1 e.symm) (fun e => by cases e; exact ha.2.2.2.2 rfl)), fun k x hx => ⟨HM.out.parts f hx, (HM.out.pt k x hx).2⟩, ha⟩, f⟩
  clear h hn
  generalize S.dec n = S1 at *
  by_cases h0 : S.need n = 0
  rotate_left
  · have h0' : (S.need n != 0) = true := by simpa using h0
    have HF : Hid (incE S n = 1 ∧ S.last n = false) := (show _ ∧ _ from ⟨by rw [HE.out, if_neg h0], by rw [HLA.out]; exact decide_eq_false (fun q => h0 q.1)⟩)
    clear h0
    rw [HF.out.2] at hc
    rw [HF.out.2]
    go_enter Tryz.func117, Tryz.ntmps117
    go_wp2_with (go_at_call 120; refine hc.mono ?_; rintro e w1 ⟨rfl, g1⟩)
    go_ret2
    exact ⟨by rw [HF.out.1]; rfl, HG.out _ g1⟩
  · rw [h0] at hc
    have HF : Hid (incE S n = 0) := (show _ = _ by rw [HE.out, if_pos h0])
    clear h0 HE HLA
    cases hla : S.last n with
    | false =>
      rw [hla] at hc
      go_enter Tryz.func117, Tryz.ntmps117
      go_wp2_with (go_at_call 120; refine hc.mono ?_; rintro e w1 ⟨rfl, g1⟩)
      go_ret2
      exact ⟨by rw [HF.out]; rfl, HG.out _ g1⟩
    | true =>
      rw [hla] at hc
      go_enter Tryz.func117, Tryz.ntmps117
      go_upto_region 4 with (go_at_call 120; refine hc.mono ?_; rintro e w1 ⟨rfl, g1⟩)
      have HG1 : Hid (Mm w1 p q b m (K + 1) L S1 N ∧ FrM q b m w w1) := HG.out _ g1
      obtain ⟨d0, d1⟩ := HG1.out.1.cells
      clear g1 c0 c1 HG hc
      go_wp2_with (at_delete; refine wpList_delete_n w1 rfl (.tmp 23) (.tmp 24) rfl m L _ rfl HG1.out.1.mp n HN.out rfl ?_; intro w2 mp2 gr2)
      go_ret2
      have f2 : FrM q b m w1 w2 := FrM.of_grown gr2
      have M1 := HG1.out.1
      have hl := M1.lt
      have ha := M1.ap
      refine ⟨by rw [HF.out]; rfl, ⟨(f2.block p hl.1 ha.1 ha.2.1 ha.2.2.1).trans M1.blk, M1.rf.kept (gr2.block q hl.2.1 (fun e => by cases e; exact ha.2.2.2.1 rfl)) (gr2.block b hl.2.2.1 (fun e => by cases e; exact ha.2.2.2.2 rfl)), (by rw [delN_map] at mp2; exact mp2), fun k x hx => ?_, ha⟩, HG1.out.2.trans f2⟩
      unfold delN at hx
      split at hx
      · cases hx
      · exact ⟨M1.parts f2 hx, (M1.pt k x hx).2⟩
/-- What a memory tells of a number. -/
def getM (N : Int → Option NV) (n : Int) : Nod × Int := match N n with | some x => (x.1, 0) | none => (nilN, 12)
theorem ElsN.lim {y : World} {sv : Value} {l : List El} {B : Nat} (h : ElsN y sv l B) : Lim (fun k => B ≤ k) sv := fun a n c e h0 => by
  obtain ⟨⟨r, ⟨ad, cap, e1, _, _, _, hc⟩, h2, _⟩, _⟩ := h
  rw [e] at e1
  cases e1
  rcases hc with hc | ⟨g, off, q1, q2, _, _⟩
  · rw [hc] at h0; simp at h0
  · cases q1; exact (h2 g q2).1
set_option maxHeartbeats 4000000 in
set_option maxRecDepth 100000 in
theorem mget_calls (w : World) (p q b m K L : Nat) (S : RfS) (N : Int → Option NV) (n : Int) (h : Mm w p q b m K L S N) (hn : I64 n) : Calls Tryz.prog 32 #[.pointer (some ⟨p, 0, none⟩), .int .i64 n] w (ReadTo 0 w (getM N n)) := by
  have B0 : Below w.heap.size w (w.alloc (.cells #[.int .i64 0, .slice none 0 0, .slice none 0 0] 60)) := (Below.refl _ w).alloc (Nat.le_refl _) _
  have M0 := h.below B0 (Nat.le_refl _)
  have HN0 : Hid (HasN (w.alloc (.cells #[.int .i64 0, .slice none 0 0, .slice none 0 0] 60)) w.heap.size nilN (.slice none 0 0) (.slice none 0 0)) := HasN.new w nilN _ _ _ rfl rfl rfl
  obtain ⟨c0, c1⟩ := M0.cells
  have hl := M0.mp.look hn
  have HB0 : Hid (Below w.heap.size w (w.alloc (.cells #[.int .i64 0, .slice none 0 0, .slice none 0 0] 60))) := B0
  cases hN : N n with
  | none =>
    rw [hN] at hl
    have HF : Hid (getM N n = (nilN, 12)) := (show _ = _ by rw [getM, hN])
    clear h hn B0 M0
    simp only [Option.map_none, Option.getD_none, Option.isSome_none] at hl
    go_enter Tryz.func32, Tryz.ntmps32
    go_upto_region 1 with fail
    go_upto_region 2 with (refine store_node rfl _ _ rfl (w.heap.size + 1) rfl nilN (.slice none 0 0) (.slice none 0 0) rfl rfl rfl nilN (.slice none 0 0) (.slice none 0 0) (HasN.new _ nilN (.slice none 0 0) (.slice none 0 0) _ (by simp) rfl rfl) ?_; intro x2 hu2 tx2 sx2)
    have Z2 : HasN x2 w.heap.size nilN (.slice none 0 0) (.slice none 0 0) := (HN0.out.alloc _).touch tx2 (by omega)
    have B2 : Below w.heap.size w x2 := below_touched (HB0.out.alloc (by simp) _) tx2 (by omega) (Nat.le_refl _)
    clear hu2 tx2 sx2 hl c0 c1
    go_wp2_with (first
      | (refine build_any rfl 60 _ rfl [] rfl _ Tryz.node0 ?_)
      | (refine store_node rfl _ _ rfl w.heap.size rfl nilN (.slice none 0 0) (.slice none 0 0) rfl rfl rfl nilN (.slice none 0 0) (.slice none 0 0) Z2 ?_; intro y hy ty sy))
    refine ret_node_ok rfl _ _ _ _ _ rfl rfl hy rfl ?_
    rw [HF.out]
    exact ⟨_, _, rfl, Parts.nil _, below_touched B2 ty (Nat.le_refl _) (Nat.le_refl _), Lim.nil _ _ _, Lim.nil _ _ _⟩
  | some x =>
    obtain ⟨X, pv, qv⟩ := x
    rw [hN] at hl
    have HF : Hid (getM N n = (X, 0)) := (show _ = _ by rw [getM, hN])
    obtain ⟨P0, hnl, h20, _, _⟩ := h.pt n _ hN
    have HP0 : Hid (Parts w X pv qv ∧ (NilOk pv ∧ NilOk qv) ∧ (X.ps.length ≤ 20 ∧ X.ks.length ≤ 20)) := ⟨P0, hnl, h20⟩
    clear h hn B0 M0 P0 hnl h20
    simp only [Option.map_some, Option.getD_some, Option.isSome_some, nvOf] at hl
    go_enter Tryz.func32, Tryz.ntmps32
    go_upto_region 1 with fail
    go_upto_region 2 with (refine store_node rfl _ _ rfl (w.heap.size + 1) rfl X pv qv rfl HP0.out.1.p.one HP0.out.1.q.one nilN (.slice none 0 0) (.slice none 0 0) (HasN.new _ nilN (.slice none 0 0) (.slice none 0 0) _ (by simp) rfl rfl) ?_; intro x2 hu2 tx2 sx2)
    have Z2 : HasN x2 w.heap.size nilN (.slice none 0 0) (.slice none 0 0) := (HN0.out.alloc _).touch tx2 (by omega)
    have B2 : Below w.heap.size w x2 := below_touched (HB0.out.alloc (by simp) _) tx2 (by omega) (Nat.le_refl _)
    have ha := apart_node x2 X pv qv (HP0.out.1.below B2) HP0.out.2.2 HP0.out.2.1
    clear tx2 sx2 hl c0 c1
    go_wp2_with (first
      | (refine load_node _ rfl (w.heap.size + 1) rfl rfl _ _ _ hu2 ?_)
      | (go_at_call 56; refine ha.mono ?_; rintro e w3 ⟨tp, tq, rfl, en1, en2, b3⟩)
      | (refine store_node rfl _ _ rfl w.heap.size rfl X tp tq rfl en1.els.one en2.els.one nilN (.slice none 0 0) (.slice none 0 0) (Z2.below b3 Z2.lt) ?_; intro y hy ty sy))
    refine ret_node_ok rfl _ _ _ _ _ rfl rfl hy rfl ?_
    rw [HF.out]
    have hs2 := B2.size
    exact ⟨_, _, rfl, (⟨en1.els, en2.els⟩ : Parts w3 X tp tq).touchN (Z2.below b3 Z2.lt) ty, below_touched (B2.trans (b3.mono B2.size)) ty (Nat.le_refl _) (Nat.le_refl _), en1.lim.mono (fun k hk => .inr (by omega)), en2.lim.mono (fun k hk => .inr (by omega))⟩
theorem callFunc_go {f : FuncId} {fn : Func} {c : Code} (hf : Tryz.prog.funcs[f]? = some fn) (hname : (fn.name == "runtime.NumGoroutine") = false) (hb : fn.body = some c) (args : Array Value) (w : World) : (callFunc f args).run Tryz.prog w = .ok (.enter f args) w := by
  have h1 : fn.name ≠ "runtime.NumGoroutine" := by simpa using hname
  simp [callFunc, hf, h1, hb]
theorem meth_of {P : Program} {T : TypeId} {recv : Value} {name : String} {F : FuncId} (hm : ∀ w, (Go.method (P.types.size + Made.depth) T recv name).run P w = .ok (F, recv) w) (hc : ∀ args w, (callFunc F args).run P w = .ok (.enter F args) w) (w : World) (args : Array Value) :
    (invoke (.fn (.method name) #[]) (#[.iface T recv] ++ args)).run P w = .ok (.enter F (#[recv] ++ args)) w := by
  obtain ⟨l⟩ := args
  have h1 : (Go.method (P.types.size + 100) T recv name).run P w = .ok (F, recv) w := hm w
  have h2 := hc (#[recv] ++ ⟨l⟩) w
  simp only [invoke, callMethod, List.append_toArray, List.cons_append, List.nil_append, List.getElem?_toArray, List.getElem?_cons_zero] at h2 ⊢
  simp [go_sem, h1, h2, Result.andThen]
/-- A memory is somebody that has nodes by numbers. -/
theorem mem_meth (p : Nat) : Meth (.iface 29 (.pointer (some ⟨p, 0, none⟩))) "Get" 32 (.pointer (some ⟨p, 0, none⟩)) := fun w args => by
  exact meth_of (P := Tryz.prog) (fun w => by kernel_rfl) (fun args w => callFunc_go Tryz.func32 (by kernel_rfl) (by rfl) args w) w args
theorem mem_getter (p q b m K L : Nat) (S : RfS) (N : Int → Option NV) : Getter 0 (fun w => Mm w p q b m K L S N) (.iface 29 (.pointer (some ⟨p, 0, none⟩))) (getM N) where
  get := ⟨32, _, mem_meth p, fun w n hR hn => mget_calls w p q b m K L S N n hR hn⟩
  mono := fun w w' h b => h.below b (Nat.le_refl _)
  ifc := ⟨_, _, rfl⟩
end Go.Proofs.YtjhdnpplmlddaaaGreat
/- The Memory of package tree: Put, NewMemory. -/
namespace Go.Proofs.YtjhdnpplmlddaaaGreat
set_option linter.unusedVariables false
open Go.RowKit

theorem wp_store_n (w : World) {o : Oper} {a : Act} {K : Act → World → Prop} {Q : Exit → Act → World → Prop} (mm x v : Operand) (hop : o.op = Op.mapUpdate 69 mm x v)
    (b n : Nat) (f : Int → Option Value) (hm : a.eval mm = .map (some b)) (h : MapN w b n f) (hn : n < maxLen) (k : Int) (hk : I64 k) (hx : a.eval x = .int .i64 k) (u : Value) (hv : a.eval v = u)
    (hK : ∀ w', MapN w' b (n + 1) (putAt f k u) → w.grownBy w' (some b) → K (a.put o.dst undef) w') : o.wp Tryz.prog a w K Q := by
  obtain ⟨w', hrun, r1, r2⟩ := h.store hn hk u
  unfold Oper.wp
  simp [execOp, hop, hm, hx, hv, hrun, Result.andThen]
  exact hK w' r1 r2
theorem Mm.put {y z : World} {p q b m K L : Nat} {S : RfS} {N : Int → Option NV} (h : Mm y p q b m K L S N) (B : Nat) {X : Nod} {tp tq : Value} {n : Int} (hl : p < B ∧ q < B ∧ b < B ∧ m < B) (e1 : ElsN y tp (X.ps.map Pr.el) B) (e2 : ElsN y tq (X.ks.map Kd.el) B) (h20 : X.ps.length ≤ 20 ∧ X.ks.length ≤ 20)
    (mp : MapN z m (L + 1) (putAt (fun k => (N k).map nvOf) n (nv X tp tq))) (gr : y.grownBy z (some m)) : Mm z p q b m K (L + 1) S (putN N n (X, tp, tq)) := by
  have f : FrM q b m y z := FrM.of_grown gr
  have hlt := h.lt
  have ha := h.ap
  refine ⟨(f.block p hlt.1 ha.1 ha.2.1 ha.2.2.1).trans h.blk, h.rf.kept (gr.block q hlt.2.1 (fun e => by cases e; exact ha.2.2.2.1 rfl)) (gr.block b hlt.2.2.1 (fun e => by cases e; exact ha.2.2.2.2 rfl)), ?_, fun k x hx => ?_, ha⟩
  · have := putN_map N n (X, tp, tq)
    rw [← this]
    exact mp
  · unfold putN at hx
    split at hx
    · cases hx
      have l1 := e1.lim
      have l2 := e2.lim
      refine ⟨⟨e1.els.keptL (fun a c d e h0 => gr.block _ (e1.els.lim a c d e h0) (fun q => ?_)) gr.size, e2.els.keptL (fun a c d e h0 => gr.block _ (e2.els.lim a c d e h0) (fun q => ?_)) gr.size⟩, ⟨e1.2, e2.2⟩, h20, l1.mono (fun k hk => ⟨by omega, by omega, by omega, by omega⟩), l2.mono (fun k hk => ⟨by omega, by omega, by omega, by omega⟩)⟩
      · have := l1 a c d e h0
        cases q
        omega
      · have := l2 a c d e h0
        cases q
        omega
    · exact ⟨h.parts f hx, (h.pt k x hx).2⟩
/-- What Put comes to. -/
def PutTo (w : World) (p q b m K L : Nat) (S : RfS) (N : Int → Option NV) (X : Nod) (e : Ending) (w' : World) : Prop :=
  FrM q b m w w' ∧ ((rightN X = false ∧ e = .returned (.tuple #[.int .i64 0, .int .i64 1]) ∧ Mm w' p q b m K L S N) ∨ (rightN X = true ∧ S.took = false ∧ e = .returned (.tuple #[.int .i64 0, .int .i64 7]) ∧ Mm w' p q b m (K + 1) L S.take N) ∨ (rightN X = true ∧ S.took = true ∧ e = .returned (.tuple #[.int .i64 S.next, .int .i64 0]) ∧ ∃ tp tq, Mm w' p q b m (K + 1) (L + 1) S.take (putN N S.next (X, tp, tq))))
set_option maxHeartbeats 8000000 in
set_option maxRecDepth 100000 in
theorem mput_calls (w : World) (p q b m K0 L : Nat) (S : RfS) (N : Int → Option NV) (X : Nod) (pv qv : Value) (h : Mm w p q b m K0 L S N) (hP : Parts w X pv qv) (hn : NilOk pv ∧ NilOk qv) (hK : K0 ≤ 1000000) (hL : L ≤ 1000000) (hnx : I64 S.next)
    (hap : Lim (fun k => k ≠ q ∧ k ≠ b ∧ k ≠ m) pv ∧ Lim (fun k => k ≠ q ∧ k ≠ b ∧ k ≠ m) qv) : Calls Tryz.prog 119 #[.pointer (some ⟨p, 0, none⟩), nv X pv qv] w (PutTo w p q b m K0 L S N X) := by
  have hlt := h.lt
  have B0 : Below w.heap.size w (w.alloc (.cells (nc X pv qv) 60)) := (Below.refl _ w).alloc (Nat.le_refl _) _
  have HN0 : Hid (HasN (w.alloc (.cells (nc X pv qv) 60)) w.heap.size X pv qv) := HasN.new w X _ _ _ rfl hP.p.one hP.q.one
  have hr0 := right_calls _ X pv qv (hP.below B0)
  have HM : Hid (Mm w p q b m K0 L S N) := h
  have HB0 : Hid (Below w.heap.size w (w.alloc (.cells (nc X pv qv) 60))) := B0
  have HP0 : Hid (Parts w X pv qv) := hP
  have HNL : Hid (NilOk pv ∧ NilOk qv) := hn
  have HAP : Hid (Lim (fun k => k ≠ q ∧ k ≠ b ∧ k ≠ m) pv ∧ Lim (fun k => k ≠ q ∧ k ≠ b ∧ k ≠ m) qv) := hap
  have HNM : Hid (w.heap.size ≠ m ∧ w.heap.size ≠ q ∧ w.heap.size ≠ b) := (show _ ∧ _ ∧ _ from ⟨by omega, by omega, by omega⟩)
  have HLM0 : Hid (K0 ≤ 1000000) := hK
  have HLM : Hid (L < maxLen) := (show _ < _ by unfold maxLen; omega)
  have HNX0 : Hid (I64 S.next) := hnx
  clear hn hap hlt hnx hL hK hP h B0
  cases hr : rightN X with
  | false =>
    rw [hr] at hr0
    have HR : Hid (rightN X = false) := hr
    clear hr
    go_enter Tryz.func119, Tryz.ntmps119
    go_wp2_with (first
      | (refine load_node _ rfl w.heap.size rfl rfl _ _ _ HN0.out ?_)
      | (go_at_call 61; refine hr0.mono ?_; rintro e w1 ⟨rfl, b1⟩))
    go_ret2
    have B1 : Below w.heap.size w w1 := HB0.out.trans (b1.mono (by simp))
    exact ⟨FrM.of_below B1, .inl ⟨HR.out, rfl, HM.out.below B1 (Nat.le_refl _)⟩⟩
  | true =>
    rw [hr] at hr0
    have HR : Hid (rightN X = true) := hr
    have FX := fits hr
    have H20 : Hid (X.ps.length ≤ 20 ∧ X.ks.length ≤ 20) := ⟨by have := FX.np; omega, by have := FX.nk; omega⟩
    clear hr FX
    go_enter Tryz.func119, Tryz.ntmps119
    go_upto_region 3 with (first
      | (refine load_node _ rfl w.heap.size rfl rfl _ _ _ HN0.out ?_)
      | (go_at_call 61; refine hr0.mono ?_; rintro e w0 ⟨rfl, b0⟩))
    have B1 : Below w.heap.size w w0 := HB0.out.trans (b0.mono (by simp))
    have M0 := HM.out.below B1 (Nat.le_refl _)
    obtain ⟨c0, c1⟩ := M0.cells
    have htk := take_calls w0 q b K0 S M0.rf HLM0.out
    have HG : Hid (∀ z, RGo w0 q b K0 S.take z → (Mm z p q b m (K0 + 1) L S.take N ∧ FrM q b m w z) ∧ HasN z w.heap.size X pv qv ∧ Parts z X pv qv) := fun z hz => by
      have f : FrM q b m w0 z := FrM.of_touch hz.2
      have hl := M0.lt
      have ha := M0.ap
      have N1 := HN0.out.below b0 (by simp)
      have P1 := HP0.out.below B1
      refine ⟨⟨⟨(f.block p hl.1 ha.1 ha.2.1 ha.2.2.1).trans M0.blk, hz.1, M0.mp.kept (hz.2.block m hl.2.2.2 (fun e => ha.2.2.2.1 e.symm) (fun e => by cases e; exact ha.2.2.2.2 rfl)), fun k x hx => ⟨M0.parts f hx, (M0.pt k x hx).2⟩, ha⟩, (FrM.of_below B1).trans f⟩, N1.same (f.block _ N1.lt HNM.out.2.1 HNM.out.2.2 HNM.out.1), ?_⟩
      exact ⟨P1.p.keptL (fun a c d e h0 => f.block _ (P1.p.lim a c d e h0) (HAP.out.1 a c d e h0).1 (HAP.out.1 a c d e h0).2.1 (HAP.out.1 a c d e h0).2.2) f.size, P1.q.keptL (fun a c d e h0 => f.block _ (P1.q.lim a c d e h0) (HAP.out.2 a c d e h0).1 (HAP.out.2 a c d e h0).2.1 (HAP.out.2 a c d e h0).2.2) f.size⟩
    have HTN : Hid (S.took = true → S.tookN = S.next) := fun q => by
      unfold RfS.took at q
      unfold RfS.tookN
      rw [if_neg (fun e => by rw [e] at q; simp at q)]
    have HTF : Hid (S.took = false → S.tookN = 0) := fun q => by
      unfold RfS.took at q
      unfold RfS.tookN
      rw [if_pos (by simpa using q)]
    clear M0 b0 B1 hr0 HN0 HB0 HP0 HAP
    cases htk0 : S.took with
    | false =>
      rw [htk0] at htk
      have HT : Hid (S.took = false) := htk0
      clear htk0
      go_wp2_with (go_at_call 122; refine htk.mono ?_; rintro e w1 ⟨rfl, g1⟩)
      go_ret2
      exact ⟨(HG.out _ g1).1.2, .inr (.inl ⟨HR.out, HT.out, rfl, (HG.out _ g1).1.1⟩)⟩
    | true =>
      rw [htk0, HTN.out htk0] at htk
      have HT : Hid (S.took = true) := htk0
      obtain ⟨NX, hNX⟩ : ∃ NX, NX = S.next := ⟨_, rfl⟩
      have HNX : Hid (I64 NX) := (show I64 NX by rw [hNX]; exact HNX0.out)
      have HNE : Hid (NX = S.next) := hNX
      rw [← hNX] at htk
      clear htk0 hNX HTN HTF HNX0
      go_upto_region 6 with (go_at_call 122; refine htk.mono ?_; rintro e w1 ⟨rfl, g1⟩)
      have HG1 : Hid (Mm w1 p q b m (K0 + 1) L S.take N ∧ FrM q b m w w1) := (HG.out _ g1).1
      have HB1 : Hid (HasN w1 w.heap.size X pv qv ∧ w1.cell? ⟨p, 1, none⟩ = some (.map (some m))) := ⟨(HG.out _ g1).2.1, HG1.out.1.cells.2⟩
      have HP1 : Hid (Parts w1 X pv qv) := (HG.out _ g1).2.2
      clear g1 HG htk c0 c1 HM
      refine wp_region_noPanic ?_
      refine wp_region_held_drew (S := (fun y => HasN y w.heap.size X pv qv ∧ y.cell? ⟨p, 1, none⟩ = some (.map (some m)))) (by kernel_rfl) ⟨HB1.out.1.same rfl, HB1.out.2⟩ (fun hHeld => ?_)
      refine wpAnyH_take (i := 0) (v := ?_) rfl (by kernel_rfl) (by kernel_rfl) (by kernel_rfl) (fun _ _ _ h => h) (Or.inl ⟨by rfl, ?_⟩) hHeld ?_
      case refine_2 => (intro w hSw; (try dsimp only at hSw); go_simp; try (with_reducible rfl))
      (try simp only [gs])
      refine wpAnyH_take (i := 1) (v := ?_) rfl (by kernel_rfl) (by kernel_rfl) (by kernel_rfl) (fun _ _ _ h => h) (Or.inl ⟨by rfl, ?_⟩) hHeld ?_
      case refine_2 => (intro w hSw; (try dsimp only at hSw); go_simp; try (with_reducible rfl))
      (try simp only [gs])
      refine wpAnyH_take (i := 2) (v := ?_) rfl (by kernel_rfl) (by kernel_rfl) (by kernel_rfl) (fun _ _ _ h => h) (Or.inl ⟨by rfl, ?_⟩) hHeld ?_
      case refine_2 => (intro w hSw; (try dsimp only at hSw); go_simp; try (with_reducible rfl))
      (try simp only [gs])
      refine wpAnyH_take (i := 3) (v := ?_) rfl (by kernel_rfl) (by kernel_rfl) (by kernel_rfl) (fun _ _ _ h => h) (Or.inl ⟨by rfl, ?_⟩) hHeld ?_
      case refine_2 => (intro w hSw; (try dsimp only at hSw); have c1 := hSw.2; go_simp; try (with_reducible rfl))
      (try simp only [gs])
      refine wpAnyH_take (i := 4) (v := ?_) rfl (by kernel_rfl) (by kernel_rfl) (by kernel_rfl) (fun _ _ _ h => h) (Or.inl ⟨by rfl, ?_⟩) hHeld ?_
      case refine_2 => (intro w hSw; (try dsimp only at hSw); go_simp; try (with_reducible rfl))
      (try simp only [gs])
      refine wpAnyH_take (i := 5) rfl (by kernel_rfl) (by kernel_rfl) (by kernel_rfl) (fun _ _ _ h => h) (yieldsIf_load_mid (by rfl) _ _ rfl _ _ rfl _ _ (fun _ h => h.1.range) Tryz.underlying60 rfl Tryz.node_info) hHeld ?_
      (try simp only [gs])
      have PY : Parts w1.drew X pv qv := HP1.out.below ⟨rfl, rfl, rfl, Nat.le_refl _, fun _ _ => rfl⟩
      have MY : Mm w1.drew p q b m (K0 + 1) L S.take N := HG1.out.1.below (B := w1.heap.size) ⟨rfl, rfl, rfl, Nat.le_refl _, fun _ _ => rfl⟩ (Nat.le_refl _)
      have FY : FrM q b m w w1.drew := HG1.out.2.trans (FrM.of_below ⟨rfl, rfl, rfl, Nat.le_refl _, fun _ _ => rfl⟩)
      generalize w1.drew = y0 at *
      refine wpAnyH_ready (rs := [6]) (by kernel_rfl) (by simp) (AllReadyH.cons rfl (fun K hK => ?_) AllReadyH.nil)
      rw [if_pos (by rfl)]
      (try simp only [gs])
      go_simp
      refine (apart_node y0 X pv qv PY H20.out HNL.out).mono ?_
      rintro e y1 ⟨tp, tq, rfl, en1, en2, b1⟩
      refine hK.out _ _ ⟨hHeld.1.below b1 hHeld.1.lt, (World.cell?_of_block (b1.block p MY.lt.1)).trans hHeld.2⟩ (fun g1 => ?_)
      clear hK K
      (try simp only [gs])
      have M1 := MY.below b1 (Nat.le_refl _)
      have F1 := FY.trans (FrM.of_below (q := q) (b := b) (m := m) b1)
      refine wpAnyH_ready (rs := [7]) (by kernel_rfl) (by simp) (AllReadyH.cons rfl (fun K hK => ?_) AllReadyH.nil)
      rw [if_pos (by rfl)]
      (try simp only [gs])
      refine wp_store_n y1 (.tmp 24) (.tmp 25) (.tmp 27) rfl m L _ rfl M1.mp HLM.out NX HNX.out rfl (nv X tp tq) rfl ?_
      intro y2 mp2 gr2
      have F2 : FrM q b m w y2 := F1.trans (FrM.of_grown gr2)
      have HFIN : Hid (Mm y2 p q b m (K0 + 1) (L + 1) S.take (putN N NX (X, tp, tq)) ∧ FrM q b m w y2) := ⟨M1.put (y0.heap.size) MY.lt en1 en2 H20.out mp2 gr2, F2⟩
      have hpm := MY.ap.2.2.1
      have hpl := MY.lt.1
      refine hK.out _ _ ⟨g1.1.same (gr2.block _ g1.1.lt (fun e => by cases e; exact HNM.out.1 rfl)), (World.cell?_of_block (gr2.block p (by have := b1.size; omega) (fun e => by cases e; exact hpm rfl))).trans g1.2⟩ (fun g2 => ?_)
      clear hK K
      (try simp only [gs])
      refine wpAnyH_done (by kernel_rfl) ?_ _
      refine NoPanic.normal ?_
      go_wp2_with fail
      go_ret2
      exact ⟨HFIN.out.2, .inr (.inr ⟨HR.out, HT.out, by rw [← HNE.out]; rfl, tp, tq, by rw [← HNE.out]; exact HFIN.out.1⟩)⟩
end Go.Proofs.YtjhdnpplmlddaaaGreat
/- The Memory of package tree: NewMemory; Clone. -/
namespace Go.Proofs.YtjhdnpplmlddaaaGreat
set_option linter.unusedVariables false
open Go.RowKit

def clampM (n : Int) : Int := min (max n 0) 1048576
theorem Tryz.mem_built (q m : Nat) : Tryz.prog.built 71 [(0, .pointer (some ⟨q, 0, none⟩)), (1, .map (some m))] = some #[.pointer (some ⟨q, 0, none⟩), .map (some m)] := by kernel_rfl
theorem make_mapN (w : World) : (Instr.makeMap 69 none).run Tryz.prog w = .ok (.map (some w.heap.size)) (w.alloc (.map #[] 0)) := by
  simp [Instr.makeMap, go_sem]
set_option maxHeartbeats 4000000 in
set_option maxRecDepth 100000 in
theorem newM_calls (w : World) (n : Int) : Calls Tryz.prog 7 #[.int .i64 n] w fun e w' => ∃ p q b m, e = .returned (.pointer (some ⟨p, 0, none⟩)) ∧ Mm w' p q b m 0 0 (RfS.new (clampM n + 2)) (fun _ => none) ∧ Below w.heap.size w w' ∧ (w.heap.size ≤ p ∧ w.heap.size ≤ q ∧ w.heap.size ≤ b ∧ w.heap.size ≤ m) := by
  obtain ⟨c, hc⟩ : ∃ c, c = clampM n := ⟨_, rfl⟩
  have hcb : 0 ≤ c ∧ c ≤ 1048576 := by rw [hc]; unfold clampM; omega
  obtain ⟨x, hx⟩ : ∃ x, x = max n 0 := ⟨_, rfl⟩
  have hmx : max n 0 = x := hx.symm
  have hmn : min x 1048576 = c := by rw [hc, hx]; rfl
  have hnew := new_calls w (c + 2) ⟨by omega, by omega⟩
  have HC : Hid (c = clampM n) := hc
  have h0 := hcb.1
  have h1 := hcb.2
  clear hc hx hcb
  go_enter Tryz.func7, Tryz.ntmps7
  go_wp2_with (first
    | (go_at_call 22; refine hnew.mono ?_; rintro e w1 ⟨rfl, r1, b1⟩; have hmk := make_mapN w1)
    | (refine build_any rfl 71 _ rfl [(0, .pointer (some ⟨w.heap.size + 1, 0, none⟩)), (1, .map (some w1.heap.size))] (by simp only [List.map_toArray, List.map_cons, List.map_nil]; rfl) _ (Tryz.mem_built _ _) ?_))
  go_ret
  have hl := r1.lt
  have BA : Below w1.heap.size w1 ((w1.alloc (.map #[] 0)).alloc (.cells #[.pointer (some ⟨w.heap.size + 1, 0, none⟩), .map (some w1.heap.size)] 71)) := ((Below.refl _ w1).alloc (Nat.le_refl _) _).alloc (by simp) _
  have hbl : ((w1.alloc (.map #[] 0)).alloc (.cells #[.pointer (some ⟨w.heap.size + 1, 0, none⟩), .map (some w1.heap.size)] 71)).heap[w1.heap.size + 1]? = some (.cells #[.pointer (some ⟨w.heap.size + 1, 0, none⟩), .map (some w1.heap.size)] 71 (0, 0)) := by
    have := heap_alloc_new (w1.alloc (.map #[] 0)) (.cells #[.pointer (some ⟨w.heap.size + 1, 0, none⟩), .map (some w1.heap.size)] 71 (0, 0))
    simpa using this
  have hmp : MapN ((w1.alloc (.map #[] 0)).alloc (.cells #[.pointer (some ⟨w.heap.size + 1, 0, none⟩), .map (some w1.heap.size)] 71)) w1.heap.size 0 (fun _ => none) := (MapN.made w1).kept (Below.heap_alloc _ _ _ (by simp))
  refine ⟨w1.heap.size + 1, w.heap.size + 1, w.heap.size, w1.heap.size, rfl, ⟨hbl, ?_, hmp, (fun n x hx => by cases hx), by omega, by omega, by omega, by omega, by omega⟩, b1.trans (BA.mono b1.size), by omega, by omega, by omega, by omega⟩
  rw [← HC.out]
  exact r1.below BA (Nat.le_refl _)
end Go.Proofs.YtjhdnpplmlddaaaGreat
