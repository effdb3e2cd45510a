import Derived.Test.YtjhdnpplmlddaaaGreatB08
import Derived.Test.YtjhdnpplmlddaaaGreatB01
import Derived.Deep.MidRow
import Derived.Laws.OwnMore
import Derived.Deep.Onto
import Derived.Laws.AppendOwnNone
import Derived.Sort.OwnSortedInts
/- Calls through an interface; whoever has nodes by numbers; read. -/
namespace Go.Proofs.YtjhdnpplmlddaaaGreat
set_option linter.unusedVariables false
open Go.RowKit

/-- A method of an interface's value: the function that it is, and the receiver. -/
def Meth (iv : Value) (name : String) (G : FuncId) (recv : Value) : Prop :=
  ∀ (w : World) (args : Array Value), (invoke (.fn (.method name) #[]) (#[iv] ++ args)).run Tryz.prog w = .ok (.enter G (#[recv] ++ args)) w
theorem wp_invoke {o : Oper} {a : Act} {w : World} {K : Act → World → Prop} {Q : Exit → Act → World → Prop} (r : Operand) (name : String) (args : Array Operand) (tys : Array TypeId) (ho : o.op = .call { callee := .invoke r name, args := args, argTypes := tys })
    (iv : Value) (G : FuncId) (recv : Value) (hr : a.eval r = iv) (hm : Meth iv name G recv) (vs : Array Value) (hv : args.map a.eval = vs) {R : Ending → World → Prop} (hc : Calls Tryz.prog G (#[recv] ++ vs) w R)
    (h : ∀ e w', R e w' → ∃ v, e = .returned v ∧ K (a.put o.dst v) w') : o.wp Tryz.prog a w K Q := by
  have e1 : (execOp a.eval o).run Tryz.prog w = .ok (.enter G (#[recv] ++ vs)) w := by
    have := hm w vs
    simp only [execOp, ho, resolve, hv, hr]
    simpa [Result.andThen] using this
  unfold Oper.wp
  rw [e1, Oper.upon_enter]
  refine hc.mono fun e w' he => ?_
  obtain ⟨v, rfl, hk⟩ := h e w' he
  exact hk
theorem invoke_op {ops : Array Oper} {rest : List Oper} {o : Oper} {a : Act} {w : World} {Q : Exit → Act → World → Prop} (r : Operand) (name : String) (x : Operand) (ty : TypeId) (ho : o.op = .call { callee := .invoke r name, args := #[x], argTypes := #[ty] }) (hg : o.guard = none)
    (iv : Value) (G : FuncId) (recv v : Value) (hr : a.eval r = iv) (hm : Meth iv name G recv) (hv : a.eval x = v) {R : Ending → World → Prop} (hc : Calls Tryz.prog G (#[recv] ++ #[v]) w R)
    (h : ∀ e w', R e w' → ∃ v, e = .returned v ∧ wpList Tryz.prog ops Q rest (a.put o.dst v) w') : wpList Tryz.prog ops Q (o :: rest) a w :=
  wpList_plain hg fun _ hK => wp_invoke r name #[x] #[ty] ho iv G recv hr hm #[v] (by simp [hv]) hc fun e w' he => by
    obtain ⟨v, h1, h2⟩ := h e w' he
    exact ⟨v, h1, hK _ _ h2⟩
/-- A row of elements is no node's block. -/
theorem els_apart {y : World} {sv : Value} {l : List El} {r : Option Nat} {b : Nat} {X : Nod} {pv qv : Value} (h : ElsIn y sv l r) (hz : HasN y b X pv qv) : ElsIn y sv l (if l = [] then none else r) ∧ ∀ k, (if l = [] then none else r) = some k → k ≠ b := by
  obtain ⟨ad, cap, h1, h2, h3, ho, hc⟩ := h
  by_cases hl : l = []
  · rw [if_pos hl]
    exact ⟨⟨ad, cap, h1, h2, h3, ho, .inl hl⟩, fun k hk => by cases hk⟩
  · rw [if_neg hl]
    refine ⟨⟨ad, cap, h1, h2, h3, ho, hc⟩, fun k hk e => ?_⟩
    subst e
    rcases hc with hc | ⟨g, off, e1, e2, e3, e4⟩
    · exact hl hc
    · rw [hk] at e2
      cases e2
      have h0 : 0 < l.length := List.length_pos_iff.2 hl
      have := e4 0 h0 24 (l[0]).v (by have hlen := (ho 0 h0).len; rw [ec, List.getElem?_append_right (by rw [bc_length, hlen]; exact Nat.le_refl _), bc_length, hlen]; rfl)
      rw [cell_of_row y k _ _ _ _ hz.1] at this
      simp [nc] at this
theorem Els.touchN {y z : World} {sv : Value} {l : List El} {b : Nat} {X : Nod} {pv qv : Value} (h : Els y sv l) (hz : HasN y b X pv qv) (t : Touch b none y z) : Els z sv l := by
  obtain ⟨r, h1, h2⟩ := h
  obtain ⟨h3, h4⟩ := els_apart h1 hz
  have h5 : ∀ k, (if l = [] then none else r) = some k → k < y.heap.size := fun k hk => by
    split at hk
    · cases hk
    · exact h2 k hk
  exact ⟨_, h3.kept fun k hk => t.block k (h5 k hk) (h4 k hk) (by simp), fun k hk => Nat.lt_of_lt_of_le (h5 k hk) t.size⟩
theorem Parts.touchN {y z : World} {x : Nod} {av bv : Value} {b : Nat} {X : Nod} {pv qv : Value} (h : Parts y x av bv) (hz : HasN y b X pv qv) (t : Touch b none y z) : Parts z x av bv := ⟨h.p.touchN hz t, h.q.touchN hz t⟩
/-- A number that an int may be. -/
def Rng (n : Int) : Prop := -9223372036854775808 ≤ n ∧ n ≤ 9223372036854775807
/-- The row of a slice that is not empty lies in such a block. -/
def Lim (B : Nat → Prop) (sv : Value) : Prop := ∀ a n c, sv = .slice (some a) n c → 0 < n → B a.block
theorem Lim.nil (B : Nat → Prop) (n c : Nat) : Lim B (.slice none n c) := fun a _ _ e => by cases e
theorem Lim.mono {B C : Nat → Prop} {sv : Value} (h : Lim B sv) (hb : ∀ k, B k → C k) : Lim C sv := fun a n c e h0 => hb _ (h a n c e h0)
/-- Rows that were there ahead of all, or are new. -/
def LB (lim : Nat) (w : World) (k : Nat) : Prop := k < lim ∨ w.heap.size ≤ k
/-- Whoever has nodes by numbers, and is not changed by being asked. -/
structure Getter (lim : Nat) (R : World → Prop) (iv : Value) (g : Int → Nod × Int) : Prop where
  get : ∃ G recv, Meth iv "Get" G recv ∧ ∀ w n, R w → Rng n → Calls Tryz.prog G (#[recv] ++ #[.int .i64 n]) w fun e w' => ∃ pv qv, e = .returned (.tuple #[nv (g n).1 pv qv, .int .i64 (g n).2]) ∧ Parts w' (g n).1 pv qv ∧ Below w.heap.size w w' ∧ Lim (LB lim w) pv ∧ Lim (LB lim w) qv
  mono : ∀ w w', R w → Below w.heap.size w w' → R w'
  ifc : ∃ T recv, iv = .iface T recv
/-- What read tells. -/
def readP (g : Int → Nod × Int) (n lvl : Int) : Nod × Int := if (g n).2 = 0 then (if rightN (g n).1 = true ∧ (lvl = -1 ∨ (g n).1.lv = lvl) then ((g n).1, 0) else (nilN, 12)) else (nilN, (g n).2)
def ReadTo (lim : Nat) (w : World) (r : Nod × Int) (e : Ending) (w' : World) : Prop := ∃ pv qv, e = .returned (.tuple #[nv r.1 pv qv, .int .i64 r.2]) ∧ Parts w' r.1 pv qv ∧ Below w.heap.size w w' ∧ Lim (LB lim w) pv ∧ Lim (LB lim w) qv
set_option maxHeartbeats 8000000 in
set_option maxRecDepth 100000 in
theorem read_calls {lim : Nat} {R : World → Prop} {iv : Value} {g : Int → Nod × Int} (D : Getter lim R iv g) (w : World) (n lvl : Int) (hR : R w) (hn : Rng n) : Calls Tryz.prog 38 #[iv, .int .i64 n, .int .i64 lvl] w (ReadTo lim w (readP g n lvl)) := by
  obtain ⟨G, recv, hm, hget⟩ := D.get
  obtain ⟨T, rv, hiv⟩ := D.ifc
  have B0 : Below w.heap.size w (w.alloc (.cells #[.int .i64 0, .slice none 0 0, .slice none 0 0] 60)) := (Below.refl _ w).alloc (Nat.le_refl _) _
  have HN0 : Hid (HasN (w.alloc (.cells #[.int .i64 0, .slice none 0 0, .slice none 0 0] 60)) w.heap.size nilN (.slice none 0 0) (.slice none 0 0) ∧ Below w.heap.size w (w.alloc (.cells #[.int .i64 0, .slice none 0 0, .slice none 0 0] 60))) := ⟨HasN.new w nilN _ _ _ rfl rfl rfl, B0⟩
  have HC : Hid (Calls Tryz.prog G (#[recv] ++ #[.int .i64 n]) (w.alloc (.cells #[.int .i64 0, .slice none 0 0, .slice none 0 0] 60)) fun e w' => ∃ pv qv, e = .returned (.tuple #[nv (g n).1 pv qv, .int .i64 (g n).2]) ∧ Parts w' (g n).1 pv qv ∧ Below (w.alloc (.cells #[.int .i64 0, .slice none 0 0, .slice none 0 0] 60)).heap.size (w.alloc (.cells #[.int .i64 0, .slice none 0 0, .slice none 0 0] 60)) w' ∧ Lim (LB lim (w.alloc (.cells #[.int .i64 0, .slice none 0 0, .slice none 0 0] 60))) pv ∧ Lim (LB lim (w.alloc (.cells #[.int .i64 0, .slice none 0 0, .slice none 0 0] 60))) qv) := hget _ n (D.mono _ _ hR B0) hn
  have HRD : Hid (readP g n lvl = if (g n).2 = 0 then (if rightN (g n).1 = true ∧ (lvl = -1 ∨ (g n).1.lv = lvl) then ((g n).1, 0) else (nilN, 12)) else (nilN, (g n).2)) := rfl
  have HM : Hid (Meth iv "Get" G recv) := hm
  clear hget hR hn B0 D hm
  generalize readP g n lvl = RES at *
  generalize g n = gn at *
  obtain ⟨X, c⟩ := gn
  simp only at HC HRD
  subst hiv
  by_cases hc : c = 0
  · subst hc
    have HX : Hid (RES = if rightN X = true ∧ (lvl = -1 ∨ X.lv = lvl) then (X, 0) else (nilN, 12)) := (show _ = _ by rw [HRD.out, if_pos rfl])
    clear HRD
    go_enter Tryz.func38, Tryz.ntmps38
    go_upto_region 1 with fail
    go_upto_region 3 with (first
      | (refine invoke_op (.tmp 11) "Get" (.tmp 12) _ rfl rfl (.iface T rv) G recv (.int .i64 n) rfl HM.out rfl HC.out ?_; clear HC HM; rintro e w1 ⟨pv, qv, rfl, P1, b1, lm1⟩; refine ⟨_, rfl, ?_⟩)
      | (refine store_node rfl _ _ rfl w1.heap.size rfl X pv qv rfl P1.p.one P1.q.one nilN (.slice none 0 0) (.slice none 0 0) (HasN.new w1 nilN (.slice none 0 0) (.slice none 0 0) _ rfl rfl rfl) ?_; intro x2 hu2 tx2 sx2))
    have HLM : Hid (Lim (LB lim w) pv ∧ Lim (LB lim w) qv) := ⟨lm1.1.mono (fun k hk => hk.imp id (fun q => by simp at q; omega)), lm1.2.mono (fun k hk => hk.imp id (fun q => by simp at q; omega))⟩
    clear lm1
    have BS := step_below (Below.refl _ w1) _ tx2
    have hs1 := b1.size
    simp at hs1
    have Z2 : HasN x2 w.heap.size nilN (.slice none 0 0) (.slice none 0 0) := (HN0.out.1.below b1 (by simp)).below BS (by omega)
    have B2 : Below w.heap.size w x2 := (HN0.out.2.trans (b1.mono (by simp))).trans (BS.mono (by omega))
    have P2 : Parts x2 X pv qv := P1.below BS
    have hlt2 : w1.heap.size < x2.heap.size := hu2.lt
    obtain ⟨c0, c1, c2⟩ := hu2.cells
    clear BS P1 b1 tx2 sx2 HN0
    have d12 : w1.heap.size ≠ w.heap.size := by omega
    generalize w1.heap.size = d at *
    have hr0 := right_calls x2 X pv qv P2
    cases hr : rightN X with
    | false =>
      have HF : Hid (RES = (nilN, 12)) := (show _ = _ by rw [HX.out, if_neg (by rw [hr]; simp)])
      rw [hr] at hr0
      clear hr HX
      go_wp2_with (first
        | (refine load_node _ rfl d rfl rfl _ _ _ hu2 ?_)
        | (go_at_call 61; refine hr0.mono ?_; rintro e w3 ⟨rfl, b3⟩)
        | (refine build_any rfl 60 _ rfl [] rfl _ Tryz.node0 ?_)
        | (refine store_node rfl _ _ rfl w.heap.size rfl nilN (.slice none 0 0) (.slice none 0 0) rfl rfl rfl nilN (.slice none 0 0) (.slice none 0 0) (Z2.below b3 Z2.lt) ?_; intro y hy ty sy))
      refine ret_node_ok rfl _ _ _ _ _ rfl rfl hy rfl ?_
      rw [HF.out]
      exact ⟨_, _, rfl, Parts.nil _, below_touched (B2.trans (b3.mono B2.size)) ty (Nat.le_refl _) (Nat.le_refl _), Lim.nil _ _ _, Lim.nil _ _ _⟩
    | true =>
      rw [hr] at hr0
      by_cases hl : lvl = -1 ∨ X.lv = lvl
      · have HF : Hid (RES = (X, 0)) := (show _ = _ by rw [HX.out, if_pos ⟨hr, hl⟩])
        clear HX hr
        have hl' : (lvl != -1) = false ∨ ((lvl != -1) = true ∧ (X.lv != lvl) = false) := by
          by_cases h1 : lvl = -1
          · exact .inl (by simpa using h1)
          · exact .inr ⟨by simpa using h1, by simpa using (hl.resolve_left h1)⟩
        clear hl
        rcases hl' with h1 | ⟨h1, h2⟩
        all_goals
          go_wp2_with (first
            | (refine load_node _ rfl d rfl rfl _ _ _ (hu2.below b3 hlt2) ?_)
            | (refine load_node _ rfl d rfl rfl _ _ _ hu2 ?_)
            | (go_at_call 61; refine hr0.mono ?_; rintro e w3 ⟨rfl, b3⟩; obtain ⟨c0, c1, c2⟩ := (hu2.below b3 hlt2).cells)
            | (refine store_node rfl _ _ rfl w.heap.size rfl X pv qv rfl hu2.2.1 hu2.2.2 nilN (.slice none 0 0) (.slice none 0 0) (Z2.below b3 Z2.lt) ?_; intro y hy ty sy))
          refine ret_node_ok rfl _ _ _ _ _ rfl rfl hy rfl ?_
          rw [HF.out]
          exact ⟨_, _, rfl, (P2.below b3).touchN (Z2.below b3 Z2.lt) ty, below_touched (B2.trans (b3.mono B2.size)) ty (Nat.le_refl _) (Nat.le_refl _), HLM.out⟩
      · have HF : Hid (RES = (nilN, 12)) := (show _ = _ by rw [HX.out, if_neg (fun h => hl h.2)])
        have h1 : (lvl != -1) = true := by simpa using fun h => hl (.inl h)
        have h2 : (X.lv != lvl) = true := by simpa using fun h => hl (.inr h)
        clear hr HX hl
        go_wp2_with (first
          | (refine load_node _ rfl d rfl rfl _ _ _ hu2 ?_)
          | (go_at_call 61; refine hr0.mono ?_; rintro e w3 ⟨rfl, b3⟩; obtain ⟨c0, c1, c2⟩ := (hu2.below b3 hlt2).cells)
          | (refine build_any rfl 60 _ rfl [] rfl _ Tryz.node0 ?_)
          | (refine store_node rfl _ _ rfl w.heap.size rfl nilN (.slice none 0 0) (.slice none 0 0) rfl rfl rfl nilN (.slice none 0 0) (.slice none 0 0) (Z2.below b3 Z2.lt) ?_; intro y hy ty sy))
        refine ret_node_ok rfl _ _ _ _ _ rfl rfl hy rfl ?_
        rw [HF.out]
        exact ⟨_, _, rfl, Parts.nil _, below_touched (B2.trans (b3.mono B2.size)) ty (Nat.le_refl _) (Nat.le_refl _), Lim.nil _ _ _, Lim.nil _ _ _⟩
  · have HF : Hid (RES = (nilN, c)) := (show _ = _ by rw [HRD.out, if_neg hc])
    have hc' : (c != 0) = true := by simpa using hc
    clear HRD hc
    go_enter Tryz.func38, Tryz.ntmps38
    go_upto_region 1 with fail
    go_upto_region 3 with (first
      | (refine invoke_op (.tmp 11) "Get" (.tmp 12) _ rfl rfl (.iface T rv) G recv (.int .i64 n) rfl HM.out rfl HC.out ?_; clear HC HM; rintro e w1 ⟨pv, qv, rfl, P1, b1, lm1⟩; refine ⟨_, rfl, ?_⟩)
      | (refine store_node rfl _ _ rfl w1.heap.size rfl X pv qv rfl P1.p.one P1.q.one nilN (.slice none 0 0) (.slice none 0 0) (HasN.new w1 nilN (.slice none 0 0) (.slice none 0 0) _ rfl rfl rfl) ?_; intro x2 hu2 tx2 sx2))
    have HLM : Hid (Lim (LB lim w) pv ∧ Lim (LB lim w) qv) := ⟨lm1.1.mono (fun k hk => hk.imp id (fun q => by simp at q; omega)), lm1.2.mono (fun k hk => hk.imp id (fun q => by simp at q; omega))⟩
    clear lm1
    have BS := step_below (Below.refl _ w1) _ tx2
    have hs1 := b1.size
    simp at hs1
    have Z2 : HasN x2 w.heap.size nilN (.slice none 0 0) (.slice none 0 0) := (HN0.out.1.below b1 (by simp)).below BS (by omega)
    have B2 : Below w.heap.size w x2 := (HN0.out.2.trans (b1.mono (by simp))).trans (BS.mono (by omega))
    clear BS P1 b1 tx2 sx2 HN0 hu2
    generalize w1.heap.size = d at *
    go_wp2_with (first
      | (refine build_any rfl 60 _ rfl [] rfl _ Tryz.node0 ?_)
      | (refine store_node rfl _ _ rfl w.heap.size rfl nilN (.slice none 0 0) (.slice none 0 0) rfl rfl rfl nilN (.slice none 0 0) (.slice none 0 0) Z2 ?_; intro y hy ty sy))
    refine ret_node_ok rfl _ _ _ _ _ rfl rfl hy rfl ?_
    rw [HF.out]
    exact ⟨_, _, rfl, Parts.nil _, below_touched B2 ty (Nat.le_refl _) (Nat.le_refl _), Lim.nil _ _ _, Lim.nil _ _ _⟩
end Go.Proofs.YtjhdnpplmlddaaaGreat
/- Slices of elements of k cells each, whatever they are: how they lie, what a row of one's own holds; nothing here speaks of a program. -/
namespace Go.Proofs.YtjhdnpplmlddaaaGreat
set_option linter.unusedVariables false
open Go.RowKit

/-- How an element lies: its cells, k of them. -/
structure Enc (α : Type) (k : Nat) where
  c : α → List Value
  len : ∀ x, (c x).length = k
  one : ∀ x, ∀ v ∈ c x, v.oneCell' = true
section
variable {α : Type} {k : Nat} {E : Enc α k}
theorem Enc.size (E : Enc α k) (x : α) : (E.c x).toArray.size = k := by simp [E.len]
theorem Enc.all (E : Enc α k) (x : α) : (E.c x).toArray.all (·.oneCell') = true := all_oneCell_toArray (E.one x)
/-- Elements behind one another. -/
def Enc.flat (E : Enc α k) (l : List α) : List Value := l.flatMap E.c
theorem Enc.flat_nil (E : Enc α k) : E.flat [] = [] := rfl
theorem Enc.flat_cons (E : Enc α k) (x : α) (l : List α) : E.flat (x :: l) = E.c x ++ E.flat l := by simp [Enc.flat]
theorem Enc.flat_one (E : Enc α k) (x : α) : E.flat [x] = E.c x := by simp [Enc.flat]
theorem Enc.flat_append (E : Enc α k) (l m : List α) : E.flat (l ++ m) = E.flat l ++ E.flat m := by simp [Enc.flat]
theorem Enc.flat_ones (E : Enc α k) (l : List α) : ∀ u ∈ E.flat l, u.oneCell' = true := by
  intro u hu
  simp only [Enc.flat, List.mem_flatMap] at hu
  obtain ⟨x, _, hx⟩ := hu
  exact E.one x u hx
theorem Enc.flat_length (E : Enc α k) : ∀ (l : List α), (E.flat l).length = l.length * k
  | [] => by simp [Enc.flat]
  | x :: l => by
    rw [E.flat_cons, List.length_append, E.len, E.flat_length l, List.length_cons, Nat.add_mul, Nat.one_mul, Nat.add_comm]
theorem Enc.flat_get (E : Enc α k) : ∀ (l : List α) (i j : Nat) (hi : i < l.length) (v : Value), (E.c l[i])[j]? = some v → (E.flat l)[i * k + j]? = some v
  | [], i, j, hi, v, _ => by cases hi
  | x :: l, i, j, hi, v, h => by
    rw [E.flat_cons]
    cases i with
    | zero =>
      have h' : (E.c x)[j]? = some v := h
      rw [Nat.zero_mul, Nat.zero_add, List.getElem?_append_left (List.getElem?_eq_some_iff.1 h').1]
      exact h'
    | succ i =>
      have h' := E.flat_get l i j (by simpa using hi) v (by simpa using h)
      rw [List.getElem?_append_right (by rw [E.len, Nat.add_mul, Nat.one_mul]; omega), E.len, show (i + 1) * k + j - k = i * k + j by rw [Nat.add_mul, Nat.one_mul]; omega]
      exact h'
theorem Enc.flat_range (E : Enc α k) {w : World} {g off : Nat} {l : List α} (h : w.rangeAt g off (E.flat l)) (i : Nat) (hi : i < l.length) : w.rangeAt g (off + i * k) (E.c l[i]) := fun j v hv => by
  have := h (i * k + j) v (E.flat_get l i j hi v hv)
  rwa [← Nat.add_assoc] at this
theorem Enc.range_flat (E : Enc α k) {w : World} {g : Nat} : ∀ (l : List α) (off : Nat), (∀ i (hi : i < l.length), w.rangeAt g (off + i * k) (E.c l[i])) → w.rangeAt g off (E.flat l)
  | [], off, _ => fun j v hv => by simp [Enc.flat] at hv
  | x :: l, off, hr => fun j v hv => by
    rw [E.flat_cons] at hv
    by_cases hj : j < k
    · rw [List.getElem?_append_left (by rw [E.len]; exact hj)] at hv
      have := hr 0 (by simp) j v hv
      simpa using this
    · rw [List.getElem?_append_right (by rw [E.len]; omega), E.len] at hv
      have ih := E.range_flat l (off + k) (fun i hi => by
        have := hr (i + 1) (by simp; omega)
        rw [show off + k + i * k = off + (i + 1) * k by rw [Nat.add_mul, Nat.one_mul]; omega]
        simpa using this) (j - k) v hv
      rwa [show off + k + (j - k) = off + j by omega] at ih

/-- A slice of them in blocks below B. -/
def SlB (E : Enc α k) (w : World) (B : Nat) (v : Value) (l : List α) : Prop :=
  ∃ ad cap, v = .slice ad l.length cap ∧ l.length ≤ cap ∧ l.length ≤ maxLen ∧ (ad = none → cap = 0) ∧ (l = [] ∨ ∃ g off, ad = some ⟨g, off, none⟩ ∧ g < B ∧ ∀ i (hi : i < l.length), w.rangeAt g (off + i * k) (E.c l[i]))
abbrev Sl (E : Enc α k) (w : World) (v : Value) (l : List α) : Prop := SlB E w w.heap.size v l
theorem range_same' {w w' : World} {g o : Nat} {cs : List Value} (h : w.rangeAt g o cs) (e : w'.heap[g]? = w.heap[g]?) : w'.rangeAt g o cs := fun j v hv => (World.cell?_of_block e).trans (h j v hv)
theorem SlB.kept {w w' : World} {B B' : Nat} {v : Value} {l : List α} (h : SlB E w B v l) (hb : ∀ g, g < B → w'.heap[g]? = w.heap[g]?) (hB : B ≤ B') : SlB E w' B' v l := by
  obtain ⟨ad, cap, h1, h2, h3, h4, h5⟩ := h
  refine ⟨ad, cap, h1, h2, h3, h4, ?_⟩
  rcases h5 with h5 | ⟨g, off, e, hg, hr⟩
  · exact .inl h5
  · exact .inr ⟨g, off, e, by omega, fun i hi => range_same' (hr i hi) (hb g hg)⟩
theorem SlB.below {w w' : World} {B : Nat} {v : Value} {l : List α} (h : SlB E w B v l) (hb : Below B w w') : SlB E w' B v l := h.kept hb.block (Nat.le_refl _)
theorem SlB.wide {w : World} {B B' : Nat} {v : Value} {l : List α} (h : SlB E w B v l) (hB : B ≤ B') : SlB E w B' v l := h.kept (fun _ _ => rfl) hB
theorem Sl.called {w w' : World} {v : Value} {l : List α} (h : Sl E w v l) (hb : Below w.heap.size w w') : Sl E w' v l := h.kept hb.block hb.size
theorem SlB.nil (E : Enc α k) (w : World) (B : Nat) : SlB E w B (.slice none 0 0) [] := ⟨none, 0, rfl, Nat.le_refl _, Nat.zero_le _, fun _ => rfl, .inl rfl⟩
theorem SlB.one {w : World} {B : Nat} {v : Value} {l : List α} (h : SlB E w B v l) : v.oneCell' = true := by
  obtain ⟨ad, cap, rfl, _⟩ := h
  rfl
/-- Where element i lies. -/
theorem SlB.at {w : World} {B : Nat} {ad : Option Addr} {n cap : Nat} {l : List α} (h : SlB E w B (.slice ad n cap) l) (i : Nat) (hi : i < l.length) : ∃ g off, ad = some ⟨g, off, none⟩ ∧ g < B ∧ w.rangeAt g (off + i * k) (E.c l[i]) := by
  obtain ⟨ad', cap', h1, h2, h3, h4, h5⟩ := h
  cases h1
  rcases h5 with rfl | ⟨g, off, e, hg, hr⟩
  · cases hi
  · exact ⟨g, off, e, hg, hr i hi⟩

/-- A row of one's own that holds them. -/
abbrev Own (E : Enc α k) (ty : TypeId) (w : World) (base : Nat) (v : Value) (l : List α) : Prop := w.ownsRow base ty k v l.length (E.flat l)
theorem Own.slB {ty : TypeId} {w : World} {base : Nat} {v : Value} {l : List α} (h : Own E ty w base v l) : SlB E w w.heap.size v l := by
  have hl := h.lt
  rcases h.2 with ⟨rfl, h0⟩ | ⟨g, cap, cur, rfl, hb, hg, hn, hm, _⟩
  · exact ⟨none, 0, by rw [h0], by omega, by omega, fun _ => rfl, .inl (List.eq_nil_of_length_eq_zero h0)⟩
  · refine ⟨_, cap, rfl, hn, by omega, (fun e => by cases e), .inr ⟨g, 0, rfl, (hl g rfl).2, fun i hi => E.flat_range (fun j u hu => ?_) i hi⟩⟩
    have := h.cells (g := g) rfl j u hu
    rwa [Addr.add_mid] at this
theorem Own.nil (E : Enc α k) (ty : TypeId) (w : World) (base : Nat) : Own E ty w base (.slice none 0 0) [] := World.ownsRow_nil w base ty k
/-- Is kept where its row is. -/
theorem Own.same {ty : TypeId} {w w' : World} {base : Nat} {v : Value} {l : List α} (h : Own E ty w base v l) (hb : ∀ g, v.ownBlock = some g → w'.heap[g]? = w.heap[g]?) : Own E ty w' base v l := by
  refine ⟨h.1, ?_⟩
  rcases h.2 with hn | ⟨g, cap, cur, rfl, h2, h3, h4⟩
  · exact .inl hn
  · exact .inr ⟨g, cap, cur, rfl, h2, (hb g rfl).trans h3, h4⟩
theorem Own.below {ty : TypeId} {w w' : World} {base : Nat} {v : Value} {l : List α} (h : Own E ty w base v l) (hb : Below w.heap.size w w') : Own E ty w' base v l := h.same fun g hg => hb.block g (h.lt g hg).2

/-- What lies in a slice that is read, cell by cell. -/
theorem SlB.news {w : World} {B : Nat} {ad : Option Addr} {n cap : Nat} {l : List α} (h : SlB E w B (.slice ad n cap) l) : n = l.length ∧ ((ad = none ∧ l = [] ∧ cap = 0) ∨ ∃ A, ad = some A ∧ ∀ j u, (E.flat l)[j]? = some u → w.cell? (A.add j) = some u) := by
  obtain ⟨ad', cap', h1, h2, h3, h4, h5⟩ := h
  cases h1
  refine ⟨rfl, ?_⟩
  rcases h5 with rfl | ⟨g, off, rfl, hg, hr⟩
  · cases ad with
    | none => exact .inl ⟨rfl, rfl, h4 rfl⟩
    | some A => exact .inr ⟨A, rfl, fun j u hu => by simp [Enc.flat] at hu⟩
  · refine .inr ⟨_, rfl, fun j u hu => ?_⟩
    rw [Addr.add_mid]
    exact E.range_flat l off hr j u hu
theorem SlB.take {w : World} {B : Nat} {ad : Option Addr} {n cap : Nat} {l : List α} (h : SlB E w B (.slice ad n cap) l) (m : Nat) (hm : m ≤ l.length) : SlB E w B (.slice ad m cap) (l.take m) := by
  obtain ⟨ad', cap', h1, h2, h3, h4, h5⟩ := h
  cases h1
  have hlen : (l.take m).length = m := by simp; omega
  refine ⟨ad, cap, by rw [hlen], by omega, by omega, h4, ?_⟩
  rcases h5 with rfl | ⟨g, off, rfl, hg, hr⟩
  · exact .inl (by simp)
  · refine .inr ⟨g, off, rfl, hg, fun i hi => ?_⟩
    rw [List.getElem_take]
    exact hr i (by omega)

/-- What append's law asks of a type, at once. -/
structure RowTy (P : Program) (E : Enc α k) (ts te : TypeId) (bytes : Nat) : Prop where
  under : P.underlying ts = some (.slice te)
  info : ∃ z, (P.info? te).map (fun i => (i.zero, i.size, i.bytes)) = some (some z, k, bytes) ∧ z.cells.size = k
  pos : 0 < k
theorem RowTy.parts {P : Program} {ts te : TypeId} {bytes : Nat} (h : RowTy P E ts te bytes) : ∃ i z, P.info? te = some i ∧ i.zero = some z ∧ i.size = k ∧ i.bytes = bytes ∧ z.cells.size = k := by
  obtain ⟨z, h1, h2⟩ := h.info
  cases hi : P.info? te with
  | none => rw [hi] at h1; cases h1
  | some i =>
    rw [hi] at h1
    simp only [Option.map_some, Option.some.injEq, Prod.mk.injEq] at h1
    exact ⟨i, z, rfl, h1.1, h1.2.1, h1.2.2, h2⟩

section
variable {P : Program} {ts te : TypeId} {bytes : Nat} {ops : Array Oper} {rest : List Oper} {o : Oper} {a : Act} {w : World} {Q : Exit → Act → World → Prop}
/-- append of one element behind a row of one's own. -/
theorem append_one (R : RowTy P E ts te bytes) (hgd : o.guard = none) (s x : Operand) (ho : o.op = .call { callee := .builtin .append, args := #[s, x], argTypes := #[ts, ts] })
    (base : Nat) (v : Value) (l : List α) (hs : a.eval s = v) (hown : Own E te w base v l)
    (b : Nat) (e : α) (hx : a.eval x = .slice (some ⟨b, 0, none⟩) 1 1) (fz : Nat × Nat) (tb : TypeId) (hb : w.heap[b]? = some (.cells (E.c e).toArray tb fz))
    (h63 : l.length + 1 ≤ 1000000) (hbytes : bytes ≤ 10000) (hbase : base ≤ w.heap.size)
    (h : ∀ g cap w', Own E te w' base (.slice (some ⟨g, 0, none⟩) (l.length + 1) cap) (l ++ [e]) → w.grownBy w' v.ownBlock → (v.ownBlock = some g ∨ g = w.heap.size) → g < w'.heap.size → wpList P ops Q rest (a.put o.dst (.slice (some ⟨g, 0, none⟩) (l.length + 1) cap)) w') : wpList P ops Q (o :: rest) a w := by
  obtain ⟨i, z, hi, hz, hsz, hby, hzc⟩ := R.parts
  have hB : (l.length + 1) * bytes ≤ 140737488355328 := by
    have := Nat.mul_le_mul h63 hbytes
    omega
  refine wpList_append_lies w hgd s x ts ho base te i z k bytes R.under hi hz hsz hby hzc R.pos v l.length (E.flat l) hs hown ⟨b, 0, none⟩ 1 1 (E.c e) hx (by rw [E.len, Nat.one_mul]) (fun j u hu => ?_) (E.one e) (by omega) (by unfold maxLen; omega) hB hbase w.heap.size rfl ?_
  · rw [Addr.add_mid, Nat.zero_add, cell_of_row w b j _ _ _ hb]
    simpa using hu
  · intro g cap w' h1 h2 h3 h4
    have hl : (l ++ [e]).length = l.length + 1 := by simp
    refine h g cap w' ?_ h2 h3 h4
    show w'.ownsRow base te k _ (l ++ [e]).length (E.flat (l ++ [e]))
    rw [hl, E.flat_append, E.flat_one]
    exact h1
/-- append of a slice behind a row of one's own. -/
theorem append_sl (R : RowTy P E ts te bytes) (hgd : o.guard = none) (s x : Operand) (ho : o.op = .call { callee := .builtin .append, args := #[s, x], argTypes := #[ts, ts] })
    (base : Nat) (v : Value) (l m : List α) (hs : a.eval s = v) (hown : Own E te w base v l)
    (u : Value) (hx : a.eval x = u) (B : Nat) (hu : SlB E w B u m)
    (h63 : l.length + m.length ≤ 1000000) (hbytes : bytes ≤ 10000) (hbase : base ≤ w.heap.size)
    (h : ∀ v' w', Own E te w' base v' (l ++ m) → w.grownBy w' v.ownBlock → wpList P ops Q rest (a.put o.dst v') w') : wpList P ops Q (o :: rest) a w := by
  obtain ⟨i, z, hi, hz, hsz, hby, hzc⟩ := R.parts
  have hB : (l.length + m.length) * bytes ≤ 140737488355328 := by
    have := Nat.mul_le_mul h63 hbytes
    omega
  have hl : (l ++ m).length = l.length + m.length := by simp
  have hu' := hu
  obtain ⟨ad, cap, rfl, _⟩ := hu'
  obtain ⟨_, hc⟩ := hu.news
  rcases hc with ⟨rfl, rfl, rfl⟩ | ⟨A, rfl, hn⟩
  · refine wpList_append_own_none hgd s x ts ho base te i k R.under hi v l.length (E.flat l) hs hown hx ?_
    exact h _ _ (by rw [List.append_nil]; exact hown) ⟨rfl, rfl, rfl, Nat.le_refl _, fun _ _ _ => rfl⟩
  · refine wpList_append_own w hgd s x ts ho base te i z k bytes R.under hi hz hsz hby hzc R.pos v l.length (E.flat l) hs hown A m.length cap (E.flat m) hx (E.flat_length m) hn (E.flat_ones m) (by unfold maxLen; omega) hB hbase ?_
    intro v' w' h1 h2 _
    refine h v' w' ?_ h2
    show w'.ownsRow base te k _ (l ++ m).length (E.flat (l ++ m))
    rw [hl, E.flat_append]
    exact h1
end
end
end Go.Proofs.YtjhdnpplmlddaaaGreat
