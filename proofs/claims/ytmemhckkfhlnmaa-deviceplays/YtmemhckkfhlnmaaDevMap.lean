/- Maps from numbers to values of whatever kind, told as plain functions: what a look-up, a store, a delete and a copy come to. -/
import Derived.Test.YtmemhckkfhlnmaaDevModel
import Derived.Maps.OwnSet
namespace Go.Proofs.Ytmemhckkfhlnmaa
set_option linter.unusedVariables false
open Go.RowKit

/-- An element as it is. -/
def rawElem (v : Value) : Option (DataW Value × List MemPlace) := some (.held v, [])
def klit (k : Int) : Lit := .int .i64 k
/-- A number that an int can be. -/
def I64 (k : Int) : Prop := -9223372036854775808 ≤ k ∧ k ≤ 9223372036854775807
theorem I64.wf {k : Int} (h : I64 k) : (Lit.int .i64 k).wf = true := by
  obtain ⟨h1, h2⟩ := h
  have e1 : IntKind.i64.min = -9223372036854775808 := by rfl
  have e2 : IntKind.i64.max = 9223372036854775807 := by rfl
  simp [Lit.wf, e1, e2]
  omega
theorem klit_key (k : Int) : WideAt.IsKeyLit (klit k) := trivial
theorem klit_ne {a b : Int} (h : a ≠ b) : klit a ≠ klit b := fun e => h (by unfold klit at e; cases e; rfl)
theorem key_is {k : Int} (h : I64 k) : keyOf Try.prog 3 (.int .i64 k) = some (klit k) := Maps.keyOf_int_mk Try.underlying3 h.wf
theorem keyed_int : Maps.Keyed Try.prog 3 := Maps.int_keyed Try.underlying3

/-- Block b is a map of at most n entries: at each key what f tells. -/
def MapV (w : World) (b n : Nat) (f : Int → Option Value) : Prop :=
  ∃ D : DataW Value, w.ownsMap Try.prog 3 rawElem b n D ∧ ∀ k, Maps.has D (klit k) = (f k).isSome ∧ ∀ v, f k = some v → ∀ z, D.atKey (klit k) z = .held v
theorem MapV.lt {w : World} {b n : Nat} {f : Int → Option Value} (h : MapV w b n f) : b < w.heap.size := by
  obtain ⟨D, h, _⟩ := h
  exact h.lt
theorem MapV.kept {w w' : World} {b n : Nat} {f : Int → Option Value} (h : MapV w b n f) (hb : w'.heap[b]? = w.heap[b]?) : MapV w' b n f := by
  obtain ⟨D, ⟨es, clock, h1, h2⟩, h3⟩ := h
  exact ⟨D, ⟨es, clock, hb.trans h1, h2⟩, h3⟩
theorem MapV.mono {w : World} {b n n' : Nat} {f : Int → Option Value} (h : MapV w b n f) (hn : n ≤ n') : MapV w b n' f := by
  obtain ⟨D, h1, h3⟩ := h
  exact ⟨D, h1.mono hn, h3⟩
theorem MapV.made (w : World) : MapV (w.alloc (.map #[] 0)) w.heap.size 0 (fun _ => none) :=
  ⟨_, World.ownsMap_made w _ _ _, fun k => ⟨rfl, fun v h => by cases h⟩⟩
theorem held_inj {v x : Value} (h : (DataW.held v : DataW Value) = .held x) : v = x := by cases h; rfl
theorem zero_bytes (w : World) : (zeroValue 42).run Try.prog w = .ok (.slice none 0 0) w := by kernel_rfl
theorem MapV.look {w : World} {b n : Nat} {f : Int → Option Value} (h : MapV w b n f) {k : Int} (hk : I64 k) :
    (Instr.lookup 56 (.map (some b)) (.int .i64 k) true).run Try.prog w = .ok (.tuple #[(f k).getD (.slice none 0 0), .bool (f k).isSome]) w := by
  obtain ⟨D, ho, hf⟩ := h
  obtain ⟨v, ps, hrun, hv⟩ := ho.look_ok (t := 56) keyed_int Try.underlying56 (zero_bytes w) (zd := .held (.slice none 0 0)) (zp := []) rfl (key_is hk)
  rw [hrun, (hf k).1]
  unfold rawElem at hv
  simp only [Option.some.injEq, Prod.mk.injEq] at hv
  have e : v = (f k).getD (.slice none 0 0) := by
    cases hfk : f k with
    | none =>
      have h1 : Maps.has D (klit k) = false := by rw [(hf k).1, hfk]; rfl
      rw [Maps.atKey_of_not_has h1] at hv
      exact held_inj hv.1
    | some x =>
      rw [(hf k).2 x hfk] at hv
      exact held_inj hv.1
  rw [e]
theorem MapV.look1 {w : World} {b n : Nat} {f : Int → Option Value} (h : MapV w b n f) {k : Int} (hk : I64 k) :
    (Instr.lookup 56 (.map (some b)) (.int .i64 k) false).run Try.prog w = .ok ((f k).getD (.slice none 0 0)) w := by
  obtain ⟨D, ho, hf⟩ := h
  obtain ⟨v, ps, hrun, hv⟩ := ho.lookup (t := 56) keyed_int Try.underlying56 (zero_bytes w) (zd := .held (.slice none 0 0)) (zp := []) rfl (key_is hk)
  rw [hrun]
  unfold rawElem at hv
  simp only [Option.some.injEq, Prod.mk.injEq] at hv
  have e : v = (f k).getD (.slice none 0 0) := by
    cases hfk : f k with
    | none =>
      have h1 : Maps.has D (klit k) = false := by rw [(hf k).1, hfk]; rfl
      rw [Maps.atKey_of_not_has h1] at hv
      exact held_inj hv.1
    | some x =>
      rw [(hf k).2 x hfk] at hv
      exact held_inj hv.1
  rw [e]
/-- f with another value at one key; without one. -/
def putAt (f : Int → Option Value) (k : Int) (v : Value) : Int → Option Value := fun j => if j = k then some v else f j
def delAt (f : Int → Option Value) (k : Int) : Int → Option Value := fun j => if j = k then none else f j
theorem MapV.store {w : World} {b n : Nat} {f : Int → Option Value} (h : MapV w b n f) (hn : n < maxLen) {k : Int} (hk : I64 k) (v : Value) :
    ∃ w', (Instr.mapUpdate 56 (.map (some b)) (.int .i64 k) v).run Try.prog w = .ok () w' ∧ MapV w' b (n + 1) (putAt f k v) ∧ w.grownBy w' (some b) := by
  obtain ⟨D, ho, hf⟩ := h
  obtain ⟨w', hrun, ho', ht⟩ := ho.store (t := 56) keyed_int Try.underlying56 hn (key_is hk) (val := v) (d := .held v) (ps := []) rfl
  refine ⟨w', hrun, ⟨_, ho', fun j => ?_⟩, ht.grown⟩
  unfold putAt
  by_cases e : j = k
  · subst e
    rw [Maps.has_put_same ho.isMap (klit_key _), if_pos rfl]
    refine ⟨rfl, fun x hx z => ?_⟩
    cases hx
    exact Maps.atKey_put_same ho.isMap (klit_key _) _ z
  · rw [Maps.has_put_other (klit_ne e), if_neg e]
    refine ⟨(hf j).1, fun x hx z => ?_⟩
    rw [Maps.atKey_put_other (klit_ne e)]
    exact (hf j).2 x hx z
theorem MapV.drop {w : World} {b n : Nat} {f : Int → Option Value} (h : MapV w b n f) {k : Int} (hk : I64 k) (ty : TypeId) :
    ∃ w', (Builtin.delete_ #[56, 3] ty #[.map (some b), .int .i64 k]).run Try.prog w = .ok (.tuple #[]) w' ∧ MapV w' b n (delAt f k) ∧ w.grownBy w' (some b) := by
  obtain ⟨D, ho, hf⟩ := h
  obtain ⟨w', hrun, ho', ht⟩ := ho.drop (t := 56) keyed_int Try.underlying56 (key_is hk) ty
  refine ⟨w', hrun, ⟨_, ho', fun j => ?_⟩, ht.grown⟩
  unfold delAt
  by_cases e : j = k
  · subst e
    rw [Maps.has_del_same, if_pos rfl]
    exact ⟨rfl, fun x hx => by cases hx⟩
  · rw [Maps.has_del_other (klit_ne e), if_neg e]
    refine ⟨(hf j).1, fun x hx z => ?_⟩
    rw [Maps.atKey_del_other (klit_ne e)]
    exact (hf j).2 x hx z
/-- A block with the same entries is the same map. -/
theorem MapV.copied {w w' : World} {b b' n : Nat} {f : Int → Option Value} (h : MapV w b n f) (hb : w'.heap[b']? = w.heap[b]?) : MapV w' b' n f := by
  obtain ⟨D, ⟨es, clock, h1, h2⟩, h3⟩ := h
  exact ⟨D, ⟨es, clock, hb.trans h1, h2⟩, h3⟩

/-- A store at the operation, for the walk. -/
theorem wpList_store_v (w : World) {ops : Array Oper} {rest : List Oper} {o : Oper} {a : Act} {Q : Exit → Act → World → Prop} (hg : o.guard = none) (m x v : Operand) (hop : o.op = Op.mapUpdate 56 m x v)
    (b n : Nat) (f : Int → Option Value) (hm : a.eval m = .map (some b)) (h : MapV w b n f) (hn : n < maxLen) (k : Int) (hk : I64 k) (hx : a.eval x = .int .i64 k) (u : Value) (hv : a.eval v = u)
    (hK : ∀ w', MapV w' b (n + 1) (putAt f k u) → w.grownBy w' (some b) → wpList Try.prog ops Q rest (a.put o.dst undef) w') : wpList Try.prog ops Q (o :: rest) a w := by
  refine wpList_plain hg fun K' hK' => ?_
  obtain ⟨w', hrun, r1, r2⟩ := h.store hn hk u
  unfold Oper.wp
  simp [execOp, hop, hm, hx, hv, hrun, Result.andThen]
  exact hK' _ _ (hK w' r1 r2)
/-- A delete at the operation, for the walk. -/
theorem wpList_delete_v (w : World) {ops : Array Oper} {rest : List Oper} {o : Oper} {a : Act} {Q : Exit → Act → World → Prop} (hg : o.guard = none) (m x : Operand)
    (hop : o.op = Op.call { callee := Callee.builtin Builtin.delete, args := #[m, x], argTypes := #[56, 3] })
    (b n : Nat) (f : Int → Option Value) (hm : a.eval m = .map (some b)) (h : MapV w b n f) (k : Int) (hk : I64 k) (hx : a.eval x = .int .i64 k)
    (hK : ∀ w', MapV w' b n (delAt f k) → w.grownBy w' (some b) → wpList Try.prog ops Q rest (a.put o.dst (.tuple #[])) w') : wpList Try.prog ops Q (o :: rest) a w := by
  refine wpList_plain hg fun K' hK' => ?_
  obtain ⟨w', hrun, r1, r2⟩ := h.drop hk o.type
  unfold Oper.wp
  simp [execOp, hop, resolve, invoke, builtin, hm, hx, hrun, Result.andThen]
  exact hK' _ _ (hK w' r1 r2)
end Go.Proofs.Ytmemhckkfhlnmaa
