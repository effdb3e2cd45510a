/- Pairs, kids and nodes held against one another. -/
import Derived.Test.YthembolodcpdgabNodS
namespace Go.Proofs.Ythembolodcpdgab
set_option linter.unusedVariables false
open Go.RowKit

theorem part_int (cs : Array Value) (o : Nat) (v : Int) (h : cs[o]? = some (.int .i64 v)) (w : World) : (part 3 cs o).run Try.prog w = .ok (.int .i64 v) w := by
  simp only [part, Sem.run_bind, Try.isAgg3, Result.andThen_ok, h]
  simp
theorem part_str (cs : Array Value) (o : Nat) (v : ByteArray) (h : cs[o]? = some (.string v)) (w : World) : (part 9 cs o).run Try.prog w = .ok (.string v) w := by
  simp only [part, Sem.run_bind, Try.isAgg9, Result.andThen_ok, h]
  simp
theorem eq_i (d : Nat) (a b : Int) (w : World) : (Op.equalIn (d + 1) 3 (.int .i64 a) (.int .i64 b)).run Try.prog w = .ok (a == b) w := run_equalIn_int w d 3 .i64 .i64 a b Try.underlying3
theorem eq_s (d : Nat) (a b : ByteArray) (w : World) : (Op.equalIn (d + 1) 9 (.string a) (.string b)).run Try.prog w = .ok (decide (a = b)) w := by
  rw [run_equalIn_string w d 9 a b Try.underlying9]
  congr 1
  rw [Bool.eq_iff_iff, beq_iff_eq, decide_eq_true_eq, ByteArray.toList_eq, ByteArray.toList_eq]
  exact ⟨fun h => by rw [← str_data a, ← str_data b, h], fun h => by rw [h]⟩
theorem eqFields_cons (d : Nat) (xs ys : Array Value) (f : Field) (fs : List Field) (a b : Value) (q : Bool) (w : World) (hn : (f.name == "_") = false) (h1 : ∀ w, (part f.type xs f.offset).run Try.prog w = .ok a w) (h2 : ∀ w, (part f.type ys f.offset).run Try.prog w = .ok b w) (h3 : ∀ w, (Op.equalIn d f.type a b).run Try.prog w = .ok q w) :
    (Op.eqFields d xs ys (f :: fs)).run Try.prog w = if q then (Op.eqFields d xs ys fs).run Try.prog w else .ok false w := by
  have hne : ¬ f.name = "_" := by simpa using hn
  cases q <;> simp [Op.eqFields, hne, h1, h2, h3]
theorem ec_ext (e : El) (h : e.Ok) : (ec e).toArray.extract 0 (0 + 24) = (bc e.k).toArray ∧ (ec e).toArray[24]? = some e.v := by
  have h1 : (bc e.k).length = 24 := by rw [bc_length, h.len]
  refine ⟨?_, ?_⟩
  · rw [List.extract_toArray, List.extract_eq_take_drop, ec, List.drop_zero, Nat.zero_add, Nat.sub_zero, List.take_append_of_le_length (by omega), List.take_of_length_le (by omega)]
  · rw [List.getElem?_toArray, ec, List.getElem?_append_right (by omega)]
    simp [h1]
theorem part_key (e : El) (h : e.Ok) (w : World) : (part 30 (ec e).toArray 0).run Try.prog w = .ok (kv e.k) w := by
  simp only [part, Sem.run_bind, Try.isAgg30, Try.sizeOf30, Result.andThen_ok, if_true, Sem.run_pure, (ec_ext e h).1]
theorem take_eq_step {α : Type} {l m : List α} {k : Nat} (hk : k < l.length) (hm : k < m.length) (h : l.take k = m.take k) (e : l[k] = m[k]) : l.take (k + 1) = m.take (k + 1) := by
  rw [List.take_succ_eq_append_getElem hk, List.take_succ_eq_append_getElem hm, h, e]
theorem ne_at {α : Type} {l m : List α} {k : Nat} (hk : k < l.length) (hm : k < m.length) (e : ¬ l[k] = m[k]) : ¬ l = m := fun h => e (by subst h; rfl)

theorem fields_P : (Try.prog.fieldsOf 32).toList.map (fun f => (f.name == "_", f.type, f.offset)) = [(false, 30, 0), (false, 9, 24)] := by kernel_rfl
theorem struct_P : Try.prog.underlying 32 = some (.struct (Try.prog.fieldsOf 32)) := by
  unfold Program.fieldsOf
  rw [Try.underlying32]
theorem eq_P (a b : Pr) (ha : a.k.length = 24) (hb : b.k.length = 24) (w : World) : (Op.equalIn 10000 32 (ev a.el) (ev b.el)).run Try.prog w = .ok (decide (a = b)) w := by
  have hp : Try.prog.stoodInHeld 32 = false := by kernel_rfl
  rw [run_equalIn_struct w 9999 32 _ _ struct_P hp]
  have hf := fields_P
  have oa := Pr.ok_el ha
  have ob := Pr.ok_el hb
  generalize (Try.prog.fieldsOf 32).toList = fl at hf ⊢
  rcases fl with _ | ⟨f0, _ | ⟨f1, _ | ⟨f2, fl⟩⟩⟩
  · simp at hf
  · simp at hf
  · simp only [List.map_cons, List.map_nil, List.cons.injEq, Prod.mk.injEq] at hf
    obtain ⟨⟨a1, a2, a3⟩, ⟨b1, b2, b3⟩, _⟩ := hf
    rw [eqFields_cons _ _ _ _ _ (kv a.k) (kv b.k) (a.k == b.k) w a1 (by rw [a2, a3]; exact part_key a.el oa) (by rw [a2, a3]; exact part_key b.el ob) (by rw [a2]; exact fun w => run_equalIn_bytes w 9997 30 5 24 Try.underlying30 Try.underlying5 Try.sizeOf5 a.k b.k ha hb),
      eqFields_cons _ _ _ _ _ (.string a.s) (.string b.s) (decide (a.s = b.s)) w b1 (by rw [b2, b3]; exact part_str _ _ _ (ec_ext a.el oa).2) (by rw [b2, b3]; exact part_str _ _ _ (ec_ext b.el ob).2) (by rw [b2]; exact eq_s 9998 _ _)]
    obtain ⟨ak, av⟩ := a
    obtain ⟨bk, bv⟩ := b
    simp only [Op.eqFields, Sem.run_pure]
    by_cases h1 : ak = bk <;> by_cases h2 : av = bv <;> simp [h1, h2]
  · simp at hf
theorem exec_ne_P {f : Operand → Value} {o : Oper} (x y : Operand) (t' : TypeId) (ho : o.op = .binOp .neq 32 x y t') (a b : Pr) (hx : f x = ev a.el) (hy : f y = ev b.el) (ha : a.k.length = 24) (hb : b.k.length = 24) (w : World) : (execOp f o).run Try.prog w = .ok (.value (.bool (!decide (a = b)))) w := by
  unfold execOp
  rw [ho]
  have hm : Try.prog.eqGuardType Try.prog.depth 32 = false := by kernel_rfl
  simp only [hx, hy, Sem.run_bind, run_eqGuard_agg w .neq 32 x y _ _ hm, run_neq_struct, eq_P a b ha hb w, Result.andThen_ok, Sem.run_pure]

theorem fields_K : (Try.prog.fieldsOf 51).toList.map (fun f => (f.name == "_", f.type, f.offset)) = [(false, 30, 0), (false, 3, 24)] := by kernel_rfl
theorem struct_K : Try.prog.underlying 51 = some (.struct (Try.prog.fieldsOf 51)) := by
  unfold Program.fieldsOf
  rw [Try.underlying51]
theorem eq_K (a b : Kd) (ha : a.k.length = 24) (hb : b.k.length = 24) (w : World) : (Op.equalIn 10000 51 (ev a.el) (ev b.el)).run Try.prog w = .ok (decide (a = b)) w := by
  have hp : Try.prog.stoodInHeld 51 = false := by kernel_rfl
  rw [run_equalIn_struct w 9999 51 _ _ struct_K hp]
  have hf := fields_K
  have oa := Kd.ok_el ha
  have ob := Kd.ok_el hb
  generalize (Try.prog.fieldsOf 51).toList = fl at hf ⊢
  rcases fl with _ | ⟨f0, _ | ⟨f1, _ | ⟨f2, fl⟩⟩⟩
  · simp at hf
  · simp at hf
  · simp only [List.map_cons, List.map_nil, List.cons.injEq, Prod.mk.injEq] at hf
    obtain ⟨⟨a1, a2, a3⟩, ⟨b1, b2, b3⟩, _⟩ := hf
    rw [eqFields_cons _ _ _ _ _ (kv a.k) (kv b.k) (a.k == b.k) w a1 (by rw [a2, a3]; exact part_key a.el oa) (by rw [a2, a3]; exact part_key b.el ob) (by rw [a2]; exact fun w => run_equalIn_bytes w 9997 30 5 24 Try.underlying30 Try.underlying5 Try.sizeOf5 a.k b.k ha hb),
      eqFields_cons _ _ _ _ _ (.int .i64 a.n) (.int .i64 b.n) (a.n == b.n) w b1 (by rw [b2, b3]; exact part_int _ _ _ (ec_ext a.el oa).2) (by rw [b2, b3]; exact part_int _ _ _ (ec_ext b.el ob).2) (by rw [b2]; exact eq_i 9998 _ _)]
    obtain ⟨ak, av⟩ := a
    obtain ⟨bk, bv⟩ := b
    simp only [Op.eqFields, Sem.run_pure]
    by_cases h1 : ak = bk <;> by_cases h2 : av = bv <;> simp [h1, h2]
  · simp at hf
theorem exec_ne_K {f : Operand → Value} {o : Oper} (x y : Operand) (t' : TypeId) (ho : o.op = .binOp .neq 51 x y t') (a b : Kd) (hx : f x = ev a.el) (hy : f y = ev b.el) (ha : a.k.length = 24) (hb : b.k.length = 24) (w : World) : (execOp f o).run Try.prog w = .ok (.value (.bool (!decide (a = b)))) w := by
  unfold execOp
  rw [ho]
  have hm : Try.prog.eqGuardType Try.prog.depth 51 = false := by kernel_rfl
  simp only [hx, hy, Sem.run_bind, run_eqGuard_agg w .neq 51 x y _ _ hm, run_neq_struct, eq_K a b ha hb w, Result.andThen_ok, Sem.run_pure]

/-- What the loops of Same hold. -/
structure SameW (w W : World) (A B : Nod) (pa qa pb qb : Value) : Prop where
  ha : HasN W w.heap.size A pa qa
  hb : HasN W (w.heap.size + 1) B pb qb
  bel : Below w.heap.size w W
theorem SameW.drewN {w W : World} {A B : Nod} {pa qa pb qb : Value} (h : SameW w W A B pa qa pb qb) (n : Nat) : SameW w (W.drewN n) A B pa qa pb qb := ⟨h.ha, h.hb, below_drewN h.bel n⟩
theorem SameW.drew {w W : World} {A B : Nod} {pa qa pb qb : Value} (h : SameW w W A B pa qa pb qb) : SameW w W.drew A B pa qa pb qb := ⟨h.ha, h.hb, below_drewN h.bel 1⟩
theorem els_get {α : Type} {f : α → El} {w : World} {ad : Option Addr} {n c : Nat} {l : List α} (h : Els w (.slice ad n c) (l.map f)) : ∀ i (hi : i < l.length), ∃ g off, ad = some ⟨g, off, none⟩ ∧ g < w.heap.size ∧ w.rangeAt g (off + i * 25) (ec (f l[i])) ∧ (f l[i]).Ok := fun i hi => by
  obtain ⟨r, ⟨ad', cap', e, _, _, hok, hin⟩, _⟩ := h
  cases e
  rcases hin with q | ⟨g, off, h1, _, h2, h3⟩
  · simp at q; subst q; simp at hi
  · exact ⟨g, off, h1, h2, by have := h3 i (by simpa using hi); simpa using this, by have := hok i (by simpa using hi); simpa using this⟩
theorem els_max {α : Type} {f : α → El} {w : World} {ad : Option Addr} {n c : Nat} {l : List α} (h : Els w (.slice ad n c) (l.map f)) : n = l.length ∧ n ≤ maxLen := by
  obtain ⟨r, ⟨ad', cap', e, _, hm, _, _⟩, _⟩ := h
  cases e
  exact ⟨by simp, hm⟩
end Go.Proofs.Ythembolodcpdgab
