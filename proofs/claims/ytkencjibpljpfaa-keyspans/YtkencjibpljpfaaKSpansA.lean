/- Spans held against one another; what a statement holds of a key and a span. -/
import Derived.Test.YtkencjibpljpfaaKeyV
import Derived.Test.YtkencjibpljpfaaKeyM
namespace Go.Proofs.Ytkencjibpljpfaa
set_option linter.unusedVariables false
open Go.RowKit

theorem sc_ext (F T : List UInt8) (e : Bool) (hF : F.length = 24) (hT : T.length = 24) : (sc F T e).toArray.extract 0 (0 + 24) = (bc F).toArray ∧ (sc F T e).toArray.extract 24 (24 + 24) = (bc T).toArray ∧ (sc F T e).toArray[48]? = some (.bool e) := by
  have h1 : (bc F).length = 24 := by rw [bc_length, hF]
  have h2 : (bc T).length = 24 := by rw [bc_length, hT]
  refine ⟨?_, ?_, ?_⟩
  · rw [List.extract_toArray, List.extract_eq_take_drop, sc, List.append_assoc, List.drop_zero, Nat.zero_add, Nat.sub_zero, List.take_append_of_le_length (by omega), List.take_of_length_le (by omega)]
  · rw [List.extract_toArray, List.extract_eq_take_drop, sc, List.append_assoc, List.drop_append_of_le_length (by omega), List.drop_of_length_le (by omega), List.nil_append, Nat.add_sub_cancel, List.take_append_of_le_length (by omega), List.take_of_length_le (by omega)]
  · rw [List.getElem?_toArray, sc, List.getElem?_append_right (by simp; omega)]
    simp [h1, h2]
theorem eq_span (w : World) (F T : List UInt8) (e : Bool) (hF : F.length = 24) (hT : T.length = 24) : (Op.equalIn 10000 39 (sv F T e) (sv F T e)).run Try.prog w = .ok true w := by
  obtain ⟨e1, e2, e3⟩ := sc_ext F T e hF hT
  have hf : (Try.prog.fieldsOf 39).toList.map (fun f => (f.name, f.type, f.offset)) = [("From", 24, 0), ("To", 24, 24), ("End", 4, 48)] := by kernel_rfl
  have hp : Try.prog.stoodInHeld 39 = false := by kernel_rfl
  have hu : Try.prog.underlying 39 = some (.struct (Try.prog.fieldsOf 39)) := by
    unfold Program.fieldsOf
    rw [Try.underlying39]
  rw [run_equalIn_struct w 9999 39 _ _ hu hp]
  generalize (Try.prog.fieldsOf 39).toList = fl at hf ⊢
  rcases fl with _ | ⟨a, _ | ⟨b, _ | ⟨c, _ | ⟨d, fl⟩⟩⟩⟩
  · simp at hf
  · simp at hf
  · simp at hf
  · simp only [List.map_cons, List.map_nil, List.cons.injEq, Prod.mk.injEq] at hf
    obtain ⟨⟨a1, a2, a3⟩, ⟨b1, b2, b3⟩, ⟨c1, c2, c3⟩, _⟩ := hf
    have p1 : ∀ w, (part 24 (sc F T e).toArray 0).run Try.prog w = .ok (kv F) w := fun w => by
      simp only [part, Sem.run_bind, Try.isAgg24, Try.sizeOf24, Result.andThen_ok, if_true, Sem.run_pure, e1]
    have p2 : ∀ w, (part 24 (sc F T e).toArray 24).run Try.prog w = .ok (kv T) w := fun w => by
      simp only [part, Sem.run_bind, Try.isAgg24, Try.sizeOf24, Result.andThen_ok, if_true, Sem.run_pure, e2]
    have p3 : ∀ w, (part 4 (sc F T e).toArray 48).run Try.prog w = .ok (.bool e) w := fun w => by
      simp only [part, Sem.run_bind, Try.isAgg4, Result.andThen_ok, e3]
      simp
    have q1 : ∀ K : List UInt8, K.length = 24 → ∀ w, (Op.equalIn 9999 24 (kv K) (kv K)).run Try.prog w = .ok true w := fun K hK w => by
      have := run_equalIn_bytes (P := Try.prog) w 9997 24 5 24 Try.underlying24 Try.underlying5 Try.sizeOf5 K K hK hK
      rw [show (K == K) = true by simp] at this
      exact this
    have q3 : ∀ w, (Op.equalIn 9999 4 (.bool e) (.bool e)).run Try.prog w = .ok true w := fun w => by
      rw [run_equalIn_bool' w 9998 4 e e Try.underlying4]
      simp
    simp only [Op.eqFields, a1, a2, a3, b1, b2, b3, c1, c2, c3, Sem.run_bind, p1, p2, p3, q1 F hF, q1 T hT, q3, Result.andThen_ok, Sem.run_ite, Sem.run_pure]
    simp
  · simp at hf
theorem exec_eq_span {ρ : Operand → Value} {o : Oper} (x y : Operand) (t' : TypeId) (ho : o.op = .binOp .eql 39 x y t') (F T : List UInt8) (e : Bool) (hx : ρ x = sv F T e) (hy : ρ y = sv F T e) (hF : F.length = 24) (hT : T.length = 24) (w : World) : (execOp ρ o).run Try.prog w = .ok (.value (.bool true)) w := by
  unfold execOp
  rw [ho]
  have hm : Try.prog.eqGuardType Try.prog.depth 39 = false := by kernel_rfl
  simp only [hx, hy, Sem.run_bind, run_eqGuard_agg w .eql 39 x y _ _ hm, run_eql_struct, eq_span w F T e hF hT, Result.andThen_ok, Sem.run_pure]
end Go.Proofs.Ytkencjibpljpfaa
