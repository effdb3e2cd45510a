import Derived.Test.YtdmindhjmjnagabGreatDoorB18
/- Pairs, changes and keys: how they are built, and held against one another. -/
namespace Go.Proofs.YtdmindhjmjnagabGreatDoor
set_option linter.unusedVariables false
set_option maxRecDepth 100000
open Go.RowKit

/-! Built. -/
theorem built_of (t : TypeId) (Z : Array Value) (pl : List (Nat × Nat)) (h1 : (Tryz.prog.info? t).map (·.zero) = some (some (.agg Z)))
    (h2 : (Tryz.prog.underlying t).map (fun d => match d with | .struct fs => fs.toList.mapM (fun f => (Tryz.prog.info? f.type).map fun i => (f.offset, i.size)) | _ => none) = some (some pl)) (parts : List (Nat × Value)) :
    Tryz.prog.built t parts = Instr.fill (pl.toArray[·]?) Z parts := by
  unfold Program.built
  cases hi : Tryz.prog.info? t with
  | none => rw [hi] at h1; cases h1
  | some i =>
    rw [hi] at h1
    have hz : i.zero = some (.agg Z) := by simpa using h1
    cases hu : Tryz.prog.underlying t with
    | none => rw [hu] at h2; cases h2
    | some d =>
      rw [hu] at h2
      cases d with
      | struct fs =>
        have hp : fs.toList.mapM (fun f => (Tryz.prog.info? f.type).map fun i => (f.offset, i.size)) = some pl := by simpa using h2
        simp only [hz, hp]
        rfl
      | _ => simp at h2
theorem built_P (parts : List (Nat × Value)) : Tryz.prog.built 76 parts = Instr.fill ([(0, 24), (24, 1)].toArray[·]?) (pcd pa0).toArray parts := built_of _ _ _ (by kernel_rfl) (by kernel_rfl) parts
theorem built_C (parts : List (Nat × Value)) : Tryz.prog.built 60 parts = Instr.fill ([(0, 24), (24, 1), (25, 1)].toArray[·]?) (ccd ch0).toArray parts := built_of _ _ _ (by kernel_rfl) (by kernel_rfl) parts
theorem row_K (F K : List UInt8) (rest : List Value) (hF : F.length = 24) : ((bc F ++ rest).toArray.toList.take 0 ++ (kv K).cells.toList ++ (bc F ++ rest).toArray.toList.drop (0 + 24)).toArray = (bc K ++ rest).toArray := by
  have h : (bc F).length = 24 := by rw [bc_length, hF]
  simp only [Value.cells, List.take_zero, List.nil_append, Nat.zero_add]
  rw [List.drop_append_of_le_length (by omega), List.drop_of_length_le (by omega)]
  rfl
theorem row_V (K : List UInt8) (a b : Value) (rest : List Value) (hb : b.cells = #[b]) (hK : K.length = 24) : ((bc K ++ a :: rest).toArray.toList.take 24 ++ b.cells.toList ++ (bc K ++ a :: rest).toArray.toList.drop (24 + 1)).toArray = (bc K ++ b :: rest).toArray := by
  have h : (bc K).length = 24 := by rw [bc_length, hK]
  simp only [hb]
  rw [List.take_append_of_le_length (by omega), List.take_of_length_le (by omega), List.drop_append, List.drop_of_length_le (by omega), h]
  simp
theorem row_G (K : List UInt8) (s a b : Value) (hb : b.cells = #[b]) (hK : K.length = 24) : ((bc K ++ [s, a]).toArray.toList.take 25 ++ b.cells.toList ++ (bc K ++ [s, a]).toArray.toList.drop (25 + 1)).toArray = (bc K ++ [s, b]).toArray := by
  have h : (bc K).length = 24 := by rw [bc_length, hK]
  simp only [hb]
  rw [List.take_append, List.take_of_length_le (by omega), List.drop_of_length_le (by simp [h]), h]
  simp
theorem built_p (p : Pa) : Tryz.prog.built 76 [(0, kv p.k), (1, .string (str p.v))] = some (encP.c p).toArray := by
  rw [built_P, fill_put (off := 0) (size := 24) rfl (by simp [Value.cells, bc_length, p.h]) (by simp [pcd, bc_length, pa0, zs_length]), pcd, row_K _ _ _ pa0.h,
    fill_put (off := 24) (size := 1) rfl rfl (by simp [bc_length, p.h]), row_V _ _ _ _ rfl p.h]
  rfl
theorem built_put (c : Ch) (hg : c.g = false) : Tryz.prog.built 60 [(0, kv c.k), (1, .string (str c.v))] = some (encC.c c).toArray := by
  rw [built_C, fill_put (off := 0) (size := 24) rfl (by simp [Value.cells, bc_length, c.h]) (by simp [ccd, bc_length, ch0, zs_length]), ccd, row_K _ _ _ ch0.h,
    fill_put (off := 24) (size := 1) rfl rfl (by simp [bc_length, c.h]), row_V _ _ _ _ rfl c.h]
  show some _ = some (ccd c).toArray
  rw [ccd, hg]
  rfl
theorem built_gone (K : Kz) : Tryz.prog.built 60 [(0, kv K.k), (2, .bool true)] = some (encC.c ⟨K.k, K.h, [], true⟩).toArray := by
  rw [built_C, fill_put (off := 0) (size := 24) rfl (by simp [Value.cells, bc_length, K.h]) (by simp [ccd, bc_length, ch0, zs_length]), ccd, row_K _ _ _ ch0.h,
    fill_put (off := 25) (size := 1) rfl rfl (by simp [bc_length, K.h]), row_G _ _ _ _ rfl K.h]
  rfl
theorem exec_build {ρ : Operand → Value} {o : Oper} {t : TypeId} {parts : Array (Nat × Operand)} (ho : o.op = .build t parts) {cells : Array Value} (hb : Tryz.prog.built t ((parts.map fun x => (x.1, ρ x.2)).toList) = some cells) (w : World) : (execOp ρ o).run Tryz.prog w = .ok (.value (.agg cells)) w := by
  unfold execOp
  simp only [ho, Sem.run_bind]
  rw [run_build w t _ cells hb]
  rfl
section
variable {ops : Array Oper} {rest : List Oper} {o : Oper} {a : Act} {w : World} {Q : Exit → Act → World → Prop}
theorem build_at (hg : o.guard = none) {t : TypeId} {parts : Array (Nat × Operand)} (ho : o.op = .build t parts) {cells : Array Value} (hb : Tryz.prog.built t ((parts.map fun x => (x.1, a.eval x.2)).toList) = some cells)
    (h : wpList Tryz.prog ops Q rest (a.put o.dst (.agg cells)) w) : wpList Tryz.prog ops Q (o :: rest) a w := by
  refine wpList_plain hg fun K hK => ?_
  unfold Oper.wp
  rw [exec_build ho hb]
  exact hK _ _ h
theorem build_p (hg : o.guard = none) (x y : Operand) (ho : o.op = .build 76 #[(0, x), (1, y)]) (p : Pa) (hx : a.eval x = kv p.k) (hy : a.eval y = .string (str p.v))
    (h : wpList Tryz.prog ops Q rest (a.put o.dst (.agg (encP.c p).toArray)) w) : wpList Tryz.prog ops Q (o :: rest) a w := build_at hg ho (by simp only [List.map_toArray, List.map_cons, List.map_nil, hx, hy]; exact built_p p) h
theorem build_put (hg : o.guard = none) (x y : Operand) (ho : o.op = .build 60 #[(0, x), (1, y)]) (c : Ch) (hc : c.g = false) (hx : a.eval x = kv c.k) (hy : a.eval y = .string (str c.v))
    (h : wpList Tryz.prog ops Q rest (a.put o.dst (.agg (encC.c c).toArray)) w) : wpList Tryz.prog ops Q (o :: rest) a w := build_at hg ho (by simp only [List.map_toArray, List.map_cons, List.map_nil, hx, hy]; exact built_put c hc) h
theorem build_gone (hg : o.guard = none) (x y : Operand) (ho : o.op = .build 60 #[(0, x), (2, y)]) (K : Kz) (hx : a.eval x = kv K.k) (hy : a.eval y = .bool true)
    (h : wpList Tryz.prog ops Q rest (a.put o.dst (.agg (encC.c ⟨K.k, K.h, [], true⟩).toArray)) w) : wpList Tryz.prog ops Q (o :: rest) a w := build_at hg ho (by simp only [List.map_toArray, List.map_cons, List.map_nil, hx, hy]; exact built_gone K) h
end
/-! Held against one another. -/
instance : DecidableEq Kz := fun a b => decidable_of_iff (a.k = b.k) ⟨fun h => by obtain ⟨k, _⟩ := a; obtain ⟨l, _⟩ := b; cases h; rfl, fun h => by rw [h]⟩
instance : DecidableEq Pa := fun a b => decidable_of_iff (a.k = b.k ∧ a.v = b.v) ⟨fun h => by obtain ⟨k, _, v⟩ := a; obtain ⟨l, _, u⟩ := b; obtain ⟨rfl, rfl⟩ := h; rfl, fun h => by rw [h]; exact ⟨rfl, rfl⟩⟩
instance : DecidableEq Ch := fun a b => decidable_of_iff (a.k = b.k ∧ a.v = b.v ∧ a.g = b.g) ⟨fun h => by obtain ⟨k, _, v, g⟩ := a; obtain ⟨l, _, u, i⟩ := b; obtain ⟨rfl, rfl, rfl⟩ := h; rfl, fun h => by rw [h]; exact ⟨rfl, rfl, rfl⟩⟩
theorem Kz.eq_iff (a b : Kz) : a = b ↔ a.k = b.k := ⟨fun h => by rw [h], fun h => by obtain ⟨k, _⟩ := a; obtain ⟨l, _⟩ := b; cases h; rfl⟩
theorem Pa.eq_iff (a b : Pa) : a = b ↔ a.k = b.k ∧ a.v = b.v := ⟨fun h => by rw [h]; exact ⟨rfl, rfl⟩, fun h => by obtain ⟨k, _, v⟩ := a; obtain ⟨l, _, u⟩ := b; obtain ⟨rfl, rfl⟩ := h; rfl⟩
theorem Ch.eq_iff (a b : Ch) : a = b ↔ a.k = b.k ∧ a.v = b.v ∧ a.g = b.g := ⟨fun h => by rw [h]; exact ⟨rfl, rfl, rfl⟩, fun h => by obtain ⟨k, _, v, g⟩ := a; obtain ⟨l, _, u, i⟩ := b; obtain ⟨rfl, rfl, rfl⟩ := h; rfl⟩
theorem part_str (cs : Array Value) (o : Nat) (v : ByteArray) (h : cs[o]? = some (.string v)) (w : World) : (part 9 cs o).run Tryz.prog w = .ok (.string v) w := by
  simp only [part, Sem.run_bind, Tryz.isAgg9, Result.andThen_ok, h]
  simp
theorem part_bool (cs : Array Value) (o : Nat) (v : Bool) (h : cs[o]? = some (.bool v)) (w : World) : (part 4 cs o).run Tryz.prog w = .ok (.bool v) w := by
  simp only [part, Sem.run_bind, Tryz.isAgg4, Result.andThen_ok, h]
  simp
theorem eq_s (d : Nat) (a b : List UInt8) (w : World) : (Op.equalIn (d + 1) 9 (.string (str a)) (.string (str b))).run Tryz.prog w = .ok (decide (a = b)) w := by
  rw [run_equalIn_string w d 9 _ _ Tryz.underlying9, str_toList, str_toList]
  congr 1
  rw [Bool.eq_iff_iff, beq_iff_eq, decide_eq_true_eq]
theorem eqFields_cons (d : Nat) (xs ys : Array Value) (f : Field) (fs : List Field) (a b : Value) (q : Bool) (w : World) (hn : (f.name == "_") = false) (h1 : ∀ w, (part f.type xs f.offset).run Tryz.prog w = .ok a w) (h2 : ∀ w, (part f.type ys f.offset).run Tryz.prog w = .ok b w) (h3 : ∀ w, (Op.equalIn d f.type a b).run Tryz.prog w = .ok q w) :
    (Op.eqFields d xs ys (f :: fs)).run Tryz.prog w = if q then (Op.eqFields d xs ys fs).run Tryz.prog w else .ok false w := by
  have hne : ¬ f.name = "_" := by simpa using hn
  cases q <;> simp [Op.eqFields, hne, h1, h2, h3]
theorem part_key (K : List UInt8) (rest : List Value) (h : K.length = 24) (w : World) : (part 31 (bc K ++ rest).toArray 0).run Tryz.prog w = .ok (kv K) w := by
  have h1 : (bc K).length = 24 := by rw [bc_length, h]
  have e : (bc K ++ rest).toArray.extract 0 (0 + 24) = (bc K).toArray := by
    rw [List.extract_toArray, List.extract_eq_take_drop, List.drop_zero, Nat.zero_add, Nat.sub_zero, List.take_append_of_le_length (by omega), List.take_of_length_le (by omega)]
  simp only [part, Sem.run_bind, Tryz.isAgg31, Tryz.sizeOf31, Result.andThen_ok, if_true, Sem.run_pure, e]
theorem eq_k (w : World) (K L : List UInt8) (hK : K.length = 24) (hL : L.length = 24) : (Op.equalIn 9999 31 (kv K) (kv L)).run Tryz.prog w = .ok (K == L) w := run_equalIn_bytes w 9997 31 5 24 Tryz.underlying31 Tryz.underlying5 Tryz.sizeOf5 K L hK hL
theorem at24 (K : List UInt8) (x : Value) (rest : List Value) (h : K.length = 24) : (bc K ++ x :: rest).toArray[24]? = some x := by
  have h1 : (bc K).length = 24 := by rw [bc_length, h]
  rw [List.getElem?_toArray, List.getElem?_append_right (by omega)]
  simp [h1]
theorem at25 (K : List UInt8) (x y : Value) (h : K.length = 24) : (bc K ++ [x, y]).toArray[25]? = some y := by
  have h1 : (bc K).length = 24 := by rw [bc_length, h]
  rw [List.getElem?_toArray, List.getElem?_append_right (by omega)]
  simp [h1]
theorem fields_P : (Tryz.prog.fieldsOf 76).toList.map (fun f => (f.name == "_", f.type, f.offset)) = [(false, 31, 0), (false, 9, 24)] := by kernel_rfl
theorem fields_C : (Tryz.prog.fieldsOf 60).toList.map (fun f => (f.name == "_", f.type, f.offset)) = [(false, 31, 0), (false, 9, 24), (false, 4, 25)] := by kernel_rfl
theorem struct_P : Tryz.prog.underlying 76 = some (.struct (Tryz.prog.fieldsOf 76)) := by
  unfold Program.fieldsOf
  rw [Tryz.underlying76]
theorem struct_C : Tryz.prog.underlying 60 = some (.struct (Tryz.prog.fieldsOf 60)) := by
  unfold Program.fieldsOf
  rw [Tryz.underlying60]
theorem enc_P (p : Pa) : encP.c p = bc p.k ++ [.string (str p.v)] := rfl
theorem enc_C (p : Ch) : encC.c p = bc p.k ++ [.string (str p.v), .bool p.g] := rfl
theorem eq_P (a b : Pa) (w : World) : (Op.equalIn 10000 76 (.agg (encP.c a).toArray) (.agg (encP.c b).toArray)).run Tryz.prog w = .ok (decide (a = b)) w := by
  have hp : Tryz.prog.stoodInHeld 76 = false := by kernel_rfl
  rw [enc_P, enc_P, run_equalIn_struct w 9999 76 _ _ struct_P hp]
  have hf := fields_P
  generalize (Tryz.prog.fieldsOf 76).toList = fl at hf ⊢
  rcases fl with _ | ⟨f0, _ | ⟨f1, _ | ⟨f2, fl⟩⟩⟩
  · simp at hf
  · simp at hf
  · simp only [List.map_cons, List.map_nil, List.cons.injEq, Prod.mk.injEq] at hf
    obtain ⟨⟨a1, a2, a3⟩, ⟨b1, b2, b3⟩, _⟩ := hf
    rw [eqFields_cons _ _ _ _ _ (kv a.k) (kv b.k) (a.k == b.k) w a1 (by rw [a2, a3]; exact part_key a.k _ a.h) (by rw [a2, a3]; exact part_key b.k _ b.h) (by rw [a2]; exact fun w => eq_k w a.k b.k a.h b.h),
      eqFields_cons _ _ _ _ _ (.string (str a.v)) (.string (str b.v)) (decide (a.v = b.v)) w b1 (by rw [b2, b3]; exact part_str _ _ _ (at24 _ _ _ a.h)) (by rw [b2, b3]; exact part_str _ _ _ (at24 _ _ _ b.h)) (by rw [b2]; exact eq_s 9998 _ _)]
    simp only [Op.eqFields, Sem.run_pure]
    rw [show decide (a = b) = decide (a.k = b.k ∧ a.v = b.v) from decide_eq_decide.2 (Pa.eq_iff a b)]
    by_cases h1 : a.k = b.k <;> by_cases h2 : a.v = b.v <;> simp [h1, h2]
  · simp at hf
theorem eq_C (a b : Ch) (w : World) : (Op.equalIn 10000 60 (.agg (encC.c a).toArray) (.agg (encC.c b).toArray)).run Tryz.prog w = .ok (decide (a = b)) w := by
  have hp : Tryz.prog.stoodInHeld 60 = false := by kernel_rfl
  rw [enc_C, enc_C, run_equalIn_struct w 9999 60 _ _ struct_C hp]
  have hf := fields_C
  generalize (Tryz.prog.fieldsOf 60).toList = fl at hf ⊢
  rcases fl with _ | ⟨f0, _ | ⟨f1, _ | ⟨f2, _ | ⟨f3, fl⟩⟩⟩⟩
  · simp at hf
  · simp at hf
  · simp at hf
  · simp only [List.map_cons, List.map_nil, List.cons.injEq, Prod.mk.injEq] at hf
    obtain ⟨⟨a1, a2, a3⟩, ⟨b1, b2, b3⟩, ⟨c1, c2, c3⟩, _⟩ := hf
    rw [eqFields_cons _ _ _ _ _ (kv a.k) (kv b.k) (a.k == b.k) w a1 (by rw [a2, a3]; exact part_key a.k _ a.h) (by rw [a2, a3]; exact part_key b.k _ b.h) (by rw [a2]; exact fun w => eq_k w a.k b.k a.h b.h),
      eqFields_cons _ _ _ _ _ (.string (str a.v)) (.string (str b.v)) (decide (a.v = b.v)) w b1 (by rw [b2, b3]; exact part_str _ _ _ (at24 _ _ _ a.h)) (by rw [b2, b3]; exact part_str _ _ _ (at24 _ _ _ b.h)) (by rw [b2]; exact eq_s 9998 _ _),
      eqFields_cons _ _ _ _ _ (.bool a.g) (.bool b.g) (decide (a.g = b.g)) w c1 (by rw [c2, c3]; exact part_bool _ _ _ (at25 _ _ _ a.h)) (by rw [c2, c3]; exact part_bool _ _ _ (at25 _ _ _ b.h)) (by rw [c2]; exact fun w => by rw [run_equalIn_bool' w 9998 4 a.g b.g Tryz.underlying4]; congr 1)]
    simp only [Op.eqFields, Sem.run_pure]
    rw [show decide (a = b) = decide (a.k = b.k ∧ a.v = b.v ∧ a.g = b.g) from decide_eq_decide.2 (Ch.eq_iff a b)]
    by_cases h1 : a.k = b.k <;> by_cases h2 : a.v = b.v <;> by_cases h3 : a.g = b.g <;> simp [h1, h2, h3]
  · simp at hf
theorem exec_ne_P {f : Operand → Value} {o : Oper} (x y : Operand) (t' : TypeId) (ho : o.op = .binOp .neq 76 x y t') (a b : Pa) (hx : f x = .agg (encP.c a).toArray) (hy : f y = .agg (encP.c b).toArray) (w : World) : (execOp f o).run Tryz.prog w = .ok (.value (.bool (!decide (a = b)))) w := by
  unfold execOp
  rw [ho]
  have hm : Tryz.prog.eqGuardType Tryz.prog.depth 76 = false := by kernel_rfl
  simp only [hx, hy, Sem.run_bind, run_eqGuard_agg w .neq 76 x y _ _ hm, run_neq_struct, eq_P, Result.andThen_ok, Sem.run_pure]
theorem exec_ne_C {f : Operand → Value} {o : Oper} (x y : Operand) (t' : TypeId) (ho : o.op = .binOp .neq 60 x y t') (a b : Ch) (hx : f x = .agg (encC.c a).toArray) (hy : f y = .agg (encC.c b).toArray) (w : World) : (execOp f o).run Tryz.prog w = .ok (.value (.bool (!decide (a = b)))) w := by
  unfold execOp
  rw [ho]
  have hm : Tryz.prog.eqGuardType Tryz.prog.depth 60 = false := by kernel_rfl
  simp only [hx, hy, Sem.run_bind, run_eqGuard_agg w .neq 60 x y _ _ hm, run_neq_struct, eq_C, Result.andThen_ok, Sem.run_pure]
theorem exec_eq_C {f : Operand → Value} {o : Oper} (x y : Operand) (t' : TypeId) (ho : o.op = .binOp .eql 60 x y t') (a b : Ch) (hx : f x = .agg (encC.c a).toArray) (hy : f y = .agg (encC.c b).toArray) (w : World) : (execOp f o).run Tryz.prog w = .ok (.value (.bool (decide (a = b)))) w := by
  unfold execOp
  rw [ho]
  have hm : Tryz.prog.eqGuardType Tryz.prog.depth 60 = false := by kernel_rfl
  simp only [hx, hy, Sem.run_bind, run_eqGuard_agg w .eql 60 x y _ _ hm, run_eql_struct, eq_C, Result.andThen_ok, Sem.run_pure]
theorem eq_K (a b : Kz) (w : World) : (Op.equalIn 10000 31 (kv a.k) (kv b.k)).run Tryz.prog w = .ok (decide (a = b)) w := by
  rw [eq_key w a.k b.k a.h b.h]
  congr 1
  rw [Bool.eq_iff_iff, beq_iff_eq, decide_eq_true_eq]
  exact (Kz.eq_iff a b).symm
theorem exec_ne_K {f : Operand → Value} {o : Oper} (x y : Operand) (t' : TypeId) (ho : o.op = .binOp .neq 31 x y t') (a b : Kz) (hx : f x = kv a.k) (hy : f y = kv b.k) (w : World) : (execOp f o).run Tryz.prog w = .ok (.value (.bool (!decide (a = b)))) w := by
  unfold execOp
  rw [ho]
  have hm : Tryz.prog.eqGuardType Tryz.prog.depth 31 = false := by kernel_rfl
  simp only [hx, hy, Sem.run_bind, run_eqGuard_agg w .neq 31 x y _ _ hm, run_neq_struct, eq_K, Result.andThen_ok, Sem.run_pure]
theorem exec_eq_K {f : Operand → Value} {o : Oper} (x y : Operand) (t' : TypeId) (ho : o.op = .binOp .eql 31 x y t') (a b : Kz) (hx : f x = kv a.k) (hy : f y = kv b.k) (w : World) : (execOp f o).run Tryz.prog w = .ok (.value (.bool (decide (a = b)))) w := by
  unfold execOp
  rw [ho]
  have hm : Tryz.prog.eqGuardType Tryz.prog.depth 31 = false := by kernel_rfl
  simp only [hx, hy, Sem.run_bind, run_eqGuard_agg w .eql 31 x y _ _ hm, run_eql_struct, eq_K, Result.andThen_ok, Sem.run_pure]
section
variable {ops : Array Oper} {rest : List Oper} {o : Oper} {a : Act} {w : World} {Q : Exit → Act → World → Prop}
theorem ne_P_op (x y : Operand) (t' : TypeId) (ho : o.op = .binOp .neq 76 x y t') (hgd : Region.wanted o (yielded ops a.tmps) = true) (p q : Pa) (hx : a.eval x = .agg (encP.c p).toArray) (hy : a.eval y = .agg (encP.c q).toArray)
    (h : wpList Tryz.prog ops Q rest (a.put o.dst (.bool (!decide (p = q)))) w) : wpList Tryz.prog ops Q (o :: rest) a w :=
  BigFrame.wpList_want hgd fun _ hK' => by unfold Oper.wp; rw [exec_ne_P x y t' ho p q hx hy]; exact hK' _ _ h
theorem ne_C_op (x y : Operand) (t' : TypeId) (ho : o.op = .binOp .neq 60 x y t') (hgd : Region.wanted o (yielded ops a.tmps) = true) (p q : Ch) (hx : a.eval x = .agg (encC.c p).toArray) (hy : a.eval y = .agg (encC.c q).toArray)
    (h : wpList Tryz.prog ops Q rest (a.put o.dst (.bool (!decide (p = q)))) w) : wpList Tryz.prog ops Q (o :: rest) a w :=
  BigFrame.wpList_want hgd fun _ hK' => by unfold Oper.wp; rw [exec_ne_C x y t' ho p q hx hy]; exact hK' _ _ h
end
end Go.Proofs.YtdmindhjmjnagabGreatDoor
/- Map, Apply and Join of package delta. -/
namespace Go.Proofs.YtdmindhjmjnagabGreatDoor
set_option linter.unusedVariables false
set_option maxRecDepth 100000
open Go.RowKit

theorem puts_len {α : Type} (key : α → Int) (l m : List α) : (l.foldl (putA key) m).length ≤ m.length + l.length := by
  induction l generalizing m with
  | nil => simp
  | cons a l ih =>
    have h1 := ih (putA key m a)
    have h2 := putA_len key m a
    rw [List.foldl_cons, List.length_cons]
    omega
theorem puts_len0 {α : Type} (key : α → Int) (l : List α) : (l.foldl (putA key) []).length ≤ l.length := by
  have := puts_len key l []
  simpa using this
theorem steps_len (c : List Ch) (m : List Pa) : (c.foldl stepA m).length ≤ m.length + c.length := by
  induction c generalizing m with
  | nil => simp
  | cons a l ih =>
    have h1 := ih (stepA m a)
    have h2 : (stepA m a).length ≤ m.length + 1 := by
      unfold stepA
      split
      · have := delA_len Pa.n m a.n; omega
      · exact putA_len Pa.n m a.pa
    rw [List.foldl_cons, List.length_cons]
    omega
set_option maxHeartbeats 1000000 in
theorem map_calls (w : World) (u : Value) (l : List Pa) (h : Sl encP w u l) (hl : l.length ≤ 10000) :
    Calls Tryz.prog 27 #[u] w fun e w' => ∃ v m, e = .returned v ∧ Own encP 76 w' w.heap.size v m ∧ MapIs l m ∧ m.length ≤ l.length ∧ Below w.heap.size w w' := by
  have hT := taken_calls w u l h (by omega)
  clear h
  go_enter Tryz.func27, Tryz.ntmps27
  go_wp2_with (first
    | (go_at_call 36; refine hR.mono ?_; clear hR; rintro e w2 ⟨v, rfl, h2, b2⟩)
    | (go_at_call 35; refine hT.mono ?_; clear hT; rintro e w1 ⟨rfl, m1, b1⟩
       have hR := risingP_calls w1 w.heap.size l.length _ m1 (by omega) (by have := puts_len0 Pa.n l; omega)))
  go_ret
  exact ⟨v, _, rfl, h2.lower b1.size, map_is l, puts_len0 Pa.n l, b1.trans (b2.mono b1.size)⟩
theorem steps_take (c : List Ch) (m : List Pa) (k : Nat) (h : k < c.length) : (c.take (k + 1)).foldl stepA m = stepA ((c.take k).foldl stepA m) c[k] := by
  rw [List.take_succ_eq_append_getElem h, List.foldl_append]
  rfl
set_option maxRecDepth 100000 in
set_option maxHeartbeats 4000000 in
theorem apply_calls (w : World) (u uc : Value) (l : List Pa) (c : List Ch) (h : Sl encP w u l) (hc : Sl encC w uc c) (hl : l.length ≤ 10000) (hcl : c.length ≤ 10000) :
    Calls Tryz.prog 18 #[u, uc] w fun e w' => ∃ v m, e = .returned v ∧ Own encP 76 w' w.heap.size v m ∧ ApplyIs l c m ∧ m.length ≤ l.length + c.length ∧ Below w.heap.size w w' := by
  have hT := taken_calls w u l h (by omega)
  have hc' := hc
  obtain ⟨ad, cap, rfl, hcap, hmax, _, _⟩ := hc'
  have hml := puts_len0 Pa.n l
  have HMI : Hid (MapIs l (l.foldl (putA Pa.n) [])) := map_is l
  generalize l.foldl (putA Pa.n) [] = M at *
  have HL : Hid (M.length ≤ l.length) := hml
  obtain ⟨n0, hn0⟩ : ∃ n0, n0 = l.length := ⟨_, rfl⟩
  rw [← hn0] at hT hl HL
  have HN0 : Hid (n0 = l.length) := hn0
  have HI : Hid (∀ i (hi : i < c.length), ∃ g off, ad = some ⟨g, off, none⟩ ∧ g < w.heap.size ∧ w.rangeAt g (off + i * 26) (encC.c c[i])) := fun i hi => SlB.at hc i hi
  obtain ⟨N, hN⟩ : ∃ N : Nat, N = c.length := ⟨_, rfl⟩
  rw [← hN] at hcap hmax hcl ⊢
  have HN : Hid (N = c.length) := hN
  clear h hc hml hn0 hN
  go_enter Tryz.func18, Tryz.ntmps18
  go_wp2_with (first
    | (go_at_call 35; refine hT.mono ?_; clear hT; rintro e w1 ⟨rfl, m1, b1⟩))
  have HST : Hid (Below w.heap.size w w1 ∧ MapA encP Pa.n w1 w.heap.size (n0 + 0) ((c.take 0).foldl stepA M)) := ⟨b1, m1⟩
  clear m1 b1
  go_loopg [12] N (fun gg i wr => ∃ k : Nat, k + gg = N ∧ i = .int .i64 (k : Int) ∧ Hid (Below w.heap.size w wr ∧ MapA encP Pa.n wr w.heap.size (n0 + k) ((c.take k).foldl stepA M)))
  case atStart => exact ⟨0, by omega, rfl, HST.out⟩
  case round =>
    obtain ⟨k, hkg, rfl, HE⟩ := hrel
    cases gk with
    | zero =>
      have hkN : k = N := by omega
      subst hkN
      have hR := risingP_calls wr w.heap.size (n0 + k) _ HE.out.2 (by omega) (by have h1 := steps_len (c.take k) M; have h2 := HL.out; have h3 : (c.take k).length ≤ k := by simp; omega
                                                                                 omega)
      go_wp2_with (first
        | (go_at_call 36; refine hR.mono ?_; clear hR; rintro e w2 ⟨v, rfl, h2, b2⟩))
      go_ret
      have e1 : c.take k = c := List.take_of_length_le (by have := HN.out; omega)
      rw [e1] at h2
      refine ⟨v, _, rfl, h2.lower HE.out.1.size, apply_is HMI.out c, ?_, HE.out.1.trans (b2.mono HE.out.1.size)⟩
      have h3 := steps_len c M
      have h4 := HL.out
      have h5 := HN0.out
      have h6 := HN.out
      omega
    | succ gg =>
      have hlt : k < N := by omega
      have hltI : (k : Int) < (N : Int) := by omega
      have hkl : k < c.length := by rw [← HN.out]; exact hlt
      obtain ⟨g0, off, rfl, hg0, hat⟩ := HI.out k hkl
      have HR : Hid (wr.rangeAt g0 (off + k * 26) (encC.c c[k])) := range_same' hat (HE.out.1.block g0 hg0)
      have HTK : Hid ((c.take (k + 1)).foldl stepA M = stepA ((c.take k).foldl stepA M) c[k]) := steps_take c M k hkl
      generalize c[k] = p at *
      generalize (c.take k).foldl stepA M = L at *
      clear hat hkl
      go_upto_region 5 with (first
        | (refine load_el elC _ rfl g0 (off + k * 26) rfl rfl p HR.out ?_)
        | (refine store_el elC rfl _ _ rfl wr.heap.size rfl p rfl ch0 (InB.new encC _ wr ch0 _ rfl) ?_; intro x1 hu1 tx1 sx1))
      have BX : Below wr.heap.size wr x1 := ((Below.refl _ wr).alloc (Nat.le_refl _) _).trans (tx1.below (by simp) (Nat.le_refl _) (by simp))
      have hb1 : Below w.heap.size w x1 := HE.out.1.trans (BX.mono HE.out.1.size)
      have hm1 := HE.out.2.below BX (Nat.le_refl _)
      obtain ⟨cv, cg⟩ := range_vC hu1.range
      simp only [Nat.zero_add] at cv cg
      clear HE HR tx1 sx1 BX
      generalize wr.heap.size = q at *
      cases hpg : p.g with
      | true =>
        rw [hpg] at cg
        have HSA : Hid (stepA L p = delA Pa.n L p.n) := (show _ = _ by unfold stepA; rw [if_pos hpg])
        go_wp2_with (first
          | (refine load_part _ rfl q 0 rfl rfl _ p.h (range_kC hu1.range) ?_)
          | (at_delete; refine drop_a tyP rfl _ _ rfl w.heap.size (n0 + k) L rfl hm1 p.kz rfl ?_; intro x2 hm2 gr2))
        go_roundg gg
        case measure => omega
        case rel => exact ⟨k + 1, by omega, congrArg (Value.int .i64) (by omega), (show Below w.heap.size w x2 ∧ MapA encP Pa.n x2 w.heap.size (n0 + (k + 1)) ((c.take (k + 1)).foldl stepA M) from ⟨hb1.grown gr2 hb1.size (fun j hj => by cases hj; exact Nat.le_refl _), by rw [HTK.out, HSA.out]; exact hm2.mono (by omega)⟩)⟩
      | false =>
        rw [hpg] at cg
        have HSA : Hid (stepA L p = putA Pa.n L p.pa) := (show _ = _ by unfold stepA; rw [if_neg (by rw [hpg]; simp)])
        go_wp2_with (first
          | (refine load_part _ rfl q 0 rfl rfl _ p.h (range_kC hu1.range) ?_)
          | (refine build_p rfl _ _ rfl p.pa rfl rfl ?_)
          | (refine store_a tyP rfl _ _ _ rfl w.heap.size (n0 + k) L rfl hm1 (by omega) p.kz rfl p.pa rfl rfl ?_; intro x2 hm2 gr2))
        go_roundg gg
        case measure => omega
        case rel => exact ⟨k + 1, by omega, congrArg (Value.int .i64) (by omega), (show Below w.heap.size w x2 ∧ MapA encP Pa.n x2 w.heap.size (n0 + (k + 1)) ((c.take (k + 1)).foldl stepA M) from ⟨hb1.grown gr2 hb1.size (fun j hj => by cases hj; exact Nat.le_refl _), by rw [HTK.out, HSA.out]; exact hm2⟩)⟩
end Go.Proofs.YtdmindhjmjnagabGreatDoor
