import Derived.Test.YtdmindhjmjnagaaGreatDoorB13
import Derived.Test.YtdmindhjmjnagaaGreatDoorB05
/- DlE DlB DlC Sl3 -/
namespace Go.Proofs.YtdmindhjmjnagaaGreatDoor
set_option linter.unusedVariables false
set_option maxRecDepth 1000000
set_option maxHeartbeats 32000000
section
open Go.RowKit
theorem built_of (t : TypeId) (Z : Array Value) (pl : List (Nat × Nat)) (h1 : (Tryz.prog.info? t).map (·.zero) = some (some (.agg Z)))
    (h2 : (Tryz.prog.underlying t).map (fun d => match d with | .struct fs => fs.toList.mapM (fun f => (Tryz.prog.info? f.type).map fun i => (f.offset, i.size)) | _ => none) = some (some pl)) (parts : List (Nat × Value)) :
    Tryz.prog.built t parts = Instr.fill (pl.toArray[·]?) Z parts := by
 unfold Program.built
 cases hi : Tryz.prog.info? t with
 | none => rw [hi] at h1; cases h1
 | some i =>
  rw [hi] at h1
  have hz : i.zero = some (.agg Z) := by simpa using h1
  cases hu : Tryz.prog.underlying t with
  | none => rw [hu] at h2; cases h2
  | some d =>
   rw [hu] at h2
   cases d with
   | struct fs =>
    have hp : fs.toList.mapM (fun f => (Tryz.prog.info? f.type).map fun i => (f.offset, i.size)) = some pl := by simpa using h2
    simp only [hz, hp]
    rfl
   | _ => simp at h2
theorem built_P (parts : List (Nat × Value)) : Tryz.prog.built 62 parts = Instr.fill ([(0, 24), (24, 1)].toArray[·]?) (pcd pa0).toArray parts := built_of _ _ _ (by kernel_rfl) (by kernel_rfl) parts
theorem built_C (parts : List (Nat × Value)) : Tryz.prog.built 95 parts = Instr.fill ([(0, 24), (24, 1), (25, 1)].toArray[·]?) (ccd ch0).toArray parts := built_of _ _ _ (by kernel_rfl) (by kernel_rfl) parts
theorem row_K (F K : List UInt8) (rest : List Value) (hF : F.length = 24) : ((bc F ++ rest).toArray.toList.take 0 ++ (kv K).cells.toList ++ (bc F ++ rest).toArray.toList.drop (0 + 24)).toArray = (bc K ++ rest).toArray := by
 have h : (bc F).length = 24 := by rw [bc_length, hF]
 simp only [Value.cells, List.take_zero, List.nil_append, Nat.zero_add]
 rw [List.drop_append_of_le_length (by omega), List.drop_of_length_le (by omega)]
 rfl
theorem row_V (K : List UInt8) (a b : Value) (rest : List Value) (hb : b.cells = #[b]) (hK : K.length = 24) : ((bc K ++ a :: rest).toArray.toList.take 24 ++ b.cells.toList ++ (bc K ++ a :: rest).toArray.toList.drop (24 + 1)).toArray = (bc K ++ b :: rest).toArray := by
 have h : (bc K).length = 24 := by rw [bc_length, hK]
 simp only [hb]
 rw [List.take_append_of_le_length (by omega), List.take_of_length_le (by omega), List.drop_append, List.drop_of_length_le (by omega), h]
 simp
theorem row_G (K : List UInt8) (s a b : Value) (hb : b.cells = #[b]) (hK : K.length = 24) : ((bc K ++ [s, a]).toArray.toList.take 25 ++ b.cells.toList ++ (bc K ++ [s, a]).toArray.toList.drop (25 + 1)).toArray = (bc K ++ [s, b]).toArray := by
 have h : (bc K).length = 24 := by rw [bc_length, hK]
 simp only [hb]
 rw [List.take_append, List.take_of_length_le (by omega), List.drop_of_length_le (by simp [h]), h]
 simp
theorem built_p (p : Pa) : Tryz.prog.built 62 [(0, kv p.k), (1, .string (str p.v))] = some (encP.c p).toArray := by
 rw [built_P, fill_put (off := 0) (size := 24) rfl (by simp [Value.cells, bc_length, p.h]) (by simp [pcd, bc_length, pa0, zs_length]), pcd, row_K _ _ _ pa0.h,
   fill_put (off := 24) (size := 1) rfl rfl (by simp [bc_length, p.h]), row_V _ _ _ _ rfl p.h]
 rfl
theorem built_put (c : Ch) (hg : c.g = false) : Tryz.prog.built 95 [(0, kv c.k), (1, .string (str c.v))] = some (encC.c c).toArray := by
 rw [built_C, fill_put (off := 0) (size := 24) rfl (by simp [Value.cells, bc_length, c.h]) (by simp [ccd, bc_length, ch0, zs_length]), ccd, row_K _ _ _ ch0.h,
   fill_put (off := 24) (size := 1) rfl rfl (by simp [bc_length, c.h]), row_V _ _ _ _ rfl c.h]
 show some _ = some (ccd c).toArray
 rw [ccd, hg]
 rfl
theorem built_gone (K : Kz) : Tryz.prog.built 95 [(0, kv K.k), (2, .bool true)] = some (encC.c ⟨K.k, K.h, [], true⟩).toArray := by
 rw [built_C, fill_put (off := 0) (size := 24) rfl (by simp [Value.cells, bc_length, K.h]) (by simp [ccd, bc_length, ch0, zs_length]), ccd, row_K _ _ _ ch0.h,
   fill_put (off := 25) (size := 1) rfl rfl (by simp [bc_length, K.h]), row_G _ _ _ _ rfl K.h]
 rfl
theorem exec_build {ρ : Operand → Value} {o : Oper} {t : TypeId} {parts : Array (Nat × Operand)} (ho : o.op = .build t parts) {cells : Array Value} (hb : Tryz.prog.built t ((parts.map fun x => (x.1, ρ x.2)).toList) = some cells) (w : World) : (execOp ρ o).run Tryz.prog w = .ok (.value (.agg cells)) w := by
 unfold execOp
 simp only [ho, Sem.run_bind]
 rw [run_build w t _ cells hb]
 rfl
section
variable {ops : Array Oper} {rest : List Oper} {o : Oper} {a : Act} {w : World} {Q : Exit → Act → World → Prop}
theorem build_at (hg : o.guard = none) {t : TypeId} {parts : Array (Nat × Operand)} (ho : o.op = .build t parts) {cells : Array Value} (hb : Tryz.prog.built t ((parts.map fun x => (x.1, a.eval x.2)).toList) = some cells)
    (h : wpList Tryz.prog ops Q rest (a.put o.dst (.agg cells)) w) : wpList Tryz.prog ops Q (o :: rest) a w := by
 refine wpList_plain hg fun K hK => ?_
 unfold Oper.wp
 rw [exec_build ho hb]
 exact hK _ _ h
theorem build_p (hg : o.guard = none) (x y : Operand) (ho : o.op = .build 62 #[(0, x), (1, y)]) (p : Pa) (hx : a.eval x = kv p.k) (hy : a.eval y = .string (str p.v))
    (h : wpList Tryz.prog ops Q rest (a.put o.dst (.agg (encP.c p).toArray)) w) : wpList Tryz.prog ops Q (o :: rest) a w := build_at hg ho (by simp only [List.map_toArray, List.map_cons, List.map_nil, hx, hy]; exact built_p p) h
theorem build_put (hg : o.guard = none) (x y : Operand) (ho : o.op = .build 95 #[(0, x), (1, y)]) (c : Ch) (hc : c.g = false) (hx : a.eval x = kv c.k) (hy : a.eval y = .string (str c.v))
    (h : wpList Tryz.prog ops Q rest (a.put o.dst (.agg (encC.c c).toArray)) w) : wpList Tryz.prog ops Q (o :: rest) a w := build_at hg ho (by simp only [List.map_toArray, List.map_cons, List.map_nil, hx, hy]; exact built_put c hc) h
theorem build_gone (hg : o.guard = none) (x y : Operand) (ho : o.op = .build 95 #[(0, x), (2, y)]) (K : Kz) (hx : a.eval x = kv K.k) (hy : a.eval y = .bool true)
    (h : wpList Tryz.prog ops Q rest (a.put o.dst (.agg (encC.c ⟨K.k, K.h, [], true⟩).toArray)) w) : wpList Tryz.prog ops Q (o :: rest) a w := build_at hg ho (by simp only [List.map_toArray, List.map_cons, List.map_nil, hx, hy]; exact built_gone K) h
end
instance : DecidableEq Kz := fun a b => decidable_of_iff (a.k = b.k) ⟨fun h => by obtain ⟨k, _⟩ := a; obtain ⟨l, _⟩ := b; cases h; rfl, fun h => by rw [h]⟩
instance : DecidableEq Pa := fun a b => decidable_of_iff (a.k = b.k ∧ a.v = b.v) ⟨fun h => by obtain ⟨k, _, v⟩ := a; obtain ⟨l, _, u⟩ := b; obtain ⟨rfl, rfl⟩ := h; rfl, fun h => by rw [h]; exact ⟨rfl, rfl⟩⟩
instance : DecidableEq Ch := fun a b => decidable_of_iff (a.k = b.k ∧ a.v = b.v ∧ a.g = b.g) ⟨fun h => by obtain ⟨k, _, v, g⟩ := a; obtain ⟨l, _, u, i⟩ := b; obtain ⟨rfl, rfl, rfl⟩ := h; rfl, fun h => by rw [h]; exact ⟨rfl, rfl, rfl⟩⟩
theorem Kz.eq_iff (a b : Kz) : a = b ↔ a.k = b.k := ⟨fun h => by rw [h], fun h => by obtain ⟨k, _⟩ := a; obtain ⟨l, _⟩ := b; cases h; rfl⟩
theorem Ch.eq_iff (a b : Ch) : a = b ↔ a.k = b.k ∧ a.v = b.v ∧ a.g = b.g := ⟨fun h => by rw [h]; exact ⟨rfl, rfl, rfl⟩, fun h => by obtain ⟨k, _, v, g⟩ := a; obtain ⟨l, _, u, i⟩ := b; obtain ⟨rfl, rfl, rfl⟩ := h; rfl⟩
theorem part_str (cs : Array Value) (o : Nat) (v : ByteArray) (h : cs[o]? = some (.string v)) (w : World) : (part 9 cs o).run Tryz.prog w = .ok (.string v) w := by
 simp only [part, Sem.run_bind, Tryz.isAgg9, Result.andThen_ok, h]
 simp
theorem part_bool (cs : Array Value) (o : Nat) (v : Bool) (h : cs[o]? = some (.bool v)) (w : World) : (part 4 cs o).run Tryz.prog w = .ok (.bool v) w := by
 simp only [part, Sem.run_bind, Tryz.isAgg4, Result.andThen_ok, h]
 simp
theorem eq_s (d : Nat) (a b : List UInt8) (w : World) : (Op.equalIn (d + 1) 9 (.string (str a)) (.string (str b))).run Tryz.prog w = .ok (decide (a = b)) w := by
 rw [run_equalIn_string w d 9 _ _ Tryz.underlying9, str_toList, str_toList]
 congr 1
 rw [Bool.eq_iff_iff, beq_iff_eq, decide_eq_true_eq]
theorem eqFields_cons (d : Nat) (xs ys : Array Value) (f : Field) (fs : List Field) (a b : Value) (q : Bool) (w : World) (hn : (f.name == "_") = false) (h1 : ∀ w, (part f.type xs f.offset).run Tryz.prog w = .ok a w) (h2 : ∀ w, (part f.type ys f.offset).run Tryz.prog w = .ok b w) (h3 : ∀ w, (Op.equalIn d f.type a b).run Tryz.prog w = .ok q w) :
    (Op.eqFields d xs ys (f :: fs)).run Tryz.prog w = if q then (Op.eqFields d xs ys fs).run Tryz.prog w else .ok false w := by
 have hne : ¬ f.name = "_" := by simpa using hn
 cases q <;> simp [Op.eqFields, hne, h1, h2, h3]
theorem part_key (K : List UInt8) (rest : List Value) (h : K.length = 24) (w : World) : (part 54 (bc K ++ rest).toArray 0).run Tryz.prog w = .ok (kv K) w := by
 have h1 : (bc K).length = 24 := by rw [bc_length, h]
 have e : (bc K ++ rest).toArray.extract 0 (0 + 24) = (bc K).toArray := by
  rw [List.extract_toArray, List.extract_eq_take_drop, List.drop_zero, Nat.zero_add, Nat.sub_zero, List.take_append_of_le_length (by omega), List.take_of_length_le (by omega)]
 simp only [part, Sem.run_bind, Tryz.isAgg54, Tryz.sizeOf54, Result.andThen_ok, if_true, Sem.run_pure, e]
theorem eq_k (w : World) (K L : List UInt8) (hK : K.length = 24) (hL : L.length = 24) : (Op.equalIn 9999 54 (kv K) (kv L)).run Tryz.prog w = .ok (K == L) w := run_equalIn_bytes w 9997 54 5 24 Tryz.underlying54 Tryz.underlying5 Tryz.sizeOf5 K L hK hL
theorem at24 (K : List UInt8) (x : Value) (rest : List Value) (h : K.length = 24) : (bc K ++ x :: rest).toArray[24]? = some x := by
 have h1 : (bc K).length = 24 := by rw [bc_length, h]
 rw [List.getElem?_toArray, List.getElem?_append_right (by omega)]
 simp [h1]
theorem at25 (K : List UInt8) (x y : Value) (h : K.length = 24) : (bc K ++ [x, y]).toArray[25]? = some y := by
 have h1 : (bc K).length = 24 := by rw [bc_length, h]
 rw [List.getElem?_toArray, List.getElem?_append_right (by omega)]
 simp [h1]
theorem fields_C : (Tryz.prog.fieldsOf 95).toList.map (fun f => (f.name == "_", f.type, f.offset)) = [(false, 54, 0), (false, 9, 24), (false, 4, 25)] := by kernel_rfl
theorem struct_C : Tryz.prog.underlying 95 = some (.struct (Tryz.prog.fieldsOf 95)) := by
 unfold Program.fieldsOf
 rw [Tryz.underlying95]
theorem enc_C (p : Ch) : encC.c p = bc p.k ++ [.string (str p.v), .bool p.g] := rfl
theorem eq_C (a b : Ch) (w : World) : (Op.equalIn 10000 95 (.agg (encC.c a).toArray) (.agg (encC.c b).toArray)).run Tryz.prog w = .ok (decide (a = b)) w := by
 have hp : Tryz.prog.stoodInHeld 95 = false := by kernel_rfl
 rw [enc_C, enc_C, run_equalIn_struct w 9999 95 _ _ struct_C hp]
 have hf := fields_C
 generalize (Tryz.prog.fieldsOf 95).toList = fl at hf ⊢
 rcases fl with _ | ⟨f0, _ | ⟨f1, _ | ⟨f2, _ | ⟨f3, fl⟩⟩⟩⟩
 · simp at hf
 · simp at hf
 · simp at hf
 · simp only [List.map_cons, List.map_nil, List.cons.injEq, Prod.mk.injEq] at hf
   obtain ⟨⟨a1, a2, a3⟩, ⟨b1, b2, b3⟩, ⟨c1, c2, c3⟩, _⟩ := hf
   rw [eqFields_cons _ _ _ _ _ (kv a.k) (kv b.k) (a.k == b.k) w a1 (by rw [a2, a3]; exact part_key a.k _ a.h) (by rw [a2, a3]; exact part_key b.k _ b.h) (by rw [a2]; exact fun w => eq_k w a.k b.k a.h b.h),
     eqFields_cons _ _ _ _ _ (.string (str a.v)) (.string (str b.v)) (decide (a.v = b.v)) w b1 (by rw [b2, b3]; exact part_str _ _ _ (at24 _ _ _ a.h)) (by rw [b2, b3]; exact part_str _ _ _ (at24 _ _ _ b.h)) (by rw [b2]; exact eq_s 9998 _ _),
     eqFields_cons _ _ _ _ _ (.bool a.g) (.bool b.g) (decide (a.g = b.g)) w c1 (by rw [c2, c3]; exact part_bool _ _ _ (at25 _ _ _ a.h)) (by rw [c2, c3]; exact part_bool _ _ _ (at25 _ _ _ b.h)) (by rw [c2]; exact fun w => by rw [run_equalIn_bool' w 9998 4 a.g b.g Tryz.underlying4]; congr 1)]
   simp only [Op.eqFields, Sem.run_pure]
   rw [show decide (a = b) = decide (a.k = b.k ∧ a.v = b.v ∧ a.g = b.g) from decide_eq_decide.2 (Ch.eq_iff a b)]
   by_cases h1 : a.k = b.k <;> by_cases h2 : a.v = b.v <;> by_cases h3 : a.g = b.g <;> simp [h1, h2, h3]
 · simp at hf
theorem exec_ne_C {f : Operand → Value} {o : Oper} (x y : Operand) (t' : TypeId) (ho : o.op = .binOp .neq 95 x y t') (a b : Ch) (hx : f x = .agg (encC.c a).toArray) (hy : f y = .agg (encC.c b).toArray) (w : World) : (execOp f o).run Tryz.prog w = .ok (.value (.bool (!decide (a = b)))) w := by
 unfold execOp
 rw [ho]
 have hm : Tryz.prog.eqGuardType Tryz.prog.depth 95 = false := by kernel_rfl
 simp only [hx, hy, Sem.run_bind, run_eqGuard_agg w .neq 95 x y _ _ hm, run_neq_struct, eq_C, Result.andThen_ok, Sem.run_pure]
theorem eq_K (a b : Kz) (w : World) : (Op.equalIn 10000 54 (kv a.k) (kv b.k)).run Tryz.prog w = .ok (decide (a = b)) w := by
 rw [eq_key w a.k b.k a.h b.h]
 congr 1
 rw [Bool.eq_iff_iff, beq_iff_eq, decide_eq_true_eq]
 exact (Kz.eq_iff a b).symm
theorem exec_eq_K {f : Operand → Value} {o : Oper} (x y : Operand) (t' : TypeId) (ho : o.op = .binOp .eql 54 x y t') (a b : Kz) (hx : f x = kv a.k) (hy : f y = kv b.k) (w : World) : (execOp f o).run Tryz.prog w = .ok (.value (.bool (decide (a = b)))) w := by
 unfold execOp
 rw [ho]
 have hm : Tryz.prog.eqGuardType Tryz.prog.depth 54 = false := by kernel_rfl
 simp only [hx, hy, Sem.run_bind, run_eqGuard_agg w .eql 54 x y _ _ hm, run_eql_struct, eq_K, Result.andThen_ok, Sem.run_pure]
section
variable {ops : Array Oper} {rest : List Oper} {o : Oper} {a : Act} {w : World} {Q : Exit → Act → World → Prop}
end
end
section
open Go.RowKit
theorem puts_len {α : Type} (key : α → Int) (l m : List α) : (l.foldl (putA key) m).length ≤ m.length + l.length := by
 induction l generalizing m with
 | nil => simp
 | cons a l ih =>
  have h1 := ih (putA key m a)
  have h2 := putA_len key m a
  rw [List.foldl_cons, List.length_cons]
  omega
theorem puts_len0 {α : Type} (key : α → Int) (l : List α) : (l.foldl (putA key) []).length ≤ l.length := by
 have := puts_len key l []
 simpa using this
theorem steps_len (c : List Ch) (m : List Pa) : (c.foldl stepA m).length ≤ m.length + c.length := by
 induction c generalizing m with
 | nil => simp
 | cons a l ih =>
  have h1 := ih (stepA m a)
  have h2 : (stepA m a).length ≤ m.length + 1 := by
   unfold stepA
   split
   · have := delA_len Pa.n m a.n; omega
   · exact putA_len Pa.n m a.pa
  rw [List.foldl_cons, List.length_cons]
  omega
theorem map_calls (w : World) (u : Value) (l : List Pa) (h : Sl encP w u l) (hl : l.length ≤ 10000) :
    Calls Tryz.prog 63 #[u] w fun e w' => ∃ v m, e = .returned v ∧ Own encP 62 w' w.heap.size v m ∧ MapIs l m ∧ m.length ≤ l.length ∧ Below w.heap.size w w' := by
 have hT := taken_calls w u l h (by omega)
 clear h
 go_enter Tryz.func63, Tryz.ntmps63
 go_wp2_with (first
  | (go_at_call 98; refine hR.mono ?_; clear hR; rintro e w2 ⟨v, rfl, h2, b2⟩)
  | (go_at_call 97; refine hT.mono ?_; clear hT; rintro e w1 ⟨rfl, m1, b1⟩
     have hR := risingP_calls w1 w.heap.size l.length _ m1 (by omega) (by have := puts_len0 Pa.n l; omega)))
 go_ret
 exact ⟨v, _, rfl, h2.lower b1.size, map_is l, puts_len0 Pa.n l, b1.trans (b2.mono b1.size)⟩
theorem steps_take (c : List Ch) (m : List Pa) (k : Nat) (h : k < c.length) : (c.take (k + 1)).foldl stepA m = stepA ((c.take k).foldl stepA m) c[k] := by
 rw [List.take_succ_eq_append_getElem h, List.foldl_append]
 rfl
theorem apply_calls (w : World) (u uc : Value) (l : List Pa) (c : List Ch) (h : Sl encP w u l) (hc : Sl encC w uc c) (hl : l.length ≤ 10000) (hcl : c.length ≤ 10000) :
    Calls Tryz.prog 54 #[u, uc] w fun e w' => ∃ v m, e = .returned v ∧ Own encP 62 w' w.heap.size v m ∧ ApplyIs l c m ∧ m.length ≤ l.length + c.length ∧ Below w.heap.size w w' := by
 have hT := taken_calls w u l h (by omega)
 have hc' := hc
 obtain ⟨ad, cap, rfl, hcap, hmax, _, _⟩ := hc'
 have hml := puts_len0 Pa.n l
 have HMI : Hid (MapIs l (l.foldl (putA Pa.n) [])) := map_is l
 generalize l.foldl (putA Pa.n) [] = M at *
 have HL : Hid (M.length ≤ l.length) := hml
 obtain ⟨n0, hn0⟩ : ∃ n0, n0 = l.length := ⟨_, rfl⟩
 rw [← hn0] at hT hl HL
 have HN0 : Hid (n0 = l.length) := hn0
 have HI : Hid (∀ i (hi : i < c.length), ∃ g off, ad = some ⟨g, off, none⟩ ∧ g < w.heap.size ∧ w.rangeAt g (off + i * 26) (encC.c c[i])) := fun i hi => SlB.at hc i hi
 obtain ⟨N, hN⟩ : ∃ N : Nat, N = c.length := ⟨_, rfl⟩
 rw [← hN] at hcap hmax hcl ⊢
 have HN : Hid (N = c.length) := hN
 clear h hc hml hn0 hN
 go_enter Tryz.func54, Tryz.ntmps54
 go_wp2_with (first
  | (go_at_call 97; refine hT.mono ?_; clear hT; rintro e w1 ⟨rfl, m1, b1⟩))
 have HST : Hid (Below w.heap.size w w1 ∧ MapA encP Pa.n w1 w.heap.size (n0 + 0) ((c.take 0).foldl stepA M)) := ⟨b1, m1⟩
 clear m1 b1
 go_loopg [12] N (fun gg i wr => ∃ k : Nat, k + gg = N ∧ i = .int .i64 (k : Int) ∧ Hid (Below w.heap.size w wr ∧ MapA encP Pa.n wr w.heap.size (n0 + k) ((c.take k).foldl stepA M)))
 case atStart => exact ⟨0, by omega, rfl, HST.out⟩
 case round =>
  obtain ⟨k, hkg, rfl, HE⟩ := hrel
  cases gk with
  | zero =>
   have hkN : k = N := by omega
   subst hkN
   have hR := risingP_calls wr w.heap.size (n0 + k) _ HE.out.2 (by omega) (by have h1 := steps_len (c.take k) M; have h2 := HL.out; have h3 : (c.take k).length ≤ k := by simp; omega
                                                                              omega)
   go_wp2_with (first
    | (go_at_call 98; refine hR.mono ?_; clear hR; rintro e w2 ⟨v, rfl, h2, b2⟩))
   go_ret
   have e1 : c.take k = c := List.take_of_length_le (by have := HN.out; omega)
   rw [e1] at h2
   refine ⟨v, _, rfl, h2.lower HE.out.1.size, apply_is HMI.out c, ?_, HE.out.1.trans (b2.mono HE.out.1.size)⟩
   have h3 := steps_len c M
   have h4 := HL.out
   have h5 := HN0.out
   have h6 := HN.out
   omega
  | succ gg =>
   have hlt : k < N := by omega
   have hltI : (k : Int) < (N : Int) := by omega
   have hkl : k < c.length := by rw [← HN.out]; exact hlt
   obtain ⟨g0, off, rfl, hg0, hat⟩ := HI.out k hkl
   have HR : Hid (wr.rangeAt g0 (off + k * 26) (encC.c c[k])) := range_same' hat (HE.out.1.block g0 hg0)
   have HTK : Hid ((c.take (k + 1)).foldl stepA M = stepA ((c.take k).foldl stepA M) c[k]) := steps_take c M k hkl
   generalize c[k] = p at *
   generalize (c.take k).foldl stepA M = L at *
   clear hat hkl
   go_upto_region 5 with (first
    | (refine load_el elC _ rfl g0 (off + k * 26) rfl rfl p HR.out ?_)
    | (refine store_el elC rfl _ _ rfl wr.heap.size rfl p rfl ch0 (InB.new encC _ wr ch0 _ rfl) ?_; intro x1 hu1 tx1 sx1))
   have BX : Below wr.heap.size wr x1 := ((Below.refl _ wr).alloc (Nat.le_refl _) _).trans (tx1.below (by simp) (Nat.le_refl _) (by simp))
   have hb1 : Below w.heap.size w x1 := HE.out.1.trans (BX.mono HE.out.1.size)
   have hm1 := HE.out.2.below BX (Nat.le_refl _)
   obtain ⟨cv, cg⟩ := range_vC hu1.range
   simp only [Nat.zero_add] at cv cg
   clear HE HR tx1 sx1 BX
   generalize wr.heap.size = q at *
   cases hpg : p.g with
   | true =>
    rw [hpg] at cg
    have HSA : Hid (stepA L p = delA Pa.n L p.n) := (show _ = _ by unfold stepA; rw [if_pos hpg])
    go_wp2_with (first
     | (refine load_part _ rfl q 0 rfl rfl _ p.h (range_kC hu1.range) ?_)
     | (at_delete; refine drop_a tyP rfl _ _ rfl w.heap.size (n0 + k) L rfl hm1 p.kz rfl ?_; intro x2 hm2 gr2))
    go_roundg gg
    case measure => omega
    case rel => exact ⟨k + 1, by omega, congrArg (Value.int .i64) (by omega), (show Below w.heap.size w x2 ∧ MapA encP Pa.n x2 w.heap.size (n0 + (k + 1)) ((c.take (k + 1)).foldl stepA M) from ⟨hb1.grown gr2 hb1.size (fun j hj => by cases hj; exact Nat.le_refl _), by rw [HTK.out, HSA.out]; exact hm2.mono (by omega)⟩)⟩
   | false =>
    rw [hpg] at cg
    have HSA : Hid (stepA L p = putA Pa.n L p.pa) := (show _ = _ by unfold stepA; rw [if_neg (by rw [hpg]; simp)])
    go_wp2_with (first
     | (refine load_part _ rfl q 0 rfl rfl _ p.h (range_kC hu1.range) ?_)
     | (refine build_p rfl _ _ rfl p.pa rfl rfl ?_)
     | (refine store_a tyP rfl _ _ _ rfl w.heap.size (n0 + k) L rfl hm1 (by omega) p.kz rfl p.pa rfl rfl ?_; intro x2 hm2 gr2))
    go_roundg gg
    case measure => omega
    case rel => exact ⟨k + 1, by omega, congrArg (Value.int .i64) (by omega), (show Below w.heap.size w x2 ∧ MapA encP Pa.n x2 w.heap.size (n0 + (k + 1)) ((c.take (k + 1)).foldl stepA M) from ⟨hb1.grown gr2 hb1.size (fun j hj => by cases hj; exact Nat.le_refl _), by rw [HTK.out, HSA.out]; exact hm2⟩)⟩
end
section
open Go.RowKit
structure SlS (w : World) (B : Nat) (u : Value) (cs : List (Value × List Ch)) : Prop where
 out : ∃ ad cap, u = .slice ad cs.length cap ∧ cs.length ≤ cap ∧ cs.length ≤ maxLen ∧ (cs = [] ∨ ∃ g off, ad = some ⟨g, off, none⟩ ∧ g < B ∧ ∀ i (hi : i < cs.length), w.cell? ⟨g, off + i, none⟩ = some (cs[i]).1)
 each : ∀ e ∈ cs, SlB encC w B e.1 e.2
theorem Ch.set_v {w : World} {q : Nat} {c : Ch} (h : InB encC 95 w q c) (hg : c.g = true) : InB encC 95 (w.setCell ⟨q, 24, none⟩ (.string ⟨#[]⟩)) q c.plain := by
 constructor
 rw [setCell_eq_setRow w q 24 _ _ _ _ h.blk, setRow_heap w q _ _ _ _ h.blk]
 have hk : (bc c.k).length = 24 := by rw [bc_length, c.h]
 have e : c.plain = ⟨c.k, c.h, [], true⟩ := by unfold Ch.plain; rw [if_pos hg]
 rw [e]
 congr 2
 show (ccd c).toArray.setIfInBounds 24 _ = (ccd ⟨c.k, c.h, [], true⟩).toArray
 simp only [ccd, List.setIfInBounds_toArray]
 rw [List.set_append_right _ _ (by omega), hk, hg]
 rfl
theorem plains_take (l : List Ch) (m : List Ch) (k : Nat) (h : k < l.length) : ((l.take (k + 1)).map Ch.plain).foldl (putA Ch.n) m = putA Ch.n (((l.take k).map Ch.plain).foldl (putA Ch.n) m) (l[k]).plain := by
 rw [List.take_succ_eq_append_getElem h, List.map_append, List.foldl_append]
 rfl
theorem flats_take (cs : List (Value × List Ch)) (k : Nat) (h : k < cs.length) : ((((cs.take (k + 1)).flatMap (·.2)).map Ch.plain).foldl (putA Ch.n) []) = (((cs[k]).2.map Ch.plain).foldl (putA Ch.n) ((((cs.take k).flatMap (·.2)).map Ch.plain).foldl (putA Ch.n) [])) := by
 rw [List.take_succ_eq_append_getElem h, List.flatMap_append, List.map_append, List.foldl_append]
 simp
theorem flats_len (cs : List (Value × List Ch)) (k : Nat) (h : k < cs.length) : ((cs.take (k + 1)).flatMap (·.2)).length = ((cs.take k).flatMap (·.2)).length + (cs[k]).2.length := by
 rw [List.take_succ_eq_append_getElem h, List.flatMap_append, List.length_append]
 simp
theorem flats_le (cs : List (Value × List Ch)) (k : Nat) : ((cs.take k).flatMap (·.2)).length ≤ (cs.flatMap (·.2)).length := by
 have : cs.flatMap (·.2) = (cs.take k).flatMap (·.2) ++ (cs.drop k).flatMap (·.2) := by rw [← List.flatMap_append, List.take_append_drop]
 rw [this, List.length_append]
 omega
theorem join_calls (w : World) (u : Value) (cs : List (Value × List Ch)) (h : SlS w w.heap.size u cs) (hn : cs.length ≤ 1000) (hl : (cs.flatMap (·.2)).length ≤ 10000) :
    Calls Tryz.prog 47 #[u] w fun e w' => ∃ v d, e = .returned v ∧ Own encC 95 w' w.heap.size v d ∧ JoinIs (cs.flatMap (·.2)) d ∧ d.length ≤ (cs.flatMap (·.2)).length ∧ Below w.heap.size w w' := by
 obtain ⟨⟨ad, cap, rfl, hcap, hmax, hcell⟩, heach⟩ := h
 obtain ⟨N, hN⟩ : ∃ N : Nat, N = cs.length := ⟨_, rfl⟩
 rw [← hN] at hcap hmax hn ⊢
 have HN : Hid (N = cs.length) := hN
 have HI : Hid (∀ i (hi : i < cs.length), ∃ g off, ad = some ⟨g, off, none⟩ ∧ g < w.heap.size ∧ w.cell? ⟨g, off + i, none⟩ = some (cs[i]).1) := fun i hi => by
  rcases hcell with rfl | ⟨g, off, e, hg, hc⟩
  · cases hi
  · exact ⟨g, off, e, hg, hc i hi⟩
 have HE : Hid (∀ i (hi : i < cs.length), SlB encC w w.heap.size (cs[i]).1 (cs[i]).2) := fun i hi => heach _ (List.getElem_mem hi)
 have HLL : Hid ((cs.flatMap (·.2)).length ≤ 10000) := hl
 have HS : Hid (Below w.heap.size w (w.alloc (.map #[] 0)) ∧ MapA encC Ch.n (w.alloc (.map #[] 0)) w.heap.size ((cs.take 0).flatMap (·.2)).length ((((cs.take 0).flatMap (·.2)).map Ch.plain).foldl (putA Ch.n) [])) := ⟨(Below.refl _ w).alloc (Nat.le_refl _) _, MapA.made _ _ w _ rfl⟩
 have hmm := @run_makeMap Tryz.prog
 clear hN heach hcell hl
 go_enter Tryz.func47, Tryz.ntmps47
 go_wp2
 go_loopg [11] N (fun gg i wr => ∃ k : Nat, k + gg = N ∧ i = .int .i64 (k : Int) ∧ Hid (Below w.heap.size w wr ∧ MapA encC Ch.n wr w.heap.size ((cs.take k).flatMap (·.2)).length ((((cs.take k).flatMap (·.2)).map Ch.plain).foldl (putA Ch.n) [])))
 case atStart => exact ⟨0, by omega, rfl, HS.out⟩
 case round =>
  obtain ⟨k, hkg, rfl, HX⟩ := hrel
  cases gk with
  | zero =>
   have hkN : k = N := by omega
   subst hkN
   have e1 : cs.take k = cs := List.take_of_length_le (by have := HN.out; omega)
   have hX := HX.out
   rw [e1] at hX
   have hlen : ((((cs.flatMap (·.2)).map Ch.plain)).foldl (putA Ch.n) []).length ≤ (cs.flatMap (·.2)).length := by
    have := puts_len0 Ch.n ((cs.flatMap (·.2)).map Ch.plain)
    rwa [List.length_map] at this
   have hR := risingC_calls wr w.heap.size _ _ hX.2 (by have := HLL.out; omega) (by have := HLL.out; omega)
   have HB : Hid (Below w.heap.size w wr) := hX.1
   clear hX HX
   go_wp2_with (first
    | (go_at_call 90; refine hR.mono ?_; clear hR; rintro e w2 ⟨v, rfl, h2, b2⟩))
   go_ret
   exact ⟨v, _, rfl, h2.lower HB.out.size, join_is _, hlen, HB.out.trans (b2.mono HB.out.size)⟩
  | succ gg =>
   have hlt : k < N := by omega
   have hltI : (k : Int) < (N : Int) := by omega
   have hkl : k < cs.length := by rw [← HN.out]; exact hlt
   obtain ⟨g0, off, rfl, hg0, hat⟩ := HI.out k hkl
   have hat2 : wr.cell? ⟨g0, off + k, none⟩ = some (cs[k]).1 := (HX.out.1.cell (p := ⟨g0, off + k, none⟩) hg0).trans hat
   have hsl := HE.out k hkl
   have HFT := flats_take cs k hkl
   have HFL := flats_len cs k hkl
   have HFB := flats_le cs (k + 1)
   have hLL := HLL.out
   obtain ⟨ad2, cap2, hv2, hcap2, hmax2, _, _⟩ := id hsl
   rw [hv2] at hat2 hsl
   have HC : Hid (∀ i (hi : i < (cs[k]).2.length), ∃ g off, ad2 = some ⟨g, off, none⟩ ∧ g < w.heap.size ∧ w.rangeAt g (off + i * 26) (encC.c (cs[k]).2[i])) := fun i hi => SlB.at hsl i hi
   generalize (cs[k]).2 = c at *
   generalize hL0 : (((cs.take k).flatMap (·.2)).map Ch.plain).foldl (putA Ch.n) [] = L0 at *
   generalize hn0 : ((cs.take k).flatMap (·.2)).length = n0 at *
   obtain ⟨M, hM⟩ : ∃ M : Nat, M = c.length := ⟨_, rfl⟩
   rw [← hM] at hcap2 hmax2 hat2 HFL
   have HM : Hid (M = c.length) := hM
   have hb5 : n0 + M ≤ 10000 := by omega
   have HFT : Hid ((((cs.take (k + 1)).flatMap (·.2)).map Ch.plain).foldl (putA Ch.n) [] = (c.map Ch.plain).foldl (putA Ch.n) L0) := HFT
   have HFL : Hid (((cs.take (k + 1)).flatMap (·.2)).length = n0 + M) := HFL
   have HS2 : Hid (Below w.heap.size w wr ∧ MapA encC Ch.n wr w.heap.size (n0 + 0) (((c.take 0).map Ch.plain).foldl (putA Ch.n) L0)) := HX.out
   clear hat hkl hM hsl hv2 HX HFB hLL hL0 hn0
   go_wp2_with fail
   go_loopg [17] M (fun g2 i wq => ∃ j : Nat, j + g2 = M ∧ i = .int .i64 (j : Int) ∧ Hid (Below w.heap.size w wq ∧ MapA encC Ch.n wq w.heap.size (n0 + j) (((c.take j).map Ch.plain).foldl (putA Ch.n) L0)))
   case atStart => exact ⟨0, by omega, rfl, HS2.out⟩
   case round =>
    obtain ⟨j, hjg, rfl, HY⟩ := hrel
    cases gk with
    | zero =>
     have hjM : j = M := by omega
     subst hjM
     go_wp2_with fail
     go_roundg gg
     case measure => omega
     case rel =>
      refine ⟨k + 1, by omega, congrArg (Value.int .i64) (by omega), ?_⟩
      have hY := HY.out
      rw [List.take_of_length_le (by have := HM.out; omega)] at hY
      exact (show Below w.heap.size w wr ∧ MapA encC Ch.n wr w.heap.size ((cs.take (k + 1)).flatMap (·.2)).length ((((cs.take (k + 1)).flatMap (·.2)).map Ch.plain).foldl (putA Ch.n) []) from ⟨hY.1, by rw [HFT.out, HFL.out]; exact hY.2⟩)
    | succ g2 =>
     have hjlt : j < M := by omega
     have hjI : (j : Int) < (M : Int) := by omega
     have hjl : j < c.length := by rw [← HM.out]; exact hjlt
     obtain ⟨g1, off1, rfl, hg1, hat1⟩ := HC.out j hjl
     have HR : Hid (wr.rangeAt g1 (off1 + j * 26) (encC.c c[j])) := range_same' hat1 (HY.out.1.block g1 hg1)
     have HTK : Hid (((c.take (j + 1)).map Ch.plain).foldl (putA Ch.n) L0 = putA Ch.n (((c.take j).map Ch.plain).foldl (putA Ch.n) L0) (c[j]).plain) := plains_take c L0 j hjl
     generalize c[j] = p at *
     generalize ((c.take j).map Ch.plain).foldl (putA Ch.n) L0 = L at *
     clear hat1 hjl
     go_upto_region 8 with (first
      | (refine load_el elC _ rfl g1 (off1 + j * 26) rfl rfl p HR.out ?_)
      | (refine store_el elC rfl _ _ rfl wr.heap.size rfl p rfl ch0 (InB.new encC _ wr ch0 _ rfl) ?_; intro x1 hu1 tx1 sx1))
     have BX : Below wr.heap.size wr x1 := ((Below.refl _ wr).alloc (Nat.le_refl _) _).trans (tx1.below (by simp) (Nat.le_refl _) (by simp))
     have hb1 : Below w.heap.size w x1 := HY.out.1.trans (BX.mono HY.out.1.size)
     have hm1 := HY.out.2.below BX (Nat.le_refl _)
     obtain ⟨cv, cg⟩ := range_vC hu1.range
     simp only [Nat.zero_add] at cv cg
     have hqw : w.heap.size < wr.heap.size := HY.out.2.lt
     clear HY HR tx1 sx1 BX
     generalize wr.heap.size = q at *
     cases hpg : p.g with
     | true =>
      rw [hpg] at cg
      have ff : x1.frozen? ⟨q, 24, none⟩ = false := by simp [World.frozen?, hu1.blk]
      have hu2 := Ch.set_v hu1 hpg
      have hm2 : MapA encC Ch.n (x1.setCell ⟨q, 24, none⟩ (.string ⟨#[]⟩)) w.heap.size (n0 + j) L := hm1.kept (Below.heap_setCell _ _ _ _ (by simp; omega))
      have HB2 : Hid (Below w.heap.size w (x1.setCell ⟨q, 24, none⟩ (.string ⟨#[]⟩))) := hb1.setCell (by simp; omega) _
      have hk : p.plain.kz = p.kz := by unfold Ch.plain; rw [if_pos hpg]; rfl
      have hkk : p.plain.k = p.k := congrArg Kz.k hk
      have HPN : Hid (p.plain.n = p.kz.n) := Ch.plain_n p
      clear hu1 hm1 hb1 hk
      have hr2 := range_kC hu2.range
      rw [hkk] at hr2
      generalize p.plain = p2 at *
      go_wp2_with (first
       | (refine load_part _ rfl q 0 rfl rfl _ p.h hr2 ?_)
       | (refine load_el elC _ rfl q 0 rfl rfl p2 hu2.range ?_)
       | (refine store_a tyC rfl _ _ _ rfl w.heap.size (n0 + j) L rfl hm2 (by omega) p.kz rfl p2 rfl HPN.out ?_; intro x2 hm3 gr2))
      go_roundg g2
      case measure => omega
      case rel => exact ⟨j + 1, by omega, congrArg (Value.int .i64) (by omega), (show Below w.heap.size w x2 ∧ MapA encC Ch.n x2 w.heap.size (n0 + (j + 1)) (((c.take (j + 1)).map Ch.plain).foldl (putA Ch.n) L0) from ⟨HB2.out.grown gr2 HB2.out.size (fun j hj => by cases hj; exact Nat.le_refl _), by rw [HTK.out]; exact hm3⟩)⟩
     | false =>
      rw [hpg] at cg
      have hpp : p.plain = p := by unfold Ch.plain; rw [if_neg (by rw [hpg]; simp)]
      rw [hpp] at HTK
      go_wp2_with (first
       | (refine load_part _ rfl q 0 rfl rfl _ p.h (range_kC hu1.range) ?_)
       | (refine load_el elC _ rfl q 0 rfl rfl p hu1.range ?_)
       | (refine store_a tyC rfl _ _ _ rfl w.heap.size (n0 + j) L rfl hm1 (by omega) p.kz rfl p rfl rfl ?_; intro x2 hm3 gr2))
      go_roundg g2
      case measure => omega
      case rel => exact ⟨j + 1, by omega, congrArg (Value.int .i64) (by omega), (show Below w.heap.size w x2 ∧ MapA encC Ch.n x2 w.heap.size (n0 + (j + 1)) (((c.take (j + 1)).map Ch.plain).foldl (putA Ch.n) L0) from ⟨hb1.grown gr2 hb1.size (fun j hj => by cases hj; exact Nat.le_refl _), by rw [HTK.out]; exact hm3⟩)⟩
end
section
open Go.RowKit
theorem SlB.drop {α : Type} {k : Nat} {E : Enc α k} {w : World} {B : Nat} {ad : Option Addr} {n cap : Nat} {l : List α} (h : SlB E w B (.slice ad n cap) l) (m : Nat) (hm : m ≤ l.length) : SlB E w B (.slice (if cap = m then ad else ad.map (·.add (m * k))) (n - m) (cap - m)) (l.drop m) := by
 obtain ⟨ad', cap', h1, h2, h3, h4, h5⟩ := h
 cases h1
 have hlen : (l.drop m).length = l.length - m := List.length_drop
 refine ⟨_, cap - m, by rw [hlen], by omega, by omega, fun e => ?_, ?_⟩
 · have : ad = none := by
     split at e
     · exact e
     · cases ad with
       | none => rfl
       | some a => cases e
   have := h4 this
   omega
 · rcases h5 with rfl | ⟨g, off, rfl, hg, hr⟩
   · exact .inl (by simp)
   · by_cases hc : cap = m
     · refine .inl (List.drop_of_length_le (by omega))
     · refine .inr ⟨g, off + m * k, by rw [if_neg hc]; simp [Addr.add_mid], hg, fun i hi => ?_⟩
       rw [List.getElem_drop]
       have := hr (m + i) (by rw [hlen] at hi; omega)
       rw [Nat.add_mul, ← Nat.add_assoc] at this
       exact this
theorem wp_build_c1 {α : Type} {E : Enc α 1} {P : Program} {ts te : TypeId} {bytes : Nat} {o : Oper} {a : Act} {w : World} {K : Act → World → Prop} {Q : Exit → Act → World → Prop} (R : RowTy P E ts te bytes) (x : Operand) (ho : o.op = .buildSlice ts 1 #[(0, x)]) (e : α) (v : Value) (hx : a.eval x = v) (hv : v.cells = (E.c e).toArray)
    (h : ∀ w', Own E te w' w.heap.size (.slice (some ⟨w.heap.size, 0, none⟩) 1 1) [e] → Below w.heap.size w w' → w'.heap.size = w.heap.size + 1 → K (a.put o.dst (.slice (some ⟨w.heap.size, 0, none⟩) 1 1)) w') : o.wp P a w K Q := by
 obtain ⟨i, z, hi, hz, hsz, hby, hzc⟩ := R.parts
 refine wp_buildSlice ts te 1 _ ho (E.flat [e]).toArray i z R.under hi hz (by rw [hsz]; decide) (by rw [hsz]; decide) ?_ ?_
 · rw [hsz]
   have e1 : (Array.map (fun x : Nat × Operand => match x with | (i, x) => (i, a.eval x)) #[(0, x)]).toList = [(0, v)] := by simp [hx]
   have hs : v.cells.size = 1 := by rw [hv]; simp [E.len]
   rw [e1, fill_put (off := 0) (size := 1) rfl hs (by simp), E.flat_one, hv]
   simp [Instr.fill]
 · refine h _ ⟨E.flat_length [e], .inr ⟨w.heap.size, 1, (E.flat [e]).toArray, rfl, Nat.le_refl _, heap_alloc_new _ _, Nat.le_refl _, by unfold maxLen; omega, by simp [E.flat_length], ?_⟩⟩ ((Below.refl _ w).alloc (Nat.le_refl _) _) (by simp)
   have := E.flat_length [e]
   rw [List.take_of_length_le (by simp [this])]
section
variable {α : Type} {k : Nat} {E : Enc α k} {P : Program} {ts te : TypeId} {bytes : Nat} {o : Oper} {a : Act} {w : World} {K : Act → World → Prop} {Q : Exit → Act → World → Prop}
theorem wp_append_sl (R : RowTy P E ts te bytes) (s x : Operand) (ho : o.op = .call { callee := .builtin .append, args := #[s, x], argTypes := #[ts, ts] })
    (base : Nat) (v : Value) (l m : List α) (hs : a.eval s = v) (hown : Own E te w base v l) (u : Value) (hx : a.eval x = u) (B : Nat) (hu : SlB E w B u m)
    (h63 : l.length + m.length ≤ 1000000) (hbytes : bytes ≤ 10000) (hbase : base ≤ w.heap.size)
    (h : ∀ v' w', Own E te w' base v' (l ++ m) → w.grownBy w' v.ownBlock → K (a.put o.dst v') w') : o.wp P a w K Q := by
 obtain ⟨i, z, hi, hz, hsz, hby, hzc⟩ := R.parts
 have hB : (l.length + m.length) * bytes ≤ 140737488355328 := by
  have := Nat.mul_le_mul h63 hbytes
  omega
 have hl : (l ++ m).length = l.length + m.length := by simp
 have hu' := hu
 obtain ⟨ad, cap, rfl, _⟩ := hu'
 obtain ⟨_, hc⟩ := hu.news
 rcases hc with ⟨rfl, rfl, rfl⟩ | ⟨A, rfl, hn⟩
 · have hrun := run_append_owned_none (P := P) (w := w) base ts o.type te i k R.under hi v l.length (E.flat l) hown
   have hx' : a.eval x = .slice none 0 0 := hx
   unfold Oper.wp
   simp only [execOp, ho, resolve, invoke, builtin, Sem.run_bind, Sem.run_pure, Result.andThen_ok, List.map_toArray, List.map_cons, List.map_nil, hs, hx', hrun]
   exact h _ _ (by rw [List.append_nil]; exact hown) ⟨rfl, rfl, rfl, Nat.le_refl _, fun _ _ _ => rfl⟩
 · refine wp_append_own w s x ts ho base te i z k bytes R.under hi hz hsz hby hzc R.pos v l.length (E.flat l) hs hown A m.length cap (E.flat m) hx (E.flat_length m) hn (E.flat_ones m) (by unfold maxLen; omega) hB hbase ?_
   intro v' w' h1 h2 _
   refine h v' w' ?_ h2
   show w'.ownsRow base te k _ (l ++ m).length (E.flat (l ++ m))
   rw [hl, E.flat_append]
   exact h1
end
theorem build_c1 {α : Type} {E : Enc α 1} {P : Program} {ts te : TypeId} {bytes : Nat} {ops : Array Oper} {rest : List Oper} {o : Oper} {a : Act} {w : World} {Q : Exit → Act → World → Prop} (R : RowTy P E ts te bytes) (hg : o.guard = none) (x : Operand) (ho : o.op = .buildSlice ts 1 #[(0, x)]) (e : α) (v : Value) (hx : a.eval x = v) (hv : v.cells = (E.c e).toArray)
    (h : ∀ w', Own E te w' w.heap.size (.slice (some ⟨w.heap.size, 0, none⟩) 1 1) [e] → Below w.heap.size w w' → w'.heap.size = w.heap.size + 1 → wpList P ops Q rest (a.put o.dst (.slice (some ⟨w.heap.size, 0, none⟩) 1 1)) w') : wpList P ops Q (o :: rest) a w :=
 wpList_plain hg fun _ hK => wp_build_c1 R x ho e v hx hv fun w' h1 h2 h3 => hK _ _ (h w' h1 h2 h3)
theorem append_slB {α : Type} {k : Nat} {E : Enc α k} {P : Program} {ts te : TypeId} {bytes : Nat} {ops : Array Oper} {rest : List Oper} {o : Oper} {a : Act} {w : World} {Q : Exit → Act → World → Prop} (R : RowTy P E ts te bytes) (hg : o.guard = none) (s x : Operand) (ho : o.op = .call { callee := .builtin .append, args := #[s, x], argTypes := #[ts, ts] })
    (base : Nat) (v : Value) (l m : List α) (hs : a.eval s = v) (hown : Own E te w base v l) (u : Value) (hx : a.eval x = u) (B : Nat) (hu : SlB E w B u m)
    (h63 : l.length + m.length ≤ 1000000) (hbytes : bytes ≤ 10000) (hbase : base ≤ w.heap.size)
    (h : ∀ v' w', Own E te w' base v' (l ++ m) → w.grownBy w' v.ownBlock → wpList P ops Q rest (a.put o.dst v') w') : wpList P ops Q (o :: rest) a w :=
 wpList_plain hg fun _ hK => wp_append_sl R s x ho base v l m hs hown u hx B hu h63 hbytes hbase fun v' w' h1 h2 => hK _ _ (h v' w' h1 h2)
theorem sl_open {α : Type} {k : Nat} {E : Enc α k} {w : World} {v : Value} {l : List α} (h : Sl E w v l) : ∃ ad N cap, v = .slice ad N cap ∧ Hid (N = l.length ∧ N ≤ cap ∧ Sl E w (.slice ad N cap) l ∧ ∀ i (hi : i < l.length), ∃ g off, ad = some ⟨g, off, none⟩ ∧ g < w.heap.size ∧ w.rangeAt g (off + i * k) (E.c l[i])) := by
 have h0 := h
 obtain ⟨ad, cap, rfl, hcap, hmax, _, _⟩ := h
 exact ⟨ad, _, cap, rfl, ⟨rfl, hcap, h0, fun i hi => SlB.at h0 i hi⟩⟩
end
end Go.Proofs.YtdmindhjmjnagaaGreatDoor
