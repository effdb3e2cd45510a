import Derived.Test.YtgicanpggndbeaaGreatB17
import Derived.Test.YtgicanpggndbeaaGreatB07
import Derived.Test.YtgicanpggndbeaaGreatSi
/- Pairs, changes and keys: how they are built, and held against one another. -/
namespace Go.Proofs.YtgicanpggndbeaaGreat
set_option linter.unusedVariables false
set_option maxRecDepth 100000
open Go.RowKit

/-! Built. -/
theorem built_of (t : TypeId) (Z : Array Value) (pl : List (Nat × Nat)) (h1 : (Tryz.prog.info? t).map (·.zero) = some (some (.agg Z)))
    (h2 : (Tryz.prog.underlying t).map (fun d => match d with | .struct fs => fs.toList.mapM (fun f => (Tryz.prog.info? f.type).map fun i => (f.offset, i.size)) | _ => none) = some (some pl)) (parts : List (Nat × Value)) :
    Tryz.prog.built t parts = Instr.fill (pl.toArray[·]?) Z parts := by
 unfold Program.built
 cases hi : Tryz.prog.info? t with
 | none => rw [hi] at h1; cases h1
 | some i =>
  rw [hi] at h1
  have hz : i.zero = some (.agg Z) := by simpa using h1
  cases hu : Tryz.prog.underlying t with
  | none => rw [hu] at h2; cases h2
  | some d =>
   rw [hu] at h2
   cases d with
   | struct fs =>
    have hp : fs.toList.mapM (fun f => (Tryz.prog.info? f.type).map fun i => (f.offset, i.size)) = some pl := by simpa using h2
    simp only [hz, hp]
    rfl
   | _ => simp at h2
theorem built_P (parts : List (Nat × Value)) : Tryz.prog.built 88 parts = Instr.fill ([(0, 24), (24, 1)].toArray[·]?) (pcd pa0).toArray parts := built_of _ _ _ (by kernel_rfl) (by kernel_rfl) parts
theorem built_C (parts : List (Nat × Value)) : Tryz.prog.built 64 parts = Instr.fill ([(0, 24), (24, 1), (25, 1)].toArray[·]?) (ccd ch0).toArray parts := built_of _ _ _ (by kernel_rfl) (by kernel_rfl) parts
theorem row_K (F K : List UInt8) (rest : List Value) (hF : F.length = 24) : ((bc F ++ rest).toArray.toList.take 0 ++ (kv K).cells.toList ++ (bc F ++ rest).toArray.toList.drop (0 + 24)).toArray = (bc K ++ rest).toArray := by
 have h : (bc F).length = 24 := by rw [bc_length, hF]
 simp only [Value.cells, List.take_zero, List.nil_append, Nat.zero_add]
 rw [List.drop_append_of_le_length (by omega), List.drop_of_length_le (by omega)]
 rfl
theorem row_V (K : List UInt8) (a b : Value) (rest : List Value) (hb : b.cells = #[b]) (hK : K.length = 24) : ((bc K ++ a :: rest).toArray.toList.take 24 ++ b.cells.toList ++ (bc K ++ a :: rest).toArray.toList.drop (24 + 1)).toArray = (bc K ++ b :: rest).toArray := by
 have h : (bc K).length = 24 := by rw [bc_length, hK]
 simp only [hb]
 rw [List.take_append_of_le_length (by omega), List.take_of_length_le (by omega), List.drop_append, List.drop_of_length_le (by omega), h]
 simp
theorem row_G (K : List UInt8) (s a b : Value) (hb : b.cells = #[b]) (hK : K.length = 24) : ((bc K ++ [s, a]).toArray.toList.take 25 ++ b.cells.toList ++ (bc K ++ [s, a]).toArray.toList.drop (25 + 1)).toArray = (bc K ++ [s, b]).toArray := by
 have h : (bc K).length = 24 := by rw [bc_length, hK]
 simp only [hb]
 rw [List.take_append, List.take_of_length_le (by omega), List.drop_of_length_le (by simp [h]), h]
 simp
theorem built_p (p : Pa) : Tryz.prog.built 88 [(0, kv p.k), (1, .string (str p.v))] = some (encP.c p).toArray := by
 rw [built_P, fill_put (off := 0) (size := 24) rfl (by simp [Value.cells, bc_length, p.h]) (by simp [pcd, bc_length, pa0, zs_length]), pcd, row_K _ _ _ pa0.h,
   fill_put (off := 24) (size := 1) rfl rfl (by simp [bc_length, p.h]), row_V _ _ _ _ rfl p.h]
 rfl
theorem built_put (c : Ch) (hg : c.g = false) : Tryz.prog.built 64 [(0, kv c.k), (1, .string (str c.v))] = some (encC.c c).toArray := by
 rw [built_C, fill_put (off := 0) (size := 24) rfl (by simp [Value.cells, bc_length, c.h]) (by simp [ccd, bc_length, ch0, zs_length]), ccd, row_K _ _ _ ch0.h,
   fill_put (off := 24) (size := 1) rfl rfl (by simp [bc_length, c.h]), row_V _ _ _ _ rfl c.h]
 show some _ = some (ccd c).toArray
 rw [ccd, hg]
 rfl
theorem built_gone (K : Kz) : Tryz.prog.built 64 [(0, kv K.k), (2, .bool true)] = some (encC.c ⟨K.k, K.h, [], true⟩).toArray := by
 rw [built_C, fill_put (off := 0) (size := 24) rfl (by simp [Value.cells, bc_length, K.h]) (by simp [ccd, bc_length, ch0, zs_length]), ccd, row_K _ _ _ ch0.h,
   fill_put (off := 25) (size := 1) rfl rfl (by simp [bc_length, K.h]), row_G _ _ _ _ rfl K.h]
 rfl
theorem exec_build {ρ : Operand → Value} {o : Oper} {t : TypeId} {parts : Array (Nat × Operand)} (ho : o.op = .build t parts) {cells : Array Value} (hb : Tryz.prog.built t ((parts.map fun x => (x.1, ρ x.2)).toList) = some cells) (w : World) : (execOp ρ o).run Tryz.prog w = .ok (.value (.agg cells)) w := by
 unfold execOp
 simp only [ho, Sem.run_bind]
 rw [run_build w t _ cells hb]
 rfl
section
variable {ops : Array Oper} {rest : List Oper} {o : Oper} {a : Act} {w : World} {Q : Exit → Act → World → Prop}
theorem build_at (hg : o.guard = none) {t : TypeId} {parts : Array (Nat × Operand)} (ho : o.op = .build t parts) {cells : Array Value} (hb : Tryz.prog.built t ((parts.map fun x => (x.1, a.eval x.2)).toList) = some cells)
    (h : wpList Tryz.prog ops Q rest (a.put o.dst (.agg cells)) w) : wpList Tryz.prog ops Q (o :: rest) a w := by
 refine wpList_plain hg fun K hK => ?_
 unfold Oper.wp
 rw [exec_build ho hb]
 exact hK _ _ h
theorem build_p (hg : o.guard = none) (x y : Operand) (ho : o.op = .build 88 #[(0, x), (1, y)]) (p : Pa) (hx : a.eval x = kv p.k) (hy : a.eval y = .string (str p.v))
    (h : wpList Tryz.prog ops Q rest (a.put o.dst (.agg (encP.c p).toArray)) w) : wpList Tryz.prog ops Q (o :: rest) a w := build_at hg ho (by simp only [List.map_toArray, List.map_cons, List.map_nil, hx, hy]; exact built_p p) h
theorem build_put (hg : o.guard = none) (x y : Operand) (ho : o.op = .build 64 #[(0, x), (1, y)]) (c : Ch) (hc : c.g = false) (hx : a.eval x = kv c.k) (hy : a.eval y = .string (str c.v))
    (h : wpList Tryz.prog ops Q rest (a.put o.dst (.agg (encC.c c).toArray)) w) : wpList Tryz.prog ops Q (o :: rest) a w := build_at hg ho (by simp only [List.map_toArray, List.map_cons, List.map_nil, hx, hy]; exact built_put c hc) h
theorem build_gone (hg : o.guard = none) (x y : Operand) (ho : o.op = .build 64 #[(0, x), (2, y)]) (K : Kz) (hx : a.eval x = kv K.k) (hy : a.eval y = .bool true)
    (h : wpList Tryz.prog ops Q rest (a.put o.dst (.agg (encC.c ⟨K.k, K.h, [], true⟩).toArray)) w) : wpList Tryz.prog ops Q (o :: rest) a w := build_at hg ho (by simp only [List.map_toArray, List.map_cons, List.map_nil, hx, hy]; exact built_gone K) h
end
/-! Held against one another. -/
instance : DecidableEq Kz := fun a b => decidable_of_iff (a.k = b.k) ⟨fun h => by obtain ⟨k, _⟩ := a; obtain ⟨l, _⟩ := b; cases h; rfl, fun h => by rw [h]⟩
instance : DecidableEq Pa := fun a b => decidable_of_iff (a.k = b.k ∧ a.v = b.v) ⟨fun h => by obtain ⟨k, _, v⟩ := a; obtain ⟨l, _, u⟩ := b; obtain ⟨rfl, rfl⟩ := h; rfl, fun h => by rw [h]; exact ⟨rfl, rfl⟩⟩
instance : DecidableEq Ch := fun a b => decidable_of_iff (a.k = b.k ∧ a.v = b.v ∧ a.g = b.g) ⟨fun h => by obtain ⟨k, _, v, g⟩ := a; obtain ⟨l, _, u, i⟩ := b; obtain ⟨rfl, rfl, rfl⟩ := h; rfl, fun h => by rw [h]; exact ⟨rfl, rfl, rfl⟩⟩
theorem Kz.eq_iff (a b : Kz) : a = b ↔ a.k = b.k := ⟨fun h => by rw [h], fun h => by obtain ⟨k, _⟩ := a; obtain ⟨l, _⟩ := b; cases h; rfl⟩
theorem Ch.eq_iff (a b : Ch) : a = b ↔ a.k = b.k ∧ a.v = b.v ∧ a.g = b.g := ⟨fun h => by rw [h]; exact ⟨rfl, rfl, rfl⟩, fun h => by obtain ⟨k, _, v, g⟩ := a; obtain ⟨l, _, u, i⟩ := b; obtain ⟨rfl, rfl, rfl⟩ := h; rfl⟩
theorem part_str (cs : Array Value) (o : Nat) (v : ByteArray) (h : cs[o]? = some (.string v)) (w : World) : (part 9 cs o).run Tryz.prog w = .ok (.string v) w := by
 simp only [part, Sem.run_bind, Tryz.isAgg9, Result.andThen_ok, h]
 simp
theorem part_bool (cs : Array Value) (o : Nat) (v : Bool) (h : cs[o]? = some (.bool v)) (w : World) : (part 4 cs o).run Tryz.prog w = .ok (.bool v) w := by
 simp only [part, Sem.run_bind, Tryz.isAgg4, Result.andThen_ok, h]
 simp
theorem eq_s (d : Nat) (a b : List UInt8) (w : World) : (Op.equalIn (d + 1) 9 (.string (str a)) (.string (str b))).run Tryz.prog w = .ok (decide (a = b)) w := by
 rw [run_equalIn_string w d 9 _ _ Tryz.underlying9, str_toList, str_toList]
 congr 1
 rw [Bool.eq_iff_iff, beq_iff_eq, decide_eq_true_eq]
theorem eqFields_cons (d : Nat) (xs ys : Array Value) (f : Field) (fs : List Field) (a b : Value) (q : Bool) (w : World) (hn : (f.name == "_") = false) (h1 : ∀ w, (part f.type xs f.offset).run Tryz.prog w = .ok a w) (h2 : ∀ w, (part f.type ys f.offset).run Tryz.prog w = .ok b w) (h3 : ∀ w, (Op.equalIn d f.type a b).run Tryz.prog w = .ok q w) :
    (Op.eqFields d xs ys (f :: fs)).run Tryz.prog w = if q then (Op.eqFields d xs ys fs).run Tryz.prog w else .ok false w := by
 have hne : ¬ f.name = "_" := by simpa using hn
 cases q <;> simp [Op.eqFields, hne, h1, h2, h3]
theorem part_key (K : List UInt8) (rest : List Value) (h : K.length = 24) (w : World) : (part 29 (bc K ++ rest).toArray 0).run Tryz.prog w = .ok (kv K) w := by
 have h1 : (bc K).length = 24 := by rw [bc_length, h]
 have e : (bc K ++ rest).toArray.extract 0 (0 + 24) = (bc K).toArray := by
  rw [List.extract_toArray, List.extract_eq_take_drop, List.drop_zero, Nat.zero_add, Nat.sub_zero, List.take_append_of_le_length (by omega), List.take_of_length_le (by omega)]
 simp only [part, Sem.run_bind, Tryz.isAgg29, Tryz.sizeOf29, Result.andThen_ok, if_true, Sem.run_pure, e]
theorem eq_k (w : World) (K L : List UInt8) (hK : K.length = 24) (hL : L.length = 24) : (Op.equalIn 9999 29 (kv K) (kv L)).run Tryz.prog w = .ok (K == L) w := run_equalIn_bytes w 9997 29 5 24 Tryz.underlying29 Tryz.underlying5 Tryz.sizeOf5 K L hK hL
theorem at24 (K : List UInt8) (x : Value) (rest : List Value) (h : K.length = 24) : (bc K ++ x :: rest).toArray[24]? = some x := by
 have h1 : (bc K).length = 24 := by rw [bc_length, h]
 rw [List.getElem?_toArray, List.getElem?_append_right (by omega)]
 simp [h1]
theorem at25 (K : List UInt8) (x y : Value) (h : K.length = 24) : (bc K ++ [x, y]).toArray[25]? = some y := by
 have h1 : (bc K).length = 24 := by rw [bc_length, h]
 rw [List.getElem?_toArray, List.getElem?_append_right (by omega)]
 simp [h1]
theorem fields_C : (Tryz.prog.fieldsOf 64).toList.map (fun f => (f.name == "_", f.type, f.offset)) = [(false, 29, 0), (false, 9, 24), (false, 4, 25)] := by kernel_rfl
theorem struct_C : Tryz.prog.underlying 64 = some (.struct (Tryz.prog.fieldsOf 64)) := by
 unfold Program.fieldsOf
 rw [Tryz.underlying64]
theorem enc_C (p : Ch) : encC.c p = bc p.k ++ [.string (str p.v), .bool p.g] := rfl
theorem eq_C (a b : Ch) (w : World) : (Op.equalIn 10000 64 (.agg (encC.c a).toArray) (.agg (encC.c b).toArray)).run Tryz.prog w = .ok (decide (a = b)) w := by
 have hp : Tryz.prog.stoodInHeld 64 = false := by kernel_rfl
 rw [enc_C, enc_C, run_equalIn_struct w 9999 64 _ _ struct_C hp]
 have hf := fields_C
 generalize (Tryz.prog.fieldsOf 64).toList = fl at hf ⊢
 rcases fl with _ | ⟨f0, _ | ⟨f1, _ | ⟨f2, _ | ⟨f3, fl⟩⟩⟩⟩
 · simp at hf
 · simp at hf
 · simp at hf
 · simp only [List.map_cons, List.map_nil, List.cons.injEq, Prod.mk.injEq] at hf
   obtain ⟨⟨a1, a2, a3⟩, ⟨b1, b2, b3⟩, ⟨c1, c2, c3⟩, _⟩ := hf
   rw [eqFields_cons _ _ _ _ _ (kv a.k) (kv b.k) (a.k == b.k) w a1 (by rw [a2, a3]; exact part_key a.k _ a.h) (by rw [a2, a3]; exact part_key b.k _ b.h) (by rw [a2]; exact fun w => eq_k w a.k b.k a.h b.h),
     eqFields_cons _ _ _ _ _ (.string (str a.v)) (.string (str b.v)) (decide (a.v = b.v)) w b1 (by rw [b2, b3]; exact part_str _ _ _ (at24 _ _ _ a.h)) (by rw [b2, b3]; exact part_str _ _ _ (at24 _ _ _ b.h)) (by rw [b2]; exact eq_s 9998 _ _),
     eqFields_cons _ _ _ _ _ (.bool a.g) (.bool b.g) (decide (a.g = b.g)) w c1 (by rw [c2, c3]; exact part_bool _ _ _ (at25 _ _ _ a.h)) (by rw [c2, c3]; exact part_bool _ _ _ (at25 _ _ _ b.h)) (by rw [c2]; exact fun w => by rw [run_equalIn_bool' w 9998 4 a.g b.g Tryz.underlying4]; congr 1)]
   simp only [Op.eqFields, Sem.run_pure]
   rw [show decide (a = b) = decide (a.k = b.k ∧ a.v = b.v ∧ a.g = b.g) from decide_eq_decide.2 (Ch.eq_iff a b)]
   by_cases h1 : a.k = b.k <;> by_cases h2 : a.v = b.v <;> by_cases h3 : a.g = b.g <;> simp [h1, h2, h3]
 · simp at hf
theorem exec_ne_C {f : Operand → Value} {o : Oper} (x y : Operand) (t' : TypeId) (ho : o.op = .binOp .neq 64 x y t') (a b : Ch) (hx : f x = .agg (encC.c a).toArray) (hy : f y = .agg (encC.c b).toArray) (w : World) : (execOp f o).run Tryz.prog w = .ok (.value (.bool (!decide (a = b)))) w := by
 unfold execOp
 rw [ho]
 have hm : Tryz.prog.eqGuardType Tryz.prog.depth 64 = false := by kernel_rfl
 simp only [hx, hy, Sem.run_bind, run_eqGuard_agg w .neq 64 x y _ _ hm, run_neq_struct, eq_C, Result.andThen_ok, Sem.run_pure]
theorem eq_K (a b : Kz) (w : World) : (Op.equalIn 10000 29 (kv a.k) (kv b.k)).run Tryz.prog w = .ok (decide (a = b)) w := by
 rw [eq_key w a.k b.k a.h b.h]
 congr 1
 rw [Bool.eq_iff_iff, beq_iff_eq, decide_eq_true_eq]
 exact (Kz.eq_iff a b).symm
theorem exec_eq_K {f : Operand → Value} {o : Oper} (x y : Operand) (t' : TypeId) (ho : o.op = .binOp .eql 29 x y t') (a b : Kz) (hx : f x = kv a.k) (hy : f y = kv b.k) (w : World) : (execOp f o).run Tryz.prog w = .ok (.value (.bool (decide (a = b)))) w := by
 unfold execOp
 rw [ho]
 have hm : Tryz.prog.eqGuardType Tryz.prog.depth 29 = false := by kernel_rfl
 simp only [hx, hy, Sem.run_bind, run_eqGuard_agg w .eql 29 x y _ _ hm, run_eql_struct, eq_K, Result.andThen_ok, Sem.run_pure]
section
variable {ops : Array Oper} {rest : List Oper} {o : Oper} {a : Act} {w : World} {Q : Exit → Act → World → Prop}
end
end Go.Proofs.YtgicanpggndbeaaGreat
/- Map, Apply and Join of package delta. -/
namespace Go.Proofs.YtgicanpggndbeaaGreat
set_option linter.unusedVariables false
set_option maxRecDepth 100000
open Go.RowKit

theorem puts_len {α : Type} (key : α → Int) (l m : List α) : (l.foldl (putA key) m).length ≤ m.length + l.length := by
 induction l generalizing m with
 | nil => simp
 | cons a l ih =>
  have h1 := ih (putA key m a)
  have h2 := putA_len key m a
  rw [List.foldl_cons, List.length_cons]
  omega
theorem puts_len0 {α : Type} (key : α → Int) (l : List α) : (l.foldl (putA key) []).length ≤ l.length := by
 have := puts_len key l []
 simpa using this
theorem steps_len (c : List Ch) (m : List Pa) : (c.foldl stepA m).length ≤ m.length + c.length := by
 induction c generalizing m with
 | nil => simp
 | cons a l ih =>
  have h1 := ih (stepA m a)
  have h2 : (stepA m a).length ≤ m.length + 1 := by
   unfold stepA
   split
   · have := delA_len Pa.n m a.n; omega
   · exact putA_len Pa.n m a.pa
  rw [List.foldl_cons, List.length_cons]
  omega
set_option maxHeartbeats 1000000 in
theorem map_calls (w : World) (u : Value) (l : List Pa) (h : Sl encP w u l) (hl : l.length ≤ 10000) :
    Calls Tryz.prog 61 #[u] w fun e w' => ∃ v m, e = .returned v ∧ Own encP 88 w' w.heap.size v m ∧ MapIs l m ∧ m.length ≤ l.length ∧ Below w.heap.size w w' := by
 have hT := taken_calls w u l h (by omega)
 clear h
 go_enter Tryz.func61, Tryz.ntmps61
 go_wp2_with (first
  | (go_at_call 102; refine hR.mono ?_; clear hR; rintro e w2 ⟨v, rfl, h2, b2⟩)
  | (go_at_call 103; refine hT.mono ?_; clear hT; rintro e w1 ⟨rfl, m1, b1⟩
     have hR := risingP_calls w1 w.heap.size l.length _ m1 (by omega) (by have := puts_len0 Pa.n l; omega)))
 go_ret
 exact ⟨v, _, rfl, h2.lower b1.size, map_is l, puts_len0 Pa.n l, b1.trans (b2.mono b1.size)⟩
theorem steps_take (c : List Ch) (m : List Pa) (k : Nat) (h : k < c.length) : (c.take (k + 1)).foldl stepA m = stepA ((c.take k).foldl stepA m) c[k] := by
 rw [List.take_succ_eq_append_getElem h, List.foldl_append]
 rfl
set_option maxRecDepth 100000 in
set_option maxHeartbeats 4000000 in
theorem apply_calls (w : World) (u uc : Value) (l : List Pa) (c : List Ch) (h : Sl encP w u l) (hc : Sl encC w uc c) (hl : l.length ≤ 10000) (hcl : c.length ≤ 10000) :
    Calls Tryz.prog 114 #[u, uc] w fun e w' => ∃ v m, e = .returned v ∧ Own encP 88 w' w.heap.size v m ∧ ApplyIs l c m ∧ m.length ≤ l.length + c.length ∧ Below w.heap.size w w' := by
 have hT := taken_calls w u l h (by omega)
 have hc' := hc
 obtain ⟨ad, cap, rfl, hcap, hmax, _, _⟩ := hc'
 have hml := puts_len0 Pa.n l
 have HMI : Hid (MapIs l (l.foldl (putA Pa.n) [])) := map_is l
 generalize l.foldl (putA Pa.n) [] = M at *
 have HL : Hid (M.length ≤ l.length) := hml
 obtain ⟨n0, hn0⟩ : ∃ n0, n0 = l.length := ⟨_, rfl⟩
 rw [← hn0] at hT hl HL
 have HN0 : Hid (n0 = l.length) := hn0
 have HI : Hid (∀ i (hi : i < c.length), ∃ g off, ad = some ⟨g, off, none⟩ ∧ g < w.heap.size ∧ w.rangeAt g (off + i * 26) (encC.c c[i])) := fun i hi => SlB.at hc i hi
 obtain ⟨N, hN⟩ : ∃ N : Nat, N = c.length := ⟨_, rfl⟩
 rw [← hN] at hcap hmax hcl ⊢
 have HN : Hid (N = c.length) := hN
 clear h hc hml hn0 hN
 go_enter Tryz.func114, Tryz.ntmps114
 go_wp2_with (first
  | (go_at_call 103; refine hT.mono ?_; clear hT; rintro e w1 ⟨rfl, m1, b1⟩))
 have HST : Hid (Below w.heap.size w w1 ∧ MapA encP Pa.n w1 w.heap.size (n0 + 0) ((c.take 0).foldl stepA M)) := ⟨b1, m1⟩
 clear m1 b1
 go_loopg [12] N (fun gg i wr => ∃ k : Nat, k + gg = N ∧ i = .int .i64 (k : Int) ∧ Hid (Below w.heap.size w wr ∧ MapA encP Pa.n wr w.heap.size (n0 + k) ((c.take k).foldl stepA M)))
 case atStart => exact ⟨0, by omega, rfl, HST.out⟩
 case round =>
  obtain ⟨k, hkg, rfl, HE⟩ := hrel
  cases gk with
  | zero =>
   have hkN : k = N := by omega
   subst hkN
   have hR := risingP_calls wr w.heap.size (n0 + k) _ HE.out.2 (by omega) (by have h1 := steps_len (c.take k) M; have h2 := HL.out; have h3 : (c.take k).length ≤ k := by simp; omega
                                                                              omega)
   go_wp2_with (first
    | (go_at_call 102; refine hR.mono ?_; clear hR; rintro e w2 ⟨v, rfl, h2, b2⟩))
   go_ret
   have e1 : c.take k = c := List.take_of_length_le (by have := HN.out; omega)
   rw [e1] at h2
   refine ⟨v, _, rfl, h2.lower HE.out.1.size, apply_is HMI.out c, ?_, HE.out.1.trans (b2.mono HE.out.1.size)⟩
   have h3 := steps_len c M
   have h4 := HL.out
   have h5 := HN0.out
   have h6 := HN.out
   omega
  | succ gg =>
   have hlt : k < N := by omega
   have hltI : (k : Int) < (N : Int) := by omega
   have hkl : k < c.length := by rw [← HN.out]; exact hlt
   obtain ⟨g0, off, rfl, hg0, hat⟩ := HI.out k hkl
   have HR : Hid (wr.rangeAt g0 (off + k * 26) (encC.c c[k])) := range_same' hat (HE.out.1.block g0 hg0)
   have HTK : Hid ((c.take (k + 1)).foldl stepA M = stepA ((c.take k).foldl stepA M) c[k]) := steps_take c M k hkl
   generalize c[k] = p at *
   generalize (c.take k).foldl stepA M = L at *
   clear hat hkl
   go_upto_region 5 with (first
    | (refine load_el elC _ rfl g0 (off + k * 26) rfl rfl p HR.out ?_)
    | (refine store_el elC rfl _ _ rfl wr.heap.size rfl p rfl ch0 (InB.new encC _ wr ch0 _ rfl) ?_; intro x1 hu1 tx1 sx1))
   have BX : Below wr.heap.size wr x1 := ((Below.refl _ wr).alloc (Nat.le_refl _) _).trans (tx1.below (by simp) (Nat.le_refl _) (by simp))
   have hb1 : Below w.heap.size w x1 := HE.out.1.trans (BX.mono HE.out.1.size)
   have hm1 := HE.out.2.below BX (Nat.le_refl _)
   obtain ⟨cv, cg⟩ := range_vC hu1.range
   simp only [Nat.zero_add] at cv cg
   clear HE HR tx1 sx1 BX
   generalize wr.heap.size = q at *
   cases hpg : p.g with
   | true =>
    rw [hpg] at cg
    have HSA : Hid (stepA L p = delA Pa.n L p.n) := (show _ = _ by unfold stepA; rw [if_pos hpg])
    go_wp2_with (first
     | (refine load_part _ rfl q 0 rfl rfl _ p.h (range_kC hu1.range) ?_)
     | (at_delete; refine drop_a tyP rfl _ _ rfl w.heap.size (n0 + k) L rfl hm1 p.kz rfl ?_; intro x2 hm2 gr2))
    go_roundg gg
    case measure => omega
    case rel => exact ⟨k + 1, by omega, congrArg (Value.int .i64) (by omega), (show Below w.heap.size w x2 ∧ MapA encP Pa.n x2 w.heap.size (n0 + (k + 1)) ((c.take (k + 1)).foldl stepA M) from ⟨hb1.grown gr2 hb1.size (fun j hj => by cases hj; exact Nat.le_refl _), by rw [HTK.out, HSA.out]; exact hm2.mono (by omega)⟩)⟩
   | false =>
    rw [hpg] at cg
    have HSA : Hid (stepA L p = putA Pa.n L p.pa) := (show _ = _ by unfold stepA; rw [if_neg (by rw [hpg]; simp)])
    go_wp2_with (first
     | (refine load_part _ rfl q 0 rfl rfl _ p.h (range_kC hu1.range) ?_)
     | (refine build_p rfl _ _ rfl p.pa rfl rfl ?_)
     | (refine store_a tyP rfl _ _ _ rfl w.heap.size (n0 + k) L rfl hm1 (by omega) p.kz rfl p.pa rfl rfl ?_; intro x2 hm2 gr2))
    go_roundg gg
    case measure => omega
    case rel => exact ⟨k + 1, by omega, congrArg (Value.int .i64) (by omega), (show Below w.heap.size w x2 ∧ MapA encP Pa.n x2 w.heap.size (n0 + (k + 1)) ((c.take (k + 1)).foldl stepA M) from ⟨hb1.grown gr2 hb1.size (fun j hj => by cases hj; exact Nat.le_refl _), by rw [HTK.out, HSA.out]; exact hm2⟩)⟩
end Go.Proofs.YtgicanpggndbeaaGreat
/- Join of package delta. -/
namespace Go.Proofs.YtgicanpggndbeaaGreat
set_option linter.unusedVariables false
set_option maxRecDepth 100000
open Go.RowKit

/-- A slice of slices of changes. -/
structure SlS (w : World) (B : Nat) (u : Value) (cs : List (Value × List Ch)) : Prop where
 out : ∃ ad cap, u = .slice ad cs.length cap ∧ cs.length ≤ cap ∧ cs.length ≤ maxLen ∧ (cs = [] ∨ ∃ g off, ad = some ⟨g, off, none⟩ ∧ g < B ∧ ∀ i (hi : i < cs.length), w.cell? ⟨g, off + i, none⟩ = some (cs[i]).1)
 each : ∀ e ∈ cs, SlB encC w B e.1 e.2
theorem Ch.set_v {w : World} {q : Nat} {c : Ch} (h : InB encC 64 w q c) (hg : c.g = true) : InB encC 64 (w.setCell ⟨q, 24, none⟩ (.string ⟨#[]⟩)) q c.plain := by
 constructor
 rw [setCell_eq_setRow w q 24 _ _ _ _ h.blk, setRow_heap w q _ _ _ _ h.blk]
 have hk : (bc c.k).length = 24 := by rw [bc_length, c.h]
 have e : c.plain = ⟨c.k, c.h, [], true⟩ := by unfold Ch.plain; rw [if_pos hg]
 rw [e]
 congr 2
 show (ccd c).toArray.setIfInBounds 24 _ = (ccd ⟨c.k, c.h, [], true⟩).toArray
 simp only [ccd, List.setIfInBounds_toArray]
 rw [List.set_append_right _ _ (by omega), hk, hg]
 rfl
theorem plains_take (l : List Ch) (m : List Ch) (k : Nat) (h : k < l.length) : ((l.take (k + 1)).map Ch.plain).foldl (putA Ch.n) m = putA Ch.n (((l.take k).map Ch.plain).foldl (putA Ch.n) m) (l[k]).plain := by
 rw [List.take_succ_eq_append_getElem h, List.map_append, List.foldl_append]
 rfl
theorem flats_take (cs : List (Value × List Ch)) (k : Nat) (h : k < cs.length) : ((((cs.take (k + 1)).flatMap (·.2)).map Ch.plain).foldl (putA Ch.n) []) = (((cs[k]).2.map Ch.plain).foldl (putA Ch.n) ((((cs.take k).flatMap (·.2)).map Ch.plain).foldl (putA Ch.n) [])) := by
 rw [List.take_succ_eq_append_getElem h, List.flatMap_append, List.map_append, List.foldl_append]
 simp
theorem flats_len (cs : List (Value × List Ch)) (k : Nat) (h : k < cs.length) : ((cs.take (k + 1)).flatMap (·.2)).length = ((cs.take k).flatMap (·.2)).length + (cs[k]).2.length := by
 rw [List.take_succ_eq_append_getElem h, List.flatMap_append, List.length_append]
 simp
theorem flats_le (cs : List (Value × List Ch)) (k : Nat) : ((cs.take k).flatMap (·.2)).length ≤ (cs.flatMap (·.2)).length := by
 have : cs.flatMap (·.2) = (cs.take k).flatMap (·.2) ++ (cs.drop k).flatMap (·.2) := by rw [← List.flatMap_append, List.take_append_drop]
 rw [this, List.length_append]
 omega
set_option maxRecDepth 100000 in
set_option maxHeartbeats 4000000 in
theorem join_calls (w : World) (u : Value) (cs : List (Value × List Ch)) (h : SlS w w.heap.size u cs) (hn : cs.length ≤ 1000) (hl : (cs.flatMap (·.2)).length ≤ 10000) :
    Calls Tryz.prog 52 #[u] w fun e w' => ∃ v d, e = .returned v ∧ Own encC 64 w' w.heap.size v d ∧ JoinIs (cs.flatMap (·.2)) d ∧ d.length ≤ (cs.flatMap (·.2)).length ∧ Below w.heap.size w w' := by
 obtain ⟨⟨ad, cap, rfl, hcap, hmax, hcell⟩, heach⟩ := h
 obtain ⟨N, hN⟩ : ∃ N : Nat, N = cs.length := ⟨_, rfl⟩
 rw [← hN] at hcap hmax hn ⊢
 have HN : Hid (N = cs.length) := hN
 have HI : Hid (∀ i (hi : i < cs.length), ∃ g off, ad = some ⟨g, off, none⟩ ∧ g < w.heap.size ∧ w.cell? ⟨g, off + i, none⟩ = some (cs[i]).1) := fun i hi => by
  rcases hcell with rfl | ⟨g, off, e, hg, hc⟩
  · cases hi
  · exact ⟨g, off, e, hg, hc i hi⟩
 have HE : Hid (∀ i (hi : i < cs.length), SlB encC w w.heap.size (cs[i]).1 (cs[i]).2) := fun i hi => heach _ (List.getElem_mem hi)
 have HLL : Hid ((cs.flatMap (·.2)).length ≤ 10000) := hl
 have HS : Hid (Below w.heap.size w (w.alloc (.map #[] 0)) ∧ MapA encC Ch.n (w.alloc (.map #[] 0)) w.heap.size ((cs.take 0).flatMap (·.2)).length ((((cs.take 0).flatMap (·.2)).map Ch.plain).foldl (putA Ch.n) [])) := ⟨(Below.refl _ w).alloc (Nat.le_refl _) _, MapA.made _ _ w _ rfl⟩
 have hmm := @run_makeMap Tryz.prog
 clear hN heach hcell hl
 go_enter Tryz.func52, Tryz.ntmps52
 go_wp2
 go_loopg [11] N (fun gg i wr => ∃ k : Nat, k + gg = N ∧ i = .int .i64 (k : Int) ∧ Hid (Below w.heap.size w wr ∧ MapA encC Ch.n wr w.heap.size ((cs.take k).flatMap (·.2)).length ((((cs.take k).flatMap (·.2)).map Ch.plain).foldl (putA Ch.n) [])))
 case atStart => exact ⟨0, by omega, rfl, HS.out⟩
 case round =>
  obtain ⟨k, hkg, rfl, HX⟩ := hrel
  cases gk with
  | zero =>
   have hkN : k = N := by omega
   subst hkN
   have e1 : cs.take k = cs := List.take_of_length_le (by have := HN.out; omega)
   have hX := HX.out
   rw [e1] at hX
   have hlen : ((((cs.flatMap (·.2)).map Ch.plain)).foldl (putA Ch.n) []).length ≤ (cs.flatMap (·.2)).length := by
    have := puts_len0 Ch.n ((cs.flatMap (·.2)).map Ch.plain)
    rwa [List.length_map] at this
   have hR := risingC_calls wr w.heap.size _ _ hX.2 (by have := HLL.out; omega) (by have := HLL.out; omega)
   have HB : Hid (Below w.heap.size w wr) := hX.1
   clear hX HX
   go_wp2_with (first
    | (go_at_call 94; refine hR.mono ?_; clear hR; rintro e w2 ⟨v, rfl, h2, b2⟩))
   go_ret
   exact ⟨v, _, rfl, h2.lower HB.out.size, join_is _, hlen, HB.out.trans (b2.mono HB.out.size)⟩
  | succ gg =>
   have hlt : k < N := by omega
   have hltI : (k : Int) < (N : Int) := by omega
   have hkl : k < cs.length := by rw [← HN.out]; exact hlt
   obtain ⟨g0, off, rfl, hg0, hat⟩ := HI.out k hkl
   have hat2 : wr.cell? ⟨g0, off + k, none⟩ = some (cs[k]).1 := (HX.out.1.cell (p := ⟨g0, off + k, none⟩) hg0).trans hat
   have hsl := HE.out k hkl
   have HFT := flats_take cs k hkl
   have HFL := flats_len cs k hkl
   have HFB := flats_le cs (k + 1)
   have hLL := HLL.out
   obtain ⟨ad2, cap2, hv2, hcap2, hmax2, _, _⟩ := id hsl
   rw [hv2] at hat2 hsl
   have HC : Hid (∀ i (hi : i < (cs[k]).2.length), ∃ g off, ad2 = some ⟨g, off, none⟩ ∧ g < w.heap.size ∧ w.rangeAt g (off + i * 26) (encC.c (cs[k]).2[i])) := fun i hi => SlB.at hsl i hi
   generalize (cs[k]).2 = c at *
   generalize hL0 : (((cs.take k).flatMap (·.2)).map Ch.plain).foldl (putA Ch.n) [] = L0 at *
   generalize hn0 : ((cs.take k).flatMap (·.2)).length = n0 at *
   obtain ⟨M, hM⟩ : ∃ M : Nat, M = c.length := ⟨_, rfl⟩
   rw [← hM] at hcap2 hmax2 hat2 HFL
   have HM : Hid (M = c.length) := hM
   have hb5 : n0 + M ≤ 10000 := by omega
   have HFT : Hid ((((cs.take (k + 1)).flatMap (·.2)).map Ch.plain).foldl (putA Ch.n) [] = (c.map Ch.plain).foldl (putA Ch.n) L0) := HFT
   have HFL : Hid (((cs.take (k + 1)).flatMap (·.2)).length = n0 + M) := HFL
   have HS2 : Hid (Below w.heap.size w wr ∧ MapA encC Ch.n wr w.heap.size (n0 + 0) (((c.take 0).map Ch.plain).foldl (putA Ch.n) L0)) := HX.out
   clear hat hkl hM hsl hv2 HX HFB hLL hL0 hn0
   go_wp2_with fail
   go_loopg [17] M (fun g2 i wq => ∃ j : Nat, j + g2 = M ∧ i = .int .i64 (j : Int) ∧ Hid (Below w.heap.size w wq ∧ MapA encC Ch.n wq w.heap.size (n0 + j) (((c.take j).map Ch.plain).foldl (putA Ch.n) L0)))
   case atStart => exact ⟨0, by omega, rfl, HS2.out⟩
   case round =>
    obtain ⟨j, hjg, rfl, HY⟩ := hrel
    cases gk with
    | zero =>
     have hjM : j = M := by omega
     subst hjM
     go_wp2_with fail
     go_roundg gg
     case measure => omega
     case rel =>
      refine ⟨k + 1, by omega, congrArg (Value.int .i64) (by omega), ?_⟩
      have hY := HY.out
      rw [List.take_of_length_le (by have := HM.out; omega)] at hY
      exact (show Below w.heap.size w wr ∧ MapA encC Ch.n wr w.heap.size ((cs.take (k + 1)).flatMap (·.2)).length ((((cs.take (k + 1)).flatMap (·.2)).map Ch.plain).foldl (putA Ch.n) []) from ⟨hY.1, by rw [HFT.out, HFL.out]; exact hY.2⟩)
    | succ g2 =>
     have hjlt : j < M := by omega
     have hjI : (j : Int) < (M : Int) := by omega
     have hjl : j < c.length := by rw [← HM.out]; exact hjlt
     obtain ⟨g1, off1, rfl, hg1, hat1⟩ := HC.out j hjl
     have HR : Hid (wr.rangeAt g1 (off1 + j * 26) (encC.c c[j])) := range_same' hat1 (HY.out.1.block g1 hg1)
     have HTK : Hid (((c.take (j + 1)).map Ch.plain).foldl (putA Ch.n) L0 = putA Ch.n (((c.take j).map Ch.plain).foldl (putA Ch.n) L0) (c[j]).plain) := plains_take c L0 j hjl
     generalize c[j] = p at *
     generalize ((c.take j).map Ch.plain).foldl (putA Ch.n) L0 = L at *
     clear hat1 hjl
     go_upto_region 8 with (first
      | (refine load_el elC _ rfl g1 (off1 + j * 26) rfl rfl p HR.out ?_)
      | (refine store_el elC rfl _ _ rfl wr.heap.size rfl p rfl ch0 (InB.new encC _ wr ch0 _ rfl) ?_; intro x1 hu1 tx1 sx1))
     have BX : Below wr.heap.size wr x1 := ((Below.refl _ wr).alloc (Nat.le_refl _) _).trans (tx1.below (by simp) (Nat.le_refl _) (by simp))
     have hb1 : Below w.heap.size w x1 := HY.out.1.trans (BX.mono HY.out.1.size)
     have hm1 := HY.out.2.below BX (Nat.le_refl _)
     obtain ⟨cv, cg⟩ := range_vC hu1.range
     simp only [Nat.zero_add] at cv cg
     have hqw : w.heap.size < wr.heap.size := HY.out.2.lt
     clear HY HR tx1 sx1 BX
     generalize wr.heap.size = q at *
     cases hpg : p.g with
     | true =>
      rw [hpg] at cg
      have ff : x1.frozen? ⟨q, 24, none⟩ = false := by simp [World.frozen?, hu1.blk]
      have hu2 := Ch.set_v hu1 hpg
      have hm2 : MapA encC Ch.n (x1.setCell ⟨q, 24, none⟩ (.string ⟨#[]⟩)) w.heap.size (n0 + j) L := hm1.kept (Below.heap_setCell _ _ _ _ (by simp; omega))
      have HB2 : Hid (Below w.heap.size w (x1.setCell ⟨q, 24, none⟩ (.string ⟨#[]⟩))) := hb1.setCell (by simp; omega) _
      have hk : p.plain.kz = p.kz := by unfold Ch.plain; rw [if_pos hpg]; rfl
      have hkk : p.plain.k = p.k := congrArg Kz.k hk
      have HPN : Hid (p.plain.n = p.kz.n) := Ch.plain_n p
      clear hu1 hm1 hb1 hk
      have hr2 := range_kC hu2.range
      rw [hkk] at hr2
      generalize p.plain = p2 at *
      go_wp2_with (first
       | (refine load_part _ rfl q 0 rfl rfl _ p.h hr2 ?_)
       | (refine load_el elC _ rfl q 0 rfl rfl p2 hu2.range ?_)
       | (refine store_a tyC rfl _ _ _ rfl w.heap.size (n0 + j) L rfl hm2 (by omega) p.kz rfl p2 rfl HPN.out ?_; intro x2 hm3 gr2))
      go_roundg g2
      case measure => omega
      case rel => exact ⟨j + 1, by omega, congrArg (Value.int .i64) (by omega), (show Below w.heap.size w x2 ∧ MapA encC Ch.n x2 w.heap.size (n0 + (j + 1)) (((c.take (j + 1)).map Ch.plain).foldl (putA Ch.n) L0) from ⟨HB2.out.grown gr2 HB2.out.size (fun j hj => by cases hj; exact Nat.le_refl _), by rw [HTK.out]; exact hm3⟩)⟩
     | false =>
      rw [hpg] at cg
      have hpp : p.plain = p := by unfold Ch.plain; rw [if_neg (by rw [hpg]; simp)]
      rw [hpp] at HTK
      go_wp2_with (first
       | (refine load_part _ rfl q 0 rfl rfl _ p.h (range_kC hu1.range) ?_)
       | (refine load_el elC _ rfl q 0 rfl rfl p hu1.range ?_)
       | (refine store_a tyC rfl _ _ _ rfl w.heap.size (n0 + j) L rfl hm1 (by omega) p.kz rfl p rfl rfl ?_; intro x2 hm3 gr2))
      go_roundg g2
      case measure => omega
      case rel => exact ⟨j + 1, by omega, congrArg (Value.int .i64) (by omega), (show Below w.heap.size w x2 ∧ MapA encC Ch.n x2 w.heap.size (n0 + (j + 1)) (((c.take (j + 1)).map Ch.plain).foldl (putA Ch.n) L0) from ⟨hb1.grown gr2 hb1.size (fun j hj => by cases hj; exact Nat.le_refl _), by rw [HTK.out]; exact hm3⟩)⟩
end Go.Proofs.YtgicanpggndbeaaGreat
/- Plain of package view: the closure by which pairs are found. -/
namespace Go.Proofs.YtgicanpggndbeaaGreat
set_option linter.unusedVariables false
set_option maxRecDepth 100000
open Go.RowKit

theorem ord_less (p : Pa) (K : Kz) : decide (Lib.compareBytes p.k K.k < 0) = decide (p.n < K.n) := by
 rw [compare_less, less_num p.k K.k (by rw [p.h, K.h])]
 exact decide_eq_decide.2 ⟨fun h => by unfold Pa.n Kz.n; omega, fun h => by unfold Pa.n Kz.n at h; omega⟩
theorem ord_zero (p : Pa) (K : Kz) : decide (Lib.compareBytes p.k K.k = 0) = decide (p.n = K.n) := by
 refine decide_eq_decide.2 ((compare_zero _ _).trans ⟨fun h => by unfold Pa.n Kz.n; rw [h], fun h => ?_⟩)
 exact num_inj p.k K.k (by rw [p.h, K.h]) (by unfold Pa.n Kz.n at h; omega)
set_option maxHeartbeats 1000000 in
theorem ordP_calls (w : World) (p : Pa) (K : Kz) : Calls Tryz.prog 222 #[.agg (encP.c p).toArray, kv K.k] w fun e w' => ∃ n, e = .returned (.int .i64 n) ∧ decide (n < 0) = decide (p.n < K.n) ∧ decide (n = 0) = decide (p.n = K.n) ∧ Below w.heap.size w w' := by
 have h1 : InB encP 88 ((w.alloc (.cells (encP.c p).toArray 88)).alloc (.cells (bc K.k).toArray 29)) w.heap.size p := (InB.new encP _ w p _ rfl).alloc _
 have h2 : Has ((w.alloc (.cells (encP.c p).toArray 88)).alloc (.cells (bc K.k).toArray 29)) (w.heap.size + 1) K.k := by
  have := Has.new (w.alloc (.cells (encP.c p).toArray 88)) K.k K.h
  simpa using this
 have HB : Hid (Below w.heap.size w ((w.alloc (.cells (encP.c p).toArray 88)).alloc (.cells (bc K.k).toArray 29))) := ((Below.refl _ w).alloc (Nat.le_refl _) _).alloc (by simp) _
 have HC : Hid (∀ W, (W.rangeAt w.heap.size 0 (bc p.k)) → W.rangeAt (w.heap.size + 1) 0 (bc K.k) → Calls Tryz.prog 157 #[.slice (some ⟨w.heap.size, 0, none⟩) 24 24, .slice (some ⟨w.heap.size + 1, 0, none⟩) 24 24] W fun e w' => e = .returned (.int .i64 (Lib.compareBytes p.k K.k)) ∧ w' = W) := fun W a b => compareAt_calls W _ _ _ _ p.h K.h a b 24 24
 have HR : Hid (decide (Lib.compareBytes p.k K.k < 0) = decide (p.n < K.n)) := ord_less p K
 have HZ : Hid (decide (Lib.compareBytes p.k K.k = 0) = decide (p.n = K.n)) := ord_zero p K
 have r1 := range_kP h1.range
 have r2 : ((w.alloc (.cells (encP.c p).toArray 88)).alloc (.cells (bc K.k).toArray 29)).rangeAt (w.heap.size + 1) 0 (bc K.k) := fun j v hv => by
  rw [Nat.zero_add, cell_of_row _ _ _ _ _ _ h2.blk]
  simpa using hv
 have HH : Hid (∀ q, ((((w.alloc (.cells (encP.c p).toArray 88)).alloc (.cells (bc K.k).toArray 29)).drewN q).rangeAt w.heap.size 0 (bc p.k)) ∧ (((w.alloc (.cells (encP.c p).toArray 88)).alloc (.cells (bc K.k).toArray 29)).drewN q).rangeAt (w.heap.size + 1) 0 (bc K.k)) := fun q => ⟨r1, r2⟩
 generalize Lib.compareBytes p.k K.k = r at *
 clear h1 h2 r1 r2
 go_enter Tryz.func222, Tryz.ntmps222
 go_wp2
 go_quiet (first | (go_at_call 157; exact Calls.quiet_of_same (HC.out _ (HH.out _).1 (HH.out _).2)))
 go_wp2
 go_ret
 exact ⟨_, rfl, HR.out, HZ.out, below_drewN HB.out _⟩
end Go.Proofs.YtgicanpggndbeaaGreat
