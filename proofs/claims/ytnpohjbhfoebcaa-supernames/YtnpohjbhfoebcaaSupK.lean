/- Fields held against one another. -/
import Derived.Test.YtnpohjbhfoebcaaSupJ
namespace Go.Proofs.Ytnpohjbhfoebcaa
set_option linter.unusedVariables false
open Go.RowKit

theorem snap_fields : (Try.prog.fieldsOf 40).toList.map (fun f => (f.name == "_", f.type, f.offset)) = [(false, 9, 0), (false, 3, 1), (false, 3, 2)] := by kernel_rfl
theorem snap_struct : Try.prog.underlying 40 = some (.struct (Try.prog.fieldsOf 40)) := by
  unfold Program.fieldsOf
  rw [Try.underlying40]
theorem fld_struct : Try.prog.underlying 48 = some (.struct (Try.prog.fieldsOf 48)) := by
  unfold Program.fieldsOf
  rw [Try.underlying48]
theorem fld_fields : (Try.prog.fieldsOf 48).toList.map (fun f => (f.name == "_", f.type, f.offset)) = [(false, 3, 0), (false, 9, 1), (false, 3, 2), (false, 3, 3), (false, 3, 4), (false, 3, 5), (false, 46, 6), (false, 3, 30)] := by kernel_rfl
theorem part_int (cs : Array Value) (o : Nat) (v : Int) (h : cs[o]? = some (.int .i64 v)) (w : World) : (part 3 cs o).run Try.prog w = .ok (.int .i64 v) w := by
  simp only [part, Sem.run_bind, Try.isAgg3, Result.andThen_ok, h]
  simp
theorem part_str (cs : Array Value) (o : Nat) (v : ByteArray) (h : cs[o]? = some (.string v)) (w : World) : (part 9 cs o).run Try.prog w = .ok (.string v) w := by
  simp only [part, Sem.run_bind, Try.isAgg9, Result.andThen_ok, h]
  simp
theorem eq_i (d : Nat) (a b : Int) (w : World) : (Op.equalIn (d + 1) 3 (.int .i64 a) (.int .i64 b)).run Try.prog w = .ok (a == b) w := run_equalIn_int w d 3 .i64 .i64 a b Try.underlying3
theorem eq_s (d : Nat) (a b : ByteArray) (w : World) : (Op.equalIn (d + 1) 9 (.string a) (.string b)).run Try.prog w = .ok (decide (a = b)) w := by
  rw [run_equalIn_string w d 9 a b Try.underlying9]
  congr 1
  rw [Bool.eq_iff_iff, beq_iff_eq, decide_eq_true_eq, ByteArray.toList_eq, ByteArray.toList_eq]
  exact ⟨fun h => by rw [← str_data a, ← str_data b, h], fun h => by rw [h]⟩

theorem eqFields_cons (d : Nat) (xs ys : Array Value) (f : Field) (fs : List Field) (a b : Value) (q : Bool) (w : World) (hn : (f.name == "_") = false) (h1 : ∀ w, (part f.type xs f.offset).run Try.prog w = .ok a w) (h2 : ∀ w, (part f.type ys f.offset).run Try.prog w = .ok b w) (h3 : ∀ w, (Op.equalIn d f.type a b).run Try.prog w = .ok q w) :
    (Op.eqFields d xs ys (f :: fs)).run Try.prog w = if q then (Op.eqFields d xs ys fs).run Try.prog w else .ok false w := by
  have hne : ¬ f.name = "_" := by simpa using hn
  cases q <;> simp [Op.eqFields, hne, h1, h2, h3]
theorem eq_snap (d : Nat) (a b : Snp) (w : World) : (Op.equalIn (d + 2) 40 (.agg (snc a).toArray) (.agg (snc b).toArray)).run Try.prog w = .ok (a == b) w := by
  have hp : Try.prog.stoodInHeld 40 = false := by kernel_rfl
  rw [run_equalIn_struct w (d + 1) 40 _ _ snap_struct hp]
  have hf := snap_fields
  generalize (Try.prog.fieldsOf 40).toList = fl at hf ⊢
  rcases fl with _ | ⟨f0, _ | ⟨f1, _ | ⟨f2, _ | ⟨f3, fl⟩⟩⟩⟩
  · simp at hf
  · simp at hf
  · simp at hf
  · simp only [List.map_cons, List.map_nil, List.cons.injEq, Prod.mk.injEq] at hf
    obtain ⟨⟨a1, a2, a3⟩, ⟨b1, b2, b3⟩, ⟨c1, c2, c3⟩, _⟩ := hf
    rw [eqFields_cons _ _ _ _ _ (.string a.n) (.string b.n) (decide (a.n = b.n)) w a1 (by rw [a2, a3]; exact part_str _ _ _ rfl) (by rw [a2, a3]; exact part_str _ _ _ rfl) (by rw [a2]; exact eq_s d _ _),
      eqFields_cons _ _ _ _ _ (.int .i64 a.r) (.int .i64 b.r) (a.r == b.r) w b1 (by rw [b2, b3]; exact part_int _ _ _ rfl) (by rw [b2, b3]; exact part_int _ _ _ rfl) (by rw [b2]; exact eq_i d _ _),
      eqFields_cons _ _ _ _ _ (.int .i64 a.c) (.int .i64 b.c) (a.c == b.c) w c1 (by rw [c2, c3]; exact part_int _ _ _ rfl) (by rw [c2, c3]; exact part_int _ _ _ rfl) (by rw [c2]; exact eq_i d _ _)]
    obtain ⟨an, ar, ac⟩ := a
    obtain ⟨bn, br, bc'⟩ := b
    simp only [Op.eqFields, Sem.run_pure]
    by_cases h1 : an = bn <;> by_cases h2 : ar = br <;> by_cases h3 : ac = bc' <;> simp [h1, h2, h3]
  · simp at hf
theorem all_range_snaps : ∀ (xs ys : List Snp), xs.length = ys.length → ((List.range xs.length).all fun i => xs.getD i nilS == ys.getD i nilS) = (xs == ys)
  | [], [], _ => rfl
  | x :: xs, y :: ys, h => by
    have ih := all_range_snaps xs ys (by simpa using h)
    rw [List.length_cons, List.range_succ_eq_map, List.all_cons, List.all_map]
    simp only [List.getD_cons_zero, Function.comp_def, List.getD_cons_succ, ih]
    simp [List.cons_beq_cons]
  | [], _ :: _, h => by simp at h
  | _ :: _, [], h => by simp at h
theorem sncs_seg : ∀ (l : List Snp) (i : Nat), i < l.length → ((sncs l).drop (i * 3)).take 3 = snc (l.getD i nilS)
  | s :: l, 0, _ => by simp [sncs, snc]
  | s :: l, i + 1, h => by
    have ih := sncs_seg l i (by simpa using h)
    rw [show (i + 1) * 3 = i * 3 + 3 by omega]
    simpa [sncs] using ih
theorem part_snap (l : List Snp) (i : Nat) (hi : i < l.length) (w : World) : (part 40 (sncs l).toArray (i * 3)).run Try.prog w = .ok (.agg (snc (l.getD i nilS)).toArray) w := by
  simp only [part, Sem.run_bind, Try.isAgg40, Try.sizeOf40, Result.andThen_ok, if_true, Sem.run_pure]
  congr 2
  rw [← sncs_seg l i hi]
  simp [List.extract_eq_take_drop]
theorem eq_snaps (d : Nat) (xs ys : List Snp) (hx : xs.length = 8) (hy : ys.length = 8) (w : World) : (Op.equalIn (d + 3) 46 (.agg (sncs xs).toArray) (.agg (sncs ys).toArray)).run Try.prog w = .ok (xs == ys) w := by
  rw [← all_range_snaps xs ys (hx.trans hy.symm), hx, List.range_eq_range', Op.equalIn]
  simp only [Sem.run_bind, run_underlying Try.underlying46, Result.andThen_ok, Try.sizeOf40, Std.Legacy.Range.forIn_eq_forIn_range', Std.Legacy.Range.size, Nat.sub_zero, Nat.add_sub_cancel, Nat.div_one]
  have hl : ∀ i ∈ List.range' 0 8 1, i < 8 := fun i hi => by simpa using (List.mem_range'_1.1 hi).2
  generalize List.range' 0 8 1 = l at hl ⊢
  induction l with
  | nil => simp
  | cons i l ih =>
    have hi : i < 8 := hl i (by simp)
    simp only [List.forIn_cons, Sem.run_bind, part_snap xs i (by omega), part_snap ys i (by omega), eq_snap, Result.andThen_ok, List.all_cons]
    cases hb : (xs.getD i nilS == ys.getD i nilS)
    · simp
    · simp only [Bool.not_true, Bool.false_eq_true, if_false, Sem.run_pure, Result.andThen_ok, Bool.true_and]
      exact ih fun j hj => hl j (by simp [hj])
theorem fc_seg (F : Fld) (h : F.l.length = 8) : ((fc F).drop 6).take 24 = sncs F.l := by
  have := sncs_length F.l
  simp only [fc, List.drop_succ_cons, List.drop_zero]
  rw [List.take_append_of_le_length (by omega), List.take_of_length_le (by omega)]
theorem fc_last (F : Fld) (h : F.l.length = 8) : (fc F).toArray[30]? = some (.int .i64 F.e) := by
  have := sncs_length F.l
  rw [List.getElem?_toArray]
  simp only [fc, List.getElem?_cons_succ]
  rw [List.getElem?_append_right (by omega), this, h]
  rfl
theorem part_snaps (F : Fld) (h : F.l.length = 8) (w : World) : (part 46 (fc F).toArray 6).run Try.prog w = .ok (.agg (sncs F.l).toArray) w := by
  simp only [part, Sem.run_bind, Try.isAgg46, Try.sizeOf46, Result.andThen_ok, if_true, Sem.run_pure]
  congr 2
  rw [← fc_seg F h]
  simp [List.extract_eq_take_drop]
theorem eq_fld (F G : Fld) (hF : F.l.length = 8) (hG : G.l.length = 8) (w : World) : (Op.equalIn 10000 48 (fv F) (fv G)).run Try.prog w = .ok (F == G) w := by
  have hp : Try.prog.stoodInHeld 48 = false := by kernel_rfl
  rw [run_equalIn_struct w 9999 48 _ _ fld_struct hp]
  have hf := fld_fields
  have lF := fc_last F hF
  have lG := fc_last G hG
  have pF := part_snaps F hF
  have pG := part_snaps G hG
  generalize (Try.prog.fieldsOf 48).toList = fl at hf ⊢
  rcases fl with _ | ⟨f0, _ | ⟨f1, _ | ⟨f2, _ | ⟨f3, _ | ⟨f4, _ | ⟨f5, _ | ⟨f6, _ | ⟨f7, _ | ⟨f8, fl⟩⟩⟩⟩⟩⟩⟩⟩⟩
  iterate 8 (· simp at hf)
  · simp only [List.map_cons, List.map_nil, List.cons.injEq, Prod.mk.injEq] at hf
    obtain ⟨⟨a1, a2, a3⟩, ⟨b1, b2, b3⟩, ⟨c1, c2, c3⟩, ⟨d1, d2, d3⟩, ⟨e1, e2, e3⟩, ⟨g1, g2, g3⟩, ⟨h1, h2, h3⟩, ⟨i1, i2, i3⟩, _⟩ := hf
    rw [eqFields_cons _ _ _ _ _ (.int .i64 F.g) (.int .i64 G.g) (F.g == G.g) w a1 (by rw [a2, a3]; exact part_int _ _ _ rfl) (by rw [a2, a3]; exact part_int _ _ _ rfl) (by rw [a2]; exact eq_i 9998 _ _),
      eqFields_cons _ _ _ _ _ (.string F.lt) (.string G.lt) (decide (F.lt = G.lt)) w b1 (by rw [b2, b3]; exact part_str _ _ _ rfl) (by rw [b2, b3]; exact part_str _ _ _ rfl) (by rw [b2]; exact eq_s 9998 _ _),
      eqFields_cons _ _ _ _ _ (.int .i64 F.r) (.int .i64 G.r) (F.r == G.r) w c1 (by rw [c2, c3]; exact part_int _ _ _ rfl) (by rw [c2, c3]; exact part_int _ _ _ rfl) (by rw [c2]; exact eq_i 9998 _ _),
      eqFields_cons _ _ _ _ _ (.int .i64 F.x) (.int .i64 G.x) (F.x == G.x) w d1 (by rw [d2, d3]; exact part_int _ _ _ rfl) (by rw [d2, d3]; exact part_int _ _ _ rfl) (by rw [d2]; exact eq_i 9998 _ _),
      eqFields_cons _ _ _ _ _ (.int .i64 F.c) (.int .i64 G.c) (F.c == G.c) w e1 (by rw [e2, e3]; exact part_int _ _ _ rfl) (by rw [e2, e3]; exact part_int _ _ _ rfl) (by rw [e2]; exact eq_i 9998 _ _),
      eqFields_cons _ _ _ _ _ (.int .i64 F.n) (.int .i64 G.n) (F.n == G.n) w g1 (by rw [g2, g3]; exact part_int _ _ _ rfl) (by rw [g2, g3]; exact part_int _ _ _ rfl) (by rw [g2]; exact eq_i 9998 _ _),
      eqFields_cons _ _ _ _ _ (.agg (sncs F.l).toArray) (.agg (sncs G.l).toArray) (F.l == G.l) w h1 (by rw [h2, h3]; exact pF) (by rw [h2, h3]; exact pG) (by rw [h2]; exact eq_snaps 9996 _ _ hF hG),
      eqFields_cons _ _ _ _ _ (.int .i64 F.e) (.int .i64 G.e) (F.e == G.e) w i1 (by rw [i2, i3]; exact part_int _ _ _ lF) (by rw [i2, i3]; exact part_int _ _ _ lG) (by rw [i2]; exact eq_i 9998 _ _)]
    clear lF lG pF pG hF hG
    obtain ⟨a, b, c, d, e, f, l, z⟩ := F
    obtain ⟨a', b', c', d', e', f', l', z'⟩ := G
    simp only [Op.eqFields, Sem.run_pure]
    by_cases q1 : a = a'
    · by_cases q2 : b = b'
      · by_cases q3 : c = c'
        · by_cases q4 : d = d'
          · by_cases q5 : e = e'
            · by_cases q6 : f = f'
              · by_cases q7 : l = l'
                · by_cases q8 : z = z' <;> simp [q1, q2, q3, q4, q5, q6, q7, q8]
                · simp [q1, q2, q3, q4, q5, q6, q7]
              · simp [q1, q2, q3, q4, q5, q6]
            · simp [q1, q2, q3, q4, q5]
          · simp [q1, q2, q3, q4]
        · simp [q1, q2, q3]
      · simp [q1, q2]
    · simp [q1]
  · simp at hf
theorem exec_ne_fld {ρ : Operand → Value} {o : Oper} (x y : Operand) (t' : TypeId) (ho : o.op = .binOp .neq 48 x y t') (F G : Fld) (hx : ρ x = fv F) (hy : ρ y = fv G) (hF : F.l.length = 8) (hG : G.l.length = 8) (w : World) : (execOp ρ o).run Try.prog w = .ok (.value (.bool (!(F == G)))) w := by
  unfold execOp
  rw [ho]
  have hm : Try.prog.eqGuardType Try.prog.depth 48 = false := by kernel_rfl
  simp only [hx, hy, Sem.run_bind, run_eqGuard_agg w .neq 48 x y _ _ hm, run_neq_struct, eq_fld F G hF hG w, Result.andThen_ok, Sem.run_pure]
end Go.Proofs.Ytnpohjbhfoebcaa
