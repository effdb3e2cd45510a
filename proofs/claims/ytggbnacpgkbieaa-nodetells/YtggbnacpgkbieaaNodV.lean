/- Pairs, kids and nodes held against one another. -/
import Derived.Test.YtggbnacpgkbieaaNodS
namespace Go.Proofs.Ytggbnacpgkbieaa
set_option linter.unusedVariables false
open Go.RowKit

theorem part_int (cs : Array Value) (o : Nat) (v : Int) (h : cs[o]? = some (.int .i64 v)) (w : World) : (part 3 cs o).run Try.prog w = .ok (.int .i64 v) w := by
  simp only [part, Sem.run_bind, Try.isAgg3, Result.andThen_ok, h]
  simp
theorem part_str (cs : Array Value) (o : Nat) (v : ByteArray) (h : cs[o]? = some (.string v)) (w : World) : (part 9 cs o).run Try.prog w = .ok (.string v) w := by
  simp only [part, Sem.run_bind, Try.isAgg9, Result.andThen_ok, h]
  simp
theorem eq_i (d : Nat) (a b : Int) (w : World) : (Op.equalIn (d + 1) 3 (.int .i64 a) (.int .i64 b)).run Try.prog w = .ok (a == b) w := run_equalIn_int w d 3 .i64 .i64 a b Try.underlying3
theorem eq_s (d : Nat) (a b : ByteArray) (w : World) : (Op.equalIn (d + 1) 9 (.string a) (.string b)).run Try.prog w = .ok (decide (a = b)) w := by
  rw [run_equalIn_string w d 9 a b Try.underlying9]
  congr 1
  rw [Bool.eq_iff_iff, beq_iff_eq, decide_eq_true_eq, ByteArray.toList_eq, ByteArray.toList_eq]
  exact ⟨fun h => by rw [← str_data a, ← str_data b, h], fun h => by rw [h]⟩
theorem eqFields_cons (d : Nat) (xs ys : Array Value) (f : Field) (fs : List Field) (a b : Value) (q : Bool) (w : World) (hn : (f.name == "_") = false) (h1 : ∀ w, (part f.type xs f.offset).run Try.prog w = .ok a w) (h2 : ∀ w, (part f.type ys f.offset).run Try.prog w = .ok b w) (h3 : ∀ w, (Op.equalIn d f.type a b).run Try.prog w = .ok q w) :
    (Op.eqFields d xs ys (f :: fs)).run Try.prog w = if q then (Op.eqFields d xs ys fs).run Try.prog w else .ok false w := by
  have hne : ¬ f.name = "_" := by simpa using hn
  cases q <;> simp [Op.eqFields, hne, h1, h2, h3]
theorem ec_ext (e : El) (h : e.Ok) : (ec e).toArray.extract 0 (0 + 24) = (bc e.k).toArray ∧ (ec e).toArray[24]? = some e.v := by
  have h1 : (bc e.k).length = 24 := by rw [bc_length, h.len]
  refine ⟨?_, ?_⟩
  · rw [List.extract_toArray, List.extract_eq_take_drop, ec, List.drop_zero, Nat.zero_add, Nat.sub_zero, List.take_append_of_le_length (by omega), List.take_of_length_le (by omega)]
  · rw [List.getElem?_toArray, ec, List.getElem?_append_right (by omega)]
    simp [h1]
theorem part_key (e : El) (h : e.Ok) (w : World) : (part 39 (ec e).toArray 0).run Try.prog w = .ok (kv e.k) w := by
  simp only [part, Sem.run_bind, Try.isAgg39, Try.sizeOf39, Result.andThen_ok, if_true, Sem.run_pure, (ec_ext e h).1]
theorem take_eq_step {α : Type} {l m : List α} {k : Nat} (hk : k < l.length) (hm : k < m.length) (h : l.take k = m.take k) (e : l[k] = m[k]) : l.take (k + 1) = m.take (k + 1) := by
  rw [List.take_succ_eq_append_getElem hk, List.take_succ_eq_append_getElem hm, h, e]
theorem ne_at {α : Type} {l m : List α} {k : Nat} (hk : k < l.length) (hm : k < m.length) (e : ¬ l[k] = m[k]) : ¬ l = m := fun h => e (by subst h; rfl)

theorem fields_P : (Try.prog.fieldsOf 44).toList.map (fun f => (f.name == "_", f.type, f.offset)) = [(false, 39, 0), (false, 9, 24)] := by kernel_rfl
theorem struct_P : Try.prog.underlying 44 = some (.struct (Try.prog.fieldsOf 44)) := by
  unfold Program.fieldsOf
  rw [Try.underlying44]
theorem eq_P (a b : Pr) (ha : a.k.length = 24) (hb : b.k.length = 24) (w : World) : (Op.equalIn 10000 44 (ev a.el) (ev b.el)).run Try.prog w = .ok (decide (a = b)) w := by
  have hp : Try.prog.stoodInHeld 44 = false := by kernel_rfl
  rw [run_equalIn_struct w 9999 44 _ _ struct_P hp]
  have hf := fields_P
  have oa := Pr.ok_el ha
  have ob := Pr.ok_el hb
  generalize (Try.prog.fieldsOf 44).toList = fl at hf ⊢
  rcases fl with _ | ⟨f0, _ | ⟨f1, _ | ⟨f2, fl⟩⟩⟩
  · simp at hf
  · simp at hf
  · simp only [List.map_cons, List.map_nil, List.cons.injEq, Prod.mk.injEq] at hf
    obtain ⟨⟨a1, a2, a3⟩, ⟨b1, b2, b3⟩, _⟩ := hf
    rw [eqFields_cons _ _ _ _ _ (kv a.k) (kv b.k) (a.k == b.k) w a1 (by rw [a2, a3]; exact part_key a.el oa) (by rw [a2, a3]; exact part_key b.el ob) (by rw [a2]; exact fun w => run_equalIn_bytes w 9997 39 5 24 Try.underlying39 Try.underlying5 Try.sizeOf5 a.k b.k ha hb),
      eqFields_cons _ _ _ _ _ (.string a.s) (.string b.s) (decide (a.s = b.s)) w b1 (by rw [b2, b3]; exact part_str _ _ _ (ec_ext a.el oa).2) (by rw [b2, b3]; exact part_str _ _ _ (ec_ext b.el ob).2) (by rw [b2]; exact eq_s 9998 _ _)]
    obtain ⟨ak, av⟩ := a
    obtain ⟨bk, bv⟩ := b
    simp only [Op.eqFields, Sem.run_pure]
    by_cases h1 : ak = bk <;> by_cases h2 : av = bv <;> simp [h1, h2]
  · simp at hf
theorem exec_ne_P {f : Operand → Value} {o : Oper} (x y : Operand) (t' : TypeId) (ho : o.op = .binOp .neq 44 x y t') (a b : Pr) (hx : f x = ev a.el) (hy : f y = ev b.el) (ha : a.k.length = 24) (hb : b.k.length = 24) (w : World) : (execOp f o).run Try.prog w = .ok (.value (.bool (!decide (a = b)))) w := by
  unfold execOp
  rw [ho]
  have hm : Try.prog.eqGuardType Try.prog.depth 44 = false := by kernel_rfl
  simp only [hx, hy, Sem.run_bind, run_eqGuard_agg w .neq 44 x y _ _ hm, run_neq_struct, eq_P a b ha hb w, Result.andThen_ok, Sem.run_pure]

theorem fields_K : (Try.prog.fieldsOf 54).toList.map (fun f => (f.name == "_", f.type, f.offset)) = [(false, 39, 0), (false, 3, 24)] := by kernel_rfl
theorem struct_K : Try.prog.underlying 54 = some (.struct (Try.prog.fieldsOf 54)) := by
  unfold Program.fieldsOf
  rw [Try.underlying54]
theorem eq_K (a b : Kd) (ha : a.k.length = 24) (hb : b.k.length = 24) (w : World) : (Op.equalIn 10000 54 (ev a.el) (ev b.el)).run Try.prog w = .ok (decide (a = b)) w := by
  have hp : Try.prog.stoodInHeld 54 = false := by kernel_rfl
  rw [run_equalIn_struct w 9999 54 _ _ struct_K hp]
  have hf := fields_K
  have oa := Kd.ok_el ha
  have ob := Kd.ok_el hb
  generalize (Try.prog.fieldsOf 54).toList = fl at hf ⊢
  rcases fl with _ | ⟨f0, _ | ⟨f1, _ | ⟨f2, fl⟩⟩⟩
  · simp at hf
  · simp at hf
  · simp only [List.map_cons, List.map_nil, List.cons.injEq, Prod.mk.injEq] at hf
    obtain ⟨⟨a1, a2, a3⟩, ⟨b1, b2, b3⟩, _⟩ := hf
    rw [eqFields_cons _ _ _ _ _ (kv a.k) (kv b.k) (a.k == b.k) w a1 (by rw [a2, a3]; exact part_key a.el oa) (by rw [a2, a3]; exact part_key b.el ob) (by rw [a2]; exact fun w => run_equalIn_bytes w 9997 39 5 24 Try.underlying39 Try.underlying5 Try.sizeOf5 a.k b.k ha hb),
      eqFields_cons _ _ _ _ _ (.int .i64 a.n) (.int .i64 b.n) (a.n == b.n) w b1 (by rw [b2, b3]; exact part_int _ _ _ (ec_ext a.el oa).2) (by rw [b2, b3]; exact part_int _ _ _ (ec_ext b.el ob).2) (by rw [b2]; exact eq_i 9998 _ _)]
    obtain ⟨ak, av⟩ := a
    obtain ⟨bk, bv⟩ := b
    simp only [Op.eqFields, Sem.run_pure]
    by_cases h1 : ak = bk <;> by_cases h2 : av = bv <;> simp [h1, h2]
  · simp at hf
theorem exec_ne_K {f : Operand → Value} {o : Oper} (x y : Operand) (t' : TypeId) (ho : o.op = .binOp .neq 54 x y t') (a b : Kd) (hx : f x = ev a.el) (hy : f y = ev b.el) (ha : a.k.length = 24) (hb : b.k.length = 24) (w : World) : (execOp f o).run Try.prog w = .ok (.value (.bool (!decide (a = b)))) w := by
  unfold execOp
  rw [ho]
  have hm : Try.prog.eqGuardType Try.prog.depth 54 = false := by kernel_rfl
  simp only [hx, hy, Sem.run_bind, run_eqGuard_agg w .neq 54 x y _ _ hm, run_neq_struct, eq_K a b ha hb w, Result.andThen_ok, Sem.run_pure]

/-- What the loops of Same hold. -/
structure SameW (w W : World) (A B : Nod) (pa qa pb qb : Value) : Prop where
  ha : HasN W w.heap.size A pa qa
  hb : HasN W (w.heap.size + 1) B pb qb
  bel : Below w.heap.size w W
theorem SameW.drewN {w W : World} {A B : Nod} {pa qa pb qb : Value} (h : SameW w W A B pa qa pb qb) (n : Nat) : SameW w (W.drewN n) A B pa qa pb qb := ⟨h.ha, h.hb, below_drewN h.bel n⟩
theorem SameW.drew {w W : World} {A B : Nod} {pa qa pb qb : Value} (h : SameW w W A B pa qa pb qb) : SameW w W.drew A B pa qa pb qb := ⟨h.ha, h.hb, below_drewN h.bel 1⟩
theorem els_get {α : Type} {f : α → El} {w : World} {ad : Option Addr} {n c : Nat} {l : List α} (h : Els w (.slice ad n c) (l.map f)) : ∀ i (hi : i < l.length), ∃ g off, ad = some ⟨g, off, none⟩ ∧ g < w.heap.size ∧ w.rangeAt g (off + i * 25) (ec (f l[i])) ∧ (f l[i]).Ok := fun i hi => by
  obtain ⟨r, ⟨ad', cap', e, _, _, hok, hin⟩, _⟩ := h
  cases e
  rcases hin with q | ⟨g, off, h1, _, h2, h3⟩
  · simp at q; subst q; simp at hi
  · exact ⟨g, off, h1, h2, by have := h3 i (by simpa using hi); simpa using this, by have := hok i (by simpa using hi); simpa using this⟩
theorem els_max {α : Type} {f : α → El} {w : World} {ad : Option Addr} {n c : Nat} {l : List α} (h : Els w (.slice ad n c) (l.map f)) : n = l.length ∧ n ≤ maxLen := by
  obtain ⟨r, ⟨ad', cap', e, _, hm, _, _⟩, _⟩ := h
  cases e
  exact ⟨by simp, hm⟩
set_option maxHeartbeats 8000000 in
set_option maxRecDepth 100000 in
theorem same_calls (w : World) (A B : Nod) (pa qa pb qb : Value) (hA : Parts w A pa qa) (hB : Parts w B pb qb) :
    Calls Try.prog 10 #[nv A pa qa, nv B pb qb] w fun e w' => e = .returned (.bool (decide (A = B))) ∧ Below w.heap.size w w' := by
  obtain ⟨aa, ca, rfl⟩ := hA.lenP
  obtain ⟨ba, cka, rfl⟩ := hA.lenQ
  obtain ⟨ab, cb, rfl⟩ := hB.lenP
  obtain ⟨bb, ckb, rfl⟩ := hB.lenQ
  have W0 : SameW w ((w.alloc (.cells (nc A (.slice aa A.ps.length ca) (.slice ba A.ks.length cka)) 25)).alloc (.cells (nc B (.slice ab B.ps.length cb) (.slice bb B.ks.length ckb)) 25)) A B (.slice aa A.ps.length ca) (.slice ba A.ks.length cka) (.slice ab B.ps.length cb) (.slice bb B.ks.length ckb) := ⟨(HasN.new w A _ _ _ rfl rfl rfl).alloc _, HasN.new _ B _ _ _ (by simp) rfl rfl, ((Below.refl _ w).alloc (Nat.le_refl _) _).alloc (by simp) _⟩
  have GA := els_get hA.p
  have GB := els_get hB.p
  have KA := els_get hA.q
  have KB := els_get hB.q
  have M1 := (els_max hA.p).2
  have M2 := (els_max hA.q).2
  have HGA : Hid (∀ i (hi : i < A.ps.length), ∃ g off, aa = some ⟨g, off, none⟩ ∧ g < w.heap.size ∧ w.rangeAt g (off + i * 25) (ec (Pr.el A.ps[i])) ∧ (Pr.el A.ps[i]).Ok) := GA
  have HGB : Hid (∀ i (hi : i < B.ps.length), ∃ g off, ab = some ⟨g, off, none⟩ ∧ g < w.heap.size ∧ w.rangeAt g (off + i * 25) (ec (Pr.el B.ps[i])) ∧ (Pr.el B.ps[i]).Ok) := GB
  have HKA : Hid (∀ i (hi : i < A.ks.length), ∃ g off, ba = some ⟨g, off, none⟩ ∧ g < w.heap.size ∧ w.rangeAt g (off + i * 25) (ec (Kd.el A.ks[i])) ∧ (Kd.el A.ks[i]).Ok) := KA
  have HKB : Hid (∀ i (hi : i < B.ks.length), ∃ g off, bb = some ⟨g, off, none⟩ ∧ g < w.heap.size ∧ w.rangeAt g (off + i * 25) (ec (Kd.el B.ks[i])) ∧ (Kd.el B.ks[i]).Ok) := KB
  clear GA GB KA KB hA hB
  obtain ⟨lv1, ps1, ks1⟩ := A
  obtain ⟨lv2, ps2, ks2⟩ := B
  simp only at W0 HGA HGB HKA HKB M1 M2 ⊢
  have HW1 : Hid (∀ k : Nat, k < ps1.length → wrap64 ((k : Int) + 1) = ((k + 1 : Nat) : Int)) := fun k hk => wrap_succ hk M1
  have HW2 : Hid (∀ k : Nat, k < ks1.length → wrap64 ((k : Int) + 1) = ((k + 1 : Nat) : Int)) := fun k hk => wrap_succ hk M2
  clear M1 M2
  obtain ⟨c0, c1, c2⟩ := W0.ha.cells
  obtain ⟨d0, d1, d2⟩ := W0.hb.cells
  simp only at c0 c1 c2 d0 d1 d2
  have HW0 := W0
  clear W0
  have HB0 : Hid (Below w.heap.size w ((w.alloc (.cells (nc ⟨lv1, ps1, ks1⟩ (.slice aa ps1.length ca) (.slice ba ks1.length cka)) 25)).alloc (.cells (nc ⟨lv2, ps2, ks2⟩ (.slice ab ps2.length cb) (.slice bb ks2.length ckb)) 25))) := HW0.bel
  have HS0 : Hid (SameW w ((w.alloc (.cells (nc ⟨lv1, ps1, ks1⟩ (.slice aa ps1.length ca) (.slice ba ks1.length cka)) 25)).alloc (.cells (nc ⟨lv2, ps2, ks2⟩ (.slice ab ps2.length cb) (.slice bb ks2.length ckb)) 25)) ⟨lv1, ps1, ks1⟩ ⟨lv2, ps2, ks2⟩ (.slice aa ps1.length ca) (.slice ba ks1.length cka) (.slice ab ps2.length cb) (.slice bb ks2.length ckb)) := HW0
  clear HW0
  by_cases q1 : lv1 = lv2
  rotate_left
  · have f : (lv1 == lv2) = false := by simpa using q1
    go_enter Try.func10, Try.ntmps10
    go_wp2_with fail
    go_ret
    exact ⟨by rw [decide_eq_false (fun e => q1 (by cases e; rfl))]; rfl, HB0.out⟩
  subst q1
  by_cases q2 : ps1.length = ps2.length
  rotate_left
  · have f : (((ps1.length : Nat) : Int) == ((ps2.length : Nat) : Int)) = false := by simpa using fun e : ((ps1.length : Nat) : Int) = ((ps2.length : Nat) : Int) => q2 (by omega)
    have f2 : (ps1.length == ps2.length) = false := by simpa using q2
    go_enter Try.func10, Try.ntmps10
    go_wp2_with fail
    go_ret
    exact ⟨by rw [decide_eq_false (fun e => q2 (by cases e; rfl))]; rfl, HB0.out⟩
  have HQ2 : Hid (ps1.length = ps2.length) := q2
  have f3 : (((ps1.length : Nat) : Int) == ((ps2.length : Nat) : Int)) = true := by simp [q2]
  have f4 : (((ps1.length : Nat) : Int) != ((ps2.length : Nat) : Int)) = false := by simp [q2]
  clear q2
  by_cases q3 : ks1.length = ks2.length
  rotate_left
  · have f : (((ks1.length : Nat) : Int) == ((ks2.length : Nat) : Int)) = false := by simpa using fun e : ((ks1.length : Nat) : Int) = ((ks2.length : Nat) : Int) => q3 (by omega)
    have f2 : (ks1.length == ks2.length) = false := by simpa using q3
    go_enter Try.func10, Try.ntmps10
    go_wp2_with fail
    go_ret
    exact ⟨by rw [decide_eq_false (fun e => q3 (by cases e; rfl))]; rfl, HB0.out⟩
  have q2 := HQ2.out
  clear f3 f4 HQ2
  have HD : Hid (decide ((⟨lv1, ps1, ks1⟩ : Nod) = ⟨lv1, ps2, ks2⟩) = (decide (ps1 = ps2) && decide (ks1 = ks2))) := (show _ = _ by simp)
  obtain ⟨N, hN⟩ : ∃ N : Nat, ps1.length = N := ⟨_, rfl⟩
  obtain ⟨M, hM⟩ : ∃ M : Nat, ks1.length = M := ⟨_, rfl⟩
  have n2 : ps2.length = N := by omega
  have m2 : ks2.length = M := by omega
  have HL : Hid (ps1.length = N ∧ ps2.length = N ∧ ks1.length = M ∧ ks2.length = M) := ⟨hN, n2, hM, m2⟩
  rw [hN, n2, hM, m2] at HS0
  rw [hN, n2, hM, m2] at c1 c2 d1 d2 c0 d0
  rw [hN] at HW1
  rw [hM] at HW2
  rw [hN, n2, hM, m2]
  clear HB0 q2 q3 hN hM n2 m2
  go_enter Try.func10, Try.ntmps10
  go_upto_region 4 with fail
  generalize (w.alloc (.cells (nc ⟨lv1, ps1, ks1⟩ (.slice aa N ca) (.slice ba M cka)) 25)).alloc (.cells (nc ⟨lv1, ps2, ks2⟩ (.slice ab N cb) (.slice bb M ckb)) 25) = W at *
  go_loopg [5] N (fun g i wr => ∃ k n : Nat, k + g = N ∧ i = .int .i64 (k : Int) ∧ wr = W.drewN n ∧ Hid (ps1.take k = ps2.take k))
  case atStart => exact ⟨0, 0, by omega, rfl, rfl, (show ps1.take 0 = ps2.take 0 by simp)⟩
  case round =>
    obtain ⟨k, n, hkg, rfl, rfl, HT⟩ := hrel
    have SW := HS0.out.drewN n
    obtain ⟨c0, c1, c2⟩ := SW.ha.cells
    obtain ⟨d0, d1, d2⟩ := SW.hb.cells
    simp only at c0 c1 c2 d0 d1 d2
    cases gk with
    | zero =>
      have hkN : k = N := by omega
      subst hkN
      have HEQP : Hid (ps1 = ps2) := (show _ = _ by
        have := HT.out
        rw [List.take_of_length_le (by have := HL.out.1; omega), List.take_of_length_le (by have := HL.out.2.1; omega)] at this
        exact this)
      go_wp2_with fail
      go_loopg [6] M (fun g i wr => ∃ k n : Nat, k + g = M ∧ i = .int .i64 (k : Int) ∧ wr = W.drewN n ∧ Hid (ks1.take k = ks2.take k))
      case atStart => exact ⟨0, n, by omega, rfl, rfl, (show ks1.take 0 = ks2.take 0 by simp)⟩
      case round =>
        obtain ⟨k, n, hkg, rfl, rfl, HT⟩ := hrel
        have SW := HS0.out.drewN n
        obtain ⟨c0, c1, c2⟩ := SW.ha.cells
        obtain ⟨d0, d1, d2⟩ := SW.hb.cells
        simp only at c0 c1 c2 d0 d1 d2
        cases gk with
        | zero =>
          have hkN : k = M := by omega
          subst hkN
          have HEQK : Hid (ks1 = ks2) := (show _ = _ by
            have := HT.out
            rw [List.take_of_length_le (by have := HL.out.2.2.1; omega), List.take_of_length_le (by have := HL.out.2.2.2; omega)] at this
            exact this)
          have BB : Hid (Below w.heap.size w W) := HS0.out.bel
          go_wp2_with fail
          go_ret
          exact ⟨by rw [HD.out, decide_eq_true HEQP.out, decide_eq_true HEQK.out]; rfl, below_drewN BB.out _⟩
        | succ g =>
          have hlt : k < M := by omega
          have hltI : (k : Int) < (M : Int) := by omega
          have hk0 : (0 : Int) ≤ (k : Int) := by omega
          have hka : k < ks1.length := by have := HL.out.2.2.1; omega
          have hkb : k < ks2.length := by have := HL.out.2.2.2; omega
          obtain ⟨ga, oa, rfl, gla, hat, okA⟩ := HKA.out k hka
          obtain ⟨gb, ob, rfl, glb, hbt, okB⟩ := HKB.out k hkb
          have HS : Hid (ks1[k] = ks2[k] → ks1.take (k + 1) = ks2.take (k + 1)) := fun e => take_eq_step hka hkb HT.out e
          have HNE : Hid (¬ ks1[k] = ks2[k] → ¬ ks1 = ks2) := fun e => ne_at hka hkb e
          have rA : (W.drewN n).drew.rangeAt ga (oa + k * 25) (ec (Kd.el ks1[k])) := range_same hat (HS0.out.bel.block ga gla)
          have rB : (W.drewN n).drew.rangeAt gb (ob + k * 25) (ec (Kd.el ks2[k])) := range_same hbt (HS0.out.bel.block gb glb)
          have cA : (W.drewN n).drew.cell? ⟨w.heap.size, 2, none⟩ = some (.slice (some ⟨ga, oa, none⟩) M cka) := SW.drew.ha.cells.2.2
          have cB : (W.drewN n).drew.cell? ⟨w.heap.size + 1, 2, none⟩ = some (.slice (some ⟨gb, ob, none⟩) M ckb) := SW.drew.hb.cells.2.2
          clear hat hbt
          generalize ks1[k] = s at *
          generalize ks2[k] = t at *
          have hiA : (Try.prog.info? 54).map (·.size) = some (ec (Kd.el s)).length := by rw [ec_length okA]; exact Try.info_K
          have hiB : (Try.prog.info? 54).map (·.size) = some (ec (Kd.el t)).length := by rw [ec_length okB]; exact Try.info_K
          have BB : Hid (Below w.heap.size w W) := HS0.out.bel
          go_upto_region 11 with fail
          refine wp_region_noPanic ?_
          refine wp_region_held_drew (S := (fun yy => (yy.cell? ⟨w.heap.size, 2, none⟩ = some (.slice (some ⟨ga, oa, none⟩) M cka) ∧ yy.cell? ⟨w.heap.size + 1, 2, none⟩ = some (.slice (some ⟨gb, ob, none⟩) M ckb)) ∧ yy.rangeAt ga (oa + k * 25) (ec (Kd.el s)) ∧ yy.rangeAt gb (ob + k * 25) (ec (Kd.el t)))) (by kernel_rfl) ⟨⟨cA, cB⟩, rA, rB⟩ (fun hHeld => ?_)
          refine wpAnyH_take (i := 0) (v := ?_) rfl (by kernel_rfl) (by kernel_rfl) (by kernel_rfl) (fun _ _ _ h => h) (Or.inl ⟨by rfl, ?_⟩) hHeld ?_
          case refine_2 => (intro w hSw; (try dsimp only at hSw); obtain ⟨⟨z1, z2⟩, z3, z4⟩ := hSw; go_simp; try (with_reducible rfl))
          ((try simp only); (try simp only [List.getElem_toArray]); (try simp only [List.getElem_cons_succ]); (try simp only [List.getElem_cons_zero]); (try simp only [Act.put]); (try simp only [List.setIfInBounds_toArray]); (try simp only [List.set_cons_succ]); (try simp only [List.set_cons_zero]))
          refine wpAnyH_take (i := 1) (v := ?_) rfl (by kernel_rfl) (by kernel_rfl) (by kernel_rfl) (fun _ _ _ h => h) (Or.inl ⟨by rfl, ?_⟩) hHeld ?_
          case refine_2 => (intro w hSw; (try dsimp only at hSw); obtain ⟨⟨z1, z2⟩, z3, z4⟩ := hSw; go_simp; try (with_reducible rfl))
          ((try simp only); (try simp only [List.getElem_toArray]); (try simp only [List.getElem_cons_succ]); (try simp only [List.getElem_cons_zero]); (try simp only [Act.put]); (try simp only [List.setIfInBounds_toArray]); (try simp only [List.set_cons_succ]); (try simp only [List.set_cons_zero]))
          refine wpAnyH_take (i := 2) (v := ?_) rfl (by kernel_rfl) (by kernel_rfl) (by kernel_rfl) (fun _ _ _ h => h) (Or.inl ⟨by rfl, ?_⟩) hHeld ?_
          case refine_2 => (intro w hSw; (try dsimp only at hSw); obtain ⟨⟨z1, z2⟩, z3, z4⟩ := hSw; go_simp; try (with_reducible rfl))
          ((try simp only); (try simp only [List.getElem_toArray]); (try simp only [List.getElem_cons_succ]); (try simp only [List.getElem_cons_zero]); (try simp only [Act.put]); (try simp only [List.setIfInBounds_toArray]); (try simp only [List.set_cons_succ]); (try simp only [List.set_cons_zero]))
          refine wpAnyH_take (i := 3) (v := ?_) rfl (by kernel_rfl) (by kernel_rfl) (by kernel_rfl) (fun _ _ _ h => h) (Or.inl ⟨by rfl, ?_⟩) hHeld ?_
          case refine_2 => (intro w hSw; (try dsimp only at hSw); obtain ⟨⟨z1, z2⟩, z3, z4⟩ := hSw; go_simp; try (with_reducible rfl))
          ((try simp only); (try simp only [List.getElem_toArray]); (try simp only [List.getElem_cons_succ]); (try simp only [List.getElem_cons_zero]); (try simp only [Act.put]); (try simp only [List.setIfInBounds_toArray]); (try simp only [List.set_cons_succ]); (try simp only [List.set_cons_zero]))
          refine wpAnyH_take (i := 4) rfl (by kernel_rfl) (by kernel_rfl) (by kernel_rfl) (fun _ _ _ h => h) (yieldsIf_load_mid (by rfl) _ _ rfl ga (oa + k * 25) rfl _ _ (fun _ h => h.2.1) Try.underlying54 rfl hiA) hHeld ?_
          ((try simp only); (try simp only [List.getElem_toArray]); (try simp only [List.getElem_cons_succ]); (try simp only [List.getElem_cons_zero]); (try simp only [Act.put]); (try simp only [List.setIfInBounds_toArray]); (try simp only [List.set_cons_succ]); (try simp only [List.set_cons_zero]))
          refine wpAnyH_take (i := 5) (v := ?_) rfl (by kernel_rfl) (by kernel_rfl) (by kernel_rfl) (fun _ _ _ h => h) (Or.inl ⟨by rfl, ?_⟩) hHeld ?_
          case refine_2 => (intro w hSw; (try dsimp only at hSw); obtain ⟨⟨z1, z2⟩, z3, z4⟩ := hSw; go_simp; try (with_reducible rfl))
          ((try simp only); (try simp only [List.getElem_toArray]); (try simp only [List.getElem_cons_succ]); (try simp only [List.getElem_cons_zero]); (try simp only [Act.put]); (try simp only [List.setIfInBounds_toArray]); (try simp only [List.set_cons_succ]); (try simp only [List.set_cons_zero]))
          refine wpAnyH_take (i := 6) (v := ?_) rfl (by kernel_rfl) (by kernel_rfl) (by kernel_rfl) (fun _ _ _ h => h) (Or.inl ⟨by rfl, ?_⟩) hHeld ?_
          case refine_2 => (intro w hSw; (try dsimp only at hSw); obtain ⟨⟨z1, z2⟩, z3, z4⟩ := hSw; go_simp; try (with_reducible rfl))
          ((try simp only); (try simp only [List.getElem_toArray]); (try simp only [List.getElem_cons_succ]); (try simp only [List.getElem_cons_zero]); (try simp only [Act.put]); (try simp only [List.setIfInBounds_toArray]); (try simp only [List.set_cons_succ]); (try simp only [List.set_cons_zero]))
          refine wpAnyH_take (i := 7) (v := ?_) rfl (by kernel_rfl) (by kernel_rfl) (by kernel_rfl) (fun _ _ _ h => h) (Or.inl ⟨by rfl, ?_⟩) hHeld ?_
          case refine_2 => (intro w hSw; (try dsimp only at hSw); obtain ⟨⟨z1, z2⟩, z3, z4⟩ := hSw; go_simp; try (with_reducible rfl))
          ((try simp only); (try simp only [List.getElem_toArray]); (try simp only [List.getElem_cons_succ]); (try simp only [List.getElem_cons_zero]); (try simp only [Act.put]); (try simp only [List.setIfInBounds_toArray]); (try simp only [List.set_cons_succ]); (try simp only [List.set_cons_zero]))
          refine wpAnyH_take (i := 8) (v := ?_) rfl (by kernel_rfl) (by kernel_rfl) (by kernel_rfl) (fun _ _ _ h => h) (Or.inl ⟨by rfl, ?_⟩) hHeld ?_
          case refine_2 => (intro w hSw; (try dsimp only at hSw); obtain ⟨⟨z1, z2⟩, z3, z4⟩ := hSw; go_simp; try (with_reducible rfl))
          ((try simp only); (try simp only [List.getElem_toArray]); (try simp only [List.getElem_cons_succ]); (try simp only [List.getElem_cons_zero]); (try simp only [Act.put]); (try simp only [List.setIfInBounds_toArray]); (try simp only [List.set_cons_succ]); (try simp only [List.set_cons_zero]))
          refine wpAnyH_take (i := 9) rfl (by kernel_rfl) (by kernel_rfl) (by kernel_rfl) (fun _ _ _ h => h) (yieldsIf_load_mid (by rfl) _ _ rfl gb (ob + k * 25) rfl _ _ (fun _ h => h.2.2) Try.underlying54 rfl hiB) hHeld ?_
          ((try simp only); (try simp only [List.getElem_toArray]); (try simp only [List.getElem_cons_succ]); (try simp only [List.getElem_cons_zero]); (try simp only [Act.put]); (try simp only [List.setIfInBounds_toArray]); (try simp only [List.set_cons_succ]); (try simp only [List.set_cons_zero]))
          refine wpAnyH_take (i := 10) (v := .bool (!decide (s = t))) rfl (by kernel_rfl) (by kernel_rfl) (by kernel_rfl) (fun _ _ _ h => h) (Or.inl ⟨by rfl, fun w _ => exec_ne_K _ _ _ rfl s t rfl rfl okA.len okB.len w⟩) hHeld ?_
          ((try simp only); (try simp only [List.getElem_toArray]); (try simp only [List.getElem_cons_succ]); (try simp only [List.getElem_cons_zero]); (try simp only [Act.put]); (try simp only [List.setIfInBounds_toArray]); (try simp only [List.set_cons_succ]); (try simp only [List.set_cons_zero]))
          refine wpAnyH_done (by kernel_rfl) ?_ _
          refine NoPanic.normal ?_
          have HKS : Hid (wrap64 ((k : Int) + 1) = ((k + 1 : Nat) : Int)) := HW2.out k hlt
          by_cases hst : s = t
          · have e : decide (s = t) = true := decide_eq_true hst
            have HST : Hid (s = t) := hst
            clear hst
            rw [e]
            go_wp2_with fail
            go_roundg g
            case measure => omega
            case rel => exact ⟨k + 1, n + 1, by omega, congrArg (Value.int .i64) HKS.out, rfl, HS.out HST.out⟩
          · have e : decide (s = t) = false := decide_eq_false hst
            have HST : Hid (¬ s = t) := hst
            clear hst
            rw [e]
            go_wp2_with fail
            go_ret
            exact ⟨by rw [HD.out, decide_eq_false (HNE.out HST.out)]; simp, below_drewN (below_drewN BB.out n) 1⟩
    | succ g =>
      have hlt : k < N := by omega
      have hltI : (k : Int) < (N : Int) := by omega
      have hk0 : (0 : Int) ≤ (k : Int) := by omega
      have hka : k < ps1.length := by have := HL.out.1; omega
      have hkb : k < ps2.length := by have := HL.out.2.1; omega
      obtain ⟨ga, oa, rfl, gla, hat, okA⟩ := HGA.out k hka
      obtain ⟨gb, ob, rfl, glb, hbt, okB⟩ := HGB.out k hkb
      have HS : Hid (ps1[k] = ps2[k] → ps1.take (k + 1) = ps2.take (k + 1)) := fun e => take_eq_step hka hkb HT.out e
      have HNE : Hid (¬ ps1[k] = ps2[k] → ¬ ps1 = ps2) := fun e => ne_at hka hkb e
      have rA : (W.drewN n).drew.rangeAt ga (oa + k * 25) (ec (Pr.el ps1[k])) := range_same hat (HS0.out.bel.block ga gla)
      have rB : (W.drewN n).drew.rangeAt gb (ob + k * 25) (ec (Pr.el ps2[k])) := range_same hbt (HS0.out.bel.block gb glb)
      have cA : (W.drewN n).drew.cell? ⟨w.heap.size, 1, none⟩ = some (.slice (some ⟨ga, oa, none⟩) N ca) := SW.drew.ha.cells.2.1
      have cB : (W.drewN n).drew.cell? ⟨w.heap.size + 1, 1, none⟩ = some (.slice (some ⟨gb, ob, none⟩) N cb) := SW.drew.hb.cells.2.1
      clear hat hbt
      generalize ps1[k] = s at *
      generalize ps2[k] = t at *
      have hiA : (Try.prog.info? 44).map (·.size) = some (ec (Pr.el s)).length := by rw [ec_length okA]; exact Try.info_P
      have hiB : (Try.prog.info? 44).map (·.size) = some (ec (Pr.el t)).length := by rw [ec_length okB]; exact Try.info_P
      have BB : Hid (Below w.heap.size w W) := HS0.out.bel
      go_upto_region 6 with fail
      refine wp_region_noPanic ?_
      refine wp_region_held_drew (S := (fun yy => (yy.cell? ⟨w.heap.size, 1, none⟩ = some (.slice (some ⟨ga, oa, none⟩) N ca) ∧ yy.cell? ⟨w.heap.size + 1, 1, none⟩ = some (.slice (some ⟨gb, ob, none⟩) N cb)) ∧ yy.rangeAt ga (oa + k * 25) (ec (Pr.el s)) ∧ yy.rangeAt gb (ob + k * 25) (ec (Pr.el t)))) (by kernel_rfl) ⟨⟨cA, cB⟩, rA, rB⟩ (fun hHeld => ?_)
      refine wpAnyH_take (i := 0) (v := ?_) rfl (by kernel_rfl) (by kernel_rfl) (by kernel_rfl) (fun _ _ _ h => h) (Or.inl ⟨by rfl, ?_⟩) hHeld ?_
      case refine_2 => (intro w hSw; (try dsimp only at hSw); obtain ⟨⟨z1, z2⟩, z3, z4⟩ := hSw; go_simp; try (with_reducible rfl))
      ((try simp only); (try simp only [List.getElem_toArray]); (try simp only [List.getElem_cons_succ]); (try simp only [List.getElem_cons_zero]); (try simp only [Act.put]); (try simp only [List.setIfInBounds_toArray]); (try simp only [List.set_cons_succ]); (try simp only [List.set_cons_zero]))
      refine wpAnyH_take (i := 1) (v := ?_) rfl (by kernel_rfl) (by kernel_rfl) (by kernel_rfl) (fun _ _ _ h => h) (Or.inl ⟨by rfl, ?_⟩) hHeld ?_
      case refine_2 => (intro w hSw; (try dsimp only at hSw); obtain ⟨⟨z1, z2⟩, z3, z4⟩ := hSw; go_simp; try (with_reducible rfl))
      ((try simp only); (try simp only [List.getElem_toArray]); (try simp only [List.getElem_cons_succ]); (try simp only [List.getElem_cons_zero]); (try simp only [Act.put]); (try simp only [List.setIfInBounds_toArray]); (try simp only [List.set_cons_succ]); (try simp only [List.set_cons_zero]))
      refine wpAnyH_take (i := 2) (v := ?_) rfl (by kernel_rfl) (by kernel_rfl) (by kernel_rfl) (fun _ _ _ h => h) (Or.inl ⟨by rfl, ?_⟩) hHeld ?_
      case refine_2 => (intro w hSw; (try dsimp only at hSw); obtain ⟨⟨z1, z2⟩, z3, z4⟩ := hSw; go_simp; try (with_reducible rfl))
      ((try simp only); (try simp only [List.getElem_toArray]); (try simp only [List.getElem_cons_succ]); (try simp only [List.getElem_cons_zero]); (try simp only [Act.put]); (try simp only [List.setIfInBounds_toArray]); (try simp only [List.set_cons_succ]); (try simp only [List.set_cons_zero]))
      refine wpAnyH_take (i := 3) (v := ?_) rfl (by kernel_rfl) (by kernel_rfl) (by kernel_rfl) (fun _ _ _ h => h) (Or.inl ⟨by rfl, ?_⟩) hHeld ?_
      case refine_2 => (intro w hSw; (try dsimp only at hSw); obtain ⟨⟨z1, z2⟩, z3, z4⟩ := hSw; go_simp; try (with_reducible rfl))
      ((try simp only); (try simp only [List.getElem_toArray]); (try simp only [List.getElem_cons_succ]); (try simp only [List.getElem_cons_zero]); (try simp only [Act.put]); (try simp only [List.setIfInBounds_toArray]); (try simp only [List.set_cons_succ]); (try simp only [List.set_cons_zero]))
      refine wpAnyH_take (i := 4) rfl (by kernel_rfl) (by kernel_rfl) (by kernel_rfl) (fun _ _ _ h => h) (yieldsIf_load_mid (by rfl) _ _ rfl ga (oa + k * 25) rfl _ _ (fun _ h => h.2.1) Try.underlying44 rfl hiA) hHeld ?_
      ((try simp only); (try simp only [List.getElem_toArray]); (try simp only [List.getElem_cons_succ]); (try simp only [List.getElem_cons_zero]); (try simp only [Act.put]); (try simp only [List.setIfInBounds_toArray]); (try simp only [List.set_cons_succ]); (try simp only [List.set_cons_zero]))
      refine wpAnyH_take (i := 5) (v := ?_) rfl (by kernel_rfl) (by kernel_rfl) (by kernel_rfl) (fun _ _ _ h => h) (Or.inl ⟨by rfl, ?_⟩) hHeld ?_
      case refine_2 => (intro w hSw; (try dsimp only at hSw); obtain ⟨⟨z1, z2⟩, z3, z4⟩ := hSw; go_simp; try (with_reducible rfl))
      ((try simp only); (try simp only [List.getElem_toArray]); (try simp only [List.getElem_cons_succ]); (try simp only [List.getElem_cons_zero]); (try simp only [Act.put]); (try simp only [List.setIfInBounds_toArray]); (try simp only [List.set_cons_succ]); (try simp only [List.set_cons_zero]))
      refine wpAnyH_take (i := 6) (v := ?_) rfl (by kernel_rfl) (by kernel_rfl) (by kernel_rfl) (fun _ _ _ h => h) (Or.inl ⟨by rfl, ?_⟩) hHeld ?_
      case refine_2 => (intro w hSw; (try dsimp only at hSw); obtain ⟨⟨z1, z2⟩, z3, z4⟩ := hSw; go_simp; try (with_reducible rfl))
      ((try simp only); (try simp only [List.getElem_toArray]); (try simp only [List.getElem_cons_succ]); (try simp only [List.getElem_cons_zero]); (try simp only [Act.put]); (try simp only [List.setIfInBounds_toArray]); (try simp only [List.set_cons_succ]); (try simp only [List.set_cons_zero]))
      refine wpAnyH_take (i := 7) (v := ?_) rfl (by kernel_rfl) (by kernel_rfl) (by kernel_rfl) (fun _ _ _ h => h) (Or.inl ⟨by rfl, ?_⟩) hHeld ?_
      case refine_2 => (intro w hSw; (try dsimp only at hSw); obtain ⟨⟨z1, z2⟩, z3, z4⟩ := hSw; go_simp; try (with_reducible rfl))
      ((try simp only); (try simp only [List.getElem_toArray]); (try simp only [List.getElem_cons_succ]); (try simp only [List.getElem_cons_zero]); (try simp only [Act.put]); (try simp only [List.setIfInBounds_toArray]); (try simp only [List.set_cons_succ]); (try simp only [List.set_cons_zero]))
      refine wpAnyH_take (i := 8) (v := ?_) rfl (by kernel_rfl) (by kernel_rfl) (by kernel_rfl) (fun _ _ _ h => h) (Or.inl ⟨by rfl, ?_⟩) hHeld ?_
      case refine_2 => (intro w hSw; (try dsimp only at hSw); obtain ⟨⟨z1, z2⟩, z3, z4⟩ := hSw; go_simp; try (with_reducible rfl))
      ((try simp only); (try simp only [List.getElem_toArray]); (try simp only [List.getElem_cons_succ]); (try simp only [List.getElem_cons_zero]); (try simp only [Act.put]); (try simp only [List.setIfInBounds_toArray]); (try simp only [List.set_cons_succ]); (try simp only [List.set_cons_zero]))
      refine wpAnyH_take (i := 9) rfl (by kernel_rfl) (by kernel_rfl) (by kernel_rfl) (fun _ _ _ h => h) (yieldsIf_load_mid (by rfl) _ _ rfl gb (ob + k * 25) rfl _ _ (fun _ h => h.2.2) Try.underlying44 rfl hiB) hHeld ?_
      ((try simp only); (try simp only [List.getElem_toArray]); (try simp only [List.getElem_cons_succ]); (try simp only [List.getElem_cons_zero]); (try simp only [Act.put]); (try simp only [List.setIfInBounds_toArray]); (try simp only [List.set_cons_succ]); (try simp only [List.set_cons_zero]))
      refine wpAnyH_take (i := 10) (v := .bool (!decide (s = t))) rfl (by kernel_rfl) (by kernel_rfl) (by kernel_rfl) (fun _ _ _ h => h) (Or.inl ⟨by rfl, fun w _ => exec_ne_P _ _ _ rfl s t rfl rfl okA.len okB.len w⟩) hHeld ?_
      ((try simp only); (try simp only [List.getElem_toArray]); (try simp only [List.getElem_cons_succ]); (try simp only [List.getElem_cons_zero]); (try simp only [Act.put]); (try simp only [List.setIfInBounds_toArray]); (try simp only [List.set_cons_succ]); (try simp only [List.set_cons_zero]))
      refine wpAnyH_done (by kernel_rfl) ?_ _
      refine NoPanic.normal ?_
      have HKS : Hid (wrap64 ((k : Int) + 1) = ((k + 1 : Nat) : Int)) := HW1.out k hlt
      by_cases hst : s = t
      · have e : decide (s = t) = true := decide_eq_true hst
        have HST : Hid (s = t) := hst
        clear hst
        rw [e]
        go_wp2_with fail
        go_roundg g
        case measure => omega
        case rel => exact ⟨k + 1, n + 1, by omega, congrArg (Value.int .i64) HKS.out, rfl, HS.out HST.out⟩
      · have e : decide (s = t) = false := decide_eq_false hst
        have HST : Hid (¬ s = t) := hst
        clear hst
        rw [e]
        go_wp2_with fail
        go_ret
        exact ⟨by rw [HD.out, decide_eq_false (HNE.out HST.out)]; rfl, below_drewN (below_drewN BB.out n) 1⟩
end Go.Proofs.Ytggbnacpgkbieaa
