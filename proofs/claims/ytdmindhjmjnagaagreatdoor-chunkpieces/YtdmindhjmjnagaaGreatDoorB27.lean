import Derived.Test.YtdmindhjmjnagaaGreatDoorSi
import Derived.Test.YtdmindhjmjnagaaGreatDoorB26
/- Clean, Both, Less, Touch; spans held against one another; are two lists the same? -/
namespace Go.Proofs.YtdmindhjmjnagaaGreatDoor
set_option linter.unusedVariables false
set_option maxRecDepth 100000
open Go.RowKit

/-- What a call that tells a set comes to. -/
def SetTo (w : World) (g : Int → Bool) (n : Nat) (e : Ending) (w' : World) : Prop := ∃ v R, e = .returned v ∧ Own encS 56 w' w.heap.size v R ∧ Below w.heap.size w w' ∧ Is R g ∧ R.length ≤ n
set_option maxHeartbeats 1000000 in
theorem clean_calls (w : World) (u : Value) (a : List Sp) (h : Sl encS w u a) (hl : a.length ≤ 100000) : Calls Tryz.prog 50 #[u] w (SetTo w (mem a) (2 * a.length)) := by
  have hS := sweep_calls 94 (fun x _ => x) rfl (enters_of Tryz.func94 (by kernel_rfl) rfl) (fun W x y => clean1_calls W x y) w u (.slice none 0 0) a [] h (SlB.nil _ _ _) (by simpa using hl)
  clear h
  go_enter Tryz.func50, Tryz.ntmps50
  go_wp2_with (go_at_call 93; refine hS.mono ?_; rintro e w' ⟨v, R, rfl, o, b, i, l⟩)
  go_ret
  exact ⟨v, R, rfl, o, b, i, by simpa using l⟩
/-- Do they touch? -/
def touchP (a b : List Sp) (t : Bool) : Prop := (t = true → ∃ K : List UInt8, K.length = 24 ∧ mem a (num K) = true ∧ mem b (num K) = true) ∧ (t = false → ∀ K : List UInt8, K.length = 24 → mem a (num K) = true → mem b (num K) = true → False)
theorem touch_of {a b R : List Sp} (h : Is R (fun x => mem a x && mem b x)) : touchP a b (decide (0 < R.length)) := by
  constructor
  · intro ht
    have : R ≠ [] := fun e => by subst e; simp at ht
    obtain ⟨K, hK, hm⟩ := h.some this
    simp only [Bool.and_eq_true] at hm
    exact ⟨K, hK, hm⟩
  · intro ht K hK h1 h2
    have : R = [] := by simpa using ht
    subst this
    have := h.2 K hK
    simp [h1, h2, mem_nil] at this

/-! Spans held against one another. -/
def eqSp (s u : Sp) : Bool := (s.F == u.F) && ((s.T == u.T) && (s.e == u.e))
theorem eqSp_iff (s u : Sp) : eqSp s u = true ↔ s = u := by
  constructor
  · intro h
    simp only [eqSp, Bool.and_eq_true, beq_iff_eq] at h
    exact Sp.ext' h.1 h.2.1 h.2.2
  · rintro rfl
    simp [eqSp]
instance : DecidableEq Sp := fun s u => decidable_of_iff _ (eqSp_iff s u)
theorem eqSp_dec (s u : Sp) : eqSp s u = decide (s = u) := by rw [Bool.eq_iff_iff, eqSp_iff]; simp
theorem sc_ext (F T : List UInt8) (e : Bool) (hF : F.length = 24) (hT : T.length = 24) : (sc F T e).toArray.extract 0 (0 + 24) = (bc F).toArray ∧ (sc F T e).toArray.extract 24 (24 + 24) = (bc T).toArray ∧ (sc F T e).toArray[48]? = some (.bool e) := by
  have h1 : (bc F).length = 24 := by rw [bc_length, hF]
  have h2 : (bc T).length = 24 := by rw [bc_length, hT]
  refine ⟨?_, ?_, ?_⟩
  · rw [List.extract_toArray, List.extract_eq_take_drop, sc, List.append_assoc, List.drop_zero, Nat.zero_add, Nat.sub_zero, List.take_append_of_le_length (by omega), List.take_of_length_le (by omega)]
  · rw [List.extract_toArray, List.extract_eq_take_drop, sc, List.append_assoc, List.drop_append_of_le_length (by omega), List.drop_of_length_le (by omega), List.nil_append, Nat.add_sub_cancel, List.take_append_of_le_length (by omega), List.take_of_length_le (by omega)]
  · rw [List.getElem?_toArray, sc, List.getElem?_append_right (by simp; omega)]
    simp [h1, h2]
theorem eq_sp (w : World) (s u : Sp) : (Op.equalIn 10000 56 (spv s) (spv u)).run Tryz.prog w = .ok (decide (s = u)) w := by
  rw [← eqSp_dec]
  have hf : (Tryz.prog.fieldsOf 56).toList.map (fun f => (f.name, f.type, f.offset)) = [("From", 54, 0), ("To", 54, 24), ("End", 4, 48)] := by kernel_rfl
  have hp : Tryz.prog.stoodInHeld 56 = false := by kernel_rfl
  have hu : Tryz.prog.underlying 56 = some (.struct (Tryz.prog.fieldsOf 56)) := by
    unfold Program.fieldsOf
    rw [Tryz.underlying56]
  rw [run_equalIn_struct w 9999 56 _ _ hu hp]
  generalize (Tryz.prog.fieldsOf 56).toList = fl at hf ⊢
  rcases fl with _ | ⟨a, _ | ⟨b, _ | ⟨c, _ | ⟨d, fl⟩⟩⟩⟩
  · simp at hf
  · simp at hf
  · simp at hf
  · simp only [List.map_cons, List.map_nil, List.cons.injEq, Prod.mk.injEq] at hf
    obtain ⟨⟨a1, a2, a3⟩, ⟨b1, b2, b3⟩, ⟨c1, c2, c3⟩, _⟩ := hf
    have p1 : ∀ (s : Sp) w, (part 54 (sc s.F s.T s.e).toArray 0).run Tryz.prog w = .ok (kv s.F) w := fun s w => by
      simp only [part, Sem.run_bind, Tryz.isAgg54, Tryz.sizeOf54, Result.andThen_ok, if_true, Sem.run_pure, (sc_ext s.F s.T s.e s.hF s.hT).1]
    have p2 : ∀ (s : Sp) w, (part 54 (sc s.F s.T s.e).toArray 24).run Tryz.prog w = .ok (kv s.T) w := fun s w => by
      simp only [part, Sem.run_bind, Tryz.isAgg54, Tryz.sizeOf54, Result.andThen_ok, if_true, Sem.run_pure, (sc_ext s.F s.T s.e s.hF s.hT).2.1]
    have p3 : ∀ (s : Sp) w, (part 4 (sc s.F s.T s.e).toArray 48).run Tryz.prog w = .ok (.bool s.e) w := fun s w => by
      simp only [part, Sem.run_bind, Tryz.isAgg4, Result.andThen_ok, (sc_ext s.F s.T s.e s.hF s.hT).2.2]
      simp
    have q1 : ∀ K L : List UInt8, K.length = 24 → L.length = 24 → ∀ w, (Op.equalIn 9999 54 (kv K) (kv L)).run Tryz.prog w = .ok (K == L) w := fun K L hK hL w =>
      run_equalIn_bytes (P := Tryz.prog) w 9997 54 5 24 Tryz.underlying54 Tryz.underlying5 Tryz.sizeOf5 K L hK hL
    have q3 : ∀ (x y : Bool) w, (Op.equalIn 9999 4 (.bool x) (.bool y)).run Tryz.prog w = .ok (x == y) w := fun x y w => by
      rw [run_equalIn_bool' w 9998 4 x y Tryz.underlying4]
    simp only [Op.eqFields, a1, a2, a3, b1, b2, b3, c1, c2, c3, Sem.run_bind, p1, p2, p3, q1 s.F u.F s.hF u.hF, q1 s.T u.T s.hT u.hT, q3, Result.andThen_ok, Sem.run_ite, Sem.run_pure]
    unfold eqSp
    generalize (s.F == u.F) = x
    generalize (s.T == u.T) = y
    generalize (s.e == u.e) = z
    cases x <;> cases y <;> cases z <;> simp
  · simp at hf
theorem exec_eq_sp {ρ : Operand → Value} {o : Oper} (x y : Operand) (t' : TypeId) (ho : o.op = .binOp .eql 56 x y t') (s u : Sp) (hx : ρ x = spv s) (hy : ρ y = spv u) (w : World) : (execOp ρ o).run Tryz.prog w = .ok (.value (.bool (decide (s = u)))) w := by
  unfold execOp
  rw [ho]
  have hm : Tryz.prog.eqGuardType Tryz.prog.depth 56 = false := by kernel_rfl
  simp only [hx, hy, Sem.run_bind, run_eqGuard_agg w .eql 56 x y _ _ hm, run_eql_struct, eq_sp w s u, Result.andThen_ok, Sem.run_pure]
theorem exec_ne_sp {ρ : Operand → Value} {o : Oper} (x y : Operand) (t' : TypeId) (ho : o.op = .binOp .neq 56 x y t') (s u : Sp) (hx : ρ x = spv s) (hy : ρ y = spv u) (w : World) : (execOp ρ o).run Tryz.prog w = .ok (.value (.bool (!decide (s = u)))) w := by
  unfold execOp
  rw [ho]
  have hm : Tryz.prog.eqGuardType Tryz.prog.depth 56 = false := by kernel_rfl
  simp only [hx, hy, Sem.run_bind, run_eqGuard_agg w .neq 56 x y _ _ hm, run_neq_struct, eq_sp w s u, Result.andThen_ok, Sem.run_pure]
theorem take_eq_next {α : Type} {l m : List α} {k : Nat} (hk : k < l.length) (hm : k < m.length) (h : l.take k = m.take k) (e : l[k] = m[k]) : l.take (k + 1) = m.take (k + 1) := by
  rw [List.take_succ_eq_append_getElem hk, List.take_succ_eq_append_getElem hm, h, e]
set_option maxRecDepth 100000 in
set_option maxHeartbeats 8000000 in
theorem same_calls (w : World) (u u' : Value) (a b : List Sp) (h : Sl encS w u a) (h' : Sl encS w u' b) : Calls Tryz.prog 20 #[u, u'] w fun e w' => e = .returned (.bool (decide (a = b))) ∧ Below w.heap.size w w' := by
  have HA : Hid (Sl encS w u a) := h
  have HB : Hid (Sl encS w u' b) := h'
  obtain ⟨ad, cap, rfl, hcap, hmax, q1, q2⟩ := h
  obtain ⟨ad', cap', rfl, hcap', hmax', q3, q4⟩ := h'
  clear q1 q2 q3 q4
  by_cases hl : a.length = b.length
  rotate_left
  · have f : (((a.length : Nat) : Int) == ((b.length : Nat) : Int)) = false := by simpa using fun e : ((a.length : Nat) : Int) = ((b.length : Nat) : Int) => hl (by omega)
    have f2 : (a.length == b.length) = false := by simpa using hl
    go_enter Tryz.func20, Tryz.ntmps20
    go_wp2_with fail
    go_ret
    exact ⟨by rw [decide_eq_false (fun e => hl (by rw [e]))]; rfl, Below.refl _ _⟩
  have HGA : Hid (∀ i (hi : i < a.length), ∃ g off, ad = some ⟨g, off, none⟩ ∧ g < w.heap.size ∧ w.rangeAt g (off + i * 49) (encS.c a[i])) := fun i hi => SlB.at HA.out i hi
  have HGB : Hid (∀ i (hi : i < b.length), ∃ g off, ad' = some ⟨g, off, none⟩ ∧ g < w.heap.size ∧ w.rangeAt g (off + i * 49) (encS.c b[i])) := fun i hi => SlB.at HB.out i hi
  obtain ⟨N, hN⟩ : ∃ N : Nat, N = a.length := ⟨_, rfl⟩
  have HN : Hid (N = a.length ∧ N = b.length) := ⟨hN, by omega⟩
  have hNb : b.length = N := by omega
  rw [← hN] at hcap hmax ⊢
  rw [hNb] at hcap' ⊢
  clear hNb
  have HM : Hid (∀ k : Nat, k < N → wrap64 ((k : Int) + 1) = ((k + 1 : Nat) : Int)) := fun k hk => wrap_next hk hmax
  clear hN hl HA HB hmax hmax'
  go_enter Tryz.func20, Tryz.ntmps20
  go_wp2_with fail
  go_loopg [5] N (fun gg i wr => ∃ k n : Nat, k + gg = N ∧ i = .int .i64 (k : Int) ∧ wr = w.drewN n ∧ Hid (a.take k = b.take k))
  case atStart => exact ⟨0, 0, by omega, rfl, rfl, (show a.take 0 = b.take 0 by simp)⟩
  case round =>
    obtain ⟨k, n, hkg, rfl, rfl, HT⟩ := hrel
    cases gk with
    | zero =>
      have hkN : k = N := by omega
      subst hkN
      go_wp2_with fail
      go_ret
      refine ⟨?_, below_drewN (Below.refl _ _) n⟩
      have h1 := HT.out
      rw [List.take_of_length_le (by have := HN.out.1; omega), List.take_of_length_le (by have := HN.out.2; omega)] at h1
      rw [decide_eq_true h1]
      rfl
    | succ gg =>
      have hlt : k < N := by omega
      have hltI : (k : Int) < (N : Int) := by omega
      have hk0 : (0 : Int) ≤ (k : Int) := by omega
      have hka : k < a.length := by have := HN.out.1; omega
      have hkb : k < b.length := by have := HN.out.2; omega
      obtain ⟨ga, oa, rfl, _, rA⟩ := HGA.out k hka
      obtain ⟨gb, ob, rfl, _, rB⟩ := HGB.out k hkb
      have HNX : Hid (a[k] = b[k] → a.take (k + 1) = b.take (k + 1)) := fun e => take_eq_next hka hkb HT.out e
      have HNE : Hid (¬ a[k] = b[k] → ¬ a = b) := fun e q => e (by subst q; rfl)
      have HKS : Hid (wrap64 ((k : Int) + 1) = ((k + 1 : Nat) : Int)) := HM.out k hlt
      generalize a[k] = s at *
      generalize b[k] = t at *
      have hiA : (Tryz.prog.info? 56).map (·.size) = some (encS.c s).length := by rw [encS.len]; exact Tryz.span_info
      have hiB : (Tryz.prog.info? 56).map (·.size) = some (encS.c t).length := by rw [encS.len]; exact Tryz.span_info
      go_upto_region 6 with fail
      refine wp_region_noPanic ?_
      refine wp_region_held_drew (S := (fun yy => yy.rangeAt ga (oa + k * 49) (encS.c s) ∧ yy.rangeAt gb (ob + k * 49) (encS.c t))) (by kernel_rfl) ⟨rA, rB⟩ (fun hHeld => ?_)
      refine wpAnyH_take (i := 0) (v := ?_) rfl (by kernel_rfl) (by kernel_rfl) (by kernel_rfl) (fun _ _ _ h => h) (Or.inl ⟨by rfl, ?_⟩) hHeld ?_
      case refine_2 => (intro w hSw; (try dsimp only at hSw); go_simp; try (with_reducible rfl))
      (try simp only [gs])
      refine wpAnyH_take (i := 1) (v := ?_) rfl (by kernel_rfl) (by kernel_rfl) (by kernel_rfl) (fun _ _ _ h => h) (Or.inl ⟨by rfl, ?_⟩) hHeld ?_
      case refine_2 => (intro w hSw; (try dsimp only at hSw); go_simp; try (with_reducible rfl))
      (try simp only [gs])
      refine wpAnyH_take (i := 2) (v := ?_) rfl (by kernel_rfl) (by kernel_rfl) (by kernel_rfl) (fun _ _ _ h => h) (Or.inl ⟨by rfl, ?_⟩) hHeld ?_
      case refine_2 => (intro w hSw; (try dsimp only at hSw); go_simp; try (with_reducible rfl))
      (try simp only [gs])
      refine wpAnyH_take (i := 3) rfl (by kernel_rfl) (by kernel_rfl) (by kernel_rfl) (fun _ _ _ h => h) (yieldsIf_load_mid (by rfl) _ _ rfl _ _ rfl _ _ (fun _ h => h.1) Tryz.underlying56 rfl hiA) hHeld ?_
      (try simp only [gs])
      refine wpAnyH_take (i := 4) (v := ?_) rfl (by kernel_rfl) (by kernel_rfl) (by kernel_rfl) (fun _ _ _ h => h) (Or.inl ⟨by rfl, ?_⟩) hHeld ?_
      case refine_2 => (intro w hSw; (try dsimp only at hSw); go_simp; try (with_reducible rfl))
      (try simp only [gs])
      refine wpAnyH_take (i := 5) (v := ?_) rfl (by kernel_rfl) (by kernel_rfl) (by kernel_rfl) (fun _ _ _ h => h) (Or.inl ⟨by rfl, ?_⟩) hHeld ?_
      case refine_2 => (intro w hSw; (try dsimp only at hSw); go_simp; try (with_reducible rfl))
      (try simp only [gs])
      refine wpAnyH_take (i := 6) (v := ?_) rfl (by kernel_rfl) (by kernel_rfl) (by kernel_rfl) (fun _ _ _ h => h) (Or.inl ⟨by rfl, ?_⟩) hHeld ?_
      case refine_2 => (intro w hSw; (try dsimp only at hSw); go_simp; try (with_reducible rfl))
      (try simp only [gs])
      refine wpAnyH_take (i := 7) rfl (by kernel_rfl) (by kernel_rfl) (by kernel_rfl) (fun _ _ _ h => h) (yieldsIf_load_mid (by rfl) _ _ rfl _ _ rfl _ _ (fun _ h => h.2) Tryz.underlying56 rfl hiB) hHeld ?_
      (try simp only [gs])
      refine wpAnyH_take (i := 8) (v := .bool (!decide (s = t))) rfl (by kernel_rfl) (by kernel_rfl) (by kernel_rfl) (fun _ _ _ h => h) (Or.inl ⟨by rfl, fun w _ => exec_ne_sp _ _ _ rfl s t rfl rfl w⟩) hHeld ?_
      (try simp only [gs])
      refine wpAnyH_done (by kernel_rfl) ?_ _
      refine NoPanic.normal ?_
      by_cases hst : s = t
      · have e : decide (s = t) = true := decide_eq_true hst
        have HST : Hid (s = t) := hst
        clear hst
        rw [e]
        simp only [Bool.not_true]
        go_wp2_with fail
        go_roundg gg
        case measure => omega
        case rel => exact ⟨k + 1, n + 1, by omega, congrArg (Value.int .i64) HKS.out, rfl, HNX.out HST.out⟩
      · have e : decide (s = t) = false := decide_eq_false hst
        have HST : Hid (¬ s = t) := hst
        clear hst
        rw [e]
        simp only [Bool.not_false]
        go_wp2_with fail
        go_ret
        exact ⟨by rw [decide_eq_false (HNE.out HST.out)]; rfl, below_drewN (Below.refl _ _) (n + 1)⟩
end Go.Proofs.YtdmindhjmjnagaaGreatDoor
