import Derived.Test.YtdmindhjmjnagabGreatDoorSi
import Derived.Test.YtdmindhjmjnagabGreatDoorB22
/- Clean, Both, Less, Touch; spans held against one another; are two lists the same? -/
namespace Go.Proofs.YtdmindhjmjnagabGreatDoor
set_option linter.unusedVariables false
set_option maxRecDepth 100000
open Go.RowKit

/-- What a call that tells a set comes to. -/
def SetTo (w : World) (g : Int → Bool) (n : Nat) (e : Ending) (w' : World) : Prop := ∃ v R, e = .returned v ∧ Own encS 33 w' w.heap.size v R ∧ Below w.heap.size w w' ∧ Is R g ∧ R.length ≤ n
/-- Do they touch? -/
def touchP (a b : List Sp) (t : Bool) : Prop := (t = true → ∃ K : List UInt8, K.length = 24 ∧ mem a (num K) = true ∧ mem b (num K) = true) ∧ (t = false → ∀ K : List UInt8, K.length = 24 → mem a (num K) = true → mem b (num K) = true → False)
theorem touch_of {a b R : List Sp} (h : Is R (fun x => mem a x && mem b x)) : touchP a b (decide (0 < R.length)) := by
  constructor
  · intro ht
    have : R ≠ [] := fun e => by subst e; simp at ht
    obtain ⟨K, hK, hm⟩ := h.some this
    simp only [Bool.and_eq_true] at hm
    exact ⟨K, hK, hm⟩
  · intro ht K hK h1 h2
    have : R = [] := by simpa using ht
    subst this
    have := h.2 K hK
    simp [h1, h2, mem_nil] at this

/-! Spans held against one another. -/
def eqSp (s u : Sp) : Bool := (s.F == u.F) && ((s.T == u.T) && (s.e == u.e))
theorem eqSp_iff (s u : Sp) : eqSp s u = true ↔ s = u := by
  constructor
  · intro h
    simp only [eqSp, Bool.and_eq_true, beq_iff_eq] at h
    exact Sp.ext' h.1 h.2.1 h.2.2
  · rintro rfl
    simp [eqSp]
instance : DecidableEq Sp := fun s u => decidable_of_iff _ (eqSp_iff s u)
theorem eqSp_dec (s u : Sp) : eqSp s u = decide (s = u) := by rw [Bool.eq_iff_iff, eqSp_iff]; simp
theorem sc_ext (F T : List UInt8) (e : Bool) (hF : F.length = 24) (hT : T.length = 24) : (sc F T e).toArray.extract 0 (0 + 24) = (bc F).toArray ∧ (sc F T e).toArray.extract 24 (24 + 24) = (bc T).toArray ∧ (sc F T e).toArray[48]? = some (.bool e) := by
  have h1 : (bc F).length = 24 := by rw [bc_length, hF]
  have h2 : (bc T).length = 24 := by rw [bc_length, hT]
  refine ⟨?_, ?_, ?_⟩
  · rw [List.extract_toArray, List.extract_eq_take_drop, sc, List.append_assoc, List.drop_zero, Nat.zero_add, Nat.sub_zero, List.take_append_of_le_length (by omega), List.take_of_length_le (by omega)]
  · rw [List.extract_toArray, List.extract_eq_take_drop, sc, List.append_assoc, List.drop_append_of_le_length (by omega), List.drop_of_length_le (by omega), List.nil_append, Nat.add_sub_cancel, List.take_append_of_le_length (by omega), List.take_of_length_le (by omega)]
  · rw [List.getElem?_toArray, sc, List.getElem?_append_right (by simp; omega)]
    simp [h1, h2]
theorem eq_sp (w : World) (s u : Sp) : (Op.equalIn 10000 33 (spv s) (spv u)).run Tryz.prog w = .ok (decide (s = u)) w := by
  rw [← eqSp_dec]
  have hf : (Tryz.prog.fieldsOf 33).toList.map (fun f => (f.name, f.type, f.offset)) = [("From", 31, 0), ("To", 31, 24), ("End", 4, 48)] := by kernel_rfl
  have hp : Tryz.prog.stoodInHeld 33 = false := by kernel_rfl
  have hu : Tryz.prog.underlying 33 = some (.struct (Tryz.prog.fieldsOf 33)) := by
    unfold Program.fieldsOf
    rw [Tryz.underlying33]
  rw [run_equalIn_struct w 9999 33 _ _ hu hp]
  generalize (Tryz.prog.fieldsOf 33).toList = fl at hf ⊢
  rcases fl with _ | ⟨a, _ | ⟨b, _ | ⟨c, _ | ⟨d, fl⟩⟩⟩⟩
  · simp at hf
  · simp at hf
  · simp at hf
  · simp only [List.map_cons, List.map_nil, List.cons.injEq, Prod.mk.injEq] at hf
    obtain ⟨⟨a1, a2, a3⟩, ⟨b1, b2, b3⟩, ⟨c1, c2, c3⟩, _⟩ := hf
    have p1 : ∀ (s : Sp) w, (part 31 (sc s.F s.T s.e).toArray 0).run Tryz.prog w = .ok (kv s.F) w := fun s w => by
      simp only [part, Sem.run_bind, Tryz.isAgg31, Tryz.sizeOf31, Result.andThen_ok, if_true, Sem.run_pure, (sc_ext s.F s.T s.e s.hF s.hT).1]
    have p2 : ∀ (s : Sp) w, (part 31 (sc s.F s.T s.e).toArray 24).run Tryz.prog w = .ok (kv s.T) w := fun s w => by
      simp only [part, Sem.run_bind, Tryz.isAgg31, Tryz.sizeOf31, Result.andThen_ok, if_true, Sem.run_pure, (sc_ext s.F s.T s.e s.hF s.hT).2.1]
    have p3 : ∀ (s : Sp) w, (part 4 (sc s.F s.T s.e).toArray 48).run Tryz.prog w = .ok (.bool s.e) w := fun s w => by
      simp only [part, Sem.run_bind, Tryz.isAgg4, Result.andThen_ok, (sc_ext s.F s.T s.e s.hF s.hT).2.2]
      simp
    have q1 : ∀ K L : List UInt8, K.length = 24 → L.length = 24 → ∀ w, (Op.equalIn 9999 31 (kv K) (kv L)).run Tryz.prog w = .ok (K == L) w := fun K L hK hL w =>
      run_equalIn_bytes (P := Tryz.prog) w 9997 31 5 24 Tryz.underlying31 Tryz.underlying5 Tryz.sizeOf5 K L hK hL
    have q3 : ∀ (x y : Bool) w, (Op.equalIn 9999 4 (.bool x) (.bool y)).run Tryz.prog w = .ok (x == y) w := fun x y w => by
      rw [run_equalIn_bool' w 9998 4 x y Tryz.underlying4]
    simp only [Op.eqFields, a1, a2, a3, b1, b2, b3, c1, c2, c3, Sem.run_bind, p1, p2, p3, q1 s.F u.F s.hF u.hF, q1 s.T u.T s.hT u.hT, q3, Result.andThen_ok, Sem.run_ite, Sem.run_pure]
    unfold eqSp
    generalize (s.F == u.F) = x
    generalize (s.T == u.T) = y
    generalize (s.e == u.e) = z
    cases x <;> cases y <;> cases z <;> simp
  · simp at hf
theorem exec_eq_sp {ρ : Operand → Value} {o : Oper} (x y : Operand) (t' : TypeId) (ho : o.op = .binOp .eql 33 x y t') (s u : Sp) (hx : ρ x = spv s) (hy : ρ y = spv u) (w : World) : (execOp ρ o).run Tryz.prog w = .ok (.value (.bool (decide (s = u)))) w := by
  unfold execOp
  rw [ho]
  have hm : Tryz.prog.eqGuardType Tryz.prog.depth 33 = false := by kernel_rfl
  simp only [hx, hy, Sem.run_bind, run_eqGuard_agg w .eql 33 x y _ _ hm, run_eql_struct, eq_sp w s u, Result.andThen_ok, Sem.run_pure]
theorem exec_ne_sp {ρ : Operand → Value} {o : Oper} (x y : Operand) (t' : TypeId) (ho : o.op = .binOp .neq 33 x y t') (s u : Sp) (hx : ρ x = spv s) (hy : ρ y = spv u) (w : World) : (execOp ρ o).run Tryz.prog w = .ok (.value (.bool (!decide (s = u)))) w := by
  unfold execOp
  rw [ho]
  have hm : Tryz.prog.eqGuardType Tryz.prog.depth 33 = false := by kernel_rfl
  simp only [hx, hy, Sem.run_bind, run_eqGuard_agg w .neq 33 x y _ _ hm, run_neq_struct, eq_sp w s u, Result.andThen_ok, Sem.run_pure]
theorem take_eq_next {α : Type} {l m : List α} {k : Nat} (hk : k < l.length) (hm : k < m.length) (h : l.take k = m.take k) (e : l[k] = m[k]) : l.take (k + 1) = m.take (k + 1) := by
  rw [List.take_succ_eq_append_getElem hk, List.take_succ_eq_append_getElem hm, h, e]
end Go.Proofs.YtdmindhjmjnagabGreatDoor
/- slices.Clone of pairs, Scan of view.Plain. -/
namespace Go.Proofs.YtdmindhjmjnagabGreatDoor
set_option linter.unusedVariables false
set_option maxRecDepth 100000
open Go.RowKit

theorem eqlP_nil (w : World) (a : Option Addr) (n c n' c' : Nat) : (binOp .eql 27 (.slice a n c) (.slice none n' c')).run Tryz.prog w = .ok (.bool a.isNone) w := Lib.run_eql_slice_nil w _ _ a n c n' c' Tryz.underlying27
theorem own_zero (w : World) : Own encP 76 (w.alloc (.cells #[] 76)) w.heap.size (.slice (some ⟨w.heap.size, 0, none⟩) 0 0) [] :=
  ⟨by simp [Enc.flat], .inr ⟨w.heap.size, 0, #[], rfl, Nat.le_refl _, heap_alloc_new _ _, Nat.le_refl _, Nat.zero_le _, by simp, by simp [Enc.flat]⟩⟩
set_option maxHeartbeats 1000000 in
theorem cloneP_calls (w : World) (u : Value) (l : List Pa) (h : Sl encP w u l) (hl : l.length ≤ 100000) :
    Calls Tryz.prog 154 #[u] w fun e w' => ∃ v, e = .returned v ∧ Own encP 76 w' w.heap.size v l ∧ Below w.heap.size w w' := by
  obtain ⟨ad, cap, rfl, hcap, hmax, hn, hc⟩ := id h
  cases ad with
  | none =>
    have hl0 : l = [] := by
      rcases hc with hc | ⟨g, off, q, _⟩
      · exact hc
      · cases q
    subst hl0
    have hc0 : cap = 0 := hn rfl
    subst hc0
    have hq := eqlP_nil w none 0 0 0 0
    clear hc hn h
    go_enter Tryz.func154, Tryz.ntmps154
    go_wp2_with fail
    go_ret
    exact ⟨_, rfl, Own.nil _ _ _ _, Below.refl _ _⟩
  | some A =>
    have hq := eqlP_nil w (some A) l.length cap 0 0
    have BX : Below w.heap.size w (w.alloc (.cells #[] 76)) := (Below.refl _ w).alloc (Nat.le_refl _) _
    have hs := Sl.called h BX
    have ho := own_zero w
    have HB : Hid (Below w.heap.size w (w.alloc (.cells #[] 76))) := BX
    have HN : Hid (([] : List Pa).length + l.length ≤ 1000000 ∧ w.heap.size ≤ (w.alloc (.cells #[] 76)).heap.size) := ⟨by simp; omega, by simp⟩
    clear hc hn h hcap hmax BX
    generalize hN0 : l.length = N0 at *
    go_enter Tryz.func154, Tryz.ntmps154
    go_wp2_with (at_builtin; refine append_slB rowP rfl _ _ rfl w.heap.size _ [] l rfl ho _ rfl _ hs (by rw [hN0]; exact HN.out.1) (by decide) HN.out.2 ?_; intro v' x1 ho1 gr1)
    go_ret
    exact ⟨_, rfl, by simpa using ho1, HB.out.grown gr1 HB.out.size (fun j hj => by cases hj; exact Nat.le_refl _)⟩
/-- What Scan holds. -/
structure SnS (w y : World) (p : Nat) (v : Value) (L : List Pa) (s : Sp) : Prop where
  bel : Below w.heap.size w y
  pl : PlIn y p v L
  box : HasS y w.heap.size s.F s.T s.e
theorem SnS.called {w y z : World} {p : Nat} {v : Value} {L : List Pa} {s : Sp} (h : SnS w y p v L s) (b : Below y.heap.size y z) : SnS w z p v L s := ⟨h.bel.trans (b.mono h.bel.size), h.pl.called b, h.box.below b h.box.lt⟩
theorem SnS.drew {w y : World} {p : Nat} {v : Value} {L : List Pa} {s : Sp} (h : SnS w y p v L s) : SnS w y.drew p v L s := h.called ⟨rfl, rfl, rfl, Nat.le_refl _, fun _ _ => rfl⟩
theorem SnS.span {w y : World} {p : Nat} {v : Value} {L : List Pa} {s : Sp} (h : SnS w y p v L s) : y.rangeAt w.heap.size 0 (sc s.F s.T s.e) := fun j v hv => by
  rw [Nat.zero_add, cell_of_row _ _ _ _ _ _ h.box.blk]
  simpa using hv
set_option maxHeartbeats 4000000 in
theorem pscan_calls (w : World) (p : Nat) (v : Value) (L : List Pa) (s : Sp) (h : PlIn w p v L) (hl : L.length ≤ 100000) :
    Calls Tryz.prog 152 #[.pointer (some ⟨p, 0, none⟩), sv s.F s.T s.e] w fun e w' => ∃ u, e = .returned (.tuple #[u, .int .i64 0]) ∧ Own encP 76 w' w.heap.size u (scanL s L) ∧ Below w.heap.size w w' := by
  have b1 : Below w.heap.size w (w.alloc (.cells (sc s.F s.T s.e).toArray 33)) := (Below.refl _ w).alloc (Nat.le_refl _) _
  have h1 := h.called b1
  have hS1 : HasS (w.alloc (.cells (sc s.F s.T s.e).toArray 33)) w.heap.size s.F s.T s.e := HasS.new w _ _ _ s.hF s.hT
  have hsF := hS1.ofF
  have hF := find_calls _ p v L ⟨s.F, s.hF⟩ h1 hl
  have HS : Hid (SnS w (w.alloc (.cells (sc s.F s.T s.e).toArray 33)) p v L s) := ⟨b1, h1, hS1⟩
  have HA : Hid (Asc Pa.n L) := h.asc
  have hpl := posA_le Pa.n L (Kz.n ⟨s.F, s.hF⟩)
  have HPE : Hid (posA Pa.n L (Kz.n ⟨s.F, s.hF⟩) = posA Pa.n L (num s.F)) := rfl
  obtain ⟨ad, cap, rfl, hcap, hmax, -, -⟩ := id h.sl
  obtain ⟨N, hN⟩ : ∃ N : Nat, N = L.length := ⟨_, rfl⟩
  rw [← hN] at hcap hmax hl hpl HS
  have HN : Hid (N = L.length) := hN
  have HI : Hid (∀ i (hi : i < L.length), ∃ g off, ad = some ⟨g, off, none⟩ ∧ g < w.heap.size ∧ w.rangeAt g (off + i * 25) (encP.c L[i])) := fun i hi => SlB.at h.sl i hi
  have HCL : Hid (∀ y b, posA Pa.n L (num s.F) ≤ b → b ≤ N → SnS w y p (.slice ad N cap) L s → Calls Tryz.prog 154 #[.slice (if cap = posA Pa.n L (num s.F) then ad else ad.map (·.add (posA Pa.n L (num s.F) * 25))) (b - posA Pa.n L (num s.F)) (cap - posA Pa.n L (num s.F))] y fun e w' => ∃ v, e = .returned v ∧ Own encP 76 w' y.heap.size v ((L.take b).drop (posA Pa.n L (num s.F))) ∧ Below y.heap.size y w') := fun y b hab hb hy => by
    have t1 := SlB.take hy.pl.sl b (by rw [← hN]; exact hb)
    have t2 := SlB.drop t1 (posA Pa.n L (num s.F)) (by rw [List.length_take]; omega)
    exact cloneP_calls y _ _ t2 (by rw [List.length_drop, List.length_take]; omega)
  have HCP : Hid ((Tryz.prog.info? 31).map (·.size) = some 24) := Tryz.key_info
  have HCS : Hid ((Tryz.prog.info? 33).map (·.size) = some 49) := Tryz.span_info
  have HSL : Hid ((sc s.F s.T s.e).length = 49) := (show _ = _ by have := sv_size s.F s.T s.e s.hF s.hT; simpa using this)
  rw [HPE.out] at hF hpl
  generalize hitA Pa.n L (Kz.n ⟨s.F, s.hF⟩) = hit at *
  have HSF : Hid (∀ b, posA Pa.n L (num s.F) ≤ b → b ≤ L.length → (∀ j (hj : j < L.length), posA Pa.n L (num s.F) ≤ j → j < b → s.inb (L[j]).n = true) → (∀ h : b < L.length, s.inb (L[b]).n = false) → (L.take b).drop (posA Pa.n L (num s.F)) = scanL s L) := fun b => scan_filter h.asc s b
  generalize posA Pa.n L (num s.F) = a at *
  clear h h1 b1 hN HPE
  go_enter Tryz.func152, Tryz.ntmps152
  go_wp2_with (first
    | (refine load_part _ rfl w.heap.size 0 rfl rfl _ s.hF hsF ?_)
    | (go_at_call 153; refine hF.mono ?_; clear hF; rintro e w1 ⟨rfl, b2⟩))
  have HST : Hid (SnS w w1 p (.slice ad N cap) L s) := HS.out.called b2
  clear b2 hS1 hsF HS
  go_loopg [8] (N - a) (fun gg s8 wr => ∃ k : Nat, k + gg = N ∧ a ≤ k ∧ s8 = .int .i64 (k : Int) ∧ Hid (SnS w wr p (.slice ad N cap) L s ∧ ∀ j (hj : j < L.length), a ≤ j → j < k → s.inb (L[j]).n = true))
  case atStart => exact ⟨a, by omega, Nat.le_refl _, rfl, (⟨HST.out, fun j _ h1 h2 => by omega⟩ : _ ∧ _)⟩
  case round =>
    clear HST
    obtain ⟨k, hkg, hak, rfl, HE⟩ := hrel
    have hk0 : (0 : Int) ≤ (k : Int) := by omega
    have ha0 : (0 : Int) ≤ (a : Int) := by omega
    have hakI : (a : Int) ≤ (k : Int) := by omega
    by_cases hkN : k < N
    · have hkI : (k : Int) < (N : Int) := by omega
      have hkl : k < L.length := by rw [← HN.out]; exact hkN
      have hkc : (k : Int) ≤ (cap : Int) := by omega
      have HADL := HI.out k hkl
      obtain ⟨g0, off, hae, hg0, hat⟩ := HADL
      have HX : Hid (∀ y, SnS w y p (.slice ad N cap) L s → y.rangeAt g0 (off + k * 25) (bc (L[k]).k)) := fun y hy => range_kP (range_same' hat (hy.bel.block g0 hg0))
      have hOR : Hid (∀ y, Calls Tryz.prog 37 #[sv s.F s.T s.e, kv (L[k]).k] y fun e w' => e = .returned (.bool (s.inb (L[k]).n)) ∧ Below y.heap.size y w') := fun y => by
        have := in_calls y s.F s.T s.e (L[k]).k s.hF s.hT (L[k]).h
        rw [in_num s _ (L[k]).h] at this
        exact this
      have HST2 : Hid (∀ y, SnS w y p (.slice ad N cap) L s → s.inb (L[k]).n = true → SnS w y p (.slice ad N cap) L s ∧ ∀ j (hj : j < L.length), a ≤ j → j < k + 1 → s.inb (L[j]).n = true) := fun y hy hq => ⟨hy, fun j hj h1 h2 => by
        rcases Nat.lt_or_ge j k with h | h
        · exact HE.out.2 j hj h1 h
        · have : j = k := by omega
          subst this
          exact hq⟩
      have HEQ0 : Hid (s.inb (L[k]).n = false → (L.take k).drop a = scanL s L) := fun hq => HSF.out k hak (by omega) HE.out.2 (fun _ => hq)
      generalize L[k] = q at *
      have HEP : Hid ((bc q.k).length = 24) := (show _ = _ by rw [bc_length, q.h])
      clear hat hkl
      subst hae
      cases hbb : s.inb q.n with
      | true =>
        rw [hbb] at hOR
        have HBB : Hid (s.inb q.n = true) := hbb
        clear hbb HEQ0
        go_upto_region 3 with fail
        refine wp_region_noPanic ?_
        refine wp_region_held_drew (S := (fun y => SnS w y p (.slice (some ⟨g0, off, none⟩) N cap) L s)) (by kernel_rfl) (HE.out.1.drew) (fun hHeld => ?_)
        refine wpAnyH_take (i := 0) (v := ?_) rfl (by kernel_rfl) (by kernel_rfl) (by kernel_rfl) (fun _ _ _ h => h) (Or.inl ⟨by rfl, ?_⟩) hHeld ?_
        case refine_2 => (intro w hSw; (try dsimp only at hSw); go_simp; try (with_reducible rfl))
        (try simp only [gs])
        refine wpAnyH_take (i := 1) (v := ?_) rfl (by kernel_rfl) (by kernel_rfl) (by kernel_rfl) (fun _ _ _ h => h) (Or.inl ⟨by rfl, ?_⟩) hHeld ?_
        case refine_2 => (intro w hSw; (try dsimp only at hSw); go_simp; try (with_reducible rfl))
        (try simp only [gs])
        refine wpAnyH_take (i := 2) (v := ?_) rfl (by kernel_rfl) (by kernel_rfl) (by kernel_rfl) (fun _ _ _ h => h) (Or.inl ⟨by rfl, ?_⟩) hHeld ?_
        case refine_2 => (intro w hSw; (try dsimp only at hSw); go_simp; try (with_reducible rfl))
        (try simp only [gs])
        refine wpAnyH_take (i := 3) (v := ?_) rfl (by kernel_rfl) (by kernel_rfl) (by kernel_rfl) (fun _ _ _ h => h) (Or.inl ⟨by rfl, ?_⟩) hHeld ?_
        case refine_2 => (intro w hSw; (try dsimp only at hSw); go_simp; try (with_reducible rfl))
        (try simp only [gs])
        refine wpAnyH_take (i := 4) (v := ?_) rfl (by kernel_rfl) (by kernel_rfl) (by kernel_rfl) (fun _ _ _ h => h) (Or.inl ⟨by rfl, ?_⟩) hHeld ?_
        case refine_2 => (intro w hSw; (try dsimp only at hSw); have hc := hSw.pl.cell; go_simp; try (with_reducible rfl))
        (try simp only [gs])
        refine wpAnyH_take (i := 5) (v := ?_) rfl (by kernel_rfl) (by kernel_rfl) (by kernel_rfl) (fun _ _ _ h => h) (Or.inl ⟨by rfl, ?_⟩) hHeld ?_
        case refine_2 => (intro w hSw; (try dsimp only at hSw); go_simp; try (with_reducible rfl))
        (try simp only [gs])
        refine wpAnyH_take (i := 6) (v := .bool true) rfl (by kernel_rfl) (by kernel_rfl) (by kernel_rfl) (fun _ _ _ h => h) (Or.inl ⟨by rfl, ?_⟩) hHeld ?_
        case refine_1 => (intro w hSw; (try dsimp only at hSw); go_simp; first | done | rfl)
        (try simp only [gs])
        refine wpAnyH_take (i := 7) (v := ?_) rfl (by kernel_rfl) (by kernel_rfl) (by kernel_rfl) (fun _ _ _ h => h) (Or.inl ⟨by rfl, ?_⟩) hHeld ?_
        case refine_2 => (intro w hSw; (try dsimp only at hSw); go_simp; try (with_reducible rfl))
        (try simp only [gs])
        refine wpAnyH_take (i := 8) rfl (by kernel_rfl) (by kernel_rfl) (by kernel_rfl) (fun _ _ _ h => h) (yieldsIf_load_mid (by rfl) _ _ rfl _ _ rfl _ _ (fun y h => SnS.span h) Tryz.underlying33 rfl (by rw [HSL.out]; exact HCS.out)) hHeld ?_
        (try simp only [gs])
        refine wpAnyH_take (i := 9) (v := ?_) rfl (by kernel_rfl) (by kernel_rfl) (by kernel_rfl) (fun _ _ _ h => h) (Or.inl ⟨by rfl, ?_⟩) hHeld ?_
        case refine_2 => (intro w hSw; (try dsimp only at hSw); go_simp; try (with_reducible rfl))
        (try simp only [gs])
        refine wpAnyH_take (i := 10) (v := ?_) rfl (by kernel_rfl) (by kernel_rfl) (by kernel_rfl) (fun _ _ _ h => h) (Or.inl ⟨by rfl, ?_⟩) hHeld ?_
        case refine_2 => (intro w hSw; (try dsimp only at hSw); go_simp; try (with_reducible rfl))
        (try simp only [gs])
        refine wpAnyH_take (i := 11) (v := ?_) rfl (by kernel_rfl) (by kernel_rfl) (by kernel_rfl) (fun _ _ _ h => h) (Or.inl ⟨by rfl, ?_⟩) hHeld ?_
        case refine_2 => (intro w hSw; (try dsimp only at hSw); go_simp; try (with_reducible rfl))
        (try simp only [gs])
        refine wpAnyH_take (i := 12) (v := ?_) rfl (by kernel_rfl) (by kernel_rfl) (by kernel_rfl) (fun _ _ _ h => h) (Or.inl ⟨by rfl, ?_⟩) hHeld ?_
        case refine_2 => (intro w hSw; (try dsimp only at hSw); have hc := hSw.pl.cell; go_simp; try (with_reducible rfl))
        (try simp only [gs])
        refine wpAnyH_take (i := 13) (v := ?_) rfl (by kernel_rfl) (by kernel_rfl) (by kernel_rfl) (fun _ _ _ h => h) (Or.inl ⟨by rfl, ?_⟩) hHeld ?_
        case refine_2 => (intro w hSw; (try dsimp only at hSw); go_simp; try (with_reducible rfl))
        (try simp only [gs])
        refine wpAnyH_take (i := 14) (v := ?_) rfl (by kernel_rfl) (by kernel_rfl) (by kernel_rfl) (fun _ _ _ h => h) (Or.inl ⟨by rfl, ?_⟩) hHeld ?_
        case refine_2 => (intro w hSw; (try dsimp only at hSw); go_simp; try (with_reducible rfl))
        (try simp only [gs])
        refine wpAnyH_take (i := 15) (v := ?_) rfl (by kernel_rfl) (by kernel_rfl) (by kernel_rfl) (fun _ _ _ h => h) (Or.inl ⟨by rfl, ?_⟩) hHeld ?_
        case refine_2 => (intro w hSw; (try dsimp only at hSw); go_simp; try (with_reducible rfl))
        (try simp only [gs])
        refine wpAnyH_take (i := 16) rfl (by kernel_rfl) (by kernel_rfl) (by kernel_rfl) (fun _ _ _ h => h) (yieldsIf_load_mid (by rfl) _ _ rfl _ _ rfl _ _ (fun y h => HX.out y h) Tryz.underlying31 rfl (by rw [HEP.out]; exact HCP.out)) hHeld ?_
        (try simp only [gs])
        generalize wr.drew = y1 at *
        refine wpAnyH_ready (rs := [17]) (by kernel_rfl) (by simp) (AllReadyH.cons rfl (fun K hK => ?_) AllReadyH.nil)
        rw [if_pos (by rfl)]
        (try simp only [gs])
        go_simp
        refine (hOR.out _).mono ?_
        rintro e y2 ⟨rfl, b1⟩
        refine hK.out _ _ (hHeld.called b1) (fun g1 => ?_)
        clear hK K
        (try simp only [gs])
        refine wpAnyH_take (i := 18) (v := .bool true) rfl (by kernel_rfl) (by kernel_rfl) (by kernel_rfl) (fun _ _ _ h => h) (Or.inl ⟨by rfl, ?_⟩) g1 ?_
        case refine_1 => (intro w hSw; (try dsimp only at hSw); go_simp; first | done | rfl)
        (try simp only [gs])
        refine wpAnyH_done (by kernel_rfl) ?_ _
        refine NoPanic.normal ?_
        have HG1 : Hid (SnS w y2 p (.slice (some ⟨g0, off, none⟩) N cap) L s) := g1
        clear g1 hHeld b1 hOR HX HI
        go_wp2_with fail
        go_roundg (N - (k + 1))
        case measure => omega
        case rel => exact ⟨k + 1, by omega, by omega, congrArg (Value.int .i64) (by first | omega | (unfold wrap64; omega)), HST2.out _ HG1.out HBB.out⟩
      | false =>
        rw [hbb] at hOR
        have HEQ : Hid ((L.take k).drop a = scanL s L) := HEQ0.out hbb
        clear hbb HEQ0 HST2
        go_upto_region 3 with fail
        refine wp_region_noPanic ?_
        refine wp_region_held_drew (S := (fun y => SnS w y p (.slice (some ⟨g0, off, none⟩) N cap) L s)) (by kernel_rfl) (HE.out.1.drew) (fun hHeld => ?_)
        refine wpAnyH_take (i := 0) (v := ?_) rfl (by kernel_rfl) (by kernel_rfl) (by kernel_rfl) (fun _ _ _ h => h) (Or.inl ⟨by rfl, ?_⟩) hHeld ?_
        case refine_2 => (intro w hSw; (try dsimp only at hSw); go_simp; try (with_reducible rfl))
        (try simp only [gs])
        refine wpAnyH_take (i := 1) (v := ?_) rfl (by kernel_rfl) (by kernel_rfl) (by kernel_rfl) (fun _ _ _ h => h) (Or.inl ⟨by rfl, ?_⟩) hHeld ?_
        case refine_2 => (intro w hSw; (try dsimp only at hSw); go_simp; try (with_reducible rfl))
        (try simp only [gs])
        refine wpAnyH_take (i := 2) (v := ?_) rfl (by kernel_rfl) (by kernel_rfl) (by kernel_rfl) (fun _ _ _ h => h) (Or.inl ⟨by rfl, ?_⟩) hHeld ?_
        case refine_2 => (intro w hSw; (try dsimp only at hSw); go_simp; try (with_reducible rfl))
        (try simp only [gs])
        refine wpAnyH_take (i := 3) (v := ?_) rfl (by kernel_rfl) (by kernel_rfl) (by kernel_rfl) (fun _ _ _ h => h) (Or.inl ⟨by rfl, ?_⟩) hHeld ?_
        case refine_2 => (intro w hSw; (try dsimp only at hSw); go_simp; try (with_reducible rfl))
        (try simp only [gs])
        refine wpAnyH_take (i := 4) (v := ?_) rfl (by kernel_rfl) (by kernel_rfl) (by kernel_rfl) (fun _ _ _ h => h) (Or.inl ⟨by rfl, ?_⟩) hHeld ?_
        case refine_2 => (intro w hSw; (try dsimp only at hSw); have hc := hSw.pl.cell; go_simp; try (with_reducible rfl))
        (try simp only [gs])
        refine wpAnyH_take (i := 5) (v := ?_) rfl (by kernel_rfl) (by kernel_rfl) (by kernel_rfl) (fun _ _ _ h => h) (Or.inl ⟨by rfl, ?_⟩) hHeld ?_
        case refine_2 => (intro w hSw; (try dsimp only at hSw); go_simp; try (with_reducible rfl))
        (try simp only [gs])
        refine wpAnyH_take (i := 6) (v := .bool true) rfl (by kernel_rfl) (by kernel_rfl) (by kernel_rfl) (fun _ _ _ h => h) (Or.inl ⟨by rfl, ?_⟩) hHeld ?_
        case refine_1 => (intro w hSw; (try dsimp only at hSw); go_simp; first | done | rfl)
        (try simp only [gs])
        refine wpAnyH_take (i := 7) (v := ?_) rfl (by kernel_rfl) (by kernel_rfl) (by kernel_rfl) (fun _ _ _ h => h) (Or.inl ⟨by rfl, ?_⟩) hHeld ?_
        case refine_2 => (intro w hSw; (try dsimp only at hSw); go_simp; try (with_reducible rfl))
        (try simp only [gs])
        refine wpAnyH_take (i := 8) rfl (by kernel_rfl) (by kernel_rfl) (by kernel_rfl) (fun _ _ _ h => h) (yieldsIf_load_mid (by rfl) _ _ rfl _ _ rfl _ _ (fun y h => SnS.span h) Tryz.underlying33 rfl (by rw [HSL.out]; exact HCS.out)) hHeld ?_
        (try simp only [gs])
        refine wpAnyH_take (i := 9) (v := ?_) rfl (by kernel_rfl) (by kernel_rfl) (by kernel_rfl) (fun _ _ _ h => h) (Or.inl ⟨by rfl, ?_⟩) hHeld ?_
        case refine_2 => (intro w hSw; (try dsimp only at hSw); go_simp; try (with_reducible rfl))
        (try simp only [gs])
        refine wpAnyH_take (i := 10) (v := ?_) rfl (by kernel_rfl) (by kernel_rfl) (by kernel_rfl) (fun _ _ _ h => h) (Or.inl ⟨by rfl, ?_⟩) hHeld ?_
        case refine_2 => (intro w hSw; (try dsimp only at hSw); go_simp; try (with_reducible rfl))
        (try simp only [gs])
        refine wpAnyH_take (i := 11) (v := ?_) rfl (by kernel_rfl) (by kernel_rfl) (by kernel_rfl) (fun _ _ _ h => h) (Or.inl ⟨by rfl, ?_⟩) hHeld ?_
        case refine_2 => (intro w hSw; (try dsimp only at hSw); go_simp; try (with_reducible rfl))
        (try simp only [gs])
        refine wpAnyH_take (i := 12) (v := ?_) rfl (by kernel_rfl) (by kernel_rfl) (by kernel_rfl) (fun _ _ _ h => h) (Or.inl ⟨by rfl, ?_⟩) hHeld ?_
        case refine_2 => (intro w hSw; (try dsimp only at hSw); have hc := hSw.pl.cell; go_simp; try (with_reducible rfl))
        (try simp only [gs])
        refine wpAnyH_take (i := 13) (v := ?_) rfl (by kernel_rfl) (by kernel_rfl) (by kernel_rfl) (fun _ _ _ h => h) (Or.inl ⟨by rfl, ?_⟩) hHeld ?_
        case refine_2 => (intro w hSw; (try dsimp only at hSw); go_simp; try (with_reducible rfl))
        (try simp only [gs])
        refine wpAnyH_take (i := 14) (v := ?_) rfl (by kernel_rfl) (by kernel_rfl) (by kernel_rfl) (fun _ _ _ h => h) (Or.inl ⟨by rfl, ?_⟩) hHeld ?_
        case refine_2 => (intro w hSw; (try dsimp only at hSw); go_simp; try (with_reducible rfl))
        (try simp only [gs])
        refine wpAnyH_take (i := 15) (v := ?_) rfl (by kernel_rfl) (by kernel_rfl) (by kernel_rfl) (fun _ _ _ h => h) (Or.inl ⟨by rfl, ?_⟩) hHeld ?_
        case refine_2 => (intro w hSw; (try dsimp only at hSw); go_simp; try (with_reducible rfl))
        (try simp only [gs])
        refine wpAnyH_take (i := 16) rfl (by kernel_rfl) (by kernel_rfl) (by kernel_rfl) (fun _ _ _ h => h) (yieldsIf_load_mid (by rfl) _ _ rfl _ _ rfl _ _ (fun y h => HX.out y h) Tryz.underlying31 rfl (by rw [HEP.out]; exact HCP.out)) hHeld ?_
        (try simp only [gs])
        generalize wr.drew = y1 at *
        refine wpAnyH_ready (rs := [17]) (by kernel_rfl) (by simp) (AllReadyH.cons rfl (fun K hK => ?_) AllReadyH.nil)
        rw [if_pos (by rfl)]
        (try simp only [gs])
        go_simp
        refine (hOR.out _).mono ?_
        rintro e y2 ⟨rfl, b1⟩
        refine hK.out _ _ (hHeld.called b1) (fun g1 => ?_)
        clear hK K
        (try simp only [gs])
        refine wpAnyH_take (i := 18) (v := .bool false) rfl (by kernel_rfl) (by kernel_rfl) (by kernel_rfl) (fun _ _ _ h => h) (Or.inl ⟨by rfl, ?_⟩) g1 ?_
        case refine_1 => (intro w hSw; (try dsimp only at hSw); go_simp; first | done | rfl)
        (try simp only [gs])
        refine wpAnyH_done (by kernel_rfl) ?_ _
        refine NoPanic.normal ?_
        have HG1 : Hid (SnS w y2 p (.slice (some ⟨g0, off, none⟩) N cap) L s) := g1
        clear g1 hHeld b1 hOR HX HI
        clear HE
        generalize (some ⟨g0, off, none⟩ : Option Addr) = ad at *
        have hCL := HCL.out _ k hak (by omega) HG1.out
        rw [HEQ.out] at hCL
        have hca : ¬ cap = a := by omega
        rw [if_neg hca] at hCL
        have hcl := HG1.out.pl.cell
        go_wp2_with (first | (go_at_call 154; refine hCL.mono ?_; clear hCL; rintro e w3 ⟨u, rfl, ho, b3⟩; have su := ho.slB; obtain ⟨ad3, cap3, rfl, -, -, -, -⟩ := id su))
        all_goals go_ret2
        all_goals exact ⟨_, rfl, ho.lower HG1.out.bel.size, HG1.out.bel.trans (b3.mono HG1.out.bel.size)⟩
    · have hkE : k = N := by omega
      subst hkE
      have hkc : (k : Int) ≤ (cap : Int) := by omega
      have HEQ : Hid ((L.take k).drop a = scanL s L) := HSF.out k hak (by have := HN.out; omega) HE.out.2 (fun h => by have := HN.out; omega)
      go_upto_region 3 with fail
      refine wp_region_noPanic ?_
      refine wp_region_held_drew (S := (fun y => SnS w y p (.slice ad k cap) L s)) (by kernel_rfl) (HE.out.1.drew) (fun hHeld => ?_)
      refine wpAnyH_take (i := 0) (v := ?_) rfl (by kernel_rfl) (by kernel_rfl) (by kernel_rfl) (fun _ _ _ h => h) (Or.inl ⟨by rfl, ?_⟩) hHeld ?_
      case refine_2 => (intro w hSw; (try dsimp only at hSw); go_simp; try (with_reducible rfl))
      (try simp only [gs])
      refine wpAnyH_take (i := 1) (v := ?_) rfl (by kernel_rfl) (by kernel_rfl) (by kernel_rfl) (fun _ _ _ h => h) (Or.inl ⟨by rfl, ?_⟩) hHeld ?_
      case refine_2 => (intro w hSw; (try dsimp only at hSw); go_simp; try (with_reducible rfl))
      (try simp only [gs])
      refine wpAnyH_take (i := 2) (v := ?_) rfl (by kernel_rfl) (by kernel_rfl) (by kernel_rfl) (fun _ _ _ h => h) (Or.inl ⟨by rfl, ?_⟩) hHeld ?_
      case refine_2 => (intro w hSw; (try dsimp only at hSw); go_simp; try (with_reducible rfl))
      (try simp only [gs])
      refine wpAnyH_take (i := 3) (v := ?_) rfl (by kernel_rfl) (by kernel_rfl) (by kernel_rfl) (fun _ _ _ h => h) (Or.inl ⟨by rfl, ?_⟩) hHeld ?_
      case refine_2 => (intro w hSw; (try dsimp only at hSw); go_simp; try (with_reducible rfl))
      (try simp only [gs])
      refine wpAnyH_take (i := 4) (v := ?_) rfl (by kernel_rfl) (by kernel_rfl) (by kernel_rfl) (fun _ _ _ h => h) (Or.inl ⟨by rfl, ?_⟩) hHeld ?_
      case refine_2 => (intro w hSw; (try dsimp only at hSw); have hc := hSw.pl.cell; go_simp; try (with_reducible rfl))
      (try simp only [gs])
      refine wpAnyH_take (i := 5) (v := ?_) rfl (by kernel_rfl) (by kernel_rfl) (by kernel_rfl) (fun _ _ _ h => h) (Or.inl ⟨by rfl, ?_⟩) hHeld ?_
      case refine_2 => (intro w hSw; (try dsimp only at hSw); go_simp; try (with_reducible rfl))
      (try simp only [gs])
      refine wpAnyH_take (i := 6) (v := .bool false) rfl (by kernel_rfl) (by kernel_rfl) (by kernel_rfl) (fun _ _ _ h => h) (Or.inl ⟨by rfl, ?_⟩) hHeld ?_
      case refine_1 => (intro w hSw; (try dsimp only at hSw); go_simp; first | done | rfl)
      (try simp only [gs])
      refine wpAnyH_take (i := 7) (v := ?_) rfl (by kernel_rfl) (by kernel_rfl) (by kernel_rfl) (fun _ _ _ h => h) (Or.inl ⟨by rfl, ?_⟩) hHeld ?_
      case refine_2 => (intro w hSw; (try dsimp only at hSw); go_simp; try (with_reducible rfl))
      (try simp only [gs])
      refine wpAnyH_take (i := 8) (v := undef) rfl (by kernel_rfl) (by kernel_rfl) (by kernel_rfl) (fun _ _ _ h => h) (Or.inr ⟨by rfl, rfl⟩) hHeld ?_
      (try simp only [gs])
      refine wpAnyH_take (i := 9) (v := undef) rfl (by kernel_rfl) (by kernel_rfl) (by kernel_rfl) (fun _ _ _ h => h) (Or.inr ⟨by rfl, rfl⟩) hHeld ?_
      (try simp only [gs])
      refine wpAnyH_take (i := 10) (v := undef) rfl (by kernel_rfl) (by kernel_rfl) (by kernel_rfl) (fun _ _ _ h => h) (Or.inr ⟨by rfl, rfl⟩) hHeld ?_
      (try simp only [gs])
      refine wpAnyH_take (i := 11) (v := undef) rfl (by kernel_rfl) (by kernel_rfl) (by kernel_rfl) (fun _ _ _ h => h) (Or.inr ⟨by rfl, rfl⟩) hHeld ?_
      (try simp only [gs])
      refine wpAnyH_take (i := 12) (v := undef) rfl (by kernel_rfl) (by kernel_rfl) (by kernel_rfl) (fun _ _ _ h => h) (Or.inr ⟨by rfl, rfl⟩) hHeld ?_
      (try simp only [gs])
      refine wpAnyH_take (i := 13) (v := undef) rfl (by kernel_rfl) (by kernel_rfl) (by kernel_rfl) (fun _ _ _ h => h) (Or.inr ⟨by rfl, rfl⟩) hHeld ?_
      (try simp only [gs])
      refine wpAnyH_take (i := 14) (v := undef) rfl (by kernel_rfl) (by kernel_rfl) (by kernel_rfl) (fun _ _ _ h => h) (Or.inr ⟨by rfl, rfl⟩) hHeld ?_
      (try simp only [gs])
      refine wpAnyH_take (i := 15) (v := undef) rfl (by kernel_rfl) (by kernel_rfl) (by kernel_rfl) (fun _ _ _ h => h) (Or.inr ⟨by rfl, rfl⟩) hHeld ?_
      (try simp only [gs])
      refine wpAnyH_take (i := 16) (v := undef) rfl (by kernel_rfl) (by kernel_rfl) (by kernel_rfl) (fun _ _ _ h => h) (Or.inr ⟨by rfl, rfl⟩) hHeld ?_
      (try simp only [gs])
      refine wpAnyH_take (i := 17) (v := undef) rfl (by kernel_rfl) (by kernel_rfl) (by kernel_rfl) (fun _ _ _ h => h) (Or.inr ⟨by rfl, rfl⟩) hHeld ?_
      (try simp only [gs])
      refine wpAnyH_take (i := 18) (v := .bool false) rfl (by kernel_rfl) (by kernel_rfl) (by kernel_rfl) (fun _ _ _ h => h) (Or.inl ⟨by rfl, ?_⟩) hHeld ?_
      case refine_1 => (intro w hSw; (try dsimp only at hSw); go_simp; first | done | rfl)
      (try simp only [gs])
      refine wpAnyH_done (by kernel_rfl) ?_ _
      refine NoPanic.normal ?_
      have HG1 : Hid (SnS w wr.drew p (.slice ad k cap) L s) := hHeld
      clear hHeld HE HI
      have hCL := HCL.out _ k hak (by omega) HG1.out
      rw [HEQ.out] at hCL
      have hcl := HG1.out.pl.cell
      go_wp2_with (first | (go_at_call 154; refine hCL.mono ?_; clear hCL; rintro e w3 ⟨u, rfl, ho, b3⟩; have su := ho.slB; obtain ⟨ad3, cap3, rfl, -, -, -, -⟩ := id su))
      all_goals go_ret2
      all_goals exact ⟨_, rfl, ho.lower HG1.out.bel.size, HG1.out.bel.trans (b3.mono HG1.out.bel.size)⟩
end Go.Proofs.YtdmindhjmjnagabGreatDoor
