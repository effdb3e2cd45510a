import Derived.Test.YtdmindhjmjnagaaGreatDoorSi
import Derived.Test.YtdmindhjmjnagaaGreatDoorB01
import Derived.Test.YtdmindhjmjnagaaGreatDoorB17
import Derived.Test.YtdmindhjmjnagaaGreatDoorB15
/- SpH VwD -/
namespace Go.Proofs.YtdmindhjmjnagaaGreatDoor
set_option linter.unusedVariables false
set_option maxRecDepth 1000000
set_option maxHeartbeats 32000000
section
open Go.RowKit
def SetTo (w : World) (g : Int → Bool) (n : Nat) (e : Ending) (w' : World) : Prop := ∃ v R, e = .returned v ∧ Own encS 56 w' w.heap.size v R ∧ Below w.heap.size w w' ∧ Is R g ∧ R.length ≤ n
theorem clean_calls (w : World) (u : Value) (a : List Sp) (h : Sl encS w u a) (hl : a.length ≤ 100000) : Calls Tryz.prog 50 #[u] w (SetTo w (mem a) (2 * a.length)) := by
 have hS := sweep_calls 94 (fun x _ => x) rfl (enters_of Tryz.func94 (by kernel_rfl) rfl) (fun W x y => clean1_calls W x y) w u (.slice none 0 0) a [] h (SlB.nil _ _ _) (by simpa using hl)
 clear h
 go_enter Tryz.func50, Tryz.ntmps50
 go_wp2_with (go_at_call 93; refine hS.mono ?_; rintro e w' ⟨v, R, rfl, o, b, i, l⟩)
 go_ret
 exact ⟨v, R, rfl, o, b, i, by simpa using l⟩
def eqSp (s u : Sp) : Bool := (s.F == u.F) && ((s.T == u.T) && (s.e == u.e))
theorem eqSp_iff (s u : Sp) : eqSp s u = true ↔ s = u := by
 constructor
 · intro h
   simp only [eqSp, Bool.and_eq_true, beq_iff_eq] at h
   exact Sp.ext' h.1 h.2.1 h.2.2
 · rintro rfl
   simp [eqSp]
instance : DecidableEq Sp := fun s u => decidable_of_iff _ (eqSp_iff s u)
theorem eqSp_dec (s u : Sp) : eqSp s u = decide (s = u) := by rw [Bool.eq_iff_iff, eqSp_iff]; simp
theorem sc_ext (F T : List UInt8) (e : Bool) (hF : F.length = 24) (hT : T.length = 24) : (sc F T e).toArray.extract 0 (0 + 24) = (bc F).toArray ∧ (sc F T e).toArray.extract 24 (24 + 24) = (bc T).toArray ∧ (sc F T e).toArray[48]? = some (.bool e) := by
 have h1 : (bc F).length = 24 := by rw [bc_length, hF]
 have h2 : (bc T).length = 24 := by rw [bc_length, hT]
 refine ⟨?_, ?_, ?_⟩
 · rw [List.extract_toArray, List.extract_eq_take_drop, sc, List.append_assoc, List.drop_zero, Nat.zero_add, Nat.sub_zero, List.take_append_of_le_length (by omega), List.take_of_length_le (by omega)]
 · rw [List.extract_toArray, List.extract_eq_take_drop, sc, List.append_assoc, List.drop_append_of_le_length (by omega), List.drop_of_length_le (by omega), List.nil_append, Nat.add_sub_cancel, List.take_append_of_le_length (by omega), List.take_of_length_le (by omega)]
 · rw [List.getElem?_toArray, sc, List.getElem?_append_right (by simp; omega)]
   simp [h1, h2]
theorem eq_sp (w : World) (s u : Sp) : (Op.equalIn 10000 56 (spv s) (spv u)).run Tryz.prog w = .ok (decide (s = u)) w := by
 rw [← eqSp_dec]
 have hf : (Tryz.prog.fieldsOf 56).toList.map (fun f => (f.name, f.type, f.offset)) = [("From", 54, 0), ("To", 54, 24), ("End", 4, 48)] := by kernel_rfl
 have hp : Tryz.prog.stoodInHeld 56 = false := by kernel_rfl
 have hu : Tryz.prog.underlying 56 = some (.struct (Tryz.prog.fieldsOf 56)) := by
  unfold Program.fieldsOf
  rw [Tryz.underlying56]
 rw [run_equalIn_struct w 9999 56 _ _ hu hp]
 generalize (Tryz.prog.fieldsOf 56).toList = fl at hf ⊢
 rcases fl with _ | ⟨a, _ | ⟨b, _ | ⟨c, _ | ⟨d, fl⟩⟩⟩⟩
 · simp at hf
 · simp at hf
 · simp at hf
 · simp only [List.map_cons, List.map_nil, List.cons.injEq, Prod.mk.injEq] at hf
   obtain ⟨⟨a1, a2, a3⟩, ⟨b1, b2, b3⟩, ⟨c1, c2, c3⟩, _⟩ := hf
   have p1 : ∀ (s : Sp) w, (part 54 (sc s.F s.T s.e).toArray 0).run Tryz.prog w = .ok (kv s.F) w := fun s w => by
    simp only [part, Sem.run_bind, Tryz.isAgg54, Tryz.sizeOf54, Result.andThen_ok, if_true, Sem.run_pure, (sc_ext s.F s.T s.e s.hF s.hT).1]
   have p2 : ∀ (s : Sp) w, (part 54 (sc s.F s.T s.e).toArray 24).run Tryz.prog w = .ok (kv s.T) w := fun s w => by
    simp only [part, Sem.run_bind, Tryz.isAgg54, Tryz.sizeOf54, Result.andThen_ok, if_true, Sem.run_pure, (sc_ext s.F s.T s.e s.hF s.hT).2.1]
   have p3 : ∀ (s : Sp) w, (part 4 (sc s.F s.T s.e).toArray 48).run Tryz.prog w = .ok (.bool s.e) w := fun s w => by
    simp only [part, Sem.run_bind, Tryz.isAgg4, Result.andThen_ok, (sc_ext s.F s.T s.e s.hF s.hT).2.2]
    simp
   have q1 : ∀ K L : List UInt8, K.length = 24 → L.length = 24 → ∀ w, (Op.equalIn 9999 54 (kv K) (kv L)).run Tryz.prog w = .ok (K == L) w := fun K L hK hL w =>
    run_equalIn_bytes (P := Tryz.prog) w 9997 54 5 24 Tryz.underlying54 Tryz.underlying5 Tryz.sizeOf5 K L hK hL
   have q3 : ∀ (x y : Bool) w, (Op.equalIn 9999 4 (.bool x) (.bool y)).run Tryz.prog w = .ok (x == y) w := fun x y w => by
    rw [run_equalIn_bool' w 9998 4 x y Tryz.underlying4]
   simp only [Op.eqFields, a1, a2, a3, b1, b2, b3, c1, c2, c3, Sem.run_bind, p1, p2, p3, q1 s.F u.F s.hF u.hF, q1 s.T u.T s.hT u.hT, q3, Result.andThen_ok, Sem.run_ite, Sem.run_pure]
   unfold eqSp
   generalize (s.F == u.F) = x
   generalize (s.T == u.T) = y
   generalize (s.e == u.e) = z
   cases x <;> cases y <;> cases z <;> simp
 · simp at hf
theorem exec_ne_sp {ρ : Operand → Value} {o : Oper} (x y : Operand) (t' : TypeId) (ho : o.op = .binOp .neq 56 x y t') (s u : Sp) (hx : ρ x = spv s) (hy : ρ y = spv u) (w : World) : (execOp ρ o).run Tryz.prog w = .ok (.value (.bool (!decide (s = u)))) w := by
 unfold execOp
 rw [ho]
 have hm : Tryz.prog.eqGuardType Tryz.prog.depth 56 = false := by kernel_rfl
 simp only [hx, hy, Sem.run_bind, run_eqGuard_agg w .neq 56 x y _ _ hm, run_neq_struct, eq_sp w s u, Result.andThen_ok, Sem.run_pure]
theorem take_eq_next {α : Type} {l m : List α} {k : Nat} (hk : k < l.length) (hm : k < m.length) (h : l.take k = m.take k) (e : l[k] = m[k]) : l.take (k + 1) = m.take (k + 1) := by
 rw [List.take_succ_eq_append_getElem hk, List.take_succ_eq_append_getElem hm, h, e]
theorem same_calls (w : World) (u u' : Value) (a b : List Sp) (h : Sl encS w u a) (h' : Sl encS w u' b) : Calls Tryz.prog 20 #[u, u'] w fun e w' => e = .returned (.bool (decide (a = b))) ∧ Below w.heap.size w w' := by
 have HA : Hid (Sl encS w u a) := h
 have HB : Hid (Sl encS w u' b) := h'
 obtain ⟨ad, cap, rfl, hcap, hmax, q1, q2⟩ := h
 obtain ⟨ad', cap', rfl, hcap', hmax', q3, q4⟩ := h'
 clear q1 q2 q3 q4
 by_cases hl : a.length = b.length
 rotate_left
 · have f : (((a.length : Nat) : Int) == ((b.length : Nat) : Int)) = false := by simpa using fun e : ((a.length : Nat) : Int) = ((b.length : Nat) : Int) => hl (by omega)
   have f2 : (a.length == b.length) = false := by simpa using hl
   go_enter Tryz.func20, Tryz.ntmps20
   go_wp2_with fail
   go_ret
   exact ⟨by rw [decide_eq_false (fun e => hl (by rw [e]))]; rfl, Below.refl _ _⟩
 have HGA : Hid (∀ i (hi : i < a.length), ∃ g off, ad = some ⟨g, off, none⟩ ∧ g < w.heap.size ∧ w.rangeAt g (off + i * 49) (encS.c a[i])) := fun i hi => SlB.at HA.out i hi
 have HGB : Hid (∀ i (hi : i < b.length), ∃ g off, ad' = some ⟨g, off, none⟩ ∧ g < w.heap.size ∧ w.rangeAt g (off + i * 49) (encS.c b[i])) := fun i hi => SlB.at HB.out i hi
 obtain ⟨N, hN⟩ : ∃ N : Nat, N = a.length := ⟨_, rfl⟩
 have HN : Hid (N = a.length ∧ N = b.length) := ⟨hN, by omega⟩
 have hNb : b.length = N := by omega
 rw [← hN] at hcap hmax ⊢
 rw [hNb] at hcap' ⊢
 clear hNb
 have HM : Hid (∀ k : Nat, k < N → wrap64 ((k : Int) + 1) = ((k + 1 : Nat) : Int)) := fun k hk => wrap_next hk hmax
 clear hN hl HA HB hmax hmax'
 go_enter Tryz.func20, Tryz.ntmps20
 go_wp2_with fail
 go_loopg [5] N (fun gg i wr => ∃ k n : Nat, k + gg = N ∧ i = .int .i64 (k : Int) ∧ wr = w.drewN n ∧ Hid (a.take k = b.take k))
 case atStart => exact ⟨0, 0, by omega, rfl, rfl, (show a.take 0 = b.take 0 by simp)⟩
 case round =>
  obtain ⟨k, n, hkg, rfl, rfl, HT⟩ := hrel
  cases gk with
  | zero =>
   have hkN : k = N := by omega
   subst hkN
   go_wp2_with fail
   go_ret
   refine ⟨?_, below_drewN (Below.refl _ _) n⟩
   have h1 := HT.out
   rw [List.take_of_length_le (by have := HN.out.1; omega), List.take_of_length_le (by have := HN.out.2; omega)] at h1
   rw [decide_eq_true h1]
   rfl
  | succ gg =>
   have hlt : k < N := by omega
   have hltI : (k : Int) < (N : Int) := by omega
   have hk0 : (0 : Int) ≤ (k : Int) := by omega
   have hka : k < a.length := by have := HN.out.1; omega
   have hkb : k < b.length := by have := HN.out.2; omega
   obtain ⟨ga, oa, rfl, _, rA⟩ := HGA.out k hka
   obtain ⟨gb, ob, rfl, _, rB⟩ := HGB.out k hkb
   have HNX : Hid (a[k] = b[k] → a.take (k + 1) = b.take (k + 1)) := fun e => take_eq_next hka hkb HT.out e
   have HNE : Hid (¬ a[k] = b[k] → ¬ a = b) := fun e q => e (by subst q; rfl)
   have HKS : Hid (wrap64 ((k : Int) + 1) = ((k + 1 : Nat) : Int)) := HM.out k hlt
   generalize a[k] = s at *
   generalize b[k] = t at *
   have hiA : (Tryz.prog.info? 56).map (·.size) = some (encS.c s).length := by rw [encS.len]; exact Tryz.span_info
   have hiB : (Tryz.prog.info? 56).map (·.size) = some (encS.c t).length := by rw [encS.len]; exact Tryz.span_info
   go_upto_region 6 with fail
   refine wp_region_noPanic ?_
   refine wp_region_held_drew (S := (fun yy => yy.rangeAt ga (oa + k * 49) (encS.c s) ∧ yy.rangeAt gb (ob + k * 49) (encS.c t))) (by kernel_rfl) ⟨rA, rB⟩ (fun hh => ?_)
   refine tl ?_ 0 rfl hh ⟨by rfl, ?_⟩ ?_
   case refine_2 => (intro w hSw; go_simp; try with_reducible rfl)
   (try simp only [gs])
   refine tl ?_ 1 rfl hh ⟨by rfl, ?_⟩ ?_
   case refine_2 => (intro w hSw; go_simp; try with_reducible rfl)
   (try simp only [gs])
   refine tl ?_ 2 rfl hh ⟨by rfl, ?_⟩ ?_
   case refine_2 => (intro w hSw; go_simp; try with_reducible rfl)
   (try simp only [gs])
   refine tk 3 rfl hh (yieldsIf_load_mid (by rfl) _ _ rfl _ _ rfl _ _ (fun _ h => h.1) Tryz.underlying56 rfl hiA) ?_
   (try simp only [gs])
   refine tl ?_ 4 rfl hh ⟨by rfl, ?_⟩ ?_
   case refine_2 => (intro w hSw; go_simp; try with_reducible rfl)
   (try simp only [gs])
   refine tl ?_ 5 rfl hh ⟨by rfl, ?_⟩ ?_
   case refine_2 => (intro w hSw; go_simp; try with_reducible rfl)
   (try simp only [gs])
   refine tl ?_ 6 rfl hh ⟨by rfl, ?_⟩ ?_
   case refine_2 => (intro w hSw; go_simp; try with_reducible rfl)
   (try simp only [gs])
   refine tk 7 rfl hh (yieldsIf_load_mid (by rfl) _ _ rfl _ _ rfl _ _ (fun _ h => h.2) Tryz.underlying56 rfl hiB) ?_
   (try simp only [gs])
   refine wpAnyH_take (i := 8) (v := .bool (!decide (s = t))) rfl (by kernel_rfl) (by kernel_rfl) (by kernel_rfl) (fun _ _ _ h => h) (Or.inl ⟨by rfl, fun w _ => exec_ne_sp _ _ _ rfl s t rfl rfl w⟩) hh ?_
   (try simp only [gs])
   refine wpAnyH_done (by kernel_rfl) ?_ _
   refine NoPanic.normal ?_
   by_cases hst : s = t
   · have e : decide (s = t) = true := decide_eq_true hst
     have HST : Hid (s = t) := hst
     clear hst
     rw [e]
     simp only [Bool.not_true]
     go_wp2_with fail
     go_roundg gg
     case measure => omega
     case rel => exact ⟨k + 1, n + 1, by omega, congrArg (Value.int .i64) HKS.out, rfl, HNX.out HST.out⟩
   · have e : decide (s = t) = false := decide_eq_false hst
     have HST : Hid (¬ s = t) := hst
     clear hst
     rw [e]
     simp only [Bool.not_false]
     go_wp2_with fail
     go_ret
     exact ⟨by rw [decide_eq_false (HNE.out HST.out)]; rfl, below_drewN (Below.refl _ _) (n + 1)⟩
end
section
open Go.RowKit
theorem eqlP_nil (w : World) (a : Option Addr) (n c n' c' : Nat) : (binOp .eql 41 (.slice a n c) (.slice none n' c')).run Tryz.prog w = .ok (.bool a.isNone) w := Lib.run_eql_slice_nil w _ _ a n c n' c' Tryz.underlying41
theorem own_zero (w : World) : Own encP 62 (w.alloc (.cells #[] 62)) w.heap.size (.slice (some ⟨w.heap.size, 0, none⟩) 0 0) [] :=
 ⟨by simp [Enc.flat], .inr ⟨w.heap.size, 0, #[], rfl, Nat.le_refl _, heap_alloc_new _ _, Nat.le_refl _, Nat.zero_le _, by simp, by simp [Enc.flat]⟩⟩
theorem cloneP_calls (w : World) (u : Value) (l : List Pa) (h : Sl encP w u l) (hl : l.length ≤ 100000) :
    Calls Tryz.prog 233 #[u] w fun e w' => ∃ v, e = .returned v ∧ Own encP 62 w' w.heap.size v l ∧ Below w.heap.size w w' := by
 obtain ⟨ad, cap, rfl, hcap, hmax, hn, hc⟩ := id h
 cases ad with
 | none =>
  have hl0 : l = [] := by
   rcases hc with hc | ⟨g, off, q, _⟩
   · exact hc
   · cases q
  subst hl0
  have hc0 : cap = 0 := hn rfl
  subst hc0
  have hq := eqlP_nil w none 0 0 0 0
  clear hc hn h
  go_enter Tryz.func233, Tryz.ntmps233
  go_wp2_with fail
  go_ret
  exact ⟨_, rfl, Own.nil _ _ _ _, Below.refl _ _⟩
 | some A =>
  have hq := eqlP_nil w (some A) l.length cap 0 0
  have BX : Below w.heap.size w (w.alloc (.cells #[] 62)) := (Below.refl _ w).alloc (Nat.le_refl _) _
  have hs := Sl.called h BX
  have ho := own_zero w
  have HB : Hid (Below w.heap.size w (w.alloc (.cells #[] 62))) := BX
  have HN : Hid (([] : List Pa).length + l.length ≤ 1000000 ∧ w.heap.size ≤ (w.alloc (.cells #[] 62)).heap.size) := ⟨by simp; omega, by simp⟩
  clear hc hn h hcap hmax BX
  generalize hN0 : l.length = N0 at *
  go_enter Tryz.func233, Tryz.ntmps233
  go_wp2_with (at_builtin; refine append_slB rowP rfl _ _ rfl w.heap.size _ [] l rfl ho _ rfl _ hs (by rw [hN0]; exact HN.out.1) (by decide) HN.out.2 ?_; intro v' x1 ho1 gr1)
  go_ret
  exact ⟨_, rfl, by simpa using ho1, HB.out.grown gr1 HB.out.size (fun j hj => by cases hj; exact Nat.le_refl _)⟩
structure SnS (w y : World) (p : Nat) (v : Value) (L : List Pa) (s : Sp) : Prop where
 bel : Below w.heap.size w y
 pl : PlIn y p v L
 box : HasS y w.heap.size s.F s.T s.e
theorem SnS.called {w y z : World} {p : Nat} {v : Value} {L : List Pa} {s : Sp} (h : SnS w y p v L s) (b : Below y.heap.size y z) : SnS w z p v L s := ⟨h.bel.trans (b.mono h.bel.size), h.pl.called b, h.box.below b h.box.lt⟩
theorem SnS.drew {w y : World} {p : Nat} {v : Value} {L : List Pa} {s : Sp} (h : SnS w y p v L s) : SnS w y.drew p v L s := h.called ⟨rfl, rfl, rfl, Nat.le_refl _, fun _ _ => rfl⟩
theorem SnS.span {w y : World} {p : Nat} {v : Value} {L : List Pa} {s : Sp} (h : SnS w y p v L s) : y.rangeAt w.heap.size 0 (sc s.F s.T s.e) := fun j v hv => by
 rw [Nat.zero_add, cell_of_row _ _ _ _ _ _ h.box.blk]
 simpa using hv
theorem pscan_calls (w : World) (p : Nat) (v : Value) (L : List Pa) (s : Sp) (h : PlIn w p v L) (hl : L.length ≤ 100000) :
    Calls Tryz.prog 231 #[.pointer (some ⟨p, 0, none⟩), sv s.F s.T s.e] w fun e w' => ∃ u, e = .returned (.tuple #[u, .int .i64 0]) ∧ Own encP 62 w' w.heap.size u (scanL s L) ∧ Below w.heap.size w w' := by
 have b1 : Below w.heap.size w (w.alloc (.cells (sc s.F s.T s.e).toArray 56)) := (Below.refl _ w).alloc (Nat.le_refl _) _
 have h1 := h.called b1
 have hS1 : HasS (w.alloc (.cells (sc s.F s.T s.e).toArray 56)) w.heap.size s.F s.T s.e := HasS.new w _ _ _ s.hF s.hT
 have hsF := hS1.ofF
 have hF := find_calls _ p v L ⟨s.F, s.hF⟩ h1 hl
 have HS : Hid (SnS w (w.alloc (.cells (sc s.F s.T s.e).toArray 56)) p v L s) := ⟨b1, h1, hS1⟩
 have HA : Hid (Asc Pa.n L) := h.asc
 have hpl := posA_le Pa.n L (Kz.n ⟨s.F, s.hF⟩)
 have HPE : Hid (posA Pa.n L (Kz.n ⟨s.F, s.hF⟩) = posA Pa.n L (num s.F)) := rfl
 obtain ⟨ad, cap, rfl, hcap, hmax, -, -⟩ := id h.sl
 obtain ⟨N, hN⟩ : ∃ N : Nat, N = L.length := ⟨_, rfl⟩
 rw [← hN] at hcap hmax hl hpl HS
 have HN : Hid (N = L.length) := hN
 have HI : Hid (∀ i (hi : i < L.length), ∃ g off, ad = some ⟨g, off, none⟩ ∧ g < w.heap.size ∧ w.rangeAt g (off + i * 25) (encP.c L[i])) := fun i hi => SlB.at h.sl i hi
 have HCL : Hid (∀ y b, posA Pa.n L (num s.F) ≤ b → b ≤ N → SnS w y p (.slice ad N cap) L s → Calls Tryz.prog 233 #[.slice (if cap = posA Pa.n L (num s.F) then ad else ad.map (·.add (posA Pa.n L (num s.F) * 25))) (b - posA Pa.n L (num s.F)) (cap - posA Pa.n L (num s.F))] y fun e w' => ∃ v, e = .returned v ∧ Own encP 62 w' y.heap.size v ((L.take b).drop (posA Pa.n L (num s.F))) ∧ Below y.heap.size y w') := fun y b hab hb hy => by
  have t1 := SlB.take hy.pl.sl b (by rw [← hN]; exact hb)
  have t2 := SlB.drop t1 (posA Pa.n L (num s.F)) (by rw [List.length_take]; omega)
  exact cloneP_calls y _ _ t2 (by rw [List.length_drop, List.length_take]; omega)
 have HCP : Hid ((Tryz.prog.info? 54).map (·.size) = some 24) := Tryz.key_info
 have HCS : Hid ((Tryz.prog.info? 56).map (·.size) = some 49) := Tryz.span_info
 have HSL : Hid ((sc s.F s.T s.e).length = 49) := (show _ = _ by have := sv_size s.F s.T s.e s.hF s.hT; simpa using this)
 rw [HPE.out] at hF hpl
 generalize hitA Pa.n L (Kz.n ⟨s.F, s.hF⟩) = hit at *
 have HSF : Hid (∀ b, posA Pa.n L (num s.F) ≤ b → b ≤ L.length → (∀ j (hj : j < L.length), posA Pa.n L (num s.F) ≤ j → j < b → s.inb (L[j]).n = true) → (∀ h : b < L.length, s.inb (L[b]).n = false) → (L.take b).drop (posA Pa.n L (num s.F)) = scanL s L) := fun b => scan_filter h.asc s b
 generalize posA Pa.n L (num s.F) = a at *
 clear h h1 b1 hN HPE
 go_enter Tryz.func231, Tryz.ntmps231
 go_wp2_with (first
  | (refine load_part _ rfl w.heap.size 0 rfl rfl _ s.hF hsF ?_)
  | (go_at_call 232; refine hF.mono ?_; clear hF; rintro e w1 ⟨rfl, b2⟩))
 have HST : Hid (SnS w w1 p (.slice ad N cap) L s) := HS.out.called b2
 clear b2 hS1 hsF HS
 go_loopg [8] (N - a) (fun gg s8 wr => ∃ k : Nat, k + gg = N ∧ a ≤ k ∧ s8 = .int .i64 (k : Int) ∧ Hid (SnS w wr p (.slice ad N cap) L s ∧ ∀ j (hj : j < L.length), a ≤ j → j < k → s.inb (L[j]).n = true))
 case atStart => exact ⟨a, by omega, Nat.le_refl _, rfl, (⟨HST.out, fun j _ h1 h2 => by omega⟩ : _ ∧ _)⟩
 case round =>
  clear HST
  obtain ⟨k, hkg, hak, rfl, HE⟩ := hrel
  have hk0 : (0 : Int) ≤ (k : Int) := by omega
  have ha0 : (0 : Int) ≤ (a : Int) := by omega
  have hakI : (a : Int) ≤ (k : Int) := by omega
  by_cases hkN : k < N
  · have hkI : (k : Int) < (N : Int) := by omega
    have hkl : k < L.length := by rw [← HN.out]; exact hkN
    have hkc : (k : Int) ≤ (cap : Int) := by omega
    have HADL := HI.out k hkl
    obtain ⟨g0, off, hae, hg0, hat⟩ := HADL
    have HX : Hid (∀ y, SnS w y p (.slice ad N cap) L s → y.rangeAt g0 (off + k * 25) (bc (L[k]).k)) := fun y hy => range_kP (range_same' hat (hy.bel.block g0 hg0))
    have hOR : Hid (∀ y, Calls Tryz.prog 99 #[sv s.F s.T s.e, kv (L[k]).k] y fun e w' => e = .returned (.bool (s.inb (L[k]).n)) ∧ Below y.heap.size y w') := fun y => by
     have := in_calls y s.F s.T s.e (L[k]).k s.hF s.hT (L[k]).h
     rw [in_num s _ (L[k]).h] at this
     exact this
    have HST2 : Hid (∀ y, SnS w y p (.slice ad N cap) L s → s.inb (L[k]).n = true → SnS w y p (.slice ad N cap) L s ∧ ∀ j (hj : j < L.length), a ≤ j → j < k + 1 → s.inb (L[j]).n = true) := fun y hy hq => ⟨hy, fun j hj h1 h2 => by
     rcases Nat.lt_or_ge j k with h | h
     · exact HE.out.2 j hj h1 h
     · have : j = k := by omega
       subst this
       exact hq⟩
    have HEQ0 : Hid (s.inb (L[k]).n = false → (L.take k).drop a = scanL s L) := fun hq => HSF.out k hak (by omega) HE.out.2 (fun _ => hq)
    generalize L[k] = q at *
    have HEP : Hid ((bc q.k).length = 24) := (show _ = _ by rw [bc_length, q.h])
    clear hat hkl
    subst hae
    cases hbb : s.inb q.n with
    | true =>
     rw [hbb] at hOR
     have HBB : Hid (s.inb q.n = true) := hbb
     clear hbb HEQ0
     go_upto_region 3 with fail
     refine wp_region_noPanic ?_
     refine wp_region_held_drew (S := (fun y => SnS w y p (.slice (some ⟨g0, off, none⟩) N cap) L s)) (by kernel_rfl) (HE.out.1.drew) (fun hh => ?_)
     refine tl ?_ 0 rfl hh ⟨by rfl, ?_⟩ ?_
     case refine_2 => (intro w hSw; go_simp; try with_reducible rfl)
     (try simp only [gs])
     refine tl ?_ 1 rfl hh ⟨by rfl, ?_⟩ ?_
     case refine_2 => (intro w hSw; go_simp; try with_reducible rfl)
     (try simp only [gs])
     refine tl ?_ 2 rfl hh ⟨by rfl, ?_⟩ ?_
     case refine_2 => (intro w hSw; go_simp; try with_reducible rfl)
     (try simp only [gs])
     refine tl ?_ 3 rfl hh ⟨by rfl, ?_⟩ ?_
     case refine_2 => (intro w hSw; go_simp; try with_reducible rfl)
     (try simp only [gs])
     refine tl ?_ 4 rfl hh ⟨by rfl, ?_⟩ ?_
     case refine_2 => (intro w hSw; have hc := hSw.pl.cell; go_simp; try with_reducible rfl)
     (try simp only [gs])
     refine tl ?_ 5 rfl hh ⟨by rfl, ?_⟩ ?_
     case refine_2 => (intro w hSw; go_simp; try with_reducible rfl)
     (try simp only [gs])
     refine tk (v := .bool true) 6 rfl hh (Or.inl ⟨by rfl, ?_⟩) ?_
     case refine_1 => (intro w hSw; go_simp; first | done | rfl)
     (try simp only [gs])
     refine tl ?_ 7 rfl hh ⟨by rfl, ?_⟩ ?_
     case refine_2 => (intro w hSw; go_simp; try with_reducible rfl)
     (try simp only [gs])
     refine tk 8 rfl hh (yieldsIf_load_mid (by rfl) _ _ rfl _ _ rfl _ _ (fun y h => SnS.span h) Tryz.underlying56 rfl (by rw [HSL.out]; exact HCS.out)) ?_
     (try simp only [gs])
     refine tl ?_ 9 rfl hh ⟨by rfl, ?_⟩ ?_
     case refine_2 => (intro w hSw; go_simp; try with_reducible rfl)
     (try simp only [gs])
     refine tl ?_ 10 rfl hh ⟨by rfl, ?_⟩ ?_
     case refine_2 => (intro w hSw; go_simp; try with_reducible rfl)
     (try simp only [gs])
     refine tl ?_ 11 rfl hh ⟨by rfl, ?_⟩ ?_
     case refine_2 => (intro w hSw; go_simp; try with_reducible rfl)
     (try simp only [gs])
     refine tl ?_ 12 rfl hh ⟨by rfl, ?_⟩ ?_
     case refine_2 => (intro w hSw; have hc := hSw.pl.cell; go_simp; try with_reducible rfl)
     (try simp only [gs])
     refine tl ?_ 13 rfl hh ⟨by rfl, ?_⟩ ?_
     case refine_2 => (intro w hSw; go_simp; try with_reducible rfl)
     (try simp only [gs])
     refine tl ?_ 14 rfl hh ⟨by rfl, ?_⟩ ?_
     case refine_2 => (intro w hSw; go_simp; try with_reducible rfl)
     (try simp only [gs])
     refine tl ?_ 15 rfl hh ⟨by rfl, ?_⟩ ?_
     case refine_2 => (intro w hSw; go_simp; try with_reducible rfl)
     (try simp only [gs])
     refine tk 16 rfl hh (yieldsIf_load_mid (by rfl) _ _ rfl _ _ rfl _ _ (fun y h => HX.out y h) Tryz.underlying54 rfl (by rw [HEP.out]; exact HCP.out)) ?_
     (try simp only [gs])
     generalize wr.drew = y1 at *
     refine wpAnyH_ready (rs := [17]) (by kernel_rfl) (by simp) (AllReadyH.cons rfl (fun K hK => ?_) AllReadyH.nil)
     rw [if_pos (by rfl)]
     (try simp only [gs])
     go_simp
     refine (hOR.out _).mono ?_
     rintro e y2 ⟨rfl, b1⟩
     refine hK.out _ _ (hh.called b1) (fun g1 => ?_)
     clear hK K
     (try simp only [gs])
     refine tk (v := .bool true) 18 rfl g1 (Or.inl ⟨by rfl, ?_⟩) ?_
     case refine_1 => (intro w hSw; go_simp; first | done | rfl)
     (try simp only [gs])
     refine wpAnyH_done (by kernel_rfl) ?_ _
     refine NoPanic.normal ?_
     have HG1 : Hid (SnS w y2 p (.slice (some ⟨g0, off, none⟩) N cap) L s) := g1
     clear g1 hh b1 hOR HX HI
     go_wp2_with fail
     go_roundg (N - (k + 1))
     case measure => omega
     case rel => exact ⟨k + 1, by omega, by omega, congrArg (Value.int .i64) (by first | omega | (unfold wrap64; omega)), HST2.out _ HG1.out HBB.out⟩
    | false =>
     rw [hbb] at hOR
     have HEQ : Hid ((L.take k).drop a = scanL s L) := HEQ0.out hbb
     clear hbb HEQ0 HST2
     go_upto_region 3 with fail
     refine wp_region_noPanic ?_
     refine wp_region_held_drew (S := (fun y => SnS w y p (.slice (some ⟨g0, off, none⟩) N cap) L s)) (by kernel_rfl) (HE.out.1.drew) (fun hh => ?_)
     refine tl ?_ 0 rfl hh ⟨by rfl, ?_⟩ ?_
     case refine_2 => (intro w hSw; go_simp; try with_reducible rfl)
     (try simp only [gs])
     refine tl ?_ 1 rfl hh ⟨by rfl, ?_⟩ ?_
     case refine_2 => (intro w hSw; go_simp; try with_reducible rfl)
     (try simp only [gs])
     refine tl ?_ 2 rfl hh ⟨by rfl, ?_⟩ ?_
     case refine_2 => (intro w hSw; go_simp; try with_reducible rfl)
     (try simp only [gs])
     refine tl ?_ 3 rfl hh ⟨by rfl, ?_⟩ ?_
     case refine_2 => (intro w hSw; go_simp; try with_reducible rfl)
     (try simp only [gs])
     refine tl ?_ 4 rfl hh ⟨by rfl, ?_⟩ ?_
     case refine_2 => (intro w hSw; have hc := hSw.pl.cell; go_simp; try with_reducible rfl)
     (try simp only [gs])
     refine tl ?_ 5 rfl hh ⟨by rfl, ?_⟩ ?_
     case refine_2 => (intro w hSw; go_simp; try with_reducible rfl)
     (try simp only [gs])
     refine tk (v := .bool true) 6 rfl hh (Or.inl ⟨by rfl, ?_⟩) ?_
     case refine_1 => (intro w hSw; go_simp; first | done | rfl)
     (try simp only [gs])
     refine tl ?_ 7 rfl hh ⟨by rfl, ?_⟩ ?_
     case refine_2 => (intro w hSw; go_simp; try with_reducible rfl)
     (try simp only [gs])
     refine tk 8 rfl hh (yieldsIf_load_mid (by rfl) _ _ rfl _ _ rfl _ _ (fun y h => SnS.span h) Tryz.underlying56 rfl (by rw [HSL.out]; exact HCS.out)) ?_
     (try simp only [gs])
     refine tl ?_ 9 rfl hh ⟨by rfl, ?_⟩ ?_
     case refine_2 => (intro w hSw; go_simp; try with_reducible rfl)
     (try simp only [gs])
     refine tl ?_ 10 rfl hh ⟨by rfl, ?_⟩ ?_
     case refine_2 => (intro w hSw; go_simp; try with_reducible rfl)
     (try simp only [gs])
     refine tl ?_ 11 rfl hh ⟨by rfl, ?_⟩ ?_
     case refine_2 => (intro w hSw; go_simp; try with_reducible rfl)
     (try simp only [gs])
     refine tl ?_ 12 rfl hh ⟨by rfl, ?_⟩ ?_
     case refine_2 => (intro w hSw; have hc := hSw.pl.cell; go_simp; try with_reducible rfl)
     (try simp only [gs])
     refine tl ?_ 13 rfl hh ⟨by rfl, ?_⟩ ?_
     case refine_2 => (intro w hSw; go_simp; try with_reducible rfl)
     (try simp only [gs])
     refine tl ?_ 14 rfl hh ⟨by rfl, ?_⟩ ?_
     case refine_2 => (intro w hSw; go_simp; try with_reducible rfl)
     (try simp only [gs])
     refine tl ?_ 15 rfl hh ⟨by rfl, ?_⟩ ?_
     case refine_2 => (intro w hSw; go_simp; try with_reducible rfl)
     (try simp only [gs])
     refine tk 16 rfl hh (yieldsIf_load_mid (by rfl) _ _ rfl _ _ rfl _ _ (fun y h => HX.out y h) Tryz.underlying54 rfl (by rw [HEP.out]; exact HCP.out)) ?_
     (try simp only [gs])
     generalize wr.drew = y1 at *
     refine wpAnyH_ready (rs := [17]) (by kernel_rfl) (by simp) (AllReadyH.cons rfl (fun K hK => ?_) AllReadyH.nil)
     rw [if_pos (by rfl)]
     (try simp only [gs])
     go_simp
     refine (hOR.out _).mono ?_
     rintro e y2 ⟨rfl, b1⟩
     refine hK.out _ _ (hh.called b1) (fun g1 => ?_)
     clear hK K
     (try simp only [gs])
     refine tk (v := .bool false) 18 rfl g1 (Or.inl ⟨by rfl, ?_⟩) ?_
     case refine_1 => (intro w hSw; go_simp; first | done | rfl)
     (try simp only [gs])
     refine wpAnyH_done (by kernel_rfl) ?_ _
     refine NoPanic.normal ?_
     have HG1 : Hid (SnS w y2 p (.slice (some ⟨g0, off, none⟩) N cap) L s) := g1
     clear g1 hh b1 hOR HX HI
     clear HE
     generalize (some ⟨g0, off, none⟩ : Option Addr) = ad at *
     have hCL := HCL.out _ k hak (by omega) HG1.out
     rw [HEQ.out] at hCL
     have hca : ¬ cap = a := by omega
     rw [if_neg hca] at hCL
     have hcl := HG1.out.pl.cell
     go_wp2_with (first | (go_at_call 233; refine hCL.mono ?_; clear hCL; rintro e w3 ⟨u, rfl, ho, b3⟩; have su := ho.slB; obtain ⟨ad3, cap3, rfl, -, -, -, -⟩ := id su))
     all_goals go_ret2
     all_goals exact ⟨_, rfl, ho.lower HG1.out.bel.size, HG1.out.bel.trans (b3.mono HG1.out.bel.size)⟩
  · have hkE : k = N := by omega
    subst hkE
    have hkc : (k : Int) ≤ (cap : Int) := by omega
    have HEQ : Hid ((L.take k).drop a = scanL s L) := HSF.out k hak (by have := HN.out; omega) HE.out.2 (fun h => by have := HN.out; omega)
    go_upto_region 3 with fail
    refine wp_region_noPanic ?_
    refine wp_region_held_drew (S := (fun y => SnS w y p (.slice ad k cap) L s)) (by kernel_rfl) (HE.out.1.drew) (fun hh => ?_)
    refine tl ?_ 0 rfl hh ⟨by rfl, ?_⟩ ?_
    case refine_2 => (intro w hSw; go_simp; try with_reducible rfl)
    (try simp only [gs])
    refine tl ?_ 1 rfl hh ⟨by rfl, ?_⟩ ?_
    case refine_2 => (intro w hSw; go_simp; try with_reducible rfl)
    (try simp only [gs])
    refine tl ?_ 2 rfl hh ⟨by rfl, ?_⟩ ?_
    case refine_2 => (intro w hSw; go_simp; try with_reducible rfl)
    (try simp only [gs])
    refine tl ?_ 3 rfl hh ⟨by rfl, ?_⟩ ?_
    case refine_2 => (intro w hSw; go_simp; try with_reducible rfl)
    (try simp only [gs])
    refine tl ?_ 4 rfl hh ⟨by rfl, ?_⟩ ?_
    case refine_2 => (intro w hSw; have hc := hSw.pl.cell; go_simp; try with_reducible rfl)
    (try simp only [gs])
    refine tl ?_ 5 rfl hh ⟨by rfl, ?_⟩ ?_
    case refine_2 => (intro w hSw; go_simp; try with_reducible rfl)
    (try simp only [gs])
    refine tk (v := .bool false) 6 rfl hh (Or.inl ⟨by rfl, ?_⟩) ?_
    case refine_1 => (intro w hSw; go_simp; first | done | rfl)
    (try simp only [gs])
    refine tl ?_ 7 rfl hh ⟨by rfl, ?_⟩ ?_
    case refine_2 => (intro w hSw; go_simp; try with_reducible rfl)
    (try simp only [gs])
    refine tk (v := undef) 8 rfl hh (Or.inr ⟨by rfl, rfl⟩) ?_
    (try simp only [gs])
    refine tk (v := undef) 9 rfl hh (Or.inr ⟨by rfl, rfl⟩) ?_
    (try simp only [gs])
    refine tk (v := undef) 10 rfl hh (Or.inr ⟨by rfl, rfl⟩) ?_
    (try simp only [gs])
    refine tk (v := undef) 11 rfl hh (Or.inr ⟨by rfl, rfl⟩) ?_
    (try simp only [gs])
    refine tk (v := undef) 12 rfl hh (Or.inr ⟨by rfl, rfl⟩) ?_
    (try simp only [gs])
    refine tk (v := undef) 13 rfl hh (Or.inr ⟨by rfl, rfl⟩) ?_
    (try simp only [gs])
    refine tk (v := undef) 14 rfl hh (Or.inr ⟨by rfl, rfl⟩) ?_
    (try simp only [gs])
    refine tk (v := undef) 15 rfl hh (Or.inr ⟨by rfl, rfl⟩) ?_
    (try simp only [gs])
    refine tk (v := undef) 16 rfl hh (Or.inr ⟨by rfl, rfl⟩) ?_
    (try simp only [gs])
    refine tk (v := undef) 17 rfl hh (Or.inr ⟨by rfl, rfl⟩) ?_
    (try simp only [gs])
    refine tk (v := .bool false) 18 rfl hh (Or.inl ⟨by rfl, ?_⟩) ?_
    case refine_1 => (intro w hSw; go_simp; first | done | rfl)
    (try simp only [gs])
    refine wpAnyH_done (by kernel_rfl) ?_ _
    refine NoPanic.normal ?_
    have HG1 : Hid (SnS w wr.drew p (.slice ad k cap) L s) := hh
    clear hh HE HI
    have hCL := HCL.out _ k hak (by omega) HG1.out
    rw [HEQ.out] at hCL
    have hcl := HG1.out.pl.cell
    go_wp2_with (first | (go_at_call 233; refine hCL.mono ?_; clear hCL; rintro e w3 ⟨u, rfl, ho, b3⟩; have su := ho.slB; obtain ⟨ad3, cap3, rfl, -, -, -, -⟩ := id su))
    all_goals go_ret2
    all_goals exact ⟨_, rfl, ho.lower HG1.out.bel.size, HG1.out.bel.trans (b3.mono HG1.out.bel.size)⟩
end
end Go.Proofs.YtdmindhjmjnagaaGreatDoor
