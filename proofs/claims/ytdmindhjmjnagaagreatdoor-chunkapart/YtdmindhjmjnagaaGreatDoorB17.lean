import Derived.Test.YtdmindhjmjnagaaGreatDoorB03
import Derived.Test.YtdmindhjmjnagaaGreatDoorB07
import Derived.Test.YtdmindhjmjnagaaGreatDoorB16
import Derived.Test.YtdmindhjmjnagaaGreatDoorB15
import Derived.Test.YtdmindhjmjnagaaGreatDoorSi
/- Spans, edges and keys in memory; the small calls of package span. -/
namespace Go.Proofs.YtdmindhjmjnagaaGreatDoor
set_option linter.unusedVariables false
set_option maxRecDepth 100000
open Go.RowKit

/-- A key as an element. -/
structure Ky where
  k : List UInt8
  h : k.length = 24
instance : Inhabited Ky := ⟨⟨zs 24, rfl⟩⟩
instance : Inhabited Sp := ⟨⟨zs 24, zs 24, false, rfl, rfl⟩⟩
def encK : Enc Ky 24 := ⟨fun x => bc x.k, fun x => by rw [bc_length, x.h], fun x => bc_one x.k⟩
def encS : Enc Sp 49 := ⟨fun s => sc s.F s.T s.e, fun s => by simp [sc, bc_length, s.hF, s.hT], fun s v hv => by
  simp only [sc, List.mem_append, List.mem_singleton] at hv
  rcases hv with (h | h) | rfl
  · exact bc_one _ v h
  · exact bc_one _ v h
  · rfl⟩
def ecd (e : Ed) : List Value := bc e.k ++ [.int .i64 e.a, .int .i64 e.b]
def encE : Enc Ed 26 := ⟨ecd, fun e => by simp [ecd, bc_length, e.hk], fun e v hv => by
  simp only [ecd, List.mem_append, List.mem_cons, List.not_mem_nil, or_false] at hv
  rcases hv with h | rfl | rfl
  · exact bc_one _ v h
  · rfl
  · rfl⟩
abbrev spv (s : Sp) : Value := sv s.F s.T s.e
abbrev edv (e : Ed) : Value := .agg (ecd e).toArray
theorem rowS : RowTy Tryz.prog encS 42 56 49 := ⟨Tryz.underlying42, ⟨.agg (sc (zs 24) (zs 24) false).toArray, by kernel_rfl, by simp [Value.cells, sc, bc_length, zs_length]⟩, by decide⟩
theorem rowE : RowTy Tryz.prog encE 186 189 40 := ⟨Tryz.underlying186, ⟨.agg (ecd ⟨zs 24, 0, 0, rfl⟩).toArray, by kernel_rfl, by simp [Value.cells, ecd, bc_length, zs_length]⟩, by decide⟩
theorem elS : ElTy Tryz.prog encS 56 := ⟨⟨_, Tryz.underlying56, rfl, rfl⟩, Tryz.span_info⟩
theorem elE : ElTy Tryz.prog encE 189 := ⟨⟨_, Tryz.underlying189, rfl, rfl⟩, by kernel_rfl⟩
theorem HasS.inB {w : World} {b : Nat} {s : Sp} (h : HasS w b s.F s.T s.e) : InB encS 56 w b s := ⟨h.blk⟩
theorem InB.hasS {w : World} {b : Nat} {s : Sp} (h : InB encS 56 w b s) : HasS w b s.F s.T s.e := ⟨s.hF, s.hT, h.blk⟩
theorem range_F {w : World} {g o : Nat} {s : Sp} (h : w.rangeAt g o (encS.c s)) : w.rangeAt g o (bc s.F) := fun j v hv => by
  refine h j v ?_
  show (sc s.F s.T s.e)[j]? = some v
  rw [sc, List.append_assoc, List.getElem?_append_left (List.getElem?_eq_some_iff.1 hv).1]
  exact hv
theorem range_T {w : World} {g o : Nat} {s : Sp} (h : w.rangeAt g o (encS.c s)) : w.rangeAt g (o + 24) (bc s.T) := fun j v hv => by
  have hj := (List.getElem?_eq_some_iff.1 hv).1
  have := h (24 + j) v (by
    show (sc s.F s.T s.e)[24 + j]? = some v
    rw [sc, List.append_assoc, List.getElem?_append_right (by rw [bc_length, s.hF]; omega), bc_length, s.hF, Nat.add_sub_cancel_left, List.getElem?_append_left hj]
    exact hv)
  rwa [← Nat.add_assoc] at this
theorem range_E {w : World} {g o : Nat} {s : Sp} (h : w.rangeAt g o (encS.c s)) : w.cell? ⟨g, o + 48, none⟩ = some (.bool s.e) := by
  refine h 48 _ ?_
  show (sc s.F s.T s.e)[48]? = _
  have hF : (bc s.F).length = 24 := by rw [bc_length, s.hF]
  have hT : (bc s.T).length = 24 := by rw [bc_length, s.hT]
  rw [sc, List.append_assoc, List.getElem?_append_right (by omega), List.getElem?_append_right (by omega), hF, hT]
  rfl
theorem range_k {w : World} {g o : Nat} {e : Ed} (h : w.rangeAt g o (encE.c e)) : w.rangeAt g o (bc e.k) := fun j v hv => by
  refine h j v ?_
  show (ecd e)[j]? = some v
  rw [ecd, List.getElem?_append_left (List.getElem?_eq_some_iff.1 hv).1]
  exact hv
theorem range_ab {w : World} {g o : Nat} {e : Ed} (h : w.rangeAt g o (encE.c e)) : w.cell? ⟨g, o + 24, none⟩ = some (.int .i64 e.a) ∧ w.cell? ⟨g, o + 25, none⟩ = some (.int .i64 e.b) := by
  have hk : (bc e.k).length = 24 := by rw [bc_length, e.hk]
  refine ⟨h 24 _ ?_, h 25 _ ?_⟩
  · show (ecd e)[24]? = _
    rw [ecd, List.getElem?_append_right (by omega), hk]
    rfl
  · show (ecd e)[25]? = _
    rw [ecd, List.getElem?_append_right (by omega), hk]
    rfl
theorem in_num (s : Sp) (K : List UInt8) (hK : K.length = 24) : inS s.F s.T s.e K = s.inb (num K) := by
  unfold inS Sp.inb
  rw [less_num K s.F (by rw [hK, s.hF]), less_num K s.T (by rw [hK, s.hT])]
  congr 1
  · rw [← decide_not, Bool.eq_iff_iff]; simp
  · congr 1; rw [Bool.eq_iff_iff]; simp

theorem grow_made (w : World) (a b : Obj) (n : Nat) : ((w.alloc a).alloc b).drewN n = Go.Sort.grow (w.drewN n) #[a, b] := by
  rw [Go.Sort.alloc_eq_grow, Go.Sort.alloc_eq_grow, Go.Sort.grow_grow]
  rfl
theorem below_grow {B : Nat} (w : World) (n : Nat) (os : Array Obj) (hB : B ≤ w.heap.size) : Below B w (Go.Sort.grow (w.drewN n) os) := ⟨rfl, rfl, rfl, by simp [Go.Sort.grow], fun k hk => by
  show (w.heap ++ os)[k]? = w.heap[k]?
  exact Array.getElem?_append_left (by omega)⟩
set_option maxRecDepth 100000 in
set_option maxHeartbeats 1000000 in
theorem cmp_calls (w : World) (K L : List UInt8) (hK : K.length = 24) (hL : L.length = 24) :
    Calls Tryz.prog 135 #[kv K, kv L] w fun e w' => e = .returned (.int .i64 (Lib.compareBytes K L)) ∧ ∃ q os, w' = Go.Sort.grow (w.drewN q) os := by
  have h1 : Has ((w.alloc (.cells (bc K).toArray 54)).alloc (.cells (bc L).toArray 54)) w.heap.size K := (Has.new w K hK).alloc _
  have h2 : Has ((w.alloc (.cells (bc K).toArray 54)).alloc (.cells (bc L).toArray 54)) (w.heap.size + 1) L := by have := Has.new (w.alloc (.cells (bc K).toArray 54)) L hL; simpa using this
  have H1 : Hid (Has ((w.alloc (.cells (bc K).toArray 54)).alloc (.cells (bc L).toArray 54)) w.heap.size K) := h1
  have H2 : Hid (Has ((w.alloc (.cells (bc K).toArray 54)).alloc (.cells (bc L).toArray 54)) (w.heap.size + 1) L) := h2
  clear h1 h2
  go_enter Tryz.func135, Tryz.ntmps135
  go_wp2
  go_quiet (first | (go_at_call 126; exact Calls.quiet_of_same (compare_calls _ w.heap.size (w.heap.size + 1) K L (by exact ⟨hK, H1.out.blk⟩) (by exact ⟨hL, H2.out.blk⟩) 24 24)))
  go_wp2
  go_ret
  exact ⟨rfl, _, _, grow_made _ _ _ _⟩
theorem cmp_eq (K L : List UInt8) : Lib.compareBytes K L < 0 ↔ Op.bytesLess K L = true := by rw [← compare_less]; simp
set_option maxRecDepth 100000 in
set_option maxHeartbeats 1000000 in
/-- The closure that the sort asks. -/
theorem cmp3_calls (w : World) (x y : Ed) : Calls Tryz.prog 134 #[edv x, edv y] w fun e w' => e = .returned (.int .i64 (Lib.compareBytes x.k y.k)) ∧ ∃ q os, w' = Go.Sort.grow (w.drewN q) os := by
  have h1 : InB encE 189 ((w.alloc (.cells (ecd x).toArray 189)).alloc (.cells (ecd y).toArray 189)) w.heap.size x := (InB.new encE _ w x _ rfl).alloc _
  have h2 : InB encE 189 ((w.alloc (.cells (ecd x).toArray 189)).alloc (.cells (ecd y).toArray 189)) (w.heap.size + 1) y := InB.new encE _ _ y _ (by simp)
  have HC : Hid (∀ W, Calls Tryz.prog 135 #[kv x.k, kv y.k] W fun e w' => e = .returned (.int .i64 (Lib.compareBytes x.k y.k)) ∧ ∃ q os, w' = Go.Sort.grow (W.drewN q) os) := fun W => cmp_calls W x.k y.k x.hk y.hk
  generalize Lib.compareBytes x.k y.k = r at *
  go_enter Tryz.func134, Tryz.ntmps134
  go_wp2_with (first
    | (refine load_part _ rfl w.heap.size 0 rfl rfl _ x.hk (range_k h1.range) ?_)
    | (refine load_part _ rfl (w.heap.size + 1) 0 rfl rfl _ y.hk (range_k h2.range) ?_)
    | (go_at_call 135; refine (HC.out _).mono ?_; rintro e w1 ⟨rfl, q, os, rfl⟩))
  go_ret
  refine ⟨rfl, q, #[.cells (ecd x).toArray 189, .cells (ecd y).toArray 189] ++ os, ?_⟩
  rw [grow_made, Go.Sort.grow_grow]
set_option maxHeartbeats 1000000 in
theorem isEmpty_calls (w : World) (s : Sp) : Calls Tryz.prog 161 #[spv s] w fun x w' => x = .returned (.bool s.empty) ∧ Below w.heap.size w w' := by
  have h1 : HasS (w.alloc (.cells (sc s.F s.T s.e).toArray 56)) w.heap.size s.F s.T s.e := HasS.new w _ _ _ s.hF s.hT
  have hc := in_calls (w.alloc (.cells (sc s.F s.T s.e).toArray 56)) s.F s.T s.e s.F s.hF s.hT s.hF
  rw [in_num s s.F s.hF] at hc
  have HE : Hid (s.empty = !s.inb (num s.F)) := rfl
  generalize s.inb (num s.F) = r at *
  go_enter Tryz.func161, Tryz.ntmps161
  go_wp2_with (first
    | (refine load_el elS _ rfl w.heap.size 0 rfl rfl s h1.inB.range ?_)
    | (refine load_part _ rfl w.heap.size 0 rfl rfl _ s.hF h1.ofF ?_)
    | (go_at_call 99; refine hc.mono ?_; rintro e w1 ⟨rfl, b1⟩))
  go_ret
  exact ⟨by rw [HE.out]; rfl, below_called (below_made (Below.refl _ w) (Nat.le_refl _) _) b1 (Nat.le_refl _)⟩
set_option maxHeartbeats 1000000 in
theorem clean1_calls (w : World) (x y : Bool) : Calls Tryz.prog 94 #[.bool x, .bool y] w fun e w' => e = .returned (.bool x) ∧ w' = w := by
  go_enter Tryz.func94, Tryz.ntmps94
  go_wp2
  go_ret
  exact ⟨rfl, rfl⟩
end Go.Proofs.YtdmindhjmjnagaaGreatDoor
/- Maps keyed by spans: a set of spans, as view keeps what was read. -/
namespace Go.Proofs.YtdmindhjmjnagaaGreatDoor
set_option linter.unusedVariables false
set_option maxRecDepth 100000
open Go.RowKit

/-! How a span is told. -/
theorem lits_some (m : Nat) (K : List UInt8) (hK : K.length = 24) : ∃ l, Tryz.prog.keyLits (m + 2) 54 (bc K) = some l := by
  have hlen : (bc K).length = 24 := by rw [bc_length, hK]
  unfold Program.keyLits
  simp only [Tryz.underlying54]
  rw [if_pos (by rw [key_arr.size, hlen])]
  obtain ⟨bs, hbs⟩ := mapM_ok (f := fun i => Tryz.prog.keyLits (m + 1) 5 (((bc K).drop (i * Tryz.prog.cellsOf 5)).take (Tryz.prog.cellsOf 5))) (List.range 24) (fun i hi => by
    have hi' : i < K.length := by rw [hK]; simpa using hi
    have e : ((bc K).drop (i * Tryz.prog.cellsOf 5)).take (Tryz.prog.cellsOf 5) = [.int .u8 (K[i].toNat : Int)] := by
      rw [key_arr.one, Nat.mul_one, List.drop_eq_getElem_cons (by rw [bc_length]; exact hi'), List.take_succ_cons, List.take_zero]
      simp [bc]
    rw [e]
    exact ⟨[.int .u8 (K[i].toNat : Int)], by simp [Program.keyLits, Tryz.underlying5, byte_wf]⟩)
  rw [hbs]
  exact ⟨_, rfl⟩
theorem lits_inv (m : Nat) (cs : List Value) (l : List Lit) (h : Tryz.prog.keyLits (m + 2) 54 cs = some l) : ∃ K : List UInt8, K.length = 24 ∧ cs = bc K := by
  unfold Program.keyLits at h
  simp only [Tryz.underlying54] at h
  split at h
  · rename_i hsz
    rw [key_arr.size] at hsz
    cases hq : (List.range 24).mapM (fun i => Tryz.prog.keyLits (m + 1) 5 ((cs.drop (i * Tryz.prog.cellsOf 5)).take (Tryz.prog.cellsOf 5))) with
    | none => rw [hq] at h; cases h
    | some bs =>
      have each := mapM_each _ _ hq
      obtain ⟨K, hK⟩ := bytes_list cs (fun v hv => by
        obtain ⟨i, hi, rfl⟩ := List.mem_iff_getElem.1 hv
        have hi' : i < 24 := by rw [← hsz]; exact hi
        obtain ⟨b, hb⟩ := each i (by simpa using hi')
        rw [key_arr.one, Nat.mul_one, List.drop_eq_getElem_cons hi, List.take_succ_cons, List.take_zero] at hb
        generalize cs[i] = u at hb ⊢
        cases u with
        | int q n =>
          simp only [Program.keyLits, Tryz.underlying5] at hb
          split at hb
          · rename_i hw
            obtain ⟨rfl, wf⟩ := hw
            have hb2 := bounds_u8 wf
            refine ⟨UInt8.ofNat n.toNat, ?_⟩
            rw [UInt8.toNat_ofNat']
            exact congrArg (Value.int .u8) (by omega)
          · cases hb
        | _ => simp [Program.keyLits, Tryz.underlying5] at hb)
      refine ⟨K, ?_, hK⟩
      have := congrArg List.length hK
      rw [bc_length] at this
      omega
  · cases h
theorem bool_inv (m : Nat) (cs : List Value) (l : List Lit) (h : Tryz.prog.keyLits (m + 1) 4 cs = some l) : ∃ b, cs = [.bool b] := by
  unfold Program.keyLits at h
  simp only [Tryz.underlying4] at h
  split at h <;> first | exact ⟨_, rfl⟩ | simp_all
theorem span_keyed : Maps.Keyed Tryz.prog 56 := Maps.Keyed.of_law (deep_law (m := 3) (by omega) (by kernel_rfl) (by kernel_rfl) (by rw [Tryz.underlying56]))
theorem span_cells : Tryz.prog.cellsOf 56 = 49 := by kernel_rfl
theorem key_cells : Tryz.prog.cellsOf 54 = 24 := by kernel_rfl
theorem bool_cells : Tryz.prog.cellsOf 4 = 1 := by kernel_rfl
theorem types_pos3 : ∃ m, Tryz.prog.types.size = m + 3 := by
  have h : 3 ≤ Tryz.prog.types.size := of_decide_eq_true (by kernel_rfl)
  exact ⟨Tryz.prog.types.size - 3, by omega⟩
theorem span_type : Tryz.prog.keyType 56 = true := by kernel_rfl
theorem span_some (s : Sp) : ∃ l, keyOf Tryz.prog 56 (spv s) = some l := by
  obtain ⟨m, hm⟩ := types_pos3
  have hlen : (sc s.F s.T s.e).length = 49 := by simp [sc, bc_length, s.hF, s.hT]
  obtain ⟨a, ha⟩ := lits_some (m + 1) s.F s.hF
  obtain ⟨b, hb⟩ := lits_some (m + 1) s.T s.hT
  have e1 : (sc s.F s.T s.e).take 24 = bc s.F := by
    rw [sc, List.append_assoc, List.take_append_of_le_length (by rw [bc_length, s.hF]; exact Nat.le_refl _), List.take_of_length_le (by rw [bc_length, s.hF]; exact Nat.le_refl _)]
  have e2 : ((sc s.F s.T s.e).drop 24).take 24 = bc s.T := by
    rw [sc, List.append_assoc, List.drop_append_of_le_length (by rw [bc_length, s.hF]; exact Nat.le_refl _), List.drop_of_length_le (by rw [bc_length, s.hF]; exact Nat.le_refl _), List.nil_append, List.take_append_of_le_length (by rw [bc_length, s.hT]; exact Nat.le_refl _), List.take_of_length_le (by rw [bc_length, s.hT]; exact Nat.le_refl _)]
  have e3 : ((sc s.F s.T s.e).drop 48).take 1 = [.bool s.e] := by
    rw [sc, List.drop_append_of_le_length (by simp [bc_length, s.hF, s.hT]), List.drop_of_length_le (by simp [bc_length, s.hF, s.hT])]
    rfl
  unfold keyOf
  simp only [Tryz.underlying56]
  rw [if_pos (by rw [span_type]; simp [Value.formed, Tryz.underlying56, span_cells, hlen]), hm]
  unfold Program.keyLits
  simp only [Tryz.underlying56, Value.cells, List.toList_toArray]
  rw [if_pos (by rw [span_cells, hlen]; exact ⟨rfl, by kernel_rfl⟩)]
  have hc : Tryz.prog.keyLits (m + 3) 4 [.bool s.e] = some [.bool s.e] := by simp [Program.keyLits, Tryz.underlying4]
  simp only [List.mapM_cons, List.mapM_nil, List.drop_zero, key_cells, bool_cells, e1, e2, e3]
  rw [ha, hb, hc]
  exact ⟨_, rfl⟩
theorem span_inv {v : Value} {l : Lit} (h : keyOf Tryz.prog 56 v = some l) : ∃ s : Sp, v = spv s := by
  obtain ⟨m, hm⟩ := types_pos3
  unfold keyOf at h
  simp only [Tryz.underlying56] at h
  split at h
  · rename_i hf
    have hf2 : v.formed Tryz.prog 56 = true := by
      simp only [Bool.and_eq_true] at hf
      exact hf.2
    cases v with
    | agg xs =>
      have hsz : xs.size = 49 := by
        simp only [Value.formed, Tryz.underlying56, span_cells, beq_iff_eq] at hf2
        exact hf2
      rw [hm] at h
      unfold Program.keyLits at h
      simp only [Tryz.underlying56, Value.cells] at h
      rw [if_pos (by rw [span_cells]; exact ⟨by simpa using hsz, by kernel_rfl⟩)] at h
      simp only [List.mapM_cons, List.mapM_nil, List.drop_zero, key_cells, bool_cells] at h
      cases h1 : Tryz.prog.keyLits (m + 3) 54 (xs.toList.take 24) with
      | none => rw [h1] at h; cases h
      | some a =>
        rw [h1] at h
        cases h2 : Tryz.prog.keyLits (m + 3) 54 ((xs.toList.drop 24).take 24) with
        | none => rw [h2] at h; cases h
        | some b =>
          rw [h2] at h
          cases h3 : Tryz.prog.keyLits (m + 3) 4 ((xs.toList.drop 48).take 1) with
          | none => rw [h3] at h; cases h
          | some c =>
            obtain ⟨F, hF, eF⟩ := lits_inv _ _ _ h1
            obtain ⟨T, hT, eT⟩ := lits_inv _ _ _ h2
            obtain ⟨e, ee⟩ := bool_inv _ _ _ h3
            refine ⟨⟨F, T, e, hF, hT⟩, ?_⟩
            have hx : xs.toList = sc F T e := by
              have q1 : xs.toList = xs.toList.take 24 ++ ((xs.toList.drop 24).take 24 ++ (xs.toList.drop 24).drop 24) := by rw [List.take_append_drop, List.take_append_drop]
              rw [List.drop_drop] at q1
              have q2 : (xs.toList.drop 48).take 1 = xs.toList.drop 48 := List.take_of_length_le (by simp [hsz])
              rw [show 24 + 24 = 48 from rfl, ← q2, eF, eT, ee] at q1
              rw [q1, sc, List.append_assoc]
            show Value.agg xs = .agg (sc F T e).toArray
            rw [← hx]
    | _ => simp [Value.formed, Tryz.underlying56] at hf2
  · cases h
noncomputable def slit (s : Sp) : Lit := (span_some s).choose
theorem span_is (s : Sp) : keyOf Tryz.prog 56 (spv s) = some (slit s) := (span_some s).choose_spec
theorem slit_key (s : Sp) : WideAt.IsKeyLit (slit s) := span_keyed.key (span_is s)
theorem sc_inj {s u : Sp} (h : sc s.F s.T s.e = sc u.F u.T u.e) : s = u := by
  unfold sc at h
  rw [List.append_assoc, List.append_assoc] at h
  obtain ⟨h1, h2⟩ := List.append_inj h (by rw [bc_length, bc_length, s.hF, u.hF])
  obtain ⟨h3, h4⟩ := List.append_inj h2 (by rw [bc_length, bc_length, s.hT, u.hT])
  refine Sp.ext' (bc_inj h1) (bc_inj h3) ?_
  simpa using h4
theorem slit_inj {s u : Sp} (h : slit s = slit u) : s = u := by
  have e := span_keyed.inj (span_is s) (h ▸ span_is u)
  have e2 : (sc s.F s.T s.e).toArray = (sc u.F u.T u.e).toArray := by injection e
  exact sc_inj (by simpa using e2)
theorem slit_ne {s u : Sp} (h : s ≠ u) : slit s ≠ slit u := fun e => h (slit_inj e)

/-! A set. -/
/-- Block b is a set of at most n spans: those of R. -/
structure SetA (w : World) (b n : Nat) (R : List Sp) : Prop where
  data : ∃ D : DataW Value, w.ownsMap Tryz.prog 56 rawElem b n D ∧ ∀ s, Maps.has D (slit s) = true ↔ s ∈ R
variable {w : World} {b n : Nat} {R : List Sp}
theorem SetA.lt (h : SetA w b n R) : b < w.heap.size := by
  obtain ⟨D, h, _⟩ := h
  exact h.lt
theorem SetA.kept {w' : World} (h : SetA w b n R) (hb : w'.heap[b]? = w.heap[b]?) : SetA w' b n R := by
  obtain ⟨D, ⟨es, clock, h1, h2⟩, h3⟩ := h
  exact ⟨D, ⟨es, clock, hb.trans h1, h2⟩, h3⟩
theorem SetA.below {w' : World} {B : Nat} (h : SetA w b n R) (hb : Below B w w') (hB : w.heap.size ≤ B) : SetA w' b n R := h.kept (hb.block b (by have := h.lt; omega))
theorem SetA.grown {w' : World} {row : Option Nat} (h : SetA w b n R) (hg : w.grownBy w' row) (hne : row ≠ some b) : SetA w' b n R := h.kept (hg.block b h.lt (fun e => hne e.symm))
theorem SetA.made (w : World) (b : Nat) (hb : b = w.heap.size) : SetA (w.alloc (.map #[] 0)) b 0 [] := by
  subst hb
  exact ⟨_, World.ownsMap_made w _ _ _, fun K => ⟨(fun h => by cases h), (fun h => by cases h)⟩⟩
theorem SetA.store {t te : TypeId} (ht : Tryz.prog.underlying t = some (.map 56 te)) (h : SetA w b n R) (hn : n < maxLen) (s : Sp) (v : Value) :
    ∃ w', (Instr.mapUpdate t (.map (some b)) (spv s) v).run Tryz.prog w = .ok () w' ∧ SetA w' b (n + 1) (R ++ [s]) ∧ w.grownBy w' (some b) := by
  obtain ⟨D, ho, hf⟩ := h
  obtain ⟨w', hrun, ho', ht⟩ := ho.store (t := t) span_keyed ht hn (span_is s) (val := v) (d := .held v) (ps := []) rfl
  refine ⟨w', hrun, ⟨_, ho', fun J => ?_⟩, ht.grown⟩
  rw [List.mem_append, List.mem_singleton]
  by_cases e : J = s
  · subst e
    rw [Maps.has_put_same ho.isMap (slit_key _)]
    simp
  · rw [Maps.has_put_other (slit_ne e), hf J]
    simp [e]
section
variable {ops : Array Oper} {rest : List Oper} {o : Oper} {a : Act} {Q : Exit → Act → World → Prop}
theorem store_s {t te : TypeId} (ht : Tryz.prog.underlying t = some (.map 56 te)) (hg : o.guard = none) (m x v : Operand) (hop : o.op = Op.mapUpdate t m x v)
    (b n : Nat) (R : List Sp) (hm : a.eval m = .map (some b)) (h : SetA w b n R) (hn : n < 1000000000) (s : Sp) (hx : a.eval x = spv s)
    (hK : ∀ w', SetA w' b (n + 1) (R ++ [s]) → w.grownBy w' (some b) → wpList Tryz.prog ops Q rest (a.put o.dst undef) w') : wpList Tryz.prog ops Q (o :: rest) a w := by
  refine wpList_plain hg fun K' hK' => ?_
  obtain ⟨w', hrun, r1, r2⟩ := h.store ht (by unfold maxLen; omega) s (a.eval v)
  unfold Oper.wp
  simp [execOp, hop, hm, hx, hrun, Result.andThen]
  exact hK' _ _ (hK w' r1 r2)
end

/-! It is ranged over. -/
/-- Under way: of the spans those of 'todo' are still to come. -/
structure RangeS (w : World) (b r n : Nat) (R : List Sp) (todo : Sp → Prop) (cnt : Nat) : Prop where
  data : ∃ (D : DataW Value) (left : Lit → Bool), w.ranges Tryz.prog 56 rawElem b r n D left cnt ∧ (∀ s, Maps.has D (slit s) = true ↔ s ∈ R) ∧ (∀ s, left (slit s) = true ↔ todo s) ∧ ∀ l, left l = true → ∃ s, l = slit s
  sub : ∀ s, todo s → s ∈ R
variable {r : Nat} {todo : Sp → Prop} {cnt : Nat}
theorem RangeS.left_eq (h : RangeS w b r n R todo cnt) : w.rangeLeft b r = cnt := by
  obtain ⟨⟨D, left, h1, _⟩, _⟩ := h
  exact h1.left_eq
theorem RangeS.lt (h : RangeS w b r n R todo cnt) : r < w.heap.size := by
  obtain ⟨⟨D, left, h1, _⟩, _⟩ := h
  exact h1.lt
theorem RangeS.walks {w' : World} (h : RangeS w b r n R todo cnt) (hk : KeepsWalks w w') : RangeS w' b r n R todo cnt := by
  obtain ⟨⟨D, left, h1, h2⟩, h3⟩ := h
  exact ⟨⟨D, left, h1.of_walks hk, h2⟩, h3⟩
theorem RangeS.walk (h : RangeS w b r n R todo cnt) : ∃ o : Obj, w.heap[r]? = some o ∧ o.isWalk = true := by
  obtain ⟨⟨D, left, h1, h2⟩, h3⟩ := h
  exact h1.iter_walk
theorem RangeS.kept {w' : World} {row : Option Nat} (h : RangeS w b r n R todo cnt) (hg : w.grownBy w' row) (hb : some b ≠ row) (hr : some r ≠ row) : RangeS w' b r n R todo cnt := by
  obtain ⟨⟨D, left, h1, h2⟩, h3⟩ := h
  exact ⟨⟨D, left, h1.kept hg hb hr, h2⟩, h3⟩
theorem RangeS.below {w' : World} {B : Nat} (h : RangeS w b r n R todo cnt) (hb : Below B w w') (hB : w.heap.size ≤ B) : RangeS w' b r n R todo cnt :=
  h.kept (row := none) ⟨hb.os, hb.tape, hb.output, hb.size, fun i hi _ => hb.block i (by omega)⟩ (by simp) (by simp)
theorem lit_hasS {D : DataW Value} {w : World} (ho : w.ownsMap Tryz.prog 56 rawElem b n D) {l : Lit} (h : Maps.has D l = true) : ∃ s, l = slit s := by
  obtain ⟨es, clock, hb, F, _, rfl⟩ := ho
  simp only [Maps.has, List.any_eq_true] at h
  obtain ⟨p, hp, hs⟩ := h
  have hp' := Go.mem_sorted.1 hp
  obtain ⟨x, hx, rfl⟩ := List.mem_map.1 hp'
  obtain ⟨y, hy⟩ := F.reads x hx
  rw [WideElems.rg_of hy] at hs
  have hk := WideElems.rd_key hy
  obtain ⟨s, hK⟩ := span_inv hk
  rw [hK, span_is] at hk
  rw [← Option.some.inj hk] at hs
  exact ⟨s, (WideAt.sameKey_eq hs).symm⟩
theorem RangeS.step {D : DataW Value} {left : Lit → Bool} {w' : World} {cnt' : Nat} (hf : ∀ s, Maps.has D (slit s) = true ↔ s ∈ R) (hL : ∀ s, left (slit s) = true ↔ todo s) (hS : ∀ l, left l = true → ∃ s, l = slit s) (hs : ∀ s, todo s → s ∈ R) (K : Sp)
    (h : w'.ranges Tryz.prog 56 rawElem b r n D (fun z => left z && !z.sameKey (slit K)) cnt') : RangeS w' b r n R (fun s => todo s ∧ s ≠ K) cnt' := by
  refine ⟨⟨D, _, h, hf, fun J => ?_, fun l hl => hS l (by simp only [Bool.and_eq_true] at hl; exact hl.1)⟩, fun J hJ => hs J hJ.1⟩
  show (left (slit J) && !(slit J).sameKey (slit K)) = true ↔ _
  rw [Bool.and_eq_true, hL]
  by_cases e : J = K
  · subst e
    rw [WideAt.sameKey_self (slit_key _)]
    simp
  · have h1 : (slit J).sameKey (slit K) = false := by
      cases hs : (slit J).sameKey (slit K) with
      | false => rfl
      | true => exact absurd (WideAt.sameKey_eq hs) (slit_ne e)
    rw [h1]
    simp [e]
section
variable {ops : Array Oper} {rest : List Oper} {o : Oper} {a : Act} {Q : Exit → Act → World → Prop} {F : Fence} {nf : Nat}
theorem rangeIn_s {t te : TypeId} (ht : Tryz.prog.underlying t = some (.map 56 te)) (hg : o.guard = none) (m : Operand) (hop : o.op = Op.range t m) (b n : Nat) (R : List Sp) (hm : a.eval m = .map (some b)) (h : SetA w b n R)
    (hK : ∀ w' cnt, RangeS w' b w.heap.size n R (fun s => s ∈ R) cnt → cnt ≤ n → w.grownBy w' none → w'.heap.size = w.heap.size + 1 → wpListIn F nf Tryz.prog ops Q rest (a.put o.dst (.pointer (some ⟨w.heap.size, 0, none⟩))) w') :
    wpListIn F nf Tryz.prog ops Q (o :: rest) a w := by
  obtain ⟨D, ho, hf⟩ := h
  exact wpListIn_range_own _ hg m t hop 56 te span_keyed ht rawElem b n D hm ho fun w' h1 h2 h3 => hK w' _ ⟨⟨D, _, h1, hf, hf, fun l hl => lit_hasS ho hl⟩, fun _ h => h⟩ ho.size_le h2 h3
theorem nextIn_s (hg : o.guard = none) (it : Operand) (hop : o.op = Op.next it false) (b r n : Nat) (R : List Sp) (todo : Sp → Prop) (cnt : Nat) (hit : a.eval it = .pointer (some ⟨r, 0, none⟩)) (h : RangeS w b r n R todo cnt)
    (hDone : (∀ s, ¬ todo s) → wpListIn F nf Tryz.prog ops Q rest (a.put o.dst (.tuple #[.bool false])) w)
    (hMore : ∀ (K : Sp) (c : Value) (w' : World) (cnt' : Nat), todo K → RangeS w' b r n R (fun s => todo s ∧ s ≠ K) cnt' → cnt' < cnt → w.grownBy w' (some r) → w'.heap.size = w.heap.size →
      (Instr.entry (.pointer (some ⟨r, 0, none⟩))).run Tryz.prog w' = .ok (.tuple #[spv K, c]) w' → wpListIn F nf Tryz.prog ops Q rest (a.put o.dst (.tuple #[.bool true, spv K, c])) w') :
    wpListIn F nf Tryz.prog ops Q (o :: rest) a w := by
  obtain ⟨⟨D, left, h1, hf, hL, hS⟩, hs⟩ := h
  refine wpListIn_next_ranges _ hg it hop 56 span_keyed rawElem (fun s : Sp => spv s) id (fun _ _ hk => span_inv hk) (fun v _ _ => ⟨v, rfl⟩) b r n D left cnt hit h1 ?_ ?_
  · intro _ hl
    exact hDone fun K ht => by rw [← hL, hl _] at ht; cases ht
  · intro K c kl y w' cnt' hkey hlk hv hat hrg hlt hg2 hs2 hen
    rw [span_is] at hkey
    cases hkey
    exact hMore K c w' cnt' ((hL K).1 hlk) (RangeS.step hf hL hS hs K hrg) hlt hg2 hs2 hen
end
end Go.Proofs.YtdmindhjmjnagaaGreatDoor
