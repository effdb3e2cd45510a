import Derived.Test.YtdmindhjmjnagabGreatDoorB03
import Derived.Deep.DeepCutAuto
/- What a key says. -/
namespace Go.Proofs.YtdmindhjmjnagabGreatDoor
set_option linter.unusedVariables false
set_option maxRecDepth 100000
open Go.RowKit

/-- What the bytes of a key tell, right or not. -/
def pIno (K : List UInt8) : Int := (num [K.getD 0 0, K.getD 1 0, K.getD 2 0, K.getD 3 0] : Int)
def pKind (K : List UInt8) : Int := ((K.getD 4 0).toNat : Int)
def nmLen (K : List UInt8) : Nat := min (K.getD 23 0).toNat 18
def nm (K : List UInt8) : List UInt8 := (K.drop 5).take (nmLen K)
def pName (K : List UInt8) : List UInt8 := if pKind K = 2 then nm K else []
def pPlace (K : List UInt8) : Int := if pKind K = 3 then (num [K.getD 20 0, K.getD 21 0, K.getD 22 0, K.getD 23 0] : Int) else 0
/-- Parts as a value. -/
abbrev pv (i k : Int) (s : List UInt8) (p : Int) : Value := .agg #[.int .i64 i, .int .i64 k, .string (str s), .int .i64 p]

theorem conv_key {w : World} {b : Nat} {K : List UInt8} (h : Has w b K) (o n cap : Nat) (hn : o + n ≤ 24) : (convert 36 9 (.slice (some ⟨b, o, none⟩) n cap)).run Tryz.prog w = .ok (.string (str ((K.drop o).take n))) w := by
  have hl := h.len
  have := run_convert_bytes_arg (P := Tryz.prog) w 36 5 Tryz.underlying36 Tryz.underlying5 b o n cap (((K.drop o).take n).map fun b => (b.toNat : Int)) (by simp; omega) (fun i hi => by
    rw [h.cell (o + i) (by omega)]
    have hj : o + i < K.length := by omega
    simp [hi, List.getElem?_drop, hj]) 9 Tryz.underlying9
  rw [str_of] at this
  exact this

theorem slice_key (w : World) (b m : Nat) (hm : m ≤ 18) : (Instr.sliceAt 31 (.pointer (some ⟨b, 0, none⟩)) (some (.int .i64 5)) (some (.int .i64 (5 + (m : Int)))) none).run Tryz.prog w = .ok (.slice (some ⟨b, 5, none⟩) m 19) w := by
  have hal : Tryz.prog.arrayLen 31 = 24 := by kernel_rfl
  have hel : Tryz.prog.elem 31 = 5 := by kernel_rfl
  have hu : Tryz.prog.underlying 31 = some (.array (Tryz.prog.arrayLen 31) (Tryz.prog.elem 31)) := by rw [hal, hel]; exact Tryz.underlying31
  rw [run_sliceAt_array_lh w 31 ⟨b, 0, none⟩ hu .i64 .i64 5 (5 + (m : Int)) (by omega) (by omega) (by rw [hal]; omega), hel, Tryz.sizeOf5, hal]
  simp only [Result.andThen, slicedAt]
  have e1 : (5 + (m : Int)).toNat - (5 : Int).toNat = m := by omega
  rw [e1]
  rfl

/-- Parts in block b. -/
def HasP (w : World) (b : Nat) (i k : Int) (s : List UInt8) (p : Int) : Prop := w.heap[b]? = some (.cells #[.int .i64 i, .int .i64 k, .string (str s), .int .i64 p] 99 (0, 0))
theorem cells4 {w : World} {b : Nat} {x y z u : Value} {t : TypeId} (h : w.heap[b]? = some (.cells #[x, y, z, u] t (0, 0))) :
    w.cell? ⟨b, 0, none⟩ = some x ∧ w.cell? ⟨b, 1, none⟩ = some y ∧ w.cell? ⟨b, 2, none⟩ = some z ∧ w.cell? ⟨b, 3, none⟩ = some u := by
  refine ⟨?_, ?_, ?_, ?_⟩ <;> (rw [cell_of_row w b _ _ _ _ h]; rfl)
theorem free4 {w : World} {b : Nat} {x y z u : Value} {t : TypeId} (h : w.heap[b]? = some (.cells #[x, y, z, u] t (0, 0))) :
    w.frozen? ⟨b, 0, none⟩ = false ∧ w.frozen? ⟨b, 1, none⟩ = false ∧ w.frozen? ⟨b, 2, none⟩ = false ∧ w.frozen? ⟨b, 3, none⟩ = false := by
  refine ⟨?_, ?_, ?_, ?_⟩ <;> simp [World.frozen?, h]
theorem set_blk {w : World} {b : Nat} {C : Array Value} {t : TypeId} (h : w.heap[b]? = some (.cells C t (0, 0))) (j : Nat) (u : Value) : (w.setCell ⟨b, j, none⟩ u).heap[b]? = some (.cells (C.setIfInBounds j u) t (0, 0)) := by
  rw [setCell_eq_setRow w b j C t _ u h, setRow_heap w b _ _ _ _ h]
theorem HasP.put4 {w : World} {b : Nat} {i k : Int} {s : List UInt8} {p : Int} (h : HasP w b i k s p) (i' k' : Int) (s' : List UInt8) (p' : Int) :
    HasP ((((w.setCell ⟨b, 0, none⟩ (.int .i64 i')).setCell ⟨b, 1, none⟩ (.int .i64 k')).setCell ⟨b, 2, none⟩ (.string (str s'))).setCell ⟨b, 3, none⟩ (.int .i64 p')) b i' k' s' p' :=
  set_blk (set_blk (set_blk (set_blk h 0 _) 1 _) 2 _) 3 _
theorem HasP.other {w : World} {b : Nat} {i k : Int} {s : List UInt8} {p : Int} (h : HasP w b i k s p) (q j : Nat) (u : Value) (hq : b ≠ q) : HasP (w.setCell ⟨q, j, none⟩ u) b i k s p := by
  unfold HasP; rw [Below.heap_setCell _ _ _ _ (by simpa using hq)]; exact h
theorem ret_parts {fn : Func} {R : Ending → World → Prop} {a : Act} {w : World} {t : Tmp} (hr : fn.results = #[.cell t 99]) (b : Nat) (i k : Int) (s : List UInt8) (p : Int) (hp : a.tmps.getD t undef = .pointer (some ⟨b, 0, none⟩)) (hK : HasP w b i k s p)
    (hd : a.defers = []) (hR : R (.returned (pv i k s p)) w) : bodyPost Tryz.prog fn R .ret a w :=
  bodyPost_ret (results_cell_row hr _ w b _ _ _ _ hp hK Tryz.underlying99 rfl (by kernel_rfl)) hd hR
theorem ret_parts_ok {fn : Func} {R : Ending → World → Prop} {a : Act} {w : World} {t u : Tmp} (hr : fn.results = #[.cell t 99, .tmp u]) (b : Nat) (i k : Int) (s : List UInt8) (p : Int) (v : Value) (hp : a.tmps.getD t undef = .pointer (some ⟨b, 0, none⟩)) (hv : a.tmps.getD u undef = v) (hK : HasP w b i k s p)
    (hd : a.defers = []) (hR : R (.returned (.tuple #[pv i k s p, v])) w) : bodyPost Tryz.prog fn R .ret a w := by
  refine bodyPost_ret (v := .tuple #[pv i k s p, v]) ?_ hd hR
  have hl := run_loadVar_row (P := Tryz.prog) w b 99 99 _ _ _ hK Tryz.underlying99 rfl (by kernel_rfl)
  rw [results_cell_tmp hr, hp, hv]
  simp [asAddr, Result.andThen, hl]
/-- What stands while a key is read: the key in block b, room for the answer in the next one. -/
structure Sd (w : World) (b : Nat) (K : List UInt8) (w' : World) : Prop where
  key : Has w' b K
  res : HasP w' (b + 1) 0 0 [] 0
  bel : Below w.heap.size w w'
  at0 : w.heap.size ≤ b
theorem Sd.lt {w : World} {b : Nat} {K : List UInt8} {w' : World} (h : Sd w b K w') : b + 1 < w'.heap.size := lt_of_block h.res
theorem Sd.drew {w : World} {b : Nat} {K : List UInt8} {w' : World} (h : Sd w b K w') : Sd w b K w'.drew := ⟨⟨h.key.len, h.key.blk⟩, h.res, h.bel.drew, h.at0⟩
theorem Sd.alloc {w : World} {b : Nat} {K : List UInt8} {w' : World} (h : Sd w b K w') (o : Obj) : Sd w b K (w'.alloc o) := ⟨h.key.alloc o, by unfold HasP; rw [Below.heap_alloc _ _ _ h.lt]; exact h.res, below_made h.bel (Nat.le_refl _) _, h.at0⟩
theorem Sd.set {w : World} {b : Nat} {K : List UInt8} {w' : World} (h : Sd w b K w') (q j : Nat) (u : Value) (hq : b + 1 < q) : Sd w b K (w'.setCell ⟨q, j, none⟩ u) := ⟨h.key.setOther (by omega) _ _, by unfold HasP; rw [Below.heap_setCell _ _ _ _ (by simp; omega)]; exact h.res, h.bel.setCell (by simp; have := h.at0; omega) _, h.at0⟩
theorem Sd.called {w : World} {b : Nat} {K : List UInt8} {w' w'' : World} (h : Sd w b K w') (hb : Below w'.heap.size w' w'') : Sd w b K w'' := ⟨h.key.below hb h.key.lt, (hb.block _ h.lt).trans h.res, below_called h.bel hb (Nat.le_refl _), h.at0⟩
theorem Sd.touch {w : World} {b q : Nat} {K : List UInt8} {w' w'' : World} (h : Sd w b K w') (ht : Touch q none w' w'') (hq : b + 1 < q) : Sd w b K w'' := ⟨h.key.touch ht (by omega), (ht.block _ h.lt (by omega) (by simp)).trans h.res, below_touched h.bel ht (by have := h.at0; omega) (Nat.le_refl _), h.at0⟩
theorem Sd.cell {w : World} {b : Nat} {K : List UInt8} {w' : World} (h : Sd w b K w') : w'.cell? ⟨b, 4, none⟩ = some (.int .u8 ((K.getD 4 0).toNat : Int)) := h.key.cell 4 (by omega)

set_option maxHeartbeats 2000000 in
theorem said_calls (w : World) (K : List UInt8) (hK : K.length = 24) :
    Calls Tryz.prog 73 #[kv K] w fun e w' => e = .returned (pv (pIno K) (pKind K) (pName K) (pPlace K)) ∧ Below w.heap.size w w' := by
  go_enter Tryz.func73, Tryz.ntmps73
  go_upto_region 1 with fail
  have hS : Sd w w.heap.size K ((w.alloc (.cells (bc K).toArray 31)).alloc (.cells #[.int .i64 0, .int .i64 0, .string ⟨#[]⟩, .int .i64 0] 99)) := ⟨(Has.new w K hK).alloc _, by unfold HasP; rw [show w.heap.size + 1 = (w.alloc (.cells (bc K).toArray 31)).heap.size by simp]; exact heap_alloc_new _ _, below_made (below_made (Below.refl _ w) (Nat.le_refl _) _) (Nat.le_refl _) _, Nat.le_refl _⟩
  generalize (w.alloc (.cells (bc K).toArray 31)).alloc (.cells #[.int .i64 0, .int .i64 0, .string ⟨#[]⟩, .int .i64 0] 99) = W at hS ⊢
  have h4 := (K.getD 4 0).toNat_lt
  go_cut [3] (fun v wc => ∃ q, v = .pointer (some ⟨q, 0, none⟩) ∧ w.heap.size + 1 < q ∧ HasP wc q (pIno K) (pKind K) [] 0 ∧ Sd w w.heap.size K wc)
  case first =>
    go_region_held3 (fun w' => w'.cell? ⟨w.heap.size, 4, none⟩ = some (.int .u8 ((K.getD 4 0).toNat : Int)) ∧ Sd w w.heap.size K w') (first
      | exact ⟨hS.drew.cell, hS.drew⟩
      | exact ⟨(hS.alloc _).drew.cell, (hS.alloc _).drew⟩
      | assumption
      | (go_split_ands; refine (fun M => ⟨Sd.cell M, M⟩) (Sd.alloc (by assumption) _))) (first
      | (go_at_call 95; go_split_ands; rename_i hHeld; refine (kword_calls _ w.heap.size 0 24 (K.getD 0 0) (K.getD 1 0) (K.getD 2 0) (K.getD 3 0) (hHeld.key.cell 0 (by omega)) (hHeld.key.cell 1 (by omega)) (hHeld.key.cell 2 (by omega)) (hHeld.key.cell 3 (by omega))).mono ?_; rintro e w3 ⟨rfl, rfl⟩))
    all_goals
      go_wp2_with fail
      go_meet
      case rel =>
        refine ⟨W.heap.size, rfl, by have := hS.lt; omega, ?_, (hS.alloc _).drew⟩
        refine (heap_alloc_new W _).trans ?_
        congr 2
        simp [pIno, pKind, hK, IntKind.wrap_i64]
        exact ⟨by have := (K[4]'(by omega)).toNat_lt; omega, rfl⟩
  case rest =>
    clear hS
    obtain ⟨q, rfl, hq, hP, hS⟩ := hcut
    obtain ⟨c0, c1, c2, c3⟩ := cells4 hP
    obtain ⟨f0, f1, f2, f3⟩ := free4 hP
    obtain ⟨d0, d1, d2, d3⟩ := cells4 hS.res
    obtain ⟨g0, g1, g2, g3⟩ := free4 hS.res
    have HS : Hid (Sd w w.heap.size K wc) := hS
    have HP : Hid (HasP wc q (pIno K) (pKind K) [] 0) := hP
    have c23 := hS.key.cell 23 (by omega)
    clear hS hP
    have hqn : q ≠ w.heap.size := by omega
    have hqn1 : q ≠ w.heap.size + 1 := by omega
    have B4 : ∀ (w' : World) (i' k' : Int) (s' : List UInt8) (p' : Int), Sd w w.heap.size K w' → Below w.heap.size w ((((w'.setCell ⟨w.heap.size + 1, 0, none⟩ (.int .i64 i')).setCell ⟨w.heap.size + 1, 1, none⟩ (.int .i64 k')).setCell ⟨w.heap.size + 1, 2, none⟩ (.string (str s'))).setCell ⟨w.heap.size + 1, 3, none⟩ (.int .i64 p')) := fun w' i' k' s' p' h => (((h.bel.setCell (by simp) _).setCell (by simp) _).setCell (by simp) _).setCell (by simp) _
    have HB4 : Hid (∀ (w' : World) (i' k' : Int) (s' : List UInt8) (p' : Int), Sd w w.heap.size K w' → Below w.heap.size w ((((w'.setCell ⟨w.heap.size + 1, 0, none⟩ (.int .i64 i')).setCell ⟨w.heap.size + 1, 1, none⟩ (.int .i64 k')).setCell ⟨w.heap.size + 1, 2, none⟩ (.string (str s'))).setCell ⟨w.heap.size + 1, 3, none⟩ (.int .i64 p'))) := B4
    clear B4
    have hpN : Hid (pName K = if pKind K = 2 then nm K else []) := rfl
    have hpP : Hid (pPlace K = if pKind K = 3 then (num [K.getD 20 0, K.getD 21 0, K.getD 22 0, K.getD 23 0] : Int) else 0) := rfl
    by_cases hk2 : pKind K = 2
    · have hnm : Hid (nm K = (K.drop 5).take (nmLen K)) := rfl
      have hlen : (nmLen K : Int) = min ((K.getD 23 0).toNat : Int) 18 := by simp only [nmLen]; omega
      have hl18 : nmLen K ≤ 18 := Nat.min_le_right _ _
      have hcv : (convert 36 9 (.slice (some ⟨w.heap.size, 5, none⟩) (nmLen K) 19)).run Tryz.prog wc = .ok (.string (str (nm K))) wc := by rw [hnm.out]; exact conv_key HS.out.key 5 (nmLen K) 19 (by omega)
      have h23 := (K.getD 23 0).toNat_lt
      generalize nmLen K = m at *
      generalize (K.getD 23 0).toNat = k23 at *
      go_wp2_with fail
      have hb0 : (5 : Int) ≤ 5 + (m : Int) := by omega
      have hb1 : (5 : Int) + (m : Int) ≤ 24 := by omega
      simp only [← hlen]
      clear hlen
      have hsl := slice_key wc w.heap.size m hl18
      rw [hsl]
      simp only [Result.andThen]
      rw [Oper.upon_value]
      go_wp2_with fail
      refine ret_parts rfl _ _ _ _ _ rfl ((HS.out.set q 2 _ hq).res.put4 _ _ _ _) rfl ⟨?_, HB4.out _ _ _ _ _ (HS.out.set q 2 _ hq)⟩
      rw [hpN.out, hpP.out, if_pos hk2, hk2, if_neg (by omega)]
    · by_cases hk3 : pKind K = 3
      · go_wp2_with (go_at_call 95; refine (kword_calls _ w.heap.size 20 4 (K.getD 20 0) (K.getD 21 0) (K.getD 22 0) (K.getD 23 0) (HS.out.key.cell 20 (by omega)) (HS.out.key.cell 21 (by omega)) (HS.out.key.cell 22 (by omega)) (HS.out.key.cell 23 (by omega))).mono ?_; rintro e w3 ⟨rfl, rfl⟩)
        refine ret_parts rfl _ _ _ _ _ rfl ((HS.out.set q 3 _ hq).res.put4 _ _ _ _) rfl ⟨?_, HB4.out _ _ _ _ _ (HS.out.set q 3 _ hq)⟩
        rw [hpN.out, hpP.out, if_neg hk2, if_pos hk3, hk3]
        simp [hK]
      · go_wp2_with fail
        refine ret_parts rfl _ _ _ _ _ rfl (HS.out.res.put4 _ _ _ _) rfl ⟨?_, HB4.out _ _ _ _ _ HS.out⟩
        rw [hpN.out, hpP.out, if_neg hk2, if_neg hk3]

/-- The key that parts make. -/
def madeK (i k : Int) (s : List UInt8) (p : Int) : List UInt8 := if k = 1 then inodeR i else if k = 2 then entryR i s else if k = 3 then chunkR i p else zs 24
def madeB (i k : Int) (s : List UInt8) (p : Int) : Bool := if k = 1 then okN i else if k = 2 then okN i && okS s else if k = 3 then okN i && okP p else false
theorem madeK_length (i k : Int) (s : List UInt8) (p : Int) : (madeK i k s p).length = 24 := by
  unfold madeK
  split
  · exact inodeR_length i
  · split
    · exact entryR_length i s
    · split
      · exact chunkR_length i p
      · exact zs_length 24

set_option maxHeartbeats 2000000 in
theorem made_calls (w : World) (i k : Int) (s : List UInt8) (p : Int) :
    Calls Tryz.prog 74 #[pv i k s p] w fun e w' => e = .returned (.tuple #[kv (madeK i k s p), .bool (madeB i k s p)]) ∧ Below w.heap.size w w' := by
  have hP : HasP ((w.alloc (.cells #[.int .i64 i, .int .i64 k, .string (str s), .int .i64 p] 99)).alloc (.cells (bc (zs 24)).toArray 31)) w.heap.size i k s p := by
    unfold HasP; rw [Below.heap_alloc _ _ _ (by simp)]; exact heap_alloc_new _ _
  have hZ : Has ((w.alloc (.cells #[.int .i64 i, .int .i64 k, .string (str s), .int .i64 p] 99)).alloc (.cells (bc (zs 24)).toArray 31)) (w.heap.size + 1) (zs 24) := by have := Has.new (w.alloc (.cells #[.int .i64 i, .int .i64 k, .string (str s), .int .i64 p] 99)) (zs 24) rfl; simpa using this
  have hB : Below w.heap.size w ((w.alloc (.cells #[.int .i64 i, .int .i64 k, .string (str s), .int .i64 p] 99)).alloc (.cells (bc (zs 24)).toArray 31)) := below_made (below_made (Below.refl _ w) (Nat.le_refl _) _) (Nat.le_refl _) _
  have HZ : Hid (Has ((w.alloc (.cells #[.int .i64 i, .int .i64 k, .string (str s), .int .i64 p] 99)).alloc (.cells (bc (zs 24)).toArray 31)) (w.heap.size + 1) (zs 24)) := hZ
  have HB : Hid (Below w.heap.size w ((w.alloc (.cells #[.int .i64 i, .int .i64 k, .string (str s), .int .i64 p] 99)).alloc (.cells (bc (zs 24)).toArray 31))) := hB
  have hmk : Hid (madeK i k s p = if k = 1 then inodeR i else if k = 2 then entryR i s else if k = 3 then chunkR i p else zs 24) := rfl
  have hmb : Hid (madeB i k s p = if k = 1 then okN i else if k = 2 then okN i && okS s else if k = 3 then okN i && okP p else false) := rfl
  clear hP hZ hB
  by_cases h1 : k = 1
  · subst h1
    go_enter Tryz.func74, Tryz.ntmps74
    go_wp2_with (first
      | (go_at_call 96; refine (inode_calls i _).mono ?_; rintro e w2 ⟨rfl, b2⟩)
      | (refine store_key rfl _ _ rfl _ rfl _ rfl (inodeR_length _) (zs 24) (HZ.out.below b2 HZ.out.lt) ?_; intro w3 h3 t3 s3))
    refine ret_key_ok rfl _ _ _ rfl rfl h3 rfl ⟨by rw [hmk.out, hmb.out]; rfl, below_touched (below_called HB.out b2 (Nat.le_refl _)) t3 (by omega) (Nat.le_refl _)⟩
  · by_cases h2 : k = 2
    · subst h2
      go_enter Tryz.func74, Tryz.ntmps74
      go_wp2_with (first
        | (go_at_call 97; refine (entry_calls i (str s) _).mono ?_; rintro e w2 ⟨rfl, b2⟩)
        | (refine store_key rfl _ _ rfl _ rfl _ rfl (entryR_length _ _) (zs 24) (HZ.out.below b2 HZ.out.lt) ?_; intro w3 h3 t3 s3))
      refine ret_key_ok rfl _ _ _ rfl rfl h3 rfl ⟨by rw [hmk.out, hmb.out]; rfl, below_touched (below_called HB.out b2 (Nat.le_refl _)) t3 (by omega) (Nat.le_refl _)⟩
    · by_cases h4 : k = 3
      · subst h4
        go_enter Tryz.func74, Tryz.ntmps74
        go_wp2_with (first
          | (go_at_call 51; refine (chunk_calls i p _).mono ?_; rintro e w2 ⟨rfl, b2⟩)
          | (refine store_key rfl _ _ rfl _ rfl _ rfl (chunkR_length _ _) (zs 24) (HZ.out.below b2 HZ.out.lt) ?_; intro w3 h3 t3 s3))
        refine ret_key_ok rfl _ _ _ rfl rfl h3 rfl ⟨by rw [hmk.out, hmb.out]; rfl, below_touched (below_called HB.out b2 (Nat.le_refl _)) t3 (by omega) (Nat.le_refl _)⟩
      · go_enter Tryz.func74, Tryz.ntmps74
        go_wp2_with (first
          | (refine store_key rfl _ _ rfl _ rfl (zs 24) rfl (zs_length _) (zs 24) HZ.out ?_; intro w3 h3 t3 s3))
        refine ret_key_ok rfl _ _ _ rfl rfl h3 rfl ⟨by rw [hmk.out, hmb.out, if_neg h1, if_neg h2, if_neg h4, if_neg h1, if_neg h2, if_neg h4]; rfl, below_touched HB.out t3 (by omega) (Nat.le_refl _)⟩

/-- Does a key say something? -/
def right (K : List UInt8) : Bool := madeB (pIno K) (pKind K) (pName K) (pPlace K) && (madeK (pIno K) (pKind K) (pName K) (pPlace K) == K)
def ofV (K : List UInt8) : Value := if right K then pv (pIno K) (pKind K) (pName K) (pPlace K) else pv 0 0 [] 0

set_option maxHeartbeats 4000000 in
theorem of_calls (w : World) (K : List UInt8) (hK : K.length = 24) :
    Calls Tryz.prog 47 #[kv K] w fun e w' => e = .returned (.tuple #[ofV K, .bool (right K)]) ∧ Below w.heap.size w w' := by
  have hS : Sd w w.heap.size K ((w.alloc (.cells (bc K).toArray 31)).alloc (.cells #[.int .i64 0, .int .i64 0, .string ⟨#[]⟩, .int .i64 0] 99)) := ⟨(Has.new w K hK).alloc _, by unfold HasP; rw [show w.heap.size + 1 = (w.alloc (.cells (bc K).toArray 31)).heap.size by simp]; exact heap_alloc_new _ _, below_made (below_made (Below.refl _ w) (Nat.le_refl _) _) (Nat.le_refl _) _, Nat.le_refl _⟩
  have HR : Hid (right K = (madeB (pIno K) (pKind K) (pName K) (pPlace K) && (madeK (pIno K) (pKind K) (pName K) (pPlace K) == K))) := rfl
  have HV : Hid (ofV K = if right K then pv (pIno K) (pKind K) (pName K) (pPlace K) else pv 0 0 [] 0) := rfl
  have HM : Hid (∀ w, Calls Tryz.prog 74 #[pv (pIno K) (pKind K) (pName K) (pPlace K)] w fun e w' => e = .returned (.tuple #[kv (madeK (pIno K) (pKind K) (pName K) (pPlace K)), .bool (madeB (pIno K) (pKind K) (pName K) (pPlace K))]) ∧ Below w.heap.size w w') := fun w => made_calls w _ _ _ _
  have hML := madeK_length (pIno K) (pKind K) (pName K) (pPlace K)
  have heq := fun w => eq_key w _ K hML hK
  generalize madeK (pIno K) (pKind K) (pName K) (pPlace K) = M at *
  generalize madeB (pIno K) (pKind K) (pName K) (pPlace K) = mb at *
  have HSa := said_calls ((w.alloc (.cells (bc K).toArray 31)).alloc (.cells #[.int .i64 0, .int .i64 0, .string ⟨#[]⟩, .int .i64 0] 99)) K hK
  generalize pIno K = pi at *
  generalize pKind K = pk at *
  generalize pName K = pn at *
  generalize pPlace K = pp at *
  go_enter Tryz.func47, Tryz.ntmps47
  go_upto_region 3 with (first
    | (refine load_key _ rfl w.heap.size rfl rfl _ hS.key ?_)
    | (go_at_call 73; refine HSa.mono ?_; rintro e w2 ⟨rfl, b2⟩)
    | (go_at_call 74; refine (HM.out _).mono ?_; rintro e w3 ⟨rfl, b3⟩)
    | (refine store_key rfl _ _ rfl _ rfl _ rfl hML (zs 24) (zero_has w3 w3.heap.size rfl) ?_; intro w4 h4 t4 s4))
  have S2 := hS.called b2
  have hl2 := S2.lt
  have hP2 : HasP w3 w2.heap.size pi pk pn pp := (b3.block _ (by simp)).trans (heap_alloc_new _ _)
  have S3 := (S2.alloc _).called b3
  have hl3 : w2.heap.size < w3.heap.size := lt_of_block hP2
  have S4 := (S3.alloc _).touch t4 (by omega)
  have hP4 : HasP w4 w2.heap.size pi pk pn pp := (t4.block _ (by simp; omega) (by omega) (by simp)).trans ((Below.heap_alloc _ _ _ hl3).trans hP2)
  clear t4 s4 b3 b2 hP2 S3 S2 hS HSa HM
  obtain ⟨c0, c1, c2, c3⟩ := cells4 hP4
  obtain ⟨d0, d1, d2, d3⟩ := cells4 S4.res
  obtain ⟨g0, g1, g2, g3⟩ := free4 S4.res
  have B4 : ∀ (i' k' : Int) (s' : List UInt8) (p' : Int), Below w.heap.size w ((((w4.setCell ⟨w.heap.size + 1, 0, none⟩ (.int .i64 i')).setCell ⟨w.heap.size + 1, 1, none⟩ (.int .i64 k')).setCell ⟨w.heap.size + 1, 2, none⟩ (.string (str s'))).setCell ⟨w.heap.size + 1, 3, none⟩ (.int .i64 p')) := fun i' k' s' p' => (((S4.bel.setCell (by simp) _).setCell (by simp) _).setCell (by simp) _).setCell (by simp) _
  have HB4 : Hid (∀ (i' k' : Int) (s' : List UInt8) (p' : Int), Below w.heap.size w ((((w4.setCell ⟨w.heap.size + 1, 0, none⟩ (.int .i64 i')).setCell ⟨w.heap.size + 1, 1, none⟩ (.int .i64 k')).setCell ⟨w.heap.size + 1, 2, none⟩ (.string (str s'))).setCell ⟨w.heap.size + 1, 3, none⟩ (.int .i64 p'))) := B4
  have HS4 : Hid (Sd w w.heap.size K w4) := S4
  have H4 : Hid (Has w4 w3.heap.size M) := h4
  have hne : w2.heap.size ≠ w.heap.size + 1 := by omega
  clear B4 S4 h4 hP4
  cases mb with
  | false =>
    have hr : right K = false := by rw [HR.out]; rfl
    go_wp2_with fail
    refine ret_parts_ok rfl _ _ _ _ _ _ rfl rfl (HS4.out.res.put4 _ _ _ _) rfl ⟨by rw [HV.out, hr]; rfl, HB4.out 0 0 [] 0⟩
  | true =>
    cases hmk : M == K with
    | false =>
      have hr : right K = false := by rw [HR.out, hmk]; rfl
      rw [hmk] at heq
      go_wp2_with (first
        | (refine load_key _ rfl w3.heap.size rfl rfl _ H4.out ?_)
        | (refine load_key _ rfl w.heap.size rfl rfl _ HS4.out.key ?_))
      refine ret_parts_ok rfl _ _ _ _ _ _ rfl rfl (HS4.out.res.put4 _ _ _ _) rfl ⟨by rw [HV.out, hr]; rfl, HB4.out 0 0 [] 0⟩
    | true =>
      have hr : right K = true := by rw [HR.out, hmk]; rfl
      rw [hmk] at heq
      go_wp2_with (first
        | (refine load_key _ rfl w3.heap.size rfl rfl _ H4.out ?_)
        | (refine load_key _ rfl w.heap.size rfl rfl _ HS4.out.key ?_))
      refine ret_parts_ok rfl _ _ _ _ _ _ rfl rfl (HS4.out.res.put4 _ _ _ _) rfl ⟨by rw [HV.out, hr]; rfl, HB4.out _ _ _ _⟩
end Go.Proofs.YtdmindhjmjnagabGreatDoor
