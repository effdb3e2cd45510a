import Derived.Test.YtdmindhjmjnagaaGreatDoorB03
import Derived.Deep.DeepCutAuto
import GoSem.Core.Utf8
import Derived.Test.YtdmindhjmjnagaaGreatDoorChecked
import Derived.Test.YtdmindhjmjnagaaGreatDoorB01
import Derived.Laws.RangeString
import Derived.Laws.RangeAny
import Derived.Lib.Strings
import Derived.Lib.IndexBytes
import Derived.Deep.MidRow
import Derived.Laws.OwnMore
import Derived.Deep.Onto
import Derived.Laws.AppendOwnNone
import Derived.Sort.OwnSortedInts
import Derived.Lib.SmallJoins
/- KeyF NaM NaN NaA Sl SlArg -/
namespace Go.Proofs.YtdmindhjmjnagaaGreatDoor
set_option linter.unusedVariables false
set_option maxRecDepth 1000000
set_option maxHeartbeats 32000000
section
open Go.RowKit
def pIno (K : List UInt8) : Int := (num [K.getD 0 0, K.getD 1 0, K.getD 2 0, K.getD 3 0] : Int)
def pKind (K : List UInt8) : Int := ((K.getD 4 0).toNat : Int)
def nmLen (K : List UInt8) : Nat := min (K.getD 23 0).toNat 18
def nm (K : List UInt8) : List UInt8 := (K.drop 5).take (nmLen K)
def pName (K : List UInt8) : List UInt8 := if pKind K = 2 then nm K else []
def pPlace (K : List UInt8) : Int := if pKind K = 3 then (num [K.getD 20 0, K.getD 21 0, K.getD 22 0, K.getD 23 0] : Int) else 0
abbrev pv (i k : Int) (s : List UInt8) (p : Int) : Value := .agg #[.int .i64 i, .int .i64 k, .string (str s), .int .i64 p]
theorem conv_key {w : World} {b : Nat} {K : List UInt8} (h : Has w b K) (o n cap : Nat) (hn : o + n ≤ 24) : (convert 49 9 (.slice (some ⟨b, o, none⟩) n cap)).run Tryz.prog w = .ok (.string (str ((K.drop o).take n))) w := by
 have hl := h.len
 have := run_convert_bytes_arg (P := Tryz.prog) w 49 5 Tryz.underlying49 Tryz.underlying5 b o n cap (((K.drop o).take n).map fun b => (b.toNat : Int)) (by simp; omega) (fun i hi => by
  rw [h.cell (o + i) (by omega)]
  have hj : o + i < K.length := by omega
  simp [hi, List.getElem?_drop, hj]) 9 Tryz.underlying9
 rw [str_of] at this
 exact this
theorem slice_key (w : World) (b m : Nat) (hm : m ≤ 18) : (Instr.sliceAt 54 (.pointer (some ⟨b, 0, none⟩)) (some (.int .i64 5)) (some (.int .i64 (5 + (m : Int)))) none).run Tryz.prog w = .ok (.slice (some ⟨b, 5, none⟩) m 19) w := by
 have hal : Tryz.prog.arrayLen 54 = 24 := by kernel_rfl
 have hel : Tryz.prog.elem 54 = 5 := by kernel_rfl
 have hu : Tryz.prog.underlying 54 = some (.array (Tryz.prog.arrayLen 54) (Tryz.prog.elem 54)) := by rw [hal, hel]; exact Tryz.underlying54
 rw [run_sliceAt_array_lh w 54 ⟨b, 0, none⟩ hu .i64 .i64 5 (5 + (m : Int)) (by omega) (by omega) (by rw [hal]; omega), hel, Tryz.sizeOf5, hal]
 simp only [Result.andThen, slicedAt]
 have e1 : (5 + (m : Int)).toNat - (5 : Int).toNat = m := by omega
 rw [e1]
 rfl
def HasP (w : World) (b : Nat) (i k : Int) (s : List UInt8) (p : Int) : Prop := w.heap[b]? = some (.cells #[.int .i64 i, .int .i64 k, .string (str s), .int .i64 p] 58 (0, 0))
theorem cells4 {w : World} {b : Nat} {x y z u : Value} {t : TypeId} (h : w.heap[b]? = some (.cells #[x, y, z, u] t (0, 0))) :
    w.cell? ⟨b, 0, none⟩ = some x ∧ w.cell? ⟨b, 1, none⟩ = some y ∧ w.cell? ⟨b, 2, none⟩ = some z ∧ w.cell? ⟨b, 3, none⟩ = some u := by
 refine ⟨?_, ?_, ?_, ?_⟩ <;> (rw [cell_of_row w b _ _ _ _ h]; rfl)
theorem free4 {w : World} {b : Nat} {x y z u : Value} {t : TypeId} (h : w.heap[b]? = some (.cells #[x, y, z, u] t (0, 0))) :
    w.frozen? ⟨b, 0, none⟩ = false ∧ w.frozen? ⟨b, 1, none⟩ = false ∧ w.frozen? ⟨b, 2, none⟩ = false ∧ w.frozen? ⟨b, 3, none⟩ = false := by
 refine ⟨?_, ?_, ?_, ?_⟩ <;> simp [World.frozen?, h]
theorem set_blk {w : World} {b : Nat} {C : Array Value} {t : TypeId} (h : w.heap[b]? = some (.cells C t (0, 0))) (j : Nat) (u : Value) : (w.setCell ⟨b, j, none⟩ u).heap[b]? = some (.cells (C.setIfInBounds j u) t (0, 0)) := by
 rw [setCell_eq_setRow w b j C t _ u h, setRow_heap w b _ _ _ _ h]
theorem HasP.put4 {w : World} {b : Nat} {i k : Int} {s : List UInt8} {p : Int} (h : HasP w b i k s p) (i' k' : Int) (s' : List UInt8) (p' : Int) :
    HasP ((((w.setCell ⟨b, 0, none⟩ (.int .i64 i')).setCell ⟨b, 1, none⟩ (.int .i64 k')).setCell ⟨b, 2, none⟩ (.string (str s'))).setCell ⟨b, 3, none⟩ (.int .i64 p')) b i' k' s' p' :=
 set_blk (set_blk (set_blk (set_blk h 0 _) 1 _) 2 _) 3 _
theorem ret_parts {fn : Func} {R : Ending → World → Prop} {a : Act} {w : World} {t : Tmp} (hr : fn.results = #[.cell t 58]) (b : Nat) (i k : Int) (s : List UInt8) (p : Int) (hp : a.tmps.getD t undef = .pointer (some ⟨b, 0, none⟩)) (hK : HasP w b i k s p)
    (hd : a.defers = []) (hR : R (.returned (pv i k s p)) w) : bodyPost Tryz.prog fn R .ret a w :=
 bodyPost_ret (results_cell_row hr _ w b _ _ _ _ hp hK Tryz.underlying58 rfl (by kernel_rfl)) hd hR
theorem ret_parts_ok {fn : Func} {R : Ending → World → Prop} {a : Act} {w : World} {t u : Tmp} (hr : fn.results = #[.cell t 58, .tmp u]) (b : Nat) (i k : Int) (s : List UInt8) (p : Int) (v : Value) (hp : a.tmps.getD t undef = .pointer (some ⟨b, 0, none⟩)) (hv : a.tmps.getD u undef = v) (hK : HasP w b i k s p)
    (hd : a.defers = []) (hR : R (.returned (.tuple #[pv i k s p, v])) w) : bodyPost Tryz.prog fn R .ret a w := by
 refine bodyPost_ret (v := .tuple #[pv i k s p, v]) ?_ hd hR
 have hl := run_loadVar_row (P := Tryz.prog) w b 58 58 _ _ _ hK Tryz.underlying58 rfl (by kernel_rfl)
 rw [results_cell_tmp hr, hp, hv]
 simp [asAddr, Result.andThen, hl]
structure Sd (w : World) (b : Nat) (K : List UInt8) (w' : World) : Prop where
 key : Has w' b K
 res : HasP w' (b + 1) 0 0 [] 0
 bel : Below w.heap.size w w'
 at0 : w.heap.size ≤ b
theorem Sd.lt {w : World} {b : Nat} {K : List UInt8} {w' : World} (h : Sd w b K w') : b + 1 < w'.heap.size := lt_of_block h.res
theorem Sd.drew {w : World} {b : Nat} {K : List UInt8} {w' : World} (h : Sd w b K w') : Sd w b K w'.drew := ⟨⟨h.key.len, h.key.blk⟩, h.res, h.bel.drew, h.at0⟩
theorem Sd.alloc {w : World} {b : Nat} {K : List UInt8} {w' : World} (h : Sd w b K w') (o : Obj) : Sd w b K (w'.alloc o) := ⟨h.key.alloc o, by unfold HasP; rw [Below.heap_alloc _ _ _ h.lt]; exact h.res, below_made h.bel (Nat.le_refl _) _, h.at0⟩
theorem Sd.set {w : World} {b : Nat} {K : List UInt8} {w' : World} (h : Sd w b K w') (q j : Nat) (u : Value) (hq : b + 1 < q) : Sd w b K (w'.setCell ⟨q, j, none⟩ u) := ⟨h.key.setOther (by omega) _ _, by unfold HasP; rw [Below.heap_setCell _ _ _ _ (by simp; omega)]; exact h.res, h.bel.setCell (by simp; have := h.at0; omega) _, h.at0⟩
theorem Sd.called {w : World} {b : Nat} {K : List UInt8} {w' w'' : World} (h : Sd w b K w') (hb : Below w'.heap.size w' w'') : Sd w b K w'' := ⟨h.key.below hb h.key.lt, (hb.block _ h.lt).trans h.res, below_called h.bel hb (Nat.le_refl _), h.at0⟩
theorem Sd.touch {w : World} {b q : Nat} {K : List UInt8} {w' w'' : World} (h : Sd w b K w') (ht : Touch q none w' w'') (hq : b + 1 < q) : Sd w b K w'' := ⟨h.key.touch ht (by omega), (ht.block _ h.lt (by omega) (by simp)).trans h.res, below_touched h.bel ht (by have := h.at0; omega) (Nat.le_refl _), h.at0⟩
theorem Sd.cell {w : World} {b : Nat} {K : List UInt8} {w' : World} (h : Sd w b K w') : w'.cell? ⟨b, 4, none⟩ = some (.int .u8 ((K.getD 4 0).toNat : Int)) := h.key.cell 4 (by omega)
theorem said_calls (w : World) (K : List UInt8) (hK : K.length = 24) :
    Calls Tryz.prog 56 #[kv K] w fun e w' => e = .returned (pv (pIno K) (pKind K) (pName K) (pPlace K)) ∧ Below w.heap.size w w' := by
 go_enter Tryz.func56, Tryz.ntmps56
 go_upto_region 1 with fail
 have hS : Sd w w.heap.size K ((w.alloc (.cells (bc K).toArray 54)).alloc (.cells #[.int .i64 0, .int .i64 0, .string ⟨#[]⟩, .int .i64 0] 58)) := ⟨(Has.new w K hK).alloc _, by unfold HasP; rw [show w.heap.size + 1 = (w.alloc (.cells (bc K).toArray 54)).heap.size by simp]; exact heap_alloc_new _ _, below_made (below_made (Below.refl _ w) (Nat.le_refl _) _) (Nat.le_refl _) _, Nat.le_refl _⟩
 generalize (w.alloc (.cells (bc K).toArray 54)).alloc (.cells #[.int .i64 0, .int .i64 0, .string ⟨#[]⟩, .int .i64 0] 58) = W at hS ⊢
 have h4 := (K.getD 4 0).toNat_lt
 go_cut [3] (fun v wc => ∃ q, v = .pointer (some ⟨q, 0, none⟩) ∧ w.heap.size + 1 < q ∧ HasP wc q (pIno K) (pKind K) [] 0 ∧ Sd w w.heap.size K wc)
 case first =>
  go_region_held3 (fun w' => w'.cell? ⟨w.heap.size, 4, none⟩ = some (.int .u8 ((K.getD 4 0).toNat : Int)) ∧ Sd w w.heap.size K w') (first
   | exact ⟨hS.drew.cell, hS.drew⟩
   | exact ⟨(hS.alloc _).drew.cell, (hS.alloc _).drew⟩
   | assumption
   | (go_split_ands; refine (fun M => ⟨Sd.cell M, M⟩) (Sd.alloc (by assumption) _))) (first
   | (go_at_call 100; go_split_ands; rename_i hh; refine (kword_calls _ w.heap.size 0 24 (K.getD 0 0) (K.getD 1 0) (K.getD 2 0) (K.getD 3 0) (hh.key.cell 0 (by omega)) (hh.key.cell 1 (by omega)) (hh.key.cell 2 (by omega)) (hh.key.cell 3 (by omega))).mono ?_; rintro e w3 ⟨rfl, rfl⟩))
  all_goals
   go_wp2_with fail
   go_meet
   case rel =>
    refine ⟨W.heap.size, rfl, by have := hS.lt; omega, ?_, (hS.alloc _).drew⟩
    refine (heap_alloc_new W _).trans ?_
    congr 2
    simp [pIno, pKind, hK, IntKind.wrap_i64]
    exact ⟨by have := (K[4]'(by omega)).toNat_lt; omega, rfl⟩
 case rest =>
  clear hS
  obtain ⟨q, rfl, hq, hP, hS⟩ := hcut
  obtain ⟨c0, c1, c2, c3⟩ := cells4 hP
  obtain ⟨f0, f1, f2, f3⟩ := free4 hP
  obtain ⟨d0, d1, d2, d3⟩ := cells4 hS.res
  obtain ⟨g0, g1, g2, g3⟩ := free4 hS.res
  have HS : Hid (Sd w w.heap.size K wc) := hS
  have HP : Hid (HasP wc q (pIno K) (pKind K) [] 0) := hP
  have c23 := hS.key.cell 23 (by omega)
  clear hS hP
  have hqn : q ≠ w.heap.size := by omega
  have hqn1 : q ≠ w.heap.size + 1 := by omega
  have B4 : ∀ (w' : World) (i' k' : Int) (s' : List UInt8) (p' : Int), Sd w w.heap.size K w' → Below w.heap.size w ((((w'.setCell ⟨w.heap.size + 1, 0, none⟩ (.int .i64 i')).setCell ⟨w.heap.size + 1, 1, none⟩ (.int .i64 k')).setCell ⟨w.heap.size + 1, 2, none⟩ (.string (str s'))).setCell ⟨w.heap.size + 1, 3, none⟩ (.int .i64 p')) := fun w' i' k' s' p' h => (((h.bel.setCell (by simp) _).setCell (by simp) _).setCell (by simp) _).setCell (by simp) _
  have HB4 : Hid (∀ (w' : World) (i' k' : Int) (s' : List UInt8) (p' : Int), Sd w w.heap.size K w' → Below w.heap.size w ((((w'.setCell ⟨w.heap.size + 1, 0, none⟩ (.int .i64 i')).setCell ⟨w.heap.size + 1, 1, none⟩ (.int .i64 k')).setCell ⟨w.heap.size + 1, 2, none⟩ (.string (str s'))).setCell ⟨w.heap.size + 1, 3, none⟩ (.int .i64 p'))) := B4
  clear B4
  have hpN : Hid (pName K = if pKind K = 2 then nm K else []) := rfl
  have hpP : Hid (pPlace K = if pKind K = 3 then (num [K.getD 20 0, K.getD 21 0, K.getD 22 0, K.getD 23 0] : Int) else 0) := rfl
  by_cases hk2 : pKind K = 2
  · have hnm : Hid (nm K = (K.drop 5).take (nmLen K)) := rfl
    have hlen : (nmLen K : Int) = min ((K.getD 23 0).toNat : Int) 18 := by simp only [nmLen]; omega
    have hl18 : nmLen K ≤ 18 := Nat.min_le_right _ _
    have hcv : (convert 49 9 (.slice (some ⟨w.heap.size, 5, none⟩) (nmLen K) 19)).run Tryz.prog wc = .ok (.string (str (nm K))) wc := by rw [hnm.out]; exact conv_key HS.out.key 5 (nmLen K) 19 (by omega)
    have h23 := (K.getD 23 0).toNat_lt
    generalize nmLen K = m at *
    generalize (K.getD 23 0).toNat = k23 at *
    go_wp2_with fail
    have hb0 : (5 : Int) ≤ 5 + (m : Int) := by omega
    have hb1 : (5 : Int) + (m : Int) ≤ 24 := by omega
    simp only [← hlen]
    clear hlen
    have hsl := slice_key wc w.heap.size m hl18
    rw [hsl]
    simp only [Result.andThen]
    rw [Oper.upon_value]
    go_wp2_with fail
    refine ret_parts rfl _ _ _ _ _ rfl ((HS.out.set q 2 _ hq).res.put4 _ _ _ _) rfl ⟨?_, HB4.out _ _ _ _ _ (HS.out.set q 2 _ hq)⟩
    rw [hpN.out, hpP.out, if_pos hk2, hk2, if_neg (by omega)]
  · by_cases hk3 : pKind K = 3
    · go_wp2_with (go_at_call 100; refine (kword_calls _ w.heap.size 20 4 (K.getD 20 0) (K.getD 21 0) (K.getD 22 0) (K.getD 23 0) (HS.out.key.cell 20 (by omega)) (HS.out.key.cell 21 (by omega)) (HS.out.key.cell 22 (by omega)) (HS.out.key.cell 23 (by omega))).mono ?_; rintro e w3 ⟨rfl, rfl⟩)
      refine ret_parts rfl _ _ _ _ _ rfl ((HS.out.set q 3 _ hq).res.put4 _ _ _ _) rfl ⟨?_, HB4.out _ _ _ _ _ (HS.out.set q 3 _ hq)⟩
      rw [hpN.out, hpP.out, if_neg hk2, if_pos hk3, hk3]
      simp [hK]
    · go_wp2_with fail
      refine ret_parts rfl _ _ _ _ _ rfl (HS.out.res.put4 _ _ _ _) rfl ⟨?_, HB4.out _ _ _ _ _ HS.out⟩
      rw [hpN.out, hpP.out, if_neg hk2, if_neg hk3]
def madeK (i k : Int) (s : List UInt8) (p : Int) : List UInt8 := if k = 1 then inodeR i else if k = 2 then entryR i s else if k = 3 then chunkR i p else zs 24
def madeB (i k : Int) (s : List UInt8) (p : Int) : Bool := if k = 1 then okN i else if k = 2 then okN i && okS s else if k = 3 then okN i && okP p else false
theorem madeK_length (i k : Int) (s : List UInt8) (p : Int) : (madeK i k s p).length = 24 := by
 unfold madeK
 split
 · exact inodeR_length i
 · split
   · exact entryR_length i s
   · split
     · exact chunkR_length i p
     · exact zs_length 24
theorem made_calls (w : World) (i k : Int) (s : List UInt8) (p : Int) :
    Calls Tryz.prog 57 #[pv i k s p] w fun e w' => e = .returned (.tuple #[kv (madeK i k s p), .bool (madeB i k s p)]) ∧ Below w.heap.size w w' := by
 have hP : HasP ((w.alloc (.cells #[.int .i64 i, .int .i64 k, .string (str s), .int .i64 p] 58)).alloc (.cells (bc (zs 24)).toArray 54)) w.heap.size i k s p := by
  unfold HasP; rw [Below.heap_alloc _ _ _ (by simp)]; exact heap_alloc_new _ _
 have hZ : Has ((w.alloc (.cells #[.int .i64 i, .int .i64 k, .string (str s), .int .i64 p] 58)).alloc (.cells (bc (zs 24)).toArray 54)) (w.heap.size + 1) (zs 24) := by have := Has.new (w.alloc (.cells #[.int .i64 i, .int .i64 k, .string (str s), .int .i64 p] 58)) (zs 24) rfl; simpa using this
 have hB : Below w.heap.size w ((w.alloc (.cells #[.int .i64 i, .int .i64 k, .string (str s), .int .i64 p] 58)).alloc (.cells (bc (zs 24)).toArray 54)) := below_made (below_made (Below.refl _ w) (Nat.le_refl _) _) (Nat.le_refl _) _
 have HZ : Hid (Has ((w.alloc (.cells #[.int .i64 i, .int .i64 k, .string (str s), .int .i64 p] 58)).alloc (.cells (bc (zs 24)).toArray 54)) (w.heap.size + 1) (zs 24)) := hZ
 have HB : Hid (Below w.heap.size w ((w.alloc (.cells #[.int .i64 i, .int .i64 k, .string (str s), .int .i64 p] 58)).alloc (.cells (bc (zs 24)).toArray 54))) := hB
 have hmk : Hid (madeK i k s p = if k = 1 then inodeR i else if k = 2 then entryR i s else if k = 3 then chunkR i p else zs 24) := rfl
 have hmb : Hid (madeB i k s p = if k = 1 then okN i else if k = 2 then okN i && okS s else if k = 3 then okN i && okP p else false) := rfl
 clear hP hZ hB
 by_cases h1 : k = 1
 · subst h1
   go_enter Tryz.func57, Tryz.ntmps57
   go_wp2_with (first
    | (go_at_call 101; refine (inode_calls i _).mono ?_; rintro e w2 ⟨rfl, b2⟩)
    | (refine store_key rfl _ _ rfl _ rfl _ rfl (inodeR_length _) (zs 24) (HZ.out.below b2 HZ.out.lt) ?_; intro w3 h3 t3 s3))
   refine ret_key_ok rfl _ _ _ rfl rfl h3 rfl ⟨by rw [hmk.out, hmb.out]; rfl, below_touched (below_called HB.out b2 (Nat.le_refl _)) t3 (by omega) (Nat.le_refl _)⟩
 · by_cases h2 : k = 2
   · subst h2
     go_enter Tryz.func57, Tryz.ntmps57
     go_wp2_with (first
      | (go_at_call 102; refine (entry_calls i (str s) _).mono ?_; rintro e w2 ⟨rfl, b2⟩)
      | (refine store_key rfl _ _ rfl _ rfl _ rfl (entryR_length _ _) (zs 24) (HZ.out.below b2 HZ.out.lt) ?_; intro w3 h3 t3 s3))
     refine ret_key_ok rfl _ _ _ rfl rfl h3 rfl ⟨by rw [hmk.out, hmb.out]; rfl, below_touched (below_called HB.out b2 (Nat.le_refl _)) t3 (by omega) (Nat.le_refl _)⟩
   · by_cases h4 : k = 3
     · subst h4
       go_enter Tryz.func57, Tryz.ntmps57
       go_wp2_with (first
        | (go_at_call 24; refine (chunk_calls i p _).mono ?_; rintro e w2 ⟨rfl, b2⟩)
        | (refine store_key rfl _ _ rfl _ rfl _ rfl (chunkR_length _ _) (zs 24) (HZ.out.below b2 HZ.out.lt) ?_; intro w3 h3 t3 s3))
       refine ret_key_ok rfl _ _ _ rfl rfl h3 rfl ⟨by rw [hmk.out, hmb.out]; rfl, below_touched (below_called HB.out b2 (Nat.le_refl _)) t3 (by omega) (Nat.le_refl _)⟩
     · go_enter Tryz.func57, Tryz.ntmps57
       go_wp2_with (first
        | (refine store_key rfl _ _ rfl _ rfl (zs 24) rfl (zs_length _) (zs 24) HZ.out ?_; intro w3 h3 t3 s3))
       refine ret_key_ok rfl _ _ _ rfl rfl h3 rfl ⟨by rw [hmk.out, hmb.out, if_neg h1, if_neg h2, if_neg h4, if_neg h1, if_neg h2, if_neg h4]; rfl, below_touched HB.out t3 (by omega) (Nat.le_refl _)⟩
def right (K : List UInt8) : Bool := madeB (pIno K) (pKind K) (pName K) (pPlace K) && (madeK (pIno K) (pKind K) (pName K) (pPlace K) == K)
def ofV (K : List UInt8) : Value := if right K then pv (pIno K) (pKind K) (pName K) (pPlace K) else pv 0 0 [] 0
theorem of_calls (w : World) (K : List UInt8) (hK : K.length = 24) :
    Calls Tryz.prog 23 #[kv K] w fun e w' => e = .returned (.tuple #[ofV K, .bool (right K)]) ∧ Below w.heap.size w w' := by
 have hS : Sd w w.heap.size K ((w.alloc (.cells (bc K).toArray 54)).alloc (.cells #[.int .i64 0, .int .i64 0, .string ⟨#[]⟩, .int .i64 0] 58)) := ⟨(Has.new w K hK).alloc _, by unfold HasP; rw [show w.heap.size + 1 = (w.alloc (.cells (bc K).toArray 54)).heap.size by simp]; exact heap_alloc_new _ _, below_made (below_made (Below.refl _ w) (Nat.le_refl _) _) (Nat.le_refl _) _, Nat.le_refl _⟩
 have HR : Hid (right K = (madeB (pIno K) (pKind K) (pName K) (pPlace K) && (madeK (pIno K) (pKind K) (pName K) (pPlace K) == K))) := rfl
 have HV : Hid (ofV K = if right K then pv (pIno K) (pKind K) (pName K) (pPlace K) else pv 0 0 [] 0) := rfl
 have HM : Hid (∀ w, Calls Tryz.prog 57 #[pv (pIno K) (pKind K) (pName K) (pPlace K)] w fun e w' => e = .returned (.tuple #[kv (madeK (pIno K) (pKind K) (pName K) (pPlace K)), .bool (madeB (pIno K) (pKind K) (pName K) (pPlace K))]) ∧ Below w.heap.size w w') := fun w => made_calls w _ _ _ _
 have hML := madeK_length (pIno K) (pKind K) (pName K) (pPlace K)
 have heq := fun w => eq_key w _ K hML hK
 generalize madeK (pIno K) (pKind K) (pName K) (pPlace K) = M at *
 generalize madeB (pIno K) (pKind K) (pName K) (pPlace K) = mb at *
 have HSa := said_calls ((w.alloc (.cells (bc K).toArray 54)).alloc (.cells #[.int .i64 0, .int .i64 0, .string ⟨#[]⟩, .int .i64 0] 58)) K hK
 generalize pIno K = pi at *
 generalize pKind K = pk at *
 generalize pName K = pn at *
 generalize pPlace K = pp at *
 go_enter Tryz.func23, Tryz.ntmps23
 go_upto_region 3 with (first
  | (refine load_key _ rfl w.heap.size rfl rfl _ hS.key ?_)
  | (go_at_call 56; refine HSa.mono ?_; rintro e w2 ⟨rfl, b2⟩)
  | (go_at_call 57; refine (HM.out _).mono ?_; rintro e w3 ⟨rfl, b3⟩)
  | (refine store_key rfl _ _ rfl _ rfl _ rfl hML (zs 24) (zero_has w3 w3.heap.size rfl) ?_; intro w4 h4 t4 s4))
 have S2 := hS.called b2
 have hl2 := S2.lt
 have hP2 : HasP w3 w2.heap.size pi pk pn pp := (b3.block _ (by simp)).trans (heap_alloc_new _ _)
 have S3 := (S2.alloc _).called b3
 have hl3 : w2.heap.size < w3.heap.size := lt_of_block hP2
 have S4 := (S3.alloc _).touch t4 (by omega)
 have hP4 : HasP w4 w2.heap.size pi pk pn pp := (t4.block _ (by simp; omega) (by omega) (by simp)).trans ((Below.heap_alloc _ _ _ hl3).trans hP2)
 clear t4 s4 b3 b2 hP2 S3 S2 hS HSa HM
 obtain ⟨c0, c1, c2, c3⟩ := cells4 hP4
 obtain ⟨d0, d1, d2, d3⟩ := cells4 S4.res
 obtain ⟨g0, g1, g2, g3⟩ := free4 S4.res
 have B4 : ∀ (i' k' : Int) (s' : List UInt8) (p' : Int), Below w.heap.size w ((((w4.setCell ⟨w.heap.size + 1, 0, none⟩ (.int .i64 i')).setCell ⟨w.heap.size + 1, 1, none⟩ (.int .i64 k')).setCell ⟨w.heap.size + 1, 2, none⟩ (.string (str s'))).setCell ⟨w.heap.size + 1, 3, none⟩ (.int .i64 p')) := fun i' k' s' p' => (((S4.bel.setCell (by simp) _).setCell (by simp) _).setCell (by simp) _).setCell (by simp) _
 have HB4 : Hid (∀ (i' k' : Int) (s' : List UInt8) (p' : Int), Below w.heap.size w ((((w4.setCell ⟨w.heap.size + 1, 0, none⟩ (.int .i64 i')).setCell ⟨w.heap.size + 1, 1, none⟩ (.int .i64 k')).setCell ⟨w.heap.size + 1, 2, none⟩ (.string (str s'))).setCell ⟨w.heap.size + 1, 3, none⟩ (.int .i64 p'))) := B4
 have HS4 : Hid (Sd w w.heap.size K w4) := S4
 have H4 : Hid (Has w4 w3.heap.size M) := h4
 have hne : w2.heap.size ≠ w.heap.size + 1 := by omega
 clear B4 S4 h4 hP4
 cases mb with
 | false =>
  have hr : right K = false := by rw [HR.out]; rfl
  go_wp2_with fail
  refine ret_parts_ok rfl _ _ _ _ _ _ rfl rfl (HS4.out.res.put4 _ _ _ _) rfl ⟨by rw [HV.out, hr]; rfl, HB4.out 0 0 [] 0⟩
 | true =>
  cases hmk : M == K with
  | false =>
   have hr : right K = false := by rw [HR.out, hmk]; rfl
   rw [hmk] at heq
   go_wp2_with (first
    | (refine load_key _ rfl w3.heap.size rfl rfl _ H4.out ?_)
    | (refine load_key _ rfl w.heap.size rfl rfl _ HS4.out.key ?_))
   refine ret_parts_ok rfl _ _ _ _ _ _ rfl rfl (HS4.out.res.put4 _ _ _ _) rfl ⟨by rw [HV.out, hr]; rfl, HB4.out 0 0 [] 0⟩
  | true =>
   have hr : right K = true := by rw [HR.out, hmk]; rfl
   rw [hmk] at heq
   go_wp2_with (first
    | (refine load_key _ rfl w3.heap.size rfl rfl _ H4.out ?_)
    | (refine load_key _ rfl w.heap.size rfl rfl _ HS4.out.key ?_))
   refine ret_parts_ok rfl _ _ _ _ _ _ rfl rfl (HS4.out.res.put4 _ _ _ _) rfl ⟨by rw [HV.out, hr]; rfl, HB4.out _ _ _ _⟩
end
section
def tlB (b : UInt8) : Bool := decide (128 ≤ b.toNat) && decide (b.toNat < 192)
def chr (L : List UInt8) : Nat × Nat :=
 match L with
 | [] => (0, 0)
 | a :: r =>
  if a.toNat < 128 then (1, a.toNat)
  else if 192 ≤ a.toNat ∧ a.toNat < 224 then
    match r with
    | b :: _ => if tlB b = true ∧ 128 ≤ (a.toNat - 192) * 64 + (b.toNat - 128) then (2, (a.toNat - 192) * 64 + (b.toNat - 128)) else (0, 0)
    | _ => (0, 0)
  else if 224 ≤ a.toNat ∧ a.toNat < 240 then
    match r with
    | b :: c :: _ => if (tlB b = true ∧ tlB c = true) ∧ 2048 ≤ (a.toNat - 224) * 4096 + (b.toNat - 128) * 64 + (c.toNat - 128) ∧ ((a.toNat - 224) * 4096 + (b.toNat - 128) * 64 + (c.toNat - 128) < 55296 ∨ 57343 < (a.toNat - 224) * 4096 + (b.toNat - 128) * 64 + (c.toNat - 128))
        then (3, (a.toNat - 224) * 4096 + (b.toNat - 128) * 64 + (c.toNat - 128)) else (0, 0)
    | _ => (0, 0)
  else if 240 ≤ a.toNat ∧ a.toNat < 248 then
    match r with
    | b :: c :: d :: _ => if (tlB b = true ∧ tlB c = true ∧ tlB d = true) ∧ 65536 ≤ (a.toNat - 240) * 262144 + (b.toNat - 128) * 4096 + (c.toNat - 128) * 64 + (d.toNat - 128) ∧ (a.toNat - 240) * 262144 + (b.toNat - 128) * 4096 + (c.toNat - 128) * 64 + (d.toNat - 128) ≤ 1114111
        then (4, (a.toNat - 240) * 262144 + (b.toNat - 128) * 4096 + (c.toNat - 128) * 64 + (d.toNat - 128)) else (0, 0)
    | _ => (0, 0)
  else (0, 0)
def dec (L : List UInt8) : Nat × Nat := if (chr L).1 = 0 then (65533, 1) else ((chr L).2, (chr L).1)
theorem dec_pos (L : List UInt8) : 1 ≤ (dec L).2 := by
 unfold dec; split
 · exact Nat.le_refl _
 · show 1 ≤ (chr L).1; omega
end
section
def pre : Nat → List UInt8 → Nat
 | 0, _ => 0
 | n + 1, L => if L = [] then 0 else (dec L).2 + pre n (L.drop (dec L).2)
def okH (L : List UInt8) : Bool := decide ((chr L).1 ≠ 0) && (decide (32 ≤ (chr L).2) && (decide ((chr L).2 ≠ 47) && decide ((chr L).2 ≠ 127)))
def okC (L : List UInt8) : Bool := if h : L = [] then true else okH L && okC (L.drop (dec L).2)
 termination_by L.length
 decreasing_by
  have := List.length_pos_iff.2 h
  have := dec_pos L
  simp only [List.length_drop]
  omega
def rightP (L : List UInt8) : Bool := decide (1 ≤ L.length) && (decide (L.length ≤ 18) && (!(L == [46]) && (!(L == [46, 46]) && okC L)))
end
section
open Go.RowKit
end
section
open Go.RowKit
structure Enc (α : Type) (k : Nat) where
 c : α → List Value
 len : ∀ x, (c x).length = k
 one : ∀ x, ∀ v ∈ c x, v.oneCell' = true
section
variable {α : Type} {k : Nat} {E : Enc α k}
theorem Enc.size (E : Enc α k) (x : α) : (E.c x).toArray.size = k := by simp [E.len]
theorem Enc.all (E : Enc α k) (x : α) : (E.c x).toArray.all (·.oneCell') = true := all_oneCell_toArray (E.one x)
def Enc.flat (E : Enc α k) (l : List α) : List Value := l.flatMap E.c
theorem Enc.flat_cons (E : Enc α k) (x : α) (l : List α) : E.flat (x :: l) = E.c x ++ E.flat l := by simp [Enc.flat]
theorem Enc.flat_one (E : Enc α k) (x : α) : E.flat [x] = E.c x := by simp [Enc.flat]
theorem Enc.flat_append (E : Enc α k) (l m : List α) : E.flat (l ++ m) = E.flat l ++ E.flat m := by simp [Enc.flat]
theorem Enc.flat_ones (E : Enc α k) (l : List α) : ∀ u ∈ E.flat l, u.oneCell' = true := by
 intro u hu
 simp only [Enc.flat, List.mem_flatMap] at hu
 obtain ⟨x, _, hx⟩ := hu
 exact E.one x u hx
theorem Enc.flat_length (E : Enc α k) : ∀ (l : List α), (E.flat l).length = l.length * k
 | [] => by simp [Enc.flat]
 | x :: l => by
  rw [E.flat_cons, List.length_append, E.len, E.flat_length l, List.length_cons, Nat.add_mul, Nat.one_mul, Nat.add_comm]
theorem Enc.flat_get (E : Enc α k) : ∀ (l : List α) (i j : Nat) (hi : i < l.length) (v : Value), (E.c l[i])[j]? = some v → (E.flat l)[i * k + j]? = some v
 | [], i, j, hi, v, _ => by cases hi
 | x :: l, i, j, hi, v, h => by
  rw [E.flat_cons]
  cases i with
  | zero =>
   have h' : (E.c x)[j]? = some v := h
   rw [Nat.zero_mul, Nat.zero_add, List.getElem?_append_left (List.getElem?_eq_some_iff.1 h').1]
   exact h'
  | succ i =>
   have h' := E.flat_get l i j (by simpa using hi) v (by simpa using h)
   rw [List.getElem?_append_right (by rw [E.len, Nat.add_mul, Nat.one_mul]; omega), E.len, show (i + 1) * k + j - k = i * k + j by rw [Nat.add_mul, Nat.one_mul]; omega]
   exact h'
theorem Enc.flat_range (E : Enc α k) {w : World} {g off : Nat} {l : List α} (h : w.rangeAt g off (E.flat l)) (i : Nat) (hi : i < l.length) : w.rangeAt g (off + i * k) (E.c l[i]) := fun j v hv => by
 have := h (i * k + j) v (E.flat_get l i j hi v hv)
 rwa [← Nat.add_assoc] at this
theorem Enc.range_flat (E : Enc α k) {w : World} {g : Nat} : ∀ (l : List α) (off : Nat), (∀ i (hi : i < l.length), w.rangeAt g (off + i * k) (E.c l[i])) → w.rangeAt g off (E.flat l)
 | [], off, _ => fun j v hv => by simp [Enc.flat] at hv
 | x :: l, off, hr => fun j v hv => by
  rw [E.flat_cons] at hv
  by_cases hj : j < k
  · rw [List.getElem?_append_left (by rw [E.len]; exact hj)] at hv
    have := hr 0 (by simp) j v hv
    simpa using this
  · rw [List.getElem?_append_right (by rw [E.len]; omega), E.len] at hv
    have ih := E.range_flat l (off + k) (fun i hi => by
     have := hr (i + 1) (by simp; omega)
     rw [show off + k + i * k = off + (i + 1) * k by rw [Nat.add_mul, Nat.one_mul]; omega]
     simpa using this) (j - k) v hv
    rwa [show off + k + (j - k) = off + j by omega] at ih
def SlB (E : Enc α k) (w : World) (B : Nat) (v : Value) (l : List α) : Prop :=
 ∃ ad cap, v = .slice ad l.length cap ∧ l.length ≤ cap ∧ l.length ≤ maxLen ∧ (ad = none → cap = 0) ∧ (l = [] ∨ ∃ g off, ad = some ⟨g, off, none⟩ ∧ g < B ∧ ∀ i (hi : i < l.length), w.rangeAt g (off + i * k) (E.c l[i]))
abbrev Sl (E : Enc α k) (w : World) (v : Value) (l : List α) : Prop := SlB E w w.heap.size v l
theorem range_same' {w w' : World} {g o : Nat} {cs : List Value} (h : w.rangeAt g o cs) (e : w'.heap[g]? = w.heap[g]?) : w'.rangeAt g o cs := fun j v hv => (World.cell?_of_block e).trans (h j v hv)
theorem SlB.kept {w w' : World} {B B' : Nat} {v : Value} {l : List α} (h : SlB E w B v l) (hb : ∀ g, g < B → w'.heap[g]? = w.heap[g]?) (hB : B ≤ B') : SlB E w' B' v l := by
 obtain ⟨ad, cap, h1, h2, h3, h4, h5⟩ := h
 refine ⟨ad, cap, h1, h2, h3, h4, ?_⟩
 rcases h5 with h5 | ⟨g, off, e, hg, hr⟩
 · exact .inl h5
 · exact .inr ⟨g, off, e, by omega, fun i hi => range_same' (hr i hi) (hb g hg)⟩
theorem SlB.below {w w' : World} {B : Nat} {v : Value} {l : List α} (h : SlB E w B v l) (hb : Below B w w') : SlB E w' B v l := h.kept hb.block (Nat.le_refl _)
theorem SlB.wide {w : World} {B B' : Nat} {v : Value} {l : List α} (h : SlB E w B v l) (hB : B ≤ B') : SlB E w B' v l := h.kept (fun _ _ => rfl) hB
theorem Sl.called {w w' : World} {v : Value} {l : List α} (h : Sl E w v l) (hb : Below w.heap.size w w') : Sl E w' v l := h.kept hb.block hb.size
theorem SlB.nil (E : Enc α k) (w : World) (B : Nat) : SlB E w B (.slice none 0 0) [] := ⟨none, 0, rfl, Nat.le_refl _, Nat.zero_le _, fun _ => rfl, .inl rfl⟩
theorem SlB.at {w : World} {B : Nat} {ad : Option Addr} {n cap : Nat} {l : List α} (h : SlB E w B (.slice ad n cap) l) (i : Nat) (hi : i < l.length) : ∃ g off, ad = some ⟨g, off, none⟩ ∧ g < B ∧ w.rangeAt g (off + i * k) (E.c l[i]) := by
 obtain ⟨ad', cap', h1, h2, h3, h4, h5⟩ := h
 cases h1
 rcases h5 with rfl | ⟨g, off, e, hg, hr⟩
 · cases hi
 · exact ⟨g, off, e, hg, hr i hi⟩
abbrev Own (E : Enc α k) (ty : TypeId) (w : World) (base : Nat) (v : Value) (l : List α) : Prop := w.ownsRow base ty k v l.length (E.flat l)
theorem Own.slB {ty : TypeId} {w : World} {base : Nat} {v : Value} {l : List α} (h : Own E ty w base v l) : SlB E w w.heap.size v l := by
 have hl := h.lt
 rcases h.2 with ⟨rfl, h0⟩ | ⟨g, cap, cur, rfl, hb, hg, hn, hm, _⟩
 · exact ⟨none, 0, by rw [h0], by omega, by omega, fun _ => rfl, .inl (List.eq_nil_of_length_eq_zero h0)⟩
 · refine ⟨_, cap, rfl, hn, by omega, (fun e => by cases e), .inr ⟨g, 0, rfl, (hl g rfl).2, fun i hi => E.flat_range (fun j u hu => ?_) i hi⟩⟩
   have := h.cells (g := g) rfl j u hu
   rwa [Addr.add_mid] at this
theorem Own.nil (E : Enc α k) (ty : TypeId) (w : World) (base : Nat) : Own E ty w base (.slice none 0 0) [] := World.ownsRow_nil w base ty k
theorem Own.same {ty : TypeId} {w w' : World} {base : Nat} {v : Value} {l : List α} (h : Own E ty w base v l) (hb : ∀ g, v.ownBlock = some g → w'.heap[g]? = w.heap[g]?) : Own E ty w' base v l := by
 refine ⟨h.1, ?_⟩
 rcases h.2 with hn | ⟨g, cap, cur, rfl, h2, h3, h4⟩
 · exact .inl hn
 · exact .inr ⟨g, cap, cur, rfl, h2, (hb g rfl).trans h3, h4⟩
theorem Own.below {ty : TypeId} {w w' : World} {base : Nat} {v : Value} {l : List α} (h : Own E ty w base v l) (hb : Below w.heap.size w w') : Own E ty w' base v l := h.same fun g hg => hb.block g (h.lt g hg).2
theorem SlB.news {w : World} {B : Nat} {ad : Option Addr} {n cap : Nat} {l : List α} (h : SlB E w B (.slice ad n cap) l) : n = l.length ∧ ((ad = none ∧ l = [] ∧ cap = 0) ∨ ∃ A, ad = some A ∧ ∀ j u, (E.flat l)[j]? = some u → w.cell? (A.add j) = some u) := by
 obtain ⟨ad', cap', h1, h2, h3, h4, h5⟩ := h
 cases h1
 refine ⟨rfl, ?_⟩
 rcases h5 with rfl | ⟨g, off, rfl, hg, hr⟩
 · cases ad with
   | none => exact .inl ⟨rfl, rfl, h4 rfl⟩
   | some A => exact .inr ⟨A, rfl, fun j u hu => by simp [Enc.flat] at hu⟩
 · refine .inr ⟨_, rfl, fun j u hu => ?_⟩
   rw [Addr.add_mid]
   exact E.range_flat l off hr j u hu
theorem SlB.take {w : World} {B : Nat} {ad : Option Addr} {n cap : Nat} {l : List α} (h : SlB E w B (.slice ad n cap) l) (m : Nat) (hm : m ≤ l.length) : SlB E w B (.slice ad m cap) (l.take m) := by
 obtain ⟨ad', cap', h1, h2, h3, h4, h5⟩ := h
 cases h1
 have hlen : (l.take m).length = m := by simp; omega
 refine ⟨ad, cap, by rw [hlen], by omega, by omega, h4, ?_⟩
 rcases h5 with rfl | ⟨g, off, rfl, hg, hr⟩
 · exact .inl (by simp)
 · refine .inr ⟨g, off, rfl, hg, fun i hi => ?_⟩
   rw [List.getElem_take]
   exact hr i (by omega)
structure RowTy (P : Program) (E : Enc α k) (ts te : TypeId) (bytes : Nat) : Prop where
 under : P.underlying ts = some (.slice te)
 info : ∃ z, (P.info? te).map (fun i => (i.zero, i.size, i.bytes)) = some (some z, k, bytes) ∧ z.cells.size = k
 pos : 0 < k
theorem RowTy.parts {P : Program} {ts te : TypeId} {bytes : Nat} (h : RowTy P E ts te bytes) : ∃ i z, P.info? te = some i ∧ i.zero = some z ∧ i.size = k ∧ i.bytes = bytes ∧ z.cells.size = k := by
 obtain ⟨z, h1, h2⟩ := h.info
 cases hi : P.info? te with
 | none => rw [hi] at h1; cases h1
 | some i =>
  rw [hi] at h1
  simp only [Option.map_some, Option.some.injEq, Prod.mk.injEq] at h1
  exact ⟨i, z, rfl, h1.1, h1.2.1, h1.2.2, h2⟩
section
variable {P : Program} {ts te : TypeId} {bytes : Nat} {ops : Array Oper} {rest : List Oper} {o : Oper} {a : Act} {w : World} {Q : Exit → Act → World → Prop}
theorem append_one (R : RowTy P E ts te bytes) (hgd : o.guard = none) (s x : Operand) (ho : o.op = .call { callee := .builtin .append, args := #[s, x], argTypes := #[ts, ts] })
    (base : Nat) (v : Value) (l : List α) (hs : a.eval s = v) (hown : Own E te w base v l)
    (b : Nat) (e : α) (hx : a.eval x = .slice (some ⟨b, 0, none⟩) 1 1) (fz : Nat × Nat) (tb : TypeId) (hb : w.heap[b]? = some (.cells (E.c e).toArray tb fz))
    (h63 : l.length + 1 ≤ 1000000) (hbytes : bytes ≤ 10000) (hbase : base ≤ w.heap.size)
    (h : ∀ g cap w', Own E te w' base (.slice (some ⟨g, 0, none⟩) (l.length + 1) cap) (l ++ [e]) → w.grownBy w' v.ownBlock → (v.ownBlock = some g ∨ g = w.heap.size) → g < w'.heap.size → wpList P ops Q rest (a.put o.dst (.slice (some ⟨g, 0, none⟩) (l.length + 1) cap)) w') : wpList P ops Q (o :: rest) a w := by
 obtain ⟨i, z, hi, hz, hsz, hby, hzc⟩ := R.parts
 have hB : (l.length + 1) * bytes ≤ 140737488355328 := by
  have := Nat.mul_le_mul h63 hbytes
  omega
 refine wpList_append_lies w hgd s x ts ho base te i z k bytes R.under hi hz hsz hby hzc R.pos v l.length (E.flat l) hs hown ⟨b, 0, none⟩ 1 1 (E.c e) hx (by rw [E.len, Nat.one_mul]) (fun j u hu => ?_) (E.one e) (by omega) (by unfold maxLen; omega) hB hbase w.heap.size rfl ?_
 · rw [Addr.add_mid, Nat.zero_add, cell_of_row w b j _ _ _ hb]
   simpa using hu
 · intro g cap w' h1 h2 h3 h4
   have hl : (l ++ [e]).length = l.length + 1 := by simp
   refine h g cap w' ?_ h2 h3 h4
   show w'.ownsRow base te k _ (l ++ [e]).length (E.flat (l ++ [e]))
   rw [hl, E.flat_append, E.flat_one]
   exact h1
theorem append_sl (R : RowTy P E ts te bytes) (hgd : o.guard = none) (s x : Operand) (ho : o.op = .call { callee := .builtin .append, args := #[s, x], argTypes := #[ts, ts] })
    (base : Nat) (v : Value) (l m : List α) (hs : a.eval s = v) (hown : Own E te w base v l)
    (u : Value) (hx : a.eval x = u) (B : Nat) (hu : SlB E w B u m)
    (h63 : l.length + m.length ≤ 1000000) (hbytes : bytes ≤ 10000) (hbase : base ≤ w.heap.size)
    (h : ∀ v' w', Own E te w' base v' (l ++ m) → w.grownBy w' v.ownBlock → wpList P ops Q rest (a.put o.dst v') w') : wpList P ops Q (o :: rest) a w := by
 obtain ⟨i, z, hi, hz, hsz, hby, hzc⟩ := R.parts
 have hB : (l.length + m.length) * bytes ≤ 140737488355328 := by
  have := Nat.mul_le_mul h63 hbytes
  omega
 have hl : (l ++ m).length = l.length + m.length := by simp
 have hu' := hu
 obtain ⟨ad, cap, rfl, _⟩ := hu'
 obtain ⟨_, hc⟩ := hu.news
 rcases hc with ⟨rfl, rfl, rfl⟩ | ⟨A, rfl, hn⟩
 · refine wpList_append_own_none hgd s x ts ho base te i k R.under hi v l.length (E.flat l) hs hown hx ?_
   exact h _ _ (by rw [List.append_nil]; exact hown) ⟨rfl, rfl, rfl, Nat.le_refl _, fun _ _ _ => rfl⟩
 · refine wpList_append_own w hgd s x ts ho base te i z k bytes R.under hi hz hsz hby hzc R.pos v l.length (E.flat l) hs hown A m.length cap (E.flat m) hx (E.flat_length m) hn (E.flat_ones m) (by unfold maxLen; omega) hB hbase ?_
   intro v' w' h1 h2 _
   refine h v' w' ?_ h2
   show w'.ownsRow base te k _ (l ++ m).length (E.flat (l ++ m))
   rw [hl, E.flat_append]
   exact h1
end
end
end
section
open Go.ChangeShapes Go.WideShapes Go.ChangeAt Go.RowKit
theorem open_els {α : Type} {k : Nat} (E : Enc α k) (ts te : TypeId) (hu : Tryz.prog.underlying ts = some (.slice te)) (hk : Tryz.prog.cellsOf te = k) (hpos : 0 < k) {H : Type} {enc : TypeId × Value → H} {W : World} {base : Nat} {held : Bool} {a : Option Addr} {len cap : Nat} {d : DataW H} {p : List MemPlace}
    (hel : ∀ (fuel : Nat) (z : DataW H × List MemPlace) (cs : List Value), DataW.trod enc Tryz.prog W base (fun _ => true) held fuel te cs = some z → cs.length = k → ∃ x : α, cs = E.c x)
    (h : DataW.Trod enc Tryz.prog W base (fun _ => true) held ts (.slice a len cap) d p) : ∃ l : List α, Sl E W (.slice a len cap) l := by
 obtain ⟨fuel, hf⟩ := h
 rcases Go.Deep.open_slice hu hf with ⟨hcs, _⟩ | ⟨x, l, c, m, n, D, Pl, hcs, _, hl, hm, hmm, _, hx⟩
 · simp [Value.cells] at hcs
   obtain ⟨rfl, rfl, rfl⟩ := hcs
   exact ⟨[], SlB.nil _ _ _⟩
 · simp [Value.cells] at hcs
   obtain ⟨rfl, rfl, rfl⟩ := hcs
   have hm' : m = cap := by simpa using hmm
   subst hm'
   by_cases hl0 : len = 0
   · subst hl0
     exact ⟨[], ⟨_, _, rfl, Nat.zero_le _, Nat.zero_le _, (fun e => by cases e), .inl rfl⟩⟩
   have spotless : x.spot = none := by
    obtain ⟨cs0, h0, _⟩ := hx 0 (by omega)
    rw [hk] at h0
    obtain ⟨_, hl0, hc0⟩ := World.cells?_some h0
    have hc := hc0 0 (by omega)
    rw [List.getElem?_eq_getElem (by omega)] at hc
    simpa [Addr.add] using World.cell?_spot hc
   obtain ⟨b, off, spot⟩ := x
   simp only at spotless
   subst spotless
   have each : ∀ i, i < len → ∃ s : α, W.rangeAt b (off + i * k) (E.c s) ∧ b < W.heap.size := by
    intro i hi
    obtain ⟨cs', h1, h2⟩ := hx i (by omega)
    rw [hk, Addr.add_mid] at h1
    obtain ⟨_, hl1, hc1⟩ := World.cells?_some h1
    obtain ⟨s, hs⟩ := hel _ _ _ h2 hl1
    subst hs
    refine ⟨s, fun j v hv => ?_, ?_⟩
    · have hj := (List.getElem?_eq_some_iff.1 hv).1
      have := hc1 j (by rw [E.len] at hj; omega)
      rw [Addr.add_mid] at this
      rw [this]
      exact hv
    · have := hc1 0 (by omega)
      rw [List.getElem?_eq_getElem (by omega)] at this
      have := World.block_lt_of_cell? W _ this
      rw [Addr.add_mid] at this
      exact this
   have hL : (List.ofFn fun i : Fin len => (each i.1 i.2).choose).length = len := by simp
   refine ⟨List.ofFn fun i : Fin len => (each i.1 i.2).choose, ⟨_, m, by rw [hL], by rw [hL]; omega, by rw [hL]; omega, (fun e => by cases e), .inr ⟨b, off, rfl, (each 0 (by omega)).choose_spec.2, fun i hi => ?_⟩⟩⟩
   rw [List.getElem_ofFn]
   exact (each i (by simpa using hi)).choose_spec.1
theorem bytes_list (l : List Value) (h : ∀ v ∈ l, ∃ b : UInt8, v = .int .u8 (b.toNat : Int)) : ∃ K : List UInt8, l = bc K := by
 induction l with
 | nil => exact ⟨[], rfl⟩
 | cons v l ih =>
  obtain ⟨b, rfl⟩ := h v (by simp)
  obtain ⟨K, rfl⟩ := ih fun x hx => h x (by simp [hx])
  exact ⟨b :: K, rfl⟩
end
end Go.Proofs.YtdmindhjmjnagaaGreatDoor
