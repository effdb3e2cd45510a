import Derived.Test.YtkaoehmkmnkmaaaB01
import Derived.Deep.MidRow
import Derived.Laws.OwnMore
import Derived.Deep.Onto
import Derived.Laws.AppendOwnNone
import Derived.Sort.OwnSortedInts
/- Keys held against one another, spans. -/
namespace Go.Proofs.Ytkaoehmkmnkmaaa
set_option linter.unusedVariables false
set_option maxRecDepth 100000
open Go.RowKit

theorem bytes_num (K : List UInt8) : Lib.bytesOf (K.map fun b => (b.toNat : Int)) = K := by
  unfold Lib.bytesOf
  rw [List.map_map]
  conv => rhs; rw [← List.map_id K]
  apply List.map_congr_left
  intro b _
  simp
theorem run_bytesOf_key (w : World) (b : Nat) (K : List UInt8) (h : Has w b K) (cap : Nat) : (Extern.Bytes.bytesOf (.slice (some ⟨b, 0, none⟩) 24 cap)).run Try.prog w = .ok (str K) w := by
  have hl := Lib.run_loadBytesX (P := Try.prog) w (K.map fun b => (b.toNat : Int)) ⟨b, 0, none⟩ .empty (fun j x hj => by
    have e : (⟨b, 0, none⟩ : Addr).add j = ⟨b, j, none⟩ := by unfold Addr.add; split <;> simp_all
    rw [e, cell_of_row w b j _ _ _ h.blk]
    simp only [bc, List.getElem?_toArray, List.getElem?_map, Option.map_eq_some_iff] at hj ⊢
    obtain ⟨a, ha, rfl⟩ := hj
    exact ⟨a, ha, rfl⟩)
  rw [List.length_map, h.len, bytes_num] at hl
  have e : (⟨ByteArray.empty.data ++ K.toArray⟩ : ByteArray) = str K := by
    apply ByteArray.ext
    show (#[] : Array UInt8) ++ K.toArray = K.toArray
    simp
  rw [e] at hl
  exact hl
theorem run_compare_keys (w : World) (b c : Nat) (K L : List UInt8) (h : Has w b K) (h' : Has w c L) (cap cap' : Nat) :
    (Extern.BytealgCompare.compare #[.slice (some ⟨b, 0, none⟩) 24 cap, .slice (some ⟨c, 0, none⟩) 24 cap']).run Try.prog w = .ok (.int .i64 (Lib.compareBytes K L)) w := by
  change Sem.run Try.prog (do pure (goInt (Extern.BytealgCompare.cmp (← Extern.Bytes.bytesOf (.slice (some ⟨b, 0, none⟩) 24 cap)) (← Extern.Bytes.bytesOf (.slice (some ⟨c, 0, none⟩) 24 cap'))))) w = _
  simp only [Sem.run_bind, run_bytesOf_key w b K h, run_bytesOf_key w c L h', Result.andThen_ok, Sem.run_pure]
  rw [Lib.cmp_eq, str_list, str_list]
  rfl
set_option maxHeartbeats 1000000 in
theorem compare_calls (w : World) (b c : Nat) (K L : List UInt8) (h : Has w b K) (h' : Has w c L) (cap cap' : Nat) :
    Calls Try.prog 52 #[.slice (some ⟨b, 0, none⟩) 24 cap, .slice (some ⟨c, 0, none⟩) 24 cap'] w fun e w' => e = .returned (.int .i64 (Lib.compareBytes K L)) ∧ w' = w := by
  have H : Hid (Has w b K) := h
  have H' : Hid (Has w c L) := h'
  clear h h'
  go_enter Try.func52, Try.ntmps52
  go_wp2
  rw [run_callFunc_extern Try.func63 (by kernel_rfl) (by kernel_rfl) (by kernel_rfl) (e := Extern.BytealgCompare.compare) (by kernel_rfl), run_compare_keys w b c K L H.out H'.out]
  simp only [Result.andThen]
  rw [Oper.upon_value]
  go_wp2
  go_ret
  exact ⟨rfl, rfl⟩

theorem compare_less : ∀ (K L : List UInt8), decide (Lib.compareBytes K L < 0) = Op.bytesLess K L
  | [], [] => rfl
  | [], _ :: _ => rfl
  | _ :: _, [] => rfl
  | a :: xs, b :: ys => by
    have ih := compare_less xs ys
    rw [Lib.compareBytes, Op.bytesLess]
    by_cases h1 : a < b
    · simp [h1]
    · by_cases h2 : b < a
      · have : ¬ a = b := fun e => by subst e; exact h1 h2
        simp [h1, h2, this]
      · have : a = b := by
          apply UInt8.toNat_inj.1
          simp only [UInt8.lt_iff_toNat_lt] at h1 h2
          omega
        subst this
        simp [ih]

set_option maxHeartbeats 1000000 in
theorem less_calls (w : World) (K L : List UInt8) (hK : K.length = 24) (hL : L.length = 24) :
    Calls Try.prog 48 #[kv K, kv L] w fun e w' => e = .returned (.bool (Op.bytesLess K L)) ∧ Below w.heap.size w w' := by
  have h1 : Has ((w.alloc (.cells (bc K).toArray 23)).alloc (.cells (bc L).toArray 23)) w.heap.size K := (Has.new w K hK).alloc _
  have h2 : Has ((w.alloc (.cells (bc K).toArray 23)).alloc (.cells (bc L).toArray 23)) (w.heap.size + 1) L := by have := Has.new (w.alloc (.cells (bc K).toArray 23)) L hL; simpa using this
  have H1 : Hid (Has ((w.alloc (.cells (bc K).toArray 23)).alloc (.cells (bc L).toArray 23)) w.heap.size K) := h1
  have H2 : Hid (Has ((w.alloc (.cells (bc K).toArray 23)).alloc (.cells (bc L).toArray 23)) (w.heap.size + 1) L) := h2
  clear h1 h2
  go_enter Try.func48, Try.ntmps48
  go_wp2
  go_quiet (first | (go_at_call 52; exact Calls.quiet_of_same (compare_calls _ w.heap.size (w.heap.size + 1) K L (by exact ⟨hK, H1.out.blk⟩) (by exact ⟨hL, H2.out.blk⟩) 24 24)))
  go_wp2
  go_ret
  refine ⟨?_, below_drewN (below_made (below_made (Below.refl _ w) (Nat.le_refl _) _) (Nat.le_refl _) _) _⟩
  show Ending.returned (Value.bool (decide (Lib.compareBytes K L < 0))) = _
  rw [compare_less]

/-- A span's cells, its value; a span in block b. -/
def sc (F T : List UInt8) (e : Bool) : List Value := bc F ++ bc T ++ [Value.bool e]
abbrev sv (F T : List UInt8) (e : Bool) : Value := .agg (sc F T e).toArray
structure HasS (w : World) (b : Nat) (F T : List UInt8) (e : Bool) : Prop where
  f : F.length = 24
  t : T.length = 24
  blk : w.heap[b]? = some (.cells (sc F T e).toArray 25 (0, 0))
theorem Try.span_info : (Try.prog.info? 25).map (·.size) = some 49 := by kernel_rfl
theorem sv_size (F T : List UInt8) (e : Bool) (hF : F.length = 24) (hT : T.length = 24) : (sc F T e).toArray.size = 49 := by simp [sc, bc_length, hF, hT]
theorem sv_all (F T : List UInt8) (e : Bool) : (sc F T e).toArray.all (·.oneCell') = true := all_oneCell_toArray (by
  intro v hv
  simp only [sc, List.mem_append, List.mem_singleton] at hv
  rcases hv with (h | h) | rfl
  · exact bc_one F v h
  · exact bc_one T v h
  · rfl)
theorem HasS.lt {w : World} {b : Nat} {F T : List UInt8} {e : Bool} (h : HasS w b F T e) : b < w.heap.size := lt_of_block h.blk
theorem HasS.alloc {w : World} {b : Nat} {F T : List UInt8} {e : Bool} (h : HasS w b F T e) (o : Obj) : HasS (w.alloc o) b F T e := ⟨h.f, h.t, by rw [Below.heap_alloc _ _ _ h.lt]; exact h.blk⟩
theorem HasS.below {B : Nat} {w w' : World} {b : Nat} {F T : List UInt8} {e : Bool} (h : HasS w b F T e) (hb : Below B w w') (hB : b < B) : HasS w' b F T e := ⟨h.f, h.t, (hb.block b hB).trans h.blk⟩
theorem HasS.touch {w w' : World} {b p : Nat} {F T : List UInt8} {e : Bool} (h : HasS w b F T e) (ht : Touch p none w w') (hp : b ≠ p) : HasS w' b F T e := ⟨h.f, h.t, (ht.block b h.lt hp (by simp)).trans h.blk⟩
theorem HasS.new (w : World) (F T : List UInt8) (e : Bool) (hF : F.length = 24) (hT : T.length = 24) : HasS (w.alloc (.cells (sc F T e).toArray 25 (0, 0))) w.heap.size F T e := ⟨hF, hT, heap_alloc_new _ _⟩
theorem HasS.ofF {w : World} {b : Nat} {F T : List UInt8} {e : Bool} (h : HasS w b F T e) : w.rangeAt b 0 (bc F) := fun j v hv => by
  rw [cell_of_row w b _ _ _ _ h.blk]
  have hj : j < (bc F).length := (List.getElem?_eq_some_iff.1 hv).1
  simp only [sc, List.getElem?_toArray, Nat.zero_add, List.append_assoc]
  rw [List.getElem?_append_left hj, hv]
theorem HasS.ofT {w : World} {b : Nat} {F T : List UInt8} {e : Bool} (h : HasS w b F T e) : w.rangeAt b 24 (bc T) := fun j v hv => by
  rw [cell_of_row w b _ _ _ _ h.blk]
  have hj : j < (bc T).length := (List.getElem?_eq_some_iff.1 hv).1
  have hF : (bc F).length = 24 := by rw [bc_length, h.f]
  simp only [sc, List.getElem?_toArray, List.append_assoc]
  rw [List.getElem?_append_right (by omega), hF, Nat.add_sub_cancel_left, List.getElem?_append_left hj, hv]
theorem HasS.ofE {w : World} {b : Nat} {F T : List UInt8} {e : Bool} (h : HasS w b F T e) : w.cell? ⟨b, 48, none⟩ = some (.bool e) := by
  rw [cell_of_row w b _ _ _ _ h.blk]
  have hF : (bc F).length = 24 := by rw [bc_length, h.f]
  have hT : (bc T).length = 24 := by rw [bc_length, h.t]
  simp only [sc, List.getElem?_toArray, List.append_assoc]
  rw [List.getElem?_append_right (by omega), List.getElem?_append_right (by omega), hF, hT]
  rfl
section
variable {ops : Array Oper} {rest : List Oper} {o : Oper} {a : Act} {w : World} {Q : Exit → Act → World → Prop}
theorem load_part (x : Operand) (ho : o.op = .load 23 x) (b i : Nat) (hx : a.eval x = .pointer (some ⟨b, i, none⟩)) (hgd : Region.wanted o (yielded ops a.tmps) = true) (K : List UInt8) (hl : K.length = 24) (hK : w.rangeAt b i (bc K))
    (h : wpList Try.prog ops Q rest (a.put o.dst (kv K)) w) : wpList Try.prog ops Q (o :: rest) a w :=
  BigFrame.wpList_want hgd fun _ hK' => wp_load_mid _ x ho b i hx _ _ hK Try.underlying23 rfl (by rw [bc_length, hl]; exact Try.key_info) (hK' _ _ h)
theorem store_span (hgd : o.guard = none) (x y : Operand) (ho : o.op = .store 25 x y) (b : Nat) (hx : a.eval x = .pointer (some ⟨b, 0, none⟩)) (F T : List UInt8) (e : Bool) (hy : a.eval y = sv F T e) (hF : F.length = 24) (hT : T.length = 24) (F' T' : List UInt8) (e' : Bool) (hK : HasS w b F' T' e')
    (h : ∀ w', HasS w' b F T e → Touch b none w w' → w'.heap.size = w.heap.size → wpList Try.prog ops Q rest (a.put o.dst undef) w') : wpList Try.prog ops Q (o :: rest) a w :=
  wpList_store_row hgd _ x y ho b _ hx hy _ _ hK.blk (by rw [sv_size _ _ _ hF hT]; exact Try.span_info) (by rw [sv_size _ _ _ hF hT, sv_size _ _ _ hK.f hK.t]) (sv_all _ _ _) (h _ ⟨hF, hT, setRow_heap w b _ _ _ _ hK.blk⟩ (touch_setRow _ _ _) (by simp))
end
theorem ret_span {fn : Func} {R : Ending → World → Prop} {a : Act} {w : World} {p : Tmp} (hr : fn.results = #[.cell p 25]) (b : Nat) (F T : List UInt8) (e : Bool) (hp : a.tmps.getD p undef = .pointer (some ⟨b, 0, none⟩)) (hK : HasS w b F T e)
    (hd : a.defers = []) (hR : R (.returned (sv F T e)) w) : bodyPost Try.prog fn R .ret a w :=
  bodyPost_ret (results_cell_row hr _ w b _ _ _ _ hp hK.blk Try.underlying25 rfl (by rw [sv_size _ _ _ hK.f hK.t]; exact Try.span_info)) hd hR

/-- Is a key in a span? -/
def inS (F T : List UInt8) (e : Bool) (K : List UInt8) : Bool := !Op.bytesLess K F && (e || Op.bytesLess K T)

set_option maxHeartbeats 1000000 in
theorem in_calls (w : World) (F T : List UInt8) (e : Bool) (K : List UInt8) (hF : F.length = 24) (hT : T.length = 24) (hK : K.length = 24) :
    Calls Try.prog 38 #[sv F T e, kv K] w fun x w' => x = .returned (.bool (inS F T e K)) ∧ Below w.heap.size w w' := by
  have h1 : HasS ((w.alloc (.cells (sc F T e).toArray 25)).alloc (.cells (bc K).toArray 23)) w.heap.size F T e := (HasS.new w F T e hF hT).alloc _
  have h2 : Has ((w.alloc (.cells (sc F T e).toArray 25)).alloc (.cells (bc K).toArray 23)) (w.heap.size + 1) K := by have := Has.new (w.alloc (.cells (sc F T e).toArray 25)) K hK; simpa using this
  have hin : inS F T e K = (!Op.bytesLess K F && (e || Op.bytesLess K T)) := rfl
  have HIN : Hid (inS F T e K = (!Op.bytesLess K F && (e || Op.bytesLess K T))) := hin
  clear hin
  cases hlf : Op.bytesLess K F with
  | true =>
    go_enter Try.func38, Try.ntmps38
    go_wp2_with (first
      | (refine load_key _ rfl _ rfl rfl _ h2 ?_)
      | (refine load_part _ rfl _ _ rfl rfl _ hF h1.ofF ?_)
      | (go_at_call 48; refine (less_calls _ _ _ hK hF).mono ?_; rintro x w1 ⟨rfl, b1⟩; rw [hlf]))
    go_ret
    exact ⟨by rw [HIN.out, hlf]; rfl, below_called (below_made (below_made (Below.refl _ w) (Nat.le_refl _) _) (Nat.le_refl _) _) b1 (Nat.le_refl _)⟩
  | false =>
    cases e with
    | true =>
      go_enter Try.func38, Try.ntmps38
      go_wp2_with (first
        | (refine load_key _ rfl _ rfl rfl _ h2 ?_)
        | (refine load_part _ rfl _ _ rfl rfl _ hF h1.ofF ?_)
        | (go_at_call 48; refine (less_calls _ _ _ hK hF).mono ?_; rintro x w1 ⟨rfl, b1⟩; rw [hlf]; have cE := (h1.below b1 (by simp; omega)).ofE))
      go_ret
      exact ⟨by rw [HIN.out, hlf]; rfl, below_called (below_made (below_made (Below.refl _ w) (Nat.le_refl _) _) (Nat.le_refl _) _) b1 (Nat.le_refl _)⟩
    | false =>
      go_enter Try.func38, Try.ntmps38
      go_wp2_with (first
        | (refine load_key _ rfl _ rfl rfl _ h4 ?_)
        | (refine load_part _ rfl _ _ rfl rfl _ hT h3.ofT ?_)
        | (refine load_key _ rfl _ rfl rfl _ h2 ?_)
        | (refine load_part _ rfl _ _ rfl rfl _ hF h1.ofF ?_)
        | (go_at_call 48; have _q := h3; refine (less_calls _ _ _ hK hT).mono ?_; rintro x w2 ⟨rfl, b2⟩)
        | (go_at_call 48; refine (less_calls _ _ _ hK hF).mono ?_; rintro x w1 ⟨rfl, b1⟩; rw [hlf]; have h3 := h1.below b1 (by simp; omega); have h4 := h2.below b1 (by simp); have cE := h3.ofE))
      go_ret
      exact ⟨by rw [HIN.out, hlf]; simp, below_called (below_called (below_made (below_made (Below.refl _ w) (Nat.le_refl _) _) (Nat.le_refl _) _) b1 (Nat.le_refl _)) b2 (Nat.le_refl _)⟩
end Go.Proofs.Ytkaoehmkmnkmaaa
/- Keys and spans that came in. -/
namespace Go.Proofs.Ytkaoehmkmnkmaaa
set_option linter.unusedVariables false
set_option maxRecDepth 100000
open Go.ChangeShapes Go.WideShapes Go.ChangeAt Go.RowKit

theorem cell_u8 {W : World} {base : Nat} {v : Value} (h : Cell.okWide Try.prog W .any base 5 v) : ∃ b : UInt8, v = .int .u8 (b.toNat : Int) := by
  unfold Cell.okWide at h
  rw [Try.underlying5] at h
  cases v <;> simp only [Cell.ok, Try.underlying5] at h
  rename_i k n
  obtain ⟨rfl, h⟩ := h
  have h1 : 0 ≤ n ∧ n ≤ 255 := by simpa [IntKind.has, IntKind.min, IntKind.max, IntKind.signed, IntKind.bits] using h
  refine ⟨UInt8.ofNat n.toNat, ?_⟩
  rw [UInt8.toNat_ofNat']
  congr 1
  omega
theorem cell_bool {W : World} {base : Nat} {v : Value} (h : Cell.okWide Try.prog W .any base 4 v) : ∃ b : Bool, v = .bool b := by
  unfold Cell.okWide at h
  rw [Try.underlying4] at h
  cases v <;> simp only [Cell.ok, Try.underlying4] at h
  exact ⟨_, rfl⟩
theorem bytes_of (l : List Value) (h : ∀ v ∈ l, ∃ b : UInt8, v = .int .u8 (b.toNat : Int)) : ∃ K : List UInt8, l = bc K := by
  induction l with
  | nil => exact ⟨[], rfl⟩
  | cons v l ih =>
    obtain ⟨b, rfl⟩ := h v (by simp)
    obtain ⟨K, rfl⟩ := ih fun x hx => h x (by simp [hx])
    exact ⟨b :: K, rfl⟩

theorem open_key {W : World} {base : Nat} {v : Value} (h : Value.okWide Try.prog W .any base 23 v) : ∃ K : List UInt8, K.length = 24 ∧ v = kv K := by
  unfold Value.okWide at h
  rw [Try.underlying23] at h
  obtain ⟨cs, rfl, hsz, ts, hts, _, hc⟩ := h
  have h1 : Try.prog.cellTypes Try.prog.depth 23 = some (List.replicate 24 5) := by kernel_rfl
  have h2 : Try.prog.cellsOf 23 = 24 := by kernel_rfl
  rw [h1] at hts
  cases hts
  rw [h2] at hsz
  obtain ⟨K, hK⟩ := bytes_of cs.toList (fun v hv => by
    obtain ⟨i, hi, rfl⟩ := List.mem_iff_getElem.1 hv
    obtain ⟨u, hu, hk⟩ := hc i cs.toList[i] (by simp)
    rw [List.length_replicate, List.getElem?_replicate] at hu
    split at hu
    · cases hu
      exact cell_u8 hk
    · cases hu)
  refine ⟨K, ?_, ?_⟩
  · have := congrArg List.length hK
    rw [bc_length] at this
    simp at this
    omega
  · show Value.agg cs = Value.agg (bc K).toArray
    rw [← hK]
theorem open_span {W : World} {base : Nat} {v : Value} (h : Value.okWide Try.prog W .any base 25 v) : ∃ (F T : List UInt8) (e : Bool), F.length = 24 ∧ T.length = 24 ∧ v = sv F T e := by
  unfold Value.okWide at h
  rw [Try.underlying25] at h
  obtain ⟨cs, rfl, hsz, ts, hts, _, hc⟩ := h
  have h1 : Try.prog.cellTypes Try.prog.depth 25 = some (List.replicate 48 5 ++ [4]) := by kernel_rfl
  have h2 : Try.prog.cellsOf 25 = 49 := by kernel_rfl
  rw [h1] at hts
  cases hts
  rw [h2] at hsz
  have hl : cs.toList.length = 49 := by simpa using hsz
  have hlen : (List.replicate 48 5 ++ [4] : List TypeId).length = 49 := rfl
  have hat : ∀ i (hi : i < 48), ∃ b : UInt8, cs.toList[i]'(by omega) = .int .u8 (b.toNat : Int) := fun i hi => by
    obtain ⟨u, hu, hk⟩ := hc i (cs.toList[i]'(by omega)) (by simp)
    rw [hlen, Nat.mod_eq_of_lt (by omega), List.getElem?_append_left (by simpa using hi), List.getElem?_replicate, if_pos hi] at hu
    cases hu
    exact cell_u8 hk
  obtain ⟨e, he⟩ : ∃ b : Bool, cs.toList[48]'(by omega) = .bool b := by
    obtain ⟨u, hu, hk⟩ := hc 48 (cs.toList[48]'(by omega)) (by simp)
    rw [hlen] at hu
    have : (List.replicate 48 5 ++ [4] : List TypeId)[48 % 49]? = some 4 := rfl
    rw [this] at hu
    cases hu
    exact cell_bool hk
  obtain ⟨F, hF⟩ := bytes_of (cs.toList.take 24) (fun v hv => by
    obtain ⟨i, hi, rfl⟩ := List.mem_iff_getElem.1 hv
    rw [List.length_take] at hi
    rw [List.getElem_take]
    exact hat i (by omega))
  obtain ⟨T, hT⟩ := bytes_of ((cs.toList.drop 24).take 24) (fun v hv => by
    obtain ⟨i, hi, rfl⟩ := List.mem_iff_getElem.1 hv
    rw [List.length_take, List.length_drop] at hi
    rw [List.getElem_take, List.getElem_drop]
    exact hat (24 + i) (by omega))
  have e3 : cs.toList.drop 48 = [.bool e] := by
    rw [List.drop_eq_getElem_cons (by omega), he, List.drop_of_length_le (by omega)]
  have e4 : cs.toList = bc F ++ bc T ++ [.bool e] := by
    rw [← hF, ← hT, ← e3, List.append_assoc]
    have : cs.toList.drop 48 = (cs.toList.drop 24).drop 24 := by rw [List.drop_drop]
    rw [this, List.take_append_drop, List.take_append_drop]
  refine ⟨F, T, e, ?_, ?_, ?_⟩
  · have := congrArg List.length hF
    rw [bc_length, List.length_take] at this
    omega
  · have := congrArg List.length hT
    rw [bc_length, List.length_take, List.length_drop] at this
    omega
  · show Value.agg cs = Value.agg (sc F T e).toArray
    rw [sc, ← e4]
end Go.Proofs.Ytkaoehmkmnkmaaa
/- Slices of elements of k cells each, whatever they are: how they lie, what a row of one's own holds; nothing here speaks of a program. -/
namespace Go.Proofs.Ytkaoehmkmnkmaaa
set_option linter.unusedVariables false
set_option maxRecDepth 100000
open Go.RowKit

/-- How an element lies: its cells, k of them. -/
structure Enc (α : Type) (k : Nat) where
  c : α → List Value
  len : ∀ x, (c x).length = k
  one : ∀ x, ∀ v ∈ c x, v.oneCell' = true
section
variable {α : Type} {k : Nat} {E : Enc α k}
theorem Enc.size (E : Enc α k) (x : α) : (E.c x).toArray.size = k := by simp [E.len]
theorem Enc.all (E : Enc α k) (x : α) : (E.c x).toArray.all (·.oneCell') = true := all_oneCell_toArray (E.one x)
/-- Elements behind one another. -/
def Enc.flat (E : Enc α k) (l : List α) : List Value := l.flatMap E.c
theorem Enc.flat_nil (E : Enc α k) : E.flat [] = [] := rfl
theorem Enc.flat_cons (E : Enc α k) (x : α) (l : List α) : E.flat (x :: l) = E.c x ++ E.flat l := by simp [Enc.flat]
theorem Enc.flat_one (E : Enc α k) (x : α) : E.flat [x] = E.c x := by simp [Enc.flat]
theorem Enc.flat_append (E : Enc α k) (l m : List α) : E.flat (l ++ m) = E.flat l ++ E.flat m := by simp [Enc.flat]
theorem Enc.flat_ones (E : Enc α k) (l : List α) : ∀ u ∈ E.flat l, u.oneCell' = true := by
  intro u hu
  simp only [Enc.flat, List.mem_flatMap] at hu
  obtain ⟨x, _, hx⟩ := hu
  exact E.one x u hx
theorem Enc.flat_length (E : Enc α k) : ∀ (l : List α), (E.flat l).length = l.length * k
  | [] => by simp [Enc.flat]
  | x :: l => by
    rw [E.flat_cons, List.length_append, E.len, E.flat_length l, List.length_cons, Nat.add_mul, Nat.one_mul, Nat.add_comm]
theorem Enc.flat_get (E : Enc α k) : ∀ (l : List α) (i j : Nat) (hi : i < l.length) (v : Value), (E.c l[i])[j]? = some v → (E.flat l)[i * k + j]? = some v
  | [], i, j, hi, v, _ => by cases hi
  | x :: l, i, j, hi, v, h => by
    rw [E.flat_cons]
    cases i with
    | zero =>
      have h' : (E.c x)[j]? = some v := h
      rw [Nat.zero_mul, Nat.zero_add, List.getElem?_append_left (List.getElem?_eq_some_iff.1 h').1]
      exact h'
    | succ i =>
      have h' := E.flat_get l i j (by simpa using hi) v (by simpa using h)
      rw [List.getElem?_append_right (by rw [E.len, Nat.add_mul, Nat.one_mul]; omega), E.len, show (i + 1) * k + j - k = i * k + j by rw [Nat.add_mul, Nat.one_mul]; omega]
      exact h'
theorem Enc.flat_range (E : Enc α k) {w : World} {g off : Nat} {l : List α} (h : w.rangeAt g off (E.flat l)) (i : Nat) (hi : i < l.length) : w.rangeAt g (off + i * k) (E.c l[i]) := fun j v hv => by
  have := h (i * k + j) v (E.flat_get l i j hi v hv)
  rwa [← Nat.add_assoc] at this
theorem Enc.range_flat (E : Enc α k) {w : World} {g : Nat} : ∀ (l : List α) (off : Nat), (∀ i (hi : i < l.length), w.rangeAt g (off + i * k) (E.c l[i])) → w.rangeAt g off (E.flat l)
  | [], off, _ => fun j v hv => by simp [Enc.flat] at hv
  | x :: l, off, hr => fun j v hv => by
    rw [E.flat_cons] at hv
    by_cases hj : j < k
    · rw [List.getElem?_append_left (by rw [E.len]; exact hj)] at hv
      have := hr 0 (by simp) j v hv
      simpa using this
    · rw [List.getElem?_append_right (by rw [E.len]; omega), E.len] at hv
      have ih := E.range_flat l (off + k) (fun i hi => by
        have := hr (i + 1) (by simp; omega)
        rw [show off + k + i * k = off + (i + 1) * k by rw [Nat.add_mul, Nat.one_mul]; omega]
        simpa using this) (j - k) v hv
      rwa [show off + k + (j - k) = off + j by omega] at ih

/-- A slice of them in blocks below B. -/
def SlB (E : Enc α k) (w : World) (B : Nat) (v : Value) (l : List α) : Prop :=
  ∃ ad cap, v = .slice ad l.length cap ∧ l.length ≤ cap ∧ l.length ≤ maxLen ∧ (ad = none → cap = 0) ∧ (l = [] ∨ ∃ g off, ad = some ⟨g, off, none⟩ ∧ g < B ∧ ∀ i (hi : i < l.length), w.rangeAt g (off + i * k) (E.c l[i]))
abbrev Sl (E : Enc α k) (w : World) (v : Value) (l : List α) : Prop := SlB E w w.heap.size v l
theorem range_same' {w w' : World} {g o : Nat} {cs : List Value} (h : w.rangeAt g o cs) (e : w'.heap[g]? = w.heap[g]?) : w'.rangeAt g o cs := fun j v hv => (World.cell?_of_block e).trans (h j v hv)
theorem SlB.kept {w w' : World} {B B' : Nat} {v : Value} {l : List α} (h : SlB E w B v l) (hb : ∀ g, g < B → w'.heap[g]? = w.heap[g]?) (hB : B ≤ B') : SlB E w' B' v l := by
  obtain ⟨ad, cap, h1, h2, h3, h4, h5⟩ := h
  refine ⟨ad, cap, h1, h2, h3, h4, ?_⟩
  rcases h5 with h5 | ⟨g, off, e, hg, hr⟩
  · exact .inl h5
  · exact .inr ⟨g, off, e, by omega, fun i hi => range_same' (hr i hi) (hb g hg)⟩
theorem SlB.below {w w' : World} {B : Nat} {v : Value} {l : List α} (h : SlB E w B v l) (hb : Below B w w') : SlB E w' B v l := h.kept hb.block (Nat.le_refl _)
theorem SlB.wide {w : World} {B B' : Nat} {v : Value} {l : List α} (h : SlB E w B v l) (hB : B ≤ B') : SlB E w B' v l := h.kept (fun _ _ => rfl) hB
theorem Sl.called {w w' : World} {v : Value} {l : List α} (h : Sl E w v l) (hb : Below w.heap.size w w') : Sl E w' v l := h.kept hb.block hb.size
theorem SlB.nil (E : Enc α k) (w : World) (B : Nat) : SlB E w B (.slice none 0 0) [] := ⟨none, 0, rfl, Nat.le_refl _, Nat.zero_le _, fun _ => rfl, .inl rfl⟩
theorem SlB.one {w : World} {B : Nat} {v : Value} {l : List α} (h : SlB E w B v l) : v.oneCell' = true := by
  obtain ⟨ad, cap, rfl, _⟩ := h
  rfl
/-- Where element i lies. -/
theorem SlB.at {w : World} {B : Nat} {ad : Option Addr} {n cap : Nat} {l : List α} (h : SlB E w B (.slice ad n cap) l) (i : Nat) (hi : i < l.length) : ∃ g off, ad = some ⟨g, off, none⟩ ∧ g < B ∧ w.rangeAt g (off + i * k) (E.c l[i]) := by
  obtain ⟨ad', cap', h1, h2, h3, h4, h5⟩ := h
  cases h1
  rcases h5 with rfl | ⟨g, off, e, hg, hr⟩
  · cases hi
  · exact ⟨g, off, e, hg, hr i hi⟩

/-- A row of one's own that holds them. -/
abbrev Own (E : Enc α k) (ty : TypeId) (w : World) (base : Nat) (v : Value) (l : List α) : Prop := w.ownsRow base ty k v l.length (E.flat l)
theorem Own.slB {ty : TypeId} {w : World} {base : Nat} {v : Value} {l : List α} (h : Own E ty w base v l) : SlB E w w.heap.size v l := by
  have hl := h.lt
  rcases h.2 with ⟨rfl, h0⟩ | ⟨g, cap, cur, rfl, hb, hg, hn, hm, _⟩
  · exact ⟨none, 0, by rw [h0], by omega, by omega, fun _ => rfl, .inl (List.eq_nil_of_length_eq_zero h0)⟩
  · refine ⟨_, cap, rfl, hn, by omega, (fun e => by cases e), .inr ⟨g, 0, rfl, (hl g rfl).2, fun i hi => E.flat_range (fun j u hu => ?_) i hi⟩⟩
    have := h.cells (g := g) rfl j u hu
    rwa [Addr.add_mid] at this
theorem Own.nil (E : Enc α k) (ty : TypeId) (w : World) (base : Nat) : Own E ty w base (.slice none 0 0) [] := World.ownsRow_nil w base ty k
/-- Is kept where its row is. -/
theorem Own.same {ty : TypeId} {w w' : World} {base : Nat} {v : Value} {l : List α} (h : Own E ty w base v l) (hb : ∀ g, v.ownBlock = some g → w'.heap[g]? = w.heap[g]?) : Own E ty w' base v l := by
  refine ⟨h.1, ?_⟩
  rcases h.2 with hn | ⟨g, cap, cur, rfl, h2, h3, h4⟩
  · exact .inl hn
  · exact .inr ⟨g, cap, cur, rfl, h2, (hb g rfl).trans h3, h4⟩
theorem Own.below {ty : TypeId} {w w' : World} {base : Nat} {v : Value} {l : List α} (h : Own E ty w base v l) (hb : Below w.heap.size w w') : Own E ty w' base v l := h.same fun g hg => hb.block g (h.lt g hg).2

/-- What lies in a slice that is read, cell by cell. -/
theorem SlB.news {w : World} {B : Nat} {ad : Option Addr} {n cap : Nat} {l : List α} (h : SlB E w B (.slice ad n cap) l) : n = l.length ∧ ((ad = none ∧ l = [] ∧ cap = 0) ∨ ∃ A, ad = some A ∧ ∀ j u, (E.flat l)[j]? = some u → w.cell? (A.add j) = some u) := by
  obtain ⟨ad', cap', h1, h2, h3, h4, h5⟩ := h
  cases h1
  refine ⟨rfl, ?_⟩
  rcases h5 with rfl | ⟨g, off, rfl, hg, hr⟩
  · cases ad with
    | none => exact .inl ⟨rfl, rfl, h4 rfl⟩
    | some A => exact .inr ⟨A, rfl, fun j u hu => by simp [Enc.flat] at hu⟩
  · refine .inr ⟨_, rfl, fun j u hu => ?_⟩
    rw [Addr.add_mid]
    exact E.range_flat l off hr j u hu
theorem SlB.take {w : World} {B : Nat} {ad : Option Addr} {n cap : Nat} {l : List α} (h : SlB E w B (.slice ad n cap) l) (m : Nat) (hm : m ≤ l.length) : SlB E w B (.slice ad m cap) (l.take m) := by
  obtain ⟨ad', cap', h1, h2, h3, h4, h5⟩ := h
  cases h1
  have hlen : (l.take m).length = m := by simp; omega
  refine ⟨ad, cap, by rw [hlen], by omega, by omega, h4, ?_⟩
  rcases h5 with rfl | ⟨g, off, rfl, hg, hr⟩
  · exact .inl (by simp)
  · refine .inr ⟨g, off, rfl, hg, fun i hi => ?_⟩
    rw [List.getElem_take]
    exact hr i (by omega)

/-- What append's law asks of a type, at once. -/
structure RowTy (P : Program) (E : Enc α k) (ts te : TypeId) (bytes : Nat) : Prop where
  under : P.underlying ts = some (.slice te)
  info : ∃ z, (P.info? te).map (fun i => (i.zero, i.size, i.bytes)) = some (some z, k, bytes) ∧ z.cells.size = k
  pos : 0 < k
theorem RowTy.parts {P : Program} {ts te : TypeId} {bytes : Nat} (h : RowTy P E ts te bytes) : ∃ i z, P.info? te = some i ∧ i.zero = some z ∧ i.size = k ∧ i.bytes = bytes ∧ z.cells.size = k := by
  obtain ⟨z, h1, h2⟩ := h.info
  cases hi : P.info? te with
  | none => rw [hi] at h1; cases h1
  | some i =>
    rw [hi] at h1
    simp only [Option.map_some, Option.some.injEq, Prod.mk.injEq] at h1
    exact ⟨i, z, rfl, h1.1, h1.2.1, h1.2.2, h2⟩

section
variable {P : Program} {ts te : TypeId} {bytes : Nat} {ops : Array Oper} {rest : List Oper} {o : Oper} {a : Act} {w : World} {Q : Exit → Act → World → Prop}
/-- append of one element behind a row of one's own. -/
theorem append_one (R : RowTy P E ts te bytes) (hgd : o.guard = none) (s x : Operand) (ho : o.op = .call { callee := .builtin .append, args := #[s, x], argTypes := #[ts, ts] })
    (base : Nat) (v : Value) (l : List α) (hs : a.eval s = v) (hown : Own E te w base v l)
    (b : Nat) (e : α) (hx : a.eval x = .slice (some ⟨b, 0, none⟩) 1 1) (fz : Nat × Nat) (tb : TypeId) (hb : w.heap[b]? = some (.cells (E.c e).toArray tb fz))
    (h63 : l.length + 1 ≤ 1000000) (hbytes : bytes ≤ 10000) (hbase : base ≤ w.heap.size)
    (h : ∀ g cap w', Own E te w' base (.slice (some ⟨g, 0, none⟩) (l.length + 1) cap) (l ++ [e]) → w.grownBy w' v.ownBlock → (v.ownBlock = some g ∨ g = w.heap.size) → g < w'.heap.size → wpList P ops Q rest (a.put o.dst (.slice (some ⟨g, 0, none⟩) (l.length + 1) cap)) w') : wpList P ops Q (o :: rest) a w := by
  obtain ⟨i, z, hi, hz, hsz, hby, hzc⟩ := R.parts
  have hB : (l.length + 1) * bytes ≤ 140737488355328 := by
    have := Nat.mul_le_mul h63 hbytes
    omega
  refine wpList_append_lies w hgd s x ts ho base te i z k bytes R.under hi hz hsz hby hzc R.pos v l.length (E.flat l) hs hown ⟨b, 0, none⟩ 1 1 (E.c e) hx (by rw [E.len, Nat.one_mul]) (fun j u hu => ?_) (E.one e) (by omega) (by unfold maxLen; omega) hB hbase w.heap.size rfl ?_
  · rw [Addr.add_mid, Nat.zero_add, cell_of_row w b j _ _ _ hb]
    simpa using hu
  · intro g cap w' h1 h2 h3 h4
    have hl : (l ++ [e]).length = l.length + 1 := by simp
    refine h g cap w' ?_ h2 h3 h4
    show w'.ownsRow base te k _ (l ++ [e]).length (E.flat (l ++ [e]))
    rw [hl, E.flat_append, E.flat_one]
    exact h1
/-- append of a slice behind a row of one's own. -/
theorem append_sl (R : RowTy P E ts te bytes) (hgd : o.guard = none) (s x : Operand) (ho : o.op = .call { callee := .builtin .append, args := #[s, x], argTypes := #[ts, ts] })
    (base : Nat) (v : Value) (l m : List α) (hs : a.eval s = v) (hown : Own E te w base v l)
    (u : Value) (hx : a.eval x = u) (B : Nat) (hu : SlB E w B u m)
    (h63 : l.length + m.length ≤ 1000000) (hbytes : bytes ≤ 10000) (hbase : base ≤ w.heap.size)
    (h : ∀ v' w', Own E te w' base v' (l ++ m) → w.grownBy w' v.ownBlock → wpList P ops Q rest (a.put o.dst v') w') : wpList P ops Q (o :: rest) a w := by
  obtain ⟨i, z, hi, hz, hsz, hby, hzc⟩ := R.parts
  have hB : (l.length + m.length) * bytes ≤ 140737488355328 := by
    have := Nat.mul_le_mul h63 hbytes
    omega
  have hl : (l ++ m).length = l.length + m.length := by simp
  have hu' := hu
  obtain ⟨ad, cap, rfl, _⟩ := hu'
  obtain ⟨_, hc⟩ := hu.news
  rcases hc with ⟨rfl, rfl, rfl⟩ | ⟨A, rfl, hn⟩
  · refine wpList_append_own_none hgd s x ts ho base te i k R.under hi v l.length (E.flat l) hs hown hx ?_
    exact h _ _ (by rw [List.append_nil]; exact hown) ⟨rfl, rfl, rfl, Nat.le_refl _, fun _ _ _ => rfl⟩
  · refine wpList_append_own w hgd s x ts ho base te i z k bytes R.under hi hz hsz hby hzc R.pos v l.length (E.flat l) hs hown A m.length cap (E.flat m) hx (E.flat_length m) hn (E.flat_ones m) (by unfold maxLen; omega) hB hbase ?_
    intro v' w' h1 h2 _
    refine h v' w' ?_ h2
    show w'.ownsRow base te k _ (l ++ m).length (E.flat (l ++ m))
    rw [hl, E.flat_append]
    exact h1
end
end
end Go.Proofs.Ytkaoehmkmnkmaaa
