/- Keys held against one another, spans. -/
import Derived.Test.YtbdolhmeknlnpaaKeyB
namespace Go.Proofs.Ytbdolhmeknlnpaa
set_option linter.unusedVariables false
open Go.RowKit

theorem bytes_num (K : List UInt8) : Lib.bytesOf (K.map fun b => (b.toNat : Int)) = K := by
  unfold Lib.bytesOf
  rw [List.map_map]
  conv => rhs; rw [← List.map_id K]
  apply List.map_congr_left
  intro b _
  simp
theorem run_bytesOf_key (w : World) (b : Nat) (K : List UInt8) (h : Has w b K) (cap : Nat) : (Extern.Bytes.bytesOf (.slice (some ⟨b, 0, none⟩) 24 cap)).run Try.prog w = .ok (str K) w := by
  have hl := Lib.run_loadBytesX (P := Try.prog) w (K.map fun b => (b.toNat : Int)) ⟨b, 0, none⟩ .empty (fun j x hj => by
    have e : (⟨b, 0, none⟩ : Addr).add j = ⟨b, j, none⟩ := by unfold Addr.add; split <;> simp_all
    rw [e, cell_of_row w b j _ _ _ h.blk]
    simp only [bc, List.getElem?_toArray, List.getElem?_map, Option.map_eq_some_iff] at hj ⊢
    obtain ⟨a, ha, rfl⟩ := hj
    exact ⟨a, ha, rfl⟩)
  rw [List.length_map, h.len, bytes_num] at hl
  have e : (⟨ByteArray.empty.data ++ K.toArray⟩ : ByteArray) = str K := by
    apply ByteArray.ext
    show (#[] : Array UInt8) ++ K.toArray = K.toArray
    simp
  rw [e] at hl
  exact hl
theorem run_compare_keys (w : World) (b c : Nat) (K L : List UInt8) (h : Has w b K) (h' : Has w c L) (cap cap' : Nat) :
    (Extern.BytealgCompare.compare #[.slice (some ⟨b, 0, none⟩) 24 cap, .slice (some ⟨c, 0, none⟩) 24 cap']).run Try.prog w = .ok (.int .i64 (Lib.compareBytes K L)) w := by
  change Sem.run Try.prog (do pure (goInt (Extern.BytealgCompare.cmp (← Extern.Bytes.bytesOf (.slice (some ⟨b, 0, none⟩) 24 cap)) (← Extern.Bytes.bytesOf (.slice (some ⟨c, 0, none⟩) 24 cap'))))) w = _
  simp only [Sem.run_bind, run_bytesOf_key w b K h, run_bytesOf_key w c L h', Result.andThen_ok, Sem.run_pure]
  rw [Lib.cmp_eq, str_list, str_list]
  rfl
set_option maxHeartbeats 1000000 in
theorem compare_calls (w : World) (b c : Nat) (K L : List UInt8) (h : Has w b K) (h' : Has w c L) (cap cap' : Nat) :
    Calls Try.prog 58 #[.slice (some ⟨b, 0, none⟩) 24 cap, .slice (some ⟨c, 0, none⟩) 24 cap'] w fun e w' => e = .returned (.int .i64 (Lib.compareBytes K L)) ∧ w' = w := by
  have H : Hid (Has w b K) := h
  have H' : Hid (Has w c L) := h'
  clear h h'
  go_enter Try.func58, Try.ntmps58
  go_wp2
  rw [run_callFunc_extern Try.func70 (by kernel_rfl) (by kernel_rfl) (by kernel_rfl) (e := Extern.BytealgCompare.compare) (by kernel_rfl), run_compare_keys w b c K L H.out H'.out]
  simp only [Result.andThen]
  rw [Oper.upon_value]
  go_wp2
  go_ret
  exact ⟨rfl, rfl⟩

theorem compare_less : ∀ (K L : List UInt8), decide (Lib.compareBytes K L < 0) = Op.bytesLess K L
  | [], [] => rfl
  | [], _ :: _ => rfl
  | _ :: _, [] => rfl
  | a :: xs, b :: ys => by
    have ih := compare_less xs ys
    rw [Lib.compareBytes, Op.bytesLess]
    by_cases h1 : a < b
    · simp [h1]
    · by_cases h2 : b < a
      · have : ¬ a = b := fun e => by subst e; exact h1 h2
        simp [h1, h2, this]
      · have : a = b := by
          apply UInt8.toNat_inj.1
          simp only [UInt8.lt_iff_toNat_lt] at h1 h2
          omega
        subst this
        simp [ih]

set_option maxHeartbeats 1000000 in
theorem less_calls (w : World) (K L : List UInt8) (hK : K.length = 24) (hL : L.length = 24) :
    Calls Try.prog 50 #[kv K, kv L] w fun e w' => e = .returned (.bool (Op.bytesLess K L)) ∧ Below w.heap.size w w' := by
  have h1 : Has ((w.alloc (.cells (bc K).toArray 30)).alloc (.cells (bc L).toArray 30)) w.heap.size K := (Has.new w K hK).alloc _
  have h2 : Has ((w.alloc (.cells (bc K).toArray 30)).alloc (.cells (bc L).toArray 30)) (w.heap.size + 1) L := by have := Has.new (w.alloc (.cells (bc K).toArray 30)) L hL; simpa using this
  have H1 : Hid (Has ((w.alloc (.cells (bc K).toArray 30)).alloc (.cells (bc L).toArray 30)) w.heap.size K) := h1
  have H2 : Hid (Has ((w.alloc (.cells (bc K).toArray 30)).alloc (.cells (bc L).toArray 30)) (w.heap.size + 1) L) := h2
  clear h1 h2
  go_enter Try.func50, Try.ntmps50
  go_wp2
  go_quiet (first | (go_at_call 58; exact Calls.quiet_of_same (compare_calls _ w.heap.size (w.heap.size + 1) K L (by exact ⟨hK, H1.out.blk⟩) (by exact ⟨hL, H2.out.blk⟩) 24 24)))
  go_wp2
  go_ret
  refine ⟨?_, below_drewN (below_made (below_made (Below.refl _ w) (Nat.le_refl _) _) (Nat.le_refl _) _) _⟩
  show Ending.returned (Value.bool (decide (Lib.compareBytes K L < 0))) = _
  rw [compare_less]

/-- A span's cells, its value; a span in block b. -/
def sc (F T : List UInt8) (e : Bool) : List Value := bc F ++ bc T ++ [Value.bool e]
abbrev sv (F T : List UInt8) (e : Bool) : Value := .agg (sc F T e).toArray
structure HasS (w : World) (b : Nat) (F T : List UInt8) (e : Bool) : Prop where
  f : F.length = 24
  t : T.length = 24
  blk : w.heap[b]? = some (.cells (sc F T e).toArray 35 (0, 0))
theorem Try.span_info : (Try.prog.info? 35).map (·.size) = some 49 := by kernel_rfl
theorem sv_size (F T : List UInt8) (e : Bool) (hF : F.length = 24) (hT : T.length = 24) : (sc F T e).toArray.size = 49 := by simp [sc, bc_length, hF, hT]
theorem sv_all (F T : List UInt8) (e : Bool) : (sc F T e).toArray.all (·.oneCell') = true := all_oneCell_toArray (by
  intro v hv
  simp only [sc, List.mem_append, List.mem_singleton] at hv
  rcases hv with (h | h) | rfl
  · exact bc_one F v h
  · exact bc_one T v h
  · rfl)
theorem HasS.lt {w : World} {b : Nat} {F T : List UInt8} {e : Bool} (h : HasS w b F T e) : b < w.heap.size := lt_of_block h.blk
theorem HasS.alloc {w : World} {b : Nat} {F T : List UInt8} {e : Bool} (h : HasS w b F T e) (o : Obj) : HasS (w.alloc o) b F T e := ⟨h.f, h.t, by rw [Below.heap_alloc _ _ _ h.lt]; exact h.blk⟩
theorem HasS.below {B : Nat} {w w' : World} {b : Nat} {F T : List UInt8} {e : Bool} (h : HasS w b F T e) (hb : Below B w w') (hB : b < B) : HasS w' b F T e := ⟨h.f, h.t, (hb.block b hB).trans h.blk⟩
theorem HasS.touch {w w' : World} {b p : Nat} {F T : List UInt8} {e : Bool} (h : HasS w b F T e) (ht : Touch p none w w') (hp : b ≠ p) : HasS w' b F T e := ⟨h.f, h.t, (ht.block b h.lt hp (by simp)).trans h.blk⟩
theorem HasS.new (w : World) (F T : List UInt8) (e : Bool) (hF : F.length = 24) (hT : T.length = 24) : HasS (w.alloc (.cells (sc F T e).toArray 35 (0, 0))) w.heap.size F T e := ⟨hF, hT, heap_alloc_new _ _⟩
theorem HasS.ofF {w : World} {b : Nat} {F T : List UInt8} {e : Bool} (h : HasS w b F T e) : w.rangeAt b 0 (bc F) := fun j v hv => by
  rw [cell_of_row w b _ _ _ _ h.blk]
  have hj : j < (bc F).length := (List.getElem?_eq_some_iff.1 hv).1
  simp only [sc, List.getElem?_toArray, Nat.zero_add, List.append_assoc]
  rw [List.getElem?_append_left hj, hv]
theorem HasS.ofT {w : World} {b : Nat} {F T : List UInt8} {e : Bool} (h : HasS w b F T e) : w.rangeAt b 24 (bc T) := fun j v hv => by
  rw [cell_of_row w b _ _ _ _ h.blk]
  have hj : j < (bc T).length := (List.getElem?_eq_some_iff.1 hv).1
  have hF : (bc F).length = 24 := by rw [bc_length, h.f]
  simp only [sc, List.getElem?_toArray, List.append_assoc]
  rw [List.getElem?_append_right (by omega), hF, Nat.add_sub_cancel_left, List.getElem?_append_left hj, hv]
theorem HasS.ofE {w : World} {b : Nat} {F T : List UInt8} {e : Bool} (h : HasS w b F T e) : w.cell? ⟨b, 48, none⟩ = some (.bool e) := by
  rw [cell_of_row w b _ _ _ _ h.blk]
  have hF : (bc F).length = 24 := by rw [bc_length, h.f]
  have hT : (bc T).length = 24 := by rw [bc_length, h.t]
  simp only [sc, List.getElem?_toArray, List.append_assoc]
  rw [List.getElem?_append_right (by omega), List.getElem?_append_right (by omega), hF, hT]
  rfl
section
variable {ops : Array Oper} {rest : List Oper} {o : Oper} {a : Act} {w : World} {Q : Exit → Act → World → Prop}
theorem load_part (x : Operand) (ho : o.op = .load 30 x) (b i : Nat) (hx : a.eval x = .pointer (some ⟨b, i, none⟩)) (hgd : Region.wanted o (yielded ops a.tmps) = true) (K : List UInt8) (hl : K.length = 24) (hK : w.rangeAt b i (bc K))
    (h : wpList Try.prog ops Q rest (a.put o.dst (kv K)) w) : wpList Try.prog ops Q (o :: rest) a w :=
  BigFrame.wpList_want hgd fun _ hK' => wp_load_mid _ x ho b i hx _ _ hK Try.underlying30 rfl (by rw [bc_length, hl]; exact Try.key_info) (hK' _ _ h)
theorem store_span (hgd : o.guard = none) (x y : Operand) (ho : o.op = .store 35 x y) (b : Nat) (hx : a.eval x = .pointer (some ⟨b, 0, none⟩)) (F T : List UInt8) (e : Bool) (hy : a.eval y = sv F T e) (hF : F.length = 24) (hT : T.length = 24) (F' T' : List UInt8) (e' : Bool) (hK : HasS w b F' T' e')
    (h : ∀ w', HasS w' b F T e → Touch b none w w' → w'.heap.size = w.heap.size → wpList Try.prog ops Q rest (a.put o.dst undef) w') : wpList Try.prog ops Q (o :: rest) a w :=
  wpList_store_row hgd _ x y ho b _ hx hy _ _ hK.blk (by rw [sv_size _ _ _ hF hT]; exact Try.span_info) (by rw [sv_size _ _ _ hF hT, sv_size _ _ _ hK.f hK.t]) (sv_all _ _ _) (h _ ⟨hF, hT, setRow_heap w b _ _ _ _ hK.blk⟩ (touch_setRow _ _ _) (by simp))
end
theorem ret_span {fn : Func} {R : Ending → World → Prop} {a : Act} {w : World} {p : Tmp} (hr : fn.results = #[.cell p 35]) (b : Nat) (F T : List UInt8) (e : Bool) (hp : a.tmps.getD p undef = .pointer (some ⟨b, 0, none⟩)) (hK : HasS w b F T e)
    (hd : a.defers = []) (hR : R (.returned (sv F T e)) w) : bodyPost Try.prog fn R .ret a w :=
  bodyPost_ret (results_cell_row hr _ w b _ _ _ _ hp hK.blk Try.underlying35 rfl (by rw [sv_size _ _ _ hK.f hK.t]; exact Try.span_info)) hd hR

/-- Is a key in a span? -/
def inS (F T : List UInt8) (e : Bool) (K : List UInt8) : Bool := !Op.bytesLess K F && (e || Op.bytesLess K T)

set_option maxHeartbeats 1000000 in
theorem in_calls (w : World) (F T : List UInt8) (e : Bool) (K : List UInt8) (hF : F.length = 24) (hT : T.length = 24) (hK : K.length = 24) :
    Calls Try.prog 35 #[sv F T e, kv K] w fun x w' => x = .returned (.bool (inS F T e K)) ∧ Below w.heap.size w w' := by
  have h1 : HasS ((w.alloc (.cells (sc F T e).toArray 35)).alloc (.cells (bc K).toArray 30)) w.heap.size F T e := (HasS.new w F T e hF hT).alloc _
  have h2 : Has ((w.alloc (.cells (sc F T e).toArray 35)).alloc (.cells (bc K).toArray 30)) (w.heap.size + 1) K := by have := Has.new (w.alloc (.cells (sc F T e).toArray 35)) K hK; simpa using this
  have hin : inS F T e K = (!Op.bytesLess K F && (e || Op.bytesLess K T)) := rfl
  have HIN : Hid (inS F T e K = (!Op.bytesLess K F && (e || Op.bytesLess K T))) := hin
  clear hin
  cases hlf : Op.bytesLess K F with
  | true =>
    go_enter Try.func35, Try.ntmps35
    go_wp2_with (first
      | (refine load_key _ rfl _ rfl rfl _ h2 ?_)
      | (refine load_part _ rfl _ _ rfl rfl _ hF h1.ofF ?_)
      | (go_at_call 50; refine (less_calls _ _ _ hK hF).mono ?_; rintro x w1 ⟨rfl, b1⟩; rw [hlf]))
    go_ret
    exact ⟨by rw [HIN.out, hlf]; rfl, below_called (below_made (below_made (Below.refl _ w) (Nat.le_refl _) _) (Nat.le_refl _) _) b1 (Nat.le_refl _)⟩
  | false =>
    cases e with
    | true =>
      go_enter Try.func35, Try.ntmps35
      go_wp2_with (first
        | (refine load_key _ rfl _ rfl rfl _ h2 ?_)
        | (refine load_part _ rfl _ _ rfl rfl _ hF h1.ofF ?_)
        | (go_at_call 50; refine (less_calls _ _ _ hK hF).mono ?_; rintro x w1 ⟨rfl, b1⟩; rw [hlf]; have cE := (h1.below b1 (by simp; omega)).ofE))
      go_ret
      exact ⟨by rw [HIN.out, hlf]; rfl, below_called (below_made (below_made (Below.refl _ w) (Nat.le_refl _) _) (Nat.le_refl _) _) b1 (Nat.le_refl _)⟩
    | false =>
      go_enter Try.func35, Try.ntmps35
      go_wp2_with (first
        | (refine load_key _ rfl _ rfl rfl _ h4 ?_)
        | (refine load_part _ rfl _ _ rfl rfl _ hT h3.ofT ?_)
        | (refine load_key _ rfl _ rfl rfl _ h2 ?_)
        | (refine load_part _ rfl _ _ rfl rfl _ hF h1.ofF ?_)
        | (go_at_call 50; have _q := h3; refine (less_calls _ _ _ hK hT).mono ?_; rintro x w2 ⟨rfl, b2⟩)
        | (go_at_call 50; refine (less_calls _ _ _ hK hF).mono ?_; rintro x w1 ⟨rfl, b1⟩; rw [hlf]; have h3 := h1.below b1 (by simp; omega); have h4 := h2.below b1 (by simp); have cE := h3.ofE))
      go_ret
      exact ⟨by rw [HIN.out, hlf]; simp, below_called (below_called (below_made (below_made (Below.refl _ w) (Nat.le_refl _) _) (Nat.le_refl _) _) b1 (Nat.le_refl _)) b2 (Nat.le_refl _)⟩
end Go.Proofs.Ytbdolhmeknlnpaa
