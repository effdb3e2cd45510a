import Derived.Test.YtgicanpggndbeaaGreatB02
/- Keys held against one another, spans. -/
namespace Go.Proofs.YtgicanpggndbeaaGreat
set_option linter.unusedVariables false
set_option maxRecDepth 100000
open Go.RowKit

theorem bytes_num (K : List UInt8) : Lib.bytesOf (K.map fun b => (b.toNat : Int)) = K := by
  unfold Lib.bytesOf
  rw [List.map_map]
  conv => rhs; rw [← List.map_id K]
  apply List.map_congr_left
  intro b _
  simp
theorem run_bytesOf_key (w : World) (b : Nat) (K : List UInt8) (h : Has w b K) (cap : Nat) : (Extern.Bytes.bytesOf (.slice (some ⟨b, 0, none⟩) 24 cap)).run Tryz.prog w = .ok (str K) w := by
  have hl := Lib.run_loadBytesX (P := Tryz.prog) w (K.map fun b => (b.toNat : Int)) ⟨b, 0, none⟩ .empty (fun j x hj => by
    have e : (⟨b, 0, none⟩ : Addr).add j = ⟨b, j, none⟩ := by unfold Addr.add; split <;> simp_all
    rw [e, cell_of_row w b j _ _ _ h.blk]
    simp only [bc, List.getElem?_toArray, List.getElem?_map, Option.map_eq_some_iff] at hj ⊢
    obtain ⟨a, ha, rfl⟩ := hj
    exact ⟨a, ha, rfl⟩)
  rw [List.length_map, h.len, bytes_num] at hl
  have e : (⟨ByteArray.empty.data ++ K.toArray⟩ : ByteArray) = str K := by
    apply ByteArray.ext
    show (#[] : Array UInt8) ++ K.toArray = K.toArray
    simp
  rw [e] at hl
  exact hl
theorem run_compare_keys (w : World) (b c : Nat) (K L : List UInt8) (h : Has w b K) (h' : Has w c L) (cap cap' : Nat) :
    (Extern.BytealgCompare.compare #[.slice (some ⟨b, 0, none⟩) 24 cap, .slice (some ⟨c, 0, none⟩) 24 cap']).run Tryz.prog w = .ok (.int .i64 (Lib.compareBytes K L)) w := by
  change Sem.run Tryz.prog (do pure (goInt (Extern.BytealgCompare.cmp (← Extern.Bytes.bytesOf (.slice (some ⟨b, 0, none⟩) 24 cap)) (← Extern.Bytes.bytesOf (.slice (some ⟨c, 0, none⟩) 24 cap'))))) w = _
  simp only [Sem.run_bind, run_bytesOf_key w b K h, run_bytesOf_key w c L h', Result.andThen_ok, Sem.run_pure]
  rw [Lib.cmp_eq, str_list, str_list]
  rfl
set_option maxHeartbeats 1000000 in
theorem compare_calls (w : World) (b c : Nat) (K L : List UInt8) (h : Has w b K) (h' : Has w c L) (cap cap' : Nat) :
    Calls Tryz.prog 157 #[.slice (some ⟨b, 0, none⟩) 24 cap, .slice (some ⟨c, 0, none⟩) 24 cap'] w fun e w' => e = .returned (.int .i64 (Lib.compareBytes K L)) ∧ w' = w := by
  have H : Hid (Has w b K) := h
  have H' : Hid (Has w c L) := h'
  clear h h'
  go_enter Tryz.func157, Tryz.ntmps157
  go_wp2
  rw [run_callFunc_extern Tryz.func168 (by kernel_rfl) (by kernel_rfl) (by kernel_rfl) (e := Extern.BytealgCompare.compare) (by kernel_rfl), run_compare_keys w b c K L H.out H'.out]
  simp only [Result.andThen]
  rw [Oper.upon_value]
  go_wp2
  go_ret
  exact ⟨rfl, rfl⟩

theorem compare_less : ∀ (K L : List UInt8), decide (Lib.compareBytes K L < 0) = Op.bytesLess K L
  | [], [] => rfl
  | [], _ :: _ => rfl
  | _ :: _, [] => rfl
  | a :: xs, b :: ys => by
    have ih := compare_less xs ys
    rw [Lib.compareBytes, Op.bytesLess]
    by_cases h1 : a < b
    · simp [h1]
    · by_cases h2 : b < a
      · have : ¬ a = b := fun e => by subst e; exact h1 h2
        simp [h1, h2, this]
      · have : a = b := by
          apply UInt8.toNat_inj.1
          simp only [UInt8.lt_iff_toNat_lt] at h1 h2
          omega
        subst this
        simp [ih]

set_option maxHeartbeats 1000000 in
theorem less_calls (w : World) (K L : List UInt8) (hK : K.length = 24) (hL : L.length = 24) :
    Calls Tryz.prog 164 #[kv K, kv L] w fun e w' => e = .returned (.bool (Op.bytesLess K L)) ∧ Below w.heap.size w w' := by
  have h1 : Has ((w.alloc (.cells (bc K).toArray 29)).alloc (.cells (bc L).toArray 29)) w.heap.size K := (Has.new w K hK).alloc _
  have h2 : Has ((w.alloc (.cells (bc K).toArray 29)).alloc (.cells (bc L).toArray 29)) (w.heap.size + 1) L := by have := Has.new (w.alloc (.cells (bc K).toArray 29)) L hL; simpa using this
  have H1 : Hid (Has ((w.alloc (.cells (bc K).toArray 29)).alloc (.cells (bc L).toArray 29)) w.heap.size K) := h1
  have H2 : Hid (Has ((w.alloc (.cells (bc K).toArray 29)).alloc (.cells (bc L).toArray 29)) (w.heap.size + 1) L) := h2
  clear h1 h2
  go_enter Tryz.func164, Tryz.ntmps164
  go_wp2
  go_quiet (first | (go_at_call 157; exact Calls.quiet_of_same (compare_calls _ w.heap.size (w.heap.size + 1) K L (by exact ⟨hK, H1.out.blk⟩) (by exact ⟨hL, H2.out.blk⟩) 24 24)))
  go_wp2
  go_ret
  refine ⟨?_, below_drewN (below_made (below_made (Below.refl _ w) (Nat.le_refl _) _) (Nat.le_refl _) _) _⟩
  show Ending.returned (Value.bool (decide (Lib.compareBytes K L < 0))) = _
  rw [compare_less]

/-- A span's cells, its value; a span in block b. -/
def sc (F T : List UInt8) (e : Bool) : List Value := bc F ++ bc T ++ [Value.bool e]
abbrev sv (F T : List UInt8) (e : Bool) : Value := .agg (sc F T e).toArray
structure HasS (w : World) (b : Nat) (F T : List UInt8) (e : Bool) : Prop where
  f : F.length = 24
  t : T.length = 24
  blk : w.heap[b]? = some (.cells (sc F T e).toArray 96 (0, 0))
theorem Tryz.span_info : (Tryz.prog.info? 96).map (·.size) = some 49 := by kernel_rfl
theorem sv_size (F T : List UInt8) (e : Bool) (hF : F.length = 24) (hT : T.length = 24) : (sc F T e).toArray.size = 49 := by simp [sc, bc_length, hF, hT]
theorem sv_all (F T : List UInt8) (e : Bool) : (sc F T e).toArray.all (·.oneCell') = true := all_oneCell_toArray (by
  intro v hv
  simp only [sc, List.mem_append, List.mem_singleton] at hv
  rcases hv with (h | h) | rfl
  · exact bc_one F v h
  · exact bc_one T v h
  · rfl)
theorem HasS.lt {w : World} {b : Nat} {F T : List UInt8} {e : Bool} (h : HasS w b F T e) : b < w.heap.size := lt_of_block h.blk
theorem HasS.alloc {w : World} {b : Nat} {F T : List UInt8} {e : Bool} (h : HasS w b F T e) (o : Obj) : HasS (w.alloc o) b F T e := ⟨h.f, h.t, by rw [Below.heap_alloc _ _ _ h.lt]; exact h.blk⟩
theorem HasS.below {B : Nat} {w w' : World} {b : Nat} {F T : List UInt8} {e : Bool} (h : HasS w b F T e) (hb : Below B w w') (hB : b < B) : HasS w' b F T e := ⟨h.f, h.t, (hb.block b hB).trans h.blk⟩
theorem HasS.touch {w w' : World} {b p : Nat} {F T : List UInt8} {e : Bool} (h : HasS w b F T e) (ht : Touch p none w w') (hp : b ≠ p) : HasS w' b F T e := ⟨h.f, h.t, (ht.block b h.lt hp (by simp)).trans h.blk⟩
theorem HasS.new (w : World) (F T : List UInt8) (e : Bool) (hF : F.length = 24) (hT : T.length = 24) : HasS (w.alloc (.cells (sc F T e).toArray 96 (0, 0))) w.heap.size F T e := ⟨hF, hT, heap_alloc_new _ _⟩
theorem HasS.ofF {w : World} {b : Nat} {F T : List UInt8} {e : Bool} (h : HasS w b F T e) : w.rangeAt b 0 (bc F) := fun j v hv => by
  rw [cell_of_row w b _ _ _ _ h.blk]
  have hj : j < (bc F).length := (List.getElem?_eq_some_iff.1 hv).1
  simp only [sc, List.getElem?_toArray, Nat.zero_add, List.append_assoc]
  rw [List.getElem?_append_left hj, hv]
theorem HasS.ofT {w : World} {b : Nat} {F T : List UInt8} {e : Bool} (h : HasS w b F T e) : w.rangeAt b 24 (bc T) := fun j v hv => by
  rw [cell_of_row w b _ _ _ _ h.blk]
  have hj : j < (bc T).length := (List.getElem?_eq_some_iff.1 hv).1
  have hF : (bc F).length = 24 := by rw [bc_length, h.f]
  simp only [sc, List.getElem?_toArray, List.append_assoc]
  rw [List.getElem?_append_right (by omega), hF, Nat.add_sub_cancel_left, List.getElem?_append_left hj, hv]
theorem HasS.ofE {w : World} {b : Nat} {F T : List UInt8} {e : Bool} (h : HasS w b F T e) : w.cell? ⟨b, 48, none⟩ = some (.bool e) := by
  rw [cell_of_row w b _ _ _ _ h.blk]
  have hF : (bc F).length = 24 := by rw [bc_length, h.f]
  have hT : (bc T).length = 24 := by rw [bc_length, h.t]
  simp only [sc, List.getElem?_toArray, List.append_assoc]
  rw [List.getElem?_append_right (by omega), List.getElem?_append_right (by omega), hF, hT]
  rfl
section
variable {ops : Array Oper} {rest : List Oper} {o : Oper} {a : Act} {w : World} {Q : Exit → Act → World → Prop}
theorem load_part (x : Operand) (ho : o.op = .load 29 x) (b i : Nat) (hx : a.eval x = .pointer (some ⟨b, i, none⟩)) (hgd : Region.wanted o (yielded ops a.tmps) = true) (K : List UInt8) (hl : K.length = 24) (hK : w.rangeAt b i (bc K))
    (h : wpList Tryz.prog ops Q rest (a.put o.dst (kv K)) w) : wpList Tryz.prog ops Q (o :: rest) a w :=
  BigFrame.wpList_want hgd fun _ hK' => wp_load_mid _ x ho b i hx _ _ hK Tryz.underlying29 rfl (by rw [bc_length, hl]; exact Tryz.key_info) (hK' _ _ h)
theorem store_span (hgd : o.guard = none) (x y : Operand) (ho : o.op = .store 96 x y) (b : Nat) (hx : a.eval x = .pointer (some ⟨b, 0, none⟩)) (F T : List UInt8) (e : Bool) (hy : a.eval y = sv F T e) (hF : F.length = 24) (hT : T.length = 24) (F' T' : List UInt8) (e' : Bool) (hK : HasS w b F' T' e')
    (h : ∀ w', HasS w' b F T e → Touch b none w w' → w'.heap.size = w.heap.size → wpList Tryz.prog ops Q rest (a.put o.dst undef) w') : wpList Tryz.prog ops Q (o :: rest) a w :=
  wpList_store_row hgd _ x y ho b _ hx hy _ _ hK.blk (by rw [sv_size _ _ _ hF hT]; exact Tryz.span_info) (by rw [sv_size _ _ _ hF hT, sv_size _ _ _ hK.f hK.t]) (sv_all _ _ _) (h _ ⟨hF, hT, setRow_heap w b _ _ _ _ hK.blk⟩ (touch_setRow _ _ _) (by simp))
end
theorem ret_span {fn : Func} {R : Ending → World → Prop} {a : Act} {w : World} {p : Tmp} (hr : fn.results = #[.cell p 96]) (b : Nat) (F T : List UInt8) (e : Bool) (hp : a.tmps.getD p undef = .pointer (some ⟨b, 0, none⟩)) (hK : HasS w b F T e)
    (hd : a.defers = []) (hR : R (.returned (sv F T e)) w) : bodyPost Tryz.prog fn R .ret a w :=
  bodyPost_ret (results_cell_row hr _ w b _ _ _ _ hp hK.blk Tryz.underlying96 rfl (by rw [sv_size _ _ _ hK.f hK.t]; exact Tryz.span_info)) hd hR

/-- Is a key in a span? -/
def inS (F T : List UInt8) (e : Bool) (K : List UInt8) : Bool := !Op.bytesLess K F && (e || Op.bytesLess K T)

set_option maxHeartbeats 1000000 in
theorem in_calls (w : World) (F T : List UInt8) (e : Bool) (K : List UInt8) (hF : F.length = 24) (hT : T.length = 24) (hK : K.length = 24) :
    Calls Tryz.prog 146 #[sv F T e, kv K] w fun x w' => x = .returned (.bool (inS F T e K)) ∧ Below w.heap.size w w' := by
  have h1 : HasS ((w.alloc (.cells (sc F T e).toArray 96)).alloc (.cells (bc K).toArray 29)) w.heap.size F T e := (HasS.new w F T e hF hT).alloc _
  have h2 : Has ((w.alloc (.cells (sc F T e).toArray 96)).alloc (.cells (bc K).toArray 29)) (w.heap.size + 1) K := by have := Has.new (w.alloc (.cells (sc F T e).toArray 96)) K hK; simpa using this
  have hin : inS F T e K = (!Op.bytesLess K F && (e || Op.bytesLess K T)) := rfl
  have HIN : Hid (inS F T e K = (!Op.bytesLess K F && (e || Op.bytesLess K T))) := hin
  clear hin
  cases hlf : Op.bytesLess K F with
  | true =>
    go_enter Tryz.func146, Tryz.ntmps146
    go_wp2_with (first
      | (refine load_key _ rfl _ rfl rfl _ h2 ?_)
      | (refine load_part _ rfl _ _ rfl rfl _ hF h1.ofF ?_)
      | (go_at_call 164; refine (less_calls _ _ _ hK hF).mono ?_; rintro x w1 ⟨rfl, b1⟩; rw [hlf]))
    go_ret
    exact ⟨by rw [HIN.out, hlf]; rfl, below_called (below_made (below_made (Below.refl _ w) (Nat.le_refl _) _) (Nat.le_refl _) _) b1 (Nat.le_refl _)⟩
  | false =>
    cases e with
    | true =>
      go_enter Tryz.func146, Tryz.ntmps146
      go_wp2_with (first
        | (refine load_key _ rfl _ rfl rfl _ h2 ?_)
        | (refine load_part _ rfl _ _ rfl rfl _ hF h1.ofF ?_)
        | (go_at_call 164; refine (less_calls _ _ _ hK hF).mono ?_; rintro x w1 ⟨rfl, b1⟩; rw [hlf]; have cE := (h1.below b1 (by simp; omega)).ofE))
      go_ret
      exact ⟨by rw [HIN.out, hlf]; rfl, below_called (below_made (below_made (Below.refl _ w) (Nat.le_refl _) _) (Nat.le_refl _) _) b1 (Nat.le_refl _)⟩
    | false =>
      go_enter Tryz.func146, Tryz.ntmps146
      go_wp2_with (first
        | (refine load_key _ rfl _ rfl rfl _ h4 ?_)
        | (refine load_part _ rfl _ _ rfl rfl _ hT h3.ofT ?_)
        | (refine load_key _ rfl _ rfl rfl _ h2 ?_)
        | (refine load_part _ rfl _ _ rfl rfl _ hF h1.ofF ?_)
        | (go_at_call 164; have _q := h3; refine (less_calls _ _ _ hK hT).mono ?_; rintro x w2 ⟨rfl, b2⟩)
        | (go_at_call 164; refine (less_calls _ _ _ hK hF).mono ?_; rintro x w1 ⟨rfl, b1⟩; rw [hlf]; have h3 := h1.below b1 (by simp; omega); have h4 := h2.below b1 (by simp); have cE := h3.ofE))
      go_ret
      exact ⟨by rw [HIN.out, hlf]; simp, below_called (below_called (below_made (below_made (Below.refl _ w) (Nat.le_refl _) _) (Nat.le_refl _) _) b1 (Nat.le_refl _)) b2 (Nat.le_refl _)⟩
end Go.Proofs.YtgicanpggndbeaaGreat
/- The calls that make spans. -/
namespace Go.Proofs.YtgicanpggndbeaaGreat
set_option linter.unusedVariables false
set_option maxRecDepth 100000
open Go.RowKit

theorem Tryz.span_built (parts : List (Nat × Value)) : Tryz.prog.built 96 parts = Instr.fill (#[(0, 24), (24, 24), (48, 1)][·]?) (sc (zs 24) (zs 24) false).toArray parts := by
  have h1 : (Tryz.prog.info? 96).map (·.zero) = some (some (.agg (sc (zs 24) (zs 24) false).toArray)) := by kernel_rfl
  have h2 : (Tryz.prog.underlying 96).map (fun d => match d with | .struct fs => fs.toList.mapM (fun f => (Tryz.prog.info? f.type).map fun i => (f.offset, i.size)) | _ => none) = some (some [(0, 24), (24, 24), (48, 1)]) := by kernel_rfl
  unfold Program.built
  cases hi : Tryz.prog.info? 96 with
  | none => rw [hi] at h1; cases h1
  | some i =>
    rw [hi] at h1
    have hz : i.zero = some (.agg (sc (zs 24) (zs 24) false).toArray) := by simpa using h1
    cases hu : Tryz.prog.underlying 96 with
    | none => rw [hu] at h2; cases h2
    | some d =>
      rw [hu] at h2
      cases d with
      | struct fs =>
        have hp : fs.toList.mapM (fun f => (Tryz.prog.info? f.type).map fun i => (f.offset, i.size)) = some [(0, 24), (24, 24), (48, 1)] := by simpa using h2
        simp only [hz, hp]
        rfl
      | _ => simp at h2
theorem sc_F (F F' T : List UInt8) (e : Bool) (hF : F.length = 24) (hF' : F'.length = 24) : ((sc F T e).toArray.toList.take 0 ++ (kv F').cells.toList ++ (sc F T e).toArray.toList.drop (0 + 24)).toArray = (sc F' T e).toArray := by
  have h : (bc F).length = 24 := by rw [bc_length, hF]
  simp only [sc, Value.cells, List.take_zero, List.nil_append, Nat.zero_add, List.append_assoc]
  rw [List.drop_append_of_le_length (by omega), List.drop_of_length_le (by omega)]
  rfl
theorem sc_T (F T T' : List UInt8) (e : Bool) (hF : F.length = 24) (hT : T.length = 24) : ((sc F T e).toArray.toList.take 24 ++ (kv T').cells.toList ++ (sc F T e).toArray.toList.drop (24 + 24)).toArray = (sc F T' e).toArray := by
  have h : (bc F).length = 24 := by rw [bc_length, hF]
  have h' : (bc T).length = 24 := by rw [bc_length, hT]
  simp only [sc, Value.cells, List.append_assoc]
  rw [List.take_append_of_le_length (by omega), List.take_of_length_le (by omega), List.drop_append, List.drop_of_length_le (by omega), h, List.drop_append_of_le_length (by omega), List.drop_of_length_le (by omega)]
  rfl
theorem sc_E (F T : List UInt8) (e e' : Bool) (hF : F.length = 24) (hT : T.length = 24) : ((sc F T e).toArray.toList.take 48 ++ (Value.bool e').cells.toList ++ (sc F T e).toArray.toList.drop (48 + 1)).toArray = (sc F T e').toArray := by
  have h : (bc F ++ bc T).length = 48 := by rw [List.length_append, bc_length, bc_length, hF, hT]
  simp only [sc, Value.cells]
  rw [List.take_append_of_le_length (by omega), List.take_of_length_le (by omega), List.drop_of_length_le (by simp [bc_length, hF, hT]), List.append_nil]
theorem built3 (F T : List UInt8) (e : Bool) (hF : F.length = 24) (hT : T.length = 24) : Tryz.prog.built 96 [(0, kv F), (1, kv T), (2, .bool e)] = some (sc F T e).toArray := by
  rw [Tryz.span_built, fill_put (off := 0) (size := 24) rfl (by simp [Value.cells, bc_length, hF]) (by simp [sc, bc_length, zs_length]), sc_F _ _ _ _ (zs_length _) hF,
    fill_put (off := 24) (size := 24) rfl (by simp [Value.cells, bc_length, hT]) (by simp [sc, bc_length, zs_length, hF]), sc_T _ _ _ _ hF (zs_length _),
    fill_put (off := 48) (size := 1) rfl rfl (by simp [sc, bc_length, hF, hT]), sc_E _ _ _ _ hF hT]
  rfl
theorem built2 (F T : List UInt8) (hF : F.length = 24) (hT : T.length = 24) : Tryz.prog.built 96 [(0, kv F), (1, kv T)] = some (sc F T false).toArray := by
  rw [Tryz.span_built, fill_put (off := 0) (size := 24) rfl (by simp [Value.cells, bc_length, hF]) (by simp [sc, bc_length, zs_length]), sc_F _ _ _ _ (zs_length _) hF,
    fill_put (off := 24) (size := 24) rfl (by simp [Value.cells, bc_length, hT]) (by simp [sc, bc_length, zs_length, hF]), sc_T _ _ _ _ hF (zs_length _)]
  rfl
theorem builtE (F : List UInt8) (e : Bool) (hF : F.length = 24) : Tryz.prog.built 96 [(0, kv F), (2, .bool e)] = some (sc F (zs 24) e).toArray := by
  rw [Tryz.span_built, fill_put (off := 0) (size := 24) rfl (by simp [Value.cells, bc_length, hF]) (by simp [sc, bc_length, zs_length]), sc_F _ _ _ _ (zs_length _) hF,
    fill_put (off := 48) (size := 1) rfl rfl (by simp [sc, bc_length, hF, zs_length]), sc_E _ _ _ _ hF (zs_length _)]
  rfl

theorem wp_build2 {o : Oper} {a : Act} {w : World} {K : Act → World → Prop} {Q : Exit → Act → World → Prop} (x y : Operand) (ho : o.op = .build 96 #[(0, x), (1, y)]) (F T : List UInt8) (hx : a.eval x = kv F) (hy : a.eval y = kv T) (hF : F.length = 24) (hT : T.length = 24)
    (h : K (a.put o.dst (sv F T false)) w) : o.wp Tryz.prog a w K Q := by
  have hb := built2 F T hF hT
  have e : (Array.map (fun x : Nat × Operand => match x with | (i, x) => (i, a.eval x)) #[(0, x), (1, y)]).toList = [(0, kv F), (1, kv T)] := by simp [hx, hy]
  refine wp_build 96 _ ho (by rw [e, hb]; rfl) ?_
  rw [e, hb]
  exact h
theorem wp_store_span {o : Oper} {a : Act} {w : World} {K : Act → World → Prop} {Q : Exit → Act → World → Prop} (x y : Operand) (ho : o.op = .store 96 x y) (b : Nat) (hx : a.eval x = .pointer (some ⟨b, 0, none⟩)) (F T : List UInt8) (e : Bool) (hy : a.eval y = sv F T e) (hF : F.length = 24) (hT : T.length = 24) (F' T' : List UInt8) (e' : Bool) (hK : HasS w b F' T' e')
    (h : K (a.put o.dst undef) (w.setRow b (sc F T e).toArray)) : o.wp Tryz.prog a w K Q :=
  wp_store_row _ x y ho b _ hx hy _ _ hK.blk (by rw [sv_size _ _ _ hF hT]; exact Tryz.span_info) (by rw [sv_size _ _ _ hF hT, sv_size _ _ _ hK.f hK.t]) (sv_all _ _ _) h
theorem build_any {ops : Array Oper} {rest : List Oper} {o : Oper} {a : Act} {w : World} {Q : Exit → Act → World → Prop} (hg : o.guard = none) (parts : Array (Nat × Operand)) (ho : o.op = .build 96 parts) (vs : List (Nat × Value)) (hv : (parts.map fun x => (x.1, a.eval x.2)).toList = vs) (C : Array Value) (hb : Tryz.prog.built 96 vs = some C)
    (h : wpList Tryz.prog ops Q rest (a.put o.dst (.agg C)) w) : wpList Tryz.prog ops Q (o :: rest) a w := by
  subst hv
  refine wpList_plain hg fun K hK => ?_
  refine wp_build 96 parts ho (by rw [show (fun x : Nat × Operand => match x with | (i, x) => (i, a.eval x)) = (fun x => (x.1, a.eval x.2)) from rfl, hb]; rfl) ?_
  rw [show (fun x : Nat × Operand => match x with | (i, x) => (i, a.eval x)) = (fun x => (x.1, a.eval x.2)) from rfl, hb]
  exact hK _ _ h

section
variable {ops : Array Oper} {rest : List Oper} {o : Oper} {a : Act} {w : World} {Q : Exit → Act → World → Prop}
theorem build3 (hg : o.guard = none) (x y z : Operand) (ho : o.op = .build 96 #[(0, x), (1, y), (2, z)]) (F T : List UInt8) (e : Bool) (hx : a.eval x = kv F) (hy : a.eval y = kv T) (hz : a.eval z = .bool e) (hF : F.length = 24) (hT : T.length = 24)
    (h : wpList Tryz.prog ops Q rest (a.put o.dst (sv F T e)) w) : wpList Tryz.prog ops Q (o :: rest) a w :=
  build_any hg _ ho [(0, kv F), (1, kv T), (2, .bool e)] (by simp [hx, hy, hz]) _ (built3 F T e hF hT) h
theorem build2 (hg : o.guard = none) (x y : Operand) (ho : o.op = .build 96 #[(0, x), (1, y)]) (F T : List UInt8) (hx : a.eval x = kv F) (hy : a.eval y = kv T) (hF : F.length = 24) (hT : T.length = 24)
    (h : wpList Tryz.prog ops Q rest (a.put o.dst (sv F T false)) w) : wpList Tryz.prog ops Q (o :: rest) a w :=
  build_any hg _ ho [(0, kv F), (1, kv T)] (by simp [hx, hy]) _ (built2 F T hF hT) h
theorem buildE (hg : o.guard = none) (x z : Operand) (ho : o.op = .build 96 #[(0, x), (2, z)]) (F : List UInt8) (e : Bool) (hx : a.eval x = kv F) (hz : a.eval z = .bool e) (hF : F.length = 24)
    (h : wpList Tryz.prog ops Q rest (a.put o.dst (sv F (zs 24) e)) w) : wpList Tryz.prog ops Q (o :: rest) a w :=
  build_any hg _ ho [(0, kv F), (2, .bool e)] (by simp [hx, hz]) _ (builtE F e hF) h
theorem build0 (hg : o.guard = none) (ho : o.op = .build 96 #[])
    (h : wpList Tryz.prog ops Q rest (a.put o.dst (sv (zs 24) (zs 24) false)) w) : wpList Tryz.prog ops Q (o :: rest) a w :=
  build_any hg _ ho [] (by simp) _ (Tryz.span_built []) h
end
theorem zero_hasS (w : World) (b : Nat) (hb : b = w.heap.size) : HasS (w.alloc (.cells (sc (zs 24) (zs 24) false).toArray 96)) b (zs 24) (zs 24) false := hb ▸ HasS.new w (zs 24) (zs 24) false rfl rfl

theorem Has.range {w : World} {b : Nat} {K : List UInt8} (h : Has w b K) : w.rangeAt b 0 (bc K) := fun j v hv => by
  rw [cell_of_row w b _ _ _ _ h.blk]
  simpa using hv

/-- What stands while a span is made: the key in block c, room for the span in block b. -/
def Mk (w : World) (b c : Nat) (K : List UInt8) (w' : World) : Prop := (∃ F T e, HasS w' b F T e) ∧ Has w' c K ∧ Below w.heap.size w w' ∧ w.heap.size ≤ b ∧ b < c
theorem Mk.drew {w w' : World} {b c : Nat} {K : List UInt8} (h : Mk w b c K w') : Mk w b c K w'.drew := by
  obtain ⟨⟨F, T, e, h1⟩, h2, h3, h4⟩ := h
  exact ⟨⟨F, T, e, h1.f, h1.t, h1.blk⟩, ⟨h2.len, h2.blk⟩, h3.drew, h4⟩
theorem Mk.called {w w' w'' : World} {b c : Nat} {K : List UInt8} (h : Mk w b c K w') (hb : Below w'.heap.size w' w'') : Mk w b c K w'' := by
  obtain ⟨⟨F, T, e, h1⟩, h2, h3, h4⟩ := h
  exact ⟨⟨F, T, e, h1.below hb h1.lt⟩, h2.below hb h2.lt, below_called h3 hb (Nat.le_refl _), h4⟩
theorem HasS.row {w : World} {b : Nat} {F T F' T' : List UInt8} {e e' : Bool} (h : HasS w b F T e) (hF : F'.length = 24) (hT : T'.length = 24) : HasS (w.setRow b (sc F' T' e').toArray) b F' T' e' := ⟨hF, hT, setRow_heap w b _ _ _ _ h.blk⟩
theorem Mk.put {w w' : World} {b c : Nat} {K F T : List UInt8} {e : Bool} (h : Mk w b c K w') (hF : F.length = 24) (hT : T.length = 24) : Mk w b c K (w'.setRow b (sc F T e).toArray) := by
  obtain ⟨⟨F', T', e', h1⟩, h2, h3, h4, h5⟩ := h
  exact ⟨⟨F, T, e, h1.row hF hT⟩, h2.touch (touch_setRow _ _ _) (by omega), below_touched h3 (touch_setRow _ _ _) h4 (Nat.le_refl _), h4, h5⟩
theorem Mk.range {w w' : World} {b c : Nat} {K : List UInt8} (h : Mk w b c K w') : w'.rangeAt c 0 (bc K) := h.2.1.range

def entriesF (n : Int) : List UInt8 := if okN n then headK n.toNat 2 else zs 24
def entriesT (n : Int) : List UInt8 := if okN n then headK n.toNat 3 else zs 24
def chunksF (n p : Int) : List UInt8 := chunkR n p
def chunksT (n p : Int) : List UInt8 := if okN n && okP p then headK n.toNat 4 else zs 24
theorem entriesF_length (n : Int) : (entriesF n).length = 24 := by unfold entriesF; split <;> simp [headK_length, zs_length]
theorem entriesT_length (n : Int) : (entriesT n).length = 24 := by unfold entriesT; split <;> simp [headK_length, zs_length]
theorem chunksF_length (n p : Int) : (chunksF n p).length = 24 := chunkR_length n p
theorem chunksT_length (n p : Int) : (chunksT n p).length = 24 := by unfold chunksT; split <;> simp [headK_length, zs_length]

set_option maxHeartbeats 1000000 in
theorem entries_calls (n : Int) (w : World) :
    Calls Tryz.prog 73 #[.int .i64 n] w fun e w' => e = .returned (sv (entriesF n) (entriesT n) false) ∧ Below w.heap.size w w' := by
  by_cases hn : okN n = true
  · have h0 : 1 ≤ n ∧ n < 1073741824 := by simpa [okN] using hn
    go_enter Tryz.func73, Tryz.ntmps73
    go_wp2_with (first
      | (go_at_call 105; refine (isNumber_calls n _).mono ?_; rintro e w1 ⟨rfl, rfl⟩)
      | (go_at_call 107; have _q := b2; refine (least_calls n 3 3 (by decide) _ (by omega)).mono ?_; rintro e w3 ⟨rfl, b3⟩)
      | (go_at_call 107; refine (least_calls n 2 2 (by decide) _ (by omega)).mono ?_; rintro e w2 ⟨rfl, b2⟩)
      | (refine build2 rfl _ _ rfl _ _ rfl rfl (headK_length n.toNat 2) (headK_length n.toNat 3) ?_)
      | (refine store_span rfl _ _ rfl _ rfl _ _ _ rfl (headK_length _ _) (headK_length _ _) (zs 24) (zs 24) false (((zero_hasS w w.heap.size rfl).below b2 (by simp)).below b3 (by have := b2.size; simp at this; omega)) ?_; intro w4 h4 t4 s4))
    refine ret_span rfl _ _ _ _ rfl h4 rfl ⟨by rw [entriesF, entriesT, if_pos hn, if_pos hn], ?_⟩
    exact below_touched (below_called (below_called (below_made (Below.refl _ w) (Nat.le_refl _) _) b2 (Nat.le_refl _)) b3 (Nat.le_refl _)) t4 (Nat.le_refl _) (Nat.le_refl _)
  · have hf : okN n = false := by simpa using hn
    have h0 : ¬ (1 ≤ n ∧ n < 1073741824) := by simpa [okN] using hn
    go_enter Tryz.func73, Tryz.ntmps73
    go_wp2_with (first
      | (go_at_call 105; refine (isNumber_calls n _).mono ?_; rintro e w1 ⟨rfl, rfl⟩; rw [decide_eq_false h0])
      | (refine build0 rfl rfl ?_)
      | (refine store_span rfl _ _ rfl _ rfl _ _ _ rfl rfl rfl (zs 24) (zs 24) false (zero_hasS w w.heap.size rfl) ?_; intro w4 h4 t4 s4))
    refine ret_span rfl _ _ _ _ rfl h4 rfl ⟨by rw [entriesF, entriesT, hf]; rfl, ?_⟩
    exact below_touched (below_made (Below.refl _ w) (Nat.le_refl _) _) t4 (Nat.le_refl _) (Nat.le_refl _)

end Go.Proofs.YtgicanpggndbeaaGreat
