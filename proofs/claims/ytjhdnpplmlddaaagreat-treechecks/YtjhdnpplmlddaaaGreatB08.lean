import Derived.Test.YtjhdnpplmlddaaaGreatB06
import Derived.Test.YtjhdnpplmlddaaaGreatB07
import Derived.Deep.QuietTactic
import Derived.BigQuiet
import Derived.Lib.Bytealg
import Derived.Lib.BytesEntry
/- Keys, spans and the small calls of package tree. -/
namespace Go.Proofs.YtjhdnpplmlddaaaGreat
set_option linter.unusedVariables false
open Go.RowKit

theorem bytes_num (K : List UInt8) : Lib.bytesOf (K.map fun b => (b.toNat : Int)) = K := by
  unfold Lib.bytesOf
  rw [List.map_map]
  conv => rhs; rw [← List.map_id K]
  apply List.map_congr_left
  intro b _
  simp
theorem run_bytesOf_key (w : World) (b : Nat) (K : List UInt8) (h : Has w b K) (cap : Nat) : (Extern.Bytes.bytesOf (.slice (some ⟨b, 0, none⟩) 24 cap)).run Tryz.prog w = .ok (str K) w := by
  have hl := Lib.run_loadBytesX (P := Tryz.prog) w (K.map fun b => (b.toNat : Int)) ⟨b, 0, none⟩ .empty (fun j x hj => by
    have e : (⟨b, 0, none⟩ : Addr).add j = ⟨b, j, none⟩ := by unfold Addr.add; split <;> simp_all
    rw [e, cell_of_row w b j _ _ _ h.blk]
    simp only [bc, List.getElem?_toArray, List.getElem?_map, Option.map_eq_some_iff] at hj ⊢
    obtain ⟨a, ha, rfl⟩ := hj
    exact ⟨a, ha, rfl⟩)
  rw [List.length_map, h.len, bytes_num] at hl
  have e : (⟨ByteArray.empty.data ++ K.toArray⟩ : ByteArray) = str K := by
    apply ByteArray.ext
    show (#[] : Array UInt8) ++ K.toArray = K.toArray
    simp
  rw [e] at hl
  exact hl
theorem run_compare_keys (w : World) (b c : Nat) (K L : List UInt8) (h : Has w b K) (h' : Has w c L) (cap cap' : Nat) :
    (Extern.BytealgCompare.compare #[.slice (some ⟨b, 0, none⟩) 24 cap, .slice (some ⟨c, 0, none⟩) 24 cap']).run Tryz.prog w = .ok (.int .i64 (Lib.compareBytes K L)) w := by
  change Sem.run Tryz.prog (do pure (goInt (Extern.BytealgCompare.cmp (← Extern.Bytes.bytesOf (.slice (some ⟨b, 0, none⟩) 24 cap)) (← Extern.Bytes.bytesOf (.slice (some ⟨c, 0, none⟩) 24 cap'))))) w = _
  simp only [Sem.run_bind, run_bytesOf_key w b K h, run_bytesOf_key w c L h', Result.andThen_ok, Sem.run_pure]
  rw [Lib.cmp_eq, str_list, str_list]
  rfl
set_option maxRecDepth 100000 in
set_option maxHeartbeats 1000000 in
theorem compare_calls (w : World) (b c : Nat) (K L : List UInt8) (h : Has w b K) (h' : Has w c L) (cap cap' : Nat) :
    Calls Tryz.prog 53 #[.slice (some ⟨b, 0, none⟩) 24 cap, .slice (some ⟨c, 0, none⟩) 24 cap'] w fun e w' => e = .returned (.int .i64 (Lib.compareBytes K L)) ∧ w' = w := by
  have H : Hid (Has w b K) := h
  have H' : Hid (Has w c L) := h'
  clear h h'
  go_enter Tryz.func53, Tryz.ntmps53
  go_wp2
  rw [run_callFunc_extern Tryz.func74 (by kernel_rfl) (by kernel_rfl) (by kernel_rfl) (e := Extern.BytealgCompare.compare) (by kernel_rfl), run_compare_keys w b c K L H.out H'.out]
  simp only [Result.andThen]
  rw [Oper.upon_value]
  go_wp2
  go_ret
  exact ⟨rfl, rfl⟩

theorem compare_less : ∀ (K L : List UInt8), decide (Lib.compareBytes K L < 0) = Op.bytesLess K L
  | [], [] => rfl
  | [], _ :: _ => rfl
  | _ :: _, [] => rfl
  | a :: xs, b :: ys => by
    have ih := compare_less xs ys
    rw [Lib.compareBytes, Op.bytesLess]
    by_cases h1 : a < b
    · simp [h1]
    · by_cases h2 : b < a
      · have : ¬ a = b := fun e => by subst e; exact h1 h2
        simp [h1, h2, this]
      · have : a = b := by
          apply UInt8.toNat_inj.1
          simp only [UInt8.lt_iff_toNat_lt] at h1 h2
          omega
        subst this
        simp [ih]

set_option maxRecDepth 100000 in
set_option maxHeartbeats 1000000 in
theorem tless_calls (w : World) (K L : List UInt8) (hK : K.length = 24) (hL : L.length = 24) :
    Calls Tryz.prog 68 #[kv K, kv L] w fun e w' => e = .returned (.bool (Op.bytesLess K L)) ∧ Below w.heap.size w w' := by
  have h1 : Has ((w.alloc (.cells (bc K).toArray 25)).alloc (.cells (bc L).toArray 25)) w.heap.size K := (Has.new w K hK).alloc _
  have h2 : Has ((w.alloc (.cells (bc K).toArray 25)).alloc (.cells (bc L).toArray 25)) (w.heap.size + 1) L := by have := Has.new (w.alloc (.cells (bc K).toArray 25)) L hL; simpa using this
  have H1 : Hid (Has ((w.alloc (.cells (bc K).toArray 25)).alloc (.cells (bc L).toArray 25)) w.heap.size K) := h1
  have H2 : Hid (Has ((w.alloc (.cells (bc K).toArray 25)).alloc (.cells (bc L).toArray 25)) (w.heap.size + 1) L) := h2
  clear h1 h2
  go_enter Tryz.func68, Tryz.ntmps68
  go_wp2
  go_quiet (first | (go_at_call 53; exact Calls.quiet_of_same (compare_calls _ w.heap.size (w.heap.size + 1) K L (by exact ⟨hK, H1.out.blk⟩) (by exact ⟨hL, H2.out.blk⟩) 24 24)))
  go_wp2
  go_ret
  refine ⟨?_, below_drewN (below_made (below_made (Below.refl _ w) (Nat.le_refl _) _) (Nat.le_refl _) _) _⟩
  show Ending.returned (Value.bool (decide (Lib.compareBytes K L < 0))) = _
  rw [compare_less]

/-- A span's cells, its value; a span in block b. -/
def sc (F T : List UInt8) (e : Bool) : List Value := bc F ++ bc T ++ [Value.bool e]
abbrev sv (F T : List UInt8) (e : Bool) : Value := .agg (sc F T e).toArray
structure HasS (w : World) (b : Nat) (F T : List UInt8) (e : Bool) : Prop where
  f : F.length = 24
  t : T.length = 24
  blk : w.heap[b]? = some (.cells (sc F T e).toArray 27 (0, 0))
theorem Tryz.span_info : (Tryz.prog.info? 27).map (·.size) = some 49 := by kernel_rfl
theorem sv_size (F T : List UInt8) (e : Bool) (hF : F.length = 24) (hT : T.length = 24) : (sc F T e).toArray.size = 49 := by simp [sc, bc_length, hF, hT]
theorem sv_all (F T : List UInt8) (e : Bool) : (sc F T e).toArray.all (·.oneCell') = true := all_oneCell_toArray (by
  intro v hv
  simp only [sc, List.mem_append, List.mem_singleton] at hv
  rcases hv with (h | h) | rfl
  · exact bc_one F v h
  · exact bc_one T v h
  · rfl)
theorem HasS.lt {w : World} {b : Nat} {F T : List UInt8} {e : Bool} (h : HasS w b F T e) : b < w.heap.size := lt_of_block h.blk
theorem HasS.alloc {w : World} {b : Nat} {F T : List UInt8} {e : Bool} (h : HasS w b F T e) (o : Obj) : HasS (w.alloc o) b F T e := ⟨h.f, h.t, by rw [Below.heap_alloc _ _ _ h.lt]; exact h.blk⟩
theorem HasS.below {B : Nat} {w w' : World} {b : Nat} {F T : List UInt8} {e : Bool} (h : HasS w b F T e) (hb : Below B w w') (hB : b < B) : HasS w' b F T e := ⟨h.f, h.t, (hb.block b hB).trans h.blk⟩
theorem HasS.touch {w w' : World} {b p : Nat} {F T : List UInt8} {e : Bool} (h : HasS w b F T e) (ht : Touch p none w w') (hp : b ≠ p) : HasS w' b F T e := ⟨h.f, h.t, (ht.block b h.lt hp (by simp)).trans h.blk⟩
theorem HasS.new (w : World) (F T : List UInt8) (e : Bool) (hF : F.length = 24) (hT : T.length = 24) : HasS (w.alloc (.cells (sc F T e).toArray 27 (0, 0))) w.heap.size F T e := ⟨hF, hT, heap_alloc_new _ _⟩
theorem HasS.ofF {w : World} {b : Nat} {F T : List UInt8} {e : Bool} (h : HasS w b F T e) : w.rangeAt b 0 (bc F) := fun j v hv => by
  rw [cell_of_row w b _ _ _ _ h.blk]
  have hj : j < (bc F).length := (List.getElem?_eq_some_iff.1 hv).1
  simp only [sc, List.getElem?_toArray, Nat.zero_add, List.append_assoc]
  rw [List.getElem?_append_left hj, hv]
theorem HasS.ofT {w : World} {b : Nat} {F T : List UInt8} {e : Bool} (h : HasS w b F T e) : w.rangeAt b 24 (bc T) := fun j v hv => by
  rw [cell_of_row w b _ _ _ _ h.blk]
  have hj : j < (bc T).length := (List.getElem?_eq_some_iff.1 hv).1
  have hF : (bc F).length = 24 := by rw [bc_length, h.f]
  simp only [sc, List.getElem?_toArray, List.append_assoc]
  rw [List.getElem?_append_right (by omega), hF, Nat.add_sub_cancel_left, List.getElem?_append_left hj, hv]
theorem HasS.ofE {w : World} {b : Nat} {F T : List UInt8} {e : Bool} (h : HasS w b F T e) : w.cell? ⟨b, 48, none⟩ = some (.bool e) := by
  rw [cell_of_row w b _ _ _ _ h.blk]
  have hF : (bc F).length = 24 := by rw [bc_length, h.f]
  have hT : (bc T).length = 24 := by rw [bc_length, h.t]
  simp only [sc, List.getElem?_toArray, List.append_assoc]
  rw [List.getElem?_append_right (by omega), List.getElem?_append_right (by omega), hF, hT]
  rfl
section
variable {ops : Array Oper} {rest : List Oper} {o : Oper} {a : Act} {w : World} {Q : Exit → Act → World → Prop}
theorem store_span (hgd : o.guard = none) (x y : Operand) (ho : o.op = .store 27 x y) (b : Nat) (hx : a.eval x = .pointer (some ⟨b, 0, none⟩)) (F T : List UInt8) (e : Bool) (hy : a.eval y = sv F T e) (hF : F.length = 24) (hT : T.length = 24) (F' T' : List UInt8) (e' : Bool) (hK : HasS w b F' T' e')
    (h : ∀ w', HasS w' b F T e → Touch b none w w' → w'.heap.size = w.heap.size → wpList Tryz.prog ops Q rest (a.put o.dst undef) w') : wpList Tryz.prog ops Q (o :: rest) a w :=
  wpList_store_row hgd _ x y ho b _ hx hy _ _ hK.blk (by rw [sv_size _ _ _ hF hT]; exact Tryz.span_info) (by rw [sv_size _ _ _ hF hT, sv_size _ _ _ hK.f hK.t]) (sv_all _ _ _) (h _ ⟨hF, hT, setRow_heap w b _ _ _ _ hK.blk⟩ (touch_setRow _ _ _) (by simp))
end
theorem ret_span {fn : Func} {R : Ending → World → Prop} {a : Act} {w : World} {p : Tmp} (hr : fn.results = #[.cell p 27]) (b : Nat) (F T : List UInt8) (e : Bool) (hp : a.tmps.getD p undef = .pointer (some ⟨b, 0, none⟩)) (hK : HasS w b F T e)
    (hd : a.defers = []) (hR : R (.returned (sv F T e)) w) : bodyPost Tryz.prog fn R .ret a w :=
  bodyPost_ret (results_cell_row hr _ w b _ _ _ _ hp hK.blk Tryz.underlying27 rfl (by rw [sv_size _ _ _ hK.f hK.t]; exact Tryz.span_info)) hd hR

/-- Is a key in a span? -/
def inS (F T : List UInt8) (e : Bool) (K : List UInt8) : Bool := !Op.bytesLess K F && (e || Op.bytesLess K T)

set_option maxHeartbeats 1000000 in
theorem within_calls (w : World) (F T : List UInt8) (e : Bool) (K : List UInt8) (hF : F.length = 24) (hT : T.length = 24) (hK : K.length = 24) :
    Calls Tryz.prog 58 #[sv F T e, kv K] w fun x w' => x = .returned (.bool (inS F T e K)) ∧ Below w.heap.size w w' := by
  have h1 : HasS ((w.alloc (.cells (sc F T e).toArray 27)).alloc (.cells (bc K).toArray 25)) w.heap.size F T e := (HasS.new w F T e hF hT).alloc _
  have h2 : Has ((w.alloc (.cells (sc F T e).toArray 27)).alloc (.cells (bc K).toArray 25)) (w.heap.size + 1) K := by have := Has.new (w.alloc (.cells (sc F T e).toArray 27)) K hK; simpa using this
  have hin : inS F T e K = (!Op.bytesLess K F && (e || Op.bytesLess K T)) := rfl
  have HIN : Hid (inS F T e K = (!Op.bytesLess K F && (e || Op.bytesLess K T))) := hin
  clear hin
  cases hlf : Op.bytesLess K F with
  | true =>
    go_enter Tryz.func58, Tryz.ntmps58
    go_wp2_with (first
      | (refine load_key _ rfl _ rfl rfl _ h2 ?_)
      | (refine load_part _ rfl _ _ rfl rfl _ hF h1.ofF ?_)
      | (go_at_call 68; refine (tless_calls _ _ _ hK hF).mono ?_; rintro x w1 ⟨rfl, b1⟩; rw [hlf]))
    go_ret
    exact ⟨by rw [HIN.out, hlf]; rfl, below_called (below_made (below_made (Below.refl _ w) (Nat.le_refl _) _) (Nat.le_refl _) _) b1 (Nat.le_refl _)⟩
  | false =>
    cases e with
    | true =>
      go_enter Tryz.func58, Tryz.ntmps58
      go_wp2_with (first
        | (refine load_key _ rfl _ rfl rfl _ h2 ?_)
        | (refine load_part _ rfl _ _ rfl rfl _ hF h1.ofF ?_)
        | (go_at_call 68; refine (tless_calls _ _ _ hK hF).mono ?_; rintro x w1 ⟨rfl, b1⟩; rw [hlf]; have cE := (h1.below b1 (by simp; omega)).ofE))
      go_ret
      exact ⟨by rw [HIN.out, hlf]; rfl, below_called (below_made (below_made (Below.refl _ w) (Nat.le_refl _) _) (Nat.le_refl _) _) b1 (Nat.le_refl _)⟩
    | false =>
      go_enter Tryz.func58, Tryz.ntmps58
      go_wp2_with (first
        | (refine load_key _ rfl _ rfl rfl _ h4 ?_)
        | (refine load_part _ rfl _ _ rfl rfl _ hT h3.ofT ?_)
        | (refine load_key _ rfl _ rfl rfl _ h2 ?_)
        | (refine load_part _ rfl _ _ rfl rfl _ hF h1.ofF ?_)
        | (go_at_call 68; have _q := h3; refine (tless_calls _ _ _ hK hT).mono ?_; rintro x w2 ⟨rfl, b2⟩)
        | (go_at_call 68; refine (tless_calls _ _ _ hK hF).mono ?_; rintro x w1 ⟨rfl, b1⟩; rw [hlf]; have h3 := h1.below b1 (by simp; omega); have h4 := h2.below b1 (by simp); have cE := h3.ofE))
      go_ret
      exact ⟨by rw [HIN.out, hlf]; simp, below_called (below_called (below_made (below_made (Below.refl _ w) (Nat.le_refl _) _) (Nat.le_refl _) _) b1 (Nat.le_refl _)) b2 (Nat.le_refl _)⟩
theorem Tryz.span_built (parts : List (Nat × Value)) : Tryz.prog.built 27 parts = Instr.fill (#[(0, 24), (24, 24), (48, 1)][·]?) (sc (zs 24) (zs 24) false).toArray parts := by
  have h1 : (Tryz.prog.info? 27).map (·.zero) = some (some (.agg (sc (zs 24) (zs 24) false).toArray)) := by kernel_rfl
  have h2 : (Tryz.prog.underlying 27).map (fun d => match d with | .struct fs => fs.toList.mapM (fun f => (Tryz.prog.info? f.type).map fun i => (f.offset, i.size)) | _ => none) = some (some [(0, 24), (24, 24), (48, 1)]) := by kernel_rfl
  unfold Program.built
  cases hi : Tryz.prog.info? 27 with
  | none => rw [hi] at h1; cases h1
  | some i =>
    rw [hi] at h1
    have hz : i.zero = some (.agg (sc (zs 24) (zs 24) false).toArray) := by simpa using h1
    cases hu : Tryz.prog.underlying 27 with
    | none => rw [hu] at h2; cases h2
    | some d =>
      rw [hu] at h2
      cases d with
      | struct fs =>
        have hp : fs.toList.mapM (fun f => (Tryz.prog.info? f.type).map fun i => (f.offset, i.size)) = some [(0, 24), (24, 24), (48, 1)] := by simpa using h2
        simp only [hz, hp]
        rfl
      | _ => simp at h2
theorem sc_F (F F' T : List UInt8) (e : Bool) (hF : F.length = 24) (hF' : F'.length = 24) : ((sc F T e).toArray.toList.take 0 ++ (kv F').cells.toList ++ (sc F T e).toArray.toList.drop (0 + 24)).toArray = (sc F' T e).toArray := by
  have h : (bc F).length = 24 := by rw [bc_length, hF]
  simp only [sc, Value.cells, List.take_zero, List.nil_append, Nat.zero_add, List.append_assoc]
  rw [List.drop_append_of_le_length (by omega), List.drop_of_length_le (by omega)]
  rfl
theorem sc_T (F T T' : List UInt8) (e : Bool) (hF : F.length = 24) (hT : T.length = 24) : ((sc F T e).toArray.toList.take 24 ++ (kv T').cells.toList ++ (sc F T e).toArray.toList.drop (24 + 24)).toArray = (sc F T' e).toArray := by
  have h : (bc F).length = 24 := by rw [bc_length, hF]
  have h' : (bc T).length = 24 := by rw [bc_length, hT]
  simp only [sc, Value.cells, List.append_assoc]
  rw [List.take_append_of_le_length (by omega), List.take_of_length_le (by omega), List.drop_append, List.drop_of_length_le (by omega), h, List.drop_append_of_le_length (by omega), List.drop_of_length_le (by omega)]
  rfl
theorem sc_E (F T : List UInt8) (e e' : Bool) (hF : F.length = 24) (hT : T.length = 24) : ((sc F T e).toArray.toList.take 48 ++ (Value.bool e').cells.toList ++ (sc F T e).toArray.toList.drop (48 + 1)).toArray = (sc F T e').toArray := by
  have h : (bc F ++ bc T).length = 48 := by rw [List.length_append, bc_length, bc_length, hF, hT]
  simp only [sc, Value.cells]
  rw [List.take_append_of_le_length (by omega), List.take_of_length_le (by omega), List.drop_of_length_le (by simp [bc_length, hF, hT]), List.append_nil]
theorem built3 (F T : List UInt8) (e : Bool) (hF : F.length = 24) (hT : T.length = 24) : Tryz.prog.built 27 [(0, kv F), (1, kv T), (2, .bool e)] = some (sc F T e).toArray := by
  rw [Tryz.span_built, fill_put (off := 0) (size := 24) rfl (by simp [Value.cells, bc_length, hF]) (by simp [sc, bc_length, zs_length]), sc_F _ _ _ _ (zs_length _) hF,
    fill_put (off := 24) (size := 24) rfl (by simp [Value.cells, bc_length, hT]) (by simp [sc, bc_length, zs_length, hF]), sc_T _ _ _ _ hF (zs_length _),
    fill_put (off := 48) (size := 1) rfl rfl (by simp [sc, bc_length, hF, hT]), sc_E _ _ _ _ hF hT]
  rfl
theorem built2 (F T : List UInt8) (hF : F.length = 24) (hT : T.length = 24) : Tryz.prog.built 27 [(0, kv F), (1, kv T)] = some (sc F T false).toArray := by
  rw [Tryz.span_built, fill_put (off := 0) (size := 24) rfl (by simp [Value.cells, bc_length, hF]) (by simp [sc, bc_length, zs_length]), sc_F _ _ _ _ (zs_length _) hF,
    fill_put (off := 24) (size := 24) rfl (by simp [Value.cells, bc_length, hT]) (by simp [sc, bc_length, zs_length, hF]), sc_T _ _ _ _ hF (zs_length _)]
  rfl
theorem builtE (F : List UInt8) (e : Bool) (hF : F.length = 24) : Tryz.prog.built 27 [(0, kv F), (2, .bool e)] = some (sc F (zs 24) e).toArray := by
  rw [Tryz.span_built, fill_put (off := 0) (size := 24) rfl (by simp [Value.cells, bc_length, hF]) (by simp [sc, bc_length, zs_length]), sc_F _ _ _ _ (zs_length _) hF,
    fill_put (off := 48) (size := 1) rfl rfl (by simp [sc, bc_length, hF, zs_length]), sc_E _ _ _ _ hF (zs_length _)]
  rfl


/-- A row of cells, in whose midst some are stored. -/
theorem range_put {w : World} {b o : Nat} {vs cs : List Value} (hr : w.rangeAt b 0 cs) (ht : w.there b 0 cs.length) (ho : o + vs.length ≤ cs.length) : (w.setCells b o vs).rangeAt b 0 (cs.take o ++ (vs ++ cs.drop (o + vs.length))) := fun j v hv => by
  rw [Nat.zero_add]
  have one : ∀ u, cs[j]? = some u → (j < o ∨ o + vs.length ≤ j) → (w.setCells b o vs).cell? ⟨b, j, none⟩ = some u := fun u hu hj => by
    have h1 : w.rangeAt b j [u] := fun i x hx => by
      cases i with
      | zero =>
        simp at hx
        subst hx
        have := hr j u hu
        simpa using this
      | succ i => simp at hx
    have := World.rangeAt_setCells_apart h1 b o vs (.inr (by simp; omega)) 0 u rfl
    simpa using this
  have hm : (cs.take o).length = o := by simp; omega
  by_cases h1 : j < o
  · rw [List.getElem?_append_left (by omega), List.getElem?_take_of_lt h1] at hv
    exact one v hv (.inl h1)
  · by_cases h2 : j < o + vs.length
    · rw [List.getElem?_append_right (by omega), List.getElem?_append_left (by omega), hm] at hv
      have := World.rangeAt_setCells_same w b o vs (fun i hi => by have := ht (o + i) (by omega); simpa using this) (j - o) v hv
      rwa [show o + (j - o) = j by omega] at this
    · rw [List.getElem?_append_right (by omega), List.getElem?_append_right (by omega), List.getElem?_drop, hm] at hv
      exact one v (by rw [← hv]; congr 1; omega) (.inr (by omega))
/-- A span in block b, in which parts may be stored. -/
structure SpIn (w : World) (b : Nat) (F T : List UInt8) (e : Bool) : Prop where
  f : F.length = 24
  t : T.length = 24
  r : w.rangeAt b 0 (sc F T e)
  th : w.there b 0 49
  lt : b < w.heap.size
theorem sc_length (F T : List UInt8) (e : Bool) (hF : F.length = 24) (hT : T.length = 24) : (sc F T e).length = 49 := by simp [sc, bc_length, hF, hT]
section
variable {w w' : World} {b : Nat} {F T : List UInt8} {e : Bool}
theorem HasS.sp (h : HasS w b F T e) : SpIn w b F T e := by
  refine ⟨h.f, h.t, fun j v hv => ?_, fun j hj => ⟨?_, ?_⟩, h.lt⟩
  · rw [Nat.zero_add, cell_of_row w b _ _ _ _ h.blk]
    simpa using hv
  · rw [Nat.zero_add, cell_of_row w b _ _ _ _ h.blk]
    have := sc_length F T e h.f h.t
    simp [this, hj]
  · simp [World.frozen?, h.blk]
theorem SpIn.same (h : SpIn w b F T e) (q : w'.heap[b]? = w.heap[b]?) : SpIn w' b F T e := ⟨h.f, h.t, range_same h.r q, there_same h.th q, by
  have hb := h.lt
  have h8 : w'.heap[b]? = some w.heap[b] := q.trans (by simp [h.lt])
  exact (Array.getElem?_eq_some_iff.1 h8).1⟩
theorem SpIn.below {B : Nat} (h : SpIn w b F T e) (hb : Below B w w') (hB : b < B) : SpIn w' b F T e := h.same (hb.block b hB)
theorem SpIn.touch {p : Nat} (h : SpIn w b F T e) (ht : Touch p none w w') (hp : b ≠ p) : SpIn w' b F T e := h.same (ht.block b h.lt hp (by simp))
theorem SpIn.alloc (h : SpIn w b F T e) (o : Obj) : SpIn (w.alloc o) b F T e := h.same (Below.heap_alloc _ _ _ h.lt)
theorem SpIn.ofF (h : SpIn w b F T e) : w.rangeAt b 0 (bc F) := fun j v hv => by
  have hj := (List.getElem?_eq_some_iff.1 hv).1
  exact h.r j v (by rw [sc, List.append_assoc, List.getElem?_append_left hj]; exact hv)
theorem SpIn.ofT (h : SpIn w b F T e) : w.rangeAt b 24 (bc T) := fun j v hv => by
  have hj := (List.getElem?_eq_some_iff.1 hv).1
  have hF : (bc F).length = 24 := by rw [bc_length, h.f]
  have := h.r (24 + j) v (by rw [sc, List.append_assoc, List.getElem?_append_right (by omega), hF, show 24 + j - 24 = j by omega, List.getElem?_append_left hj]; exact hv)
  rwa [Nat.zero_add] at this
theorem SpIn.ofE (h : SpIn w b F T e) : w.cell? ⟨b, 48, none⟩ = some (.bool e) := by
  have hF : (bc F).length = 24 := by rw [bc_length, h.f]
  have hT : (bc T).length = 24 := by rw [bc_length, h.t]
  have := h.r 48 (.bool e) (by rw [sc, List.append_assoc, List.getElem?_append_right (by omega), List.getElem?_append_right (by omega), hF, hT]; rfl)
  rwa [Nat.zero_add] at this
theorem SpIn.freeE (h : SpIn w b F T e) : w.frozen? ⟨b, 48, none⟩ = false := by
  have := (h.th 48 (by omega)).2
  rwa [Nat.zero_add] at this
theorem SpIn.setF (h : SpIn w b F T e) (K : List UInt8) (hK : K.length = 24) : SpIn (w.setCells b 0 (bc K)) b K T e := by
  have hF : (bc F).length = 24 := by rw [bc_length, h.f]
  have hk : (bc K).length = 24 := by rw [bc_length, hK]
  have q := range_put (o := 0) (vs := bc K) h.r (by rw [sc_length F T e h.f h.t]; exact h.th) (by rw [sc_length F T e h.f h.t]; omega)
  refine ⟨hK, h.t, ?_, World.there_setCells h.th _ _ _, by rw [size_setCells]; exact h.lt⟩
  have e1 : (sc F T e).take 0 ++ (bc K ++ (sc F T e).drop (0 + (bc K).length)) = sc K T e := by
    rw [hk, sc, List.append_assoc, List.drop_append_of_le_length (by omega)]
    simp [sc, List.drop_eq_nil_of_le (by omega : (bc F).length ≤ 24)]
  rwa [e1] at q
theorem SpIn.setT (h : SpIn w b F T e) (K : List UInt8) (hK : K.length = 24) : SpIn (w.setCells b 24 (bc K)) b F K e := by
  have hF : (bc F).length = 24 := by rw [bc_length, h.f]
  have hT : (bc T).length = 24 := by rw [bc_length, h.t]
  have hk : (bc K).length = 24 := by rw [bc_length, hK]
  have q := range_put (o := 24) (vs := bc K) h.r (by rw [sc_length F T e h.f h.t]; exact h.th) (by rw [sc_length F T e h.f h.t]; omega)
  refine ⟨h.f, hK, ?_, World.there_setCells h.th _ _ _, by rw [size_setCells]; exact h.lt⟩
  have e1 : (sc F T e).take 24 ++ (bc K ++ (sc F T e).drop (24 + (bc K).length)) = sc F K e := by
    have t1 : (sc F T e).take 24 = bc F := by rw [sc, List.append_assoc, List.take_append_of_le_length (by omega), List.take_of_length_le (by omega)]
    have t2 : (sc F T e).drop 48 = [Value.bool e] := by
      rw [sc, List.drop_append_of_le_length (by rw [List.length_append]; omega), List.drop_eq_nil_of_le (by rw [List.length_append]; omega)]
      rfl
    rw [t1, hk, t2, sc]
    simp
  rwa [e1] at q
theorem SpIn.setE (h : SpIn w b F T e) (x : Bool) : SpIn (w.setCell ⟨b, 48, none⟩ (.bool x)) b F T x := by
  have hF : (bc F).length = 24 := by rw [bc_length, h.f]
  have hT : (bc T).length = 24 := by rw [bc_length, h.t]
  have q := range_put (o := 48) (vs := [Value.bool x]) h.r (by rw [sc_length F T e h.f h.t]; exact h.th) (by rw [sc_length F T e h.f h.t]; simp)
  have q2 := World.there_setCells h.th b 48 [Value.bool x]
  have e1 : (sc F T e).take 48 ++ ([Value.bool x] ++ (sc F T e).drop (48 + [Value.bool x].length)) = sc F T x := by
    rw [sc, List.take_append_of_le_length (by rw [List.length_append]; omega), List.take_of_length_le (by rw [List.length_append]; omega), List.drop_eq_nil_of_le (by simp; omega), sc]
    simp
  rw [e1] at q
  have e2 : w.setCells b 48 [Value.bool x] = w.setCell ⟨b, 48, none⟩ (.bool x) := by simp [World.setCells]
  rw [e2] at q q2
  exact ⟨h.f, h.t, q, q2, by simpa using h.lt⟩
end
section
variable {ops : Array Oper} {rest : List Oper} {o : Oper} {a : Act} {w : World} {Q : Exit → Act → World → Prop}
theorem load_span (x : Operand) (ho : o.op = .load 27 x) (b : Nat) (hx : a.eval x = .pointer (some ⟨b, 0, none⟩)) (hgd : Region.wanted o (yielded ops a.tmps) = true) (F T : List UInt8) (e : Bool) (hK : SpIn w b F T e)
    (h : wpList Tryz.prog ops Q rest (a.put o.dst (sv F T e)) w) : wpList Tryz.prog ops Q (o :: rest) a w :=
  BigFrame.wpList_want hgd fun _ hK' => wp_load_mid _ x ho b 0 hx _ _ hK.r Tryz.underlying27 rfl (by rw [sc_length _ _ _ hK.f hK.t]; exact Tryz.span_info) (hK' _ _ h)
theorem store_F (hgd : o.guard = none) (x y : Operand) (ho : o.op = .store 25 x y) (b : Nat) (hx : a.eval x = .pointer (some ⟨b, 0, none⟩)) (K : List UInt8) (hy : a.eval y = kv K) (hl : K.length = 24) (F T : List UInt8) (e : Bool) (hK : SpIn w b F T e)
    (h : ∀ w', SpIn w' b K T e → Touch b none w w' → w'.heap.size = w.heap.size → wpList Tryz.prog ops Q rest (a.put o.dst undef) w') : wpList Tryz.prog ops Q (o :: rest) a w :=
  wpList_store_mid hgd _ x y ho b 0 _ hx hy (fun j hj => by have := hK.th j (by simp [bc_length, hl] at hj; omega); exact this) (by rw [bc_size, hl]; exact Tryz.key_info) (bc_all K) (h _ (by simpa using hK.setF K hl) (touch_setCells _ _ _) (by simp [size_setCells]))
theorem store_T (hgd : o.guard = none) (x y : Operand) (ho : o.op = .store 25 x y) (b : Nat) (hx : a.eval x = .pointer (some ⟨b, 24, none⟩)) (K : List UInt8) (hy : a.eval y = kv K) (hl : K.length = 24) (F T : List UInt8) (e : Bool) (hK : SpIn w b F T e)
    (h : ∀ w', SpIn w' b F K e → Touch b none w w' → w'.heap.size = w.heap.size → wpList Tryz.prog ops Q rest (a.put o.dst undef) w') : wpList Tryz.prog ops Q (o :: rest) a w :=
  wpList_store_mid hgd _ x y ho b 24 _ hx hy (fun j hj => by have := hK.th (24 + j) (by simp [bc_length, hl] at hj; omega); rwa [Nat.zero_add] at this) (by rw [bc_size, hl]; exact Tryz.key_info) (bc_all K) (h _ (by simpa using hK.setT K hl) (touch_setCells _ _ _) (by simp [size_setCells]))
end
/-- Has a node with so many too few to be no root? -/
def shortB (p k : Int) : Bool := decide (p < 3) && decide (k < 9)
theorem short_both {p k : Int} (h1 : p < 3) (h2 : k < 9) : shortB p k = true := by simp [shortB, h1, h2]
theorem short_k {p k : Int} (h2 : ¬ k < 9) : shortB p k = false := by simp [shortB, h2]
theorem short_p {p k : Int} (h1 : ¬ p < 3) : shortB p k = false := by simp [shortB, h1]
set_option maxHeartbeats 1000000 in
theorem isShort_calls (w : World) (p k : Int) : Calls Tryz.prog 62 #[.int .i64 p, .int .i64 k] w fun e w' => e = .returned (.bool (shortB p k)) ∧ w' = w := by
  obtain ⟨r, hr⟩ : ∃ r, shortB p k = r := ⟨_, rfl⟩
  rw [hr]
  by_cases h1 : p < 3
  · by_cases h2 : k < 9
    · have HR : Hid (r = true) := (show _ = _ by rw [← hr]; exact short_both h1 h2)
      clear hr
      go_enter Tryz.func62, Tryz.ntmps62
      go_wp2
      go_ret
      exact ⟨by rw [HR.out]; rfl, rfl⟩
    · have HR : Hid (r = false) := (show _ = _ by rw [← hr]; exact short_k h2)
      clear hr
      go_enter Tryz.func62, Tryz.ntmps62
      go_wp2
      go_ret
      exact ⟨by rw [HR.out]; rfl, rfl⟩
  · have HR : Hid (r = false) := (show _ = _ by rw [← hr]; exact short_p h1)
    clear hr
    go_enter Tryz.func62, Tryz.ntmps62
    go_wp2
    go_ret
    exact ⟨by rw [HR.out]; rfl, rfl⟩
/-- Has a span no key? -/
def emptyS (F T : List UInt8) (e : Bool) : Bool := !e && !Op.bytesLess F T
set_option maxHeartbeats 1000000 in
theorem isEmpty_calls (w : World) (F T : List UInt8) (e : Bool) (hF : F.length = 24) (hT : T.length = 24) : Calls Tryz.prog 60 #[sv F T e] w fun x w' => x = .returned (.bool (emptyS F T e)) ∧ Below w.heap.size w w' := by
  have h1 : HasS (w.alloc (.cells (sc F T e).toArray 27)) w.heap.size F T e := HasS.new w F T e hF hT
  have cE := h1.ofE
  have HE : Hid (emptyS F T e = (!e && !Op.bytesLess F T)) := rfl
  cases e with
  | true =>
    go_enter Tryz.func60, Tryz.ntmps60
    go_wp2_with fail
    go_ret
    exact ⟨by rw [HE.out]; rfl, below_made (Below.refl _ w) (Nat.le_refl _) _⟩
  | false =>
    go_enter Tryz.func60, Tryz.ntmps60
    go_wp2_with (first
      | (refine load_part _ rfl _ 0 rfl rfl _ hF h1.ofF ?_)
      | (refine load_part _ rfl _ 24 rfl rfl _ hT h1.ofT ?_)
      | (go_at_call 68; refine (tless_calls _ _ _ hF hT).mono ?_; rintro x w1 ⟨rfl, b1⟩))
    go_ret
    exact ⟨by rw [HE.out]; rfl, below_called (below_made (Below.refl _ w) (Nat.le_refl _) _) b1 (Nat.le_refl _)⟩
end Go.Proofs.YtjhdnpplmlddaaaGreat
