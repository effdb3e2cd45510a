import Derived.Test.YtbbelhkdpmcoeaaGreatB05
import Derived.Test.YtbbelhkdpmcoeaaGreatB01
/- Keys held against one another, spans. -/
namespace Go.Proofs.YtbbelhkdpmcoeaaGreat
set_option linter.unusedVariables false
set_option maxRecDepth 100000
open Go.RowKit

theorem bytes_num (K : List UInt8) : Lib.bytesOf (K.map fun b => (b.toNat : Int)) = K := by
  unfold Lib.bytesOf
  rw [List.map_map]
  conv => rhs; rw [← List.map_id K]
  apply List.map_congr_left
  intro b _
  simp
theorem run_bytesOf_key (w : World) (b : Nat) (K : List UInt8) (h : Has w b K) (cap : Nat) : (Extern.Bytes.bytesOf (.slice (some ⟨b, 0, none⟩) 24 cap)).run Tryz.prog w = .ok (str K) w := by
  have hl := Lib.run_loadBytesX (P := Tryz.prog) w (K.map fun b => (b.toNat : Int)) ⟨b, 0, none⟩ .empty (fun j x hj => by
    have e : (⟨b, 0, none⟩ : Addr).add j = ⟨b, j, none⟩ := by unfold Addr.add; split <;> simp_all
    rw [e, cell_of_row w b j _ _ _ h.blk]
    simp only [bc, List.getElem?_toArray, List.getElem?_map, Option.map_eq_some_iff] at hj ⊢
    obtain ⟨a, ha, rfl⟩ := hj
    exact ⟨a, ha, rfl⟩)
  rw [List.length_map, h.len, bytes_num] at hl
  have e : (⟨ByteArray.empty.data ++ K.toArray⟩ : ByteArray) = str K := by
    apply ByteArray.ext
    show (#[] : Array UInt8) ++ K.toArray = K.toArray
    simp
  rw [e] at hl
  exact hl
theorem run_compare_keys (w : World) (b c : Nat) (K L : List UInt8) (h : Has w b K) (h' : Has w c L) (cap cap' : Nat) :
    (Extern.BytealgCompare.compare #[.slice (some ⟨b, 0, none⟩) 24 cap, .slice (some ⟨c, 0, none⟩) 24 cap']).run Tryz.prog w = .ok (.int .i64 (Lib.compareBytes K L)) w := by
  change Sem.run Tryz.prog (do pure (goInt (Extern.BytealgCompare.cmp (← Extern.Bytes.bytesOf (.slice (some ⟨b, 0, none⟩) 24 cap)) (← Extern.Bytes.bytesOf (.slice (some ⟨c, 0, none⟩) 24 cap'))))) w = _
  simp only [Sem.run_bind, run_bytesOf_key w b K h, run_bytesOf_key w c L h', Result.andThen_ok, Sem.run_pure]
  rw [Lib.cmp_eq, str_list, str_list]
  rfl
set_option maxHeartbeats 1000000 in
theorem compare_calls (w : World) (b c : Nat) (K L : List UInt8) (h : Has w b K) (h' : Has w c L) (cap cap' : Nat) :
    Calls Tryz.prog 90 #[.slice (some ⟨b, 0, none⟩) 24 cap, .slice (some ⟨c, 0, none⟩) 24 cap'] w fun e w' => e = .returned (.int .i64 (Lib.compareBytes K L)) ∧ w' = w := by
  have H : Hid (Has w b K) := h
  have H' : Hid (Has w c L) := h'
  clear h h'
  go_enter Tryz.func90, Tryz.ntmps90
  go_wp2
  rw [run_callFunc_extern Tryz.func101 (by kernel_rfl) (by kernel_rfl) (by kernel_rfl) (e := Extern.BytealgCompare.compare) (by kernel_rfl), run_compare_keys w b c K L H.out H'.out]
  simp only [Result.andThen]
  rw [Oper.upon_value]
  go_wp2
  go_ret
  exact ⟨rfl, rfl⟩

theorem compare_less : ∀ (K L : List UInt8), decide (Lib.compareBytes K L < 0) = Op.bytesLess K L
  | [], [] => rfl
  | [], _ :: _ => rfl
  | _ :: _, [] => rfl
  | a :: xs, b :: ys => by
    have ih := compare_less xs ys
    rw [Lib.compareBytes, Op.bytesLess]
    by_cases h1 : a < b
    · simp [h1]
    · by_cases h2 : b < a
      · have : ¬ a = b := fun e => by subst e; exact h1 h2
        simp [h1, h2, this]
      · have : a = b := by
          apply UInt8.toNat_inj.1
          simp only [UInt8.lt_iff_toNat_lt] at h1 h2
          omega
        subst this
        simp [ih]

set_option maxHeartbeats 1000000 in
theorem less_calls (w : World) (K L : List UInt8) (hK : K.length = 24) (hL : L.length = 24) :
    Calls Tryz.prog 86 #[kv K, kv L] w fun e w' => e = .returned (.bool (Op.bytesLess K L)) ∧ Below w.heap.size w w' := by
  have h1 : Has ((w.alloc (.cells (bc K).toArray 29)).alloc (.cells (bc L).toArray 29)) w.heap.size K := (Has.new w K hK).alloc _
  have h2 : Has ((w.alloc (.cells (bc K).toArray 29)).alloc (.cells (bc L).toArray 29)) (w.heap.size + 1) L := by have := Has.new (w.alloc (.cells (bc K).toArray 29)) L hL; simpa using this
  have H1 : Hid (Has ((w.alloc (.cells (bc K).toArray 29)).alloc (.cells (bc L).toArray 29)) w.heap.size K) := h1
  have H2 : Hid (Has ((w.alloc (.cells (bc K).toArray 29)).alloc (.cells (bc L).toArray 29)) (w.heap.size + 1) L) := h2
  clear h1 h2
  go_enter Tryz.func86, Tryz.ntmps86
  go_wp2
  go_quiet (first | (go_at_call 90; exact Calls.quiet_of_same (compare_calls _ w.heap.size (w.heap.size + 1) K L (by exact ⟨hK, H1.out.blk⟩) (by exact ⟨hL, H2.out.blk⟩) 24 24)))
  go_wp2
  go_ret
  refine ⟨?_, below_drewN (below_made (below_made (Below.refl _ w) (Nat.le_refl _) _) (Nat.le_refl _) _) _⟩
  show Ending.returned (Value.bool (decide (Lib.compareBytes K L < 0))) = _
  rw [compare_less]

/-- A span's cells, its value; a span in block b. -/
def sc (F T : List UInt8) (e : Bool) : List Value := bc F ++ bc T ++ [Value.bool e]
abbrev sv (F T : List UInt8) (e : Bool) : Value := .agg (sc F T e).toArray
structure HasS (w : World) (b : Nat) (F T : List UInt8) (e : Bool) : Prop where
  f : F.length = 24
  t : T.length = 24
  blk : w.heap[b]? = some (.cells (sc F T e).toArray 44 (0, 0))
theorem Tryz.span_info : (Tryz.prog.info? 44).map (·.size) = some 49 := by kernel_rfl
theorem sv_size (F T : List UInt8) (e : Bool) (hF : F.length = 24) (hT : T.length = 24) : (sc F T e).toArray.size = 49 := by simp [sc, bc_length, hF, hT]
theorem sv_all (F T : List UInt8) (e : Bool) : (sc F T e).toArray.all (·.oneCell') = true := all_oneCell_toArray (by
  intro v hv
  simp only [sc, List.mem_append, List.mem_singleton] at hv
  rcases hv with (h | h) | rfl
  · exact bc_one F v h
  · exact bc_one T v h
  · rfl)
theorem HasS.lt {w : World} {b : Nat} {F T : List UInt8} {e : Bool} (h : HasS w b F T e) : b < w.heap.size := lt_of_block h.blk
theorem HasS.alloc {w : World} {b : Nat} {F T : List UInt8} {e : Bool} (h : HasS w b F T e) (o : Obj) : HasS (w.alloc o) b F T e := ⟨h.f, h.t, by rw [Below.heap_alloc _ _ _ h.lt]; exact h.blk⟩
theorem HasS.below {B : Nat} {w w' : World} {b : Nat} {F T : List UInt8} {e : Bool} (h : HasS w b F T e) (hb : Below B w w') (hB : b < B) : HasS w' b F T e := ⟨h.f, h.t, (hb.block b hB).trans h.blk⟩
theorem HasS.touch {w w' : World} {b p : Nat} {F T : List UInt8} {e : Bool} (h : HasS w b F T e) (ht : Touch p none w w') (hp : b ≠ p) : HasS w' b F T e := ⟨h.f, h.t, (ht.block b h.lt hp (by simp)).trans h.blk⟩
theorem HasS.new (w : World) (F T : List UInt8) (e : Bool) (hF : F.length = 24) (hT : T.length = 24) : HasS (w.alloc (.cells (sc F T e).toArray 44 (0, 0))) w.heap.size F T e := ⟨hF, hT, heap_alloc_new _ _⟩
theorem HasS.ofF {w : World} {b : Nat} {F T : List UInt8} {e : Bool} (h : HasS w b F T e) : w.rangeAt b 0 (bc F) := fun j v hv => by
  rw [cell_of_row w b _ _ _ _ h.blk]
  have hj : j < (bc F).length := (List.getElem?_eq_some_iff.1 hv).1
  simp only [sc, List.getElem?_toArray, Nat.zero_add, List.append_assoc]
  rw [List.getElem?_append_left hj, hv]
theorem HasS.ofT {w : World} {b : Nat} {F T : List UInt8} {e : Bool} (h : HasS w b F T e) : w.rangeAt b 24 (bc T) := fun j v hv => by
  rw [cell_of_row w b _ _ _ _ h.blk]
  have hj : j < (bc T).length := (List.getElem?_eq_some_iff.1 hv).1
  have hF : (bc F).length = 24 := by rw [bc_length, h.f]
  simp only [sc, List.getElem?_toArray, List.append_assoc]
  rw [List.getElem?_append_right (by omega), hF, Nat.add_sub_cancel_left, List.getElem?_append_left hj, hv]
theorem HasS.ofE {w : World} {b : Nat} {F T : List UInt8} {e : Bool} (h : HasS w b F T e) : w.cell? ⟨b, 48, none⟩ = some (.bool e) := by
  rw [cell_of_row w b _ _ _ _ h.blk]
  have hF : (bc F).length = 24 := by rw [bc_length, h.f]
  have hT : (bc T).length = 24 := by rw [bc_length, h.t]
  simp only [sc, List.getElem?_toArray, List.append_assoc]
  rw [List.getElem?_append_right (by omega), List.getElem?_append_right (by omega), hF, hT]
  rfl
section
variable {ops : Array Oper} {rest : List Oper} {o : Oper} {a : Act} {w : World} {Q : Exit → Act → World → Prop}
theorem load_part (x : Operand) (ho : o.op = .load 29 x) (b i : Nat) (hx : a.eval x = .pointer (some ⟨b, i, none⟩)) (hgd : Region.wanted o (yielded ops a.tmps) = true) (K : List UInt8) (hl : K.length = 24) (hK : w.rangeAt b i (bc K))
    (h : wpList Tryz.prog ops Q rest (a.put o.dst (kv K)) w) : wpList Tryz.prog ops Q (o :: rest) a w :=
  BigFrame.wpList_want hgd fun _ hK' => wp_load_mid _ x ho b i hx _ _ hK Tryz.underlying29 rfl (by rw [bc_length, hl]; exact Tryz.key_info) (hK' _ _ h)
theorem store_span (hgd : o.guard = none) (x y : Operand) (ho : o.op = .store 44 x y) (b : Nat) (hx : a.eval x = .pointer (some ⟨b, 0, none⟩)) (F T : List UInt8) (e : Bool) (hy : a.eval y = sv F T e) (hF : F.length = 24) (hT : T.length = 24) (F' T' : List UInt8) (e' : Bool) (hK : HasS w b F' T' e')
    (h : ∀ w', HasS w' b F T e → Touch b none w w' → w'.heap.size = w.heap.size → wpList Tryz.prog ops Q rest (a.put o.dst undef) w') : wpList Tryz.prog ops Q (o :: rest) a w :=
  wpList_store_row hgd _ x y ho b _ hx hy _ _ hK.blk (by rw [sv_size _ _ _ hF hT]; exact Tryz.span_info) (by rw [sv_size _ _ _ hF hT, sv_size _ _ _ hK.f hK.t]) (sv_all _ _ _) (h _ ⟨hF, hT, setRow_heap w b _ _ _ _ hK.blk⟩ (touch_setRow _ _ _) (by simp))
end
theorem ret_span {fn : Func} {R : Ending → World → Prop} {a : Act} {w : World} {p : Tmp} (hr : fn.results = #[.cell p 44]) (b : Nat) (F T : List UInt8) (e : Bool) (hp : a.tmps.getD p undef = .pointer (some ⟨b, 0, none⟩)) (hK : HasS w b F T e)
    (hd : a.defers = []) (hR : R (.returned (sv F T e)) w) : bodyPost Tryz.prog fn R .ret a w :=
  bodyPost_ret (results_cell_row hr _ w b _ _ _ _ hp hK.blk Tryz.underlying44 rfl (by rw [sv_size _ _ _ hK.f hK.t]; exact Tryz.span_info)) hd hR

/-- Is a key in a span? -/
def inS (F T : List UInt8) (e : Bool) (K : List UInt8) : Bool := !Op.bytesLess K F && (e || Op.bytesLess K T)

set_option maxHeartbeats 1000000 in
theorem in_calls (w : World) (F T : List UInt8) (e : Bool) (K : List UInt8) (hF : F.length = 24) (hT : T.length = 24) (hK : K.length = 24) :
    Calls Tryz.prog 64 #[sv F T e, kv K] w fun x w' => x = .returned (.bool (inS F T e K)) ∧ Below w.heap.size w w' := by
  have h1 : HasS ((w.alloc (.cells (sc F T e).toArray 44)).alloc (.cells (bc K).toArray 29)) w.heap.size F T e := (HasS.new w F T e hF hT).alloc _
  have h2 : Has ((w.alloc (.cells (sc F T e).toArray 44)).alloc (.cells (bc K).toArray 29)) (w.heap.size + 1) K := by have := Has.new (w.alloc (.cells (sc F T e).toArray 44)) K hK; simpa using this
  have hin : inS F T e K = (!Op.bytesLess K F && (e || Op.bytesLess K T)) := rfl
  have HIN : Hid (inS F T e K = (!Op.bytesLess K F && (e || Op.bytesLess K T))) := hin
  clear hin
  cases hlf : Op.bytesLess K F with
  | true =>
    go_enter Tryz.func64, Tryz.ntmps64
    go_wp2_with (first
      | (refine load_key _ rfl _ rfl rfl _ h2 ?_)
      | (refine load_part _ rfl _ _ rfl rfl _ hF h1.ofF ?_)
      | (go_at_call 86; refine (less_calls _ _ _ hK hF).mono ?_; rintro x w1 ⟨rfl, b1⟩; rw [hlf]))
    go_ret
    exact ⟨by rw [HIN.out, hlf]; rfl, below_called (below_made (below_made (Below.refl _ w) (Nat.le_refl _) _) (Nat.le_refl _) _) b1 (Nat.le_refl _)⟩
  | false =>
    cases e with
    | true =>
      go_enter Tryz.func64, Tryz.ntmps64
      go_wp2_with (first
        | (refine load_key _ rfl _ rfl rfl _ h2 ?_)
        | (refine load_part _ rfl _ _ rfl rfl _ hF h1.ofF ?_)
        | (go_at_call 86; refine (less_calls _ _ _ hK hF).mono ?_; rintro x w1 ⟨rfl, b1⟩; rw [hlf]; have cE := (h1.below b1 (by simp; omega)).ofE))
      go_ret
      exact ⟨by rw [HIN.out, hlf]; rfl, below_called (below_made (below_made (Below.refl _ w) (Nat.le_refl _) _) (Nat.le_refl _) _) b1 (Nat.le_refl _)⟩
    | false =>
      go_enter Tryz.func64, Tryz.ntmps64
      go_wp2_with (first
        | (refine load_key _ rfl _ rfl rfl _ h4 ?_)
        | (refine load_part _ rfl _ _ rfl rfl _ hT h3.ofT ?_)
        | (refine load_key _ rfl _ rfl rfl _ h2 ?_)
        | (refine load_part _ rfl _ _ rfl rfl _ hF h1.ofF ?_)
        | (go_at_call 86; have _q := h3; refine (less_calls _ _ _ hK hT).mono ?_; rintro x w2 ⟨rfl, b2⟩)
        | (go_at_call 86; refine (less_calls _ _ _ hK hF).mono ?_; rintro x w1 ⟨rfl, b1⟩; rw [hlf]; have h3 := h1.below b1 (by simp; omega); have h4 := h2.below b1 (by simp); have cE := h3.ofE))
      go_ret
      exact ⟨by rw [HIN.out, hlf]; simp, below_called (below_called (below_made (below_made (Below.refl _ w) (Nat.le_refl _) _) (Nat.le_refl _) _) b1 (Nat.le_refl _)) b2 (Nat.le_refl _)⟩
end Go.Proofs.YtbbelhkdpmcoeaaGreat
/- bytes.Compare on keys, as KeyC has it. -/
namespace Go.Proofs.YtbbelhkdpmcoeaaGreat
set_option linter.unusedVariables false
set_option maxRecDepth 100000
end Go.Proofs.YtbbelhkdpmcoeaaGreat
/- The keys of a map, in order: maps.Keys, slices.SortedFunc. -/
namespace Go.Proofs.YtbbelhkdpmcoeaaGreat
set_option linter.unusedVariables false
set_option maxRecDepth 100000
open Go.RowKit

/-- A pair, a change, as they lie. -/
def pcd (p : Pa) : List Value := bc p.k ++ [.string (str p.v)]
def ccd (c : Ch) : List Value := bc c.k ++ [.string (str c.v), .bool c.g]
def encP : Enc Pa 25 := ⟨pcd, fun p => by simp [pcd, bc_length, p.h], fun p v hv => by
  simp only [pcd, List.mem_append, List.mem_singleton] at hv
  rcases hv with h | rfl
  · exact bc_one _ v h
  · rfl⟩
def encC : Enc Ch 26 := ⟨ccd, fun p => by simp [ccd, bc_length, p.h], fun p v hv => by
  simp only [ccd, List.mem_append, List.mem_cons, List.not_mem_nil, or_false] at hv
  rcases hv with h | rfl | rfl
  · exact bc_one _ v h
  · rfl
  · rfl⟩
def pa0 : Pa := ⟨zs 24, rfl, []⟩
def ch0 : Ch := ⟨zs 24, rfl, [], false⟩
theorem rowP : RowTy Tryz.prog encP 22 31 40 := ⟨Tryz.underlying22, ⟨.agg (pcd pa0).toArray, by kernel_rfl, by simp [Value.cells, pcd, bc_length, pa0, zs_length]⟩, by decide⟩
theorem rowC : RowTy Tryz.prog encC 37 52 48 := ⟨Tryz.underlying37, ⟨.agg (ccd ch0).toArray, by kernel_rfl, by simp [Value.cells, ccd, bc_length, ch0, zs_length]⟩, by decide⟩
theorem elP : ElTy Tryz.prog encP 31 := ⟨⟨_, Tryz.underlying31, rfl, rfl⟩, by kernel_rfl⟩
theorem elC : ElTy Tryz.prog encC 52 := ⟨⟨_, Tryz.underlying52, rfl, rfl⟩, by kernel_rfl⟩
theorem elK : ElTy Tryz.prog encKz 29 := ⟨⟨_, Tryz.underlying29, rfl, rfl⟩, Tryz.key_info⟩
theorem tyP : MapTy encP 103 31 pa0 := ⟨Tryz.underlying103, fun w => by kernel_rfl⟩
theorem tyC : MapTy encC 68 52 ch0 := ⟨Tryz.underlying68, fun w => by kernel_rfl⟩

/-- Just the keys of L, each once. -/
def KeysL {α : Type} (key : α → Int) (L : List α) (ss : List Kz) : Prop := ss.Nodup ∧ ∀ K, K ∈ ss ↔ (look key L K.n).isSome = true
theorem RangeA.walks {α : Type} {k : Nat} {E : Enc α k} {key : α → Int} {w w' : World} {b r n : Nat} {L : List α} {todo : Kz → Bool} {cnt : Nat} (h : RangeA E key w b r n L todo cnt) (hk : KeepsWalks w w') : RangeA E key w' b r n L todo cnt := by
  obtain ⟨⟨D, left, h1, h2⟩, h3, h4⟩ := h
  exact ⟨⟨D, left, h1.of_walks hk, h2⟩, h3, h4⟩
theorem RangeA.walk {α : Type} {k : Nat} {E : Enc α k} {key : α → Int} {w : World} {b r n : Nat} {L : List α} {todo : Kz → Bool} {cnt : Nat} (h : RangeA E key w b r n L todo cnt) : ∃ o : Obj, w.heap[r]? = some o ∧ o.isWalk = true := by
  obtain ⟨⟨D, left, h1, h2⟩, h3, h4⟩ := h
  exact h1.iter_walk
/-- Where the loop over a map stands. -/
structure Got {α : Type} (key : α → Int) (L : List α) (todo : Kz → Bool) (ss : List Kz) : Prop where
  nodup : ss.Nodup
  mem : ∀ K, K ∈ ss ↔ (look key L K.n).isSome = true ∧ todo K = false
theorem Got.start {α : Type} (key : α → Int) (L : List α) : Got key L (fun K => (look key L K.n).isSome) [] := ⟨List.nodup_nil, fun K => by cases (look key L K.n).isSome <;> simp⟩
theorem Got.step {α : Type} {key : α → Int} {L : List α} {todo : Kz → Bool} {ss : List Kz} (h : Got key L todo ss) {K : Kz} (hK : todo K = true) {x : α} (hx : look key L K.n = some x) : Got key L (without todo K) (ss ++ [K]) := by
  refine ⟨List.nodup_append.2 ⟨h.nodup, by simp, fun a ha b hb => ?_⟩, fun J => ?_⟩
  · rw [List.mem_singleton] at hb
    subst hb
    intro e
    subst e
    have := ((h.mem a).1 ha).2
    rw [hK] at this
    cases this
  · rw [List.mem_append, List.mem_singleton, h.mem]
    unfold without
    by_cases e : J = K
    · subst e
      simp [hx]
    · simp [e, kz_ne e]
theorem Got.done {α : Type} {key : α → Int} {L : List α} {todo : Kz → Bool} {ss : List Kz} (h : Got key L todo ss) (ht : ∀ K, todo K = false) : KeysL key L ss := ⟨h.nodup, fun K => by rw [h.mem, ht]; simp⟩
set_option maxRecDepth 100000 in
set_option maxHeartbeats 2000000 in
theorem keys1P_in (n : Nat) (l Bm b nn : Nat) (L : List Pa) (J : List Kz → World → Prop)
    (hY : ∀ pre (x : Kz) W, J pre W → pre.length < nn → YieldAt Fence.wide (n - 1) Tryz.prog l #[kv x.k] W fun e W' => e = .returned (.bool true) ∧ J (pre ++ [x]) W' ∧ KeepsWalks W W')
    (W : World) (hJ : AbidesFrom W.heap.size J) (hm : W.cell? ⟨Bm, 0, none⟩ = some (.map (some b))) (hown : MapA encP Pa.n W b nn L) (h0 : J [] W) :
    CallsIn Fence.wide n Tryz.prog 89 #[.func (.yield l) #[] #[], .pointer (some ⟨Bm, 0, none⟩)] W fun e W' => (∃ v, e = .returned v) ∧ ∃ ss : List Kz, KeysL Pa.n L ss ∧ J ss W' := by
  refine callsIn_of_wp Tryz.func89 rfl trivial ?_ rfl
  simp only [Tryz.ntmps89, List.size_toArray, List.length_cons, List.length_nil, Nat.reduceAdd, Nat.reduceSub, Array.replicate_succ, Array.replicate_zero, List.push_toArray, List.append_toArray, List.nil_append, List.cons_append]
  gi_wp2_with (first
    | (gi_at_range; refine rangeIn_a tyP rfl _ rfl b nn L rfl hown ?_; intro w0 cnt0 hrg0 hc0 hg0 hs0)
    | gi_in)
  go_frame
  gi_loopw [3] (fun _ wr => ∃ (todo : Kz → Bool) (cnt : Nat) (ss : List Kz), RangeA encP Pa.n wr b W.heap.size nn L todo cnt ∧ ss.length + cnt ≤ nn ∧ Got Pa.n L todo ss ∧ J ss wr)
    (fun _ wr => wr.rangeLeft b W.heap.size)
  case atStart =>
    exact ⟨_, cnt0, [], hrg0, by simpa using hc0, Got.start _ _, hJ [] W w0 none h0 hg0 (fun r e => by cases e)⟩
  case round =>
    obtain ⟨todo, cnt, ss, hrg, hcs, hC, hJs⟩ := hrel
    have HWT : Hid (W.heap.size ≤ W.heap.size ∧ W.heap.size < wr.heap.size) := ⟨Nat.le_refl _, hrg.lt⟩
    gi_wp2_with (first
      | (gi_at_next; refine nextIn_a rfl _ rfl b W.heap.size nn L todo cnt rfl hrg ?_ ?_)
      | gi_in)
    · intro hl0
      gi_wp2
      go_end0
      exact ⟨⟨_, rfl⟩, ss, hC.done hl0, hJs⟩
    · intro K x w2 cnt2 hK hx hrg2 hlt hg2 hs2 hen
      have hJ2 : J ss w2 := hJ ss wr w2 (some W.heap.size) hJs hg2 (fun r e => by cases e; exact ⟨Nat.le_refl _, hrg.walk⟩)
      have HR2 : Hid (RangeA encP Pa.n w2 b W.heap.size nn L (without todo K) cnt2) := hrg2
      have HJ2 : Hid (J ss w2) := hJ2
      clear hs2 hrg2 hJ2 hg2
      gi_wp2_with (first
        | (refine storeIn_key rfl _ _ rfl w2.heap.size rfl K.k rfl K.h (zs 24) (Has.new w2 (zs 24) rfl) ?_
           intro w3 hw3 t3 s3
           have B3 : Below w2.heap.size w2 w3 := ((Below.refl _ w2).alloc (Nat.le_refl _) _).trans (t3.below (by simp) (Nat.le_refl _) (by simp))
           have hJ3 : J ss w3 := hJ ss w2 w3 none HJ2.out ⟨B3.os, B3.tape, B3.output, B3.size, fun i hi _ => B3.block i hi⟩ (fun r e => by cases e)
           have hrg3 := HR2.out.below B3 (Nat.le_refl _)
           obtain ⟨fn, tmps, assign, body, hy, hR⟩ := hY ss K w3 hJ3 (by omega)
           clear B3 t3 s3 hen)
        | (refine loadIn_key rfl _ rfl w2.heap.size rfl K.k hw3 ?_)
        | gi_in)
      refine ⟨(fun h => by cases h), hR.mono ?_⟩
      rintro e W3 ⟨rfl, hJ4, hk4⟩
      gi_wp2
      have hrg4 := hrg3.walks hk4
      go_roundw
      case rel => exact ⟨_, cnt2, ss ++ [K], hrg4, by simp; omega, hC.step hK hx, hJ4⟩
      case measure => rw [hrg4.left_eq, hrg.left_eq]; exact hlt
theorem keysP_gives (n : Nat) (Bm b nn : Nat) (L : List Pa) (w : World) (hBm : Bm < w.heap.size) (hm : w.cell? ⟨Bm, 0, none⟩ = some (.map (some b))) (hown : MapA encP Pa.n w b nn L) :
    SeqGives Fence.wide n Tryz.prog 89 #[.pointer (some ⟨Bm, 0, none⟩)] (fun K : Kz => kv K.k) (KeysL Pa.n L) nn w := fun l J W hW hJ hY h0 =>
  keys1P_in n l Bm b nn L J hY W hJ ((hW.cell (p := ⟨Bm, 0, none⟩) hBm).trans hm) (hown.below hW (Nat.le_refl _)) h0
set_option maxHeartbeats 1000000 in
theorem keysP_calls (mb : Option Nat) (w : World) :
    Calls Tryz.prog 68 #[.map mb] w fun e w' => e = .returned (.func (.func 89) #[] #[.pointer (some ⟨w.heap.size, 0, none⟩)]) ∧ w' = w.alloc (.cells #[.map mb] 103) := by
  go_enter Tryz.func68, Tryz.ntmps68
  go_wp2
  go_ret
  exact ⟨rfl, rfl⟩
set_option maxRecDepth 100000 in
set_option maxHeartbeats 2000000 in
theorem keys1C_in (n : Nat) (l Bm b nn : Nat) (L : List Ch) (J : List Kz → World → Prop)
    (hY : ∀ pre (x : Kz) W, J pre W → pre.length < nn → YieldAt Fence.wide (n - 1) Tryz.prog l #[kv x.k] W fun e W' => e = .returned (.bool true) ∧ J (pre ++ [x]) W' ∧ KeepsWalks W W')
    (W : World) (hJ : AbidesFrom W.heap.size J) (hm : W.cell? ⟨Bm, 0, none⟩ = some (.map (some b))) (hown : MapA encC Ch.n W b nn L) (h0 : J [] W) :
    CallsIn Fence.wide n Tryz.prog 98 #[.func (.yield l) #[] #[], .pointer (some ⟨Bm, 0, none⟩)] W fun e W' => (∃ v, e = .returned v) ∧ ∃ ss : List Kz, KeysL Ch.n L ss ∧ J ss W' := by
  refine callsIn_of_wp Tryz.func98 rfl trivial ?_ rfl
  simp only [Tryz.ntmps98, List.size_toArray, List.length_cons, List.length_nil, Nat.reduceAdd, Nat.reduceSub, Array.replicate_succ, Array.replicate_zero, List.push_toArray, List.append_toArray, List.nil_append, List.cons_append]
  gi_wp2_with (first
    | (gi_at_range; refine rangeIn_a tyC rfl _ rfl b nn L rfl hown ?_; intro w0 cnt0 hrg0 hc0 hg0 hs0)
    | gi_in)
  go_frame
  gi_loopw [3] (fun _ wr => ∃ (todo : Kz → Bool) (cnt : Nat) (ss : List Kz), RangeA encC Ch.n wr b W.heap.size nn L todo cnt ∧ ss.length + cnt ≤ nn ∧ Got Ch.n L todo ss ∧ J ss wr)
    (fun _ wr => wr.rangeLeft b W.heap.size)
  case atStart =>
    exact ⟨_, cnt0, [], hrg0, by simpa using hc0, Got.start _ _, hJ [] W w0 none h0 hg0 (fun r e => by cases e)⟩
  case round =>
    obtain ⟨todo, cnt, ss, hrg, hcs, hC, hJs⟩ := hrel
    have HWT : Hid (W.heap.size ≤ W.heap.size ∧ W.heap.size < wr.heap.size) := ⟨Nat.le_refl _, hrg.lt⟩
    gi_wp2_with (first
      | (gi_at_next; refine nextIn_a rfl _ rfl b W.heap.size nn L todo cnt rfl hrg ?_ ?_)
      | gi_in)
    · intro hl0
      gi_wp2
      go_end0
      exact ⟨⟨_, rfl⟩, ss, hC.done hl0, hJs⟩
    · intro K x w2 cnt2 hK hx hrg2 hlt hg2 hs2 hen
      have hJ2 : J ss w2 := hJ ss wr w2 (some W.heap.size) hJs hg2 (fun r e => by cases e; exact ⟨Nat.le_refl _, hrg.walk⟩)
      have HR2 : Hid (RangeA encC Ch.n w2 b W.heap.size nn L (without todo K) cnt2) := hrg2
      have HJ2 : Hid (J ss w2) := hJ2
      clear hs2 hrg2 hJ2 hg2
      gi_wp2_with (first
        | (refine storeIn_key rfl _ _ rfl w2.heap.size rfl K.k rfl K.h (zs 24) (Has.new w2 (zs 24) rfl) ?_
           intro w3 hw3 t3 s3
           have B3 : Below w2.heap.size w2 w3 := ((Below.refl _ w2).alloc (Nat.le_refl _) _).trans (t3.below (by simp) (Nat.le_refl _) (by simp))
           have hJ3 : J ss w3 := hJ ss w2 w3 none HJ2.out ⟨B3.os, B3.tape, B3.output, B3.size, fun i hi _ => B3.block i hi⟩ (fun r e => by cases e)
           have hrg3 := HR2.out.below B3 (Nat.le_refl _)
           obtain ⟨fn, tmps, assign, body, hy, hR⟩ := hY ss K w3 hJ3 (by omega)
           clear B3 t3 s3 hen)
        | (refine loadIn_key rfl _ rfl w2.heap.size rfl K.k hw3 ?_)
        | gi_in)
      refine ⟨(fun h => by cases h), hR.mono ?_⟩
      rintro e W3 ⟨rfl, hJ4, hk4⟩
      gi_wp2
      have hrg4 := hrg3.walks hk4
      go_roundw
      case rel => exact ⟨_, cnt2, ss ++ [K], hrg4, by simp; omega, hC.step hK hx, hJ4⟩
      case measure => rw [hrg4.left_eq, hrg.left_eq]; exact hlt
theorem keysC_gives (n : Nat) (Bm b nn : Nat) (L : List Ch) (w : World) (hBm : Bm < w.heap.size) (hm : w.cell? ⟨Bm, 0, none⟩ = some (.map (some b))) (hown : MapA encC Ch.n w b nn L) :
    SeqGives Fence.wide n Tryz.prog 98 #[.pointer (some ⟨Bm, 0, none⟩)] (fun K : Kz => kv K.k) (KeysL Ch.n L) nn w := fun l J W hW hJ hY h0 =>
  keys1C_in n l Bm b nn L J hY W hJ ((hW.cell (p := ⟨Bm, 0, none⟩) hBm).trans hm) (hown.below hW (Nat.le_refl _)) h0
set_option maxHeartbeats 1000000 in
theorem keysC_calls (mb : Option Nat) (w : World) :
    Calls Tryz.prog 85 #[.map mb] w fun e w' => e = .returned (.func (.func 98) #[] #[.pointer (some ⟨w.heap.size, 0, none⟩)]) ∧ w' = w.alloc (.cells #[.map mb] 68) := by
  go_enter Tryz.func85, Tryz.ntmps85
  go_wp2
  go_ret
  exact ⟨rfl, rfl⟩
end Go.Proofs.YtbbelhkdpmcoeaaGreat
/- Pairs that came in (as DlJ, without its own layer). -/
namespace Go.Proofs.YtbbelhkdpmcoeaaGreat
set_option linter.unusedVariables false
set_option maxRecDepth 100000
open Go.ChangeShapes Go.WideShapes Go.ChangeAt Go.RowKit

theorem str_data2 (s : ByteArray) : str s.data.toList = s := by
  cases s
  simp [str]
/-! Lists that came in. -/
theorem open_pairs {H : Type} {enc : TypeId × Value → H} {W : World} {base : Nat} {held : Bool} {a : Option Addr} {len cap : Nat} {d : DataW H} {p : List MemPlace}
    (h : DataW.Trod enc Tryz.prog W base (fun _ => true) held 22 (.slice a len cap) d p) : ∃ l : List Pa, Sl encP W (.slice a len cap) l := by
  refine open_els encP 22 31 Tryz.underlying22 (by kernel_rfl) (by decide) (fun fuel z cs hf hl => ?_) h
  obtain ⟨xs, n', _, _, _, hlen, hf'⟩ := DataW.trod_struct Tryz.underlying31 hf
  match xs, hlen with
  | [y0, y1], _ =>
    have k24 : Tryz.prog.cellsOf 29 = 24 := by kernel_rfl
    have k1 : Tryz.prog.cellsOf 9 = 1 := by kernel_rfl
    have f0 := hf' 0 _ rfl
    have f1 := hf' 1 _ rfl
    simp at f0 f1
    rw [k24] at f0
    rw [k1] at f1
    obtain ⟨K, lK, eK⟩ := trod_key f0
    obtain ⟨s, es, _, _⟩ := DataW.trod_string Tryz.underlying9 f1
    refine ⟨⟨K, lK, s.data.toList⟩, ?_⟩
    show cs = bc K ++ [.string (str s.data.toList)]
    rw [str_data2, ← eK, ← es, List.take_of_length_le (l := cs.drop 24) (by simp; omega), List.take_append_drop]
end Go.Proofs.YtbbelhkdpmcoeaaGreat
