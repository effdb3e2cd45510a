/- Nodes as plain data: how pairs and kids lie in memory; the calls on one of them. -/
import Derived.Test.YtggbnacpgkbieaaKeyA
import Derived.Laws.ResultCell
import Derived.Test.YtggbnacpgkbieaaPackRd
import Derived.Deep.LoopGhost
namespace Go.Proofs.Ytggbnacpgkbieaa
set_option linter.unusedVariables false
open Go.RowKit

/-- A pair, a kid, a node; and both of the first two as a key with one cell behind it. -/
structure Pr where
  k : List UInt8
  s : ByteArray
deriving DecidableEq
structure Kd where
  k : List UInt8
  n : Int
deriving DecidableEq
structure Nod where
  lv : Int
  ps : List Pr
  ks : List Kd
deriving DecidableEq
structure El where
  k : List UInt8
  v : Value
def Pr.el (p : Pr) : El := ⟨p.k, .string p.s⟩
def Kd.el (p : Kd) : El := ⟨p.k, .int .i64 p.n⟩
def ec (e : El) : List Value := bc e.k ++ [e.v]
abbrev ev (e : El) : Value := .agg (ec e).toArray
structure El.Ok (e : El) : Prop where
  len : e.k.length = 24
  one : e.v.oneCell' = true
theorem ec_length {e : El} (h : e.Ok) : (ec e).length = 25 := by simp [ec, bc_length, h.len]
theorem ec_size {e : El} (h : e.Ok) : (ec e).toArray.size = 25 := by simpa using ec_length h
theorem ec_one {e : El} (h : e.Ok) : ∀ u ∈ ec e, u.oneCell' = true := by
  intro u hu
  simp only [ec, List.mem_append, List.mem_singleton] at hu
  rcases hu with hu | rfl
  · exact bc_one _ u hu
  · exact h.one
theorem ec_all {e : El} (h : e.Ok) : (ec e).toArray.all (·.oneCell') = true := all_oneCell_toArray (ec_one h)
theorem wrap_succ {k N : Nat} (h : k < N) (hN : N ≤ maxLen) : wrap64 ((k : Int) + 1) = ((k + 1 : Nat) : Int) := by unfold maxLen at hN; unfold wrap64; omega
theorem meas_succ {k N : Nat} (h : k < N) (hN : N ≤ maxLen) : N - (intOf (Value.int .i64 (wrap64 ((k : Int) + 1)))).toNat < N - (intOf (Value.int .i64 (k : Int))).toNat := by
  rw [wrap_succ h hN]
  simp [intOf]
  omega
/-- A slice of them: they are l, and lie in the row r. -/
def ElsIn (w : World) (sv : Value) (l : List El) (r : Option Nat) : Prop :=
  ∃ ad cap, sv = .slice ad l.length cap ∧ l.length ≤ cap ∧ l.length ≤ maxLen ∧ (∀ i (hi : i < l.length), (l[i]).Ok) ∧ (l = [] ∨ ∃ g off, ad = some ⟨g, off, none⟩ ∧ r = some g ∧ g < w.heap.size ∧ ∀ i (hi : i < l.length), w.rangeAt g (off + i * 25) (ec l[i]))
theorem range_same {w w' : World} {g o : Nat} {cs : List Value} (h : w.rangeAt g o cs) (e : w'.heap[g]? = w.heap[g]?) : w'.rangeAt g o cs := fun j v hv => (World.cell?_of_block e).trans (h j v hv)
theorem ElsIn.kept {w w' : World} {sv : Value} {l : List El} {r : Option Nat} (h : ElsIn w sv l r) (hr : ∀ k, r = some k → w'.heap[k]? = w.heap[k]?) : ElsIn w' sv l r := by
  obtain ⟨ad, cap, h1, h2, h2', ho, h3⟩ := h
  refine ⟨ad, cap, h1, h2, h2', ho, ?_⟩
  rcases h3 with h3 | ⟨g, off, h4, h5, h6, h7⟩
  · exact .inl h3
  · have hb := hr g h5
    refine .inr ⟨g, off, h4, h5, ?_, fun i hi => range_same (h7 i hi) hb⟩
    have h8 : w'.heap[g]? = some w.heap[g] := hb.trans (by simp [h6])
    exact (Array.getElem?_eq_some_iff.1 h8).1
theorem ElsIn.below {w w' : World} {sv : Value} {l : List El} {r : Option Nat} (h : ElsIn w sv l r) {B : Nat} (hb : Below B w w') (hB : ∀ k, r = some k → k < B) : ElsIn w' sv l r := h.kept fun k hk => hb.block k (hB k hk)
theorem ElsIn.one {w : World} {sv : Value} {l : List El} {r : Option Nat} (h : ElsIn w sv l r) : sv.oneCell' = true := by
  obtain ⟨ad, cap, rfl, _⟩ := h
  rfl
theorem range_key {w : World} {g o : Nat} {e : El} (h : w.rangeAt g o (ec e)) : w.rangeAt g o (bc e.k) := fun j v hv => by
  refine h j v ?_
  rw [ec, List.getElem?_append_left (List.getElem?_eq_some_iff.1 hv).1]
  exact hv
theorem range_val {w : World} {g o : Nat} {e : El} (h : w.rangeAt g o (ec e)) (ho : e.Ok) : w.cell? ⟨g, o + 24, none⟩ = some e.v := by
  refine h 24 e.v ?_
  rw [ec, List.getElem?_append_right (by simp [bc_length, ho.len])]
  simp [bc_length, ho.len]
theorem ret_key {fn : Func} {R : Ending → World → Prop} {a : Act} {w : World} {p : Tmp} (hr : fn.results = #[.cell p 39]) (b : Nat) (K : List UInt8) (hp : a.tmps.getD p undef = .pointer (some ⟨b, 0, none⟩)) (hK : Has w b K)
    (hd : a.defers = []) (hR : R (.returned (kv K)) w) : bodyPost Try.prog fn R .ret a w :=
  bodyPost_ret (results_cell_row hr _ w b _ _ _ _ hp hK.blk Try.underlying39 rfl (by rw [bc_size, hK.len]; exact Try.key_info)) hd hR
theorem ret_key_ok {fn : Func} {R : Ending → World → Prop} {a : Act} {w : World} {p u : Tmp} (hr : fn.results = #[.cell p 39, .tmp u]) (b : Nat) (K : List UInt8) (v : Value) (hp : a.tmps.getD p undef = .pointer (some ⟨b, 0, none⟩)) (hv : a.tmps.getD u undef = v) (hK : Has w b K)
    (hd : a.defers = []) (hR : R (.returned (.tuple #[kv K, v])) w) : bodyPost Try.prog fn R .ret a w := by
  refine bodyPost_ret (v := .tuple #[kv K, v]) ?_ hd hR
  have hl := run_loadVar_row (P := Try.prog) w b 39 39 _ _ _ hK.blk Try.underlying39 rfl (by rw [bc_size, hK.len]; exact Try.key_info)
  rw [results_cell_tmp hr, hp, hv]
  simp [asAddr, Result.andThen, hl]
theorem zero_has (w : World) (b : Nat) (hb : b = w.heap.size) : Has (w.alloc (.cells #[.int .u8 0, .int .u8 0, .int .u8 0, .int .u8 0, .int .u8 0, .int .u8 0, .int .u8 0, .int .u8 0, .int .u8 0, .int .u8 0, .int .u8 0, .int .u8 0, .int .u8 0, .int .u8 0, .int .u8 0, .int .u8 0, .int .u8 0, .int .u8 0, .int .u8 0, .int .u8 0, .int .u8 0, .int .u8 0, .int .u8 0, .int .u8 0] 39)) b (zs 24) := hb ▸ Has.new w (zs 24) rfl
section
variable {ops : Array Oper} {rest : List Oper} {o : Oper} {a : Act} {w : World} {Q : Exit → Act → World → Prop}
theorem load_part (x : Operand) (ho : o.op = .load 39 x) (b i : Nat) (hx : a.eval x = .pointer (some ⟨b, i, none⟩)) (hgd : Region.wanted o (yielded ops a.tmps) = true) (K : List UInt8) (hl : K.length = 24) (hK : w.rangeAt b i (bc K))
    (h : wpList Try.prog ops Q rest (a.put o.dst (kv K)) w) : wpList Try.prog ops Q (o :: rest) a w :=
  BigFrame.wpList_want hgd fun _ hK' => wp_load_mid _ x ho b i hx _ _ hK Try.underlying39 rfl (by rw [bc_length, hl]; exact Try.key_info) (hK' _ _ h)
end

/-- A pair in block b. -/
structure HasP (w : World) (b : Nat) (e : El) : Prop where
  ok : e.Ok
  blk : w.heap[b]? = some (.cells (ec e).toArray 44 (0, 0))
theorem Try.info_P : (Try.prog.info? 44).map (·.size) = some 25 := by kernel_rfl
theorem HasP.lt {w : World} {b : Nat} {e : El} (h : HasP w b e) : b < w.heap.size := lt_of_block h.blk
theorem HasP.same {w w' : World} {b : Nat} {e : El} (h : HasP w b e) (q : w'.heap[b]? = w.heap[b]?) : HasP w' b e := ⟨h.ok, q.trans h.blk⟩
theorem HasP.below {B : Nat} {w w' : World} {b : Nat} {e : El} (h : HasP w b e) (hb : Below B w w') (hB : b < B) : HasP w' b e := h.same (hb.block b hB)
theorem HasP.touch {w w' : World} {b p : Nat} {e : El} (h : HasP w b e) (ht : Touch p none w w') (hp : b ≠ p) : HasP w' b e := h.same (ht.block b h.lt hp (by simp))
theorem HasP.alloc {w : World} {b : Nat} {e : El} (h : HasP w b e) (o : Obj) : HasP (w.alloc o) b e := h.same (Below.heap_alloc _ _ _ h.lt)
theorem HasP.new (w : World) (e : El) (b : Nat) (hb : b = w.heap.size) (h : e.Ok) : HasP (w.alloc (.cells (ec e).toArray 44)) b e := by
  subst hb
  exact ⟨h, heap_alloc_new _ _⟩
theorem HasP.range {w : World} {b : Nat} {e : El} (h : HasP w b e) : w.rangeAt b 0 (ec e) := fun j v hv => by
  rw [Nat.zero_add, cell_of_row w b _ _ _ _ h.blk]
  simpa using hv
theorem HasP.val {w : World} {b : Nat} {e : El} (h : HasP w b e) : w.cell? ⟨b, 24, none⟩ = some e.v := by
  have := range_val h.range h.ok
  simpa using this
def nilP : El := ⟨zs 24, .string ByteArray.empty⟩
theorem nilP_ok : nilP.Ok := ⟨rfl, rfl⟩
theorem zero_P (w : World) (b : Nat) (hb : b = w.heap.size) : HasP (w.alloc (.cells #[.int .u8 0, .int .u8 0, .int .u8 0, .int .u8 0, .int .u8 0, .int .u8 0, .int .u8 0, .int .u8 0, .int .u8 0, .int .u8 0, .int .u8 0, .int .u8 0, .int .u8 0, .int .u8 0, .int .u8 0, .int .u8 0, .int .u8 0, .int .u8 0, .int .u8 0, .int .u8 0, .int .u8 0, .int .u8 0, .int .u8 0, .int .u8 0, .string ByteArray.empty] 44)) b nilP := hb ▸ ⟨nilP_ok, heap_alloc_new _ _⟩
section
variable {ops : Array Oper} {rest : List Oper} {o : Oper} {a : Act} {w : World} {Q : Exit → Act → World → Prop}
theorem load_P (x : Operand) (ho : o.op = .load 44 x) (b i : Nat) (hx : a.eval x = .pointer (some ⟨b, i, none⟩)) (hgd : Region.wanted o (yielded ops a.tmps) = true) (e : El) (hok : e.Ok) (hK : w.rangeAt b i (ec e))
    (h : wpList Try.prog ops Q rest (a.put o.dst (ev e)) w) : wpList Try.prog ops Q (o :: rest) a w :=
  BigFrame.wpList_want hgd fun _ hK' => wp_load_mid _ x ho b i hx _ _ hK Try.underlying44 rfl (by rw [ec_length hok]; exact Try.info_P) (hK' _ _ h)
theorem store_P (hgd : o.guard = none) (x y : Operand) (ho : o.op = .store 44 x y) (b : Nat) (hx : a.eval x = .pointer (some ⟨b, 0, none⟩)) (L : El) (hy : a.eval y = ev L) (hL : L.Ok) (K : El) (hK : HasP w b K)
    (h : ∀ w', HasP w' b L → Touch b none w w' → w'.heap.size = w.heap.size → wpList Try.prog ops Q rest (a.put o.dst undef) w') : wpList Try.prog ops Q (o :: rest) a w :=
  wpList_store_row hgd _ x y ho b _ hx hy _ _ hK.blk (by rw [ec_size hL]; exact Try.info_P) (by rw [ec_size hL, ec_size hK.ok]) (ec_all hL) (h _ ⟨hL, setRow_heap w b _ _ _ _ hK.blk⟩ (touch_setRow _ _ _) (by simp))
end
theorem ret_P {fn : Func} {R : Ending → World → Prop} {a : Act} {w : World} {p : Tmp} (hr : fn.results = #[.cell p 44]) (b : Nat) (e : El) (hp : a.tmps.getD p undef = .pointer (some ⟨b, 0, none⟩)) (hK : HasP w b e)
    (hd : a.defers = []) (hR : R (.returned (ev e)) w) : bodyPost Try.prog fn R .ret a w :=
  bodyPost_ret (results_cell_row hr _ w b _ _ _ _ hp hK.blk Try.underlying44 rfl (by rw [ec_size hK.ok]; exact Try.info_P)) hd hR
set_option maxHeartbeats 1000000 in
theorem keyP_calls (w : World) (e : El) (h : e.Ok) : Calls Try.prog 20 #[ev e] w fun x w' => x = .returned (kv e.k) ∧ Below w.heap.size w w' := by
  have h1 : HasP (w.alloc (.cells (ec e).toArray 44)) w.heap.size e := HasP.new w e _ rfl h
  have HR : Hid (∀ o, ((w.alloc (.cells (ec e).toArray 44)).alloc o).rangeAt w.heap.size 0 (bc e.k)) := fun o => range_key (h1.alloc o).range
  clear h1
  go_enter Try.func20, Try.ntmps20
  go_wp2_with (first
    | (refine load_part _ rfl w.heap.size 0 rfl rfl _ h.len (HR.out _) ?_)
    | (refine store_key rfl _ _ rfl (w.heap.size + 1) rfl e.k rfl h.len (zs 24) (zero_has _ _ (by simp)) ?_; intro w2 h2 t2 s2))
  refine ret_key rfl _ _ rfl h2 rfl ⟨rfl, ?_⟩
  exact below_touched (below_made (below_made (Below.refl _ w) (Nat.le_refl _) _) (Nat.le_refl _) _) t2 (by omega) (Nat.le_refl _)

/-- A kid in block b. -/
structure HasK (w : World) (b : Nat) (e : El) : Prop where
  ok : e.Ok
  blk : w.heap[b]? = some (.cells (ec e).toArray 54 (0, 0))
theorem Try.info_K : (Try.prog.info? 54).map (·.size) = some 25 := by kernel_rfl
theorem HasK.lt {w : World} {b : Nat} {e : El} (h : HasK w b e) : b < w.heap.size := lt_of_block h.blk
theorem HasK.same {w w' : World} {b : Nat} {e : El} (h : HasK w b e) (q : w'.heap[b]? = w.heap[b]?) : HasK w' b e := ⟨h.ok, q.trans h.blk⟩
theorem HasK.below {B : Nat} {w w' : World} {b : Nat} {e : El} (h : HasK w b e) (hb : Below B w w') (hB : b < B) : HasK w' b e := h.same (hb.block b hB)
theorem HasK.touch {w w' : World} {b p : Nat} {e : El} (h : HasK w b e) (ht : Touch p none w w') (hp : b ≠ p) : HasK w' b e := h.same (ht.block b h.lt hp (by simp))
theorem HasK.alloc {w : World} {b : Nat} {e : El} (h : HasK w b e) (o : Obj) : HasK (w.alloc o) b e := h.same (Below.heap_alloc _ _ _ h.lt)
theorem HasK.new (w : World) (e : El) (b : Nat) (hb : b = w.heap.size) (h : e.Ok) : HasK (w.alloc (.cells (ec e).toArray 54)) b e := by
  subst hb
  exact ⟨h, heap_alloc_new _ _⟩
theorem HasK.range {w : World} {b : Nat} {e : El} (h : HasK w b e) : w.rangeAt b 0 (ec e) := fun j v hv => by
  rw [Nat.zero_add, cell_of_row w b _ _ _ _ h.blk]
  simpa using hv
theorem HasK.val {w : World} {b : Nat} {e : El} (h : HasK w b e) : w.cell? ⟨b, 24, none⟩ = some e.v := by
  have := range_val h.range h.ok
  simpa using this
def nilK : El := ⟨zs 24, .int .i64 0⟩
theorem nilK_ok : nilK.Ok := ⟨rfl, rfl⟩
theorem zero_K (w : World) (b : Nat) (hb : b = w.heap.size) : HasK (w.alloc (.cells #[.int .u8 0, .int .u8 0, .int .u8 0, .int .u8 0, .int .u8 0, .int .u8 0, .int .u8 0, .int .u8 0, .int .u8 0, .int .u8 0, .int .u8 0, .int .u8 0, .int .u8 0, .int .u8 0, .int .u8 0, .int .u8 0, .int .u8 0, .int .u8 0, .int .u8 0, .int .u8 0, .int .u8 0, .int .u8 0, .int .u8 0, .int .u8 0, .int .i64 0] 54)) b nilK := hb ▸ ⟨nilK_ok, heap_alloc_new _ _⟩
section
variable {ops : Array Oper} {rest : List Oper} {o : Oper} {a : Act} {w : World} {Q : Exit → Act → World → Prop}
theorem load_K (x : Operand) (ho : o.op = .load 54 x) (b i : Nat) (hx : a.eval x = .pointer (some ⟨b, i, none⟩)) (hgd : Region.wanted o (yielded ops a.tmps) = true) (e : El) (hok : e.Ok) (hK : w.rangeAt b i (ec e))
    (h : wpList Try.prog ops Q rest (a.put o.dst (ev e)) w) : wpList Try.prog ops Q (o :: rest) a w :=
  BigFrame.wpList_want hgd fun _ hK' => wp_load_mid _ x ho b i hx _ _ hK Try.underlying54 rfl (by rw [ec_length hok]; exact Try.info_K) (hK' _ _ h)
theorem store_K (hgd : o.guard = none) (x y : Operand) (ho : o.op = .store 54 x y) (b : Nat) (hx : a.eval x = .pointer (some ⟨b, 0, none⟩)) (L : El) (hy : a.eval y = ev L) (hL : L.Ok) (K : El) (hK : HasK w b K)
    (h : ∀ w', HasK w' b L → Touch b none w w' → w'.heap.size = w.heap.size → wpList Try.prog ops Q rest (a.put o.dst undef) w') : wpList Try.prog ops Q (o :: rest) a w :=
  wpList_store_row hgd _ x y ho b _ hx hy _ _ hK.blk (by rw [ec_size hL]; exact Try.info_K) (by rw [ec_size hL, ec_size hK.ok]) (ec_all hL) (h _ ⟨hL, setRow_heap w b _ _ _ _ hK.blk⟩ (touch_setRow _ _ _) (by simp))
end
theorem ret_K {fn : Func} {R : Ending → World → Prop} {a : Act} {w : World} {p : Tmp} (hr : fn.results = #[.cell p 54]) (b : Nat) (e : El) (hp : a.tmps.getD p undef = .pointer (some ⟨b, 0, none⟩)) (hK : HasK w b e)
    (hd : a.defers = []) (hR : R (.returned (ev e)) w) : bodyPost Try.prog fn R .ret a w :=
  bodyPost_ret (results_cell_row hr _ w b _ _ _ _ hp hK.blk Try.underlying54 rfl (by rw [ec_size hK.ok]; exact Try.info_K)) hd hR
set_option maxHeartbeats 1000000 in
theorem keyK_calls (w : World) (e : El) (h : e.Ok) : Calls Try.prog 24 #[ev e] w fun x w' => x = .returned (kv e.k) ∧ Below w.heap.size w w' := by
  have h1 : HasK (w.alloc (.cells (ec e).toArray 54)) w.heap.size e := HasK.new w e _ rfl h
  have HR : Hid (∀ o, ((w.alloc (.cells (ec e).toArray 54)).alloc o).rangeAt w.heap.size 0 (bc e.k)) := fun o => range_key (h1.alloc o).range
  clear h1
  go_enter Try.func24, Try.ntmps24
  go_wp2_with (first
    | (refine load_part _ rfl w.heap.size 0 rfl rfl _ h.len (HR.out _) ?_)
    | (refine store_key rfl _ _ rfl (w.heap.size + 1) rfl e.k rfl h.len (zs 24) (zero_has _ _ (by simp)) ?_; intro w2 h2 t2 s2))
  refine ret_key rfl _ _ rfl h2 rfl ⟨rfl, ?_⟩
  exact below_touched (below_made (below_made (Below.refl _ w) (Nat.le_refl _) _) (Nat.le_refl _) _) t2 (by omega) (Nat.le_refl _)
end Go.Proofs.Ytggbnacpgkbieaa
