import Derived.Test.YtjhdnpplmlddaaaGreatB01
import Derived.Laws.AppendOwnNone
import Derived.Laws.BitsAllLaws
import Derived.Laws.BytesArg
import Derived.Laws.ResultCell
import Derived.Deep.LoopGhost
/- What each call on a pack.Writer comes to, in one word a call: the state of a writer as plain data. -/
namespace Go.Proofs.YtjhdnpplmlddaaaGreat
set_option linter.unusedVariables false
open Go.RowKit

/-- A writer as plain data: room, bytes, wrong. -/
structure WS where
  m : Int
  l : List UInt8
  bad : Bool
def WS.fail (s : WS) : WS := ⟨s.m, [], true⟩
def WS.put (s : WS) (x : List UInt8) : WS := if s.bad = true then s else if (s.l.length : Int) + x.length ≤ s.m then ⟨s.m, s.l ++ x, false⟩ else s.fail
def WS.byte (s : WS) (v : Int) : WS := if v < 0 ∨ 256 ≤ v then s.fail else s.put (be v.toNat 1)
def WS.word (s : WS) (v : Int) : WS := if v < 0 ∨ 4294967296 ≤ v then s.fail else s.put (be v.toNat 4)
def WS.long (s : WS) (v : Nat) : WS := s.put (be v 8)
def WS.text (s : WS) (t : ByteArray) : WS := (s.byte t.size).put t.data.toList
def WS.fill (s : WS) (n : Int) : WS := if n < s.l.length then s.fail else s.put (List.replicate (n - s.l.length).toNat 0)

end Go.Proofs.YtjhdnpplmlddaaaGreat
/- pack.New and Writer.Done: what they come to. -/
namespace Go.Proofs.YtjhdnpplmlddaaaGreat
set_option linter.unusedVariables false
open Go.RowKit

end Go.Proofs.YtjhdnpplmlddaaaGreat
/- What each call on a pack.Reader comes to: the state of a reader as plain data. -/
namespace Go.Proofs.YtjhdnpplmlddaaaGreat
set_option linter.unusedVariables false
open Go.RowKit

/-- A reader as plain data: the bytes that are left, wrong. -/
structure RS where
  l : List UInt8
  bad : Bool

/-- A slice of bytes: they are L, and lie in the row r. -/
def BytesIn (w : World) (sv : Value) (L : List UInt8) (r : Option Nat) : Prop :=
  ∃ ad cap, sv = .slice ad L.length cap ∧ L.length ≤ cap ∧
    ((ad = none ∧ L = [] ∧ cap = 0) ∨ ∃ g off, ad = some ⟨g, off, none⟩ ∧ r = some g ∧ g < w.heap.size ∧ ∀ j u, (bc L)[j]? = some u → w.cell? ⟨g, off + j, none⟩ = some u)
theorem BytesIn.kept {w w' : World} {sv : Value} {L : List UInt8} {r : Option Nat} (h : BytesIn w sv L r) (hr : ∀ k, r = some k → w'.heap[k]? = w.heap[k]?) : BytesIn w' sv L r := by
  obtain ⟨ad, cap, h1, h2, h3⟩ := h
  refine ⟨ad, cap, h1, h2, ?_⟩
  rcases h3 with h3 | ⟨g, off, h4, h5, h6, h7⟩
  · exact .inl h3
  · have hb := hr g h5
    refine .inr ⟨g, off, h4, h5, ?_, fun j u hu => (World.cell?_of_block (w := w) hb).trans (h7 j u hu)⟩
    have h8 : w'.heap[g]? = some w.heap[g] := hb.trans (by simp [h6])
    exact (Array.getElem?_eq_some_iff.1 h8).1
def RS.got (s : RS) (n : Int) : List UInt8 := if s.bad = true ∨ n < 0 ∨ (s.l.length : Int) < n then [] else s.l.take n.toNat
def RS.take (s : RS) (n : Int) : RS := if s.bad = true ∨ n < 0 ∨ (s.l.length : Int) < n then ⟨[], true⟩ else ⟨s.l.drop n.toNat, false⟩
theorem RS.got_length (s : RS) (n : Int) : ((s.got n).length : Int) ≤ n ∨ (s.got n).length = 0 := by
  unfold RS.got
  split
  · exact .inr rfl
  · left
    simp
    omega
theorem bc_at (l : List UInt8) (j : Nat) (h : j < l.length) : (bc l)[j]? = some (.int .u8 (l[j].toNat : Int)) := by simp [bc, h]
theorem add_lit (g off n : Nat) : (⟨g, off, none⟩ : Addr).add n = ⟨g, off + n, none⟩ := by unfold Addr.add; split <;> simp_all
theorem bc_get {l : List UInt8} {j : Nat} {u : Value} (h : (bc l)[j]? = some u) : j < l.length := by
  have := (List.getElem?_eq_some_iff.1 h).1
  rwa [bc_length] at this
theorem bc_take {l : List UInt8} {n j : Nat} {u : Value} (h : (bc (l.take n))[j]? = some u) : (bc l)[j]? = some u := by
  have hj := bc_get h
  rw [List.length_take] at hj
  rw [bc_at _ _ (by rw [List.length_take]; omega)] at h
  rw [bc_at _ _ (by omega)]
  simpa using h
theorem bc_drop {l : List UInt8} {n j : Nat} {u : Value} (h : (bc (l.drop n))[j]? = some u) : (bc l)[n + j]? = some u := by
  have hj := bc_get h
  rw [List.length_drop] at hj
  rw [bc_at _ _ (by rw [List.length_drop]; omega)] at h
  rw [bc_at _ _ (by omega)]
  simpa using h

theorem or_byte (a b : Nat) (ha : a < 72057594037927936) (hb : b < 256) : bits .or .u64 ((a : Int) * 256) (b : Int) = ((256 * a + b : Nat) : Int) := by
  have e : ((a : Int) * 256) = ((256 * a : Nat) : Int) := by omega
  rw [e, u64_or_nat (256 * a) b (by omega) (by omega)]
  have := Nat.two_pow_add_eq_or_of_lt (i := 8) (b := b) (by omega) a
  rw [show (2 : Nat) ^ 8 = 256 from rfl] at this
  rw [this]
end Go.Proofs.YtjhdnpplmlddaaaGreat
/- What each exported call on a pack.Reader comes to. -/
namespace Go.Proofs.YtjhdnpplmlddaaaGreat
set_option linter.unusedVariables false
open Go.RowKit

theorem conv_bytes {w : World} {sv : Value} {L : List UInt8} {r : Option Nat} (h : BytesIn w sv L r) : (convert 119 9 sv).run Tryz.prog w = .ok (.string (str L)) w := by
  obtain ⟨ad, cap, rfl, hcap, hcs⟩ := h
  rcases hcs with ⟨rfl, rfl, rfl⟩ | ⟨g, off, rfl, _, _, hcell⟩
  · exact run_convert_bytes_nil w 119 5 Tryz.underlying119 Tryz.underlying5 0 0 9 Tryz.underlying9
  · have := run_convert_bytes_arg (P := Tryz.prog) w 119 5 Tryz.underlying119 Tryz.underlying5 g off L.length cap (L.map fun b => (b.toNat : Int)) (by simp) (fun i hi => by
      rw [hcell i _ (bc_at L i hi)]
      simp [hi]) 9 Tryz.underlying9
    rw [str_of] at this
    exact this

def RS.text (s : RS) : List UInt8 := (s.take 1).got (num (s.got 1))
def RS.atext (s : RS) : RS := (s.take 1).take (num (s.got 1))
theorem all_take (l : List UInt8) (k : Nat) (h : k < l.length) (h1 : (l.take k).all (· == 0) = true) (h2 : (((l[k]).toNat : Int) == 0) = true) : (l.take (k + 1)).all (· == 0) = true := by
  have e : l[k] = 0 := by
    have h3 : ((l[k]).toNat : Int) = 0 := by simpa using h2
    have h4 : (l[k]).toNat = (0 : UInt8).toNat := by simp; omega
    exact UInt8.toNat_inj.1 h4
  rw [take_snoc8 l k h, List.all_append, h1, e]
  rfl
theorem all_not (l : List UInt8) (k : Nat) (h : k < l.length) (h2 : (((l[k]).toNat : Int) == 0) = false) : l.all (· == 0) = false := by
  rw [List.all_eq_false]
  refine ⟨l[k], List.getElem_mem h, ?_⟩
  intro e
  have e2 : l[k] = 0 := by simpa using e
  rw [e2] at h2
  simp at h2
end Go.Proofs.YtjhdnpplmlddaaaGreat
/- pack.Read: a reader of a copy of the bytes that it is given. -/
namespace Go.Proofs.YtjhdnpplmlddaaaGreat
set_option linter.unusedVariables false
open Go.RowKit

theorem own_bytes {w : World} {base : Nat} {sv : Value} {L : List UInt8} (h : w.ownsRow base 5 1 sv L.length (bc L)) : BytesIn w sv L sv.ownBlock := by
  rcases h.2 with ⟨rfl, h0⟩ | ⟨g, cap, cur, rfl, hb, hg, hn, _⟩
  · exact ⟨none, 0, by rw [h0], by omega, .inl ⟨rfl, List.eq_nil_of_length_eq_zero h0, rfl⟩⟩
  · refine ⟨_, cap, rfl, hn, .inr ⟨g, 0, rfl, rfl, (h.lt g rfl).2, fun j u hu => ?_⟩⟩
    have := h.cells (g := g) rfl j u hu
    rw [add_lit] at this
    exact this

end Go.Proofs.YtjhdnpplmlddaaaGreat
/- Nodes as plain data: how pairs and kids lie in memory; the calls on one of them. -/
namespace Go.Proofs.YtjhdnpplmlddaaaGreat
set_option linter.unusedVariables false
open Go.RowKit

/-- A pair, a kid, a node; and both of the first two as a key with one cell behind it. -/
structure Pr where
  k : List UInt8
  s : ByteArray
deriving DecidableEq
structure Kd where
  k : List UInt8
  n : Int
deriving DecidableEq
structure Nod where
  lv : Int
  ps : List Pr
  ks : List Kd
deriving DecidableEq
structure El where
  k : List UInt8
  v : Value
def Pr.el (p : Pr) : El := ⟨p.k, .string p.s⟩
def Kd.el (p : Kd) : El := ⟨p.k, .int .i64 p.n⟩
def ec (e : El) : List Value := bc e.k ++ [e.v]
abbrev ev (e : El) : Value := .agg (ec e).toArray
structure El.Ok (e : El) : Prop where
  len : e.k.length = 24
  one : e.v.oneCell' = true
theorem ec_length {e : El} (h : e.Ok) : (ec e).length = 25 := by simp [ec, bc_length, h.len]
theorem ec_size {e : El} (h : e.Ok) : (ec e).toArray.size = 25 := by simpa using ec_length h
theorem ec_one {e : El} (h : e.Ok) : ∀ u ∈ ec e, u.oneCell' = true := by
  intro u hu
  simp only [ec, List.mem_append, List.mem_singleton] at hu
  rcases hu with hu | rfl
  · exact bc_one _ u hu
  · exact h.one
theorem ec_all {e : El} (h : e.Ok) : (ec e).toArray.all (·.oneCell') = true := all_oneCell_toArray (ec_one h)
theorem wrap_succ {k N : Nat} (h : k < N) (hN : N ≤ maxLen) : wrap64 ((k : Int) + 1) = ((k + 1 : Nat) : Int) := by unfold maxLen at hN; unfold wrap64; omega
theorem meas_succ {k N : Nat} (h : k < N) (hN : N ≤ maxLen) : N - (intOf (Value.int .i64 (wrap64 ((k : Int) + 1)))).toNat < N - (intOf (Value.int .i64 (k : Int))).toNat := by
  rw [wrap_succ h hN]
  simp [intOf]
  omega
/-- A slice of them: they are l, and lie in the row r. -/
def ElsIn (w : World) (sv : Value) (l : List El) (r : Option Nat) : Prop :=
  ∃ ad cap, sv = .slice ad l.length cap ∧ l.length ≤ cap ∧ l.length ≤ maxLen ∧ (∀ i (hi : i < l.length), (l[i]).Ok) ∧ (l = [] ∨ ∃ g off, ad = some ⟨g, off, none⟩ ∧ r = some g ∧ g < w.heap.size ∧ ∀ i (hi : i < l.length), w.rangeAt g (off + i * 25) (ec l[i]))
theorem range_same {w w' : World} {g o : Nat} {cs : List Value} (h : w.rangeAt g o cs) (e : w'.heap[g]? = w.heap[g]?) : w'.rangeAt g o cs := fun j v hv => (World.cell?_of_block e).trans (h j v hv)
theorem ElsIn.kept {w w' : World} {sv : Value} {l : List El} {r : Option Nat} (h : ElsIn w sv l r) (hr : ∀ k, r = some k → w'.heap[k]? = w.heap[k]?) : ElsIn w' sv l r := by
  obtain ⟨ad, cap, h1, h2, h2', ho, h3⟩ := h
  refine ⟨ad, cap, h1, h2, h2', ho, ?_⟩
  rcases h3 with h3 | ⟨g, off, h4, h5, h6, h7⟩
  · exact .inl h3
  · have hb := hr g h5
    refine .inr ⟨g, off, h4, h5, ?_, fun i hi => range_same (h7 i hi) hb⟩
    have h8 : w'.heap[g]? = some w.heap[g] := hb.trans (by simp [h6])
    exact (Array.getElem?_eq_some_iff.1 h8).1
theorem ElsIn.below {w w' : World} {sv : Value} {l : List El} {r : Option Nat} (h : ElsIn w sv l r) {B : Nat} (hb : Below B w w') (hB : ∀ k, r = some k → k < B) : ElsIn w' sv l r := h.kept fun k hk => hb.block k (hB k hk)
theorem ElsIn.one {w : World} {sv : Value} {l : List El} {r : Option Nat} (h : ElsIn w sv l r) : sv.oneCell' = true := by
  obtain ⟨ad, cap, rfl, _⟩ := h
  rfl
theorem range_key {w : World} {g o : Nat} {e : El} (h : w.rangeAt g o (ec e)) : w.rangeAt g o (bc e.k) := fun j v hv => by
  refine h j v ?_
  rw [ec, List.getElem?_append_left (List.getElem?_eq_some_iff.1 hv).1]
  exact hv
theorem range_val {w : World} {g o : Nat} {e : El} (h : w.rangeAt g o (ec e)) (ho : e.Ok) : w.cell? ⟨g, o + 24, none⟩ = some e.v := by
  refine h 24 e.v ?_
  rw [ec, List.getElem?_append_right (by simp [bc_length, ho.len])]
  simp [bc_length, ho.len]
theorem ret_key {fn : Func} {R : Ending → World → Prop} {a : Act} {w : World} {p : Tmp} (hr : fn.results = #[.cell p 25]) (b : Nat) (K : List UInt8) (hp : a.tmps.getD p undef = .pointer (some ⟨b, 0, none⟩)) (hK : Has w b K)
    (hd : a.defers = []) (hR : R (.returned (kv K)) w) : bodyPost Tryz.prog fn R .ret a w :=
  bodyPost_ret (results_cell_row hr _ w b _ _ _ _ hp hK.blk Tryz.underlying25 rfl (by rw [bc_size, hK.len]; exact Tryz.key_info)) hd hR
theorem ret_key_ok {fn : Func} {R : Ending → World → Prop} {a : Act} {w : World} {p u : Tmp} (hr : fn.results = #[.cell p 25, .tmp u]) (b : Nat) (K : List UInt8) (v : Value) (hp : a.tmps.getD p undef = .pointer (some ⟨b, 0, none⟩)) (hv : a.tmps.getD u undef = v) (hK : Has w b K)
    (hd : a.defers = []) (hR : R (.returned (.tuple #[kv K, v])) w) : bodyPost Tryz.prog fn R .ret a w := by
  refine bodyPost_ret (v := .tuple #[kv K, v]) ?_ hd hR
  have hl := run_loadVar_row (P := Tryz.prog) w b 25 25 _ _ _ hK.blk Tryz.underlying25 rfl (by rw [bc_size, hK.len]; exact Tryz.key_info)
  rw [results_cell_tmp hr, hp, hv]
  simp [asAddr, Result.andThen, hl]
theorem zero_has (w : World) (b : Nat) (hb : b = w.heap.size) : Has (w.alloc (.cells #[.int .u8 0, .int .u8 0, .int .u8 0, .int .u8 0, .int .u8 0, .int .u8 0, .int .u8 0, .int .u8 0, .int .u8 0, .int .u8 0, .int .u8 0, .int .u8 0, .int .u8 0, .int .u8 0, .int .u8 0, .int .u8 0, .int .u8 0, .int .u8 0, .int .u8 0, .int .u8 0, .int .u8 0, .int .u8 0, .int .u8 0, .int .u8 0] 25)) b (zs 24) := hb ▸ Has.new w (zs 24) rfl
section
variable {ops : Array Oper} {rest : List Oper} {o : Oper} {a : Act} {w : World} {Q : Exit → Act → World → Prop}
theorem load_part (x : Operand) (ho : o.op = .load 25 x) (b i : Nat) (hx : a.eval x = .pointer (some ⟨b, i, none⟩)) (hgd : Region.wanted o (yielded ops a.tmps) = true) (K : List UInt8) (hl : K.length = 24) (hK : w.rangeAt b i (bc K))
    (h : wpList Tryz.prog ops Q rest (a.put o.dst (kv K)) w) : wpList Tryz.prog ops Q (o :: rest) a w :=
  BigFrame.wpList_want hgd fun _ hK' => wp_load_mid _ x ho b i hx _ _ hK Tryz.underlying25 rfl (by rw [bc_length, hl]; exact Tryz.key_info) (hK' _ _ h)
end

/-- A pair in block b. -/
structure HasP (w : World) (b : Nat) (e : El) : Prop where
  ok : e.Ok
  blk : w.heap[b]? = some (.cells (ec e).toArray 89 (0, 0))
theorem Tryz.info_P : (Tryz.prog.info? 89).map (·.size) = some 25 := by kernel_rfl
theorem HasP.lt {w : World} {b : Nat} {e : El} (h : HasP w b e) : b < w.heap.size := lt_of_block h.blk
theorem HasP.same {w w' : World} {b : Nat} {e : El} (h : HasP w b e) (q : w'.heap[b]? = w.heap[b]?) : HasP w' b e := ⟨h.ok, q.trans h.blk⟩
theorem HasP.below {B : Nat} {w w' : World} {b : Nat} {e : El} (h : HasP w b e) (hb : Below B w w') (hB : b < B) : HasP w' b e := h.same (hb.block b hB)
theorem HasP.touch {w w' : World} {b p : Nat} {e : El} (h : HasP w b e) (ht : Touch p none w w') (hp : b ≠ p) : HasP w' b e := h.same (ht.block b h.lt hp (by simp))
theorem HasP.alloc {w : World} {b : Nat} {e : El} (h : HasP w b e) (o : Obj) : HasP (w.alloc o) b e := h.same (Below.heap_alloc _ _ _ h.lt)
theorem HasP.new (w : World) (e : El) (b : Nat) (hb : b = w.heap.size) (h : e.Ok) : HasP (w.alloc (.cells (ec e).toArray 89)) b e := by
  subst hb
  exact ⟨h, heap_alloc_new _ _⟩
theorem HasP.range {w : World} {b : Nat} {e : El} (h : HasP w b e) : w.rangeAt b 0 (ec e) := fun j v hv => by
  rw [Nat.zero_add, cell_of_row w b _ _ _ _ h.blk]
  simpa using hv
theorem HasP.val {w : World} {b : Nat} {e : El} (h : HasP w b e) : w.cell? ⟨b, 24, none⟩ = some e.v := by
  have := range_val h.range h.ok
  simpa using this
def nilP : El := ⟨zs 24, .string ByteArray.empty⟩
theorem nilP_ok : nilP.Ok := ⟨rfl, rfl⟩
theorem zero_P (w : World) (b : Nat) (hb : b = w.heap.size) : HasP (w.alloc (.cells #[.int .u8 0, .int .u8 0, .int .u8 0, .int .u8 0, .int .u8 0, .int .u8 0, .int .u8 0, .int .u8 0, .int .u8 0, .int .u8 0, .int .u8 0, .int .u8 0, .int .u8 0, .int .u8 0, .int .u8 0, .int .u8 0, .int .u8 0, .int .u8 0, .int .u8 0, .int .u8 0, .int .u8 0, .int .u8 0, .int .u8 0, .int .u8 0, .string ByteArray.empty] 89)) b nilP := hb ▸ ⟨nilP_ok, heap_alloc_new _ _⟩
section
variable {ops : Array Oper} {rest : List Oper} {o : Oper} {a : Act} {w : World} {Q : Exit → Act → World → Prop}
theorem load_P (x : Operand) (ho : o.op = .load 89 x) (b i : Nat) (hx : a.eval x = .pointer (some ⟨b, i, none⟩)) (hgd : Region.wanted o (yielded ops a.tmps) = true) (e : El) (hok : e.Ok) (hK : w.rangeAt b i (ec e))
    (h : wpList Tryz.prog ops Q rest (a.put o.dst (ev e)) w) : wpList Tryz.prog ops Q (o :: rest) a w :=
  BigFrame.wpList_want hgd fun _ hK' => wp_load_mid _ x ho b i hx _ _ hK Tryz.underlying89 rfl (by rw [ec_length hok]; exact Tryz.info_P) (hK' _ _ h)
theorem store_P (hgd : o.guard = none) (x y : Operand) (ho : o.op = .store 89 x y) (b : Nat) (hx : a.eval x = .pointer (some ⟨b, 0, none⟩)) (L : El) (hy : a.eval y = ev L) (hL : L.Ok) (K : El) (hK : HasP w b K)
    (h : ∀ w', HasP w' b L → Touch b none w w' → w'.heap.size = w.heap.size → wpList Tryz.prog ops Q rest (a.put o.dst undef) w') : wpList Tryz.prog ops Q (o :: rest) a w :=
  wpList_store_row hgd _ x y ho b _ hx hy _ _ hK.blk (by rw [ec_size hL]; exact Tryz.info_P) (by rw [ec_size hL, ec_size hK.ok]) (ec_all hL) (h _ ⟨hL, setRow_heap w b _ _ _ _ hK.blk⟩ (touch_setRow _ _ _) (by simp))
end
theorem ret_P {fn : Func} {R : Ending → World → Prop} {a : Act} {w : World} {p : Tmp} (hr : fn.results = #[.cell p 89]) (b : Nat) (e : El) (hp : a.tmps.getD p undef = .pointer (some ⟨b, 0, none⟩)) (hK : HasP w b e)
    (hd : a.defers = []) (hR : R (.returned (ev e)) w) : bodyPost Tryz.prog fn R .ret a w :=
  bodyPost_ret (results_cell_row hr _ w b _ _ _ _ hp hK.blk Tryz.underlying89 rfl (by rw [ec_size hK.ok]; exact Tryz.info_P)) hd hR
set_option maxHeartbeats 1000000 in
theorem keyP_calls (w : World) (e : El) (h : e.Ok) : Calls Tryz.prog 64 #[ev e] w fun x w' => x = .returned (kv e.k) ∧ Below w.heap.size w w' := by
  have h1 : HasP (w.alloc (.cells (ec e).toArray 89)) w.heap.size e := HasP.new w e _ rfl h
  have HR : Hid (∀ o, ((w.alloc (.cells (ec e).toArray 89)).alloc o).rangeAt w.heap.size 0 (bc e.k)) := fun o => range_key (h1.alloc o).range
  clear h1
  go_enter Tryz.func64, Tryz.ntmps64
  go_wp2_with (first
    | (refine load_part _ rfl w.heap.size 0 rfl rfl _ h.len (HR.out _) ?_)
    | (refine store_key rfl _ _ rfl (w.heap.size + 1) rfl e.k rfl h.len (zs 24) (zero_has _ _ (by simp)) ?_; intro w2 h2 t2 s2))
  refine ret_key rfl _ _ rfl h2 rfl ⟨rfl, ?_⟩
  exact below_touched (below_made (below_made (Below.refl _ w) (Nat.le_refl _) _) (Nat.le_refl _) _) t2 (by omega) (Nat.le_refl _)

/-- A kid in block b. -/
structure HasK (w : World) (b : Nat) (e : El) : Prop where
  ok : e.Ok
  blk : w.heap[b]? = some (.cells (ec e).toArray 93 (0, 0))
theorem Tryz.info_K : (Tryz.prog.info? 93).map (·.size) = some 25 := by kernel_rfl
theorem HasK.lt {w : World} {b : Nat} {e : El} (h : HasK w b e) : b < w.heap.size := lt_of_block h.blk
theorem HasK.same {w w' : World} {b : Nat} {e : El} (h : HasK w b e) (q : w'.heap[b]? = w.heap[b]?) : HasK w' b e := ⟨h.ok, q.trans h.blk⟩
theorem HasK.below {B : Nat} {w w' : World} {b : Nat} {e : El} (h : HasK w b e) (hb : Below B w w') (hB : b < B) : HasK w' b e := h.same (hb.block b hB)
theorem HasK.touch {w w' : World} {b p : Nat} {e : El} (h : HasK w b e) (ht : Touch p none w w') (hp : b ≠ p) : HasK w' b e := h.same (ht.block b h.lt hp (by simp))
theorem HasK.alloc {w : World} {b : Nat} {e : El} (h : HasK w b e) (o : Obj) : HasK (w.alloc o) b e := h.same (Below.heap_alloc _ _ _ h.lt)
theorem HasK.new (w : World) (e : El) (b : Nat) (hb : b = w.heap.size) (h : e.Ok) : HasK (w.alloc (.cells (ec e).toArray 93)) b e := by
  subst hb
  exact ⟨h, heap_alloc_new _ _⟩
theorem HasK.range {w : World} {b : Nat} {e : El} (h : HasK w b e) : w.rangeAt b 0 (ec e) := fun j v hv => by
  rw [Nat.zero_add, cell_of_row w b _ _ _ _ h.blk]
  simpa using hv
theorem HasK.val {w : World} {b : Nat} {e : El} (h : HasK w b e) : w.cell? ⟨b, 24, none⟩ = some e.v := by
  have := range_val h.range h.ok
  simpa using this
def nilK : El := ⟨zs 24, .int .i64 0⟩
theorem nilK_ok : nilK.Ok := ⟨rfl, rfl⟩
theorem zero_K (w : World) (b : Nat) (hb : b = w.heap.size) : HasK (w.alloc (.cells #[.int .u8 0, .int .u8 0, .int .u8 0, .int .u8 0, .int .u8 0, .int .u8 0, .int .u8 0, .int .u8 0, .int .u8 0, .int .u8 0, .int .u8 0, .int .u8 0, .int .u8 0, .int .u8 0, .int .u8 0, .int .u8 0, .int .u8 0, .int .u8 0, .int .u8 0, .int .u8 0, .int .u8 0, .int .u8 0, .int .u8 0, .int .u8 0, .int .i64 0] 93)) b nilK := hb ▸ ⟨nilK_ok, heap_alloc_new _ _⟩
section
variable {ops : Array Oper} {rest : List Oper} {o : Oper} {a : Act} {w : World} {Q : Exit → Act → World → Prop}
theorem load_K (x : Operand) (ho : o.op = .load 93 x) (b i : Nat) (hx : a.eval x = .pointer (some ⟨b, i, none⟩)) (hgd : Region.wanted o (yielded ops a.tmps) = true) (e : El) (hok : e.Ok) (hK : w.rangeAt b i (ec e))
    (h : wpList Tryz.prog ops Q rest (a.put o.dst (ev e)) w) : wpList Tryz.prog ops Q (o :: rest) a w :=
  BigFrame.wpList_want hgd fun _ hK' => wp_load_mid _ x ho b i hx _ _ hK Tryz.underlying93 rfl (by rw [ec_length hok]; exact Tryz.info_K) (hK' _ _ h)
theorem store_K (hgd : o.guard = none) (x y : Operand) (ho : o.op = .store 93 x y) (b : Nat) (hx : a.eval x = .pointer (some ⟨b, 0, none⟩)) (L : El) (hy : a.eval y = ev L) (hL : L.Ok) (K : El) (hK : HasK w b K)
    (h : ∀ w', HasK w' b L → Touch b none w w' → w'.heap.size = w.heap.size → wpList Tryz.prog ops Q rest (a.put o.dst undef) w') : wpList Tryz.prog ops Q (o :: rest) a w :=
  wpList_store_row hgd _ x y ho b _ hx hy _ _ hK.blk (by rw [ec_size hL]; exact Tryz.info_K) (by rw [ec_size hL, ec_size hK.ok]) (ec_all hL) (h _ ⟨hL, setRow_heap w b _ _ _ _ hK.blk⟩ (touch_setRow _ _ _) (by simp))
end
theorem ret_K {fn : Func} {R : Ending → World → Prop} {a : Act} {w : World} {p : Tmp} (hr : fn.results = #[.cell p 93]) (b : Nat) (e : El) (hp : a.tmps.getD p undef = .pointer (some ⟨b, 0, none⟩)) (hK : HasK w b e)
    (hd : a.defers = []) (hR : R (.returned (ev e)) w) : bodyPost Tryz.prog fn R .ret a w :=
  bodyPost_ret (results_cell_row hr _ w b _ _ _ _ hp hK.blk Tryz.underlying93 rfl (by rw [ec_size hK.ok]; exact Tryz.info_K)) hd hR
set_option maxHeartbeats 1000000 in
theorem keyK_calls (w : World) (e : El) (h : e.Ok) : Calls Tryz.prog 65 #[ev e] w fun x w' => x = .returned (kv e.k) ∧ Below w.heap.size w w' := by
  have h1 : HasK (w.alloc (.cells (ec e).toArray 93)) w.heap.size e := HasK.new w e _ rfl h
  have HR : Hid (∀ o, ((w.alloc (.cells (ec e).toArray 93)).alloc o).rangeAt w.heap.size 0 (bc e.k)) := fun o => range_key (h1.alloc o).range
  clear h1
  go_enter Tryz.func65, Tryz.ntmps65
  go_wp2_with (first
    | (refine load_part _ rfl w.heap.size 0 rfl rfl _ h.len (HR.out _) ?_)
    | (refine store_key rfl _ _ rfl (w.heap.size + 1) rfl e.k rfl h.len (zs 24) (zero_has _ _ (by simp)) ?_; intro w2 h2 t2 s2))
  refine ret_key rfl _ _ rfl h2 rfl ⟨rfl, ?_⟩
  exact below_touched (below_made (below_made (Below.refl _ w) (Nat.le_refl _) _) (Nat.le_refl _) _) t2 (by omega) (Nat.le_refl _)
end Go.Proofs.YtjhdnpplmlddaaaGreat
/- Is one of them too long, or nowhere? -/
namespace Go.Proofs.YtjhdnpplmlddaaaGreat
set_option linter.unusedVariables false
open Go.RowKit

def badP (p : Pr) : Bool := decide (40 < p.s.size)
theorem Pr.ok_el {p : Pr} (h : p.k.length = 24) : p.el.Ok := ⟨h, rfl⟩
set_option maxHeartbeats 1000000 in
theorem badP_calls (w : World) (p : Pr) (h : p.k.length = 24) : Calls Tryz.prog 86 #[ev p.el] w fun x w' => x = .returned (.bool (badP p)) ∧ Below w.heap.size w w' := by
  have h1 : HasP (w.alloc (.cells (ec p.el).toArray 89)) w.heap.size p.el := HasP.new w p.el _ rfl (Pr.ok_el h)
  have c24 : (w.alloc (.cells (ec p.el).toArray 89)).cell? ⟨w.heap.size, 24, none⟩ = some (.string p.s) := h1.val
  have HR : Hid (badP p = decide (40 < p.s.size)) := rfl
  clear h1
  have B : Below w.heap.size w (w.alloc (.cells (ec p.el).toArray 89)) := (Below.refl _ w).alloc (Nat.le_refl _) _
  go_enter Tryz.func86, Tryz.ntmps86
  go_wp2
  go_ret
  exact ⟨by rw [HR.out]; simp; omega, B⟩
def anyP (l : List Pr) : Bool := l.any badP
set_option maxHeartbeats 2000000 in
theorem indexP_calls (w : World) (sv : Value) (l : List Pr) (r : Option Nat) (h : ElsIn w sv (l.map Pr.el) r) :
    Calls Tryz.prog 97 #[sv, .func (Fn.func 86) #[] #[]] w fun e w' => ∃ n : Int, e = .returned (.int .i64 n) ∧ decide (0 ≤ n) = anyP l ∧ Below w.heap.size w w' := by
  obtain ⟨ad, cap, rfl, hcap, hmax, hok, hin⟩ := h
  simp only [List.length_map] at hcap hmax hok hin ⊢
  obtain ⟨N, hN⟩ : ∃ N : Nat, N = l.length := ⟨_, rfl⟩
  rw [← hN] at hcap hmax ⊢
  have HN : Hid (N = l.length) := hN
  have HM : Hid (∀ k : Nat, k < N → wrap64 ((k : Int) + 1) = ((k + 1 : Nat) : Int)) := fun k hk => wrap_succ hk hmax
  have HME : Hid (∀ k : Nat, k < N → N - (intOf (Value.int .i64 (wrap64 ((k : Int) + 1)))).toNat < N - (intOf (Value.int .i64 (k : Int))).toNat) := fun k hk => meas_succ hk hmax
  clear hmax
  have HO : Hid (∀ i (hi : i < l.length), (l[i]).k.length = 24) := fun i hi => by have := (hok i hi).len; simpa [Pr.el] using this
  have HI : Hid (∀ i (hi : i < l.length), ∃ g off, ad = some ⟨g, off, none⟩ ∧ g < w.heap.size ∧ w.rangeAt g (off + i * 25) (ec (l[i]).el)) := fun i hi => by
    rcases hin with e | ⟨g, off, h1, _, h2, h3⟩
    · simp at e; subst e; simp at hi
    · exact ⟨g, off, h1, h2, by have := h3 i hi; simpa using this⟩
  clear hN hin hok
  go_enter Tryz.func97, Tryz.ntmps97
  go_wp2
  go_loopw [8] (fun i wr => ∃ k : Nat, k ≤ N ∧ i = .int .i64 (k : Int) ∧ Below w.heap.size w wr ∧ Hid (anyP l = anyP (l.drop k))) (fun i _ => N - (intOf i).toNat)
  case atStart => exact ⟨0, Nat.zero_le _, rfl, Below.refl _ _, (show anyP l = anyP (l.drop 0) from rfl)⟩
  case round =>
    obtain ⟨k, hk, rfl, hbel, HE⟩ := hrel
    by_cases hlt : k < N
    · have hkl : k < l.length := by rw [← HN.out]; exact hlt
      obtain ⟨g, off, rfl, hg, hat⟩ := HI.out k hkl
      have hok := HO.out k hkl
      have HR : Hid (wr.rangeAt g (off + k * 25) (ec (l[k]).el)) := range_same hat (hbel.block g hg)
      have HE3 : Hid (anyP l = (badP l[k] || anyP (l.drop (k + 1)))) := (show _ = _ by rw [HE.out, anyP, List.drop_eq_getElem_cons hkl, List.any_cons]; rfl)
      clear HE hat
      generalize l[k] = p at *
      have hbs := hbel.size
      cases hb : badP p with
      | true =>
        go_wp2_with (first
          | (refine load_P _ rfl g (off + k * 25) rfl rfl p.el (Pr.ok_el hok) HR.out ?_)
          | (go_at_call 86; refine (badP_calls _ p hok).mono ?_; rintro e w1 ⟨rfl, b1⟩; rw [hb]))
        go_ret
        exact ⟨_, rfl, by rw [HE3.out, hb]; simp, hbel.trans (b1.mono hbs)⟩
      | false =>
        go_wp2_with (first
          | (refine load_P _ rfl g (off + k * 25) rfl rfl p.el (Pr.ok_el hok) HR.out ?_)
          | (go_at_call 86; refine (badP_calls _ p hok).mono ?_; rintro e w1 ⟨rfl, b1⟩; rw [hb]))
        go_round
        case rel => exact ⟨k + 1, by omega, by rw [← HM.out k hlt], hbel.trans (b1.mono hbs), by rw [HE3.out, hb]; rfl⟩
        case measure => exact HME.out k hlt
    · have e : k = N := by omega
      subst e
      go_wp2
      go_ret
      exact ⟨_, rfl, by rw [HE.out, HN.out, List.drop_length]; rfl, hbel⟩
set_option maxHeartbeats 1000000 in
theorem containsP_calls (w : World) (sv : Value) (l : List Pr) (r : Option Nat) (h : ElsIn w sv (l.map Pr.el) r) :
    Calls Tryz.prog 87 #[sv, .func (Fn.func 86) #[] #[]] w fun e w' => e = .returned (.bool (anyP l)) ∧ Below w.heap.size w w' := by
  have hc := indexP_calls w sv l r h
  obtain ⟨ad, cap, rfl, _⟩ := h
  rw [List.length_map] at hc ⊢
  go_enter Tryz.func87, Tryz.ntmps87
  go_wp2_with (go_at_call 97; refine hc.mono ?_; rintro e w1 ⟨n, rfl, hn, b1⟩; have HN : Hid (decide (0 ≤ n) = anyP l) := hn; clear hn)
  go_ret
  exact ⟨by rw [← HN.out]; rfl, b1⟩

def badK (p : Kd) : Bool := decide (p.n < 2 ∨ 4294967295 < p.n)
theorem Kd.ok_el {p : Kd} (h : p.k.length = 24) : p.el.Ok := ⟨h, rfl⟩
set_option maxHeartbeats 1000000 in
theorem badK_calls (w : World) (p : Kd) (h : p.k.length = 24) : Calls Tryz.prog 89 #[ev p.el] w fun x w' => x = .returned (.bool (badK p)) ∧ Below w.heap.size w w' := by
  have h1 : HasK (w.alloc (.cells (ec p.el).toArray 93)) w.heap.size p.el := HasK.new w p.el _ rfl (Kd.ok_el h)
  have c24 : (w.alloc (.cells (ec p.el).toArray 93)).cell? ⟨w.heap.size, 24, none⟩ = some (.int .i64 p.n) := h1.val
  have HR : Hid (badK p = decide (p.n < 2 ∨ 4294967295 < p.n)) := rfl
  clear h1
  have B : Below w.heap.size w (w.alloc (.cells (ec p.el).toArray 93)) := (Below.refl _ w).alloc (Nat.le_refl _) _
  by_cases h1 : p.n < 2
  · go_enter Tryz.func89, Tryz.ntmps89
    go_wp2
    go_ret
    exact ⟨by rw [HR.out, decide_eq_true (.inl h1)]; rfl, B⟩
  · go_enter Tryz.func89, Tryz.ntmps89
    go_wp2
    go_ret
    exact ⟨by rw [HR.out]; simp; omega, B⟩
def anyK (l : List Kd) : Bool := l.any badK
set_option maxHeartbeats 2000000 in
theorem indexK_calls (w : World) (sv : Value) (l : List Kd) (r : Option Nat) (h : ElsIn w sv (l.map Kd.el) r) :
    Calls Tryz.prog 98 #[sv, .func (Fn.func 89) #[] #[]] w fun e w' => ∃ n : Int, e = .returned (.int .i64 n) ∧ decide (0 ≤ n) = anyK l ∧ Below w.heap.size w w' := by
  obtain ⟨ad, cap, rfl, hcap, hmax, hok, hin⟩ := h
  simp only [List.length_map] at hcap hmax hok hin ⊢
  obtain ⟨N, hN⟩ : ∃ N : Nat, N = l.length := ⟨_, rfl⟩
  rw [← hN] at hcap hmax ⊢
  have HN : Hid (N = l.length) := hN
  have HM : Hid (∀ k : Nat, k < N → wrap64 ((k : Int) + 1) = ((k + 1 : Nat) : Int)) := fun k hk => wrap_succ hk hmax
  have HME : Hid (∀ k : Nat, k < N → N - (intOf (Value.int .i64 (wrap64 ((k : Int) + 1)))).toNat < N - (intOf (Value.int .i64 (k : Int))).toNat) := fun k hk => meas_succ hk hmax
  clear hmax
  have HO : Hid (∀ i (hi : i < l.length), (l[i]).k.length = 24) := fun i hi => by have := (hok i hi).len; simpa [Kd.el] using this
  have HI : Hid (∀ i (hi : i < l.length), ∃ g off, ad = some ⟨g, off, none⟩ ∧ g < w.heap.size ∧ w.rangeAt g (off + i * 25) (ec (l[i]).el)) := fun i hi => by
    rcases hin with e | ⟨g, off, h1, _, h2, h3⟩
    · simp at e; subst e; simp at hi
    · exact ⟨g, off, h1, h2, by have := h3 i hi; simpa using this⟩
  clear hN hin hok
  go_enter Tryz.func98, Tryz.ntmps98
  go_wp2
  go_loopw [8] (fun i wr => ∃ k : Nat, k ≤ N ∧ i = .int .i64 (k : Int) ∧ Below w.heap.size w wr ∧ Hid (anyK l = anyK (l.drop k))) (fun i _ => N - (intOf i).toNat)
  case atStart => exact ⟨0, Nat.zero_le _, rfl, Below.refl _ _, (show anyK l = anyK (l.drop 0) from rfl)⟩
  case round =>
    obtain ⟨k, hk, rfl, hbel, HE⟩ := hrel
    by_cases hlt : k < N
    · have hkl : k < l.length := by rw [← HN.out]; exact hlt
      obtain ⟨g, off, rfl, hg, hat⟩ := HI.out k hkl
      have hok := HO.out k hkl
      have HR : Hid (wr.rangeAt g (off + k * 25) (ec (l[k]).el)) := range_same hat (hbel.block g hg)
      have HE3 : Hid (anyK l = (badK l[k] || anyK (l.drop (k + 1)))) := (show _ = _ by rw [HE.out, anyK, List.drop_eq_getElem_cons hkl, List.any_cons]; rfl)
      clear HE hat
      generalize l[k] = p at *
      have hbs := hbel.size
      cases hb : badK p with
      | true =>
        go_wp2_with (first
          | (refine load_K _ rfl g (off + k * 25) rfl rfl p.el (Kd.ok_el hok) HR.out ?_)
          | (go_at_call 89; refine (badK_calls _ p hok).mono ?_; rintro e w1 ⟨rfl, b1⟩; rw [hb]))
        go_ret
        exact ⟨_, rfl, by rw [HE3.out, hb]; simp, hbel.trans (b1.mono hbs)⟩
      | false =>
        go_wp2_with (first
          | (refine load_K _ rfl g (off + k * 25) rfl rfl p.el (Kd.ok_el hok) HR.out ?_)
          | (go_at_call 89; refine (badK_calls _ p hok).mono ?_; rintro e w1 ⟨rfl, b1⟩; rw [hb]))
        go_round
        case rel => exact ⟨k + 1, by omega, by rw [← HM.out k hlt], hbel.trans (b1.mono hbs), by rw [HE3.out, hb]; rfl⟩
        case measure => exact HME.out k hlt
    · have e : k = N := by omega
      subst e
      go_wp2
      go_ret
      exact ⟨_, rfl, by rw [HE.out, HN.out, List.drop_length]; rfl, hbel⟩
set_option maxHeartbeats 1000000 in
theorem containsK_calls (w : World) (sv : Value) (l : List Kd) (r : Option Nat) (h : ElsIn w sv (l.map Kd.el) r) :
    Calls Tryz.prog 90 #[sv, .func (Fn.func 89) #[] #[]] w fun e w' => e = .returned (.bool (anyK l)) ∧ Below w.heap.size w w' := by
  have hc := indexK_calls w sv l r h
  obtain ⟨ad, cap, rfl, _⟩ := h
  rw [List.length_map] at hc ⊢
  go_enter Tryz.func90, Tryz.ntmps90
  go_wp2_with (go_at_call 98; refine hc.mono ?_; rintro e w1 ⟨n, rfl, hn, b1⟩; have HN : Hid (decide (0 ≤ n) = anyK l) := hn; clear hn)
  go_ret
  exact ⟨by rw [← HN.out]; rfl, b1⟩
end Go.Proofs.YtjhdnpplmlddaaaGreat
