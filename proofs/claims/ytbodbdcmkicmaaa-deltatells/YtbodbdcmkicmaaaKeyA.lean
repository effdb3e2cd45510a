/- Keys as bytes: how one lies in memory, and what the operations on a whole one come to. -/
import Derived.Test.YtbodbdcmkicmaaaRows
import Derived.Test.YtbodbdcmkicmaaaArr
import Derived.Stop.BytesEq
import Derived.Deep.MidRow
import Derived.Deep.WholeRow
import Derived.Deep.QuietTactic
import Derived.BigQuiet
import Derived.Deep.RegionHeld3
import Derived.Laws.CopyRow
import Derived.Laws.CopyOwn
import Derived.Lib.BufferWrite
import Derived.Lib.SlBuf
import Derived.Lib.Bytealg
import Derived.Lib.BytesEntry
import Derived.Handy
namespace Go.Proofs.Ytbodbdcmkicmaaa
set_option linter.unusedVariables false
open Go.RowKit

/-- A key's bytes as one value. -/
abbrev kv (K : List UInt8) : Value := .agg (bc K).toArray
/-- Noughts. -/
def zs (n : Nat) : List UInt8 := List.replicate n 0
theorem zs_length (n : Nat) : (zs n).length = n := by simp [zs]

/-- A key in block b. -/
structure Has (w : World) (b : Nat) (K : List UInt8) : Prop where
  len : K.length = 24
  blk : w.heap[b]? = some (.cells (bc K).toArray 41 (0, 0))

theorem Try.key_info : (Try.prog.info? 41).map (·.size) = some 24 := by kernel_rfl
theorem bc_size (K : List UInt8) : (bc K).toArray.size = K.length := by simp [bc]
theorem bc_all (K : List UInt8) : (bc K).toArray.all (·.oneCell') = true := all_oneCell_toArray (bc_one K)

theorem Has.lt {w : World} {b : Nat} {K : List UInt8} (h : Has w b K) : b < w.heap.size := lt_of_block h.blk
theorem Has.below {B : Nat} {w w' : World} {b : Nat} {K : List UInt8} (h : Has w b K) (hb : Below B w w') (hB : b < B) : Has w' b K := ⟨h.len, (hb.block b hB).trans h.blk⟩
theorem Has.touch {w w' : World} {b p : Nat} {K : List UInt8} (h : Has w b K) (ht : Touch p none w w') (hp : b ≠ p) : Has w' b K := ⟨h.len, (ht.block b h.lt hp (by simp)).trans h.blk⟩
theorem Has.alloc {w : World} {b : Nat} {K : List UInt8} (h : Has w b K) (o : Obj) : Has (w.alloc o) b K := ⟨h.len, by rw [Below.heap_alloc _ _ _ h.lt]; exact h.blk⟩
theorem Has.new (w : World) (K : List UInt8) (h : K.length = 24) : Has (w.alloc (.cells (bc K).toArray 41 (0, 0))) w.heap.size K := ⟨h, heap_alloc_new _ _⟩
theorem Has.drewN {w : World} {b : Nat} {K : List UInt8} (h : Has w b K) (k : Nat) : Has (w.drewN k) b K := ⟨h.len, h.blk⟩
theorem Has.cell {w : World} {b : Nat} {K : List UInt8} (h : Has w b K) (j : Nat) (hj : j < 24) : w.cell? ⟨b, j, none⟩ = some (.int .u8 ((K.getD j 0).toNat : Int)) := by
  rw [cell_of_row w b j _ _ _ h.blk]
  have := h.len
  simp [bc, List.getElem?_eq_getElem (show j < K.length by omega)]
theorem Has.free {w : World} {b : Nat} {K : List UInt8} (h : Has w b K) (j : Nat) : w.frozen? ⟨b, j, none⟩ = false := by simp [World.frozen?, h.blk]

theorem touch_setRow (w : World) (b : Nat) (C : Array Value) : Touch b none w (w.setRow b C) := ⟨rfl, rfl, rfl, by simp, fun k _ hk _ => setRow_other w b k C hk⟩
theorem Has.setRow {w : World} {b : Nat} {K : List UInt8} (h : Has w b K) (L : List UInt8) (hl : L.length = 24) : Has (w.setRow b (bc L).toArray) b L := ⟨hl, setRow_heap w b _ _ _ _ h.blk⟩
theorem Has.setCell {w : World} {b : Nat} {K : List UInt8} (h : Has w b K) (j : Nat) (x : UInt8) : Has (w.setCell ⟨b, j, none⟩ (.int .u8 (x.toNat : Int))) b (K.set j x) := by
  refine ⟨by simp [h.len], ?_⟩
  rw [setCell_eq_setRow w b j _ _ _ _ h.blk, setRow_heap w b _ _ _ _ h.blk]
  congr 2
  simp [bc, List.map_set]

theorem below_touched {B p : Nat} {a w w' : World} (h : Below B a w) (t : Touch p none w w') (hp : B ≤ p) (hB : B ≤ a.heap.size) : Below B a w' :=
  h.trans (t.below (by have := h.size; omega) hp (by simp))
theorem below_called {B : Nat} {a w w' : World} (h : Below B a w) (t : Below w.heap.size w w') (hB : B ≤ a.heap.size) : Below B a w' :=
  h.trans (t.mono (by have := h.size; omega))
theorem below_made {B : Nat} {a w : World} (h : Below B a w) (hB : B ≤ a.heap.size) (o : Obj) : Below B a (w.alloc o) := h.alloc (by have := h.size; omega) o
theorem Has.setOther {w : World} {b p : Nat} {K : List UInt8} (h : Has w b K) (hp : b ≠ p) (j : Nat) (u : Value) : Has (w.setCell ⟨p, j, none⟩ u) b K := ⟨h.len, by rw [Below.heap_setCell _ _ _ _ (by simpa using hp)]; exact h.blk⟩

section
variable {ops : Array Oper} {rest : List Oper} {o : Oper} {a : Act} {w : World} {Q : Exit → Act → World → Prop}
theorem load_key (x : Operand) (ho : o.op = .load 41 x) (b : Nat) (hx : a.eval x = .pointer (some ⟨b, 0, none⟩)) (hgd : Region.wanted o (yielded ops a.tmps) = true) (K : List UInt8) (hK : Has w b K)
    (h : wpList Try.prog ops Q rest (a.put o.dst (kv K)) w) : wpList Try.prog ops Q (o :: rest) a w :=
  BigFrame.wpList_want hgd fun _ hK' => wp_load_row _ x ho b hx _ _ _ _ hK.blk Try.underlying41 rfl (by rw [bc_size, hK.len]; exact Try.key_info) (hK' _ _ h)
theorem store_key (hgd : o.guard = none) (x y : Operand) (ho : o.op = .store 41 x y) (b : Nat) (hx : a.eval x = .pointer (some ⟨b, 0, none⟩)) (L : List UInt8) (hy : a.eval y = kv L) (hL : L.length = 24) (K : List UInt8) (hK : Has w b K)
    (h : ∀ w', Has w' b L → Touch b none w w' → w'.heap.size = w.heap.size → wpList Try.prog ops Q rest (a.put o.dst undef) w') : wpList Try.prog ops Q (o :: rest) a w :=
  wpList_store_row hgd _ x y ho b _ hx hy _ _ hK.blk (by rw [bc_size, hL]; exact Try.key_info) (by rw [bc_size, bc_size, hL, hK.len]) (bc_all _) (h _ (hK.setRow L hL) (touch_setRow _ _ _) (by simp))
end

theorem eq_key (w : World) (K L : List UInt8) (hK : K.length = 24) (hL : L.length = 24) : (Op.equalIn 10000 41 (kv K) (kv L)).run Try.prog w = .ok (K == L) w :=
  run_equalIn_bytes w 9998 41 5 24 Try.underlying41 Try.underlying5 Try.sizeOf5 K L hK hL
theorem list_set4 {α : Type} (l : List α) (o : Nat) (a b c d : α) (h : o + 4 ≤ l.length) : (((l.set o a).set (o + 1) b).set (o + 2) c).set (o + 3) d = l.take o ++ [a, b, c, d] ++ l.drop (o + 4) := by
  apply List.ext_getElem?
  intro j
  simp only [List.getElem?_set, List.getElem?_append, List.length_take, List.length_append, List.length_cons, List.length_nil, List.getElem?_take, List.getElem?_drop, List.length_set]
  rcases Nat.lt_or_ge j o with h1 | h1
  · simp [Nat.min_eq_left (show o ≤ l.length by omega), h1, show j < o + 4 by omega, show ¬ o + 3 = j by omega, show ¬ o + 2 = j by omega, show ¬ o + 1 = j by omega, show ¬ o = j by omega]
  · rcases Nat.lt_or_ge j (o + 4) with h2 | h2
    · obtain ⟨i, rfl⟩ := Nat.exists_eq_add_of_le h1
      have hi : i < 4 := by omega
      match i, hi with
      | 0, _ => simp [Nat.min_eq_left (show o ≤ l.length by omega), show o < l.length by omega]
      | 1, _ => simp [Nat.min_eq_left (show o ≤ l.length by omega), show o + 1 < l.length by omega]; omega
      | 2, _ => simp [Nat.min_eq_left (show o ≤ l.length by omega), show o + 2 < l.length by omega]; omega
      | 3, _ => simp [Nat.min_eq_left (show o ≤ l.length by omega), show o + 3 < l.length by omega]; omega
    · simp [Nat.min_eq_left (show o ≤ l.length by omega), show ¬ j < o + 4 by omega, show ¬ o + 3 = j by omega, show ¬ o + 2 = j by omega, show ¬ o + 1 = j by omega, show ¬ o = j by omega]
      congr 1
      omega

theorem or_byte_i (a b : Nat) (ha : a < 16777216) (hb : b < 256) : bits .or .i64 ((a : Int) * 256) (b : Int) = ((256 * a + b : Nat) : Int) := by
  have e : ((a : Int) * 256) = ((256 * a : Nat) : Int) := by omega
  have e1 := Nat.two_pow_add_eq_or_of_lt (i := 8) (b := b) (by omega) a
  rw [show (2 : Nat) ^ 8 = 256 from rfl] at e1
  rw [e]
  show IntKind.i64.wrap ((BitVec.ofInt 64 ((256 * a : Nat) : Int) ||| BitVec.ofInt 64 (b : Int)).toNat : Int) = _
  rw [BitVec.toNat_or, ofInt_u64 _ (by omega), ofInt_u64 _ (by omega), ← e1, IntKind.wrap_i64]
  omega
theorem or_step (a b : Nat) (ha : a < 16777216) (hb : b < 256) : bits .or .i64 (wrap64 ((a : Int) * 256)) (wrap64 (b : Int)) = ((256 * a + b : Nat) : Int) := by
  rw [show wrap64 ((a : Int) * 256) = (a : Int) * 256 by unfold wrap64; omega, show wrap64 (b : Int) = (b : Int) by unfold wrap64; omega]
  exact or_byte_i a b ha hb
theorem or_four (k0 k1 k2 k3 : UInt8) : bits .or .i64 (wrap64 (bits .or .i64 (wrap64 (bits .or .i64 (wrap64 (bits .or .i64 0 (wrap64 (k0.toNat : Int)) * 256)) (wrap64 (k1.toNat : Int)) * 256)) (wrap64 (k2.toNat : Int)) * 256)) (wrap64 (k3.toNat : Int)) = (num [k0, k1, k2, k3] : Int) := by
  have h0 := k0.toNat_lt; have h1 := k1.toNat_lt; have h2 := k2.toNat_lt; have h3 := k3.toNat_lt
  have e0 := or_step 0 k0.toNat (by omega) (by omega)
  rw [show wrap64 (((0 : Nat) : Int) * 256) = 0 by unfold wrap64; omega] at e0
  rw [e0, or_step _ k1.toNat (by omega) (by omega), or_step _ k2.toNat (by omega) (by omega), or_step _ k3.toNat (by omega) (by omega)]
  simp [num]
end Go.Proofs.Ytbodbdcmkicmaaa
