import Derived.Test.YtbbelhkdpmcoeaaGreatRows
import Derived.Test.YtbbelhkdpmcoeaaGreatB02
import Derived.Stop.BytesEq
import Derived.Deep.MidRow
import Derived.Deep.WholeRow
import Derived.Deep.QuietTactic
import Derived.BigQuiet
import Derived.Deep.RegionHeld3
import Derived.Laws.CopyRow
import Derived.Laws.CopyOwn
import Derived.Lib.BufferWrite
import Derived.Lib.SlBuf
import Derived.Lib.Bytealg
import Derived.Lib.BytesEntry
import Derived.Handy
import Derived.Sort.Statements
/- Keys as bytes: how one lies in memory, and what the operations on a whole one come to. -/
namespace Go.Proofs.YtbbelhkdpmcoeaaGreat
set_option linter.unusedVariables false
set_option maxRecDepth 100000
open Go.RowKit

/-- A key's bytes as one value. -/
abbrev kv (K : List UInt8) : Value := .agg (bc K).toArray
/-- Noughts. -/
def zs (n : Nat) : List UInt8 := List.replicate n 0
theorem zs_length (n : Nat) : (zs n).length = n := by simp [zs]

/-- A key in block b. -/
structure Has (w : World) (b : Nat) (K : List UInt8) : Prop where
  len : K.length = 24
  blk : w.heap[b]? = some (.cells (bc K).toArray 29 (0, 0))

theorem Tryz.key_info : (Tryz.prog.info? 29).map (·.size) = some 24 := by kernel_rfl
theorem bc_size (K : List UInt8) : (bc K).toArray.size = K.length := by simp [bc]
theorem bc_all (K : List UInt8) : (bc K).toArray.all (·.oneCell') = true := all_oneCell_toArray (bc_one K)

theorem Has.lt {w : World} {b : Nat} {K : List UInt8} (h : Has w b K) : b < w.heap.size := lt_of_block h.blk
theorem Has.below {B : Nat} {w w' : World} {b : Nat} {K : List UInt8} (h : Has w b K) (hb : Below B w w') (hB : b < B) : Has w' b K := ⟨h.len, (hb.block b hB).trans h.blk⟩
theorem Has.touch {w w' : World} {b p : Nat} {K : List UInt8} (h : Has w b K) (ht : Touch p none w w') (hp : b ≠ p) : Has w' b K := ⟨h.len, (ht.block b h.lt hp (by simp)).trans h.blk⟩
theorem Has.alloc {w : World} {b : Nat} {K : List UInt8} (h : Has w b K) (o : Obj) : Has (w.alloc o) b K := ⟨h.len, by rw [Below.heap_alloc _ _ _ h.lt]; exact h.blk⟩
theorem Has.new (w : World) (K : List UInt8) (h : K.length = 24) : Has (w.alloc (.cells (bc K).toArray 29 (0, 0))) w.heap.size K := ⟨h, heap_alloc_new _ _⟩
theorem Has.drewN {w : World} {b : Nat} {K : List UInt8} (h : Has w b K) (k : Nat) : Has (w.drewN k) b K := ⟨h.len, h.blk⟩
theorem Has.cell {w : World} {b : Nat} {K : List UInt8} (h : Has w b K) (j : Nat) (hj : j < 24) : w.cell? ⟨b, j, none⟩ = some (.int .u8 ((K.getD j 0).toNat : Int)) := by
  rw [cell_of_row w b j _ _ _ h.blk]
  have := h.len
  simp [bc, List.getElem?_eq_getElem (show j < K.length by omega)]
theorem Has.free {w : World} {b : Nat} {K : List UInt8} (h : Has w b K) (j : Nat) : w.frozen? ⟨b, j, none⟩ = false := by simp [World.frozen?, h.blk]

theorem touch_setRow (w : World) (b : Nat) (C : Array Value) : Touch b none w (w.setRow b C) := ⟨rfl, rfl, rfl, by simp, fun k _ hk _ => setRow_other w b k C hk⟩
theorem Has.setRow {w : World} {b : Nat} {K : List UInt8} (h : Has w b K) (L : List UInt8) (hl : L.length = 24) : Has (w.setRow b (bc L).toArray) b L := ⟨hl, setRow_heap w b _ _ _ _ h.blk⟩
theorem Has.setCell {w : World} {b : Nat} {K : List UInt8} (h : Has w b K) (j : Nat) (x : UInt8) : Has (w.setCell ⟨b, j, none⟩ (.int .u8 (x.toNat : Int))) b (K.set j x) := by
  refine ⟨by simp [h.len], ?_⟩
  rw [setCell_eq_setRow w b j _ _ _ _ h.blk, setRow_heap w b _ _ _ _ h.blk]
  congr 2
  simp [bc, List.map_set]

theorem below_touched {B p : Nat} {a w w' : World} (h : Below B a w) (t : Touch p none w w') (hp : B ≤ p) (hB : B ≤ a.heap.size) : Below B a w' :=
  h.trans (t.below (by have := h.size; omega) hp (by simp))
theorem below_called {B : Nat} {a w w' : World} (h : Below B a w) (t : Below w.heap.size w w') (hB : B ≤ a.heap.size) : Below B a w' :=
  h.trans (t.mono (by have := h.size; omega))
theorem below_made {B : Nat} {a w : World} (h : Below B a w) (hB : B ≤ a.heap.size) (o : Obj) : Below B a (w.alloc o) := h.alloc (by have := h.size; omega) o
theorem Has.setOther {w : World} {b p : Nat} {K : List UInt8} (h : Has w b K) (hp : b ≠ p) (j : Nat) (u : Value) : Has (w.setCell ⟨p, j, none⟩ u) b K := ⟨h.len, by rw [Below.heap_setCell _ _ _ _ (by simpa using hp)]; exact h.blk⟩

section
variable {ops : Array Oper} {rest : List Oper} {o : Oper} {a : Act} {w : World} {Q : Exit → Act → World → Prop}
theorem load_key (x : Operand) (ho : o.op = .load 29 x) (b : Nat) (hx : a.eval x = .pointer (some ⟨b, 0, none⟩)) (hgd : Region.wanted o (yielded ops a.tmps) = true) (K : List UInt8) (hK : Has w b K)
    (h : wpList Tryz.prog ops Q rest (a.put o.dst (kv K)) w) : wpList Tryz.prog ops Q (o :: rest) a w :=
  BigFrame.wpList_want hgd fun _ hK' => wp_load_row _ x ho b hx _ _ _ _ hK.blk Tryz.underlying29 rfl (by rw [bc_size, hK.len]; exact Tryz.key_info) (hK' _ _ h)
theorem store_key (hgd : o.guard = none) (x y : Operand) (ho : o.op = .store 29 x y) (b : Nat) (hx : a.eval x = .pointer (some ⟨b, 0, none⟩)) (L : List UInt8) (hy : a.eval y = kv L) (hL : L.length = 24) (K : List UInt8) (hK : Has w b K)
    (h : ∀ w', Has w' b L → Touch b none w w' → w'.heap.size = w.heap.size → wpList Tryz.prog ops Q rest (a.put o.dst undef) w') : wpList Tryz.prog ops Q (o :: rest) a w :=
  wpList_store_row hgd _ x y ho b _ hx hy _ _ hK.blk (by rw [bc_size, hL]; exact Tryz.key_info) (by rw [bc_size, bc_size, hL, hK.len]) (bc_all _) (h _ (hK.setRow L hL) (touch_setRow _ _ _) (by simp))
end

theorem eq_key (w : World) (K L : List UInt8) (hK : K.length = 24) (hL : L.length = 24) : (Op.equalIn 10000 29 (kv K) (kv L)).run Tryz.prog w = .ok (K == L) w :=
  run_equalIn_bytes w 9998 29 5 24 Tryz.underlying29 Tryz.underlying5 Tryz.sizeOf5 K L hK hL
theorem list_set4 {α : Type} (l : List α) (o : Nat) (a b c d : α) (h : o + 4 ≤ l.length) : (((l.set o a).set (o + 1) b).set (o + 2) c).set (o + 3) d = l.take o ++ [a, b, c, d] ++ l.drop (o + 4) := by
  apply List.ext_getElem?
  intro j
  simp only [List.getElem?_set, List.getElem?_append, List.length_take, List.length_append, List.length_cons, List.length_nil, List.getElem?_take, List.getElem?_drop, List.length_set]
  rcases Nat.lt_or_ge j o with h1 | h1
  · simp [Nat.min_eq_left (show o ≤ l.length by omega), h1, show j < o + 4 by omega, show ¬ o + 3 = j by omega, show ¬ o + 2 = j by omega, show ¬ o + 1 = j by omega, show ¬ o = j by omega]
  · rcases Nat.lt_or_ge j (o + 4) with h2 | h2
    · obtain ⟨i, rfl⟩ := Nat.exists_eq_add_of_le h1
      have hi : i < 4 := by omega
      match i, hi with
      | 0, _ => simp [Nat.min_eq_left (show o ≤ l.length by omega), show o < l.length by omega]
      | 1, _ => simp [Nat.min_eq_left (show o ≤ l.length by omega), show o + 1 < l.length by omega]; omega
      | 2, _ => simp [Nat.min_eq_left (show o ≤ l.length by omega), show o + 2 < l.length by omega]; omega
      | 3, _ => simp [Nat.min_eq_left (show o ≤ l.length by omega), show o + 3 < l.length by omega]; omega
    · simp [Nat.min_eq_left (show o ≤ l.length by omega), show ¬ j < o + 4 by omega, show ¬ o + 3 = j by omega, show ¬ o + 2 = j by omega, show ¬ o + 1 = j by omega, show ¬ o = j by omega]
      congr 1
      omega

theorem or_byte_i (a b : Nat) (ha : a < 16777216) (hb : b < 256) : bits .or .i64 ((a : Int) * 256) (b : Int) = ((256 * a + b : Nat) : Int) := by
  have e : ((a : Int) * 256) = ((256 * a : Nat) : Int) := by omega
  have e1 := Nat.two_pow_add_eq_or_of_lt (i := 8) (b := b) (by omega) a
  rw [show (2 : Nat) ^ 8 = 256 from rfl] at e1
  rw [e]
  show IntKind.i64.wrap ((BitVec.ofInt 64 ((256 * a : Nat) : Int) ||| BitVec.ofInt 64 (b : Int)).toNat : Int) = _
  rw [BitVec.toNat_or, ofInt_u64 _ (by omega), ofInt_u64 _ (by omega), ← e1, IntKind.wrap_i64]
  omega
theorem or_step (a b : Nat) (ha : a < 16777216) (hb : b < 256) : bits .or .i64 (wrap64 ((a : Int) * 256)) (wrap64 (b : Int)) = ((256 * a + b : Nat) : Int) := by
  rw [show wrap64 ((a : Int) * 256) = (a : Int) * 256 by unfold wrap64; omega, show wrap64 (b : Int) = (b : Int) by unfold wrap64; omega]
  exact or_byte_i a b ha hb
theorem or_four (k0 k1 k2 k3 : UInt8) : bits .or .i64 (wrap64 (bits .or .i64 (wrap64 (bits .or .i64 (wrap64 (bits .or .i64 0 (wrap64 (k0.toNat : Int)) * 256)) (wrap64 (k1.toNat : Int)) * 256)) (wrap64 (k2.toNat : Int)) * 256)) (wrap64 (k3.toNat : Int)) = (num [k0, k1, k2, k3] : Int) := by
  have h0 := k0.toNat_lt; have h1 := k1.toNat_lt; have h2 := k2.toNat_lt; have h3 := k3.toNat_lt
  have e0 := or_step 0 k0.toNat (by omega) (by omega)
  rw [show wrap64 (((0 : Nat) : Int) * 256) = 0 by unfold wrap64; omega] at e0
  rw [e0, or_step _ k1.toNat (by omega) (by omega), or_step _ k2.toNat (by omega) (by omega), or_step _ k3.toNat (by omega) (by omega)]
  simp [num]
end Go.Proofs.YtbbelhkdpmcoeaaGreat
/- Sets of keys, as plain mathematics: spans as numbers, clean lists, one set of the same keys; the sweep over edges. -/
namespace Go.Proofs.YtbbelhkdpmcoeaaGreat
set_option linter.unusedVariables false
set_option maxRecDepth 100000
open Go.RowKit

/-! Keys as numbers. -/
theorem foldl_split : ∀ (l : List UInt8) (a : Nat), l.foldl (fun a b => 256 * a + b.toNat) a = a * 256 ^ l.length + num l
  | [], a => by simp [num]
  | b :: l, a => by
    have e : num (b :: l) = List.foldl (fun a b => 256 * a + b.toNat) (256 * 0 + b.toNat) l := rfl
    rw [e, List.foldl_cons, foldl_split l (256 * a + b.toNat), foldl_split l (256 * 0 + b.toNat), List.length_cons, Nat.pow_succ, Nat.add_mul, Nat.add_mul]
    rw [show 256 * a * 256 ^ l.length = a * (256 ^ l.length * 256) by rw [Nat.mul_comm 256 a, Nat.mul_assoc, Nat.mul_comm 256]]
    simp [Nat.add_assoc]
theorem num_cons (b : UInt8) (l : List UInt8) : num (b :: l) = b.toNat * 256 ^ l.length + num l := by
  rw [num, List.foldl_cons, foldl_split]
  simp
theorem less_num : ∀ (K L : List UInt8), K.length = L.length → Op.bytesLess K L = decide (num K < num L)
  | [], [], _ => rfl
  | [], _ :: _, h => by cases h
  | _ :: _, [], h => by cases h
  | a :: xs, b :: ys, h => by
    have hl : xs.length = ys.length := by simpa using h
    have ih := less_num xs ys hl
    have hx := num_lt xs
    have hy := num_lt ys
    rw [Op.bytesLess, num_cons, num_cons, hl, ih]
    rw [hl] at hx
    generalize 256 ^ ys.length = M at *
    have hab : a = b ↔ a.toNat = b.toNat := UInt8.toNat_inj.symm
    have hlt : a < b ↔ a.toNat < b.toNat := UInt8.lt_iff_toNat_lt
    rcases Nat.lt_trichotomy a.toNat b.toNat with h1 | h1 | h1
    · have e : a.toNat * M + num xs < b.toNat * M + num ys := by
        have := Nat.mul_le_mul_right M (show a.toNat + 1 ≤ b.toNat from h1)
        rw [Nat.add_mul, Nat.one_mul] at this
        omega
      have n1 : a < b := hlt.2 h1
      simp [n1, e]
    · have e : a = b := hab.2 h1
      subst e
      simp
    · have e : ¬ a.toNat * M + num xs < b.toNat * M + num ys := by
        have := Nat.mul_le_mul_right M (show b.toNat + 1 ≤ a.toNat from h1)
        rw [Nat.add_mul, Nat.one_mul] at this
        omega
      have n1 : ¬ a < b := fun q => by have := hlt.1 q; omega
      have n2 : ¬ a = b := fun q => by have := hab.1 q; omega
      simp [n1, n2, e]
theorem num_inj : ∀ (K L : List UInt8), K.length = L.length → num K = num L → K = L
  | [], [], _, _ => rfl
  | [], _ :: _, h, _ => by cases h
  | _ :: _, [], h, _ => by cases h
  | a :: xs, b :: ys, h, he => by
    have hl : xs.length = ys.length := by simpa using h
    have hx := num_lt xs
    have hy := num_lt ys
    rw [num_cons, num_cons, hl] at he
    rw [hl] at hx
    have h0 : a.toNat = b.toNat := by
      generalize 256 ^ ys.length = M at *
      rcases Nat.lt_trichotomy a.toNat b.toNat with h1 | h1 | h1
      · have := Nat.mul_le_mul_right M (show a.toNat + 1 ≤ b.toNat from h1)
        rw [Nat.add_mul, Nat.one_mul] at this
        omega
      · exact h1
      · have := Nat.mul_le_mul_right M (show b.toNat + 1 ≤ a.toNat from h1)
        rw [Nat.add_mul, Nat.one_mul] at this
        omega
    rw [h0] at he
    rw [UInt8.toNat_inj.1 h0, num_inj xs ys hl (by omega)]

/-! Spans. -/
structure Sp where
  F : List UInt8
  T : List UInt8
  e : Bool
  hF : F.length = 24
  hT : T.length = 24
theorem Sp.ext' {s u : Sp} (h1 : s.F = u.F) (h2 : s.T = u.T) (h3 : s.e = u.e) : s = u := by
  cases s; cases u; simp at h1 h2 h3; subst h1 h2 h3; rfl
/-- Is the key of this number in the span? -/
def Sp.inb (s : Sp) (x : Int) : Bool := decide ((num s.F : Int) ≤ x) && (s.e || decide (x < (num s.T : Int)))
def mem (l : List Sp) (x : Int) : Bool := l.any fun s => s.inb x
theorem mem_nil (x : Int) : mem [] x = false := rfl
theorem mem_cons (s : Sp) (l : List Sp) (x : Int) : mem (s :: l) x = (s.inb x || mem l x) := rfl
theorem mem_append (l m : List Sp) (x : Int) : mem (l ++ m) x = (mem l x || mem m x) := by simp [mem]
/-- A set that begins above lo. -/
def SetFrom : Int → List Sp → Prop
  | _, [] => True
  | lo, s :: r => lo < (num s.F : Int) ∧ (s.e = true ∧ r = [] ∧ s.T = zs 24 ∨ s.e = false ∧ (num s.F : Int) < (num s.T : Int) ∧ SetFrom (num s.T) r)
theorem SetFrom.lt : ∀ {lo : Int} {l : List Sp} {x : Int}, SetFrom lo l → mem l x = true → lo < x
  | _, [], _, _, h => by cases h
  | lo, s :: r, x, ⟨h1, h2⟩, h => by
    rw [mem_cons, Bool.or_eq_true] at h
    rcases h with h | h
    · simp only [Sp.inb, Bool.and_eq_true, decide_eq_true_eq] at h
      omega
    · rcases h2 with ⟨_, rfl, _⟩ | ⟨_, h3, h4⟩
      · cases h
      · have := SetFrom.lt h4 h
        omega
theorem SetFrom.mono {lo lo' : Int} {l : List Sp} (h : SetFrom lo l) (hl : lo' ≤ lo) : SetFrom lo' l := by
  cases l with
  | nil => trivial
  | cons s r => exact ⟨by have := h.1; omega, h.2⟩
theorem SetFrom.first {lo : Int} {s : Sp} {r : List Sp} (h : SetFrom lo (s :: r)) : s.inb (num s.F) = true := by
  rcases h.2 with ⟨h1, _⟩ | ⟨h1, h2, _⟩
  · simp [Sp.inb, h1]
  · simp [Sp.inb, h1, h2]
/-- There is one set of the same keys. -/
theorem SetFrom.unique : ∀ {l m : List Sp} {lo lo' : Int}, SetFrom lo l → SetFrom lo' m → (∀ K : List UInt8, K.length = 24 → mem l (num K) = mem m (num K)) → l = m
  | [], [], _, _, _, _, _ => rfl
  | [], u :: q, _, _, _, hm, h => by
    have := h u.F u.hF
    rw [mem_nil, mem_cons, hm.first] at this
    cases this
  | s :: r, [], _, _, hl, _, h => by
    have := h s.F s.hF
    rw [mem_nil, mem_cons, hl.first] at this
    cases this
  | s :: r, u :: q, lo, lo', hl, hm, h => by
    have lowS : ∀ x : Int, mem (s :: r) x = true → (num s.F : Int) ≤ x := fun x hx => by
      rw [mem_cons, Bool.or_eq_true] at hx
      rcases hx with hx | hx
      · simp only [Sp.inb, Bool.and_eq_true, decide_eq_true_eq] at hx; omega
      · rcases hl.2 with ⟨_, rfl, _⟩ | ⟨_, h3, h4⟩
        · cases hx
        · have := h4.lt hx; omega
    have lowU : ∀ x : Int, mem (u :: q) x = true → (num u.F : Int) ≤ x := fun x hx => by
      rw [mem_cons, Bool.or_eq_true] at hx
      rcases hx with hx | hx
      · simp only [Sp.inb, Bool.and_eq_true, decide_eq_true_eq] at hx; omega
      · rcases hm.2 with ⟨_, rfl, _⟩ | ⟨_, h3, h4⟩
        · cases hx
        · have := h4.lt hx; omega
    have hs := hl.first
    have hu := hm.first
    have e1 : s.F = u.F := by
      apply num_inj _ _ (by rw [s.hF, u.hF])
      have a1 := lowU (num s.F) (by rw [← h s.F s.hF, mem_cons, hs]; rfl)
      have a2 := lowS (num u.F) (by rw [h u.F u.hF, mem_cons, hu]; rfl)
      omega
    have endS : s.e = false → mem (s :: r) (num s.T) = false := fun he => by
      rw [mem_cons, Bool.or_eq_false_iff]
      refine ⟨by simp [Sp.inb, he], ?_⟩
      rcases hl.2 with ⟨h1, _⟩ | ⟨_, _, h4⟩
      · rw [he] at h1; cases h1
      · cases hx : mem r (num s.T) with
        | false => rfl
        | true => have := h4.lt hx; omega
    have endU : u.e = false → mem (u :: q) (num u.T) = false := fun he => by
      rw [mem_cons, Bool.or_eq_false_iff]
      refine ⟨by simp [Sp.inb, he], ?_⟩
      rcases hm.2 with ⟨h1, _⟩ | ⟨_, _, h4⟩
      · rw [he] at h1; cases h1
      · cases hx : mem q (num u.T) with
        | false => rfl
        | true => have := h4.lt hx; omega
    rcases hl.2 with ⟨se, rfl, sT⟩ | ⟨se, sl, hr⟩
    · rcases hm.2 with ⟨ue, rfl, uT⟩ | ⟨ue, ul, hq⟩
      · rw [Sp.ext' e1 (by rw [sT, uT]) (by rw [se, ue])]
      · have h1 := endU ue
        rw [← h u.T u.hT, mem_cons, Bool.or_eq_false_iff] at h1
        have h2 := h1.1
        simp [Sp.inb, se, e1] at h2
        omega
    · rcases hm.2 with ⟨ue, rfl, uT⟩ | ⟨ue, ul, hq⟩
      · have h1 := endS se
        rw [h s.T s.hT, mem_cons, Bool.or_eq_false_iff] at h1
        have h2 := h1.1
        simp [Sp.inb, ue, ← e1] at h2
        omega
      · have e2 : s.T = u.T := by
          apply num_inj _ _ (by rw [s.hT, u.hT])
          have h1 := endS se
          have h2 := endU ue
          rw [h s.T s.hT, mem_cons, Bool.or_eq_false_iff] at h1
          rw [← h u.T u.hT, mem_cons, Bool.or_eq_false_iff] at h2
          have h3 := h1.1
          have h4 := h2.1
          simp [Sp.inb, ue, ← e1] at h3
          simp [Sp.inb, se, e1] at h4
          rw [e1] at sl h3
          omega
        have e3 : s = u := Sp.ext' e1 e2 (by rw [se, ue])
        subst e3
        have e4 : r = q := SetFrom.unique hr hq fun K hK => by
          have h1 := h K hK
          rw [mem_cons, mem_cons] at h1
          by_cases hx : (num s.T : Int) < num K
          · have : s.inb (num K) = false := by simp [Sp.inb, se]; omega
            rw [this] at h1
            simpa using h1
          · have a1 : mem r (num K) = false := by
              cases hz : mem r (num K) with
              | false => rfl
              | true => exact absurd (hr.lt hz) hx
            have a2 : mem q (num K) = false := by
              cases hz : mem q (num K) with
              | false => rfl
              | true => exact absurd (hq.lt hz) hx
            rw [a1, a2]
        rw [e4]
/-- The set of the keys of which g says so. -/
def Is (l : List Sp) (g : Int → Bool) : Prop := SetFrom (-1) l ∧ ∀ K : List UInt8, K.length = 24 → mem l (num K) = g (num K)
theorem Is.unique {l m : List Sp} {g h : Int → Bool} (hl : Is l g) (hm : Is m h) (he : ∀ K : List UInt8, K.length = 24 → g (num K) = h (num K)) : l = m :=
  hl.1.unique hm.1 fun K hK => by rw [hl.2 K hK, hm.2 K hK, he K hK]
theorem Is.none {l : List Sp} {g : Int → Bool} (hl : Is l g) (h : ∀ K : List UInt8, K.length = 24 → g (num K) = false) : l = [] :=
  hl.unique (m := []) (h := fun _ => false) ⟨trivial, fun _ _ => rfl⟩ h
theorem Is.some {l : List Sp} {g : Int → Bool} (hl : Is l g) (h : l ≠ []) : ∃ K : List UInt8, K.length = 24 ∧ g (num K) = true := by
  cases l with
  | nil => exact absurd rfl h
  | cons s r => exact ⟨s.F, s.hF, by rw [← hl.2 s.F s.hF, mem_cons, hl.1.first]; rfl⟩
end Go.Proofs.YtbbelhkdpmcoeaaGreat
/- What the statements of stage 9 come to (mathematics). -/
namespace Go.Proofs.YtbbelhkdpmcoeaaGreat
set_option linter.unusedVariables false
set_option maxRecDepth 100000

theorem Pa.same {p q : Pa} (h : p.n = q.n) (hv : p.v = q.v) : p = q := by
  obtain ⟨k, hk, v⟩ := p
  obtain ⟨k', hk', v'⟩ := q
  have : k = k' := num_inj k k' (by rw [hk, hk']) (by have e : (num k : Int) = (num k' : Int) := h; omega)
  subst this
  have e : v = v' := hv
  subst e
  rfl
/-- One pair at most, and of this key. -/
def At (x : Int) (o : Option Pa) : Prop := ∀ p, o = some p → p.n = x
theorem at_last (l : List Pa) (x : Int) : At x (lastA Pa.n l x) := fun _ h => (lastA_key Pa.n h).2
theorem diffA_same (A : Option Pa) : diffA A A = none := by
  cases A with
  | none => rfl
  | some p => simp [diffA]
theorem diffA_done {x : Int} {A B : Option Pa} (hA : At x A) (hB : At x B) (h : A ≠ B) (X : Option Pa) : doneA (diffA A B) X = B ∧ diffA A B ≠ none := by
  cases A with
  | none =>
    cases B with
    | none => exact absurd rfl h
    | some q => exact ⟨rfl, by simp [diffA]⟩
  | some p =>
    cases B with
    | none => exact ⟨rfl, by simp [diffA]⟩
    | some q =>
      have hv : p.v ≠ q.v := fun e => h (by rw [Pa.same ((hA p rfl).trans (hB q rfl).symm) e])
      rw [diffA, if_neg hv]
      exact ⟨rfl, by simp⟩
theorem diffA_self {x : Int} {A B : Option Pa} (hA : At x A) (hB : At x B) : doneA (diffA A B) A = B := by
  by_cases h : A = B
  · rw [h, diffA_same]; rfl
  · exact (diffA_done hA hB h A).1
theorem diffA_none {x : Int} {A B : Option Pa} (hA : At x A) (hB : At x B) (h : diffA A B = none) : A = B := by
  by_cases e : A = B
  · exact e
  · exact absurd h (diffA_done hA hB e none).2
theorem doneA_plain (o : Option Ch) (p : Option Pa) : doneA (o.map Ch.plain) p = doneA o p := by
  cases o with
  | none => rfl
  | some c =>
    simp only [Option.map_some, doneA, Ch.plain]
    cases h : c.g <;> simp [h]
theorem doneA_or (c d : Option Ch) (p : Option Pa) : doneA (d.or c) p = doneA d (doneA c p) := by
  cases d <;> rfl
/-! Diff. -/
theorem diff_apply {a b : List Pa} {d : List Ch} {m n : List Pa} (hd : DiffIs a b d) (hm : ApplyIs a d m) (hn : MapIs b n) : m = n :=
  asc_ext Pa.n hm.1 hn.1 fun x => by rw [hm.2, hn.2, hd.last]; exact diffA_self (at_last a x) (at_last b x)
theorem diff_none {a : List Pa} {d : List Ch} (hd : DiffIs a a d) : d = [] :=
  asc_ext Ch.n hd.1 List.Pairwise.nil fun x => by rw [hd.2, diffA_same]; rfl
theorem diff_less {a b : List Pa} {I J : List Ch} {c : Ch} {m n : List Pa} (hd : DiffIs a b (I ++ c :: J)) (hm : ApplyIs a (I ++ J) m) (hn : MapIs b n) : m ≠ n := fun e => by
  subst e
  have hp := List.pairwise_append.1 hd.1
  have hq := List.pairwise_cons.1 hp.2.1
  have h1 : lastA Ch.n (I ++ J) c.n = none := by
    cases h : lastA Ch.n (I ++ J) c.n with
    | none => rfl
    | some z =>
      obtain ⟨hz, hk⟩ := lastA_key Ch.n h
      rcases List.mem_append.1 hz with q | q
      · have := hp.2.2 z q c (by simp); omega
      · have := hq.1 z q; omega
  have h2 := hm.2 c.n
  rw [h1, hn.2] at h2
  have h3 := hd.2 c.n
  rw [look_mem Ch.n hd.1 (by simp)] at h3
  have h4 : lastA Pa.n b c.n = lastA Pa.n a c.n := h2
  rw [h4, diffA_same] at h3
  cases h3
/-! Join. -/
theorem join_apply {a m n n' : List Pa} {x y j : List Ch} (hm : ApplyIs a x m) (hn : ApplyIs m y n) (hj : JoinIs (x ++ y) j) (h : ApplyIs a j n') : n = n' :=
  asc_ext Pa.n hn.1 h.1 fun t => by rw [hn.2, h.2, hm.last, hj.last, doneA_plain, lastA_append, doneA_or]
theorem join_again {l j k : List Ch} (hj : JoinIs l j) (hk : JoinIs j k) : k = j :=
  asc_ext Ch.n hk.1 hj.1 fun t => by
    rw [hk.2, hj.last, hj.2]
    cases lastA Ch.n l t with
    | none => rfl
    | some c => simp [Ch.plain_plain]
theorem join_three {x y jx j k : List Ch} (hx : JoinIs x jx) (hk : JoinIs (jx ++ y) k) (hj : JoinIs (x ++ y) j) : k = j :=
  asc_ext Ch.n hk.1 hj.1 fun t => by
    rw [hk.2, hj.2, lastA_append, lastA_append, hx.last]
    cases lastA Ch.n y t with
    | some c => rfl
    | none =>
      cases lastA Ch.n x t with
      | none => rfl
      | some c => simp [Ch.plain_plain]
/-! Merge: theirs with the delta of base and mine in it. -/
/-- Does this key clash? -/
def Clash (b t n : List Pa) (x : Int) : Prop := lastA Pa.n b x ≠ lastA Pa.n n x ∧ lastA Pa.n b x ≠ lastA Pa.n t x ∧ lastA Pa.n t x ≠ lastA Pa.n n x
theorem clash_turned (b t n : List Pa) (x : Int) : Clash b t n x ↔ Clash b n t x := ⟨fun h => ⟨h.2.1, h.1, fun e => h.2.2 e.symm⟩, fun h => ⟨h.2.1, h.1, fun e => h.2.2 e.symm⟩⟩
theorem merge_turned {b t n m m' : List Pa} {d d' : List Ch} (hd : DiffIs b n d) (hd' : DiffIs b t d') (hm : ApplyIs t d m) (hm' : ApplyIs n d' m') (hc : ∀ x, ¬ Clash b t n x) : m = m' :=
  asc_ext Pa.n hm.1 hm'.1 fun x => by
    have c := hc x
    unfold Clash at c
    rw [hm.2, hm'.2, hd.last, hd'.last]
    have hB := at_last b x
    have hT := at_last t x
    have hN := at_last n x
    generalize lastA Pa.n b x = B at *
    generalize lastA Pa.n t x = T at *
    generalize lastA Pa.n n x = N at *
    by_cases e1 : B = N
    · subst e1
      rw [diffA_same, diffA_self hB hT]
      rfl
    · by_cases e2 : B = T
      · subst e2
        rw [diffA_same, diffA_self hB hN]
        rfl
      · have e3 : T = N := Classical.byContradiction fun e => c ⟨e1, e2, e⟩
        rw [(diffA_done hB hN e1 T).1, (diffA_done hB hT e2 N).1, e3]
theorem merge_one {t n m k : List Pa} {d : List Ch} (hd : DiffIs t n d) (hm : ApplyIs t d m) (hk : MapIs n k) : m = k := diff_apply hd hm hk
theorem merge_two {t n m k : List Pa} {d : List Ch} (hd : DiffIs n n d) (hm : ApplyIs t d m) (hk : MapIs t k) : m = k := by
  have := diff_none hd
  subst this
  exact asc_ext Pa.n hm.1 hk.1 fun x => by rw [hm.2, hk.2]; rfl
/-- Who changes other keys does not clash, and all changes are there. -/
theorem merge_apart {b t n m m' : List Pa} {x y d j : List Ch} (ht : ApplyIs b x t) (hn : ApplyIs b y n) (hd : DiffIs b n d) (hm : ApplyIs t d m) (hj : JoinIs (x ++ y) j) (hm' : ApplyIs b j m') (hap : ∀ k, lastA Ch.n x k = none ∨ lastA Ch.n y k = none) : m = m' ∧ ∀ k, ¬ Clash b t n k := by
  refine ⟨asc_ext Pa.n hm.1 hm'.1 fun k => ?_, fun k h => ?_⟩
  · rw [hm.2, hm'.2, hd.last, hj.last, doneA_plain, lastA_append, doneA_or, ht.last]
    have hB := at_last b k
    have hN := at_last n k
    have e := hn.last k
    rcases hap k with q | q
    · rw [q]
      show doneA (diffA (lastA Pa.n b k) (lastA Pa.n n k)) (lastA Pa.n b k) = doneA (lastA Ch.n y k) (lastA Pa.n b k)
      rw [← e]
      exact diffA_self hB hN
    · rw [q] at e
      have e' : lastA Pa.n n k = lastA Pa.n b k := e
      rw [e', diffA_same, q]
  · rcases hap k with q | q
    · have e := ht.last k
      rw [q] at e
      exact h.2.1 e.symm
    · have e := hn.last k
      rw [q] at e
      exact h.1 e.symm
end Go.Proofs.YtbbelhkdpmcoeaaGreat
/- The document's Diff and Merge as lists (mathematics). -/
namespace Go.Proofs.YtbbelhkdpmcoeaaGreat
set_option linter.unusedVariables false
set_option maxRecDepth 100000

theorem Ch.same {p q : Ch} (h : p.n = q.n) (hv : p.v = q.v) (hg : p.g = q.g) : p = q := by
  obtain ⟨k, hk, v, g⟩ := p
  obtain ⟨k', hk', v', g'⟩ := q
  have : k = k' := num_inj k k' (by rw [hk, hk']) (by have e : (num k : Int) = (num k' : Int) := h; omega)
  subst this
  have e : v = v' := hv
  subst e
  have e : g = g' := hg
  subst e
  rfl
section
variable {α β : Type} {key : α → Int} {key' : β → Int}
theorem fm_asc {l : List α} {f : α → Option β} (hf : ∀ a ∈ l, ∀ b, f a = some b → key' b = key a) (h : Asc key l) : Asc key' (l.filterMap f) := by
  induction l with
  | nil => exact List.Pairwise.nil
  | cons a r ih =>
    have hp := List.pairwise_cons.1 h
    have hr := ih (fun c hc b hb => hf c (by simp [hc]) b hb) hp.2
    cases e : f a with
    | none => rw [List.filterMap_cons_none e]; exact hr
    | some b =>
      rw [List.filterMap_cons_some e]
      refine List.pairwise_cons.2 ⟨fun c hc => ?_, hr⟩
      obtain ⟨z, hz, hb⟩ := List.mem_filterMap.1 hc
      have h1 := hf a (by simp) b e
      have h2 := hf z (by simp [hz]) c hb
      have h3 := hp.1 z hz
      omega
theorem fm_look {l : List α} {f : α → Option β} (hf : ∀ a ∈ l, ∀ b, f a = some b → key' b = key a) (h : Asc key l) (x : Int) : look key' (l.filterMap f) x = (look key l x).bind f := by
  induction l with
  | nil => rfl
  | cons a r ih =>
    have hp := List.pairwise_cons.1 h
    have hf' : ∀ c ∈ r, ∀ b, f c = some b → key' b = key c := fun c hc b hb => hf c (by simp [hc]) b hb
    have hr := ih hf' hp.2
    simp only [look]
    cases e : f a with
    | none =>
      rw [List.filterMap_cons_none e, hr]
      by_cases q : key a = x
      · rw [if_pos q, look_low key (fun c hc => by have := hp.1 c hc; omega)]
        simp [e]
      · rw [if_neg q]
    | some b =>
      have h1 := hf a (by simp) b e
      rw [List.filterMap_cons_some e]
      simp only [look]
      by_cases q : key a = x
      · rw [if_pos q, if_pos (by omega)]
        simp [e]
      · rw [if_neg q, if_neg (by omega), hr]
end
/-- What Diff puts in for a pair of the first map. -/
def dfA (b : List Pa) (p : Pa) : Option Ch := match look Pa.n b p.n with
  | none => some ⟨p.k, p.h, [], true⟩
  | some q => if q.v = p.v then none else some ⟨p.k, p.h, q.v, false⟩
/-- What Diff puts in for a pair of the second map. -/
def dfB (a : List Pa) (q : Pa) : Option Ch := match look Pa.n a q.n with
  | none => some ⟨q.k, q.h, q.v, false⟩
  | some _ => none
theorem dfA_n (b : List Pa) (p : Pa) (c : Ch) (h : dfA b p = some c) : c.n = p.n := by
  unfold dfA at h
  split at h
  · cases h; rfl
  · split at h
    · cases h
    · cases h; rfl
theorem dfB_n (a : List Pa) (q : Pa) (c : Ch) (h : dfB a q = some c) : c.n = q.n := by
  unfold dfB at h
  split at h
  · cases h; rfl
  · cases h
/-- The document's Diff, of two maps. -/
theorem diff_is {a b A B : List Pa} (hA : MapIs a A) (hB : MapIs b B) : DiffIs a b ((A.filterMap (dfA B) ++ B.filterMap (dfB A)).foldl (putA Ch.n) []) := by
  have h := puts_is Ch.n (A.filterMap (dfA B) ++ B.filterMap (dfB A)) [] List.Pairwise.nil
  refine ⟨h.1, fun x => ?_⟩
  rw [h.2, lastA_append, lastA_asc Ch.n (fm_asc (fun p _ c => dfA_n B p c) hA.1), lastA_asc Ch.n (fm_asc (fun p _ c => dfB_n A p c) hB.1),
    fm_look (fun p _ c => dfA_n B p c) hA.1, fm_look (fun p _ c => dfB_n A p c) hB.1, ← hA.2, ← hB.2]
  simp only [look, Option.or_none]
  cases ea : look Pa.n A x with
  | none =>
    cases eb : look Pa.n B x with
    | none => rfl
    | some q =>
      have hq := (look_key Pa.n eb).2
      simp [dfB, hq, ea, diffA]
  | some p =>
    have hp := (look_key Pa.n ea).2
    cases eb : look Pa.n B x with
    | none => simp [dfA, hp, eb, diffA]
    | some q =>
      have hq := (look_key Pa.n eb).2
      simp only [Option.bind_some, dfA, dfB, hp, hq, ea, eb, Option.none_or, diffA]
      by_cases e : p.v = q.v
      · rw [if_pos e, if_pos e.symm]
      · rw [if_neg e, if_neg (fun r => e r.symm)]
        exact congrArg some (Ch.same (show (num p.k : Int) = (num q.k : Int) from hp.trans hq.symm) rfl rfl)
/-- A delta's changes are as a delta holds them. -/
theorem diffA_plain (A B : Option Pa) (c : Ch) (h : diffA A B = some c) : c.plain = c := by
  unfold diffA at h
  split at h
  · cases h
  · cases h; rfl
  · cases h; rfl
  · split at h
    · cases h
    · cases h; rfl
end Go.Proofs.YtbbelhkdpmcoeaaGreat
/- The document's Merge: its clashes (mathematics). -/
namespace Go.Proofs.YtbbelhkdpmcoeaaGreat
set_option linter.unusedVariables false
set_option maxRecDepth 100000

structure Kz where
  k : List UInt8
  h : k.length = 24
def Kz.n (x : Kz) : Int := (num x.k : Int)
theorem Kz.same {p q : Kz} (h : p.n = q.n) : p = q := by
  obtain ⟨k, hk⟩ := p
  obtain ⟨k', hk'⟩ := q
  have : k = k' := num_inj k k' (by rw [hk, hk']) (by have e : (num k : Int) = (num k' : Int) := h; omega)
  subst this
  rfl
/-- The keys that clash, rising. -/
def ClashIs (b t n : List Pa) (l : List Kz) : Prop := Asc Kz.n l ∧ ∀ K : Kz, K ∈ l ↔ Clash b t n K.n
theorem ClashIs.unique {b t n : List Pa} {l m : List Kz} (h : ClashIs b t n l) (h' : ClashIs b t n m) : l = m :=
  asc_ext Kz.n h.1 h'.1 fun x => by
    cases e : look Kz.n l x with
    | some a =>
      obtain ⟨h1, h2⟩ := look_key Kz.n e
      rw [← h2, look_mem Kz.n h'.1 ((h'.2 a).2 ((h.2 a).1 h1))]
    | none =>
      cases e2 : look Kz.n m x with
      | none => rfl
      | some a =>
        obtain ⟨h1, h2⟩ := look_key Kz.n e2
        exact absurd h2 ((look_none Kz.n).1 e a ((h.2 a).2 ((h'.2 a).1 h1)))
theorem ClashIs.turned {b t n : List Pa} {l m : List Kz} (h : ClashIs b t n l) (h' : ClashIs b n t m) : l = m := h.unique ⟨h'.1, fun K => (h'.2 K).trans (clash_turned b t n K.n).symm⟩
theorem ClashIs.nil {b t n : List Pa} {l : List Kz} (h : ClashIs b t n l) (hn : ∀ x, ¬ Clash b t n x) : l = [] := by
  cases l with
  | nil => rfl
  | cons a r => exact absurd ((h.2 a).1 (by simp)) (hn _)
theorem ClashIs.none {b t n : List Pa} (h : ClashIs b t n []) (x : Int) : ¬ Clash b t n x := fun c => by
  have : ∃ K : Kz, K.n = x := by
    have h1 := c.1
    cases e : lastA Pa.n b x with
    | some p => exact ⟨⟨p.k, p.h⟩, (lastA_key Pa.n e).2⟩
    | none =>
      cases e2 : lastA Pa.n n x with
      | some p => exact ⟨⟨p.k, p.h⟩, (lastA_key Pa.n e2).2⟩
      | none => rw [e, e2] at h1; exact absurd rfl h1
  obtain ⟨K, rfl⟩ := this
  have := (h.2 K).2 c
  cases this
/-- The document's own way: those of the delta of base and mine that theirs has changed too, and not to the same. -/
theorem clash_is {b t n : List Pa} {d : List Ch} (hd : DiffIs b n d) (f : Ch → Bool) (hf : ∀ c ∈ d, f c = true ↔ lastA Pa.n b c.n ≠ lastA Pa.n t c.n ∧ lastA Pa.n t c.n ≠ lastA Pa.n n c.n) : ClashIs b t n (d.filterMap fun c => if f c then some ⟨c.k, c.h⟩ else none) := by
  have hk : ∀ c ∈ d, ∀ K : Kz, (if f c then some (⟨c.k, c.h⟩ : Kz) else none) = some K → K.n = c.n := fun c _ K h => by
    split at h
    · cases h; rfl
    · cases h
  refine ⟨fm_asc hk hd.1, fun K => ?_⟩
  rw [List.mem_filterMap]
  constructor
  · rintro ⟨c, hc, h⟩
    have hn := hk c hc K h
    split at h
    · rename_i q
      have h2 := (hf c hc).1 q
      rw [← hn] at h2
      refine ⟨fun e => ?_, h2⟩
      have h3 := hd.2 c.n
      rw [look_mem Ch.n hd.1 hc, ← hn, e, diffA_same] at h3
      cases h3
    · cases h
  · intro h
    have hB := at_last b K.n
    have hN := at_last n K.n
    obtain ⟨c, hc⟩ := Option.ne_none_iff_exists'.1 (diffA_done hB hN h.1 none).2
    have h3 := hd.2 K.n
    rw [hc] at h3
    obtain ⟨h4, h5⟩ := look_key Ch.n h3
    refine ⟨c, h4, ?_⟩
    rw [if_pos ((hf c h4).2 (by rw [h5]; exact h.2))]
    exact congrArg some (Kz.same h5)
end Go.Proofs.YtbbelhkdpmcoeaaGreat
