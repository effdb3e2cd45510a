import Derived.OrdersHeld
import Derived.WalkKit
import Derived.Test.YtdmindhjmjnagaaGreatDoorRows
import Derived.ProofKit
import Derived.OpenShut
import Derived.ShutString
import Derived.ChangeOld
import Derived.Below
import Derived.Deep.Slices
import Derived.WalkSpells
import Derived.WalkLawsBesides
import Derived.Lib.AppendStr
import Derived.Deep.AppendLies
import Derived.Laws.Tables
import Derived.Laws.StructEq
import Derived.Laws.CopyRow
import Derived.Stop.BytesEq
import Derived.Deep.MidRow
import Derived.Deep.WholeRow
import Derived.Deep.QuietTactic
import Derived.BigQuiet
import Derived.Deep.RegionHeld3
import Derived.Laws.CopyOwn
import Derived.Lib.BufferWrite
import Derived.Lib.SlBuf
import Derived.Lib.Bytealg
import Derived.Lib.BytesEntry
import Derived.Handy
/- Tk RowKit Base Be Arr KeyA -/
namespace Go.Proofs.YtdmindhjmjnagaaGreatDoor
set_option linter.unusedVariables false
set_option maxRecDepth 1000000
set_option maxHeartbeats 32000000
section
theorem tk {P : Program} {md : Region.Mode} {ops : Array Oper} {Q : Exit → Act → World → Prop} {S : World → Prop} (i : Nat) {oi : Oper} {v : Value} {fuel : Nat} {listed : Array Bool} {a : Act} {w : World} (hi : ops[i]? = some oi) (hS : S w) (hy : YieldsIf P ops S oi v a)
    (h : wpAnyH P md ops Q S fuel (listed.setIfInBounds i true) (a.put oi.dst v) w)
    (hs : Region.noSelect ops = true := by kernel_rfl) (hf : Region.free md ops listed i = true := by kernel_rfl) (hr : (Region.ready md ops listed).contains i = true := by kernel_rfl)
    (hQ : ∀ c a w, Q (.panic c) (a.put oi.dst v) w → Q (.panic c) a w := by exact fun _ _ _ h => h) : wpAnyH P md ops Q S (fuel + 1) listed a w := wpAnyH_take hi hs hf hr hQ hy hS h
theorem tl {P : Program} {md : Region.Mode} {ops : Array Oper} {Q : Exit → Act → World → Prop} {S : World → Prop} (v : Value) (i : Nat) {oi : Oper} {fuel : Nat} {listed : Array Bool} {a : Act} {w : World} (hi : ops[i]? = some oi) (hS : S w)
    (hy : Region.wanted oi (yielded ops a.tmps) = true ∧ ∀ w, S w → (execOp a.eval oi).run P w = .ok (.value v) w)
    (h : wpAnyH P md ops Q S fuel (listed.setIfInBounds i true) (a.put oi.dst v) w)
    (hs : Region.noSelect ops = true := by kernel_rfl) (hf : Region.free md ops listed i = true := by kernel_rfl) (hr : (Region.ready md ops listed).contains i = true := by kernel_rfl)
    (hQ : ∀ c a w, Q (.panic c) (a.put oi.dst v) w → Q (.panic c) a w := by exact fun _ _ _ h => h) : wpAnyH P md ops Q S (fuel + 1) listed a w := tk i hi hS (Or.inl hy) h hs hf hr hQ
end
section
theorem Tryz.own : ownKnob Tryz.prog.godebug = none := by kernel_rfl
theorem Tryz.laidOut : laidOutB Tryz.prog = true := by kernel_rfl
end
section
open Go.RowKit
def bc (l : List UInt8) : List Value := l.map fun b => Value.int .u8 b.toNat
theorem bc_length (l : List UInt8) : (bc l).length = l.length := by simp [bc]
theorem bc_append (a b : List UInt8) : bc (a ++ b) = bc a ++ bc b := by simp [bc]
theorem bc_one (l : List UInt8) : ∀ u ∈ bc l, u.oneCell' = true := by
 intro u hu
 simp only [bc, List.mem_map] at hu
 obtain ⟨b, _, rfl⟩ := hu
 rfl
structure Touch (p : Nat) (r : Option Nat) (w w' : World) : Prop where
 os : w'.os = w.os
 tape : w'.tape = w.tape
 output : w'.output = w.output
 size : w.heap.size ≤ w'.heap.size
 block : ∀ k, k < w.heap.size → k ≠ p → r ≠ some k → w'.heap[k]? = w.heap[k]?
theorem Touch.refl (p : Nat) (r : Option Nat) (w : World) : Touch p r w w := ⟨rfl, rfl, rfl, Nat.le_refl _, fun _ _ _ _ => rfl⟩
def Near (r r' : Option Nat) (n : Nat) : Prop := ∀ k, r' = some k → r = some k ∨ n ≤ k
theorem Near.refl (r : Option Nat) (n : Nat) : Near r r n := fun _ h => .inl h
theorem Near.none (r : Option Nat) (n : Nat) : Near r none n := fun _ h => by cases h
theorem Near.trans {r r' r'' : Option Nat} {n m : Nat} (h : Near r r' n) (k : Near r' r'' m) (hnm : n ≤ m) : Near r r'' n := fun i hi => by
 rcases k i hi with hh | hh
 · exact h i hh
 · exact .inr (by omega)
theorem Touch.trans {p : Nat} {r r' : Option Nat} {a b c : World} (h : Touch p r a b) (k : Touch p r' b c) (hn : Near r r' a.heap.size) : Touch p r a c :=
 ⟨k.os.trans h.os, k.tape.trans h.tape, k.output.trans h.output, Nat.le_trans h.size k.size, fun i hi hp hr =>
  (k.block i (by have := h.size; omega) hp (fun e => by rcases hn i e with hh | hh; exact hr hh; omega)).trans (h.block i hi hp hr)⟩
theorem Touch.below {p : Nat} {r : Option Nat} {w w' : World} {B : Nat} (h : Touch p r w w') (hB : B ≤ w.heap.size) (hp : B ≤ p) (hr : ∀ k, r = some k → B ≤ k) : Below B w w' :=
 ⟨h.os, h.tape, h.output, h.size, fun k hk => h.block k (by omega) (by omega) (fun e => by have := hr k e; omega)⟩
theorem Touch.setCell {p : Nat} {r : Option Nat} {w w' : World} (h : Touch p r w w') (o : Nat) (u : Value) : Touch p r w (w'.setCell ⟨p, o, none⟩ u) :=
 ⟨h.os, h.tape, h.output, by have := h.size; simpa [World.setCell] using this, fun k hk hp hr => by
  rw [Below.heap_setCell _ _ _ _ (by simpa using hp)]; exact h.block k hk hp hr⟩
theorem Touch.alloc {p : Nat} {r : Option Nat} {w w' : World} (h : Touch p r w w') (o : Obj) : Touch p r w (w'.alloc o) :=
 ⟨h.os, h.tape, h.output, by have := h.size; simp; omega, fun k hk hp hr => by
  rw [Below.heap_alloc _ _ _ (by have := h.size; omega)]; exact h.block k hk hp hr⟩
theorem Touch.grown {p : Nat} {r : Option Nat} {w w' w'' : World} (h : Touch p r w w') (g : w'.grownBy w'' r) : Touch p r w w'' :=
 ⟨g.os.trans h.os, g.tape.trans h.tape, g.output.trans h.output, Nat.le_trans h.size g.size, fun k hk hp hr =>
  (g.block k (by have := h.size; omega) (fun e => hr e.symm)).trans (h.block k hk hp hr)⟩
theorem below_drewN {B : Nat} {a w : World} (h : Below B a w) (n : Nat) : Below B a (w.drewN n) := h.trans ⟨rfl, rfl, rfl, Nat.le_refl _, fun _ _ => rfl⟩
theorem cells3 {w : World} {b : Nat} {x y z : Value} {t : TypeId} (h : w.heap[b]? = some (.cells #[x, y, z] t (0, 0))) :
    w.cell? ⟨b, 0, none⟩ = some x ∧ w.cell? ⟨b, 1, none⟩ = some y ∧ w.cell? ⟨b, 2, none⟩ = some z := by
 refine ⟨?_, ?_, ?_⟩ <;> simp [World.cell?, h]
theorem free3 {w : World} {b : Nat} {x y z : Value} {t : TypeId} (h : w.heap[b]? = some (.cells #[x, y, z] t (0, 0))) :
    w.frozen? ⟨b, 0, none⟩ = false ∧ w.frozen? ⟨b, 1, none⟩ = false ∧ w.frozen? ⟨b, 2, none⟩ = false := by
 refine ⟨?_, ?_, ?_⟩ <;> simp [World.frozen?, h]
theorem set3 {w : World} {b : Nat} {x y z u : Value} {t : TypeId} (h : w.heap[b]? = some (.cells #[x, y, z] t (0, 0))) :
    (w.setCell ⟨b, 0, none⟩ u).heap[b]? = some (.cells #[u, y, z] t (0, 0)) ∧ (w.setCell ⟨b, 1, none⟩ u).heap[b]? = some (.cells #[x, u, z] t (0, 0)) ∧ (w.setCell ⟨b, 2, none⟩ u).heap[b]? = some (.cells #[x, y, u] t (0, 0)) := by
 refine ⟨?_, ?_, ?_⟩ <;> simp [World.setCell, Array.getElem?_modify, h]
end
section
open Go.RowKit
def be (v : Nat) : Nat → List UInt8
 | 0 => []
 | k + 1 => UInt8.ofNat (v / 256 ^ k) :: be v k
theorem be_length (v k : Nat) : (be v k).length = k := by induction k with
 | zero => rfl
 | succ k ih => simp [be, ih]
def num (l : List UInt8) : Nat := l.foldl (fun a b => 256 * a + b.toNat) 0
theorem foldl_lt : ∀ (l : List UInt8) (a : Nat), l.foldl (fun a b => 256 * a + b.toNat) a < (a + 1) * 256 ^ l.length
 | [], a => by simp
 | b :: l, a => by
  have ih := foldl_lt l (256 * a + b.toNat)
  have hb := b.toNat_lt
  have h2 : (256 * a + b.toNat + 1) * 256 ^ l.length ≤ (256 * (a + 1)) * 256 ^ l.length := Nat.mul_le_mul_right _ (by omega)
  rw [List.foldl_cons, List.length_cons, Nat.pow_succ]
  have h3 : (a + 1) * (256 ^ l.length * 256) = (256 * (a + 1)) * 256 ^ l.length := by rw [Nat.mul_comm (256 ^ l.length) 256, ← Nat.mul_assoc, Nat.mul_comm (a + 1) 256]
  omega
theorem num_lt (l : List UInt8) : num l < 256 ^ l.length := by
 have := foldl_lt l 0
 simpa [num] using this
def str (l : List UInt8) : ByteArray := ⟨l.toArray⟩
theorem str_of (l : List UInt8) : strOfNums (l.map fun b => (b.toNat : Int)) = str l := by
 unfold strOfNums str
 congr 2
 rw [List.map_map]
 conv => rhs; rw [← List.map_id l]
 apply List.map_congr_left
 intro b _
 simp
theorem str_size (l : List UInt8) : (str l).size = l.length := by simp [str, ByteArray.size]
theorem str_list (l : List UInt8) : (str l).data.toList = l := by simp [str]
theorem str_data (s : ByteArray) : str s.data.toList = s := by simp [str]
theorem pow_pos256 (k : Nat) : 0 < 256 ^ k := Nat.pos_of_ne_zero (by simp)
theorem byte_mod (a c i : Nat) : UInt8.ofNat (a % (256 ^ i * (256 * c)) / 256 ^ i) = UInt8.ofNat (a / 256 ^ i) := by
 apply UInt8.toNat_inj.1
 rw [Nat.mod_mul_right_div_self]
 simp [Nat.mod_mul_right_mod]
theorem be_mod (a : Nat) : ∀ (k j : Nat), k ≤ j → be (a % 256 ^ j) k = be a k
 | 0, j, _ => rfl
 | k + 1, j, h => by
  have e : 256 ^ j = 256 ^ k * (256 * 256 ^ (j - (k + 1))) := by
   rw [← Nat.mul_assoc, ← Nat.pow_succ, ← Nat.pow_add]
   congr 1
   omega
  rw [be, be, be_mod a k j (by omega)]
  congr 1
  rw [e]
  exact byte_mod a _ k
theorem head_lt {a k : Nat} (h : a < 256 ^ (k + 1)) : a / 256 ^ k < 256 := by
 rw [Nat.div_lt_iff_lt_mul (pow_pos256 k)]
 rw [Nat.pow_succ] at h
 omega
theorem ofNat_lt {x y : Nat} (hx : x < 256) (hy : y < 256) : (UInt8.ofNat x < UInt8.ofNat y) ↔ x < y := by
 rw [UInt8.lt_iff_toNat_lt]
 simp [Nat.mod_eq_of_lt hx, Nat.mod_eq_of_lt hy]
theorem ofNat_eq {x y : Nat} (hx : x < 256) (hy : y < 256) : (UInt8.ofNat x = UInt8.ofNat y) ↔ x = y := by
 rw [← UInt8.toNat_inj]
 simp [Nat.mod_eq_of_lt hx, Nat.mod_eq_of_lt hy]
theorem be_less : ∀ (k a b : Nat), a < 256 ^ k → b < 256 ^ k → Op.bytesLess (be a k) (be b k) = decide (a < b)
 | 0, a, b, ha, hb => by
  have : a = 0 := by simpa using ha
  have : b = 0 := by simpa using hb
  subst a b
  rfl
 | k + 1, a, b, ha, hb => by
  have h1 := head_lt ha
  have h2 := head_lt hb
  have hp := pow_pos256 k
  have ia := Nat.div_add_mod a (256 ^ k)
  have ib := Nat.div_add_mod b (256 ^ k)
  have ma := Nat.mod_lt a hp
  have mb := Nat.mod_lt b hp
  rw [be, be, Op.bytesLess, ← be_mod a k k (Nat.le_refl _), ← be_mod b k k (Nat.le_refl _), be_less k _ _ ma mb]
  rw [Bool.eq_iff_iff]
  simp only [Bool.or_eq_true, Bool.and_eq_true, decide_eq_true_eq, beq_iff_eq, ofNat_lt h1 h2, ofNat_eq h1 h2]
  constructor
  · rintro (h | ⟨h, h'⟩)
    · have : 256 ^ k * (a / 256 ^ k + 1) ≤ 256 ^ k * (b / 256 ^ k) := Nat.mul_le_mul_left _ h
      rw [Nat.mul_add, Nat.mul_one] at this
      omega
    · rw [h] at ia
      omega
  · intro h
    rcases Nat.lt_trichotomy (a / 256 ^ k) (b / 256 ^ k) with hh | hh | hh
    · exact .inl hh
    · refine .inr ⟨hh, ?_⟩
      rw [hh] at ia
      omega
    · have : 256 ^ k * (b / 256 ^ k + 1) ≤ 256 ^ k * (a / 256 ^ k) := Nat.mul_le_mul_left _ hh
      rw [Nat.mul_add, Nat.mul_one] at this
      omega
theorem num_be : ∀ (k a : Nat), a < 256 ^ k → num (be a k) = a := by
 have gen : ∀ (k a c : Nat), a < 256 ^ k → (be a k).foldl (fun x b => 256 * x + b.toNat) c = c * 256 ^ k + a := by
  intro k
  induction k with
  | zero => intro a c h; simp at h; subst h; simp [be]
  | succ k ih =>
   intro a c h
   have hp := pow_pos256 k
   have h1 := head_lt h
   have ia := Nat.div_add_mod a (256 ^ k)
   have e : (UInt8.ofNat (a / 256 ^ k)).toNat = a / 256 ^ k := by simp [Nat.mod_eq_of_lt h1]
   rw [be, List.foldl_cons, ← be_mod a k k (Nat.le_refl _), ih _ _ (Nat.mod_lt a hp), e, Nat.pow_succ, Nat.add_mul]
   have e2 : 256 * c * 256 ^ k = c * (256 ^ k * 256) := by rw [Nat.mul_comm 256 c, Nat.mul_assoc, Nat.mul_comm 256]
   rw [e2, Nat.mul_comm (a / 256 ^ k)]
   omega
 intro k a h
 have := gen k a 0 h
 simpa [num] using this
theorem be_inj {k a b : Nat} (ha : a < 256 ^ k) (hb : b < 256 ^ k) : be a k = be b k ↔ a = b := by
 constructor
 · intro h
   rw [← num_be k a ha, ← num_be k b hb, h]
 · intro h
   rw [h]
theorem str_toList (l : List UInt8) : (str l).toList = l := by rw [ByteArray.toList_eq]; exact str_list l
theorem p4 : (256 : Nat) ^ 4 = 4294967296 := by decide
end
section
open Go.RowKit
theorem fold_put : ∀ (vs : List Value) (i off : Nat) (C : Array Value), off + i + vs.length ≤ C.size →
    ((vs.zipIdx i).foldl (fun cs x => cs.setIfInBounds (off + x.2) x.1) C) = (C.toList.take (off + i) ++ vs ++ C.toList.drop (off + i + vs.length)).toArray
 | [], i, off, C, _ => by simp
 | v :: rest, i, off, C, h => by
  have hl : off + i < C.size := by simp at h; omega
  have ih := fold_put rest (i + 1) off (C.setIfInBounds (off + i) v) (by simp at h ⊢; omega)
  rw [List.zipIdx_cons, List.foldl_cons, ih]
  have e := list_seg_step C.toList (off + i) v rest (by simp at h ⊢; omega)
  congr 1
  simpa [Array.toList_setIfInBounds, Nat.add_assoc] using e
theorem fill_put {place : Nat → Option (Nat × Nat)} {C : Array Value} {i off size : Nat} {v : Value} {rest : List (Nat × Value)} (hp : place i = some (off, size)) (hs : v.cells.size = size) (ho : off + size ≤ C.size) :
    Instr.fill place C ((i, v) :: rest) = Instr.fill place (C.toList.take off ++ v.cells.toList ++ C.toList.drop (off + size)).toArray rest := by
 rw [Instr.fill]
 simp only [hp]
 have hcond : (decide (v.cells.size ≠ size) || decide (off + v.cells.size > C.size)) = false := by simp; omega
 rw [if_neg (by simpa using hcond)]
 have e := fold_put v.cells.toList 0 off C (by simp; omega)
 congr 1
 rw [← Array.foldl_toList, Array.toList_zipIdx, e]
 simp [hs]
end
section
open Go.RowKit
abbrev kv (K : List UInt8) : Value := .agg (bc K).toArray
def zs (n : Nat) : List UInt8 := List.replicate n 0
theorem zs_length (n : Nat) : (zs n).length = n := by simp [zs]
structure Has (w : World) (b : Nat) (K : List UInt8) : Prop where
 len : K.length = 24
 blk : w.heap[b]? = some (.cells (bc K).toArray 54 (0, 0))
theorem Tryz.key_info : (Tryz.prog.info? 54).map (·.size) = some 24 := by kernel_rfl
theorem bc_size (K : List UInt8) : (bc K).toArray.size = K.length := by simp [bc]
theorem bc_all (K : List UInt8) : (bc K).toArray.all (·.oneCell') = true := all_oneCell_toArray (bc_one K)
theorem Has.lt {w : World} {b : Nat} {K : List UInt8} (h : Has w b K) : b < w.heap.size := lt_of_block h.blk
theorem Has.below {B : Nat} {w w' : World} {b : Nat} {K : List UInt8} (h : Has w b K) (hb : Below B w w') (hB : b < B) : Has w' b K := ⟨h.len, (hb.block b hB).trans h.blk⟩
theorem Has.touch {w w' : World} {b p : Nat} {K : List UInt8} (h : Has w b K) (ht : Touch p none w w') (hp : b ≠ p) : Has w' b K := ⟨h.len, (ht.block b h.lt hp (by simp)).trans h.blk⟩
theorem Has.alloc {w : World} {b : Nat} {K : List UInt8} (h : Has w b K) (o : Obj) : Has (w.alloc o) b K := ⟨h.len, by rw [Below.heap_alloc _ _ _ h.lt]; exact h.blk⟩
theorem Has.new (w : World) (K : List UInt8) (h : K.length = 24) : Has (w.alloc (.cells (bc K).toArray 54 (0, 0))) w.heap.size K := ⟨h, heap_alloc_new _ _⟩
theorem Has.cell {w : World} {b : Nat} {K : List UInt8} (h : Has w b K) (j : Nat) (hj : j < 24) : w.cell? ⟨b, j, none⟩ = some (.int .u8 ((K.getD j 0).toNat : Int)) := by
 rw [cell_of_row w b j _ _ _ h.blk]
 have := h.len
 simp [bc, List.getElem?_eq_getElem (show j < K.length by omega)]
theorem Has.free {w : World} {b : Nat} {K : List UInt8} (h : Has w b K) (j : Nat) : w.frozen? ⟨b, j, none⟩ = false := by simp [World.frozen?, h.blk]
theorem touch_setRow (w : World) (b : Nat) (C : Array Value) : Touch b none w (w.setRow b C) := ⟨rfl, rfl, rfl, by simp, fun k _ hk _ => setRow_other w b k C hk⟩
theorem Has.setRow {w : World} {b : Nat} {K : List UInt8} (h : Has w b K) (L : List UInt8) (hl : L.length = 24) : Has (w.setRow b (bc L).toArray) b L := ⟨hl, setRow_heap w b _ _ _ _ h.blk⟩
theorem Has.setCell {w : World} {b : Nat} {K : List UInt8} (h : Has w b K) (j : Nat) (x : UInt8) : Has (w.setCell ⟨b, j, none⟩ (.int .u8 (x.toNat : Int))) b (K.set j x) := by
 refine ⟨by simp [h.len], ?_⟩
 rw [setCell_eq_setRow w b j _ _ _ _ h.blk, setRow_heap w b _ _ _ _ h.blk]
 congr 2
 simp [bc, List.map_set]
theorem below_touched {B p : Nat} {a w w' : World} (h : Below B a w) (t : Touch p none w w') (hp : B ≤ p) (hB : B ≤ a.heap.size) : Below B a w' :=
 h.trans (t.below (by have := h.size; omega) hp (by simp))
theorem below_called {B : Nat} {a w w' : World} (h : Below B a w) (t : Below w.heap.size w w') (hB : B ≤ a.heap.size) : Below B a w' :=
 h.trans (t.mono (by have := h.size; omega))
theorem below_made {B : Nat} {a w : World} (h : Below B a w) (hB : B ≤ a.heap.size) (o : Obj) : Below B a (w.alloc o) := h.alloc (by have := h.size; omega) o
theorem Has.setOther {w : World} {b p : Nat} {K : List UInt8} (h : Has w b K) (hp : b ≠ p) (j : Nat) (u : Value) : Has (w.setCell ⟨p, j, none⟩ u) b K := ⟨h.len, by rw [Below.heap_setCell _ _ _ _ (by simpa using hp)]; exact h.blk⟩
section
variable {ops : Array Oper} {rest : List Oper} {o : Oper} {a : Act} {w : World} {Q : Exit → Act → World → Prop}
theorem load_key (x : Operand) (ho : o.op = .load 54 x) (b : Nat) (hx : a.eval x = .pointer (some ⟨b, 0, none⟩)) (hgd : Region.wanted o (yielded ops a.tmps) = true) (K : List UInt8) (hK : Has w b K)
    (h : wpList Tryz.prog ops Q rest (a.put o.dst (kv K)) w) : wpList Tryz.prog ops Q (o :: rest) a w :=
 BigFrame.wpList_want hgd fun _ hK' => wp_load_row _ x ho b hx _ _ _ _ hK.blk Tryz.underlying54 rfl (by rw [bc_size, hK.len]; exact Tryz.key_info) (hK' _ _ h)
theorem store_key (hgd : o.guard = none) (x y : Operand) (ho : o.op = .store 54 x y) (b : Nat) (hx : a.eval x = .pointer (some ⟨b, 0, none⟩)) (L : List UInt8) (hy : a.eval y = kv L) (hL : L.length = 24) (K : List UInt8) (hK : Has w b K)
    (h : ∀ w', Has w' b L → Touch b none w w' → w'.heap.size = w.heap.size → wpList Tryz.prog ops Q rest (a.put o.dst undef) w') : wpList Tryz.prog ops Q (o :: rest) a w :=
 wpList_store_row hgd _ x y ho b _ hx hy _ _ hK.blk (by rw [bc_size, hL]; exact Tryz.key_info) (by rw [bc_size, bc_size, hL, hK.len]) (bc_all _) (h _ (hK.setRow L hL) (touch_setRow _ _ _) (by simp))
end
theorem eq_key (w : World) (K L : List UInt8) (hK : K.length = 24) (hL : L.length = 24) : (Op.equalIn 10000 54 (kv K) (kv L)).run Tryz.prog w = .ok (K == L) w :=
 run_equalIn_bytes w 9998 54 5 24 Tryz.underlying54 Tryz.underlying5 Tryz.sizeOf5 K L hK hL
theorem isNumber_calls (n : Int) (w : World) : Calls Tryz.prog 58 #[.int .i64 n] w fun e w' => e = .returned (.bool (decide (1 ≤ n ∧ n < 1073741824))) ∧ w' = w := by
 go_enter Tryz.func58, Tryz.ntmps58
 go_wp2
 all_goals (go_ret; exact ⟨by congr 2; rw [eq_comm]; simp; omega, rfl⟩)
theorem isPlace_calls (n : Int) (w : World) : Calls Tryz.prog 59 #[.int .i64 n] w fun e w' => e = .returned (.bool (decide (0 ≤ n ∧ n ≤ 4294967295))) ∧ w' = w := by
 go_enter Tryz.func59, Tryz.ntmps59
 go_wp2
 all_goals (go_ret; exact ⟨by congr 2; rw [eq_comm]; simp; omega, rfl⟩)
theorem list_set4 {α : Type} (l : List α) (o : Nat) (a b c d : α) (h : o + 4 ≤ l.length) : (((l.set o a).set (o + 1) b).set (o + 2) c).set (o + 3) d = l.take o ++ [a, b, c, d] ++ l.drop (o + 4) := by
 apply List.ext_getElem?
 intro j
 simp only [List.getElem?_set, List.getElem?_append, List.length_take, List.length_append, List.length_cons, List.length_nil, List.getElem?_take, List.getElem?_drop, List.length_set]
 rcases Nat.lt_or_ge j o with h1 | h1
 · simp [Nat.min_eq_left (show o ≤ l.length by omega), h1, show j < o + 4 by omega, show ¬ o + 3 = j by omega, show ¬ o + 2 = j by omega, show ¬ o + 1 = j by omega, show ¬ o = j by omega]
 · rcases Nat.lt_or_ge j (o + 4) with h2 | h2
   · obtain ⟨i, rfl⟩ := Nat.exists_eq_add_of_le h1
     have hi : i < 4 := by omega
     match i, hi with
     | 0, _ => simp [Nat.min_eq_left (show o ≤ l.length by omega), show o < l.length by omega]
     | 1, _ => simp [Nat.min_eq_left (show o ≤ l.length by omega), show o + 1 < l.length by omega]; omega
     | 2, _ => simp [Nat.min_eq_left (show o ≤ l.length by omega), show o + 2 < l.length by omega]; omega
     | 3, _ => simp [Nat.min_eq_left (show o ≤ l.length by omega), show o + 3 < l.length by omega]; omega
   · simp [Nat.min_eq_left (show o ≤ l.length by omega), show ¬ j < o + 4 by omega, show ¬ o + 3 = j by omega, show ¬ o + 2 = j by omega, show ¬ o + 1 = j by omega, show ¬ o = j by omega]
     congr 1
     omega
theorem putWord_calls (w : World) (b o cap : Nat) (K : List UInt8) (v : Int) (h : Has w b K) (ho : o + 4 ≤ 24) (hv : 0 ≤ v) :
    Calls Tryz.prog 61 #[.slice (some ⟨b, o, none⟩) 4 cap, .int .i64 v] w fun e w' => e = .returned (.tuple #[]) ∧ Has w' b (K.take o ++ be v.toNat 4 ++ K.drop (o + 4)) ∧ Touch b none w w' ∧ w'.heap.size = w.heap.size := by
 have c0 := h.cell o (by omega); have f0 := h.free o
 have c1 := h.cell (o + 1) (by omega); have f1 := h.free (o + 1)
 have c2 := h.cell (o + 2) (by omega); have f2 := h.free (o + 2)
 have c3 := h.cell (o + 3) (by omega); have f3 := h.free (o + 3)
 have H : Hid (Has w b K) := h
 clear h
 go_enter Tryz.func61, Tryz.ntmps61
 go_wp2
 go_rounds 5
 go_end0
 obtain ⟨n, rfl⟩ := Int.eq_ofNat_of_zero_le hv
 have e0 : (n : Int) / 16777216 % 256 = ((UInt8.ofNat (n / 256 ^ 3)).toNat : Int) := by simp
 have e1 : (n : Int) / 65536 % 256 = ((UInt8.ofNat (n / 256 ^ 2)).toNat : Int) := by simp
 have e2 : (n : Int) / 256 % 256 = ((UInt8.ofNat (n / 256 ^ 1)).toNat : Int) := by simp
 have e3 : (n : Int) % 256 = ((UInt8.ofNat (n / 256 ^ 0)).toNat : Int) := by simp
 rw [e0, e1, e2, e3]
 have hh := (((H.out.setCell o (UInt8.ofNat (n / 256 ^ 3))).setCell (o + 1) (UInt8.ofNat (n / 256 ^ 2))).setCell (o + 2) (UInt8.ofNat (n / 256 ^ 1))).setCell (o + 3) (UInt8.ofNat (n / 256 ^ 0))
 rw [list_set4 K o _ _ _ _ (by rw [H.out.len]; exact ho)] at hh
 exact ⟨rfl, hh, ((((Touch.refl _ _ _).setCell _ _).setCell _ _).setCell _ _).setCell _ _, by simp [World.setCell]⟩
theorem or_byte_i (a b : Nat) (ha : a < 16777216) (hb : b < 256) : bits .or .i64 ((a : Int) * 256) (b : Int) = ((256 * a + b : Nat) : Int) := by
 have e : ((a : Int) * 256) = ((256 * a : Nat) : Int) := by omega
 have e1 := Nat.two_pow_add_eq_or_of_lt (i := 8) (b := b) (by omega) a
 rw [show (2 : Nat) ^ 8 = 256 from rfl] at e1
 rw [e]
 show IntKind.i64.wrap ((BitVec.ofInt 64 ((256 * a : Nat) : Int) ||| BitVec.ofInt 64 (b : Int)).toNat : Int) = _
 rw [BitVec.toNat_or, ofInt_u64 _ (by omega), ofInt_u64 _ (by omega), ← e1, IntKind.wrap_i64]
 omega
theorem or_step (a b : Nat) (ha : a < 16777216) (hb : b < 256) : bits .or .i64 (wrap64 ((a : Int) * 256)) (wrap64 (b : Int)) = ((256 * a + b : Nat) : Int) := by
 rw [show wrap64 ((a : Int) * 256) = (a : Int) * 256 by unfold wrap64; omega, show wrap64 (b : Int) = (b : Int) by unfold wrap64; omega]
 exact or_byte_i a b ha hb
theorem or_four (k0 k1 k2 k3 : UInt8) : bits .or .i64 (wrap64 (bits .or .i64 (wrap64 (bits .or .i64 (wrap64 (bits .or .i64 0 (wrap64 (k0.toNat : Int)) * 256)) (wrap64 (k1.toNat : Int)) * 256)) (wrap64 (k2.toNat : Int)) * 256)) (wrap64 (k3.toNat : Int)) = (num [k0, k1, k2, k3] : Int) := by
 have h0 := k0.toNat_lt; have h1 := k1.toNat_lt; have h2 := k2.toNat_lt; have h3 := k3.toNat_lt
 have e0 := or_step 0 k0.toNat (by omega) (by omega)
 rw [show wrap64 (((0 : Nat) : Int) * 256) = 0 by unfold wrap64; omega] at e0
 rw [e0, or_step _ k1.toNat (by omega) (by omega), or_step _ k2.toNat (by omega) (by omega), or_step _ k3.toNat (by omega) (by omega)]
 simp [num]
theorem kword_calls (w : World) (b o cap : Nat) (k0 k1 k2 k3 : UInt8)
    (c0 : w.cell? ⟨b, o, none⟩ = some (.int .u8 (k0.toNat : Int))) (c1 : w.cell? ⟨b, o + 1, none⟩ = some (.int .u8 (k1.toNat : Int))) (c2 : w.cell? ⟨b, o + 2, none⟩ = some (.int .u8 (k2.toNat : Int))) (c3 : w.cell? ⟨b, o + 3, none⟩ = some (.int .u8 (k3.toNat : Int))) :
    Calls Tryz.prog 100 #[.slice (some ⟨b, o, none⟩) 4 cap] w fun e w' => e = .returned (.int .i64 (num [k0, k1, k2, k3] : Int)) ∧ w' = w := by
 go_enter Tryz.func100, Tryz.ntmps100
 go_wp2
 go_rounds 5
 go_ret
 exact ⟨by rw [or_four]; rfl, rfl⟩
end
end Go.Proofs.YtdmindhjmjnagaaGreatDoor
