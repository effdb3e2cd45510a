/- For DeviceCrash: a device beside blocks that are not its own, an array of eight numbers, and what the statement keeps of a device. -/
import Derived.Test.YtmemhckkfhlnmaaDevTwo
namespace Go.Proofs.Ytmemhckkfhlnmaa
set_option linter.unusedVariables false
open Go.RowKit

/-- A device beside blocks X that are none of its own, and that whoever holds it may write. -/
def DX (w : World) (p : Nat) (D : DS) (B : Nat) (X : Nat → Prop) : Prop := ∃ r T, Dev w p D r T ∧ (∀ k, Mine p r k → B ≤ k) ∧ (∀ k, X k → ¬ Mine p r k ∧ ¬ T k ∧ k < w.heap.size) ∧ B ≤ w.heap.size
theorem DX.dq {w : World} {p : Nat} {D : DS} {B : Nat} {X : Nat → Prop} (h : DX w p D B X) : DQ w p D B := by
  obtain ⟨r, T, h1, h2, h3, h4⟩ := h
  exact ⟨r, T, h1, h2, h4⟩
theorem DX.of_dq {w w' : World} {p : Nat} {D : DS} {B : Nat} {X : Nat → Prop} (h : DQ w p D B) (hb : Below w.heap.size w w') (hX : ∀ k, X k → w.heap.size ≤ k ∧ k < w'.heap.size) : DX w' p D B X := by
  obtain ⟨r, T, h1, h2, h3⟩ := h
  exact ⟨r, T, h1.below hb (Nat.le_refl _), h2, fun k hk => ⟨fun hm => by have := h1.mine_lt hm; have := (hX k hk).1; omega, fun ht => by have := (h1.tt k ht).1; have := (hX k hk).1; omega, (hX k hk).2⟩, Nat.le_trans h3 hb.size⟩
/-- What is done to X, and what is new, leaves the device. -/
theorem DX.touch {w w' : World} {p : Nat} {D : DS} {B : Nat} {X Y : Nat → Prop} (h : DX w p D B X) (hs : w.heap.size ≤ w'.heap.size) (hb : ∀ k, k < w.heap.size → ¬ X k → w'.heap[k]? = w.heap[k]?) (hY : ∀ k, Y k → X k ∨ (w.heap.size ≤ k ∧ k < w'.heap.size)) : DX w' p D B Y := by
  obtain ⟨r, T, h1, h2, h3, h4⟩ := h
  refine ⟨r, T, h1.kept (fun k hk => ?_), h2, fun k hk => ?_, Nat.le_trans h4 hs⟩
  · rcases hk with hk | hk
    · exact hb k (h1.mine_lt hk) (fun hx => (h3 k hx).1 hk)
    · exact hb k (h1.tt k hk).1 (fun hx => (h3 k hx).2.1 hk)
  · rcases hY k hk with e | e
    · exact ⟨(h3 k e).1, (h3 k e).2.1, by have := (h3 k e).2.2; omega⟩
    · exact ⟨fun hm => by have := h1.mine_lt hm; omega, fun ht => by have := (h1.tt k ht).1; omega, e.2⟩
theorem DX.step {w w' : World} {p : Nat} {D D' : DS} {B : Nat} {X : Nat → Prop} {r : DR} {T : Nat → Prop} (h1 : Dev w p D r T) (h2 : ∀ k, Mine p r k → B ≤ k) (h3 : ∀ k, X k → ¬ Mine p r k ∧ ¬ T k ∧ k < w.heap.size) (h4 : B ≤ w.heap.size) (g : DGo p w r T D' w') :
    DX w' p D' B X ∧ Below B w w' ∧ ∀ k, X k → w'.heap[k]? = w.heap[k]? := by
  obtain ⟨r', U, g1, g2, g3, g4⟩ := g
  refine ⟨⟨r', U, g1, g3.ge h2 h4, fun k hk => ⟨fun hm => ?_, fun ht => ?_, by have := (h3 k hk).2.2; have := g2.size; omega⟩, Nat.le_trans h4 g2.size⟩, g2.below h4 h2, fun k hk => g2.block k (h3 k hk).2.2 (h3 k hk).1⟩
  · rcases g3 k hm with e | e
    · exact (h3 k hk).1 e
    · have := (h3 k hk).2.2; omega
  · rcases g4 k ht with e | e
    · exact (h3 k hk).2.1 e
    · have := (h3 k hk).2.2; omega
theorem writeX (w0 w : World) (p : Nat) (D : DS) (B : Nat) (X : Nat → Prop) (n : Int) (sv : Value) (b : List UInt8) (h : DX w0 p D B X) (hb : Below w0.heap.size w0 w) (hsv : Fresh w sv b w0.heap.size) (hcl : D.calls ≤ 999999) (hbl : b.length ≤ 512) (hn : I64 n) :
    Calls Try.prog 21 #[.pointer (some ⟨p, 0, none⟩), .int .i64 n, sv] w fun e w' => e = .returned (.int .i64 (D.write n b).2) ∧ DX w' p (D.write n b).1 B X ∧ Below B w w' ∧ ∀ k, X k → w'.heap[k]? = w.heap[k]? := by
  obtain ⟨r, T, h1, h2, h3, h4⟩ := h
  obtain ⟨g, hg, hB⟩ := hsv
  have hs := hb.size
  exact (write_calls w p D r T n sv b (some g) (h1.below hb (Nat.le_refl _)) hB (fun k e hm => by cases e; have := h1.mine_lt hm; omega) hcl hbl hn).mono fun e w' ⟨e1, e2⟩ => ⟨e1, DX.step (h1.below hb (Nat.le_refl _)) h2 (fun k hk => ⟨(h3 k hk).1, (h3 k hk).2.1, by have := (h3 k hk).2.2; omega⟩) (Nat.le_trans h4 hs) e2⟩
theorem flushX (w : World) (p : Nat) (D : DS) (B : Nat) (X : Nat → Prop) (h : DX w p D B X) (hcl : D.calls ≤ 999999) :
    Calls Try.prog 20 #[.pointer (some ⟨p, 0, none⟩)] w fun e w' => e = .returned (.int .i64 D.flush.2) ∧ DX w' p D.flush.1 B X ∧ Below B w w' ∧ ∀ k, X k → w'.heap[k]? = w.heap[k]? := by
  obtain ⟨r, T, h1, h2, h3, h4⟩ := h
  exact (flush_calls w p D r T h1 hcl).mono fun e w' ⟨e1, e2⟩ => ⟨e1, DX.step h1 h2 h3 h4 e2⟩
theorem crashX (w : World) (p : Nat) (D : DS) (B : Nat) (X : Nat → Prop) (mask torn bytes : Int) (h : DX w p D B X) (hcl : D.calls ≤ 1000000) (hm : 0 ≤ mask ∧ mask ≤ 18446744073709551615) (ht : I64 torn) (hy : I64 bytes) :
    Calls Try.prog 16 #[.pointer (some ⟨p, 0, none⟩), .int .u64 mask, .int .i64 torn, .int .i64 bytes] w fun e w' => e = .returned (.tuple #[]) ∧ DX w' p (D.crash mask torn bytes) B X ∧ Below B w w' ∧ ∀ k, X k → w'.heap[k]? = w.heap[k]? := by
  obtain ⟨r, T, h1, h2, h3, h4⟩ := h
  exact (crash_calls w p D r T mask torn bytes h1 hcl hm ht hy).mono fun e w' ⟨e1, e2⟩ => ⟨e1, DX.step h1 h2 h3 h4 e2⟩
theorem startX (w : World) (p : Nat) (D : DS) (B : Nat) (X : Nat → Prop) (h : DX w p D B X) :
    Calls Try.prog 18 #[.pointer (some ⟨p, 0, none⟩)] w fun e w' => e = .returned (.tuple #[]) ∧ DX w' p D.start B X ∧ Below B w w' ∧ ∀ k, X k → w'.heap[k]? = w.heap[k]? := by
  obtain ⟨r, T, h1, h2, h3, h4⟩ := h
  exact (start_calls w p D r T h1).mono fun e w' ⟨e1, e2⟩ => ⟨e1, DX.step h1 h2 h3 h4 e2⟩

/-- An array of eight numbers. -/
def arr8 (v : Nat → Int) : Array Value := #[.int .i64 (v 0), .int .i64 (v 1), .int .i64 (v 2), .int .i64 (v 3), .int .i64 (v 4), .int .i64 (v 5), .int .i64 (v 6), .int .i64 (v 7)]
def Arr (w : World) (b : Nat) (v : Nat → Int) : Prop := w.heap[b]? = some (.cells (arr8 v) 37 (0, 0))
theorem Arr.cell {w : World} {b : Nat} {v : Nat → Int} (h : Arr w b v) (j : Nat) (hj : j < 8) : w.cell? ⟨b, j, none⟩ = some (.int .i64 (v j)) := by
  rcases (by omega : j = 0 ∨ j = 1 ∨ j = 2 ∨ j = 3 ∨ j = 4 ∨ j = 5 ∨ j = 6 ∨ j = 7) with rfl | rfl | rfl | rfl | rfl | rfl | rfl | rfl <;> simp [World.cell?, show w.heap[b]? = _ from h, arr8]
theorem Arr.free {w : World} {b : Nat} {v : Nat → Int} (h : Arr w b v) (j : Nat) : w.frozen? ⟨b, j, none⟩ = false := by
  simp [World.frozen?, show w.heap[b]? = _ from h]
theorem Arr.set {w : World} {b : Nat} {v : Nat → Int} (h : Arr w b v) (j : Nat) (hj : j < 8) (c : Int) : Arr (w.setCell ⟨b, j, none⟩ (.int .i64 c)) b (fun i => if i = j then c else v i) := by
  unfold Arr
  rcases (by omega : j = 0 ∨ j = 1 ∨ j = 2 ∨ j = 3 ∨ j = 4 ∨ j = 5 ∨ j = 6 ∨ j = 7) with rfl | rfl | rfl | rfl | rfl | rfl | rfl | rfl <;> simp [World.setCell, Array.getElem?_modify, show w.heap[b]? = _ from h, arr8]
theorem Arr.kept {w w' : World} {b : Nat} {v : Nat → Int} (h : Arr w b v) (e : w'.heap[b]? = w.heap[b]?) : Arr w' b v := e.trans h
theorem Arr.lt {w : World} {b : Nat} {v : Nat → Int} (h : Arr w b v) : b < w.heap.size := lt_block h

/-- A block's content by its number: 0 is the one that was never written. -/
def blk (c : Int) : List UInt8 := if c = 0 then nought else cont c
theorem blk_length (c : Int) : (blk c).length = 512 := by
  unfold blk
  split
  · exact nought_length
  · exact cont_length c
/-- What the statement keeps of a device. -/
structure CR (D : DS) (fs ns : Nat → Int) : Prop where
  fl : ∀ j : Nat, j < 8 → D.fl j = blk (fs j)
  nw : ∀ j : Nat, j < 8 → D.nw j = blk (ns j)
  lo : ∀ k, k ∈ D.loose → 0 ≤ k ∧ k < 8 ∧ ns k.toNat ≠ 0
theorem CR.first : CR (DS.new 8) (fun _ => 0) (fun _ => 0) := by
  have e : blk 0 = nought := by unfold blk; rw [if_pos rfl]
  refine ⟨fun j _ => ?_, fun j _ => ?_, fun k hk => by cases hk⟩
  · rw [e]; simp only [DS.new]
  · rw [e]; simp only [DS.new]
theorem CR.flush {D : DS} {fs ns : Nat → Int} {c : Int} (h : CR D fs ns) (P : Plain D c) : D.flush.2 = 0 ∧ CR D.flush.1 ns ns ∧ Plain D.flush.1 (c + 1) ∧ D.flush.1.loose = [] := by
  have hok := P.ok.flush
  rw [DS.flush_plain P.dn P.ar] at hok ⊢
  exact ⟨rfl, ⟨h.nw, h.nw, fun k hk => by cases hk⟩, ⟨hok, P.bl, P.dn, P.ar, by have := P.cl; show D.calls + 1 ≤ _; omega⟩, rfl⟩
theorem CR.write {D : DS} {fs ns : Nat → Int} {c : Int} (h : CR D fs ns) (P : Plain D c) (m : Nat) (hm : m < 8) (x : Int) (hx : x ≠ 0) : (D.write m (cont x)).2 = 0 ∧ CR (D.write m (cont x)).1 fs (fun i => if i = m then x else ns i) ∧ Plain (D.write m (cont x)).1 (c + 1) ∧
    (D.write m (cont x)).1.loose = if (m : Int) ∈ D.loose then D.loose else D.loose ++ [(m : Int)] := by
  have hp := P.write (m : Int) (cont x) (by omega) (by omega) (cont_length x)
  have hbl := P.bl
  have e := DS.write_plain (D := D) (n := m) (b := cont x) P.dn P.ar (by omega) (by omega) (cont_length x)
  refine ⟨hp.1, ?_, hp.2, by rw [e]; rfl⟩
  rw [e]
  refine ⟨h.fl, fun j hj => ?_, fun k hk => ?_⟩
  · show (if (j : Int) = (m : Int) then cont x else D.nw j) = blk (if j = m then x else ns j)
    by_cases ej : j = m
    · rw [if_pos (by omega), if_pos ej]; unfold blk; rw [if_neg hx]
    · rw [if_neg (by omega), if_neg ej]; exact h.nw j hj
  · have hk' : k ∈ (if (m : Int) ∈ D.loose then D.loose else D.loose ++ [(m : Int)]) := hk
    have hor : k ∈ D.loose ∨ k = m := by
      by_cases em : (m : Int) ∈ D.loose
      · rw [if_pos em] at hk'; exact .inl hk'
      · rw [if_neg em] at hk'; simpa using hk'
    rcases hor with hk2 | rfl
    · obtain ⟨a1, a2, a3⟩ := h.lo k hk2
      refine ⟨a1, a2, ?_⟩
      show (if k.toNat = m then x else ns k.toNat) ≠ 0
      split
      · exact hx
      · exact a3
    · refine ⟨by omega, by omega, ?_⟩
      show (if (m : Int).toNat = m then x else ns (m : Int).toNat) ≠ 0
      rw [if_pos (by omega)]
      exact hx
/-- What the statement reckons of a block, behind so many of the order. -/
def wantAt (D : DS) (mask t y : Int) (i : Int) (j : Nat) : List UInt8 := if i ∈ D.loose.take j then D.settled mask t y i else D.fl i
theorem want_0 (D : DS) (mask t y i : Int) : wantAt D mask t y i 0 = D.fl i := by unfold wantAt; simp
theorem want_end (D : DS) (mask t y i : Int) : wantAt D mask t y i D.loose.length = D.settled mask t y i := by
  unfold wantAt
  rw [List.take_length]
  split
  · rfl
  · rename_i h
    unfold DS.settled
    rw [if_neg h]
theorem want_other {D : DS} (mask t y i : Int) (j : Nat) (hj : j < D.loose.length) (hne : D.loose[j] ≠ i) : wantAt D mask t y i (j + 1) = wantAt D mask t y i j := by
  unfold wantAt
  by_cases e : i ∈ D.loose.take j
  · rw [if_pos e, if_pos ((mem_take_succ j hj i).2 (.inl e))]
  · rw [if_neg e, if_neg (fun h => by rcases (mem_take_succ j hj i).1 h with h | h; exact e h; exact hne h.symm)]
theorem want_this {D : DS} (ok : D.Ok) (mask t y i : Int) (j : Nat) (hj : j < D.loose.length) (he : D.loose[j] = i) (hy0 : 0 ≤ y) (hy1 : y ≤ 512) :
    wantAt D mask t y i j = D.fl i ∧ wantAt D mask t y i (j + 1) = if (j : Int) = t then (D.nw i).take y.toNat ++ (D.fl i).drop y.toNat else if bitOf mask j = true then D.nw i else D.fl i := by
  subst he
  have hi := idx_of_at ok.once j hj
  have hn := at_new ok.once j hj
  unfold wantAt
  refine ⟨by rw [if_neg hn], ?_⟩
  rw [if_pos ((mem_take_succ j hj _).2 (.inr rfl))]
  unfold DS.settled
  rw [if_pos (List.getElem_mem hj), hi]
  have e : (min (max y 0) 512).toNat = y.toNat := by omega
  rw [e]
theorem str_cut (a b : List UInt8) (y : Nat) (ha : a.length = 512) (hb : b.length = 512) (hy : y ≤ 512) : (str a).extract 0 y ++ (str b).extract y 512 = str (a.take y ++ b.drop y) := by
  apply Go.WideShapes.bytes_inj
  simp [str]
  rw [List.take_of_length_le (by simp; omega)]
end Go.Proofs.Ytmemhckkfhlnmaa
