/- A device all of whose own blocks are new since there were B: the form in which the statements' walks carry it; one device, and two that go on by themselves. -/
import Derived.Test.YtmemhckkfhlnmaaDevOps3
namespace Go.Proofs.Ytmemhckkfhlnmaa
set_option linter.unusedVariables false
open Go.RowKit

def DQ (w : World) (p : Nat) (D : DS) (B : Nat) : Prop := ∃ r T, Dev w p D r T ∧ (∀ k, Mine p r k → B ≤ k) ∧ B ≤ w.heap.size
theorem DQ.ok {w : World} {p : Nat} {D : DS} {B : Nat} (h : DQ w p D B) : D.Ok := by obtain ⟨r, T, h, _⟩ := h; exact h.ok
theorem DQ.size {w : World} {p : Nat} {D : DS} {B : Nat} (h : DQ w p D B) : B ≤ w.heap.size := by obtain ⟨r, T, _, _, h⟩ := h; exact h
theorem DQ.below {w w' : World} {p : Nat} {D : DS} {B C : Nat} (h : DQ w p D B) (hb : Below C w w') (hC : w.heap.size ≤ C) : DQ w' p D B := by
  obtain ⟨r, T, h1, h2, h3⟩ := h
  exact ⟨r, T, h1.below hb hC, h2, Nat.le_trans h3 hb.size⟩
theorem DQ.drew {w : World} {p : Nat} {D : DS} {B : Nat} (h : DQ w p D B) : DQ w.drew p D B := h.below (C := w.heap.size) ⟨rfl, rfl, rfl, Nat.le_refl _, fun _ _ => rfl⟩ (Nat.le_refl _)
theorem DQ.of_go {w w' : World} {p : Nat} {r : DR} {T : Nat → Prop} {D' : DS} {B : Nat} (h : DGo p w r T D' w') (h2 : ∀ k, Mine p r k → B ≤ k) (h3 : B ≤ w.heap.size) : DQ w' p D' B ∧ Below B w w' := by
  obtain ⟨r', U, g1, g2, g3, g4⟩ := h
  exact ⟨⟨r', U, g1, g3.ge h2 h3, Nat.le_trans h3 g2.size⟩, g2.below h3 h2⟩
theorem below_refl (w : World) : Below w.heap.size w w := Below.refl _ _

theorem newQ (w : World) (n : Int) (hn : I64 n) : Calls Try.prog 10 #[.int .i64 n] w fun e w' => e = .returned (.pointer (some ⟨w.heap.size + 2, 0, none⟩)) ∧ DQ w' (w.heap.size + 2) (DS.new n) w.heap.size ∧ Below w.heap.size w w' :=
  (new_calls w n hn).mono fun e w' ⟨h1, h2, h3⟩ => ⟨h1, ⟨_, _, h2, (fun k hk => by
    rcases hk with e | e | e | e
    · omega
    · rw [e]; exact Nat.le_refl _
    · rw [e]; exact Nat.le_succ _
    · cases e), h3.size⟩, h3⟩
/-- Bytes in new memory: none of a device's own blocks. -/
def Fresh (w : World) (sv : Value) (b : List UInt8) (C : Nat) : Prop := ∃ g, C ≤ g ∧ BytesIn w sv b (some g)
theorem writeQ (w0 w : World) (p : Nat) (D : DS) (B : Nat) (n : Int) (sv : Value) (b : List UInt8) (h : DQ w0 p D B) (hb : Below w0.heap.size w0 w) (hsv : Fresh w sv b w0.heap.size) (hcl : D.calls ≤ 999999) (hbl : b.length ≤ 512) (hn : I64 n) :
    Calls Try.prog 21 #[.pointer (some ⟨p, 0, none⟩), .int .i64 n, sv] w fun e w' => e = .returned (.int .i64 (D.write n b).2) ∧ DQ w' p (D.write n b).1 B ∧ Below B w w' := by
  obtain ⟨r, T, h1, h2, h3⟩ := h
  obtain ⟨g, hg, hB⟩ := hsv
  exact (write_calls w p D r T n sv b (some g) (h1.below hb (Nat.le_refl _)) hB (fun k e hm => by cases e; have := h1.mine_lt hm; omega) hcl hbl hn).mono fun e w' ⟨e1, e2⟩ => ⟨e1, DQ.of_go e2 h2 (Nat.le_trans h3 hb.size)⟩
/-- The same, and what was made since stays too. -/
theorem writeQ2 (w0 w : World) (p : Nat) (D : DS) (B : Nat) (n : Int) (sv : Value) (b : List UInt8) (h : DQ w0 p D B) (hb : Below w0.heap.size w0 w) (hsv : Fresh w sv b w0.heap.size) (hcl : D.calls ≤ 999999) (hbl : b.length ≤ 512) (hn : I64 n) :
    Calls Try.prog 21 #[.pointer (some ⟨p, 0, none⟩), .int .i64 n, sv] w fun e w' => e = .returned (.int .i64 (D.write n b).2) ∧ DQ w' p (D.write n b).1 B ∧ Below B w w' ∧ ∀ k, w0.heap.size ≤ k → k < w.heap.size → w'.heap[k]? = w.heap[k]? := by
  obtain ⟨r, T, h1, h2, h3⟩ := h
  obtain ⟨g, hg, hB⟩ := hsv
  refine (write_calls w p D r T n sv b (some g) (h1.below hb (Nat.le_refl _)) hB (fun k e hm => by cases e; have := h1.mine_lt hm; omega) hcl hbl hn).mono fun e w' ⟨e1, e2⟩ => ?_
  have q := DQ.of_go e2 h2 (Nat.le_trans h3 hb.size)
  obtain ⟨r', U, g1, g2, g3, g4⟩ := e2
  exact ⟨e1, q.1, q.2, fun k hk1 hk2 => g2.block k hk2 (fun hm => by have := h1.mine_lt hm; omega)⟩
theorem flushQ (w : World) (p : Nat) (D : DS) (B : Nat) (h : DQ w p D B) (hcl : D.calls ≤ 999999) :
    Calls Try.prog 20 #[.pointer (some ⟨p, 0, none⟩)] w fun e w' => e = .returned (.int .i64 D.flush.2) ∧ DQ w' p D.flush.1 B ∧ Below B w w' := by
  obtain ⟨r, T, h1, h2, h3⟩ := h
  exact (flush_calls w p D r T h1 hcl).mono fun e w' ⟨e1, e2⟩ => ⟨e1, DQ.of_go e2 h2 h3⟩
theorem crashQ (w : World) (p : Nat) (D : DS) (B : Nat) (mask torn bytes : Int) (h : DQ w p D B) (hcl : D.calls ≤ 1000000) (hm : 0 ≤ mask ∧ mask ≤ 18446744073709551615) (ht : I64 torn) (hy : I64 bytes) :
    Calls Try.prog 16 #[.pointer (some ⟨p, 0, none⟩), .int .u64 mask, .int .i64 torn, .int .i64 bytes] w fun e w' => e = .returned (.tuple #[]) ∧ DQ w' p (D.crash mask torn bytes) B ∧ Below B w w' := by
  obtain ⟨r, T, h1, h2, h3⟩ := h
  exact (crash_calls w p D r T mask torn bytes h1 hcl hm ht hy).mono fun e w' ⟨e1, e2⟩ => ⟨e1, DQ.of_go e2 h2 h3⟩
theorem startQ (w : World) (p : Nat) (D : DS) (B : Nat) (h : DQ w p D B) :
    Calls Try.prog 18 #[.pointer (some ⟨p, 0, none⟩)] w fun e w' => e = .returned (.tuple #[]) ∧ DQ w' p D.start B ∧ Below B w w' := by
  obtain ⟨r, T, h1, h2, h3⟩ := h
  exact (start_calls w p D r T h1).mono fun e w' ⟨e1, e2⟩ => ⟨e1, DQ.of_go e2 h2 h3⟩
/-- What Read hands out. -/
def Got (w : World) (L : List UInt8) (sv : Value) (w' : World) : Prop := (sv = .slice none 0 0 ∧ L = []) ∨ Out w L sv w'
theorem Got.bytes {w w' : World} {L : List UInt8} {sv : Value} (h : Got w L sv w') : ∃ r, BytesIn w' sv L r ∧ ∀ k, r = some k → w.heap.size ≤ k ∧ k < w'.heap.size := by
  rcases h with ⟨rfl, rfl⟩ | ⟨g, cap, rfl, h1, h2⟩
  · exact ⟨none, ⟨none, 0, rfl, Nat.le_refl _, .inl ⟨rfl, rfl, rfl⟩⟩, fun k e => by cases e⟩
  · exact ⟨some g, own_bytes h2, fun k e => by cases e; exact ⟨h1, (h2.lt g rfl).2⟩⟩
theorem readQ (w : World) (p : Nat) (D : DS) (B : Nat) (n : Int) (h : DQ w p D B) (hn : I64 n) :
    Calls Try.prog 26 #[.pointer (some ⟨p, 0, none⟩), .int .i64 n] w fun e w' => ∃ sv, e = .returned (.tuple #[sv, .int .i64 (D.read n).2]) ∧ Got w (D.read n).1 sv w' ∧ Below w.heap.size w w' := by
  obtain ⟨r, T, h1, h2, h3⟩ := h
  exact (read_calls w p D r T n h1 hn).mono fun e w' ⟨sv, e1, e2, e3⟩ => ⟨sv, e1, e2, e3⟩
theorem looseQ (w : World) (p : Nat) (D : DS) (B : Nat) (h : DQ w p D B) : Calls Try.prog 24 #[.pointer (some ⟨p, 0, none⟩)] w fun e w' => e = .returned (.int .i64 (D.loose.length : Int)) ∧ w' = w := by
  obtain ⟨r, T, h1, h2, h3⟩ := h
  exact loose_calls w p D r T h1
theorem countQ (w : World) (p : Nat) (D : DS) (B : Nat) (h : DQ w p D B) : Calls Try.prog 29 #[.pointer (some ⟨p, 0, none⟩)] w fun e w' => e = .returned (.int .i64 D.calls) ∧ w' = w := by
  obtain ⟨r, T, h1, h2, h3⟩ := h
  exact count_calls w p D r T h1
theorem blocksQ (w : World) (p : Nat) (D : DS) (B : Nat) (h : DQ w p D B) : Calls Try.prog 28 #[.pointer (some ⟨p, 0, none⟩)] w fun e w' => e = .returned (.int .i64 D.blocks) ∧ w' = w := by
  obtain ⟨r, T, h1, h2, h3⟩ := h
  exact blocks_calls w p D r T h1
theorem made_fresh {w w' : World} {L : List UInt8} (o : w'.ownsRow w.heap.size 5 1 (.slice (some ⟨w.heap.size, 0, none⟩) L.length L.length) L.length (bc L)) : Fresh w' (.slice (some ⟨w.heap.size, 0, none⟩) L.length L.length) L w.heap.size := ⟨w.heap.size, Nat.le_refl _, own_bytes o⟩
theorem conv_got {w w' : World} {L : List UInt8} {sv : Value} (h : Got w L sv w') : (convert 42 9 sv).run Try.prog w' = .ok (.string (str L)) w' := by
  obtain ⟨r, h1, _⟩ := h.bytes
  exact conv_bytes h1
theorem Got.later {w w' w'' : World} {L : List UInt8} {sv : Value} (h : Got w L sv w') {C : Nat} (hb : Below C w' w'') (hC : w'.heap.size ≤ C) : Got w L sv w'' := by
  rcases h with h | ⟨g, cap, rfl, h1, h2⟩
  · exact .inl h
  · exact .inr ⟨g, cap, rfl, h1, row_kept h2 fun k hk => hb.block k (by have := (h2.lt k hk).2; omega)⟩
end Go.Proofs.Ytmemhckkfhlnmaa
