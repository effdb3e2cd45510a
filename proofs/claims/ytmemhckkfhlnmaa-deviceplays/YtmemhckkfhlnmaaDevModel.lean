/- A device as plain data, what each call makes of it, and frames over sets of blocks; nothing here speaks of a program. -/
import Derived.Test.YtmemhckkfhlnmaaDevLaw
namespace Go.Proofs.Ytmemhckkfhlnmaa
set_option linter.unusedVariables false
open Go.RowKit

/-- A device as plain data. -/
structure DS where
  blocks : Int
  fl : Int → List UInt8
  nw : Int → List UInt8
  loose : List Int
  down : Bool
  calls : Int
  armed : Int
  mask : Int
  torn : Int
  bytes : Int

def DS.new (n : Int) : DS := ⟨max (min n 4294967296) 1, fun _ => nought, fun _ => nought, [], false, 0, 0, 0, 0, 0⟩
/-- Bit i (modulo 64) of a mask. -/
def bitOf (mask : Int) (i : Nat) : Bool := mask / 2 ^ (i % 64) % 2 == 1
/-- What is flushed of a block behind a crash. -/
def DS.settled (D : DS) (mask torn bytes : Int) (n : Int) : List UInt8 :=
  if n ∈ D.loose then
    (if (D.loose.idxOf n : Int) = torn then (D.nw n).take (min (max bytes 0) 512).toNat ++ (D.fl n).drop (min (max bytes 0) 512).toNat
     else if bitOf mask (D.loose.idxOf n) = true then D.nw n else D.fl n)
  else D.fl n
def DS.crash (D : DS) (mask torn bytes : Int) : DS :=
  if D.down = true then D else { D with fl := D.settled mask torn bytes, nw := D.settled mask torn bytes, loose := [], down := true, armed := 0 }
/-- A call counts, and may crash: the device behind it; does the call go on? -/
def DS.tick (D : DS) : DS × Bool :=
  if D.down = true then (D, false)
  else if D.armed = 0 then ({ D with calls := D.calls + 1 }, true)
  else if D.armed = 1 then (({ D with calls := D.calls + 1 } : DS).crash D.mask D.torn D.bytes, false)
  else ({ D with calls := D.calls + 1, armed := D.armed - 1 }, true)
def DS.put (D : DS) (n : Int) (b : List UInt8) : DS := { D with nw := fun k => if k = n then b else D.nw k, loose := if n ∈ D.loose then D.loose else D.loose ++ [n] }
/-- Write: the device behind it, the answer. -/
def DS.write (D : DS) (n : Int) (b : List UInt8) : DS × Int :=
  if D.tick.2 = false then (D.tick.1, 11) else if n < 0 ∨ D.blocks ≤ n ∨ b.length ≠ 512 then (D.tick.1, 1) else (D.tick.1.put n b, 0)
def DS.flush (D : DS) : DS × Int :=
  if D.tick.2 = false then (D.tick.1, 11) else ({ D.tick.1 with fl := D.tick.1.nw, loose := [] }, 0)
def DS.start (D : DS) : DS := { D with down := false }
def DS.arm (D : DS) (n mask torn bytes : Int) : DS := { D with armed := max n 0, mask := mask, torn := torn, bytes := bytes }
/-- Read: bytes, the answer. -/
def DS.read (D : DS) (n : Int) : List UInt8 × Int :=
  if D.down = true then ([], 11) else if n < 0 ∨ D.blocks ≤ n then ([], 1) else (D.nw n, 0)

/-- What holds of every device that calls have made. -/
structure DS.Ok (D : DS) : Prop where
  b1 : 1 ≤ D.blocks
  b2 : D.blocks ≤ 4294967296
  lf : ∀ n, (D.fl n).length = 512
  ln : ∀ n, (D.nw n).length = 512
  still : ∀ n, n ∉ D.loose → D.nw n = D.fl n
  once : D.loose.Nodup
  a0 : 0 ≤ D.armed
  c0 : 0 ≤ D.calls
  lc : (D.loose.length : Int) ≤ D.calls

theorem nought_length : nought.length = 512 := fill_length 0
theorem DS.new_ok (n : Int) : (DS.new n).Ok :=
  ⟨by unfold DS.new; simp only; omega, by unfold DS.new; simp only; omega, (by unfold DS.new; simp only [nought_length, implies_true]), (by unfold DS.new; simp only [nought_length, implies_true]), (by unfold DS.new; simp only [implies_true]), (by unfold DS.new; exact List.nodup_nil), (by unfold DS.new; simp only [Int.le_refl]), (by unfold DS.new; simp only [Int.le_refl]), (by unfold DS.new; simp)⟩
theorem DS.Ok.settled {D : DS} (h : D.Ok) (mask torn bytes n : Int) : (D.settled mask torn bytes n).length = 512 := by
  have h1 := h.lf n
  have h2 := h.ln n
  unfold DS.settled
  split
  · split
    · rw [List.length_append, List.length_take, List.length_drop]
      omega
    · split <;> assumption
  · assumption
theorem DS.Ok.crash {D : DS} (h : D.Ok) (mask torn bytes : Int) : (D.crash mask torn bytes).Ok := by
  unfold DS.crash
  split
  · exact h
  · exact ⟨h.b1, h.b2, fun n => h.settled mask torn bytes n, fun n => h.settled mask torn bytes n, fun _ _ => rfl, List.nodup_nil, Int.le_refl _, h.c0, by have := h.c0; simpa using this⟩
theorem DS.Ok.tick {D : DS} (h : D.Ok) : D.tick.1.Ok := by
  have hc : ({ D with calls := D.calls + 1 } : DS).Ok := ⟨h.b1, h.b2, h.lf, h.ln, h.still, h.once, h.a0, by have := h.c0; simp only; omega, by have := h.lc; simp only; omega⟩
  unfold DS.tick
  split
  · exact h
  · split
    · exact hc
    · split
      · exact hc.crash _ _ _
      · rename_i h1 h2 h3
        exact ⟨h.b1, h.b2, h.lf, h.ln, h.still, h.once, by have := h.a0; simp only; omega, by have := h.c0; simp only; omega, by have := h.lc; simp only; omega⟩
theorem DS.Ok.put {D : DS} (h : D.Ok) (n : Int) (b : List UInt8) (hb : b.length = 512) (hlc : (D.loose.length : Int) + 1 ≤ D.calls) : (D.put n b).Ok := by
  refine ⟨h.b1, h.b2, h.lf, fun k => ?_, fun k hk => ?_, ?_, h.a0, h.c0, ?_⟩
  · unfold DS.put
    simp only
    split
    · exact hb
    · exact h.ln k
  · unfold DS.put at hk ⊢
    simp only at hk ⊢
    by_cases e : k = n
    · subst e
      exfalso
      split at hk
      · contradiction
      · simp at hk
    · rw [if_neg e]
      refine h.still k (fun hm => hk ?_)
      split
      · exact hm
      · simp [hm]
  · unfold DS.put
    simp only
    split
    · exact h.once
    · rename_i hn
      rw [List.nodup_append]
      exact ⟨h.once, by simp, fun a ha b hb e => by simp at hb; subst hb; subst e; exact hn ha⟩
  · unfold DS.put
    simp only
    split
    · omega
    · rw [List.length_append]
      simp only [List.length_singleton]
      omega
theorem DS.tick_on {D : DS} (h : D.tick.2 = true) : D.tick.1.calls = D.calls + 1 ∧ D.tick.1.loose = D.loose ∧ D.tick.1.fl = D.fl ∧ D.tick.1.nw = D.nw ∧ D.tick.1.down = false ∧ D.tick.1.blocks = D.blocks := by
  unfold DS.tick at h ⊢
  by_cases h1 : D.down = true
  · rw [if_pos h1] at h; cases h
  · have h1' : D.down = false := by simpa using h1
    rw [if_neg h1] at h ⊢
    by_cases h2 : D.armed = 0
    · rw [if_pos h2]; exact ⟨rfl, rfl, rfl, rfl, h1', rfl⟩
    · rw [if_neg h2] at h ⊢
      by_cases h3 : D.armed = 1
      · rw [if_pos h3] at h; cases h
      · rw [if_neg h3]; exact ⟨rfl, rfl, rfl, rfl, h1', rfl⟩
theorem DS.Ok.write {D : DS} (h : D.Ok) (n : Int) (b : List UInt8) : (D.write n b).1.Ok := by
  unfold DS.write
  split
  · exact h.tick
  · split
    · exact h.tick
    · rename_i h1 h2
      have ht := DS.tick_on (D := D) (by simpa using h1)
      exact h.tick.put n b (by simp only [not_or, Decidable.not_not] at h2; exact h2.2.2) (by rw [ht.1, ht.2.1]; have := h.lc; omega)
theorem DS.Ok.flush {D : DS} (h : D.Ok) : D.flush.1.Ok := by
  have t := h.tick
  unfold DS.flush
  split
  · exact t
  · exact ⟨t.b1, t.b2, t.ln, t.ln, fun _ _ => rfl, List.nodup_nil, t.a0, t.c0, by have := t.c0; simpa using this⟩
theorem DS.Ok.start {D : DS} (h : D.Ok) : D.start.Ok := ⟨h.b1, h.b2, h.lf, h.ln, h.still, h.once, h.a0, h.c0, h.lc⟩
theorem DS.Ok.arm {D : DS} (h : D.Ok) (n mask torn bytes : Int) : (D.arm n mask torn bytes).Ok := ⟨h.b1, h.b2, h.lf, h.ln, h.still, h.once, by unfold DS.arm; simp only; omega, h.c0, h.lc⟩

/-- Of the blocks that were there all outside S are as they were. -/
structure Fr (S : Nat → Prop) (w w' : World) : Prop where
  os : w'.os = w.os
  tape : w'.tape = w.tape
  output : w'.output = w.output
  size : w.heap.size ≤ w'.heap.size
  block : ∀ k, k < w.heap.size → ¬ S k → w'.heap[k]? = w.heap[k]?
/-- What is owned now was owned, or is new since there were n blocks. -/
def Near' (S S' : Nat → Prop) (n : Nat) : Prop := ∀ k, S' k → S k ∨ n ≤ k
theorem Fr.refl (S : Nat → Prop) (w : World) : Fr S w w := ⟨rfl, rfl, rfl, Nat.le_refl _, fun _ _ _ => rfl⟩
theorem Fr.below {S : Nat → Prop} {w w' : World} {B : Nat} (h : Fr S w w') (hB : B ≤ w.heap.size) (hS : ∀ k, S k → B ≤ k) : Below B w w' :=
  ⟨h.os, h.tape, h.output, h.size, fun k hk => h.block k (by omega) (fun e => by have := hS k e; omega)⟩
theorem Fr.trans {S S' : Nat → Prop} {a b c : World} (h : Fr S a b) (k : Fr S' b c) (hn : Near' S S' a.heap.size) : Fr S a c :=
  ⟨k.os.trans h.os, k.tape.trans h.tape, k.output.trans h.output, Nat.le_trans h.size k.size, fun i hi hr =>
    (k.block i (by have := h.size; omega) (fun e => by rcases hn i e with hh | hh; exact hr hh; omega)).trans (h.block i hi hr)⟩
theorem Near'.trans {S S' S'' : Nat → Prop} {n m : Nat} (h : Near' S S' n) (k : Near' S' S'' m) (hnm : n ≤ m) : Near' S S'' n := fun i hi => by
  rcases k i hi with hh | hh
  · exact h i hh
  · exact .inr (by omega)
theorem Near'.ge {S S' : Nat → Prop} {n B : Nat} (h : Near' S S' n) (hS : ∀ k, S k → B ≤ k) (hn : B ≤ n) : ∀ k, S' k → B ≤ k := fun k hk => by
  rcases h k hk with e | e
  · exact hS k e
  · omega
end Go.Proofs.Ytmemhckkfhlnmaa
