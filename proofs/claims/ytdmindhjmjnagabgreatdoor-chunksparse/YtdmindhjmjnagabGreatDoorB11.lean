import Derived.Test.YtdmindhjmjnagabGreatDoorRows
import Derived.Test.YtdmindhjmjnagabGreatDoorB01
import Derived.Deep.QuietTactic
import Derived.BigQuiet
import Derived.Deep.RegionHeld3
import Derived.Deep.RegionLaw
/- What each call on a pack.Writer does to the writer and to the rest of memory. -/
namespace Go.Proofs.YtdmindhjmjnagabGreatDoor
set_option linter.unusedVariables false
set_option maxRecDepth 100000
open Go.RowKit
set_option maxHeartbeats 400000 in
theorem fail_any (w : World) (p : Nat) (m : Int) (sv : Value) (bad : Bool) (h : w.heap[p]? = some (.cells #[.int .i64 m, sv, .bool bad] 151 (0, 0))) :
    Calls Tryz.prog 91 #[.pointer (some ⟨p, 0, none⟩)] w fun e w' => e = .returned (.tuple #[]) ∧ w' = (w.setCell ⟨p, 2, none⟩ (.bool true)).setCell ⟨p, 1, none⟩ (.slice none 0 0) := by
  obtain ⟨c0, c1, c2⟩ := cells3 h
  obtain ⟨f0, f1, f2⟩ := free3 h
  clear h
  go_enter Tryz.func91, Tryz.ntmps91
  go_wp2
  go_end0
  exact ⟨rfl, rfl⟩
set_option maxHeartbeats 400000 in
theorem new_any (w : World) (n : Int) (h0 : 0 ≤ n) (h1 : n ≤ 2147483647) :
    Calls Tryz.prog 64 #[.int .i64 n] w fun e w' => e = .returned (.pointer (some ⟨w.heap.size, 0, none⟩)) ∧ w' = w.alloc (.cells #[.int .i64 n, .slice none 0 0, .bool false] 151) := by
  go_enter Tryz.func64, Tryz.ntmps64
  go_wp2
  go_ret
  first
    | exact ⟨rfl, rfl⟩
    | exact ⟨rfl, by rw [show min (max n 0) 2147483647 = n by omega]⟩

set_option maxHeartbeats 400000 in
theorem fits_bad (w : World) (p : Nat) (m n : Int) (a : Option Addr) (l c : Nat) (h : w.heap[p]? = some (.cells #[.int .i64 m, .slice a l c, .bool true] 151 (0, 0))) :
    Calls Tryz.prog 90 #[.pointer (some ⟨p, 0, none⟩), .int .i64 n] w fun e w' => e = .returned (.bool false) ∧ ∃ k, w' = w.drewN k := by
  obtain ⟨c0, c1, c2⟩ := cells3 h
  obtain ⟨f0, f1, f2⟩ := free3 h
  clear h
  go_enter Tryz.func90, Tryz.ntmps90
  go_wp2
  go_quiet (fail)
  go_wp2
  go_ret
  exact ⟨rfl, _, rfl⟩
set_option maxHeartbeats 400000 in
theorem fits_full (w : World) (p : Nat) (m n : Int) (a : Option Addr) (l c : Nat) (h : w.heap[p]? = some (.cells #[.int .i64 m, .slice a l c, .bool false] 151 (0, 0)))
    (hm0 : 0 ≤ m) (hm1 : m ≤ 2147483647) (hl : (l : Int) ≤ m) (hn : m - l < n) :
    Calls Tryz.prog 90 #[.pointer (some ⟨p, 0, none⟩), .int .i64 n] w fun e w' => e = .returned (.bool false) ∧ ∃ k, w' = ((w.drewN k).setCell ⟨p, 2, none⟩ (.bool true)).setCell ⟨p, 1, none⟩ (.slice none 0 0) := by
  obtain ⟨c0, c1, c2⟩ := cells3 h
  obtain ⟨f0, f1, f2⟩ := free3 h
  go_enter Tryz.func90, Tryz.ntmps90
  go_wp2
  go_quiet (fail)
  go_wp2_with (go_at_call 91; refine (fail_any _ p m (.slice a l c) false (by exact h)).mono ?_; rintro e w' ⟨rfl, rfl⟩)
  go_ret
  exact ⟨rfl, _, rfl⟩
set_option maxHeartbeats 400000 in
theorem fits_ok (w : World) (p : Nat) (m n : Int) (a : Option Addr) (l c : Nat) (h : w.heap[p]? = some (.cells #[.int .i64 m, .slice a l c, .bool false] 151 (0, 0)))
    (hm0 : 0 ≤ m) (hm1 : m ≤ 2147483647) (hl : (l : Int) ≤ m) (hn : n ≤ m - l) :
    Calls Tryz.prog 90 #[.pointer (some ⟨p, 0, none⟩), .int .i64 n] w fun e w' => e = .returned (.bool true) ∧ ∃ k, w' = w.drewN k := by
  obtain ⟨c0, c1, c2⟩ := cells3 h
  obtain ⟨f0, f1, f2⟩ := free3 h
  clear h
  go_enter Tryz.func90, Tryz.ntmps90
  go_wp2
  go_quiet (fail)
  go_wp2
  go_ret
  exact ⟨rfl, _, rfl⟩

theorem Tryz.info_u8 : (Tryz.prog.info? 5).map (fun i => (i.zero, i.size, i.bytes)) = some (some (.int .u8 0), 1, 1) := by kernel_rfl

/-- A writer in block p: its room m, its bytes L (in the row r), whether it is wrong. -/
def WrAt (w : World) (p : Nat) (m : Int) (L : List UInt8) (bad : Bool) (r : Option Nat) : Prop :=
  ∃ sv, w.heap[p]? = some (.cells #[.int .i64 m, sv, .bool bad] 151 (0, 0)) ∧ w.ownsRow (p + 1) 5 1 sv L.length (bc L) ∧ sv.ownBlock = r ∧ 0 ≤ m ∧ m ≤ 2147483647 ∧ (L.length : Int) ≤ m
/-- What a call on it comes to. -/
def WrTo (p : Nat) (m : Int) (w : World) (r : Option Nat) (L : List UInt8) (bad : Bool) (w' : World) : Prop :=
  ∃ r', WrAt w' p m L bad r' ∧ Touch p r w w' ∧ Near r r' w.heap.size

theorem own_form {w : World} {base : Nat} {e : TypeId} {sv : Value} {n : Nat} {xs : List Value} (ho : w.ownsRow base e 1 sv n xs) : ∃ a c, sv = .slice a n c := by
  rcases ho.2 with ⟨rfl, h0⟩ | ⟨g, cap, cur, rfl, _⟩
  · exact ⟨none, 0, by rw [h0]⟩
  · exact ⟨_, _, rfl⟩

theorem WrAt.op {w : World} {p : Nat} {m : Int} {L : List UInt8} {bad : Bool} {r : Option Nat} (h : WrAt w p m L bad r) :
    ∃ a c, w.heap[p]? = some (.cells #[.int .i64 m, .slice a L.length c, .bool bad] 151 (0, 0)) ∧ w.ownsRow (p + 1) 5 1 (.slice a L.length c) L.length (bc L) ∧ (Value.slice a L.length c).ownBlock = r ∧ 0 ≤ m ∧ m ≤ 2147483647 ∧ (L.length : Int) ≤ m := by
  obtain ⟨sv, h1, h2, h3, h4⟩ := h
  obtain ⟨a, c, rfl⟩ := own_form h2
  exact ⟨a, c, h1, h2, h3, h4⟩
theorem WrAt.lt {w : World} {p : Nat} {m : Int} {L : List UInt8} {bad : Bool} {r : Option Nat} (h : WrAt w p m L bad r) : p < w.heap.size ∧ ∀ k, r = some k → p < k ∧ k < w.heap.size := by
  obtain ⟨sv, h1, h2, h3, _⟩ := h
  exact ⟨lt_of_block h1, fun k hk => by have := h2.lt k (h3.trans hk); omega⟩
theorem WrAt.drewN {w : World} {p : Nat} {m : Int} {L : List UInt8} {bad : Bool} {r : Option Nat} (h : WrAt w p m L bad r) (k : Nat) : WrAt (w.drewN k) p m L bad r := h
/-- It stays as it is where its two blocks stay. -/
theorem WrAt.kept {w w' : World} {p : Nat} {m : Int} {L : List UInt8} {bad : Bool} {r : Option Nat} (h : WrAt w p m L bad r) (hp : w'.heap[p]? = w.heap[p]?) (hr : ∀ k, r = some k → w'.heap[k]? = w.heap[k]?) : WrAt w' p m L bad r := by
  obtain ⟨sv, h1, h2, h3, h4⟩ := h
  refine ⟨sv, hp.trans h1, ⟨h2.1, ?_⟩, h3, h4⟩
  rcases h2.2 with hn | ⟨g, cap, cur, rfl, hb, hg, rest⟩
  · exact .inl hn
  · exact .inr ⟨g, cap, cur, rfl, hb, (hr g (by rw [← h3]; rfl)).trans hg, rest⟩
/-- The writer that fails. -/
theorem WrAt.failed {w : World} {p : Nat} {m : Int} {L : List UInt8} {bad : Bool} {r : Option Nat} (h : WrAt w p m L bad r) : WrTo p m w r [] true ((w.setCell ⟨p, 2, none⟩ (.bool true)).setCell ⟨p, 1, none⟩ (.slice none 0 0)) := by
  obtain ⟨sv, h1, h2, h3, h4, h5, h6⟩ := h
  refine ⟨none, ⟨.slice none 0 0, (set3 (set3 h1).2.2).2.1, World.ownsRow_nil _ _ _ _, rfl, h4, h5, by simpa using h4⟩, ((Touch.refl _ _ _).setCell _ _).setCell _ _, Near.none _ _⟩
theorem WrTo.drewN {w w' : World} {p : Nat} {m : Int} {L : List UInt8} {bad : Bool} {r : Option Nat} {k : Nat} (h : WrTo p m (w.drewN k) r L bad w') : WrTo p m w r L bad w' := by
  obtain ⟨r', h1, h2, h3⟩ := h
  exact ⟨r', h1, ⟨h2.os, h2.tape, h2.output, h2.size, h2.block⟩, h3⟩
theorem WrAt.stays {w : World} {p : Nat} {m : Int} {L : List UInt8} {bad : Bool} {r : Option Nat} (h : WrAt w p m L bad r) : WrTo p m w r L bad w := ⟨r, h, Touch.refl _ _ _, Near.refl _ _⟩
theorem WrTo.trans {w w' w'' : World} {p : Nat} {m : Int} {L L' : List UInt8} {bad bad' : Bool} {r r' : Option Nat} (ht : Touch p r w w') (hn : Near r r' w.heap.size) (k : WrTo p m w' r' L' bad' w'') : WrTo p m w r L' bad' w'' := by
  obtain ⟨r'', h1, h2, h3⟩ := k
  exact ⟨r'', h1, ht.trans h2 hn, hn.trans h3 ht.size⟩

/-- Behind an append to the writer's row and the store of the new value. -/
theorem wr_step {w wr w0 w1 : World} {p : Nat} {m : Int} {L L' : List UInt8} {r : Option Nat} {sv1 : Value} {g cap N : Nat}
    (h1 : wr.heap[p]? = some (.cells #[.int .i64 m, sv1, .bool false] 151 (0, 0))) (ho1 : wr.ownsRow (p + 1) 5 1 sv1 L.length (bc L)) (ht : Touch p r w wr) (hn : Near r sv1.ownBlock w.heap.size)
    (h0 : ∀ k, k < wr.heap.size → w0.heap[k]? = wr.heap[k]?) (h0s : wr.heap.size ≤ w0.heap.size) (h0o : w0.os = wr.os) (h0t : w0.tape = wr.tape) (h0p : w0.output = wr.output)
    (hown : w1.ownsRow (p + 1) 5 1 (.slice (some ⟨g, 0, none⟩) N cap) N (bc L')) (hN : N = L'.length) (hgrow : w0.grownBy w1 sv1.ownBlock) (hat : sv1.ownBlock = some g ∨ wr.heap.size ≤ g)
    (hm0 : 0 ≤ m) (hm1 : m ≤ 2147483647) (hl : (L'.length : Int) ≤ m) : WrTo p m w r L' false (w1.setCell ⟨p, 1, none⟩ (.slice (some ⟨g, 0, none⟩) N cap)) := by
  subst hN
  have hp := lt_of_block h1
  have hrow : ∀ k, sv1.ownBlock = some k → p < k ∧ k < wr.heap.size := fun k hk => by have := ho1.lt k hk; omega
  have hpw1 : w1.heap[p]? = some (.cells #[.int .i64 m, sv1, .bool false] 151 (0, 0)) := by
    rw [hgrow.block p (by omega) (fun e => by have := hrow p e.symm; omega), h0 p hp]; exact h1
  have hgp : p < g := by
    rcases hat with e | e
    · exact (hrow g e).1
    · omega
  have ht1 : Touch p r w w1 := ⟨hgrow.os.trans (h0o.trans ht.os), hgrow.tape.trans (h0t.trans ht.tape), hgrow.output.trans (h0p.trans ht.output), by have := ht.size; have := hgrow.size; omega, fun k hk hkp hkr => by
    have hs := ht.size
    rw [hgrow.block k (by omega) (fun e => by
      rcases hn k e.symm with e2 | e2
      · exact hkr e2
      · omega), h0 k (by omega)]
    exact ht.block k hk hkp hkr⟩
  refine ⟨some g, ⟨_, (set3 hpw1).2.1, ?_, rfl, hm0, hm1, hl⟩, ht1.setCell _ _, ?_⟩
  · exact ownsRow_setCell_below hown (by simp) _
  · intro k hk
    cases hk
    rcases hat with e | e
    · exact hn _ e
    · exact .inr (by have := ht.size; omega)

end Go.Proofs.YtdmindhjmjnagabGreatDoor
