import Derived.Test.YtdmindhjmjnagaaGreatDoorRows
import Derived.Test.YtdmindhjmjnagaaGreatDoorB01
import Derived.Deep.QuietTactic
import Derived.BigQuiet
import Derived.Deep.RegionHeld3
import Derived.Deep.RegionLaw
/- PackW -/
namespace Go.Proofs.YtdmindhjmjnagaaGreatDoor
set_option linter.unusedVariables false
set_option maxRecDepth 1000000
set_option maxHeartbeats 32000000
section
open Go.RowKit
theorem fail_any (w : World) (p : Nat) (m : Int) (sv : Value) (bad : Bool) (h : w.heap[p]? = some (.cells #[.int .i64 m, sv, .bool bad] 211 (0, 0))) :
    Calls Tryz.prog 153 #[.pointer (some ⟨p, 0, none⟩)] w fun e w' => e = .returned (.tuple #[]) ∧ w' = (w.setCell ⟨p, 2, none⟩ (.bool true)).setCell ⟨p, 1, none⟩ (.slice none 0 0) := by
 obtain ⟨c0, c1, c2⟩ := cells3 h
 obtain ⟨f0, f1, f2⟩ := free3 h
 clear h
 go_enter Tryz.func153, Tryz.ntmps153
 go_wp2
 go_end0
 exact ⟨rfl, rfl⟩
theorem new_any (w : World) (n : Int) (h0 : 0 ≤ n) (h1 : n ≤ 2147483647) :
    Calls Tryz.prog 118 #[.int .i64 n] w fun e w' => e = .returned (.pointer (some ⟨w.heap.size, 0, none⟩)) ∧ w' = w.alloc (.cells #[.int .i64 n, .slice none 0 0, .bool false] 211) := by
 go_enter Tryz.func118, Tryz.ntmps118
 go_wp2
 go_ret
 first
   | exact ⟨rfl, rfl⟩
   | exact ⟨rfl, by rw [show min (max n 0) 2147483647 = n by omega]⟩
theorem fits_bad (w : World) (p : Nat) (m n : Int) (a : Option Addr) (l c : Nat) (h : w.heap[p]? = some (.cells #[.int .i64 m, .slice a l c, .bool true] 211 (0, 0))) :
    Calls Tryz.prog 152 #[.pointer (some ⟨p, 0, none⟩), .int .i64 n] w fun e w' => e = .returned (.bool false) ∧ ∃ k, w' = w.drewN k := by
 obtain ⟨c0, c1, c2⟩ := cells3 h
 obtain ⟨f0, f1, f2⟩ := free3 h
 clear h
 go_enter Tryz.func152, Tryz.ntmps152
 go_wp2
 go_quiet (fail)
 go_wp2
 go_ret
 exact ⟨rfl, _, rfl⟩
theorem fits_full (w : World) (p : Nat) (m n : Int) (a : Option Addr) (l c : Nat) (h : w.heap[p]? = some (.cells #[.int .i64 m, .slice a l c, .bool false] 211 (0, 0)))
    (hm0 : 0 ≤ m) (hm1 : m ≤ 2147483647) (hl : (l : Int) ≤ m) (hn : m - l < n) :
    Calls Tryz.prog 152 #[.pointer (some ⟨p, 0, none⟩), .int .i64 n] w fun e w' => e = .returned (.bool false) ∧ ∃ k, w' = ((w.drewN k).setCell ⟨p, 2, none⟩ (.bool true)).setCell ⟨p, 1, none⟩ (.slice none 0 0) := by
 obtain ⟨c0, c1, c2⟩ := cells3 h
 obtain ⟨f0, f1, f2⟩ := free3 h
 go_enter Tryz.func152, Tryz.ntmps152
 go_wp2
 go_quiet (fail)
 go_wp2_with (go_at_call 153; refine (fail_any _ p m (.slice a l c) false (by exact h)).mono ?_; rintro e w' ⟨rfl, rfl⟩)
 go_ret
 exact ⟨rfl, _, rfl⟩
theorem fits_ok (w : World) (p : Nat) (m n : Int) (a : Option Addr) (l c : Nat) (h : w.heap[p]? = some (.cells #[.int .i64 m, .slice a l c, .bool false] 211 (0, 0)))
    (hm0 : 0 ≤ m) (hm1 : m ≤ 2147483647) (hl : (l : Int) ≤ m) (hn : n ≤ m - l) :
    Calls Tryz.prog 152 #[.pointer (some ⟨p, 0, none⟩), .int .i64 n] w fun e w' => e = .returned (.bool true) ∧ ∃ k, w' = w.drewN k := by
 obtain ⟨c0, c1, c2⟩ := cells3 h
 obtain ⟨f0, f1, f2⟩ := free3 h
 clear h
 go_enter Tryz.func152, Tryz.ntmps152
 go_wp2
 go_quiet (fail)
 go_wp2
 go_ret
 exact ⟨rfl, _, rfl⟩
theorem Tryz.info_u8 : (Tryz.prog.info? 5).map (fun i => (i.zero, i.size, i.bytes)) = some (some (.int .u8 0), 1, 1) := by kernel_rfl
def WrAt (w : World) (p : Nat) (m : Int) (L : List UInt8) (bad : Bool) (r : Option Nat) : Prop :=
 ∃ sv, w.heap[p]? = some (.cells #[.int .i64 m, sv, .bool bad] 211 (0, 0)) ∧ w.ownsRow (p + 1) 5 1 sv L.length (bc L) ∧ sv.ownBlock = r ∧ 0 ≤ m ∧ m ≤ 2147483647 ∧ (L.length : Int) ≤ m
def WrTo (p : Nat) (m : Int) (w : World) (r : Option Nat) (L : List UInt8) (bad : Bool) (w' : World) : Prop :=
 ∃ r', WrAt w' p m L bad r' ∧ Touch p r w w' ∧ Near r r' w.heap.size
theorem own_form {w : World} {base : Nat} {e : TypeId} {sv : Value} {n : Nat} {xs : List Value} (ho : w.ownsRow base e 1 sv n xs) : ∃ a c, sv = .slice a n c := by
 rcases ho.2 with ⟨rfl, h0⟩ | ⟨g, cap, cur, rfl, _⟩
 · exact ⟨none, 0, by rw [h0]⟩
 · exact ⟨_, _, rfl⟩
theorem WrAt.op {w : World} {p : Nat} {m : Int} {L : List UInt8} {bad : Bool} {r : Option Nat} (h : WrAt w p m L bad r) :
    ∃ a c, w.heap[p]? = some (.cells #[.int .i64 m, .slice a L.length c, .bool bad] 211 (0, 0)) ∧ w.ownsRow (p + 1) 5 1 (.slice a L.length c) L.length (bc L) ∧ (Value.slice a L.length c).ownBlock = r ∧ 0 ≤ m ∧ m ≤ 2147483647 ∧ (L.length : Int) ≤ m := by
 obtain ⟨sv, h1, h2, h3, h4⟩ := h
 obtain ⟨a, c, rfl⟩ := own_form h2
 exact ⟨a, c, h1, h2, h3, h4⟩
theorem WrAt.lt {w : World} {p : Nat} {m : Int} {L : List UInt8} {bad : Bool} {r : Option Nat} (h : WrAt w p m L bad r) : p < w.heap.size ∧ ∀ k, r = some k → p < k ∧ k < w.heap.size := by
 obtain ⟨sv, h1, h2, h3, _⟩ := h
 exact ⟨lt_of_block h1, fun k hk => by have := h2.lt k (h3.trans hk); omega⟩
theorem WrAt.drewN {w : World} {p : Nat} {m : Int} {L : List UInt8} {bad : Bool} {r : Option Nat} (h : WrAt w p m L bad r) (k : Nat) : WrAt (w.drewN k) p m L bad r := h
theorem WrAt.failed {w : World} {p : Nat} {m : Int} {L : List UInt8} {bad : Bool} {r : Option Nat} (h : WrAt w p m L bad r) : WrTo p m w r [] true ((w.setCell ⟨p, 2, none⟩ (.bool true)).setCell ⟨p, 1, none⟩ (.slice none 0 0)) := by
 obtain ⟨sv, h1, h2, h3, h4, h5, h6⟩ := h
 refine ⟨none, ⟨.slice none 0 0, (set3 (set3 h1).2.2).2.1, World.ownsRow_nil _ _ _ _, rfl, h4, h5, by simpa using h4⟩, ((Touch.refl _ _ _).setCell _ _).setCell _ _, Near.none _ _⟩
theorem WrTo.drewN {w w' : World} {p : Nat} {m : Int} {L : List UInt8} {bad : Bool} {r : Option Nat} {k : Nat} (h : WrTo p m (w.drewN k) r L bad w') : WrTo p m w r L bad w' := by
 obtain ⟨r', h1, h2, h3⟩ := h
 exact ⟨r', h1, ⟨h2.os, h2.tape, h2.output, h2.size, h2.block⟩, h3⟩
theorem WrAt.stays {w : World} {p : Nat} {m : Int} {L : List UInt8} {bad : Bool} {r : Option Nat} (h : WrAt w p m L bad r) : WrTo p m w r L bad w := ⟨r, h, Touch.refl _ _ _, Near.refl _ _⟩
end
end Go.Proofs.YtdmindhjmjnagaaGreatDoor
