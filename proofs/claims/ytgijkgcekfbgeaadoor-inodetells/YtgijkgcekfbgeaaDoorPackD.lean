/- pack.New and Writer.Done: what they come to. -/
import Derived.Test.YtgijkgcekfbgeaaDoorPackX
namespace Go.Proofs.YtgijkgcekfbgeaaDoor
set_option linter.unusedVariables false
open Go.RowKit

theorem new_calls (w : World) (n : Int) (h0 : 0 ≤ n) (h1 : n ≤ 2147483647) :
    Calls Tryd.prog 21 #[.int .i64 n] w fun e w' => e = .returned (.pointer (some ⟨w.heap.size, 0, none⟩)) ∧ WrS w' w.heap.size ⟨n, [], false⟩ none ∧ Below w.heap.size w w' := by
  refine (new_any w n h0 h1).mono ?_
  rintro e w' ⟨rfl, rfl⟩
  exact ⟨rfl, ⟨_, heap_alloc_new _ _, World.ownsRow_nil _ _ _ _, rfl, h0, h1, by simpa using h0⟩, (Below.refl _ _).alloc (Nat.le_refl _) _⟩

set_option maxHeartbeats 400000 in
theorem done_bad (w : World) (p : Nat) (s : WS) (r : Option Nat) (h : WrS w p s r) (hb : s.bad = true) :
    Calls Tryd.prog 42 #[.pointer (some ⟨p, 0, none⟩)] w fun e w' => e = .returned (.tuple #[.slice none 0 0, .bool false]) ∧ w' = w := by
  obtain ⟨a, c, h1, _⟩ := WrAt.op h
  rw [hb] at h1
  obtain ⟨c0, c1, c2⟩ := cells3 h1
  clear h1 hb
  go_enter Tryd.func42, Tryd.ntmps42
  go_wp2
  go_ret2
  exact ⟨rfl, rfl⟩
set_option maxHeartbeats 400000 in
theorem done_none (w : World) (p c : Nat) (m : Int) (h1 : w.heap[p]? = some (.cells #[.int .i64 m, .slice none 0 0, .bool false] 57 (0, 0))) :
    Calls Tryd.prog 42 #[.pointer (some ⟨p, 0, none⟩)] w fun e w' => ∃ a c, e = .returned (.tuple #[.slice a 0 c, .bool true]) ∧ w'.ownsRow w.heap.size 5 1 (.slice a 0 c) 0 [] ∧ Below w.heap.size w w' := by
  obtain ⟨i0, hi, hz0, hz1, hz2⟩ := info_parts Tryd.info_u8
  obtain ⟨c0, c1, c2⟩ := cells3 h1
  have hp := lt_of_block h1
  clear h1
  go_enter Tryd.func42, Tryd.ntmps42
  go_wp2_with (at_builtin; refine wpList_append_own_none rfl (.tmp 8) (.tmp 12) 55 rfl w.heap.size 5 i0 1 Tryd.underlying55 hi (.slice (some ⟨w.heap.size, 0, none⟩) 0 0) 0 [] rfl (World.ownsRow_made w #[] 0 (Nat.le_refl _) (by unfold maxLen; omega) rfl) rfl ?_)
  go_ret2
  exact ⟨_, _, rfl, World.ownsRow_made w #[] 0 (Nat.le_refl _) (by unfold maxLen; omega) rfl, (Below.refl _ _).alloc (Nat.le_refl _) _⟩
set_option maxHeartbeats 400000 in
theorem done_some (w : World) (p c g : Nat) (m : Int) (L : List UInt8) (h1 : w.heap[p]? = some (.cells #[.int .i64 m, .slice (some ⟨g, 0, none⟩) L.length c, .bool false] 57 (0, 0))) (ho : w.ownsRow (p + 1) 5 1 (.slice (some ⟨g, 0, none⟩) L.length c) L.length (bc L)) (hl : (L.length : Int) ≤ 2147483647) :
    Calls Tryd.prog 42 #[.pointer (some ⟨p, 0, none⟩)] w fun e w' => ∃ a c, e = .returned (.tuple #[.slice a L.length c, .bool true]) ∧ w'.ownsRow w.heap.size 5 1 (.slice a L.length c) L.length (bc L) ∧ Below w.heap.size w w' := by
  obtain ⟨i0, hi, hz0, hz1, hz2⟩ := info_parts Tryd.info_u8
  obtain ⟨c0, c1, c2⟩ := cells3 h1
  have hp := lt_of_block h1
  have hg := (ho.lt g rfl).2
  clear h1
  have hcs : ∀ j u, (bc L)[j]? = some u → (w.alloc (.cells #[] 5)).cell? ((⟨g, 0, none⟩ : Addr).add j) = some u := (ho.alloc _).cells rfl
  go_enter Tryd.func42, Tryd.ntmps42
  go_wp2_with (at_builtin; refine wpList_append_own _ rfl (.tmp 8) (.tmp 12) 55 rfl w.heap.size 5 i0 (.int .u8 0) 1 1 Tryd.underlying55 hi hz0 hz1 hz2 rfl (by decide) (.slice (some ⟨w.heap.size, 0, none⟩) 0 0) 0 [] rfl (World.ownsRow_made w #[] 0 (Nat.le_refl _) (by unfold maxLen; omega) rfl) ⟨g, 0, none⟩ L.length c (bc L) rfl (by rw [bc_length]; omega) hcs (bc_one L) (by unfold maxLen; omega) (by omega) (by simp) ?_; intro v' w1 hown hgrow _)
  go_ret2
  obtain ⟨a, c', rfl⟩ := own_form hown
  refine ⟨a, c', ?_, ?_, ?_⟩
  · simp
  · simpa using hown
  · exact ((Below.refl _ _).alloc (Nat.le_refl _) _).grown hgrow (by simp) (fun k hk => by simp [Value.ownBlock] at hk; omega)

/-- Done of a writer that is right: its bytes, in a row of their own; nothing that was there has turned. -/
theorem done_ok (w : World) (p : Nat) (s : WS) (r : Option Nat) (h : WrS w p s r) (hb : s.bad = false) :
    Calls Tryd.prog 42 #[.pointer (some ⟨p, 0, none⟩)] w fun e w' => ∃ a c, e = .returned (.tuple #[.slice a s.l.length c, .bool true]) ∧ w'.ownsRow w.heap.size 5 1 (.slice a s.l.length c) s.l.length (bc s.l) ∧ Below w.heap.size w w' := by
  obtain ⟨sv, h1, ho, _, hm0, hm1, hl⟩ := h
  rw [hb] at h1
  rcases ho.2 with ⟨rfl, h0⟩ | ⟨g, cap, cur, rfl, _⟩
  · have e : s.l = [] := List.eq_nil_of_length_eq_zero h0
    rw [e]
    exact done_none w p 0 s.m h1
  · exact done_some w p cap g s.m s.l h1 ho (by omega)
end Go.Proofs.YtgijkgcekfbgeaaDoor
