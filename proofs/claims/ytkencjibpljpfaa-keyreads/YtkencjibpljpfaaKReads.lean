/- KeyReads: a key says something, or nothing. -/
import Derived.Test.YtkencjibpljpfaaKeyV
namespace Go.Proofs.Ytkencjibpljpfaa
set_option linter.unusedVariables false
open Go.RowKit

theorem ofV_pv (K : List UInt8) : ∃ i k s p, ofV K = pv i k s p := by
  unfold ofV
  split
  · exact ⟨_, _, _, _, rfl⟩
  · exact ⟨_, _, _, _, rfl⟩

set_option maxRecDepth 100000 in
set_option maxHeartbeats 8000000 in
theorem reads_walk (w : World) (K : List UInt8) (hK : K.length = 24) :
    Calls Try.prog 4 #[kv K] w fun e w' => e = .returned (.bool true) ∧ Below w.heap.size w w' := by
  obtain ⟨pi, pk, ps, pp, hv⟩ := ofV_pv K
  have C1 : Hid (∀ w, Calls Try.prog 16 #[kv K] w fun e w' => e = .returned (.tuple #[pv pi pk ps pp, .bool (right K)]) ∧ Below w.heap.size w w') := fun w => by rw [← hv]; exact of_calls w K hK
  have C2 : Hid (∀ w, Calls Try.prog 17 #[kv K] w fun e w' => e = .returned (.tuple #[pv pi pk ps pp, .bool (right K)]) ∧ Below w.heap.size w w') := fun w => by rw [← hv]; exact rof_calls w K hK
  have h0 := Has.new w K hK
  have B0 : Below w.heap.size w (w.alloc (.cells (bc K).toArray 24)) := below_made (Below.refl _ w) (Nat.le_refl _) _
  generalize right K = r at *
  clear hv
  go_enter Try.func4, Try.ntmps4
  go_upto_region 1 with fail
  generalize w.alloc (.cells (bc K).toArray 24) = W at *
  go_upto_region 2 with (go_at_call 9; refine (shown_calls _).mono ?_; rintro e w0 ⟨rfl, b0⟩)
  have h1 := h0.below b0 h0.lt
  have B1 := below_called B0 b0 (Nat.le_refl _)
  go_upto_region 3 with (first
    | (refine load_key _ rfl w.heap.size rfl rfl _ h1 ?_)
    | (go_at_call 16; refine (C1.out _).mono ?_; rintro e v1 ⟨rfl, b1⟩))
  have hP1 : HasP (v1.alloc (.cells #[.int .i64 pi, .int .i64 pk, .string (str ps), .int .i64 pp] 31)) v1.heap.size pi pk ps pp := heap_alloc_new _ _
  have h2 := (h1.below b1 h1.lt).alloc (.cells #[.int .i64 pi, .int .i64 pk, .string (str ps), .int .i64 pp] 31)
  have B2 := below_made (below_called B1 b1 (Nat.le_refl _)) (Nat.le_refl _) (.cells #[.int .i64 pi, .int .i64 pk, .string (str ps), .int .i64 pp] 31)
  generalize v1.alloc (.cells #[.int .i64 pi, .int .i64 pk, .string (str ps), .int .i64 pp] 31) = w1 at *
  generalize v1.heap.size = n1 at *
  go_upto_region 4 with (first
    | (refine load_key _ rfl w.heap.size rfl rfl _ h2 ?_)
    | (go_at_call 17; refine (C2.out _).mono ?_; rintro e v2 ⟨rfl, b2⟩))
  have hP2 : HasQ (v2.alloc (.cells #[.int .i64 pi, .int .i64 pk, .string (str ps), .int .i64 pp] 34)) v2.heap.size pi pk ps pp := heap_alloc_new _ _
  have hP3 : HasP (v2.alloc (.cells #[.int .i64 pi, .int .i64 pk, .string (str ps), .int .i64 pp] 34)) n1 pi pk ps pp := (Below.heap_alloc _ _ _ (by have := lt_of_block hP1; have := b2.size; omega)).trans ((b2.block _ (lt_of_block hP1)).trans hP1)
  have B3 := below_made (below_called B2 b2 (Nat.le_refl _)) (Nat.le_refl _) (.cells #[.int .i64 pi, .int .i64 pk, .string (str ps), .int .i64 pp] 34)
  generalize v2.alloc (.cells #[.int .i64 pi, .int .i64 pk, .string (str ps), .int .i64 pp] 34) = w2 at *
  generalize v2.heap.size = n2 at *
  obtain ⟨c0, c1, c2, c3⟩ := cells4 hP2
  obtain ⟨d0, d1, d2, d3⟩ := cells4 hP3
  go_wp2_with fail
  go_ret
  exact ⟨rfl, B3⟩
end Go.Proofs.Ytkencjibpljpfaa
