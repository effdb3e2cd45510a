/- The document's own keys held against one another, and its spans (as KeyS, over KeyD alone). -/
import Derived.Test.YtbdolhmeknlnpaaKeyD
namespace Go.Proofs.Ytbdolhmeknlnpaa
set_option linter.unusedVariables false
open Go.RowKit

theorem conv_part {w : World} {b o : Nat} {K : List UInt8} (hr : w.rangeAt b o (bc K)) (hl : K.length = 24) (cap : Nat) : (convert 53 9 (.slice (some ⟨b, o, none⟩) 24 cap)).run Try.prog w = .ok (.string (str K)) w := by
  have := run_convert_bytes_arg (P := Try.prog) w 53 5 Try.underlying53 Try.underlying5 b o 24 cap (K.map fun b => (b.toNat : Int)) (by simp [hl]) (fun i hi => by
    have hi' : i < K.length := by omega
    rw [hr i (.int .u8 ((K[i]).toNat : Int)) (by simp [bc, hi'])]
    simp [hi']) 9 Try.underlying9
  rw [str_of] at this
  exact this

/-- What stands while two keys are held against one another. -/
structure Two (w : World) (b c : Nat) (K L : List UInt8) (w' : World) : Prop where
  k : Has w' b K
  l : Has w' c L
  bel : Below w.heap.size w w'
theorem Two.drew {w : World} {b c : Nat} {K L : List UInt8} {w' : World} (h : Two w b c K L w') : Two w b c K L w'.drew := ⟨⟨h.k.len, h.k.blk⟩, ⟨h.l.len, h.l.blk⟩, h.bel.drew⟩
theorem Two.out {w : World} {b c : Nat} {K L : List UInt8} {w' : World} (h : Two w b c K L w') : (convert 53 9 (.slice (some ⟨b, 0, none⟩) 24 24)).run Try.prog w' = .ok (.string (str K)) w' ∧ (convert 53 9 (.slice (some ⟨c, 0, none⟩) 24 24)).run Try.prog w' = .ok (.string (str L)) w' ∧ Two w b c K L w' :=
  ⟨conv_part h.k.range h.k.len 24, conv_part h.l.range h.l.len 24, h⟩

set_option maxHeartbeats 1000000 in
theorem rless_calls (w : World) (K L : List UInt8) (hK : K.length = 24) (hL : L.length = 24) :
    Calls Try.prog 23 #[kv K, kv L] w fun e w' => e = .returned (.bool (Op.bytesLess K L)) ∧ Below w.heap.size w w' := by
  have h0 : Two w w.heap.size (w.heap.size + 1) K L ((w.alloc (.cells (bc K).toArray 30)).alloc (.cells (bc L).toArray 30)) := ⟨(Has.new w K hK).alloc _, by have := Has.new (w.alloc (.cells (bc K).toArray 30)) L hL; simpa using this, below_made (below_made (Below.refl _ w) (Nat.le_refl _) _) (Nat.le_refl _) _⟩
  go_enter Try.func23, Try.ntmps23
  go_wp2
  generalize (w.alloc (.cells (bc K).toArray 30)).alloc (.cells (bc L).toArray 30) = W at *
  go_region_held3 (fun w' => (convert 53 9 (.slice (some ⟨w.heap.size, 0, none⟩) 24 24)).run Try.prog w' = .ok (.string (str K)) w' ∧ (convert 53 9 (.slice (some ⟨w.heap.size + 1, 0, none⟩) 24 24)).run Try.prog w' = .ok (.string (str L)) w' ∧ Two w w.heap.size (w.heap.size + 1) K L w') (first | exact h0.drew.out | assumption) (fail)
  go_wp2_with fail
  go_ret
  refine ⟨?_, h0.drew.bel⟩
  show Ending.returned (Value.bool (Op.bytesLess (str K).toList (str L).toList)) = _
  rw [str_toList, str_toList]

/-- What stands while a key is held against a span. -/
structure Tri (w : World) (b c : Nat) (F T : List UInt8) (e : Bool) (K : List UInt8) (w' : World) : Prop where
  s : HasS w' b F T e
  k : Has w' c K
  bel : Below w.heap.size w w'
theorem Tri.drew {w : World} {b c : Nat} {F T : List UInt8} {e : Bool} {K : List UInt8} {w' : World} (h : Tri w b c F T e K w') : Tri w b c F T e K w'.drew := ⟨⟨h.s.f, h.s.t, h.s.blk⟩, ⟨h.k.len, h.k.blk⟩, h.bel.drew⟩
theorem Tri.out {w : World} {b c : Nat} {F T : List UInt8} {e : Bool} {K : List UInt8} {w' : World} (h : Tri w b c F T e K w') : (convert 53 9 (.slice (some ⟨c, 0, none⟩) 24 24)).run Try.prog w' = .ok (.string (str K)) w' ∧ (convert 53 9 (.slice (some ⟨b, 0, none⟩) 24 24)).run Try.prog w' = .ok (.string (str F)) w' ∧ (convert 53 9 (.slice (some ⟨b, 24, none⟩) 24 24)).run Try.prog w' = .ok (.string (str T)) w' ∧ w'.cell? ⟨b, 48, none⟩ = some (.bool e) ∧ Tri w b c F T e K w' :=
  ⟨conv_part h.k.range h.k.len 24, conv_part h.s.ofF h.s.f 24, conv_part h.s.ofT h.s.t 24, h.s.ofE, h⟩

set_option maxRecDepth 100000 in
set_option maxHeartbeats 4000000 in
theorem rin_calls (w : World) (F T : List UInt8) (e : Bool) (K : List UInt8) (hF : F.length = 24) (hT : T.length = 24) (hK : K.length = 24) :
    Calls Try.prog 36 #[sv F T e, kv K] w fun x w' => x = .returned (.bool (inS F T e K)) ∧ Below w.heap.size w w' := by
  have h0 : Tri w w.heap.size (w.heap.size + 1) F T e K ((w.alloc (.cells (sc F T e).toArray 35)).alloc (.cells (bc K).toArray 30)) := ⟨(HasS.new w F T e hF hT).alloc _, by have := Has.new (w.alloc (.cells (sc F T e).toArray 35)) K hK; simpa using this, below_made (below_made (Below.refl _ w) (Nat.le_refl _) _) (Nat.le_refl _) _⟩
  have HIN : Hid (inS F T e K = (!Op.bytesLess K F && (e || Op.bytesLess K T))) := rfl
  cases hlf : Op.bytesLess K F with
  | true =>
    have hl1 : Op.bytesLess (str K).toList (str F).toList = true := by rw [str_toList, str_toList]; exact hlf
    go_enter Try.func36, Try.ntmps36
    go_wp2
    generalize (w.alloc (.cells (sc F T e).toArray 35)).alloc (.cells (bc K).toArray 30) = W at *
    have q1 : ∀ n, (convert 53 9 (.slice (some ⟨w.heap.size + 1, 0, none⟩) 24 24)).run Try.prog (W.drewN n) = .ok (.string (str K)) (W.drewN n) := fun n => conv_part (w := W.drewN n) h0.k.range h0.k.len 24
    have q2 : ∀ n, (convert 53 9 (.slice (some ⟨w.heap.size, 0, none⟩) 24 24)).run Try.prog (W.drewN n) = .ok (.string (str F)) (W.drewN n) := fun n => conv_part (w := W.drewN n) h0.s.ofF h0.s.f 24
    have HB : Hid (Below w.heap.size w W) := h0.bel
    clear h0
    go_quiet (fail)
    go_wp2_with fail
    go_ret
    exact ⟨by rw [HIN.out, hlf]; rfl, below_drewN HB.out _⟩
  | false =>
    have hl1 : Op.bytesLess (str K).toList (str F).toList = false := by rw [str_toList, str_toList]; exact hlf
    cases e with
    | true =>
      go_enter Try.func36, Try.ntmps36
      go_wp2
      generalize (w.alloc (.cells (sc F T true).toArray 35)).alloc (.cells (bc K).toArray 30) = W at *
      have q1 : ∀ n, (convert 53 9 (.slice (some ⟨w.heap.size + 1, 0, none⟩) 24 24)).run Try.prog (W.drewN n) = .ok (.string (str K)) (W.drewN n) := fun n => conv_part (w := W.drewN n) h0.k.range h0.k.len 24
      have q2 : ∀ n, (convert 53 9 (.slice (some ⟨w.heap.size, 0, none⟩) 24 24)).run Try.prog (W.drewN n) = .ok (.string (str F)) (W.drewN n) := fun n => conv_part (w := W.drewN n) h0.s.ofF h0.s.f 24
      have cE := h0.s.ofE
      have HB : Hid (Below w.heap.size w W) := h0.bel
      clear h0
      go_quiet (fail)
      go_wp2_with fail
      go_ret
      exact ⟨by rw [HIN.out, hlf]; rfl, below_drewN HB.out _⟩
    | false =>
      go_enter Try.func36, Try.ntmps36
      go_wp2
      generalize (w.alloc (.cells (sc F T false).toArray 35)).alloc (.cells (bc K).toArray 30) = W at *
      have q1 : ∀ n, (convert 53 9 (.slice (some ⟨w.heap.size + 1, 0, none⟩) 24 24)).run Try.prog (W.drewN n) = .ok (.string (str K)) (W.drewN n) := fun n => conv_part (w := W.drewN n) h0.k.range h0.k.len 24
      have q2 : ∀ n, (convert 53 9 (.slice (some ⟨w.heap.size, 0, none⟩) 24 24)).run Try.prog (W.drewN n) = .ok (.string (str F)) (W.drewN n) := fun n => conv_part (w := W.drewN n) h0.s.ofF h0.s.f 24
      have q3 : ∀ n, (convert 53 9 (.slice (some ⟨w.heap.size, 24, none⟩) 24 24)).run Try.prog (W.drewN n) = .ok (.string (str T)) (W.drewN n) := fun n => conv_part (w := W.drewN n) h0.s.ofT h0.s.t 24
      have cE := h0.s.ofE
      have HB : Hid (Below w.heap.size w W) := h0.bel
      clear h0
      go_quiet (fail)
      go_wp2_with fail
      go_ret
      refine ⟨?_, below_drewN HB.out _⟩
      show Ending.returned (Value.bool (Op.bytesLess (str K).toList (str T).toList)) = _
      rw [HIN.out, hlf, str_toList, str_toList]
      simp

end Go.Proofs.Ytbdolhmeknlnpaa
