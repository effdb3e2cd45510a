/- The document's own keys held against one another, and its spans. -/
import Derived.Test.YtkencjibpljpfaaKeyR
namespace Go.Proofs.Ytkencjibpljpfaa
set_option linter.unusedVariables false
open Go.RowKit

theorem conv_part {w : World} {b o : Nat} {K : List UInt8} (hr : w.rangeAt b o (bc K)) (hl : K.length = 24) (cap : Nat) : (convert 49 9 (.slice (some ⟨b, o, none⟩) 24 cap)).run Try.prog w = .ok (.string (str K)) w := by
  have := run_convert_bytes_arg (P := Try.prog) w 49 5 Try.underlying49 Try.underlying5 b o 24 cap (K.map fun b => (b.toNat : Int)) (by simp [hl]) (fun i hi => by
    have hi' : i < K.length := by omega
    rw [hr i (.int .u8 ((K[i]).toNat : Int)) (by simp [bc, hi'])]
    simp [hi']) 9 Try.underlying9
  rw [str_of] at this
  exact this

/-- What stands while two keys are held against one another. -/
structure Two (w : World) (b c : Nat) (K L : List UInt8) (w' : World) : Prop where
  k : Has w' b K
  l : Has w' c L
  bel : Below w.heap.size w w'
theorem Two.drew {w : World} {b c : Nat} {K L : List UInt8} {w' : World} (h : Two w b c K L w') : Two w b c K L w'.drew := ⟨⟨h.k.len, h.k.blk⟩, ⟨h.l.len, h.l.blk⟩, h.bel.drew⟩
theorem Two.out {w : World} {b c : Nat} {K L : List UInt8} {w' : World} (h : Two w b c K L w') : (convert 49 9 (.slice (some ⟨b, 0, none⟩) 24 24)).run Try.prog w' = .ok (.string (str K)) w' ∧ (convert 49 9 (.slice (some ⟨c, 0, none⟩) 24 24)).run Try.prog w' = .ok (.string (str L)) w' ∧ Two w b c K L w' :=
  ⟨conv_part h.k.range h.k.len 24, conv_part h.l.range h.l.len 24, h⟩

set_option maxHeartbeats 1000000 in
theorem rless_calls (w : World) (K L : List UInt8) (hK : K.length = 24) (hL : L.length = 24) :
    Calls Try.prog 26 #[kv K, kv L] w fun e w' => e = .returned (.bool (Op.bytesLess K L)) ∧ Below w.heap.size w w' := by
  have h0 : Two w w.heap.size (w.heap.size + 1) K L ((w.alloc (.cells (bc K).toArray 24)).alloc (.cells (bc L).toArray 24)) := ⟨(Has.new w K hK).alloc _, by have := Has.new (w.alloc (.cells (bc K).toArray 24)) L hL; simpa using this, below_made (below_made (Below.refl _ w) (Nat.le_refl _) _) (Nat.le_refl _) _⟩
  go_enter Try.func26, Try.ntmps26
  go_wp2
  generalize (w.alloc (.cells (bc K).toArray 24)).alloc (.cells (bc L).toArray 24) = W at *
  go_region_held3 (fun w' => (convert 49 9 (.slice (some ⟨w.heap.size, 0, none⟩) 24 24)).run Try.prog w' = .ok (.string (str K)) w' ∧ (convert 49 9 (.slice (some ⟨w.heap.size + 1, 0, none⟩) 24 24)).run Try.prog w' = .ok (.string (str L)) w' ∧ Two w w.heap.size (w.heap.size + 1) K L w') (first | exact h0.drew.out | assumption) (fail)
  go_wp2_with fail
  go_ret
  refine ⟨?_, h0.drew.bel⟩
  show Ending.returned (Value.bool (Op.bytesLess (str K).toList (str L).toList)) = _
  rw [str_toList, str_toList]

/-- What stands while a key is held against a span. -/
structure Tri (w : World) (b c : Nat) (F T : List UInt8) (e : Bool) (K : List UInt8) (w' : World) : Prop where
  s : HasS w' b F T e
  k : Has w' c K
  bel : Below w.heap.size w w'
theorem Tri.drew {w : World} {b c : Nat} {F T : List UInt8} {e : Bool} {K : List UInt8} {w' : World} (h : Tri w b c F T e K w') : Tri w b c F T e K w'.drew := ⟨⟨h.s.f, h.s.t, h.s.blk⟩, ⟨h.k.len, h.k.blk⟩, h.bel.drew⟩
theorem Tri.out {w : World} {b c : Nat} {F T : List UInt8} {e : Bool} {K : List UInt8} {w' : World} (h : Tri w b c F T e K w') : (convert 49 9 (.slice (some ⟨c, 0, none⟩) 24 24)).run Try.prog w' = .ok (.string (str K)) w' ∧ (convert 49 9 (.slice (some ⟨b, 0, none⟩) 24 24)).run Try.prog w' = .ok (.string (str F)) w' ∧ (convert 49 9 (.slice (some ⟨b, 24, none⟩) 24 24)).run Try.prog w' = .ok (.string (str T)) w' ∧ w'.cell? ⟨b, 48, none⟩ = some (.bool e) ∧ Tri w b c F T e K w' :=
  ⟨conv_part h.k.range h.k.len 24, conv_part h.s.ofF h.s.f 24, conv_part h.s.ofT h.s.t 24, h.s.ofE, h⟩

set_option maxRecDepth 100000 in
set_option maxHeartbeats 4000000 in
theorem rin_calls (w : World) (F T : List UInt8) (e : Bool) (K : List UInt8) (hF : F.length = 24) (hT : T.length = 24) (hK : K.length = 24) :
    Calls Try.prog 25 #[sv F T e, kv K] w fun x w' => x = .returned (.bool (inS F T e K)) ∧ Below w.heap.size w w' := by
  have h0 : Tri w w.heap.size (w.heap.size + 1) F T e K ((w.alloc (.cells (sc F T e).toArray 39)).alloc (.cells (bc K).toArray 24)) := ⟨(HasS.new w F T e hF hT).alloc _, by have := Has.new (w.alloc (.cells (sc F T e).toArray 39)) K hK; simpa using this, below_made (below_made (Below.refl _ w) (Nat.le_refl _) _) (Nat.le_refl _) _⟩
  have HIN : Hid (inS F T e K = (!Op.bytesLess K F && (e || Op.bytesLess K T))) := rfl
  cases hlf : Op.bytesLess K F with
  | true =>
    have hl1 : Op.bytesLess (str K).toList (str F).toList = true := by rw [str_toList, str_toList]; exact hlf
    go_enter Try.func25, Try.ntmps25
    go_wp2
    generalize (w.alloc (.cells (sc F T e).toArray 39)).alloc (.cells (bc K).toArray 24) = W at *
    have q1 : ∀ n, (convert 49 9 (.slice (some ⟨w.heap.size + 1, 0, none⟩) 24 24)).run Try.prog (W.drewN n) = .ok (.string (str K)) (W.drewN n) := fun n => conv_part (w := W.drewN n) h0.k.range h0.k.len 24
    have q2 : ∀ n, (convert 49 9 (.slice (some ⟨w.heap.size, 0, none⟩) 24 24)).run Try.prog (W.drewN n) = .ok (.string (str F)) (W.drewN n) := fun n => conv_part (w := W.drewN n) h0.s.ofF h0.s.f 24
    have HB : Hid (Below w.heap.size w W) := h0.bel
    clear h0
    go_quiet (fail)
    go_wp2_with fail
    go_ret
    exact ⟨by rw [HIN.out, hlf]; rfl, below_drewN HB.out _⟩
  | false =>
    have hl1 : Op.bytesLess (str K).toList (str F).toList = false := by rw [str_toList, str_toList]; exact hlf
    cases e with
    | true =>
      go_enter Try.func25, Try.ntmps25
      go_wp2
      generalize (w.alloc (.cells (sc F T true).toArray 39)).alloc (.cells (bc K).toArray 24) = W at *
      have q1 : ∀ n, (convert 49 9 (.slice (some ⟨w.heap.size + 1, 0, none⟩) 24 24)).run Try.prog (W.drewN n) = .ok (.string (str K)) (W.drewN n) := fun n => conv_part (w := W.drewN n) h0.k.range h0.k.len 24
      have q2 : ∀ n, (convert 49 9 (.slice (some ⟨w.heap.size, 0, none⟩) 24 24)).run Try.prog (W.drewN n) = .ok (.string (str F)) (W.drewN n) := fun n => conv_part (w := W.drewN n) h0.s.ofF h0.s.f 24
      have cE := h0.s.ofE
      have HB : Hid (Below w.heap.size w W) := h0.bel
      clear h0
      go_quiet (fail)
      go_wp2_with fail
      go_ret
      exact ⟨by rw [HIN.out, hlf]; rfl, below_drewN HB.out _⟩
    | false =>
      go_enter Try.func25, Try.ntmps25
      go_wp2
      generalize (w.alloc (.cells (sc F T false).toArray 39)).alloc (.cells (bc K).toArray 24) = W at *
      have q1 : ∀ n, (convert 49 9 (.slice (some ⟨w.heap.size + 1, 0, none⟩) 24 24)).run Try.prog (W.drewN n) = .ok (.string (str K)) (W.drewN n) := fun n => conv_part (w := W.drewN n) h0.k.range h0.k.len 24
      have q2 : ∀ n, (convert 49 9 (.slice (some ⟨w.heap.size, 0, none⟩) 24 24)).run Try.prog (W.drewN n) = .ok (.string (str F)) (W.drewN n) := fun n => conv_part (w := W.drewN n) h0.s.ofF h0.s.f 24
      have q3 : ∀ n, (convert 49 9 (.slice (some ⟨w.heap.size, 24, none⟩) 24 24)).run Try.prog (W.drewN n) = .ok (.string (str T)) (W.drewN n) := fun n => conv_part (w := W.drewN n) h0.s.ofT h0.s.t 24
      have cE := h0.s.ofE
      have HB : Hid (Below w.heap.size w W) := h0.bel
      clear h0
      go_quiet (fail)
      go_wp2_with fail
      go_ret
      refine ⟨?_, below_drewN HB.out _⟩
      show Ending.returned (Value.bool (Op.bytesLess (str K).toList (str T).toList)) = _
      rw [HIN.out, hlf, str_toList, str_toList]
      simp

set_option maxHeartbeats 1000000 in
theorem rentries_calls (n : Int) (w : World) :
    Calls Try.prog 21 #[.int .i64 n] w fun e w' => e = .returned (sv (entriesF n) (entriesT n) false) ∧ Below w.heap.size w w' := by
  by_cases hn : okN n = true
  · have h0 : 1 ≤ n ∧ n < 1073741824 := by simpa [okN] using hn
    go_enter Try.func21, Try.ntmps21
    go_wp2_with (first
      | (go_at_call 29; refine (rnumber_calls n _).mono ?_; rintro e w1 ⟨rfl, rfl⟩)
      | (go_at_call 30; have _q := b2; refine (rhead_calls n 3 3 (by decide) _ (by omega)).mono ?_; rintro e w3 ⟨rfl, b3⟩)
      | (go_at_call 30; refine (rhead_calls n 2 2 (by decide) _ (by omega)).mono ?_; rintro e w2 ⟨rfl, b2⟩)
      | (refine build2 rfl _ _ rfl _ _ rfl rfl (headK_length n.toNat 2) (headK_length n.toNat 3) ?_)
      | (refine store_span rfl _ _ rfl _ rfl _ _ _ rfl (headK_length _ _) (headK_length _ _) (zs 24) (zs 24) false (((zero_hasS w w.heap.size rfl).below b2 (by simp)).below b3 (by have := b2.size; simp at this; omega)) ?_; intro w4 h4 t4 s4))
    refine ret_span rfl _ _ _ _ rfl h4 rfl ⟨by rw [entriesF, entriesT, if_pos hn, if_pos hn], ?_⟩
    exact below_touched (below_called (below_called (below_made (Below.refl _ w) (Nat.le_refl _) _) b2 (Nat.le_refl _)) b3 (Nat.le_refl _)) t4 (Nat.le_refl _) (Nat.le_refl _)
  · have hf : okN n = false := by simpa using hn
    have h0 : ¬ (1 ≤ n ∧ n < 1073741824) := by simpa [okN] using hn
    go_enter Try.func21, Try.ntmps21
    go_wp2_with (first
      | (go_at_call 29; refine (rnumber_calls n _).mono ?_; rintro e w1 ⟨rfl, rfl⟩; rw [decide_eq_false h0])
      | (refine build0 rfl rfl ?_)
      | (refine store_span rfl _ _ rfl _ rfl _ _ _ rfl rfl rfl (zs 24) (zs 24) false (zero_hasS w w.heap.size rfl) ?_; intro w4 h4 t4 s4))
    refine ret_span rfl _ _ _ _ rfl h4 rfl ⟨by rw [entriesF, entriesT, hf]; rfl, ?_⟩
    exact below_touched (below_made (Below.refl _ w) (Nat.le_refl _) _) t4 (Nat.le_refl _) (Nat.le_refl _)

set_option maxHeartbeats 1000000 in
theorem rchunks_calls (n p : Int) (w : World) :
    Calls Try.prog 23 #[.int .i64 n, .int .i64 p] w fun e w' => e = .returned (sv (chunksF n p) (chunksT n p) false) ∧ Below w.heap.size w w' := by
  by_cases hn : (okN n && okP p) = true
  · have hn1 : okN n = true := by simp at hn; exact hn.1
    have h0 : 1 ≤ n ∧ n < 1073741824 := by simpa [okN] using hn1
    go_enter Try.func23, Try.ntmps23
    go_wp2_with (first
      | (go_at_call 15; refine (rchunk_calls n p _).mono ?_; rintro e w1 ⟨rfl, b1⟩; rw [hn])
      | (refine store_key rfl _ _ rfl _ rfl _ rfl (chunkR_length _ _) (zs 24) (zero_has w1 w1.heap.size rfl) ?_; intro w2 h2 t2 s2))
    have hsb := b1.size
    simp at hsb
    have h3 := (((zero_hasS w w.heap.size rfl).below b1 (by simp)).alloc (.cells #[.int .u8 0, .int .u8 0, .int .u8 0, .int .u8 0, .int .u8 0, .int .u8 0, .int .u8 0, .int .u8 0, .int .u8 0, .int .u8 0, .int .u8 0, .int .u8 0, .int .u8 0, .int .u8 0, .int .u8 0, .int .u8 0, .int .u8 0, .int .u8 0, .int .u8 0, .int .u8 0, .int .u8 0, .int .u8 0, .int .u8 0, .int .u8 0] 24)).touch t2 (by omega)
    have B2 : Below w.heap.size w w2 := below_touched (below_made (below_called (below_made (Below.refl _ w) (Nat.le_refl _) _) b1 (Nat.le_refl _)) (Nat.le_refl _) _) t2 (by omega) (Nat.le_refl _)
    have hu24 := Try.underlying24
    have hi24 : (Try.prog.info? 24).map (·.size) = some (bc (chunkR n p)).length := by rw [bc_length, chunkR_length]; exact Try.key_info
    have M2 : Mk w w.heap.size w1.heap.size (chunkR n p) w2 := ⟨⟨_, _, _, h3⟩, h2, B2, Nat.le_refl _, by omega⟩
    refine wp_region_held_drew (S := Mk w w.heap.size w1.heap.size (chunkR n p)) (by kernel_rfl) M2.drew (fun hHeld => ?_)
    refine wpAnyH_take (i := 0) rfl (by kernel_rfl) (by kernel_rfl) (by kernel_rfl) (fun _ _ _ h => h) (yieldsIf_load_mid (by rfl) _ _ rfl _ _ rfl _ _ (fun _ h => Mk.range h) hu24 rfl hi24) hHeld ?_
    ((try simp only); (try simp only [List.getElem_toArray]); (try simp only [List.getElem_cons_succ]); (try simp only [List.getElem_cons_zero]); (try simp only [Act.put]); (try simp only [List.setIfInBounds_toArray]); (try simp only [List.set_cons_succ]); (try simp only [List.set_cons_zero]))
    refine wpAnyH_take (i := 1) (v := .int .i64 n) rfl (by kernel_rfl) (by kernel_rfl) (by kernel_rfl) (fun _ _ _ h => h) (Or.inl ⟨by rfl, fun _ _ => by go_simp⟩) hHeld ?_
    ((try simp only); (try simp only [List.getElem_toArray]); (try simp only [List.getElem_cons_succ]); (try simp only [List.getElem_cons_zero]); (try simp only [Act.put]); (try simp only [List.setIfInBounds_toArray]); (try simp only [List.set_cons_succ]); (try simp only [List.set_cons_zero]))
    refine wpAnyH_ready (rs := [2]) (by kernel_rfl) (by simp) (AllReadyH.cons rfl (fun K hK => ?_) AllReadyH.nil)
    rw [if_pos (by rfl)]
    ((try simp only); (try simp only [List.getElem_toArray]); (try simp only [List.getElem_cons_succ]); (try simp only [List.getElem_cons_zero]); (try simp only [Act.put]); (try simp only [List.setIfInBounds_toArray]); (try simp only [List.set_cons_succ]); (try simp only [List.set_cons_zero]))
    go_simp
    refine (rhead_calls n 4 4 (by decide) _ (by omega)).mono ?_
    rintro e w3 ⟨rfl, b3⟩
    refine hK.out _ _ (hHeld.called b3) (fun h3 => ?_)
    clear hK K
    refine wpAnyH_ready (rs := [3]) (by kernel_rfl) (by simp) (AllReadyH.cons rfl (fun K hK => ?_) AllReadyH.nil)
    rw [if_pos (by rfl)]
    ((try simp only); (try simp only [List.getElem_toArray]); (try simp only [List.getElem_cons_succ]); (try simp only [List.getElem_cons_zero]); (try simp only [Act.put]); (try simp only [List.setIfInBounds_toArray]); (try simp only [List.set_cons_succ]); (try simp only [List.set_cons_zero]))
    refine wp_build2 _ _ rfl _ _ rfl rfl (chunkR_length n p) (headK_length _ _) ?_
    refine hK.out _ _ h3 (fun _ => ?_)
    clear hK K
    ((try simp only); (try simp only [List.getElem_toArray]); (try simp only [List.getElem_cons_succ]); (try simp only [List.getElem_cons_zero]); (try simp only [Act.put]); (try simp only [List.setIfInBounds_toArray]); (try simp only [List.set_cons_succ]); (try simp only [List.set_cons_zero]))
    refine wpAnyH_ready (rs := [4]) (by kernel_rfl) (by simp) (AllReadyH.cons rfl (fun K hK => ?_) AllReadyH.nil)
    rw [if_pos (by rfl)]
    ((try simp only); (try simp only [List.getElem_toArray]); (try simp only [List.getElem_cons_succ]); (try simp only [List.getElem_cons_zero]); (try simp only [Act.put]); (try simp only [List.setIfInBounds_toArray]); (try simp only [List.set_cons_succ]); (try simp only [List.set_cons_zero]))
    obtain ⟨⟨F0, T0, e0, hs0⟩, _⟩ := id h3
    refine wp_store_span _ _ rfl _ rfl _ _ _ rfl (chunkR_length n p) (headK_length _ _) _ _ _ hs0 ?_
    refine hK.out _ _ (h3.put (chunkR_length n p) (headK_length _ _)) (fun h5 => ?_)
    clear hK K
    refine wpAnyH_done (by kernel_rfl) ?_ _
    have h6 := hs0.row (e' := false) (chunkR_length n p) (headK_length n.toNat 4)
    generalize w3.setRow w.heap.size (sc (chunkR n p) (headK n.toNat 4) false).toArray = w4 at h5 h6 ⊢
    go_wp2_with fail
    refine ret_span rfl _ _ _ _ rfl h6 rfl ⟨by rw [chunksF, chunksT, if_pos hn], h5.2.2.1⟩
  · have hf : (okN n && okP p) = false := by simpa using hn
    go_enter Try.func23, Try.ntmps23
    go_wp2_with (first
      | (go_at_call 15; refine (rchunk_calls n p _).mono ?_; rintro e w1 ⟨rfl, b1⟩; rw [hf])
      | (refine store_key rfl _ _ rfl _ rfl _ rfl (chunkR_length _ _) (zs 24) (zero_has w1 w1.heap.size rfl) ?_; intro w2 h2 t2 s2; have hsb := b1.size; simp at hsb)
      | (refine build0 rfl rfl ?_)
      | (refine store_span rfl _ _ rfl _ rfl _ _ _ rfl rfl rfl (zs 24) (zs 24) false ((((zero_hasS w w.heap.size rfl).below b1 (by simp)).alloc _).touch t2 (by omega)) ?_; intro w4 h4 t4 s4))
    refine ret_span rfl _ _ _ _ rfl h4 rfl ⟨by rw [chunksF, chunksT, chunkR, hf]; rfl, ?_⟩
    exact below_touched (below_touched (below_made (below_called (below_made (Below.refl _ w) (Nat.le_refl _) _) b1 (Nat.le_refl _)) (Nat.le_refl _) _) t2 (by omega) (Nat.le_refl _)) t4 (Nat.le_refl _) (Nat.le_refl _)
end Go.Proofs.Ytkencjibpljpfaa
