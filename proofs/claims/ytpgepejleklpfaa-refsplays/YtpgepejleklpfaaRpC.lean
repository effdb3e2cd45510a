/- What the document's own calls on refs come to. -/
import Derived.Test.YtpgepejleklpfaaRpB
namespace Go.Proofs.Ytpgepejleklpfaa
set_option linter.unusedVariables false
open Go.RowKit
attribute [local go_sem ↓] Go.wp_at_zero Go.wp_at_succ

theorem RD.same {w : World} {q bs : Nat} {lv : Value} {B : Int} {L : PL} (h : RD w q lv B L bs) : DGo w q lv B L bs w := ⟨lv, h, Touch.refl _ _ _, fun _ hk => .inl hk⟩
theorem set_pos {L : PL} {n c : Int} (h : c ≠ 0) : setL L n c = putL L n c := by unfold setL; rw [if_neg h]
theorem set_zero {L : PL} {n : Int} : setL L n 0 = delL L n := by unfold setL; rw [if_pos rfl]
theorem Ok.small {S : RfS} {K : Nat} (h : S.Ok K) : True := trivial
set_option maxHeartbeats 1000000 in
theorem rinc_calls (w : World) (q : Nat) (lv : Value) (S : RfS) (K bs : Nat) (n : Int) (h : RD w q lv S.blocks S.L bs) (hok : S.Ok K) (hL : S.L.length ≤ 1000) (hK : K ≤ 1000000) (hbs : bs ≤ w.heap.size) : Calls Try.prog 25 #[.pointer (some ⟨q, 0, none⟩), .int .i64 n] w fun e w' => e = .returned (.int .i64 (S.need n)) ∧ DGo w q lv S.blocks (S.inc n).L bs w' := by
  have hi := ris_calls w q lv S bs n h
  have hc := rcount_calls w q lv S.blocks S.L bs n h
  have hc0 := hok.cnt0 n
  have HS : Hid (DGo w q lv S.blocks S.L bs w) := h.same
  have hset := rset_calls w q lv S.blocks S.L bs n (cnt S.L n + 1) h hok.rise hL hbs
  rw [set_pos (show cnt S.L n + 1 ≠ 0 by omega)] at hset
  cases hb : S.has n with
  | false =>
    have E : Hid (S.need n = 1 ∧ S.inc n = S) := by
      have e1 : S.need n = 1 := by unfold RfS.need; rw [if_pos hb]
      exact ⟨e1, by unfold RfS.inc; rw [e1, if_neg (by omega)]⟩
    rw [hb] at hi
    clear hset hc h hb hok hc0
    go_enter Try.func25, Try.ntmps25
    go_wp2_with (first | (go_at_call 40; refine hi.mono ?_; rintro e w1 ⟨rfl, rfl⟩))
    go_ret
    exact ⟨by rw [E.out.1]; rfl, by rw [E.out.2]; exact HS.out⟩
  | true =>
    rw [hb] at hi
    by_cases hz : cnt S.L n = 0
    · have E : Hid (S.need n = 13 ∧ S.inc n = S) := by
        have e1 : S.need n = 13 := by unfold RfS.need; rw [if_neg (by rw [hb]; simp), if_pos hz]
        exact ⟨e1, by unfold RfS.inc; rw [e1, if_neg (by omega)]⟩
      rw [hz] at hc
      clear hset h hb hok hc0 hz
      go_enter Try.func25, Try.ntmps25
      go_wp2_with (first | (go_at_call 40; refine hi.mono ?_; rintro e w1 ⟨rfl, rfl⟩) | (go_at_call 32; refine hc.mono ?_; rintro e w1 ⟨rfl, rfl⟩))
      go_ret
      exact ⟨by rw [E.out.1]; rfl, by rw [E.out.2]; exact HS.out⟩
    · have E : Hid (S.need n = 0 ∧ (S.inc n).L = putL S.L n (cnt S.L n + 1)) := by
        have e1 : S.need n = 0 := by unfold RfS.need; rw [if_neg (by rw [hb]; simp), if_neg hz]
        exact ⟨e1, by unfold RfS.inc; rw [e1, if_pos rfl]⟩
      have hz2 : (cnt S.L n == 0) = false := by simpa using hz
      have b1 := hc0.1
      have b2 : cnt S.L n ≤ 1000000 := by omega
      clear h hb hok hc0 hz
      generalize hcc : cnt S.L n = c at *
      clear hcc
      go_enter Try.func25, Try.ntmps25
      go_wp2_with (first | (go_at_call 40; refine hi.mono ?_; rintro e w1 ⟨rfl, rfl⟩) | (go_at_call 32; refine hc.mono ?_; rintro e w1 ⟨rfl, rfl⟩) | (go_at_call 41; refine hset.mono ?_; rintro e w2 ⟨rfl, h2⟩))
      go_ret
      exact ⟨by rw [E.out.1]; rfl, by rw [E.out.2]; exact h2⟩
set_option maxHeartbeats 1000000 in
theorem rmark_calls (w : World) (q : Nat) (lv : Value) (S : RfS) (K bs : Nat) (n : Int) (h : RD w q lv S.blocks S.L bs) (hok : S.Ok K) (hL : S.L.length ≤ 1000) (hK : K ≤ 1000000) (hbs : bs ≤ w.heap.size) : Calls Try.prog 27 #[.pointer (some ⟨q, 0, none⟩), .int .i64 n] w fun e w' => e = .returned (.tuple #[.bool (S.first n), .int .i64 (S.merr n)]) ∧ DGo w q lv S.blocks (S.mark n).L bs w' := by
  have hi := ris_calls w q lv S bs n h
  have hc := rcount_calls w q lv S.blocks S.L bs n h
  have hc0 := hok.cnt0 n
  have HS : Hid (DGo w q lv S.blocks S.L bs w) := h.same
  have hset := rset_calls w q lv S.blocks S.L bs n (cnt S.L n + 1) h hok.rise hL hbs
  rw [set_pos (show cnt S.L n + 1 ≠ 0 by omega)] at hset
  cases hb : S.has n with
  | false =>
    have E : Hid (S.merr n = 1 ∧ S.first n = false ∧ S.mark n = S) := ⟨by unfold RfS.merr; rw [hb]; simp, by unfold RfS.first; rw [hb]; simp, by unfold RfS.mark; rw [hb]; simp⟩
    rw [hb] at hi
    clear hset hc h hb hok hc0
    go_enter Try.func27, Try.ntmps27
    go_wp2_with (first | (go_at_call 40; refine hi.mono ?_; rintro e w1 ⟨rfl, rfl⟩))
    go_ret2
    exact ⟨by rw [E.out.1, E.out.2.1]; rfl, by rw [E.out.2.2]; exact HS.out⟩
  | true =>
    rw [hb] at hi
    have E : Hid (S.merr n = 0 ∧ S.first n = (cnt S.L n + 1 == 1) ∧ (S.mark n).L = putL S.L n (cnt S.L n + 1)) := by
      refine ⟨by unfold RfS.merr; rw [if_pos hb], ?_, by unfold RfS.mark; rw [if_pos hb]⟩
      unfold RfS.first; rw [hb]; by_cases e : cnt S.L n = 0 <;> simp [e]; omega
    have b1 := hc0.1
    have b2 : cnt S.L n ≤ 1000000 := by omega
    have HC2 : Hid (∀ w2 lv2, RD w2 q lv2 S.blocks (putL S.L n (cnt S.L n + 1)) bs → Calls Try.prog 32 #[.pointer (some ⟨q, 0, none⟩), .int .i64 n] w2 fun e w' => e = .returned (.int .i64 (cnt S.L n + 1)) ∧ w' = w2) := fun w2 lv2 h2 => by
      have := rcount_calls w2 q lv2 S.blocks _ bs n h2
      rw [cnt_put hok.rise, if_pos rfl] at this
      exact this
    clear h hb hok hc0
    generalize hcc : cnt S.L n = c at *
    clear hcc
    go_enter Try.func27, Try.ntmps27
    go_upto_region 5 with (first | (go_at_call 40; refine hi.mono ?_; rintro e w1 ⟨rfl, rfl⟩) | (go_at_call 32; refine hc.mono ?_; rintro e w1 ⟨rfl, rfl⟩) | (go_at_call 41; refine hset.mono ?_; rintro e w2 ⟨rfl, h2⟩))
    have HD : Hid (DGo _ q lv S.blocks (putL S.L n (c + 1)) bs w2) := h2
    obtain ⟨lv2, h3, _⟩ := h2
    have hc2 := HC2.out w2 lv2 h3
    clear h3 hc
    go_wp2_with (first | (go_at_call 32; refine hc2.mono ?_; rintro e w3 ⟨rfl, rfl⟩))
    go_ret2
    exact ⟨by rw [E.out.1, E.out.2.1]; rfl, by rw [E.out.2.2]; exact HD.out⟩
set_option maxHeartbeats 1000000 in
theorem rdec_calls (w : World) (q : Nat) (lv : Value) (S : RfS) (K bs : Nat) (n : Int) (h : RD w q lv S.blocks S.L bs) (hok : S.Ok K) (hL : S.L.length ≤ 1000) (hK : K ≤ 1000000) (hbs : bs ≤ w.heap.size) : Calls Try.prog 26 #[.pointer (some ⟨q, 0, none⟩), .int .i64 n] w fun e w' => e = .returned (.tuple #[.bool (S.last n), .int .i64 (S.need n)]) ∧ DGo w q lv S.blocks (S.dec n).L bs w' := by
  have hi := ris_calls w q lv S bs n h
  have hc := rcount_calls w q lv S.blocks S.L bs n h
  have hc0 := hok.cnt0 n
  have HS : Hid (DGo w q lv S.blocks S.L bs w) := h.same
  have hset := rset_calls w q lv S.blocks S.L bs n (cnt S.L n - 1) h hok.rise hL hbs
  cases hb : S.has n with
  | false =>
    have E : Hid (S.need n = 1 ∧ S.last n = false ∧ S.dec n = S) := by
      have e1 : S.need n = 1 := by unfold RfS.need; rw [if_pos hb]
      exact ⟨e1, by unfold RfS.last; simp [e1], by unfold RfS.dec; rw [e1, if_neg (by omega)]⟩
    rw [hb] at hi
    clear hset hc h hb hok hc0
    go_enter Try.func26, Try.ntmps26
    go_wp2_with (first | (go_at_call 40; refine hi.mono ?_; rintro e w1 ⟨rfl, rfl⟩))
    go_ret2
    exact ⟨by rw [E.out.1, E.out.2.1]; rfl, by rw [E.out.2.2]; exact HS.out⟩
  | true =>
    rw [hb] at hi
    by_cases hz : cnt S.L n = 0
    · have E : Hid (S.need n = 13 ∧ S.last n = false ∧ S.dec n = S) := by
        have e1 : S.need n = 13 := by unfold RfS.need; rw [if_neg (by rw [hb]; simp), if_pos hz]
        exact ⟨e1, by unfold RfS.last; simp [e1], by unfold RfS.dec; rw [e1, if_neg (by omega)]⟩
      rw [hz] at hc
      clear hset h hb hok hc0 hz
      go_enter Try.func26, Try.ntmps26
      go_wp2_with (first | (go_at_call 40; refine hi.mono ?_; rintro e w1 ⟨rfl, rfl⟩) | (go_at_call 32; refine hc.mono ?_; rintro e w1 ⟨rfl, rfl⟩))
      go_ret2
      exact ⟨by rw [E.out.1, E.out.2.1]; rfl, by rw [E.out.2.2]; exact HS.out⟩
    · have E : Hid (S.need n = 0 ∧ S.last n = (cnt S.L n - 1 == 0) ∧ (S.dec n).L = setL S.L n (cnt S.L n - 1)) := by
        have e1 : S.need n = 0 := by unfold RfS.need; rw [if_neg (by rw [hb]; simp), if_neg hz]
        refine ⟨e1, ?_, ?_⟩
        · unfold RfS.last; by_cases e : cnt S.L n = 1
          · simp [e1, e]
          · have e2 : ¬ (cnt S.L n - 1 = 0) := by omega
            have e3 : (cnt S.L n - 1 == 0) = false := by simpa using e2
            rw [e3]; simp [e]
        · unfold RfS.dec
          rw [if_pos e1]
          by_cases e : cnt S.L n = 1
          · rw [if_pos e, e]; exact set_zero.symm
          · rw [if_neg e, set_pos (by omega)]
      have HC2 : Hid (∀ w2 lv2, RD w2 q lv2 S.blocks (setL S.L n (cnt S.L n - 1)) bs → Calls Try.prog 32 #[.pointer (some ⟨q, 0, none⟩), .int .i64 n] w2 fun e w' => e = .returned (.int .i64 (cnt S.L n - 1)) ∧ w' = w2) := fun w2 lv2 h2 => by
        have := rcount_calls w2 q lv2 S.blocks _ bs n h2
        have e4 : cnt (setL S.L n (cnt S.L n - 1)) n = cnt S.L n - 1 := by
          unfold setL
          by_cases e : cnt S.L n - 1 = 0
          · rw [if_pos e, cnt_del hok.rise, if_pos rfl, e]
          · rw [if_neg e, cnt_put hok.rise, if_pos rfl]
        rw [e4] at this
        exact this
      have hz2 : (cnt S.L n == 0) = false := by simpa using hz
      have b1 := hc0.1
      have b2 : cnt S.L n ≤ 1000000 := by omega
      clear h hb hok hc0 hz
      generalize hcc : cnt S.L n = c at *
      clear hcc
      go_enter Try.func26, Try.ntmps26
      go_upto_region 7 with (first | (go_at_call 40; refine hi.mono ?_; rintro e w1 ⟨rfl, rfl⟩) | (go_at_call 32; refine hc.mono ?_; rintro e w1 ⟨rfl, rfl⟩) | (go_at_call 41; refine hset.mono ?_; rintro e w2 ⟨rfl, h2⟩))
      have HD : Hid (DGo _ q lv S.blocks (setL S.L n (c - 1)) bs w2) := h2
      obtain ⟨lv2, h3, _⟩ := h2
      have hc2 := HC2.out w2 lv2 h3
      clear h3 hc
      go_wp2_with (first | (go_at_call 32; refine hc2.mono ?_; rintro e w3 ⟨rfl, rfl⟩))
      go_ret2
      exact ⟨by rw [E.out.1, E.out.2.1]; rfl, by rw [E.out.2.2]; exact HD.out⟩
set_option maxHeartbeats 400000 in
theorem rfree_calls (w : World) (q : Nat) (lv : Value) (S : RfS) (K bs : Nat) (h : RD w q lv S.blocks S.L bs) (hok : S.Ok K) (hL : S.L.length ≤ 1000) : Calls Try.prog 31 #[.pointer (some ⟨q, 0, none⟩)] w fun e w' => e = .returned (.int .i64 S.free) ∧ ∃ n, w' = w.drewN n := by
  obtain ⟨c0, c1⟩ := cells2 h.blk
  have h1 := hok.b1
  have h2 := hok.b2
  have E : Hid (S.free = S.blocks - 2 - (S.L.length : Int)) := rfl
  obtain ⟨la, lc, rfl⟩ := h.form
  clear h hok
  generalize S.L.length = len at *
  generalize S.blocks = B at *
  go_enter Try.func31, Try.ntmps31
  go_wp2
  go_region
  go_wp2
  go_ret
  exact ⟨by rw [E.out]; rfl, _, rfl⟩
set_option maxHeartbeats 1000000 in
theorem rnew_calls (w : World) (n : Int) : Calls Try.prog 10 #[.int .i64 n] w fun e w' => e = .returned (.pointer (some ⟨w.heap.size, 0, none⟩)) ∧ RD w' w.heap.size (.slice none 0 0) (RfS.new n).blocks (RfS.new n).L w.heap.size ∧ Below w.heap.size w w' := by
  have R : ∀ b, b = (RfS.new n).blocks → RD (w.alloc (.cells #[.int .i64 b, .slice none 0 0] 56)) w.heap.size (.slice none 0 0) (RfS.new n).blocks (RfS.new n).L w.heap.size ∧ Below w.heap.size w (w.alloc (.cells #[.int .i64 b, .slice none 0 0] 56)) := fun b hb => by
    subst hb
    exact ⟨⟨heap_alloc_new _ _, World.ownsRow_nil _ _ _ _, fun k hk => by cases hk⟩, (Below.refl _ _).alloc (Nat.le_refl _) _⟩
  have e : (RfS.new n).blocks = min (max n 2) 4294967296 := rfl
  rw [e] at R
  clear e
  go_enter Try.func10, Try.ntmps10
  go_wp2
  all_goals
    go_ret
    exact ⟨rfl, R _ (by omega)⟩
end Go.Proofs.Ytpgepejleklpfaa
