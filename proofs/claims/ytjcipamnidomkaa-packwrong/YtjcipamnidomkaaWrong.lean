/- Once wrong, always wrong: the walk of PackWrong. -/
import Derived.Test.YtjcipamnidomkaaArgs
import Derived.Test.YtjcipamnidomkaaMasks
import Derived.Test.YtjcipamnidomkaaRoom
import Derived.Deep.RegionWith
namespace Go.Proofs.Ytjcipamnidomkaa
set_option linter.unusedVariables false
open Go.RowKit

theorem byte_big (m : Int) (L : List UInt8) (v : Int) (h : 256 ≤ v) : WS.byte ⟨m, L, false⟩ v = ⟨m, [], true⟩ := by
  unfold WS.byte
  rw [if_pos (.inr h)]
  rfl
theorem fill_bad0 (m : Int) : WS.fill ⟨m, [], true⟩ 0 = ⟨m, [], true⟩ := by
  unfold WS.fill
  rw [if_neg (by simp), put_bad _ rfl]
theorem take_over (L : List UInt8) (n : Int) (h : (L.length : Int) < n) : RS.take ⟨L, false⟩ n = ⟨[], true⟩ := by
  unfold RS.take
  rw [if_pos (.inr (.inr h))]

theorem num_nil : num [] = 0 := rfl
theorem str_nil : str [] = ⟨#[]⟩ := rfl
theorem both_new {w0 w1 w2 : World} {q : Nat} {s : WS} {t : RS} {rr : Option Nat} (h1 : WrS w1 w0.heap.size s none) (b1 : Below w0.heap.size w0 w1) (h2 : RdS w2 q t rr) (b2 : Below w1.heap.size w1 w2) (q2 : w1.heap.size ≤ q) (k2 : ∀ k, rr = some k → w1.heap.size ≤ k ∧ k < w2.heap.size) :
    Both w2 w0.heap.size s none q t rr := by
  have := h1.lt.1
  exact ⟨h1.below b2 (Nat.le_refl _), h2, ⟨by omega, by simp⟩, fun k hk => ⟨(k2 k hk).2, ⟨by have := (k2 k hk).1; omega, by simp⟩⟩⟩

set_option maxHeartbeats 2000000 in
set_option maxRecDepth 100000 in
/-- The loop of PackWrong and what stands behind it, from a writer and a reader that are wrong. -/
theorem wrong_short (n m : Int) (a b : Option Addr) (len cap bcap : Nat) (fs : Nat → FD) (L : List UInt8) (w : World) (hl : len ≤ maxLen) (hs : FieldsIn w a len fs) (hb : ArgBytes w b bcap L) (hshort : (L.length : Int) ≤ 1000) :
    Calls Try.prog 6 #[.int .i64 m, .slice a len cap, .slice b L.length bcap, .int .i64 n] w fun e w' => e = .returned (.bool true) ∧ Below w.heap.size w w' := by
  unfold maxLen at hl
  obtain ⟨M, hM, hM0, hM1⟩ : ∃ M : Int, bits .and .i64 m 1023 = M ∧ 0 ≤ M ∧ M ≤ 1023 := ⟨_, and1023 m, by omega, by omega⟩
  obtain ⟨N, hN, hN0, hN1⟩ : ∃ N : Int, bits .and .i64 n 255 = N ∧ 0 ≤ N ∧ N ≤ 255 := ⟨_, and255 n, by omega, by omega⟩
  have hbc := hb.1
  have hP := hb
  go_enter Try.func6, Try.ntmps6
  go_wp2_with (first
    | (go_at_call 9; refine (shown_calls _).mono ?_; rintro e w0 ⟨rfl, b0⟩)
    | (go_at_call 10; refine (new_calls _ M hM0 (by omega)).mono ?_; rintro e w1 ⟨rfl, h1, b1⟩)
    | (go_at_call 26; refine (read_arg _ b L.length bcap L rfl (by omega) ((hP.below b0 (Nat.le_refl _)).below b1 (Nat.le_refl _))).mono ?_; rintro e w2 ⟨q, rr, rfl, h2, b2, q2, k2⟩; have hB := both_new h1 b1 h2 b2 q2 k2)
    | (go_at_call 12; refine (byte_calls _ w0.heap.size (256 + N) _ none hB.1 (by omega)).mono ?_; rintro e w3 ⟨rfl, hg3⟩; rw [byte_big M [] (256 + N) (by omega)] at hg3; obtain ⟨r3, hB3, t3, n3⟩ := hB.wr hg3)
    | (go_at_call 35; refine (raw_reads _ q (1001 + N) _ rr hB3.2.1).mono ?_; rintro e w4 ⟨rfl, hg4⟩; rw [take_over L (1001 + N) (by omega)] at hg4; have hB4 := hB3.rd hg4))
  have s0 := b0.size
  have s1 := b1.size
  have s2 := b2.size
  have hbel4 : Below w.heap.size w w4 := (((b0.trans (b1.mono s0)).trans (b2.mono (by omega))).trans (t3.below (by omega) s0 (fun k hk => by cases hk))).trans (hg4.2.below (by have := t3.size; omega) (by omega) (fun k hk => by cases hk))
  have hpq : w.heap.size ≤ q := by omega
  generalize hp0 : w0.heap.size = p at *
  have Hp : Hid (w0.heap.size = p) := hp0
  clear hp0 hB hB3 hg3 hg4 h1 h2 b0 b1 b2 k2 q2 t3 n3 hM hN s1 s2
  go_loopw [12] (fun i wr => ∃ (k : Nat) (r : Option Nat), k ≤ len ∧ k ≤ 30 ∧ i = .int .i64 k ∧ Both wr p ⟨M, [], true⟩ r q ⟨[], true⟩ rr ∧ Below w.heap.size w wr)
    (fun i _ => len - (intOf i).toNat)
  case atStart => exact ⟨0, r3, Nat.zero_le _, by omega, rfl, hB4, hbel4⟩
  case round =>
    obtain ⟨k, r, hk, hk30, rfl, hB, hbel⟩ := hrel
    clear hB4 hbel4
    by_cases hlt : k < len
    · by_cases hk30' : k < 30
      · obtain ⟨g, off, rfl, hg, c0, c1, c2, c3, _, _, hv, hts⟩ := hs k hlt
        have d2 := (hbel.cell (p := ⟨g, off + k * 4 + 2, none⟩) (by exact hg)).trans c2
        have d3 := (hbel.cell (p := ⟨g, off + k * 4 + 3, none⟩) (by exact hg)).trans c3
        clear c0 c1 hs
        generalize (fs k).s = t at *
        generalize (fs k).v = v at *
        unfold maxLen at hts
        by_cases h300 : (t.size : Int) ≤ 300
        · go_wp2
          go_region_with ((go_at_call 20; refine (raw_calls _ p t _ r (by exact hB.1) (by omega)).mono ?_; rintro e w5 ⟨rfl, hg5⟩))
          all_goals
            rw [put_bad _ rfl] at hg5
            obtain ⟨r5, hB5, t5, n5⟩ := hB.wr (WrG.drewN (k := 1) hg5)
            have e5 := hbel.trans (t5.below (B := w.heap.size) hbel.size (by omega) (fun j hj => by have := (hB.1.lt.2 j hj).1; omega))
            have d5 := (e5.cell (p := ⟨g, off + k * 4 + 2, none⟩) (by exact hg)).trans c2
            clear hg5 hB hbel d2 d3
            go_wp2_with (first
              | (go_at_call 16; refine (long_int _ p v _ r5 hB5.1 hv.1).mono ?_; rintro e w6 ⟨rfl, hg6⟩; unfold WS.long at hg6; rw [put_bad _ rfl] at hg6; obtain ⟨r6, hB6, t6, n6⟩ := hB5.wr hg6)
              | (go_at_call 22; refine (fill_calls _ p 0 _ r6 hB6.1 (by omega)).mono ?_; rintro e w7 ⟨rfl, hg7⟩; rw [fill_bad0] at hg7; obtain ⟨r7, hB7, t7, n7⟩ := hB6.wr hg7)
              | (go_at_call 27; refine (byte_reads _ q _ rr hB7.2.1).mono ?_; rintro e w8 ⟨rfl, hg8⟩; rw [take_bad] at hg8; simp only [got_bad, num_nil]; have hB8 := hB7.rd hg8)
              | (go_at_call 29; refine (word_reads _ q _ rr hB8.2.1).mono ?_; rintro e w9 ⟨rfl, hg9⟩; rw [take_bad] at hg9; simp only [got_bad, num_nil]; have hB9 := hB8.rd hg9)
              | (go_at_call 31; refine (long_reads _ q _ rr hB9.2.1).mono ?_; rintro e w10 ⟨rfl, hg10⟩; rw [take_bad] at hg10; simp only [got_bad, num_nil]; have hB10 := hB9.rd hg10)
              | (go_at_call 33; refine (text_reads _ q _ rr hB10.2.1).mono ?_; rintro e w11 ⟨rfl, hg11⟩; rw [atext_bad] at hg11; simp only [text_bad, str_nil]; have hB11 := hB10.rd hg11)
              | (go_at_call 35; refine (raw_reads _ q 0 _ rr hB11.2.1).mono ?_; rintro e w12 ⟨rfl, hg12⟩; rw [take_bad] at hg12; simp only [got_bad, str_nil]; have hB12 := hB11.rd hg12))
            have z5 := e5.size
            have z6 := t6.size
            have z7 := t7.size
            have z8 := hg8.2.size
            have z9 := hg9.2.size
            have z10 := hg10.2.size
            have z11 := hg11.2.size
            have e6 := e5.trans (t6.below (B := w.heap.size) z5 (by omega) (fun j hj => by have := (hB5.1.lt.2 j hj).1; omega))
            have e7 := e6.trans (t7.below (B := w.heap.size) (by omega) (by omega) (fun j hj => by have := (hB6.1.lt.2 j hj).1; omega))
            have e8 := e7.trans (hg8.2.below (B := w.heap.size) (by omega) (by omega) (fun j hj => by cases hj))
            have e9 := e8.trans (hg9.2.below (B := w.heap.size) (by omega) (by omega) (fun j hj => by cases hj))
            have e10 := e9.trans (hg10.2.below (B := w.heap.size) (by omega) (by omega) (fun j hj => by cases hj))
            have e11 := e10.trans (hg11.2.below (B := w.heap.size) (by omega) (by omega) (fun j hj => by cases hj))
            have e12 := e11.trans (hg12.2.below (B := w.heap.size) (by omega) (by omega) (fun j hj => by cases hj))
            go_roundw
            case rel => exact ⟨k + 1, r7, by omega, by omega, by go_num, hB12, e12⟩
            case measure => simp [intOf]; omega
        · have hsz : (t.extract 0 300).size = 300 := cut_size t 300 (by omega)
          go_wp2
          go_region_with ((go_at_call 20; refine (raw_calls _ p (t.extract 0 300) _ r (by exact hB.1) (by omega)).mono ?_; rintro e w5 ⟨rfl, hg5⟩))
          all_goals
            rw [put_bad _ rfl] at hg5
            obtain ⟨r5, hB5, t5, n5⟩ := hB.wr (WrG.drewN (k := 1) hg5)
            have e5 := hbel.trans (t5.below (B := w.heap.size) hbel.size (by omega) (fun j hj => by have := (hB.1.lt.2 j hj).1; omega))
            have d5 := (e5.cell (p := ⟨g, off + k * 4 + 2, none⟩) (by exact hg)).trans c2
            clear hg5 hB hbel d2 d3
            go_wp2_with (first
              | (go_at_call 16; refine (long_int _ p v _ r5 hB5.1 hv.1).mono ?_; rintro e w6 ⟨rfl, hg6⟩; unfold WS.long at hg6; rw [put_bad _ rfl] at hg6; obtain ⟨r6, hB6, t6, n6⟩ := hB5.wr hg6)
              | (go_at_call 22; refine (fill_calls _ p 0 _ r6 hB6.1 (by omega)).mono ?_; rintro e w7 ⟨rfl, hg7⟩; rw [fill_bad0] at hg7; obtain ⟨r7, hB7, t7, n7⟩ := hB6.wr hg7)
              | (go_at_call 27; refine (byte_reads _ q _ rr hB7.2.1).mono ?_; rintro e w8 ⟨rfl, hg8⟩; rw [take_bad] at hg8; simp only [got_bad, num_nil]; have hB8 := hB7.rd hg8)
              | (go_at_call 29; refine (word_reads _ q _ rr hB8.2.1).mono ?_; rintro e w9 ⟨rfl, hg9⟩; rw [take_bad] at hg9; simp only [got_bad, num_nil]; have hB9 := hB8.rd hg9)
              | (go_at_call 31; refine (long_reads _ q _ rr hB9.2.1).mono ?_; rintro e w10 ⟨rfl, hg10⟩; rw [take_bad] at hg10; simp only [got_bad, num_nil]; have hB10 := hB9.rd hg10)
              | (go_at_call 33; refine (text_reads _ q _ rr hB10.2.1).mono ?_; rintro e w11 ⟨rfl, hg11⟩; rw [atext_bad] at hg11; simp only [text_bad, str_nil]; have hB11 := hB10.rd hg11)
              | (go_at_call 35; refine (raw_reads _ q 0 _ rr hB11.2.1).mono ?_; rintro e w12 ⟨rfl, hg12⟩; rw [take_bad] at hg12; simp only [got_bad, str_nil]; have hB12 := hB11.rd hg12))
            have z5 := e5.size
            have z6 := t6.size
            have z7 := t7.size
            have z8 := hg8.2.size
            have z9 := hg9.2.size
            have z10 := hg10.2.size
            have z11 := hg11.2.size
            have e6 := e5.trans (t6.below (B := w.heap.size) z5 (by omega) (fun j hj => by have := (hB5.1.lt.2 j hj).1; omega))
            have e7 := e6.trans (t7.below (B := w.heap.size) (by omega) (by omega) (fun j hj => by have := (hB6.1.lt.2 j hj).1; omega))
            have e8 := e7.trans (hg8.2.below (B := w.heap.size) (by omega) (by omega) (fun j hj => by cases hj))
            have e9 := e8.trans (hg9.2.below (B := w.heap.size) (by omega) (by omega) (fun j hj => by cases hj))
            have e10 := e9.trans (hg10.2.below (B := w.heap.size) (by omega) (by omega) (fun j hj => by cases hj))
            have e11 := e10.trans (hg11.2.below (B := w.heap.size) (by omega) (by omega) (fun j hj => by cases hj))
            have e12 := e11.trans (hg12.2.below (B := w.heap.size) (by omega) (by omega) (fun j hj => by cases hj))
            go_roundw
            case rel => exact ⟨k + 1, r7, by omega, by omega, by go_num, hB12, e12⟩
            case measure => simp [intOf]; omega
      · have h30 : ¬ (k : Int) < 30 := by omega
        go_wp2_with (first
          | (go_at_call 24; refine (done_bad _ p _ r hB.1 rfl).mono ?_; rintro e w5 ⟨rfl, rfl⟩)
          | (go_at_call 38; refine (wrong_reads _ q _ rr hB.2.1).mono ?_; rintro e w6 ⟨rfl, rfl⟩)
          | (go_at_call 37; refine (left_reads _ q _ rr hB.2.1).mono ?_; rintro e w7 ⟨rfl, rfl⟩)
          | (go_at_call 39; refine (noughts_reads _ q _ rr hB.2.1 (fun k hk => (hB.2.2.2 k hk).1) (by simp)).mono ?_; rintro e w8 ⟨rfl, b8⟩))
        go_ret
        exact ⟨by simp, hbel.trans (b8.mono hbel.size)⟩
    · have h30 : ¬ (k : Int) < len := by omega
      go_wp2_with (first
        | (go_at_call 24; refine (done_bad _ p _ r hB.1 rfl).mono ?_; rintro e w5 ⟨rfl, rfl⟩)
        | (go_at_call 38; refine (wrong_reads _ q _ rr hB.2.1).mono ?_; rintro e w6 ⟨rfl, rfl⟩)
        | (go_at_call 37; refine (left_reads _ q _ rr hB.2.1).mono ?_; rintro e w7 ⟨rfl, rfl⟩)
        | (go_at_call 39; refine (noughts_reads _ q _ rr hB.2.1 (fun k hk => (hB.2.2.2 k hk).1) (by simp)).mono ?_; rintro e w8 ⟨rfl, b8⟩))
      go_ret
      exact ⟨by simp, hbel.trans (b8.mono hbel.size)⟩

set_option maxHeartbeats 2000000 in
set_option maxRecDepth 100000 in
/-- The loop of PackWrong and what stands behind it, from a writer and a reader that are wrong. -/
theorem wrong_long (n m : Int) (a b : Option Addr) (len cap bcap : Nat) (fs : Nat → FD) (L : List UInt8) (w : World) (hl : len ≤ maxLen) (hs : FieldsIn w a len fs) (hb : ArgBytes w b bcap L) (hshort : ¬ (L.length : Int) ≤ 1000) :
    Calls Try.prog 6 #[.int .i64 m, .slice a len cap, .slice b L.length bcap, .int .i64 n] w fun e w' => e = .returned (.bool true) ∧ Below w.heap.size w w' := by
  unfold maxLen at hl
  obtain ⟨M, hM, hM0, hM1⟩ : ∃ M : Int, bits .and .i64 m 1023 = M ∧ 0 ≤ M ∧ M ≤ 1023 := ⟨_, and1023 m, by omega, by omega⟩
  obtain ⟨N, hN, hN0, hN1⟩ : ∃ N : Int, bits .and .i64 n 255 = N ∧ 0 ≤ N ∧ N ≤ 255 := ⟨_, and255 n, by omega, by omega⟩
  have hbc := hb.1
  have hP := hb.pre 1000 (by omega)
  have hPl : (L.take 1000).length = 1000 := by rw [List.length_take]; omega
  generalize L.take 1000 = P at hP hPl
  go_enter Try.func6, Try.ntmps6
  go_wp2_with (first
    | (go_at_call 9; refine (shown_calls _).mono ?_; rintro e w0 ⟨rfl, b0⟩)
    | (go_at_call 10; refine (new_calls _ M hM0 (by omega)).mono ?_; rintro e w1 ⟨rfl, h1, b1⟩)
    | (go_at_call 26; refine (read_arg _ b 1000 bcap P hPl.symm (by omega) ((hP.below b0 (Nat.le_refl _)).below b1 (Nat.le_refl _))).mono ?_; rintro e w2 ⟨q, rr, rfl, h2, b2, q2, k2⟩; have hB := both_new h1 b1 h2 b2 q2 k2)
    | (go_at_call 12; refine (byte_calls _ w0.heap.size (256 + N) _ none hB.1 (by omega)).mono ?_; rintro e w3 ⟨rfl, hg3⟩; rw [byte_big M [] (256 + N) (by omega)] at hg3; obtain ⟨r3, hB3, t3, n3⟩ := hB.wr hg3)
    | (go_at_call 35; refine (raw_reads _ q (1001 + N) _ rr hB3.2.1).mono ?_; rintro e w4 ⟨rfl, hg4⟩; rw [take_over P (1001 + N) (by omega)] at hg4; have hB4 := hB3.rd hg4))
  have s0 := b0.size
  have s1 := b1.size
  have s2 := b2.size
  have hbel4 : Below w.heap.size w w4 := (((b0.trans (b1.mono s0)).trans (b2.mono (by omega))).trans (t3.below (by omega) s0 (fun k hk => by cases hk))).trans (hg4.2.below (by have := t3.size; omega) (by omega) (fun k hk => by cases hk))
  have hpq : w.heap.size ≤ q := by omega
  generalize hp0 : w0.heap.size = p at *
  have Hp : Hid (w0.heap.size = p) := hp0
  clear hp0 hB hB3 hg3 hg4 h1 h2 b0 b1 b2 k2 q2 t3 n3 hM hN s1 s2
  go_loopw [12] (fun i wr => ∃ (k : Nat) (r : Option Nat), k ≤ len ∧ k ≤ 30 ∧ i = .int .i64 k ∧ Both wr p ⟨M, [], true⟩ r q ⟨[], true⟩ rr ∧ Below w.heap.size w wr)
    (fun i _ => len - (intOf i).toNat)
  case atStart => exact ⟨0, r3, Nat.zero_le _, by omega, rfl, hB4, hbel4⟩
  case round =>
    obtain ⟨k, r, hk, hk30, rfl, hB, hbel⟩ := hrel
    clear hB4 hbel4
    by_cases hlt : k < len
    · by_cases hk30' : k < 30
      · obtain ⟨g, off, rfl, hg, c0, c1, c2, c3, _, _, hv, hts⟩ := hs k hlt
        have d2 := (hbel.cell (p := ⟨g, off + k * 4 + 2, none⟩) (by exact hg)).trans c2
        have d3 := (hbel.cell (p := ⟨g, off + k * 4 + 3, none⟩) (by exact hg)).trans c3
        clear c0 c1 hs
        generalize (fs k).s = t at *
        generalize (fs k).v = v at *
        unfold maxLen at hts
        by_cases h300 : (t.size : Int) ≤ 300
        · go_wp2
          go_region_with ((go_at_call 20; refine (raw_calls _ p t _ r (by exact hB.1) (by omega)).mono ?_; rintro e w5 ⟨rfl, hg5⟩))
          all_goals
            rw [put_bad _ rfl] at hg5
            obtain ⟨r5, hB5, t5, n5⟩ := hB.wr (WrG.drewN (k := 1) hg5)
            have e5 := hbel.trans (t5.below (B := w.heap.size) hbel.size (by omega) (fun j hj => by have := (hB.1.lt.2 j hj).1; omega))
            have d5 := (e5.cell (p := ⟨g, off + k * 4 + 2, none⟩) (by exact hg)).trans c2
            clear hg5 hB hbel d2 d3
            go_wp2_with (first
              | (go_at_call 16; refine (long_int _ p v _ r5 hB5.1 hv.1).mono ?_; rintro e w6 ⟨rfl, hg6⟩; unfold WS.long at hg6; rw [put_bad _ rfl] at hg6; obtain ⟨r6, hB6, t6, n6⟩ := hB5.wr hg6)
              | (go_at_call 22; refine (fill_calls _ p 0 _ r6 hB6.1 (by omega)).mono ?_; rintro e w7 ⟨rfl, hg7⟩; rw [fill_bad0] at hg7; obtain ⟨r7, hB7, t7, n7⟩ := hB6.wr hg7)
              | (go_at_call 27; refine (byte_reads _ q _ rr hB7.2.1).mono ?_; rintro e w8 ⟨rfl, hg8⟩; rw [take_bad] at hg8; simp only [got_bad, num_nil]; have hB8 := hB7.rd hg8)
              | (go_at_call 29; refine (word_reads _ q _ rr hB8.2.1).mono ?_; rintro e w9 ⟨rfl, hg9⟩; rw [take_bad] at hg9; simp only [got_bad, num_nil]; have hB9 := hB8.rd hg9)
              | (go_at_call 31; refine (long_reads _ q _ rr hB9.2.1).mono ?_; rintro e w10 ⟨rfl, hg10⟩; rw [take_bad] at hg10; simp only [got_bad, num_nil]; have hB10 := hB9.rd hg10)
              | (go_at_call 33; refine (text_reads _ q _ rr hB10.2.1).mono ?_; rintro e w11 ⟨rfl, hg11⟩; rw [atext_bad] at hg11; simp only [text_bad, str_nil]; have hB11 := hB10.rd hg11)
              | (go_at_call 35; refine (raw_reads _ q 0 _ rr hB11.2.1).mono ?_; rintro e w12 ⟨rfl, hg12⟩; rw [take_bad] at hg12; simp only [got_bad, str_nil]; have hB12 := hB11.rd hg12))
            have z5 := e5.size
            have z6 := t6.size
            have z7 := t7.size
            have z8 := hg8.2.size
            have z9 := hg9.2.size
            have z10 := hg10.2.size
            have z11 := hg11.2.size
            have e6 := e5.trans (t6.below (B := w.heap.size) z5 (by omega) (fun j hj => by have := (hB5.1.lt.2 j hj).1; omega))
            have e7 := e6.trans (t7.below (B := w.heap.size) (by omega) (by omega) (fun j hj => by have := (hB6.1.lt.2 j hj).1; omega))
            have e8 := e7.trans (hg8.2.below (B := w.heap.size) (by omega) (by omega) (fun j hj => by cases hj))
            have e9 := e8.trans (hg9.2.below (B := w.heap.size) (by omega) (by omega) (fun j hj => by cases hj))
            have e10 := e9.trans (hg10.2.below (B := w.heap.size) (by omega) (by omega) (fun j hj => by cases hj))
            have e11 := e10.trans (hg11.2.below (B := w.heap.size) (by omega) (by omega) (fun j hj => by cases hj))
            have e12 := e11.trans (hg12.2.below (B := w.heap.size) (by omega) (by omega) (fun j hj => by cases hj))
            go_roundw
            case rel => exact ⟨k + 1, r7, by omega, by omega, by go_num, hB12, e12⟩
            case measure => simp [intOf]; omega
        · have hsz : (t.extract 0 300).size = 300 := cut_size t 300 (by omega)
          go_wp2
          go_region_with ((go_at_call 20; refine (raw_calls _ p (t.extract 0 300) _ r (by exact hB.1) (by omega)).mono ?_; rintro e w5 ⟨rfl, hg5⟩))
          all_goals
            rw [put_bad _ rfl] at hg5
            obtain ⟨r5, hB5, t5, n5⟩ := hB.wr (WrG.drewN (k := 1) hg5)
            have e5 := hbel.trans (t5.below (B := w.heap.size) hbel.size (by omega) (fun j hj => by have := (hB.1.lt.2 j hj).1; omega))
            have d5 := (e5.cell (p := ⟨g, off + k * 4 + 2, none⟩) (by exact hg)).trans c2
            clear hg5 hB hbel d2 d3
            go_wp2_with (first
              | (go_at_call 16; refine (long_int _ p v _ r5 hB5.1 hv.1).mono ?_; rintro e w6 ⟨rfl, hg6⟩; unfold WS.long at hg6; rw [put_bad _ rfl] at hg6; obtain ⟨r6, hB6, t6, n6⟩ := hB5.wr hg6)
              | (go_at_call 22; refine (fill_calls _ p 0 _ r6 hB6.1 (by omega)).mono ?_; rintro e w7 ⟨rfl, hg7⟩; rw [fill_bad0] at hg7; obtain ⟨r7, hB7, t7, n7⟩ := hB6.wr hg7)
              | (go_at_call 27; refine (byte_reads _ q _ rr hB7.2.1).mono ?_; rintro e w8 ⟨rfl, hg8⟩; rw [take_bad] at hg8; simp only [got_bad, num_nil]; have hB8 := hB7.rd hg8)
              | (go_at_call 29; refine (word_reads _ q _ rr hB8.2.1).mono ?_; rintro e w9 ⟨rfl, hg9⟩; rw [take_bad] at hg9; simp only [got_bad, num_nil]; have hB9 := hB8.rd hg9)
              | (go_at_call 31; refine (long_reads _ q _ rr hB9.2.1).mono ?_; rintro e w10 ⟨rfl, hg10⟩; rw [take_bad] at hg10; simp only [got_bad, num_nil]; have hB10 := hB9.rd hg10)
              | (go_at_call 33; refine (text_reads _ q _ rr hB10.2.1).mono ?_; rintro e w11 ⟨rfl, hg11⟩; rw [atext_bad] at hg11; simp only [text_bad, str_nil]; have hB11 := hB10.rd hg11)
              | (go_at_call 35; refine (raw_reads _ q 0 _ rr hB11.2.1).mono ?_; rintro e w12 ⟨rfl, hg12⟩; rw [take_bad] at hg12; simp only [got_bad, str_nil]; have hB12 := hB11.rd hg12))
            have z5 := e5.size
            have z6 := t6.size
            have z7 := t7.size
            have z8 := hg8.2.size
            have z9 := hg9.2.size
            have z10 := hg10.2.size
            have z11 := hg11.2.size
            have e6 := e5.trans (t6.below (B := w.heap.size) z5 (by omega) (fun j hj => by have := (hB5.1.lt.2 j hj).1; omega))
            have e7 := e6.trans (t7.below (B := w.heap.size) (by omega) (by omega) (fun j hj => by have := (hB6.1.lt.2 j hj).1; omega))
            have e8 := e7.trans (hg8.2.below (B := w.heap.size) (by omega) (by omega) (fun j hj => by cases hj))
            have e9 := e8.trans (hg9.2.below (B := w.heap.size) (by omega) (by omega) (fun j hj => by cases hj))
            have e10 := e9.trans (hg10.2.below (B := w.heap.size) (by omega) (by omega) (fun j hj => by cases hj))
            have e11 := e10.trans (hg11.2.below (B := w.heap.size) (by omega) (by omega) (fun j hj => by cases hj))
            have e12 := e11.trans (hg12.2.below (B := w.heap.size) (by omega) (by omega) (fun j hj => by cases hj))
            go_roundw
            case rel => exact ⟨k + 1, r7, by omega, by omega, by go_num, hB12, e12⟩
            case measure => simp [intOf]; omega
      · have h30 : ¬ (k : Int) < 30 := by omega
        go_wp2_with (first
          | (go_at_call 24; refine (done_bad _ p _ r hB.1 rfl).mono ?_; rintro e w5 ⟨rfl, rfl⟩)
          | (go_at_call 38; refine (wrong_reads _ q _ rr hB.2.1).mono ?_; rintro e w6 ⟨rfl, rfl⟩)
          | (go_at_call 37; refine (left_reads _ q _ rr hB.2.1).mono ?_; rintro e w7 ⟨rfl, rfl⟩)
          | (go_at_call 39; refine (noughts_reads _ q _ rr hB.2.1 (fun k hk => (hB.2.2.2 k hk).1) (by simp)).mono ?_; rintro e w8 ⟨rfl, b8⟩))
        go_ret
        exact ⟨by simp, hbel.trans (b8.mono hbel.size)⟩
    · have h30 : ¬ (k : Int) < len := by omega
      go_wp2_with (first
        | (go_at_call 24; refine (done_bad _ p _ r hB.1 rfl).mono ?_; rintro e w5 ⟨rfl, rfl⟩)
        | (go_at_call 38; refine (wrong_reads _ q _ rr hB.2.1).mono ?_; rintro e w6 ⟨rfl, rfl⟩)
        | (go_at_call 37; refine (left_reads _ q _ rr hB.2.1).mono ?_; rintro e w7 ⟨rfl, rfl⟩)
        | (go_at_call 39; refine (noughts_reads _ q _ rr hB.2.1 (fun k hk => (hB.2.2.2 k hk).1) (by simp)).mono ?_; rintro e w8 ⟨rfl, b8⟩))
      go_ret
      exact ⟨by simp, hbel.trans (b8.mono hbel.size)⟩

/-- The walk. -/
theorem wrong_walk (n m : Int) (a b : Option Addr) (len cap bcap : Nat) (fs : Nat → FD) (L : List UInt8) (w : World) (hl : len ≤ maxLen) (hs : FieldsIn w a len fs) (hb : ArgBytes w b bcap L) :
    Calls Try.prog 6 #[.int .i64 m, .slice a len cap, .slice b L.length bcap, .int .i64 n] w fun e w' => e = .returned (.bool true) ∧ Below w.heap.size w w' := by
  by_cases h : (L.length : Int) ≤ 1000
  · exact wrong_short n m a b len cap bcap fs L w hl hs hb h
  · exact wrong_long n m a b len cap bcap fs L w hl hs hb h
end Go.Proofs.Ytjcipamnidomkaa
