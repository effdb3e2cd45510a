/- DevicePlays' walk: one pair of devices, or two that go on by themselves. -/
import Derived.Test.YtmemhckkfhlnmaaPlaysC
namespace Go.Proofs.Ytmemhckkfhlnmaa
set_option linter.unusedVariables false
open Go.RowKit
attribute [local go_sem ↓] Go.wp_at_zero Go.wp_at_succ

def Two (w : World) (p q : Nat) (D : DS) (p' q' : Nat) (D' : DS) (B : Nat) : Prop :=
  ∃ M S M' S', Pair w p D q D M S ∧ Pair w p' D' q' D' M' S' ∧ (∀ k, M k → B ≤ k ∧ ¬ S' k) ∧ (∀ k, M' k → B ≤ k ∧ ¬ S k) ∧ B ≤ w.heap.size
def One (w : World) (p q : Nat) (D : DS) (B : Nat) : Prop := ∃ M S, Pair w p D q D M S ∧ (∀ k, M k → B ≤ k) ∧ B ≤ w.heap.size
theorem Two.one {w : World} {p q p' q' : Nat} {D D' : DS} {B : Nat} (h : Two w p q D p' q' D' B) : One w p q D B := by
  obtain ⟨M, S, M', S', h1, h2, h3, h4, h5⟩ := h
  exact ⟨M, S, h1, fun k hk => (h3 k hk).1, h5⟩
theorem Two.swap {w : World} {p q p' q' : Nat} {D D' : DS} {B : Nat} (h : Two w p q D p' q' D' B) : Two w p' q' D' p q D B := by
  obtain ⟨M, S, M', S', h1, h2, h3, h4, h5⟩ := h
  exact ⟨M', S', M, S, h2, h1, h4, h3, h5⟩
theorem Two.below {w w' : World} {p q p' q' : Nat} {D D' : DS} {B : Nat} (h : Two w p q D p' q' D' B) (hb : Below w.heap.size w w') : Two w' p q D p' q' D' B := by
  obtain ⟨M, S, M', S', h1, h2, h3, h4, h5⟩ := h
  exact ⟨M, S, M', S', h1.below hb (Nat.le_refl _), h2.below hb (Nat.le_refl _), h3, h4, Nat.le_trans h5 hb.size⟩
theorem One.below {w w' : World} {p q : Nat} {D : DS} {B : Nat} (h : One w p q D B) (hb : Below w.heap.size w w') : One w' p q D B := by
  obtain ⟨M, S, h1, h3, h5⟩ := h
  exact ⟨M, S, h1.below hb (Nat.le_refl _), h3, Nat.le_trans h5 hb.size⟩
theorem One.size {w : World} {p q : Nat} {D : DS} {B : Nat} (h : One w p q D B) : B ≤ w.heap.size := by
  obtain ⟨M, S, h1, h3, h5⟩ := h
  exact h5
/-- A pair of two different states in between. -/
def Two' (w : World) (p : Nat) (D : DS) (q : Nat) (E : DS) (p' q' : Nat) (D' : DS) (B : Nat) : Prop :=
  ∃ M S M' S', Pair w p D q E M S ∧ Pair w p' D' q' D' M' S' ∧ (∀ k, M k → B ≤ k ∧ ¬ S' k) ∧ (∀ k, M' k → B ≤ k ∧ ¬ S k) ∧ B ≤ w.heap.size
theorem two_step {w w' : World} {p q p' q' : Nat} {D1 E1 D' : DS} {B : Nat} {M S M' S' : Nat → Prop} {D E : DS} (h1 : Pair w p D q E M S) (h2 : Pair w p' D' q' D' M' S') (h3 : ∀ k, M k → B ≤ k ∧ ¬ S' k) (h4 : ∀ k, M' k → B ≤ k ∧ ¬ S k) (h5 : B ≤ w.heap.size) (g : PGo w M S p D1 q E1 w') :
    Two' w' p D1 q E1 p' q' D' B ∧ Below B w w' := by
  obtain ⟨M1, S1, g1, g2, g3, g4⟩ := g
  refine ⟨⟨M1, S1, M', S', g1, h2.kept (fun k hk => g2.block k (h2.lt hk) (fun e => (h3 k e).2 hk)), fun k hk => ?_, fun k hk => ⟨(h4 k hk).1, fun e => ?_⟩, Nat.le_trans h5 g2.size⟩, g2.below h5 (fun k hk => (h3 k hk).1)⟩
  · rcases g3 k hk with e | e
    · exact h3 k e
    · exact ⟨by omega, fun e' => by have := h2.lt e'; omega⟩
  · rcases g4 k e with e | e
    · exact (h4 k hk).2 e
    · have := h2.lt (h2.sub hk); omega
theorem one_step {w w' : World} {p q : Nat} {D1 : DS} {B : Nat} {M S : Nat → Prop} (h3 : ∀ k, M k → B ≤ k) (h5 : B ≤ w.heap.size) (g : PGo w M S p D1 q D1 w') : One w' p q D1 B ∧ Below B w w' := by
  obtain ⟨M1, S1, g1, g2, g3, g4⟩ := g
  refine ⟨⟨M1, S1, g1, fun k hk => ?_, Nat.le_trans h5 g2.size⟩, g2.below h5 h3⟩
  rcases g3 k hk with e | e
  · exact h3 k e
  · omega
/-- What the loop carries: the pair that goes on, and perhaps the one that was left behind. -/
def St (w : World) (p q : Nat) (D : DS) (old was : Value) (B : Nat) (c : Int) : Prop :=
  D.calls ≤ c ∧ ((old = .pointer none ∧ was = .pointer none ∧ One w p q D B) ∨ ∃ p' q' D', old = .pointer (some ⟨p', 0, none⟩) ∧ was = .pointer (some ⟨q', 0, none⟩) ∧ Two w p q D p' q' D' B ∧ D'.calls ≤ c)
theorem St.one {w : World} {p q : Nat} {D : DS} {old was : Value} {B : Nat} {c : Int} (h : St w p q D old was B c) : One w p q D B := by
  rcases h.2 with ⟨_, _, h⟩ | ⟨p', q', D', _, _, h, _⟩
  · exact h
  · exact h.one
theorem St.below {w w' : World} {p q : Nat} {D : DS} {old was : Value} {B : Nat} {c : Int} (h : St w p q D old was B c) (hb : Below w.heap.size w w') : St w' p q D old was B c := by
  refine ⟨h.1, ?_⟩
  rcases h.2 with ⟨h1, h2, h⟩ | ⟨p', q', D', h1, h2, h, h3⟩
  · exact .inl ⟨h1, h2, h.below hb⟩
  · exact .inr ⟨p', q', D', h1, h2, h.below hb, h3⟩
theorem St.more {w : World} {p q : Nat} {D : DS} {old was : Value} {B : Nat} {c c' : Int} (h : St w p q D old was B c) (hc : c ≤ c') : St w p q D old was B c' := by
  refine ⟨by have := h.1; omega, ?_⟩
  rcases h.2 with h | ⟨p', q', D', h1, h2, h, h3⟩
  · exact .inl h
  · exact .inr ⟨p', q', D', h1, h2, h, by omega⟩
theorem doesS (w : World) (p q : Nat) (D : DS) (old was : Value) (B : Nat) (c : Int) (o : OD) (h : St w p q D old was B c) (hc : c ≤ 999990) (hin : o.In) :
    Calls Try.prog 14 #[.pointer (some ⟨p, 0, none⟩), .pointer (some ⟨q, 0, none⟩), .agg (opCells o)] w fun e w' => e = .returned (.bool true) ∧ ∃ D', St w' p q D' old was B (c + 1) ∧ Below B w w' := by
  obtain ⟨hD, h⟩ := h
  rcases h with ⟨e1, e2, M, S, h1, h3, h5⟩ | ⟨p', q', D', e1, e2, ⟨M, S, M', S', h1, h2, h3, h4, h5⟩, hD'⟩
  · refine (does_calls w p q D M S o h1 (by omega) hin).mono fun e w' ⟨he, D1, g, hc1⟩ => ⟨he, D1, ?_⟩
    obtain ⟨g1, g2⟩ := one_step h3 h5 g
    exact ⟨⟨by omega, .inl ⟨e1, e2, g1⟩⟩, g2⟩
  · refine (does_calls w p q D M S o h1 (by omega) hin).mono fun e w' ⟨he, D1, g, hc1⟩ => ⟨he, D1, ?_⟩
    obtain ⟨g1, g2⟩ := two_step h1 h2 h3 h4 h5 g
    exact ⟨⟨by omega, .inr ⟨p', q', D', e1, e2, g1, by omega⟩⟩, g2⟩
theorem sameO (w : World) (p q : Nat) (D : DS) (B : Nat) (h : One w p q D B) (hcl : D.calls ≤ 1000000) :
    Calls Try.prog 15 #[.pointer (some ⟨p, 0, none⟩), .pointer (some ⟨q, 0, none⟩)] w fun e w' => e = .returned (.bool true) ∧ Below w.heap.size w w' := by
  obtain ⟨M, S, h1, _⟩ := h
  exact same_calls w p q D M S h1 hcl
theorem cloneS (w : World) (p q : Nat) (D : DS) (B : Nat) (c : Int) (h : One w p q D B) (hD : D.calls ≤ c) (hc : c ≤ 1000000) :
    Calls Try.prog 12 #[.pointer (some ⟨q, 0, none⟩)] w fun e w1 => ∃ q', e = .returned (.pointer (some ⟨q', 0, none⟩)) ∧ Below w.heap.size w w1 ∧
      Calls Try.prog 13 #[.pointer (some ⟨p, 0, none⟩)] w1 fun e w2 => ∃ p', e = .returned (.pointer (some ⟨p', 0, none⟩)) ∧ St w2 p' q D (.pointer (some ⟨p, 0, none⟩)) (.pointer (some ⟨q', 0, none⟩)) B c ∧ Below w1.heap.size w1 w2 := by
  obtain ⟨M, S, hP, hM, hB⟩ := h
  obtain ⟨r, T, lv, ov, ns, h1, h2, h3, h4, h5⟩ := hP.ex
  refine (rclone_calls w q D lv ov ns h2 (by omega)).mono fun e w1 ⟨q', lv', ov', he, g1, g2, b1⟩ => ⟨q', he, b1, ?_⟩
  have h1' := h1.below b1 (Nat.le_refl _)
  have hs1 := b1.size
  refine (devclone_calls w1 p D r T h1' (by omega)).mono fun e w2 ⟨p', r', he2, g3, g4, b2⟩ => ⟨p', he2, ⟨hD, .inr ⟨p, q', D, rfl, rfl, ?_, hD⟩⟩, b2⟩
  have b12 := b1.trans (b2.mono hs1)
  refine ⟨fun k => Mine p' r' k ∨ RMine q lv ov k, fun k => (Mine p' r' k ∨ RMine q lv ov k) ∨ T k, fun k => Mine p r k ∨ RMine q' lv' ov' k, fun k => (Mine p r k ∨ RMine q' lv' ov' k) ∨ T k,
    ⟨r', T, lv, ov, ns, g3, h2.below b12 (Nat.le_refl _), fun _ => Iff.rfl, fun _ => Iff.rfl, fun k hk => ⟨fun e => by have := g4 k e; have := h2.mine_lt hk; omega, (h5 k hk).2⟩⟩,
    ⟨r, T, lv', ov', ns, h1'.below b2 (Nat.le_refl _), g1.below b2 (Nat.le_refl _), fun _ => Iff.rfl, fun _ => Iff.rfl, fun k hk => ⟨fun e => by have := g2 k hk; have := h1.mine_lt e; omega, fun e => by have := g2 k hk; have := (h1.tt k e).1; omega⟩⟩, fun k hk => ?_, fun k hk => ?_, Nat.le_trans hB b12.size⟩
  · rcases hk with e | e
    · have h6 := g4 k e
      refine ⟨by omega, fun hs => ?_⟩
      rcases hs with (hs | hs) | hs
      · have := h1.mine_lt hs; omega
      · have := g1.mine_lt hs; omega
      · have := (h1.tt k hs).1; omega
    · refine ⟨hM k ((h3 k).2 (.inr e)), fun hs => ?_⟩
      rcases hs with (hs | hs) | hs
      · exact (h5 k e).1 hs
      · have := g2 k hs; have := h2.mine_lt e; omega
      · exact (h5 k e).2 hs
  · rcases hk with e | e
    · refine ⟨hM k ((h3 k).2 (.inl e)), fun hs => ?_⟩
      rcases hs with (hs | hs) | hs
      · have := g4 k hs; have := h1.mine_lt e; omega
      · exact (h5 k hs).1 e
      · have ht := (h1.tt k hs).2
        rcases e with e | e | e | e
        · exact ht.1 e
        · exact ht.2.1 e
        · exact ht.2.2.1 e
        · exact ht.2.2.2 e
    · have h6 := g2 k e
      refine ⟨by omega, fun hs => ?_⟩
      rcases hs with (hs | hs) | hs
      · have := g4 k hs; have := g1.mine_lt e; omega
      · have := h2.mine_lt hs; omega
      · have := (h1.tt k hs).1; omega
/-- The two of a pair that was left behind, call by call. -/
theorem crash2P (w : World) (p q : Nat) (D : DS) (p' q' : Nat) (D' : DS) (B : Nat) (mask torn bytes : Int) (h : Two w p q D p' q' D' B) (hcl : D.calls ≤ 999999) (hm : 0 ≤ mask ∧ mask ≤ 18446744073709551615) (ht : I64 torn) (hy : I64 bytes) :
    Calls Try.prog 16 #[.pointer (some ⟨p, 0, none⟩), .int .u64 mask, .int .i64 torn, .int .i64 bytes] w fun e w1 => e = .returned (.tuple #[]) ∧ Below B w w1 ∧
      Calls Try.prog 17 #[.pointer (some ⟨q, 0, none⟩), .int .u64 mask, .int .i64 torn, .int .i64 bytes] w1 fun e w2 => e = .returned (.tuple #[]) ∧ Two w2 p q (D.crash mask torn bytes) p' q' D' B ∧ Below B w1 w2 := by
  obtain ⟨M, S, M', S', h1, h2, h3, h4, h5⟩ := h
  refine (crashP w p q D D M S mask torn bytes h1 (by omega) hm ht hy).mono fun e w1 ⟨he, g⟩ => ⟨he, ?_⟩
  obtain ⟨⟨M1, S1, M1', S1', k1, k2, k3, k4, k5⟩, b1⟩ := two_step h1 h2 h3 h4 h5 g
  refine ⟨b1, (rcrashP w1 p q _ D M1 S1 mask torn bytes k1 (by omega) hm).mono fun e w2 ⟨he, g⟩ => ⟨he, ?_⟩⟩
  exact two_step k1 k2 k3 k4 k5 g
theorem start2P (w : World) (p q : Nat) (D : DS) (p' q' : Nat) (D' : DS) (B : Nat) (h : Two w p q D p' q' D' B) :
    Calls Try.prog 18 #[.pointer (some ⟨p, 0, none⟩)] w fun e w1 => e = .returned (.tuple #[]) ∧ Below B w w1 ∧
      Calls Try.prog 19 #[.pointer (some ⟨q, 0, none⟩)] w1 fun e w2 => e = .returned (.tuple #[]) ∧ Two w2 p q D.start p' q' D' B ∧ Below B w1 w2 := by
  obtain ⟨M, S, M', S', h1, h2, h3, h4, h5⟩ := h
  refine (startP w p q D D M S h1).mono fun e w1 ⟨he, g⟩ => ⟨he, ?_⟩
  obtain ⟨⟨M1, S1, M1', S1', k1, k2, k3, k4, k5⟩, b1⟩ := two_step h1 h2 h3 h4 h5 g
  refine ⟨b1, (rstartP w1 p q _ D M1 S1 k1).mono fun e w2 ⟨he, g⟩ => ⟨he, ?_⟩⟩
  exact two_step k1 k2 k3 k4 k5 g
theorem one_new (w : World) (n : Int) (hn : I64 n) : Calls Try.prog 10 #[.int .i64 n] w fun e w1 => e = .returned (.pointer (some ⟨w.heap.size + 2, 0, none⟩)) ∧ Below w.heap.size w w1 ∧
      Calls Try.prog 11 #[.int .i64 n] w1 fun e w2 => e = .returned (.pointer (some ⟨w1.heap.size, 0, none⟩)) ∧ One w2 (w.heap.size + 2) w1.heap.size (DS.new n) w.heap.size ∧ Below w1.heap.size w1 w2 := by
  refine (new_calls w n hn).mono fun e w1 ⟨he, h1, b1⟩ => ⟨he, b1, ?_⟩
  refine (rnew_calls w1 n).mono fun e w2 ⟨he2, h2, b2⟩ => ⟨he2, ?_, b2⟩
  have hs1 := b1.size
  refine ⟨_, _, ⟨_, _, _, _, _, h1.below b2 (Nat.le_refl _), h2, fun _ => Iff.rfl, fun _ => Iff.rfl, fun k hk => ⟨fun e => ?_, fun e => e⟩⟩, fun k hk => ?_, Nat.le_trans hs1 b2.size⟩
  · have := h1.mine_lt e
    rcases hk with e | e | e
    · omega
    · cases e
    · cases e
  · rcases hk with e | e
    · rcases e with e | e | e | e
      · omega
      · rw [e]; exact Nat.le_refl _
      · rw [e]; exact Nat.le_succ _
      · cases e
    · rcases e with e | e | e
      · omega
      · cases e
      · cases e
set_option maxHeartbeats 8000000 in
set_option maxRecDepth 100000 in
theorem plays_walk (w : World) (blocks : Int) (a : Option Addr) (len cap : Nat) (os : Nat → OD) (hbl : I64 blocks) (hlen : len ≤ maxLen) (hos : OpsIn w a len os) : Calls Try.prog 3 #[.int .i64 blocks, .slice a len cap] w fun e w' => e = .returned (.bool true) ∧ Below w.heap.size w w' := by
  have Hlen : Hid (len ≤ maxLen) := hlen
  clear hlen
  go_enter Try.func3, Try.ntmps3
  go_wp2_with fail
  refine (shown_calls _).mono ?_
  rintro e w0 ⟨rfl, b0⟩
  go_wp2_with fail
  refine (one_new w0 blocks hbl).mono ?_
  rintro e w1 ⟨rfl, b1, hRN⟩
  generalize w0.heap.size + 2 = p0 at *
  go_wp2_with fail
  refine hRN.mono ?_
  rintro e w2 ⟨rfl, hOne, b2⟩
  have B2 : Below w.heap.size w w2 := b0.trans ((b1.trans (b2.mono b1.size)).mono b0.size)
  clear b1 b2 hRN
  generalize w1.heap.size = q at *
  have hDc : (DS.new blocks).calls ≤ 0 := Int.le_refl _
  generalize DS.new blocks = D0 at *
  go_wp2_with fail
  go_loopw [6, 8, 9, 10] (fun d old was i wr => ∃ (k p : Nat) (D : DS), k ≤ len ∧ k ≤ 80 ∧ i = .int .i64 (k : Int) ∧ d = .pointer (some ⟨p, 0, none⟩) ∧ St wr p q D old was w0.heap.size k ∧ Below w.heap.size w wr)
    (fun _ _ _ i _ => len - (intOf i).toNat)
  case atStart => exact ⟨0, p0, D0, Nat.zero_le _, Nat.zero_le _, rfl, rfl, ⟨hDc, .inl ⟨rfl, rfl, hOne⟩⟩, B2⟩
  case round =>
    obtain ⟨k, p, D, hk, hk80, rfl, rfl, hSt, hBel⟩ := hrel
    clear hOne hDc B2
    have hB := hSt.one.size
    have hkb : (k : Int) < 1000 := by omega
    by_cases hk5 : k < len ∧ k < 80
    · obtain ⟨hk5, hk6⟩ := hk5
      have hki : (k : Int) < (len : Int) := by omega
      have hki2 : (k : Int) < 80 := by omega
      obtain ⟨b, off, rfl, hbl', hall⟩ : ∃ b off, a = some ⟨b, off, none⟩ ∧ b < w.heap.size ∧ ∀ i, i < len → OpAt w b (off + i * 7) (os i) ∧ (os i).In := by
        rcases hos with h0 | h0
        · omega
        · exact h0
      obtain ⟨hat, hin⟩ := hall k hk5
      have hat' := hat.below hBel hbl'
      clear hat hall hos
      have hDo := doesS wr p q D _ _ w0.heap.size k (os k) hSt (by omega) hin
      unfold opCells at hDo
      generalize os k = o at *
      obtain ⟨q0, q1, q2, q3, q4, q5, q6⟩ := hat'
      obtain ⟨kd, on, oc, ol, om, ot, oy⟩ := o
      simp only at q0 q1 q2 q3 q4 q5 q6 hDo
      by_cases e6 : kd = 6
      · have t6 : (kd == 6) = true := by simp [e6]
        have hCl := cloneS wr p q D _ k hSt.one hSt.1 (by omega)
        clear e6 hDo hin
        go_wp2_with (first
          | (go_at_call 12; refine hCl.mono ?_; rintro e w3 ⟨q', rfl, b3, hDC⟩)
          | (go_at_call 13; refine hDC.mono ?_; rintro e w4 ⟨p', rfl, hS4, b4⟩; have hSm := sameO w4 p' q D _ hS4.one (by have := hS4.1; omega))
          | (go_at_call 15; refine hSm.mono ?_; rintro e w5 ⟨rfl, b5⟩))
        have hB4 := (hBel.trans (b3.mono hBel.size))
        have hB5 := hB4.trans (b4.mono hB4.size)
        have hB6 := hB5.trans (b5.mono hB5.size)
        go_roundw
        case rel => exact ⟨k + 1, p', D, by omega, by omega, by go_num, rfl, (hS4.below b5).more (by omega), hB6⟩
        case measure => simp [intOf]; omega
      · have t6 : (kd == 6) = false := by simp [e6]
        clear e6
        go_wp2_with (first
          | (go_at_call 14; refine hDo.mono ?_; rintro e w3 ⟨rfl, D', hS3, b3⟩; have hSm := sameO w3 p q D' _ hS3.one (by have := hS3.1; omega))
          | (go_at_call 15; refine hSm.mono ?_; rintro e w5 ⟨rfl, b5⟩))
        have hB4 := hBel.trans (b3.mono b0.size)
        have hB5 := hB4.trans (b5.mono hB4.size)
        go_roundw
        case rel => exact ⟨k + 1, p, D', by omega, by omega, by go_num, rfl, (hS3.below b5).more (by omega), hB5⟩
        case measure => simp [intOf]; omega
    · obtain ⟨hDk, hSt⟩ := hSt
      rcases hSt with ⟨rfl, rfl, hO⟩ | ⟨p', q', D', rfl, rfl, hT, hD'⟩
      · by_cases hkl : k < len
        · have hki : (k : Int) < (len : Int) := by omega
          have hkj : ¬ ((k : Int) < 80) := by omega
          go_wp2
          go_ret
          exact ⟨rfl, hBel⟩
        · have hki : ¬ ((k : Int) < (len : Int)) := by omega
          go_wp2
          go_ret
          exact ⟨rfl, hBel⟩
      · have hA := sameO wr p' q' D' _ hT.swap.one (by omega)
        have HT : Hid (∀ w3, Below wr.heap.size wr w3 → Two w3 p' q' D' p q D w0.heap.size) := fun w3 b3 => hT.swap.below b3
        have hcr : D'.calls ≤ 999999 := by omega
        have Hcr : Hid ((D'.crash 5 1 100).start.calls ≤ 1000000) := by show _ ≤ _; show (D'.crash 5 1 100).calls ≤ _; rw [DS.crash_calls_eq]; omega
        by_cases hkl : k < len
        · have hki : (k : Int) < (len : Int) := by omega
          have hkj : ¬ ((k : Int) < 80) := by omega
          go_wp2_with fail
          refine hA.mono ?_
          rintro e w3 ⟨rfl, b3⟩
          go_wp2_with fail
          refine (crash2P w3 p' q' D' p q D w0.heap.size 5 1 100 (HT.out w3 b3) hcr ⟨by omega, by omega⟩ ⟨by omega, by omega⟩ ⟨by omega, by omega⟩).mono ?_
          rintro e w4 ⟨rfl, b4, hC2⟩
          go_wp2_with fail
          refine hC2.mono ?_
          rintro e w5 ⟨rfl, hT5, b5⟩
          go_wp2_with fail
          refine (start2P w5 p' q' _ p q D w0.heap.size hT5).mono ?_
          rintro e w6 ⟨rfl, b6, hS2⟩
          go_wp2_with fail
          refine hS2.mono ?_
          rintro e w7 ⟨rfl, hT7, b7⟩
          go_wp2_with fail
          refine (sameO w7 p' q' _ _ hT7.one Hcr.out).mono ?_
          rintro e w8 ⟨rfl, b8⟩
          go_wp2_with fail
          refine (sameO w8 p q D _ (hT7.below b8).swap.one (by omega)).mono ?_
          rintro e w9 ⟨rfl, b9⟩
          go_wp2
          go_ret
          have c3 := hBel.trans (b3.mono hBel.size)
          have c4 := c3.trans (b4.mono b0.size)
          have c5 := c4.trans (b5.mono b0.size)
          have c6 := c5.trans (b6.mono b0.size)
          have c7 := c6.trans (b7.mono b0.size)
          have c8 := c7.trans (b8.mono c7.size)
          exact ⟨rfl, c8.trans (b9.mono c8.size)⟩
        · have hki : ¬ ((k : Int) < (len : Int)) := by omega
          go_wp2_with fail
          refine hA.mono ?_
          rintro e w3 ⟨rfl, b3⟩
          go_wp2_with fail
          refine (crash2P w3 p' q' D' p q D w0.heap.size 5 1 100 (HT.out w3 b3) hcr ⟨by omega, by omega⟩ ⟨by omega, by omega⟩ ⟨by omega, by omega⟩).mono ?_
          rintro e w4 ⟨rfl, b4, hC2⟩
          go_wp2_with fail
          refine hC2.mono ?_
          rintro e w5 ⟨rfl, hT5, b5⟩
          go_wp2_with fail
          refine (start2P w5 p' q' _ p q D w0.heap.size hT5).mono ?_
          rintro e w6 ⟨rfl, b6, hS2⟩
          go_wp2_with fail
          refine hS2.mono ?_
          rintro e w7 ⟨rfl, hT7, b7⟩
          go_wp2_with fail
          refine (sameO w7 p' q' _ _ hT7.one Hcr.out).mono ?_
          rintro e w8 ⟨rfl, b8⟩
          go_wp2_with fail
          refine (sameO w8 p q D _ (hT7.below b8).swap.one (by omega)).mono ?_
          rintro e w9 ⟨rfl, b9⟩
          go_wp2
          go_ret
          have c3 := hBel.trans (b3.mono hBel.size)
          have c4 := c3.trans (b4.mono b0.size)
          have c5 := c4.trans (b5.mono b0.size)
          have c6 := c5.trans (b6.mono b0.size)
          have c7 := c6.trans (b7.mono b0.size)
          have c8 := c7.trans (b8.mono c7.size)
          exact ⟨rfl, c8.trans (b9.mono c8.size)⟩
end Go.Proofs.Ytmemhckkfhlnmaa
