/- DeviceFar's walk: from the device's contracts. -/
import Derived.Test.YtmemhckkfhlnmaaDevShown
import Derived.Deep.DeepCutAuto
namespace Go.Proofs.Ytmemhckkfhlnmaa
set_option linter.unusedVariables false
open Go.RowKit
attribute [local go_sem ↓] Go.wp_at_zero Go.wp_at_succ

def fd (n : Int) (N X : List UInt8) (c : Int) : DS := ⟨n, fun _ => N, fun k => if k = n - 1 then X else N, [n - 1], false, c, 0, 0, 0, 0⟩
def fd4 (n : Int) (N X : List UInt8) : DS := ⟨n, fun k => if k = n - 1 then X else N, fun k => if k = n - 1 then X else N, [], false, 4, 0, 0, 0, 0⟩
theorem fd_new (b : Int) : DS.new b = ⟨max (min b 4294967296) 1, fun _ => nought, fun _ => nought, [], false, 0, 0, 0, 0, 0⟩ := rfl
theorem fd_1 (n : Int) (N X : List UInt8) (h : X.length = 512) (hn : 1 ≤ n) : (⟨n, fun _ => N, fun _ => N, [], false, 0, 0, 0, 0, 0⟩ : DS).write (n - 1) X = (fd n N X 1, 0) := by
  rw [DS.write_plain rfl rfl (by omega) (by simp only; omega) h]
  simp only [DS.put, fd, List.not_mem_nil, if_false, List.nil_append, Prod.mk.injEq, DS.mk.injEq, and_true, true_and]
  trivial
theorem fd_bad (n : Int) (N X : List UInt8) (c k : Int) (hk : k < 0 ∨ n ≤ k) : (fd n N X c).write k X = (fd n N X (c + 1), 1) := by
  unfold DS.write
  rw [DS.tick_plain rfl rfl]
  simp only
  rw [if_neg (by simp), if_pos (by unfold fd; simp only; omega)]
  rfl
theorem fd_fl (n : Int) (N X : List UInt8) : (fd n N X 3).flush = (fd4 n N X, 0) := by
  rw [DS.flush_plain rfl rfl]
  rfl
theorem fd_r1 (n : Int) (N X : List UInt8) (hn : 1 ≤ n) : (fd4 n N X).read (n - 1) = (X, 0) := by
  unfold DS.read fd4
  simp only [if_true]
  rw [if_neg (by simp), if_neg (by omega)]
theorem fd_r0 (n : Int) (N X : List UInt8) (hn : 1 ≤ n) : (fd4 n N X).read 0 = (if n = 1 then X else N, 0) := by
  unfold DS.read fd4
  simp only
  rw [if_neg (by simp), if_neg (by omega)]
  by_cases e : n = 1
  · rw [if_pos e, if_pos (by omega)]
  · rw [if_neg e, if_neg (by omega)]
theorem fd_rn (n : Int) (N X : List UInt8) : (fd4 n N X).read n = ([], 1) := by
  unfold DS.read fd4
  simp only
  rw [if_neg (by simp), if_pos (by omega)]
theorem conv_made {w w' : World} {L : List UInt8} (o : w'.ownsRow w.heap.size 5 1 (.slice (some ⟨w.heap.size, 0, none⟩) L.length L.length) L.length (bc L)) : (convert 42 9 (.slice (some ⟨w.heap.size, 0, none⟩) L.length L.length)).run Try.prog w' = .ok (.string (str L)) w' := conv_bytes (own_bytes o)

set_option maxHeartbeats 4000000 in
set_option maxRecDepth 100000 in
theorem far_walk (w : World) (blocks c : Int) (hb : I64 blocks) : Calls Try.prog 7 #[.int .i64 blocks, .int .i64 c] w fun e w' => e = .returned (.bool true) ∧ Below w.heap.size w w' := by
  have hXl : (cont c).length = 512 := cont_length c
  have HL : Hid ((cont c).length = 512) := hXl
  have HN : Hid (DS.new blocks = ⟨max (min blocks 4294967296) 1, fun _ => nought, fun _ => nought, [], false, 0, 0, 0, 0, 0⟩) := fd_new blocks
  generalize hX : cont c = X at *
  have HX : Hid (cont c = X) := hX
  clear hX hXl
  go_enter Try.func7, Try.ntmps7
  go_upto_region 5 with (first | (go_at_call 9; refine (shown_calls _).mono ?_; rintro e w0 ⟨rfl, b0⟩) | (go_at_call 10; refine (newQ _ blocks hb).mono ?_; rintro e w1 ⟨rfl, h1, b1⟩))
  have HS : Hid (w0.heap.size ≤ w1.heap.size) := b1.size
  rw [HN.out] at h1
  obtain ⟨n, hn⟩ : ∃ n, n = max (min blocks 4294967296) 1 := ⟨_, rfl⟩
  rw [← hn] at h1
  have hn1 : 1 ≤ n := by omega
  have hn2 : n ≤ 4294967296 := by omega
  have Hn : Hid (n = max (min blocks 4294967296) 1) := hn
  clear hn
  generalize w0.heap.size + 2 = p at *
  go_cut [7] (fun v wc => v = .int .i64 n ∧ wc = w1)
  case first =>
    go_wp2
    all_goals
      go_meet
      case rel => exact ⟨by have := Hn.out; congr 1; omega, rfl⟩
  case rest =>
    obtain ⟨rfl, rfl⟩ := hcut
    go_wp2_with fail
    refine (blocksQ _ p _ _ h1).mono ?_
    rintro e w2 ⟨rfl, rfl⟩
    simp only
    go_wp2_with fail
    refine (content_calls _ c).mono ?_
    rintro e w3 ⟨rfl, o3, b3⟩
    rw [HX.out] at o3
    rw [HX.out]
    go_wp2_with fail
    refine (writeQ w2 w3 p _ w0.heap.size (n - 1) _ X h1 b3 (made_fresh o3) (by simp only; omega) (by rw [HL.out]; exact Nat.le_refl _) ⟨by omega, by omega⟩).mono ?_
    rintro e w4 ⟨rfl, h4, b4⟩
    rw [fd_1 n nought X HL.out hn1] at h4
    rw [fd_1 n nought X HL.out hn1]
    have B4 : Below w0.heap.size w0 w4 := (b1.trans (b3.mono h1.size)).trans b4
    clear b1 b3 b4 o3 h1
    go_wp2_with fail
    refine (content_calls _ c).mono ?_
    rintro e w5 ⟨rfl, o5, b5⟩
    rw [HX.out] at o5
    rw [HX.out]
    go_wp2_with fail
    refine (writeQ w4 w5 p _ w0.heap.size n _ X h4 b5 (made_fresh o5) (by unfold fd; simp only; omega) (by rw [HL.out]; exact Nat.le_refl _) ⟨by omega, by omega⟩).mono ?_
    rintro e w6 ⟨rfl, h6, b6⟩
    rw [fd_bad n nought X 1 n (by omega)] at h6
    rw [fd_bad n nought X 1 n (by omega)]
    have B6 : Below w0.heap.size w0 w6 := (B4.trans (b5.mono h4.size)).trans b6
    clear b5 b6 o5 h4 B4
    go_wp2_with fail
    refine (content_calls _ c).mono ?_
    rintro e w7 ⟨rfl, o7, b7⟩
    rw [HX.out] at o7
    rw [HX.out]
    go_wp2_with fail
    refine (writeQ w6 w7 p _ w0.heap.size (-1) _ X h6 b7 (made_fresh o7) (by unfold fd; simp only; omega) (by rw [HL.out]; exact Nat.le_refl _) ⟨by omega, by omega⟩).mono ?_
    rintro e w8 ⟨rfl, h8, b8⟩
    rw [fd_bad n nought X (1 + 1) (-1) (by omega)] at h8
    rw [fd_bad n nought X (1 + 1) (-1) (by omega)]
    have B8 : Below w0.heap.size w0 w8 := (B6.trans (b7.mono h6.size)).trans b8
    clear b7 b8 o7 h6 B6
    go_wp2_with fail
    refine (flushQ w8 p _ w0.heap.size h8 (by unfold fd; simp only; omega)).mono ?_
    rintro e w9 ⟨rfl, h9, b9⟩
    rw [show (1 + 1 + 1 : Int) = 3 from rfl, fd_fl] at h9
    rw [show (1 + 1 + 1 : Int) = 3 from rfl, fd_fl]
    have B9 : Below w0.heap.size w0 w9 := B8.trans b9
    clear b9 h8 B8
    go_wp2_with fail
    refine (readQ w9 p _ w0.heap.size (n - 1) h9 ⟨by omega, by omega⟩).mono ?_
    rintro e w10 ⟨sx, rfl, y10, b10⟩
    rw [fd_r1 n nought X hn1] at y10
    rw [fd_r1 n nought X hn1]
    have h10 := h9.below b10 (Nat.le_refl _)
    go_wp2_with fail
    refine (readQ w10 p _ w0.heap.size 0 h10 ⟨by omega, by omega⟩).mono ?_
    rintro e w11 ⟨sy, rfl, y11, b11⟩
    rw [fd_r0 n nought X hn1] at y11
    rw [fd_r0 n nought X hn1]
    have h11 := h10.below b11 (Nat.le_refl _)
    go_wp2_with fail
    refine (readQ w11 p _ w0.heap.size n h11 ⟨by omega, by omega⟩).mono ?_
    rintro e w12 ⟨sz, rfl, y12, b12⟩
    rw [fd_rn]
    have h12 := h11.below b12 (Nat.le_refl _)
    have z10 := (y10.later b11 (Nat.le_refl _)).later b12 (Nat.le_refl _)
    have z11 := y11.later b12 (Nat.le_refl _)
    have B12 : Below w0.heap.size w0 w12 := ((B9.trans (b10.mono h9.size)).trans (b11.mono h10.size)).trans (b12.mono h11.size)
    clear h9 h10 h11 b10 b11 b12 y10 y11 y12 B9
    generalize hY : (if n = 1 then X else nought) = Y at *
    have HY : Hid ((if n = 1 then X else nought) = Y) := hY
    clear hY
    go_upto_if 76 with (go_at_call 25; refine (noughts_calls _).mono ?_; rintro e w13 ⟨rfl, b13⟩)
    go_cut [14] (fun v wc => v = .string (str Y) ∧ Below w12.heap.size w12 wc)
    case first =>
      by_cases e1 : n = 1
      · have EY : Hid (Y = X) := by show _ = _; rw [← HY.out, if_pos e1]
        subst e1
        go_wp2_with (go_at_call 22; refine (content_calls _ c).mono ?_; rintro e w14 ⟨rfl, o14, b14⟩; rw [HX.out] at o14; rw [HX.out]; have k14 := conv_made o14)
        go_meet
        case rel => exact ⟨by rw [EY.out], b13.trans (b14.mono b13.size)⟩
      · have EY : Hid (Y = nought) := by show _ = _; rw [← HY.out, if_neg e1]
        have e2 : (n == 1) = false := by simp [e1]
        go_wp2
        go_meet
        case rel => exact ⟨by rw [EY.out], b13⟩
    case rest =>
      obtain ⟨rfl, b14⟩ := hcut
      have h14 := h12.below b14 (Nat.le_refl _)
      have z10' := z10.later b14 (Nat.le_refl _)
      have z11' := z11.later b14 (Nat.le_refl _)
      have HS2 : Hid (∀ w' : World, Below wc.heap.size wc w' → ((convert 42 9 sx).run Try.prog w' = .ok (.string (str X)) w' ∧ (convert 42 9 sy).run Try.prog w' = .ok (.string (str Y)) w')) := fun w' hb => ⟨conv_got (z10'.later hb (Nat.le_refl _)), conv_got (z11'.later hb (Nat.le_refl _))⟩
      clear z10 z11 z10' z11' b13 h12
      go_wp2_with fail
      go_region_held (fun w' => (convert 42 9 sx).run Try.prog w' = .ok (.string (str X)) w' ∧ (convert 42 9 sy).run Try.prog w' = .ok (.string (str Y)) w')
        (first | exact HS2.out _ ⟨rfl, rfl, rfl, Nat.le_refl _, fun _ _ => rfl⟩ | exact d16 | fail)
        (first
          | (go_at_call 22; refine (content_calls _ c).mono ?_; rintro e w16 ⟨rfl, o16, b16⟩; rw [HX.out] at o16; rw [HX.out]; have k16 : (convert 42 9 (.slice (some ⟨wc.heap.size, 0, none⟩) X.length X.length)).run Try.prog w16 = .ok (.string (str X)) w16 := conv_made o16; have B16 : Below wc.heap.size wc w16 := ⟨b16.os, b16.tape, b16.output, b16.size, b16.block⟩; have d16 := HS2.out w16 B16; have h16 := h14.below B16 (Nat.le_refl _))
          | (go_at_call 29; refine (countQ _ p _ _ h16).mono ?_; rintro e w19 ⟨rfl, rfl⟩; rw [show (fd4 n nought X).calls = 4 from rfl]))
      all_goals
        go_wp2
        go_ret
        have q1 := b0.size
        have q2 := B12.size
        have q3 := b14.size
        refine ⟨by simp, ((b0.trans (B12.mono q1)).trans (b14.mono (by omega))).trans (B16.mono (by omega))⟩
end Go.Proofs.Ytmemhckkfhlnmaa
