/- DeviceAgain's walk: a device that is down does not fall once more, and one that is up is not started. -/
import Derived.Test.YtmemhckkfhlnmabDevTwo
namespace Go.Proofs.Ytmemhckkfhlnmab
set_option linter.unusedVariables false
open Go.RowKit
attribute [local go_sem ↓] Go.wp_at_zero Go.wp_at_succ

theorem Plain.start_eq {D : DS} {c : Int} (h : Plain D c) : D.start = D := by
  have := h.dn
  cases D
  simp_all [DS.start]
theorem crash_up {D : DS} (h : D.down = false) (mask torn bytes : Int) : (D.crash mask torn bytes).down = true ∧ (D.crash mask torn bytes).calls = D.calls ∧ (D.crash mask torn bytes).blocks = D.blocks := by
  unfold DS.crash
  rw [if_neg (by rw [h]; simp)]
  exact ⟨rfl, rfl, rfl⟩
theorem crash_dn {D : DS} (h : D.down = true) (mask torn bytes : Int) : D.crash mask torn bytes = D := by
  unfold DS.crash
  rw [if_pos h]
theorem tick_dn {D : DS} (h : D.down = true) : D.tick = (D, false) := by
  unfold DS.tick
  rw [if_pos h]
theorem flush_dn {D : DS} (h : D.down = true) : D.flush = (D, 11) := by
  unfold DS.flush
  rw [tick_dn h]
  rfl
theorem write_dn {D : DS} (h : D.down = true) (n : Int) (b : List UInt8) : D.write n b = (D, 11) := by
  unfold DS.write
  rw [tick_dn h]
  rfl
theorem read_up {D : DS} (h : D.down = false) (hb : D.blocks = 8) (i : Int) (h0 : 0 ≤ i) (h1 : i < 8) : D.read i = (D.nw i, 0) := by
  unfold DS.read
  rw [if_neg (by rw [h]; simp), if_neg (by omega)]
/-- The device behind all that is said of it, and the other one. -/
def ag (D : DS) (mask torn other : Int) : DS := (((D.crash mask torn 100).arm 1 other 0 9).arm 0 0 0 0).start
def bg (D : DS) (mask torn : Int) : DS := (D.crash mask torn 100).start
theorem ag_read {D : DS} {c : Int} (h : Plain D c) (mask torn other i : Int) (h0 : 0 ≤ i) (h1 : i < 8) : (ag D mask torn other).read i = ((D.crash mask torn 100).nw i, 0) ∧ (bg D mask torn).read i = ((D.crash mask torn 100).nw i, 0) := by
  have hb := (crash_up h.dn mask torn 100).2.2
  rw [h.bl] at hb
  exact ⟨read_up (D := ag D mask torn other) rfl hb i h0 h1, read_up (D := bg D mask torn) rfl hb i h0 h1⟩
theorem ag_flush {D : DS} {c : Int} (h : Plain D c) (mask torn other : Int) : (ag D mask torn other).flush.2 = 0 ∧ (ag D mask torn other).flush.1.calls = D.calls + 1 ∧ (ag D mask torn other).calls = D.calls := by
  have hc := (crash_up h.dn mask torn 100).2.1
  have e : (ag D mask torn other).calls = D.calls := hc
  rw [DS.flush_plain (D := ag D mask torn other) rfl rfl]
  exact ⟨rfl, by show (ag D mask torn other).calls + 1 = _; rw [e], e⟩

set_option maxHeartbeats 8000000 in
set_option maxRecDepth 100000 in
theorem again_walk (w : World) (a : Option Addr) (len cap : Nat) (os : Nat → OD) (mask other torn : Int) (hlen : len ≤ maxLen) (hos : OpsIn w a len os) (hm : 0 ≤ mask ∧ mask ≤ 18446744073709551615) (ho : 0 ≤ other ∧ other ≤ 18446744073709551615) (ht : I64 torn) :
    Calls Try.prog 3 #[.slice a len cap, .int .u64 mask, .int .u64 other, .int .i64 torn] w fun e w' => e = .returned (.bool true) ∧ Below w.heap.size w w' := by
  go_enter Try.func3, Try.ntmps3
  go_wp2_with fail
  refine (shown_calls _).mono ?_
  rintro e w0 ⟨rfl, b0⟩
  go_wp2_with fail
  refine (newQ _ 8 ⟨by omega, by omega⟩).mono ?_
  rintro e w1 ⟨rfl, h1, b1⟩
  generalize hp : w0.heap.size + 2 = p at *
  clear hp
  have B1 : Below w.heap.size w w1 := b0.trans (b1.mono b0.size)
  have hw0 := b0.size
  clear b1
  go_wp2_with fail
  go_loopw [11] (fun i wr => ∃ (k : Nat) (D : DS), k ≤ len ∧ k ≤ 30 ∧ i = .int .i64 (k : Int) ∧ DQ wr p D w0.heap.size ∧ Plain D k ∧ Below w.heap.size w wr)
    (fun i _ => len - (intOf i).toNat)
  case atStart => exact ⟨0, DS.new 8, Nat.zero_le _, Nat.zero_le _, rfl, h1, Plain.first, B1⟩
  case round =>
    obtain ⟨k, D, hk, hk30, rfl, hD, hPl, hBel⟩ := hrel
    clear h1 B1
    have hkb : (k : Int) < 1000 := by omega
    by_cases hk5 : k < len ∧ k < 30
    · obtain ⟨hk5, hk6⟩ := hk5
      have hki : (k : Int) < (len : Int) := by omega
      have hki2 : (k : Int) < 30 := by omega
      obtain ⟨b, off, rfl, hbl, hall⟩ : ∃ b off, a = some ⟨b, off, none⟩ ∧ b < w.heap.size ∧ ∀ i, i < len → OpAt w b (off + i * 7) (os i) ∧ (os i).In := by
        rcases hos with h0 | h0
        · omega
        · exact h0
      obtain ⟨hat, hin⟩ := hall k hk5
      have HS : Hid (∀ w' : World, Below w.heap.size w w' → w'.cell? ⟨b, off + k * 7 + 1, none⟩ = some (.int .i64 (os k).n) ∧ w'.cell? ⟨b, off + k * 7 + 2, none⟩ = some (.int .i64 (os k).c)) := fun w' hb => ⟨(hat.below hb hbl).2.1, (hat.below hb hbl).2.2.1⟩
      clear hat hall hos
      generalize (os k).n = on at *
      generalize (os k).c = oc at *
      have h7n := and7 on
      obtain ⟨nm, hnm⟩ : ∃ nm, nm = on % 8 := ⟨_, rfl⟩
      rw [← hnm] at h7n
      have hn0 : 0 ≤ nm := by omega
      have hn1 : nm < 8 := by omega
      clear hnm
      have hcl := hPl.cl
      have HC : Hid ((cont oc).length = 512) := cont_length oc
      obtain ⟨e0, hPl'⟩ := hPl.write nm (cont oc) hn0 hn1 HC.out
      go_wp2_with fail
      go_region_held3 (fun w' => w'.cell? ⟨b, off + k * 7 + 1, none⟩ = some (.int .i64 on) ∧ w'.cell? ⟨b, off + k * 7 + 2, none⟩ = some (.int .i64 oc)) (first | exact HS.out _ ⟨hBel.os, hBel.tape, hBel.output, hBel.size, hBel.block⟩ | exact d5 | exact d6 | fail)
        (first
          | (go_at_call 7; refine (content_calls _ oc).mono ?_; rintro e w5 ⟨rfl, o5, b5⟩; have B5 : Below wr.heap.size wr w5 := ⟨b5.os, b5.tape, b5.output, b5.size, b5.block⟩; have W5 := hBel.trans (B5.mono hBel.size); have d5 := HS.out w5 W5; have hW := writeQ wr w5 p D w0.heap.size nm _ (cont oc) hD B5 (made_fresh o5) (by omega) (by rw [HC.out]; exact Nat.le_refl _) ⟨by omega, by omega⟩)
          | (go_at_call 6; refine hW.mono ?_; rintro e w6 ⟨rfl, h6, b6⟩; have W6 := W5.trans (b6.mono hw0); have d6 := HS.out w6 W6))
      all_goals
        go_wp2
        go_roundw
        case rel => exact ⟨k + 1, _, by omega, by omega, by go_num, h6, ⟨hPl'.ok, hPl'.bl, hPl'.dn, hPl'.ar, by have := hPl'.cl; omega⟩, W6⟩
        case measure => simp [intOf]; omega
    · have hcl := hPl.cl
      have hc0 := hPl.ok.c0
      have hx1 := crash_up hPl.dn mask torn 100
      have ht1 : I64 (wrap64 (torn + 1)) := ⟨by unfold wrap64; omega, by unfold wrap64; omega⟩
      by_cases hkl : k < len
      · have hki : (k : Int) < (len : Int) := by omega
        have hkj : ¬ ((k : Int) < 30) := by omega
        go_wp2_with fail
        refine (startQ _ p _ _ hD).mono ?_
        rintro e w2 ⟨rfl, h2, b2⟩
        rw [hPl.start_eq] at h2
        go_wp2_with fail
        refine (clone2 _ p _ _ h2 (by omega)).mono ?_
        rintro e w3 ⟨q, rfl, h3, b3⟩
        go_wp2_with fail
        refine (countQ _ p _ _ h3.one).mono ?_
        rintro e w3' ⟨rfl, rfl⟩
        go_wp2_with fail
        refine (crash2 _ p q _ _ _ mask torn 100 h3 (by omega) hm ht ⟨by omega, by omega⟩).mono ?_
        rintro e w4 ⟨rfl, h4, b4⟩
        go_wp2_with fail
        refine (crash2 _ q p _ _ _ mask torn 100 h4.swap (by omega) hm ht ⟨by omega, by omega⟩).mono ?_
        rintro e w5 ⟨rfl, h5, b5⟩
        go_wp2_with fail
        refine (crash2 _ p q _ _ _ other _ 7 h5.swap (by rw [hx1.2.1]; omega) ho ht1 ⟨by omega, by omega⟩).mono ?_
        rintro e w6 ⟨rfl, h6, b6⟩
        rw [crash_dn hx1.1] at h6
        go_wp2_with fail
        refine (arm2 _ p q _ _ _ 1 other 0 9 h6 ⟨by omega, by omega⟩ ho ⟨by omega, by omega⟩ ⟨by omega, by omega⟩).mono ?_
        rintro e w7 ⟨rfl, h7, b7⟩
        have hdn : ((D.crash mask torn 100).arm 1 other 0 9).down = true := hx1.1
        have hcs : ((D.crash mask torn 100).arm 1 other 0 9).calls = D.calls := hx1.2.1
        go_wp2_with fail
        refine (flush2 _ p q _ _ _ h7 (by rw [hcs]; omega)).mono ?_
        rintro e w8 ⟨rfl, h8, b8⟩
        rw [flush_dn hdn] at h8
        rw [flush_dn hdn]
        go_wp2_with fail
        refine (content_calls _ 1).mono ?_
        rintro e w9 ⟨rfl, o9, b9⟩
        go_wp2_with fail
        refine (write2 w8 w9 p q _ _ _ 0 _ (cont 1) h8 b9 (made_fresh o9) (by show ((D.crash mask torn 100).arm 1 other 0 9).calls ≤ _; rw [hcs]; omega) (by rw [cont_length]; exact Nat.le_refl _) ⟨by omega, by omega⟩).mono ?_
        rintro e w10 ⟨rfl, h10, b10⟩
        rw [write_dn hdn] at h10
        have h10' : D2 w10 p ((D.crash mask torn 100).arm 1 other 0 9) q (D.crash mask torn 100) w0.heap.size := h10
        rw [write_dn hdn]
        go_wp2_with fail
        refine (countQ _ p _ _ h10'.one).mono ?_
        rintro e w10' ⟨rfl, rfl⟩
        rw [hcs]
        go_wp2_with fail
        refine (upQ _ p _ _ h10'.one).mono ?_
        rintro e w10' ⟨rfl, rfl⟩
        rw [hdn]
        go_wp2_with fail
        refine (arm2 _ p q _ _ _ 0 0 0 0 h10' ⟨by omega, by omega⟩ ⟨by omega, by omega⟩ ⟨by omega, by omega⟩ ⟨by omega, by omega⟩).mono ?_
        rintro e w11 ⟨rfl, h11, b11⟩
        go_wp2_with fail
        refine (start2 _ p q _ _ _ h11).mono ?_
        rintro e w12 ⟨rfl, h12, b12⟩
        go_wp2_with fail
        refine (start2 _ q p _ _ _ h12.swap).mono ?_
        rintro e w13 ⟨rfl, h13, b13⟩
        have hF : D2 w13 p (ag D mask torn other) q (bg D mask torn) w0.heap.size := h13.swap
        have W2 := hBel.trans (b2.mono hw0)
        have W3 := W2.trans (b3.mono W2.size)
        have W8 := ((((W3.trans (b4.mono hw0)).trans (b5.mono hw0)).trans (b6.mono hw0)).trans (b7.mono hw0)).trans (b8.mono hw0)
        have W9 := W8.trans (b9.mono W8.size)
        have W13 : Below w.heap.size w w13 := (((W9.trans (b10.mono hw0)).trans (b11.mono hw0)).trans (b12.mono hw0)).trans (b13.mono hw0)
        obtain ⟨F1, F2, F3⟩ := ag_flush hPl mask torn other
        have HRD : Hid (∀ i : Int, 0 ≤ i → i < 8 → (ag D mask torn other).read i = ((D.crash mask torn 100).nw i, 0) ∧ (bg D mask torn).read i = ((D.crash mask torn 100).nw i, 0)) := fun i h0 h1 => ag_read hPl mask torn other i h0 h1
        clear h2 h3 h4 h5 h6 h7 h8 h10 h10' h11 h12 h13 b2 b3 b4 b5 b6 b7 b8 b9 b10 b11 b12 b13 o9 W2 W3 W8 W9 hD hBel hx1 hdn hcs
        generalize hA : ag D mask torn other = A at *
        generalize hB : bg D mask torn = Bd at *
        generalize hN : (D.crash mask torn 100).nw = N at *
        clear hA hB hN hPl
        generalize D.calls = dc at *
        go_wp2_with fail
        go_loopw [14] (fun i wr => ∃ (k : Nat), k ≤ 8 ∧ i = .int .i64 (k : Int) ∧ D2 wr p A q Bd w0.heap.size ∧ Below w.heap.size w wr)
          (fun i _ => 8 - (intOf i).toNat)
        case atStart => exact ⟨0, Nat.zero_le _, rfl, hF, W13⟩
        case round =>
          obtain ⟨k, hk, rfl, hP, hBl⟩ := hrel
          clear hF W13
          by_cases hk8 : k < 8
          · have hk9 : (k : Int) < 8 := by omega
            obtain ⟨R1, R2⟩ := HRD.out (k : Int) (by omega) hk9
            have r1 := readQ wr p A w0.heap.size k hP.one ⟨by omega, by omega⟩
            rw [R1] at r1
            go_wp2_with fail
            refine r1.mono ?_
            rintro e x1 ⟨sx, rfl, y1, c1⟩
            have hP1 := hP.below c1 (Nat.le_refl _)
            have r2 := readQ x1 q Bd w0.heap.size k hP1.two ⟨by omega, by omega⟩
            rw [R2] at r2
            go_wp2_with fail
            refine r2.mono ?_
            rintro e x2 ⟨sy, rfl, y2, c2⟩
            have hP2 := hP1.below c2 (Nat.le_refl _)
            have k1 := conv_got (y1.later c2 (Nat.le_refl _))
            have k2 := conv_got y2
            have X1 := hBl.trans (c1.mono hBl.size)
            have X2 := X1.trans (c2.mono X1.size)
            clear r1 r2 R1 R2
            go_wp2
            go_roundw
            case rel => exact ⟨k + 1, by omega, by go_num, hP2, X2⟩
            case measure => simp [intOf]; omega
          · have ek : k = 8 := by omega
            subst ek
            go_wp2_with (first | (go_at_call 13; refine (flush2 _ p q _ _ _ hP (by rw [F3]; omega)).mono ?_; rintro e x3 ⟨rfl, g3, c3⟩; rw [F1]) | (go_at_call 10; refine (countQ _ p _ _ g3.one).mono ?_; rintro e x4 ⟨rfl, rfl⟩; rw [F2]))
            go_ret
            exact ⟨by simp, hBl.trans (c3.mono hw0)⟩
      · have hki : ¬ ((k : Int) < (len : Int)) := by omega
        go_wp2_with fail
        refine (startQ _ p _ _ hD).mono ?_
        rintro e w2 ⟨rfl, h2, b2⟩
        rw [hPl.start_eq] at h2
        go_wp2_with fail
        refine (clone2 _ p _ _ h2 (by omega)).mono ?_
        rintro e w3 ⟨q, rfl, h3, b3⟩
        go_wp2_with fail
        refine (countQ _ p _ _ h3.one).mono ?_
        rintro e w3' ⟨rfl, rfl⟩
        go_wp2_with fail
        refine (crash2 _ p q _ _ _ mask torn 100 h3 (by omega) hm ht ⟨by omega, by omega⟩).mono ?_
        rintro e w4 ⟨rfl, h4, b4⟩
        go_wp2_with fail
        refine (crash2 _ q p _ _ _ mask torn 100 h4.swap (by omega) hm ht ⟨by omega, by omega⟩).mono ?_
        rintro e w5 ⟨rfl, h5, b5⟩
        go_wp2_with fail
        refine (crash2 _ p q _ _ _ other _ 7 h5.swap (by rw [hx1.2.1]; omega) ho ht1 ⟨by omega, by omega⟩).mono ?_
        rintro e w6 ⟨rfl, h6, b6⟩
        rw [crash_dn hx1.1] at h6
        go_wp2_with fail
        refine (arm2 _ p q _ _ _ 1 other 0 9 h6 ⟨by omega, by omega⟩ ho ⟨by omega, by omega⟩ ⟨by omega, by omega⟩).mono ?_
        rintro e w7 ⟨rfl, h7, b7⟩
        have hdn : ((D.crash mask torn 100).arm 1 other 0 9).down = true := hx1.1
        have hcs : ((D.crash mask torn 100).arm 1 other 0 9).calls = D.calls := hx1.2.1
        go_wp2_with fail
        refine (flush2 _ p q _ _ _ h7 (by rw [hcs]; omega)).mono ?_
        rintro e w8 ⟨rfl, h8, b8⟩
        rw [flush_dn hdn] at h8
        rw [flush_dn hdn]
        go_wp2_with fail
        refine (content_calls _ 1).mono ?_
        rintro e w9 ⟨rfl, o9, b9⟩
        go_wp2_with fail
        refine (write2 w8 w9 p q _ _ _ 0 _ (cont 1) h8 b9 (made_fresh o9) (by show ((D.crash mask torn 100).arm 1 other 0 9).calls ≤ _; rw [hcs]; omega) (by rw [cont_length]; exact Nat.le_refl _) ⟨by omega, by omega⟩).mono ?_
        rintro e w10 ⟨rfl, h10, b10⟩
        rw [write_dn hdn] at h10
        have h10' : D2 w10 p ((D.crash mask torn 100).arm 1 other 0 9) q (D.crash mask torn 100) w0.heap.size := h10
        rw [write_dn hdn]
        go_wp2_with fail
        refine (countQ _ p _ _ h10'.one).mono ?_
        rintro e w10' ⟨rfl, rfl⟩
        rw [hcs]
        go_wp2_with fail
        refine (upQ _ p _ _ h10'.one).mono ?_
        rintro e w10' ⟨rfl, rfl⟩
        rw [hdn]
        go_wp2_with fail
        refine (arm2 _ p q _ _ _ 0 0 0 0 h10' ⟨by omega, by omega⟩ ⟨by omega, by omega⟩ ⟨by omega, by omega⟩ ⟨by omega, by omega⟩).mono ?_
        rintro e w11 ⟨rfl, h11, b11⟩
        go_wp2_with fail
        refine (start2 _ p q _ _ _ h11).mono ?_
        rintro e w12 ⟨rfl, h12, b12⟩
        go_wp2_with fail
        refine (start2 _ q p _ _ _ h12.swap).mono ?_
        rintro e w13 ⟨rfl, h13, b13⟩
        have hF : D2 w13 p (ag D mask torn other) q (bg D mask torn) w0.heap.size := h13.swap
        have W2 := hBel.trans (b2.mono hw0)
        have W3 := W2.trans (b3.mono W2.size)
        have W8 := ((((W3.trans (b4.mono hw0)).trans (b5.mono hw0)).trans (b6.mono hw0)).trans (b7.mono hw0)).trans (b8.mono hw0)
        have W9 := W8.trans (b9.mono W8.size)
        have W13 : Below w.heap.size w w13 := (((W9.trans (b10.mono hw0)).trans (b11.mono hw0)).trans (b12.mono hw0)).trans (b13.mono hw0)
        obtain ⟨F1, F2, F3⟩ := ag_flush hPl mask torn other
        have HRD : Hid (∀ i : Int, 0 ≤ i → i < 8 → (ag D mask torn other).read i = ((D.crash mask torn 100).nw i, 0) ∧ (bg D mask torn).read i = ((D.crash mask torn 100).nw i, 0)) := fun i h0 h1 => ag_read hPl mask torn other i h0 h1
        clear h2 h3 h4 h5 h6 h7 h8 h10 h10' h11 h12 h13 b2 b3 b4 b5 b6 b7 b8 b9 b10 b11 b12 b13 o9 W2 W3 W8 W9 hD hBel hx1 hdn hcs
        generalize hA : ag D mask torn other = A at *
        generalize hB : bg D mask torn = Bd at *
        generalize hN : (D.crash mask torn 100).nw = N at *
        clear hA hB hN hPl
        generalize D.calls = dc at *
        go_wp2_with fail
        go_loopw [14] (fun i wr => ∃ (k : Nat), k ≤ 8 ∧ i = .int .i64 (k : Int) ∧ D2 wr p A q Bd w0.heap.size ∧ Below w.heap.size w wr)
          (fun i _ => 8 - (intOf i).toNat)
        case atStart => exact ⟨0, Nat.zero_le _, rfl, hF, W13⟩
        case round =>
          obtain ⟨k, hk, rfl, hP, hBl⟩ := hrel
          clear hF W13
          by_cases hk8 : k < 8
          · have hk9 : (k : Int) < 8 := by omega
            obtain ⟨R1, R2⟩ := HRD.out (k : Int) (by omega) hk9
            have r1 := readQ wr p A w0.heap.size k hP.one ⟨by omega, by omega⟩
            rw [R1] at r1
            go_wp2_with fail
            refine r1.mono ?_
            rintro e x1 ⟨sx, rfl, y1, c1⟩
            have hP1 := hP.below c1 (Nat.le_refl _)
            have r2 := readQ x1 q Bd w0.heap.size k hP1.two ⟨by omega, by omega⟩
            rw [R2] at r2
            go_wp2_with fail
            refine r2.mono ?_
            rintro e x2 ⟨sy, rfl, y2, c2⟩
            have hP2 := hP1.below c2 (Nat.le_refl _)
            have k1 := conv_got (y1.later c2 (Nat.le_refl _))
            have k2 := conv_got y2
            have X1 := hBl.trans (c1.mono hBl.size)
            have X2 := X1.trans (c2.mono X1.size)
            clear r1 r2 R1 R2
            go_wp2
            go_roundw
            case rel => exact ⟨k + 1, by omega, by go_num, hP2, X2⟩
            case measure => simp [intOf]; omega
          · have ek : k = 8 := by omega
            subst ek
            go_wp2_with (first | (go_at_call 13; refine (flush2 _ p q _ _ _ hP (by rw [F3]; omega)).mono ?_; rintro e x3 ⟨rfl, g3, c3⟩; rw [F1]) | (go_at_call 10; refine (countQ _ p _ _ g3.one).mono ?_; rintro e x4 ⟨rfl, rfl⟩; rw [F2]))
            go_ret
            exact ⟨by simp, hBl.trans (c3.mono hw0)⟩
end Go.Proofs.Ytmemhckkfhlnmab
