/- DeviceEnds's walk: torn with nothing new is lost, with all new is kept. -/
import Derived.Test.YtmemhckkfhlnmaaDevTwo
namespace Go.Proofs.Ytmemhckkfhlnmaa
set_option linter.unusedVariables false
open Go.RowKit
attribute [local go_sem ↓] Go.wp_at_zero Go.wp_at_succ

theorem crash_up {D : DS} (h : D.down = false) (mask torn bytes : Int) : (D.crash mask torn bytes).down = true ∧ (D.crash mask torn bytes).calls = D.calls ∧ (D.crash mask torn bytes).blocks = D.blocks := by
  unfold DS.crash
  rw [if_neg (by rw [h]; simp)]
  exact ⟨rfl, rfl, rfl⟩
theorem read_up {D : DS} (h : D.down = false) (hb : D.blocks = 8) (i : Int) (h0 : 0 ≤ i) (h1 : i < 8) : D.read i = (D.nw i, 0) := by
  unfold DS.read
  rw [if_neg (by rw [h]; simp), if_neg (by omega)]

theorem bit_vec (x : BitVec 64) (j : Nat) : bitOf ((x.toNat : Nat) : Int) j = x.getLsbD (j % 64) := by
  unfold bitOf BitVec.getLsbD
  rw [Nat.testBit_eq_decide_div_mod_eq]
  have e : ((x.toNat : Nat) : Int) / 2 ^ (j % 64) % 2 = ((x.toNat / 2 ^ (j % 64) % 2 : Nat) : Int) := by simp
  rw [e]
  by_cases h : x.toNat / 2 ^ (j % 64) % 2 = 1
  · simp [h]
  · have h2 : ¬ (((x.toNat / 2 ^ (j % 64) % 2 : Nat) : Int) = 1) := by omega
    simp only [h, decide_false, beq_eq_false_iff_ne, ne_eq]
    exact h2
theorem wrap_vec (x : BitVec 64) : IntKind.u64.wrap ((x.toNat : Nat) : Int) = ((x.toNat : Nat) : Int) := by
  have := x.isLt
  rw [IntKind.wrap_u64]
  omega
theorem mask_vec (mask : Int) (h0 : 0 ≤ mask) (h1 : mask ≤ 18446744073709551615) : (((BitVec.ofInt 64 mask).toNat : Nat) : Int) = mask := by
  rw [BitVec.toNat_ofInt]
  omega
theorem or_bit (mask b : Int) (t j : Nat) (h0 : 0 ≤ mask) (h1 : mask ≤ 18446744073709551615) (ht : t < 64) (hj : j < 64) (hb : BitVec.ofInt 64 b = BitVec.twoPow 64 t) : bitOf (bits .or .u64 mask b) j = (bitOf mask j || decide (j = t)) := by
  have e : bits .or .u64 mask b = (((BitVec.ofInt 64 mask ||| BitVec.ofInt 64 b).toNat : Nat) : Int) := wrap_vec _
  rw [e, bit_vec, ← mask_vec mask h0 h1, bit_vec, BitVec.getLsbD_or, hb, BitVec.getLsbD_twoPow, Nat.mod_eq_of_lt hj, mask_vec mask h0 h1]
  simp [ht, eq_comm]
theorem andnot_bit (mask b : Int) (t j : Nat) (h0 : 0 ≤ mask) (h1 : mask ≤ 18446744073709551615) (ht : t < 64) (hj : j < 64) (hb : BitVec.ofInt 64 b = BitVec.twoPow 64 t) : bitOf (bits .andNot .u64 mask b) j = (bitOf mask j && !decide (j = t)) := by
  have e : bits .andNot .u64 mask b = (((BitVec.ofInt 64 mask &&& ~~~ (BitVec.ofInt 64 b)).toNat : Nat) : Int) := wrap_vec _
  rw [e, bit_vec, ← mask_vec mask h0 h1, bit_vec, BitVec.getLsbD_and, BitVec.getLsbD_not, hb, BitVec.getLsbD_twoPow, Nat.mod_eq_of_lt hj, mask_vec mask h0 h1]
  simp [ht, hj, eq_comm]
theorem bits_in (op : BinOp) (x : BitVec 64) : 0 ≤ ((x.toNat : Nat) : Int) ∧ ((x.toNat : Nat) : Int) ≤ 18446744073709551615 := by
  have := x.isLt
  omega
theorem or_in (mask b : Int) : 0 ≤ bits .or .u64 mask b ∧ bits .or .u64 mask b ≤ 18446744073709551615 := by
  have e : bits .or .u64 mask b = (((BitVec.ofInt 64 mask ||| BitVec.ofInt 64 b).toNat : Nat) : Int) := wrap_vec _
  rw [e]
  exact bits_in .or _
theorem andnot_in (mask b : Int) : 0 ≤ bits .andNot .u64 mask b ∧ bits .andNot .u64 mask b ≤ 18446744073709551615 := by
  have e : bits .andNot .u64 mask b = (((BitVec.ofInt 64 mask &&& ~~~ (BitVec.ofInt 64 b)).toNat : Nat) : Int) := wrap_vec _
  rw [e]
  exact bits_in .or _
theorem two_pow_vec (t : Int) (h0 : 0 ≤ t) (h1 : t < 8) : BitVec.ofInt 64 (IntKind.u64.wrap (2 ^ t.toNat)) = BitVec.twoPow 64 t.toNat := by
  rcases (by omega : t = 0 ∨ t = 1 ∨ t = 2 ∨ t = 3 ∨ t = 4 ∨ t = 5 ∨ t = 6 ∨ t = 7) with rfl | rfl | rfl | rfl | rfl | rfl | rfl | rfl <;> decide
theorem ends_all {D : DS} {c : Int} (h : Plain D c) (hc : c ≤ 60) (t mask m' : Int) (h0 : 0 ≤ t) (h1 : t < 8) (hb : ∀ j : Nat, j < 64 → bitOf m' j = (bitOf mask j || decide (j = t.toNat))) (n : Int) : D.settled m' (-1) 0 n = D.settled mask t 512 n := by
  have l1 := h.ok.lf n
  have l2 := h.ok.ln n
  unfold DS.settled
  by_cases hm : n ∈ D.loose
  · have hj : D.loose.idxOf n < D.loose.length := List.idxOf_lt_length_of_mem hm
    have hlc := h.ok.lc
    have hcl := h.cl
    rw [if_pos hm, if_pos hm, if_neg (by omega), hb _ (by omega)]
    by_cases e : (D.loose.idxOf n : Int) = t
    · have e2 : D.loose.idxOf n = t.toNat := by omega
      rw [if_pos e, e2]
      have e3 : (min (max (512 : Int) 0) 512).toNat = 512 := by decide
      rw [e3, List.take_of_length_le (by omega), List.drop_of_length_le (by omega), List.append_nil]
      simp
    · have e2 : ¬ (D.loose.idxOf n = t.toNat) := by omega
      rw [if_neg e]
      simp [e2]
  · rw [if_neg hm, if_neg hm]
theorem ends_none {D : DS} {c : Int} (h : Plain D c) (hc : c ≤ 60) (t mask m' : Int) (h0 : 0 ≤ t) (h1 : t < 8) (hb : ∀ j : Nat, j < 64 → bitOf m' j = (bitOf mask j && !decide (j = t.toNat))) (n : Int) : D.settled m' (-1) 0 n = D.settled mask t (-3) n := by
  have l1 := h.ok.lf n
  have l2 := h.ok.ln n
  unfold DS.settled
  by_cases hm : n ∈ D.loose
  · have hj : D.loose.idxOf n < D.loose.length := List.idxOf_lt_length_of_mem hm
    have hlc := h.ok.lc
    have hcl := h.cl
    rw [if_pos hm, if_pos hm, if_neg (by omega), hb _ (by omega)]
    by_cases e : (D.loose.idxOf n : Int) = t
    · have e2 : D.loose.idxOf n = t.toNat := by omega
      rw [if_pos e, e2]
      have e3 : (min (max (-3 : Int) 0) 512).toNat = 0 := by decide
      rw [e3]
      simp
    · have e2 : ¬ (D.loose.idxOf n = t.toNat) := by omega
      rw [if_neg e]
      simp [e2]
  · rw [if_neg hm, if_neg hm]
theorem crash_nw {D : DS} (h : D.down = false) (mask torn bytes : Int) : (D.crash mask torn bytes).nw = D.settled mask torn bytes := by
  unfold DS.crash
  rw [if_neg (by rw [h]; simp)]
theorem ends_read {D : DS} {c : Int} (h : Plain D c) (m1 t1 y1 m2 t2 y2 : Int) (he : ∀ n, D.settled m2 t2 y2 n = D.settled m1 t1 y1 n) (i : Int) (h0 : 0 ≤ i) (h1 : i < 8) :
    ((D.crash m1 t1 y1).start).read i = (D.settled m1 t1 y1 i, 0) ∧ ((D.crash m2 t2 y2).start).read i = (D.settled m1 t1 y1 i, 0) := by
  have hb1 := (crash_up h.dn m1 t1 y1).2.2
  have hb2 := (crash_up h.dn m2 t2 y2).2.2
  rw [h.bl] at hb1 hb2
  have r1 := read_up (D := (D.crash m1 t1 y1).start) rfl hb1 i h0 h1
  have r2 := read_up (D := (D.crash m2 t2 y2).start) rfl hb2 i h0 h1
  rw [show (D.crash m1 t1 y1).start.nw = (D.crash m1 t1 y1).nw from rfl, crash_nw h.dn] at r1
  rw [show (D.crash m2 t2 y2).start.nw = (D.crash m2 t2 y2).nw from rfl, crash_nw h.dn, he] at r2
  exact ⟨r1, r2⟩

set_option maxHeartbeats 8000000 in
set_option maxRecDepth 100000 in
theorem ends_walk (w : World) (a : Option Addr) (len cap : Nat) (os : Nat → OD) (mask torn : Int) (whole : Bool) (hlen : len ≤ maxLen) (hos : OpsIn w a len os) (hm : 0 ≤ mask ∧ mask ≤ 18446744073709551615) :
    Calls Try.prog 8 #[.slice a len cap, .int .u64 mask, .int .i64 torn, .bool whole] w fun e w' => e = .returned (.bool true) ∧ Below w.heap.size w w' := by
  go_enter Try.func8, Try.ntmps8
  go_wp2_with fail
  refine (shown_calls _).mono ?_
  rintro e w0 ⟨rfl, b0⟩
  go_wp2_with fail
  refine (newQ _ 8 ⟨by omega, by omega⟩).mono ?_
  rintro e w1 ⟨rfl, h1, b1⟩
  generalize hp : w0.heap.size + 2 = p at *
  clear hp
  have B1 : Below w.heap.size w w1 := b0.trans (b1.mono b0.size)
  have hw0 := b0.size
  clear b1
  go_wp2_with fail
  go_loopw [11] (fun i wr => ∃ (k : Nat) (D : DS), k ≤ len ∧ k ≤ 30 ∧ i = .int .i64 (k : Int) ∧ DQ wr p D w0.heap.size ∧ Plain D k ∧ Below w.heap.size w wr)
    (fun i _ => len - (intOf i).toNat)
  case atStart => exact ⟨0, DS.new 8, Nat.zero_le _, Nat.zero_le _, rfl, h1, Plain.first, B1⟩
  case round =>
    obtain ⟨k, D, hk, hk30, rfl, hD, hPl, hBel⟩ := hrel
    clear h1 B1
    have hkb : (k : Int) < 1000 := by omega
    by_cases hk5 : k < len ∧ k < 30
    · obtain ⟨hk5, hk6⟩ := hk5
      have hki : (k : Int) < (len : Int) := by omega
      have hki2 : (k : Int) < 30 := by omega
      obtain ⟨b, off, rfl, hbl, hall⟩ : ∃ b off, a = some ⟨b, off, none⟩ ∧ b < w.heap.size ∧ ∀ i, i < len → OpAt w b (off + i * 7) (os i) ∧ (os i).In := by
        rcases hos with h0 | h0
        · omega
        · exact h0
      obtain ⟨hat, hin⟩ := hall k hk5
      have HS : Hid (∀ w' : World, Below w.heap.size w w' → w'.cell? ⟨b, off + k * 7 + 1, none⟩ = some (.int .i64 (os k).n) ∧ w'.cell? ⟨b, off + k * 7 + 2, none⟩ = some (.int .i64 (os k).c)) := fun w' hb => ⟨(hat.below hb hbl).2.1, (hat.below hb hbl).2.2.1⟩
      clear hat hall hos
      generalize (os k).n = on at *
      generalize (os k).c = oc at *
      have h7n := and7 on
      obtain ⟨nm, hnm⟩ : ∃ nm, nm = on % 8 := ⟨_, rfl⟩
      rw [← hnm] at h7n
      have hn0 : 0 ≤ nm := by omega
      have hn1 : nm < 8 := by omega
      clear hnm
      have hcl := hPl.cl
      have HC : Hid ((cont oc).length = 512) := cont_length oc
      obtain ⟨e0, hPl'⟩ := hPl.write nm (cont oc) hn0 hn1 HC.out
      go_wp2_with fail
      go_region_held3 (fun w' => w'.cell? ⟨b, off + k * 7 + 1, none⟩ = some (.int .i64 on) ∧ w'.cell? ⟨b, off + k * 7 + 2, none⟩ = some (.int .i64 oc)) (first | exact HS.out _ ⟨hBel.os, hBel.tape, hBel.output, hBel.size, hBel.block⟩ | exact d5 | exact d6 | fail)
        (first
          | (go_at_call 22; refine (content_calls _ oc).mono ?_; rintro e w5 ⟨rfl, o5, b5⟩; have B5 : Below wr.heap.size wr w5 := ⟨b5.os, b5.tape, b5.output, b5.size, b5.block⟩; have W5 := hBel.trans (B5.mono hBel.size); have d5 := HS.out w5 W5; have hW := writeQ wr w5 p D w0.heap.size nm _ (cont oc) hD B5 (made_fresh o5) (by omega) (by rw [HC.out]; exact Nat.le_refl _) ⟨by omega, by omega⟩)
          | (go_at_call 21; refine hW.mono ?_; rintro e w6 ⟨rfl, h6, b6⟩; have W6 := W5.trans (b6.mono hw0); have d6 := HS.out w6 W6))
      all_goals
        go_wp2
        go_roundw
        case rel => exact ⟨k + 1, _, by omega, by omega, by go_num, h6, ⟨hPl'.ok, hPl'.bl, hPl'.dn, hPl'.ar, by have := hPl'.cl; omega⟩, W6⟩
        case measure => simp [intOf]; omega
    · have hcl := hPl.cl
      have hc0 := hPl.ok.c0
      have h7 := and7 torn
      obtain ⟨t, ht⟩ : ∃ t, t = torn % 8 := ⟨_, rfl⟩
      rw [← ht] at h7
      have ht0 : 0 ≤ t := by omega
      have ht1 : t < 8 := by omega
      clear ht
      by_cases hkl : k < len
      · have hki : (k : Int) < (len : Int) := by omega
        have hkj : ¬ ((k : Int) < 30) := by omega
        go_wp2_with fail
        refine (clone2 _ p _ _ hD (by omega)).mono ?_
        rintro e w3 ⟨q, rfl, h3, b3⟩
        cases whole with
        | true =>
          go_wp2_with fail
          refine (crash2 _ p q _ _ _ mask t 512 h3 (by omega) hm ⟨by omega, by omega⟩ ⟨by omega, by omega⟩).mono ?_
          rintro e w4 ⟨rfl, h4, b4⟩
          go_wp2_with fail
          have hmi := or_in mask (IntKind.u64.wrap (2 ^ t.toNat))
          have hse : ∀ n, D.settled (bits .or .u64 mask (IntKind.u64.wrap (2 ^ t.toNat))) (-1) 0 n = D.settled mask t 512 n := ends_all hPl (by omega) t mask _ ht0 ht1 (fun j hj => or_bit mask _ t.toNat j hm.1 hm.2 (by omega) hj (two_pow_vec t ht0 ht1))
          have hmi' := hmi
          generalize bits .or .u64 mask (IntKind.u64.wrap (2 ^ t.toNat)) = m2 at *
          refine (crash2 _ q p _ _ _ m2 (-1) 0 h4.swap (by omega) hmi' ⟨by omega, by omega⟩ ⟨by omega, by omega⟩).mono ?_
          rintro e w5 ⟨rfl, h5, b5⟩
          go_wp2_with fail
          refine (start2 _ p q _ _ _ h5.swap).mono ?_
          rintro e w12 ⟨rfl, h12, b12⟩
          go_wp2_with fail
          refine (start2 _ q p _ _ _ h12.swap).mono ?_
          rintro e w13 ⟨rfl, h13, b13⟩
          have hF := h13.swap
          have W3 := hBel.trans (b3.mono hBel.size)
          have W13 : Below w.heap.size w w13 := (((W3.trans (b4.mono hw0)).trans (b5.mono hw0)).trans (b12.mono hw0)).trans (b13.mono hw0)
          have HRD : Hid (∀ i : Int, 0 ≤ i → i < 8 → ((D.crash mask t 512).start).read i = (D.settled mask t 512 i, 0) ∧ ((D.crash m2 (-1) 0).start).read i = (D.settled mask t 512 i, 0)) := fun i h0 h1 => ends_read hPl mask t 512 m2 (-1) 0 hse i h0 h1
          clear h3 h4 h5 h12 h13 b3 b4 b5 b12 b13 W3 hD hBel hse
          generalize (D.crash mask t 512).start = A at *
          generalize (D.crash m2 (-1) 0).start = Bd at *
          generalize D.settled mask t 512 = N at *
          clear hPl
          go_wp2_with fail
          go_loopw [13] (fun i wr => ∃ (k : Nat), k ≤ 8 ∧ i = .int .i64 (k : Int) ∧ D2 wr p A q Bd w0.heap.size ∧ Below w.heap.size w wr)
            (fun i _ => 8 - (intOf i).toNat)
          case atStart => exact ⟨0, Nat.zero_le _, rfl, hF, W13⟩
          case round =>
            obtain ⟨k, hk, rfl, hP, hBl⟩ := hrel
            clear hF W13
            by_cases hk8 : k < 8
            · have hk9 : (k : Int) < 8 := by omega
              obtain ⟨R1, R2⟩ := HRD.out (k : Int) (by omega) hk9
              have r1 := readQ wr p A w0.heap.size k hP.one ⟨by omega, by omega⟩
              rw [R1] at r1
              go_wp2_with fail
              refine r1.mono ?_
              rintro e x1 ⟨sx, rfl, y1, c1⟩
              have hP1 := hP.below c1 (Nat.le_refl _)
              have r2 := readQ x1 q Bd w0.heap.size k hP1.two ⟨by omega, by omega⟩
              rw [R2] at r2
              go_wp2_with fail
              refine r2.mono ?_
              rintro e x2 ⟨sy, rfl, y2, c2⟩
              have hP2 := hP1.below c2 (Nat.le_refl _)
              have k1 := conv_got (y1.later c2 (Nat.le_refl _))
              have k2 := conv_got y2
              have X1 := hBl.trans (c1.mono hBl.size)
              have X2 := X1.trans (c2.mono X1.size)
              clear r1 r2 R1 R2
              go_wp2
              go_roundw
              case rel => exact ⟨k + 1, by omega, by go_num, hP2, X2⟩
              case measure => simp [intOf]; omega
            · have ek : k = 8 := by omega
              subst ek
              go_wp2
              go_ret
              exact ⟨rfl, hBl⟩
        | false =>
          go_wp2_with fail
          refine (crash2 _ p q _ _ _ mask t (-3) h3 (by omega) hm ⟨by omega, by omega⟩ ⟨by omega, by omega⟩).mono ?_
          rintro e w4 ⟨rfl, h4, b4⟩
          go_wp2_with fail
          have hmi := andnot_in mask (IntKind.u64.wrap (2 ^ t.toNat))
          have hse : ∀ n, D.settled (bits .andNot .u64 mask (IntKind.u64.wrap (2 ^ t.toNat))) (-1) 0 n = D.settled mask t (-3) n := ends_none hPl (by omega) t mask _ ht0 ht1 (fun j hj => andnot_bit mask _ t.toNat j hm.1 hm.2 (by omega) hj (two_pow_vec t ht0 ht1))
          have hmi' := hmi
          generalize bits .andNot .u64 mask (IntKind.u64.wrap (2 ^ t.toNat)) = m2 at *
          refine (crash2 _ q p _ _ _ m2 (-1) 0 h4.swap (by omega) hmi' ⟨by omega, by omega⟩ ⟨by omega, by omega⟩).mono ?_
          rintro e w5 ⟨rfl, h5, b5⟩
          go_wp2_with fail
          refine (start2 _ p q _ _ _ h5.swap).mono ?_
          rintro e w12 ⟨rfl, h12, b12⟩
          go_wp2_with fail
          refine (start2 _ q p _ _ _ h12.swap).mono ?_
          rintro e w13 ⟨rfl, h13, b13⟩
          have hF := h13.swap
          have W3 := hBel.trans (b3.mono hBel.size)
          have W13 : Below w.heap.size w w13 := (((W3.trans (b4.mono hw0)).trans (b5.mono hw0)).trans (b12.mono hw0)).trans (b13.mono hw0)
          have HRD : Hid (∀ i : Int, 0 ≤ i → i < 8 → ((D.crash mask t (-3)).start).read i = (D.settled mask t (-3) i, 0) ∧ ((D.crash m2 (-1) 0).start).read i = (D.settled mask t (-3) i, 0)) := fun i h0 h1 => ends_read hPl mask t (-3) m2 (-1) 0 hse i h0 h1
          clear h3 h4 h5 h12 h13 b3 b4 b5 b12 b13 W3 hD hBel hse
          generalize (D.crash mask t (-3)).start = A at *
          generalize (D.crash m2 (-1) 0).start = Bd at *
          generalize D.settled mask t (-3) = N at *
          clear hPl
          go_wp2_with fail
          go_loopw [13] (fun i wr => ∃ (k : Nat), k ≤ 8 ∧ i = .int .i64 (k : Int) ∧ D2 wr p A q Bd w0.heap.size ∧ Below w.heap.size w wr)
            (fun i _ => 8 - (intOf i).toNat)
          case atStart => exact ⟨0, Nat.zero_le _, rfl, hF, W13⟩
          case round =>
            obtain ⟨k, hk, rfl, hP, hBl⟩ := hrel
            clear hF W13
            by_cases hk8 : k < 8
            · have hk9 : (k : Int) < 8 := by omega
              obtain ⟨R1, R2⟩ := HRD.out (k : Int) (by omega) hk9
              have r1 := readQ wr p A w0.heap.size k hP.one ⟨by omega, by omega⟩
              rw [R1] at r1
              go_wp2_with fail
              refine r1.mono ?_
              rintro e x1 ⟨sx, rfl, y1, c1⟩
              have hP1 := hP.below c1 (Nat.le_refl _)
              have r2 := readQ x1 q Bd w0.heap.size k hP1.two ⟨by omega, by omega⟩
              rw [R2] at r2
              go_wp2_with fail
              refine r2.mono ?_
              rintro e x2 ⟨sy, rfl, y2, c2⟩
              have hP2 := hP1.below c2 (Nat.le_refl _)
              have k1 := conv_got (y1.later c2 (Nat.le_refl _))
              have k2 := conv_got y2
              have X1 := hBl.trans (c1.mono hBl.size)
              have X2 := X1.trans (c2.mono X1.size)
              clear r1 r2 R1 R2
              go_wp2
              go_roundw
              case rel => exact ⟨k + 1, by omega, by go_num, hP2, X2⟩
              case measure => simp [intOf]; omega
            · have ek : k = 8 := by omega
              subst ek
              go_wp2
              go_ret
              exact ⟨rfl, hBl⟩
      · have hki : ¬ ((k : Int) < (len : Int)) := by omega
        go_wp2_with fail
        refine (clone2 _ p _ _ hD (by omega)).mono ?_
        rintro e w3 ⟨q, rfl, h3, b3⟩
        cases whole with
        | true =>
          go_wp2_with fail
          refine (crash2 _ p q _ _ _ mask t 512 h3 (by omega) hm ⟨by omega, by omega⟩ ⟨by omega, by omega⟩).mono ?_
          rintro e w4 ⟨rfl, h4, b4⟩
          go_wp2_with fail
          have hmi := or_in mask (IntKind.u64.wrap (2 ^ t.toNat))
          have hse : ∀ n, D.settled (bits .or .u64 mask (IntKind.u64.wrap (2 ^ t.toNat))) (-1) 0 n = D.settled mask t 512 n := ends_all hPl (by omega) t mask _ ht0 ht1 (fun j hj => or_bit mask _ t.toNat j hm.1 hm.2 (by omega) hj (two_pow_vec t ht0 ht1))
          have hmi' := hmi
          generalize bits .or .u64 mask (IntKind.u64.wrap (2 ^ t.toNat)) = m2 at *
          refine (crash2 _ q p _ _ _ m2 (-1) 0 h4.swap (by omega) hmi' ⟨by omega, by omega⟩ ⟨by omega, by omega⟩).mono ?_
          rintro e w5 ⟨rfl, h5, b5⟩
          go_wp2_with fail
          refine (start2 _ p q _ _ _ h5.swap).mono ?_
          rintro e w12 ⟨rfl, h12, b12⟩
          go_wp2_with fail
          refine (start2 _ q p _ _ _ h12.swap).mono ?_
          rintro e w13 ⟨rfl, h13, b13⟩
          have hF := h13.swap
          have W3 := hBel.trans (b3.mono hBel.size)
          have W13 : Below w.heap.size w w13 := (((W3.trans (b4.mono hw0)).trans (b5.mono hw0)).trans (b12.mono hw0)).trans (b13.mono hw0)
          have HRD : Hid (∀ i : Int, 0 ≤ i → i < 8 → ((D.crash mask t 512).start).read i = (D.settled mask t 512 i, 0) ∧ ((D.crash m2 (-1) 0).start).read i = (D.settled mask t 512 i, 0)) := fun i h0 h1 => ends_read hPl mask t 512 m2 (-1) 0 hse i h0 h1
          clear h3 h4 h5 h12 h13 b3 b4 b5 b12 b13 W3 hD hBel hse
          generalize (D.crash mask t 512).start = A at *
          generalize (D.crash m2 (-1) 0).start = Bd at *
          generalize D.settled mask t 512 = N at *
          clear hPl
          go_wp2_with fail
          go_loopw [13] (fun i wr => ∃ (k : Nat), k ≤ 8 ∧ i = .int .i64 (k : Int) ∧ D2 wr p A q Bd w0.heap.size ∧ Below w.heap.size w wr)
            (fun i _ => 8 - (intOf i).toNat)
          case atStart => exact ⟨0, Nat.zero_le _, rfl, hF, W13⟩
          case round =>
            obtain ⟨k, hk, rfl, hP, hBl⟩ := hrel
            clear hF W13
            by_cases hk8 : k < 8
            · have hk9 : (k : Int) < 8 := by omega
              obtain ⟨R1, R2⟩ := HRD.out (k : Int) (by omega) hk9
              have r1 := readQ wr p A w0.heap.size k hP.one ⟨by omega, by omega⟩
              rw [R1] at r1
              go_wp2_with fail
              refine r1.mono ?_
              rintro e x1 ⟨sx, rfl, y1, c1⟩
              have hP1 := hP.below c1 (Nat.le_refl _)
              have r2 := readQ x1 q Bd w0.heap.size k hP1.two ⟨by omega, by omega⟩
              rw [R2] at r2
              go_wp2_with fail
              refine r2.mono ?_
              rintro e x2 ⟨sy, rfl, y2, c2⟩
              have hP2 := hP1.below c2 (Nat.le_refl _)
              have k1 := conv_got (y1.later c2 (Nat.le_refl _))
              have k2 := conv_got y2
              have X1 := hBl.trans (c1.mono hBl.size)
              have X2 := X1.trans (c2.mono X1.size)
              clear r1 r2 R1 R2
              go_wp2
              go_roundw
              case rel => exact ⟨k + 1, by omega, by go_num, hP2, X2⟩
              case measure => simp [intOf]; omega
            · have ek : k = 8 := by omega
              subst ek
              go_wp2
              go_ret
              exact ⟨rfl, hBl⟩
        | false =>
          go_wp2_with fail
          refine (crash2 _ p q _ _ _ mask t (-3) h3 (by omega) hm ⟨by omega, by omega⟩ ⟨by omega, by omega⟩).mono ?_
          rintro e w4 ⟨rfl, h4, b4⟩
          go_wp2_with fail
          have hmi := andnot_in mask (IntKind.u64.wrap (2 ^ t.toNat))
          have hse : ∀ n, D.settled (bits .andNot .u64 mask (IntKind.u64.wrap (2 ^ t.toNat))) (-1) 0 n = D.settled mask t (-3) n := ends_none hPl (by omega) t mask _ ht0 ht1 (fun j hj => andnot_bit mask _ t.toNat j hm.1 hm.2 (by omega) hj (two_pow_vec t ht0 ht1))
          have hmi' := hmi
          generalize bits .andNot .u64 mask (IntKind.u64.wrap (2 ^ t.toNat)) = m2 at *
          refine (crash2 _ q p _ _ _ m2 (-1) 0 h4.swap (by omega) hmi' ⟨by omega, by omega⟩ ⟨by omega, by omega⟩).mono ?_
          rintro e w5 ⟨rfl, h5, b5⟩
          go_wp2_with fail
          refine (start2 _ p q _ _ _ h5.swap).mono ?_
          rintro e w12 ⟨rfl, h12, b12⟩
          go_wp2_with fail
          refine (start2 _ q p _ _ _ h12.swap).mono ?_
          rintro e w13 ⟨rfl, h13, b13⟩
          have hF := h13.swap
          have W3 := hBel.trans (b3.mono hBel.size)
          have W13 : Below w.heap.size w w13 := (((W3.trans (b4.mono hw0)).trans (b5.mono hw0)).trans (b12.mono hw0)).trans (b13.mono hw0)
          have HRD : Hid (∀ i : Int, 0 ≤ i → i < 8 → ((D.crash mask t (-3)).start).read i = (D.settled mask t (-3) i, 0) ∧ ((D.crash m2 (-1) 0).start).read i = (D.settled mask t (-3) i, 0)) := fun i h0 h1 => ends_read hPl mask t (-3) m2 (-1) 0 hse i h0 h1
          clear h3 h4 h5 h12 h13 b3 b4 b5 b12 b13 W3 hD hBel hse
          generalize (D.crash mask t (-3)).start = A at *
          generalize (D.crash m2 (-1) 0).start = Bd at *
          generalize D.settled mask t (-3) = N at *
          clear hPl
          go_wp2_with fail
          go_loopw [13] (fun i wr => ∃ (k : Nat), k ≤ 8 ∧ i = .int .i64 (k : Int) ∧ D2 wr p A q Bd w0.heap.size ∧ Below w.heap.size w wr)
            (fun i _ => 8 - (intOf i).toNat)
          case atStart => exact ⟨0, Nat.zero_le _, rfl, hF, W13⟩
          case round =>
            obtain ⟨k, hk, rfl, hP, hBl⟩ := hrel
            clear hF W13
            by_cases hk8 : k < 8
            · have hk9 : (k : Int) < 8 := by omega
              obtain ⟨R1, R2⟩ := HRD.out (k : Int) (by omega) hk9
              have r1 := readQ wr p A w0.heap.size k hP.one ⟨by omega, by omega⟩
              rw [R1] at r1
              go_wp2_with fail
              refine r1.mono ?_
              rintro e x1 ⟨sx, rfl, y1, c1⟩
              have hP1 := hP.below c1 (Nat.le_refl _)
              have r2 := readQ x1 q Bd w0.heap.size k hP1.two ⟨by omega, by omega⟩
              rw [R2] at r2
              go_wp2_with fail
              refine r2.mono ?_
              rintro e x2 ⟨sy, rfl, y2, c2⟩
              have hP2 := hP1.below c2 (Nat.le_refl _)
              have k1 := conv_got (y1.later c2 (Nat.le_refl _))
              have k2 := conv_got y2
              have X1 := hBl.trans (c1.mono hBl.size)
              have X2 := X1.trans (c2.mono X1.size)
              clear r1 r2 R1 R2
              go_wp2
              go_roundw
              case rel => exact ⟨k + 1, by omega, by go_num, hP2, X2⟩
              case measure => simp [intOf]; omega
            · have ek : k = 8 := by omega
              subst ek
              go_wp2
              go_ret
              exact ⟨rfl, hBl⟩
end Go.Proofs.Ytmemhckkfhlnmaa
