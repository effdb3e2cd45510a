/- RefsPlays' walk: from the contracts of the landed refs and of the document's. -/
import Derived.Test.YtpgepejleklpfaaRpH
import Derived.Test.YtpgepejleklpfaaRpO
namespace Go.Proofs.Ytpgepejleklpfaa
set_option linter.unusedVariables false
open Go.RowKit
attribute [local go_sem ↓] Go.wp_at_zero Go.wp_at_succ

/-- Two pairs: the one that goes on, and the one that stays. -/
structure Two (w : World) (p b q : Nat) (lv : Value) (K : Nat) (S : RfS) (p2 b2 q2 : Nat) (lv2 : Value) (S2 : RfS) (B : Nat) : Prop where
  a : Pr2 w p b q lv B K S
  o : Pr2 w p2 b2 q2 lv2 B K S2
  far : ∀ k, k = p2 ∨ k = b2 ∨ k = q2 ∨ lv2.ownBlock = some k → k ≠ p ∧ k ≠ b ∧ k ≠ q
theorem Pr2.mono {w : World} {p b q B K K' : Nat} {lv : Value} {S : RfS} (h : Pr2 w p b q lv B K S) (hk : K ≤ K') : Pr2 w p b q lv B K' S := ⟨⟨h.r.rf.mono hk, h.r.bp, h.r.bb⟩, h.d, h.qp, h.qb, h.lf, h.bq⟩
theorem Two.below {w w' : World} {p b q p2 b2 q2 K B C : Nat} {lv lv2 : Value} {S S2 : RfS} (h : Two w p b q lv K S p2 b2 q2 lv2 S2 B) (hb : Below C w w') (hC : w.heap.size ≤ C) : Two w' p b q lv K S p2 b2 q2 lv2 S2 B := ⟨h.a.below hb hC, h.o.below hb hC, h.far⟩
theorem Two.step {w w' : World} {p b q p2 b2 q2 K B : Nat} {lv lv2 : Value} {S S2 S' : RfS} (h : Two w p b q lv K S p2 b2 q2 lv2 S2 B) (g : PGo w p b q lv B K S' w') : ∃ lv', Two w' p b q lv' (K + 1) S' p2 b2 q2 lv2 S2 B ∧ Below B w w' := by
  obtain ⟨lv', h1, h2, h3, h4⟩ := g
  exact ⟨lv', ⟨h1, (h.o.kept fun k hk => h4 k (h.o.lts hk) (h.far k hk).1 (h.far k hk).2.1 (h.far k hk).2.2).mono (Nat.le_succ _), h.far⟩, h3⟩
/-- The one that went on stays, and its clone goes on. -/
theorem Two.clone {w w1 w2 : World} {p b q p2 b2 q2 q3 K B : Nat} {lv lv2 lv3 : Value} {S S2 : RfS} (h : Two w p b q lv K S p2 b2 q2 lv2 S2 B) (hq3 : w.heap.size ≤ q3) (d3 : RD w1 q3 lv3 S.blocks S.L w.heap.size) (b1 : Below w.heap.size w w1)
    (r2 : RQ w2 w1.heap.size (w1.heap.size + 1) w1.heap.size K S) (b2' : Below w1.heap.size w1 w2) : Two w2 w1.heap.size (w1.heap.size + 1) q lv K S p b q3 lv3 S B ∧ Below B w w2 := by
  have hB := h.a.size
  have hs1 := b1.size
  have hpb := h.a.r.lt
  have hq := h.a.d.lt
  have d3' := d3.below b2' (Nat.le_refl _)
  have hq3l := d3.lt
  have ha1 := h.a.below b1 (Nat.le_refl _)
  have ha2 := ha1.below b2' (Nat.le_refl _)
  have d4 : RD w2 q3 lv3 S.blocks S.L B := ⟨d3'.blk, own_lower2 d3'.row hB, d3'.far⟩
  refine ⟨⟨⟨⟨r2.rf, by omega, by omega⟩, ha2.d, by omega, by omega, fun k hk => ?_, h.a.bq⟩, ⟨ha2.r, d4, by omega, by omega, fun k hk => ?_, by omega⟩, fun k hk => ?_⟩, (b1.mono hB).trans (b2'.mono (by omega))⟩
  · have := (h.a.d.row.lt k hk).2; exact ⟨by omega, by omega⟩
  · have h3 := d3.row.lt k hk; exact ⟨by omega, by omega⟩
  · rcases hk with e | e | e | e
    · rw [e]; exact ⟨by omega, by omega, h.a.qp.symm⟩
    · rw [e]; exact ⟨by omega, by omega, h.a.qb.symm⟩
    · rw [e]; exact ⟨by omega, by omega, by omega⟩
    · have h3 := d3.row.lt k e; exact ⟨by omega, by omega, by omega⟩
theorem same_comm (S T : RfS) : S.same T = T.same S := by
  unfold RfS.same
  by_cases h1 : S.blocks = T.blocks <;> by_cases h2 : S.L = T.L
  · simp [h1, h2]
  · have h3 : ¬ T.L = S.L := fun e => h2 e.symm
    simp [h2, h3]
  · have h3 : ¬ T.blocks = S.blocks := fun e => h1 e.symm
    simp [h1, h3]
  · have h3 : ¬ T.blocks = S.blocks := fun e => h1 e.symm
    simp [h1, h3]
theorem same_self (S : RfS) : S.same S = true := by unfold RfS.same; simp

set_option maxHeartbeats 8000000 in
set_option maxRecDepth 100000 in
theorem plays6_walk (w : World) (bl : Int) (hbl : I64 bl) (a : Option Addr) (len cap : Nat) (l : Nat → Int × Int) (hl : ArgO w a len cap l) : Calls Try.prog 3 #[.int .i64 bl, .slice a len cap] w fun e w' => e = .returned (.bool true) ∧ Below w.heap.size w w' := by
  have HA : Hid (ArgO w a len cap l) := hl
  have hlen := hl.1
  have hlc := hl.2.1
  unfold maxLen at hlen
  clear hl
  go_enter Try.func3, Try.ntmps3
  go_upto_region 3 with (first
    | (go_at_call 8; refine (shown_calls _).mono ?_; rintro e w0 ⟨rfl, b0⟩)
    | (go_at_call 9; refine (newQ _ bl hbl).mono ?_; rintro e w1 ⟨rfl, h1, b1⟩))
  go_upto_region 6 with (first
    | (go_at_call 10; refine (rnew_calls _ bl).mono ?_; rintro e w2 ⟨rfl, d2, b2⟩))
  have s0 := b0.size
  have s1 := b1.size
  have s2 := b2.size
  have hlt1 := h1.lt
  have HP : Hid (Pr2 w2 (w0.heap.size + 1) w0.heap.size w1.heap.size (.slice none 0 0) w0.heap.size 0 (RfS.new bl)) :=
    ⟨h1.below b2 (Nat.le_refl _), ⟨d2.blk, own_lower2 d2.row s1, d2.far⟩, by omega, by omega, (fun k hk => by cases hk), s1⟩
  have HBW : Hid (Below w.heap.size w w2) := (b0.trans (b1.mono s0)).trans (b2.mono (by omega))
  have HS0 : Hid (w.heap.size ≤ w0.heap.size) := s0
  clear h1 b1 d2 b2 b0 s0 s1 s2 hlt1
  generalize RfS.new bl = S0 at *
  generalize w0.heap.size + 1 = p at *
  generalize w1.heap.size = q at *
  generalize w0.heap.size = b at *
  go_upto_region 8 with (first
    | (go_at_call 11; refine (cloneQ _ p _ _ _ _ HP.out.r).mono ?_; rintro e w3 ⟨rfl, h3, b3⟩; have HP3 : Hid (Pr2 w3 p b q (.slice none 0 0) b 0 S0) := HP.out.below b3 (Nat.le_refl _); have HLn : Hid (S0.L.length ≤ 0) := HP3.out.len)
    | (go_at_call 12; refine (rclone_calls _ q (.slice none 0 0) S0.blocks S0.L b HP3.out.d (by have := HLn.out; omega)).mono ?_; rintro e w4 ⟨q2, lv2, rfl, hq2, d4, b4⟩))
  have s3 := b3.size
  have s4 := b4.size
  have hb0 := HP.out.size
  have hlt := HP.out.r.lt
  have hqlt := HP.out.d.lt
  have hlt3 := h3.lt
  have hd4 := d4.lt
  have HT : Hid (Two w4 p b q (.slice none 0 0) 0 S0 w2.heap.size (w2.heap.size + 1) q2 lv2 S0 b) := by
    refine ⟨HP3.out.below b4 (Nat.le_refl _), ⟨⟨h3.rf.below b4 (Nat.le_refl _), by omega, by omega⟩, ⟨d4.blk, own_lower2 d4.row (by omega), d4.far⟩, by omega, by omega, fun k hk => by have := (d4.row.lt k hk).1; exact ⟨by omega, by omega⟩, by omega⟩, fun k hk => ?_⟩
    rcases hk with e | e | e | e
    · rw [e]; exact ⟨by omega, by omega, by omega⟩
    · rw [e]; exact ⟨by omega, by omega, by omega⟩
    · rw [e]; exact ⟨by omega, by omega, by omega⟩
    · have := (d4.row.lt k e).1; exact ⟨by omega, by omega, by omega⟩
  have HB4 : Hid (Below w.heap.size w w4) := (HBW.out.trans (b3.mono HBW.out.size)).trans (b4.mono (by have := HBW.out.size; omega))
  clear h3 b3 d4 b4 HP HP3 HBW s3 s4 hb0 hlt hqlt hlt3 hd4 hq2 HLn
  generalize w2.heap.size + 1 = b2 at *
  generalize w2.heap.size = p2 at *
  go_wp2_with fail
  go_loopg [6, 8, 9, 10] (min len 200) (fun g rv ov av i wr => ∃ (k p b' : Nat) (lv : Value) (S : RfS) (p2 b2 q2 : Nat) (lv2 : Value) (S2 : RfS), k + g = min len 200 ∧ i = .int .i64 (k : Int) ∧ rv = .pointer (some ⟨p, 0, none⟩) ∧ ov = .pointer (some ⟨p2, 0, none⟩) ∧ av = .pointer (some ⟨q2, 0, none⟩) ∧ Hid (Two wr p b' q lv k S p2 b2 q2 lv2 S2 b ∧ Below w.heap.size w wr))
  case atStart => exact ⟨0, p, b, _, S0, p2, b2, q2, lv2, S0, by omega, rfl, rfl, rfl, rfl, ⟨HT.out, HB4.out⟩⟩
  case round =>
    clear HT HB4
    obtain ⟨k, p, b', lv, S, p2, b2, q2, lv2, S2, hk, rfl, rfl, rfl, rfl, HI⟩ := hrel
    cases gk with
    | zero =>
      have HF := fun (hk9 : k ≤ 900) => lsame_calls wr p2 b2 q2 lv2 b k S2 2 HI.out.1.o hk9 ⟨by omega, by omega⟩
      have hF := HF (by omega)
      clear HF
      rcases (show k = len ∨ ((k : Int) < (len : Int) ∧ k = 200) by omega) with hke | ⟨hk1, hk2⟩
      · subst hke
        go_wp2_with (first | (go_at_call 14; refine hF.mono ?_; rintro e w5 ⟨rfl, b5⟩))
        go_ret
        exact ⟨by simp, HI.out.2.trans (b5.mono HI.out.2.size)⟩
      · have hk3 : (200 : Int) ≤ (k : Int) := by omega
        clear hk2
        go_wp2_with (first | (go_at_call 14; refine hF.mono ?_; rintro e w5 ⟨rfl, b5⟩))
        go_ret
        exact ⟨by simp, HI.out.2.trans (b5.mono HI.out.2.size)⟩
    | succ g =>
      have hk1 : (k : Int) < (len : Int) := by omega
      have hk2 : (k : Int) < 200 := by omega
      have hk9 : k ≤ 900 := by omega
      obtain ⟨ab, off, rfl, hab, hc1, hc2⟩ := HA.out.cell HI.out.2 (i := k) (by omega)
      have HX : Hid (I64 (l k).2) := HA.out.2.2.1 k (by omega)
      have HCell : Hid (∀ w', Below w.heap.size w w' → w'.cell? ⟨ab, off + k * 2, none⟩ = some (.int .i64 (l k).1) ∧ w'.cell? ⟨ab, off + k * 2 + 1, none⟩ = some (.int .i64 (l k).2)) := fun w' hb => by
        obtain ⟨ab', off', e', _, h1, h2⟩ := HA.out.cell hb (i := k) (by omega)
        cases e'
        exact ⟨h1, h2⟩
      generalize (l k).1 = kd at *
      generalize (l k).2 = n at *
      go_upto_if 40 with fail
      go_cut [6, 8, 9] (fun rv ov av wc => ∃ (p b' : Nat) (lv : Value) (S : RfS) (p2 b2 q2 : Nat) (lv2 : Value) (S2 : RfS), rv = .pointer (some ⟨p, 0, none⟩) ∧ ov = .pointer (some ⟨p2, 0, none⟩) ∧ av = .pointer (some ⟨q2, 0, none⟩) ∧ Hid (Two wc p b' q lv (k + 1) S p2 b2 q2 lv2 S2 b ∧ Below w.heap.size w wc))
      case first =>
        by_cases h4 : kd = 4
        · subst h4
          have hL : S.L.length ≤ 1000 := by have := HI.out.1.a.len; omega
          go_wp2_with (first
            | (go_at_call 12; refine (rclone_calls _ q lv S.blocks S.L b HI.out.1.a.d hL).mono ?_; rintro e w5 ⟨q3, lv3, rfl, hq3, d5, b5⟩; have HA5 : Hid (Pr2 w5 p b' q lv b k S) := HI.out.1.a.below b5 (Nat.le_refl _))
            | (go_at_call 11; refine (cloneQ _ p _ _ _ _ HA5.out.r).mono ?_; rintro e w6 ⟨rfl, h6, b6⟩))
          have hT := HI.out.1.clone hq3 d5 b5 h6 b6
          have HT : Hid (Two w6 w5.heap.size (w5.heap.size + 1) q lv (k + 1) S p b' q3 lv3 S b ∧ Below w.heap.size w w6) := ⟨⟨hT.1.a.mono (Nat.le_succ _), hT.1.o.mono (Nat.le_succ _), hT.1.far⟩, HI.out.2.trans (hT.2.mono HS0.out)⟩
          clear hT d5 b5 h6 b6
          go_meet
          case rel => exact ⟨_, _, _, _, _, _, _, _, _, rfl, rfl, rfl, HT⟩
        · have h5 : (kd == 4) = false := by simpa using h4
          clear h4
          go_wp2_with (first
            | (go_at_call 13; refine (does_calls _ p b' q lv b k S kd n HI.out.1.a hk9 HX.out).mono ?_; rintro e w5 ⟨rfl, g5⟩))
          obtain ⟨lv', hT, hB5⟩ := HI.out.1.step g5
          have HT : Hid (Two w5 p b' q lv' (k + 1) (S.step kd n) p2 b2 q2 lv2 S2 b ∧ Below w.heap.size w w5) := ⟨hT, HI.out.2.trans (hB5.mono HS0.out)⟩
          clear hT hB5 g5
          go_meet
          case rel => exact ⟨_, _, _, _, _, _, _, _, _, rfl, rfl, rfl, HT⟩
      case rest =>
        clear HI hc1 hc2
        obtain ⟨p, b', lv, S, p2, b2, q2, lv2, S2, rfl, rfl, rfl, HI⟩ := hcut
        obtain ⟨hc1, hc2⟩ := HCell.out _ HI.out.2
        go_upto_region 21 with (first
          | (go_at_call 14; refine (lsame_calls _ p b' q lv b (k + 1) S n HI.out.1.a (by omega) HX.out).mono ?_; rintro e w6 ⟨rfl, b6⟩))
        have HI6 : Hid (Two w6 p b' q lv (k + 1) S p2 b2 q2 lv2 S2 b ∧ Below w.heap.size w w6) := ⟨HI.out.1.below b6 (Nat.le_refl _), HI.out.2.trans (b6.mono HI.out.2.size)⟩
        clear b6 HI hc1 hc2
        have hrs : Calls Try.prog 15 #[.pointer (some ⟨q, 0, none⟩), .pointer (some ⟨q2, 0, none⟩)] w6 fun e w' => e = .returned (.bool (S.same S2)) ∧ ∃ n, w' = w6.drewN n := rsame_calls _ q q2 lv lv2 S.blocks S2.blocks S.L S2.L b b HI6.out.1.a.d HI6.out.1.o.d
        obtain ⟨sm, hsm⟩ : ∃ sm, S.same S2 = sm := ⟨_, rfl⟩
        rw [hsm] at hrs
        have HSM : Hid (S.same S2 = sm) := hsm
        have HSC : Hid (S2.same S = sm) := by show _ = _; rw [same_comm, hsm]
        clear hsm
        go_upto_region 22 with (first
          | (go_at_call 15; refine hrs.mono ?_; rintro e w7 ⟨rfl, n7, rfl⟩))
        clear hrs
        have HI7 : Hid (Two (w6.drewN n7) p b' q lv (k + 1) S p2 b2 q2 lv2 S2 b ∧ Below w.heap.size w (w6.drewN n7)) := ⟨HI6.out.1.below (below_drewN0 w6 n7) (Nat.le_refl _), below_drewN HI6.out.2 n7⟩
        have HSS : Hid (S.same S = true) := same_self S
        generalize w6.drewN n7 = w7 at *
        clear HI6
        go_wp2_with fail
        refine (sameQ _ p b' b (k + 1) p2 b2 b (k + 1) S S2 HI7.out.1.a.r HI7.out.1.o.r).mono ?_
        rintro e w8 ⟨rfl, b8⟩
        rw [HSM.out]
        have HI8 : Hid (Two w8 p b' q lv (k + 1) S p2 b2 q2 lv2 S2 b ∧ Below w.heap.size w w8) := ⟨HI7.out.1.below b8 (Nat.le_refl _), HI7.out.2.trans (b8.mono HI7.out.2.size)⟩
        clear b8 HI7
        go_wp2_with fail
        refine (sameQ _ p2 b2 b (k + 1) p b' b (k + 1) S2 S HI8.out.1.o.r HI8.out.1.a.r).mono ?_
        rintro e w9 ⟨rfl, b9⟩
        rw [HSC.out]
        have HI9 : Hid (Two w9 p b' q lv (k + 1) S p2 b2 q2 lv2 S2 b ∧ Below w.heap.size w w9) := ⟨HI8.out.1.below b9 (Nat.le_refl _), HI8.out.2.trans (b9.mono HI8.out.2.size)⟩
        clear b9 HI8
        go_wp2_with fail
        refine (sameQ _ p b' b (k + 1) p b' b (k + 1) S S HI9.out.1.a.r HI9.out.1.a.r).mono ?_
        rintro e w10 ⟨rfl, b10⟩
        rw [HSS.out]
        have HI10 : Hid (Two w10 p b' q lv (k + 1) S p2 b2 q2 lv2 S2 b ∧ Below w.heap.size w w10) := ⟨HI9.out.1.below b10 (Nat.le_refl _), HI9.out.2.trans (b10.mono HI9.out.2.size)⟩
        clear b10 HI9
        go_wp2_with fail
        refine (same_nil _ p).mono ?_
        rintro e w11 ⟨rfl, b11⟩
        have HI11 : Hid (Two w11 p b' q lv (k + 1) S p2 b2 q2 lv2 S2 b ∧ Below w.heap.size w w11) := ⟨HI10.out.1.below b11 (Nat.le_refl _), HI10.out.2.trans (b11.mono HI10.out.2.size)⟩
        clear b11 HI10
        go_wp2_with fail
        go_roundg g
        case measure => omega
        case rel => exact ⟨k + 1, p, b', lv, S, p2, b2, q2, lv2, S2, by omega, by go_num, rfl, rfl, rfl, HI11⟩
end Go.Proofs.Ytpgepejleklpfaa
