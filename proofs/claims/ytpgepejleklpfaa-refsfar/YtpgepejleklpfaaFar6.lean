/- RefsFar's walk: from the contracts of refs. -/
import Derived.Test.YtpgepejleklpfaaRfQ
import Derived.Test.YtpgepejleklpfaaRfM
namespace Go.Proofs.Ytpgepejleklpfaa
set_option linter.unusedVariables false
open Go.RowKit
attribute [local go_sem ↓] Go.wp_at_zero Go.wp_at_succ

/-- One block, needed k times. -/
def fs (B n : Int) (k : Nat) : RfS := ⟨B, if k = 0 then [] else [(n, (k : Int))], 2⟩
theorem fs_new (B : Int) (n : Int) (h1 : 3 ≤ B) (h2 : B ≤ 4294967296) : RfS.new B = fs B n 0 := by
  unfold RfS.new fs
  rw [if_pos rfl]
  congr 1
  omega
theorem fs_cnt (B n : Int) (k : Nat) : cnt (fs B n k).L n = (k : Int) := by
  unfold fs
  by_cases e : k = 0
  · subst e; rfl
  · simp only [if_neg e]; rw [cnt_cons, if_pos rfl]
theorem fs_has (B n : Int) (k : Nat) (h1 : 2 ≤ n) (h2 : n < B) : (fs B n k).has n = true := RfS.has_iff.2 ⟨h1, h2⟩
theorem fs_put (B n : Int) (k : Nat) (c : Int) : putL (fs B n k).L n c = [(n, c)] := by
  unfold fs
  by_cases e : k = 0
  · simp [e, putL, delL, insL]
  · simp [e, putL, delL, insL]
theorem fs_mark (B n : Int) (k : Nat) (h1 : 2 ≤ n) (h2 : n < B) : (fs B n k).mark n = fs B n (k + 1) ∧ (fs B n k).first n = ((k : Int) == 0) ∧ (fs B n k).merr n = 0 := by
  have h := fs_has B n k h1 h2
  refine ⟨?_, ?_, ?_⟩
  · unfold RfS.mark
    rw [if_pos h, fs_put, fs_cnt]
    unfold fs
    rw [if_neg (Nat.succ_ne_zero k)]
    simp
  · unfold RfS.first
    rw [h, fs_cnt]
    by_cases e : (k : Int) = 0
    · simp [e]
    · have : k ≠ 0 := by omega
      simp [this]
  · unfold RfS.merr; rw [if_pos h]
theorem fs_need (B n : Int) (k : Nat) (h1 : 2 ≤ n) (h2 : n < B) : (fs B n (k + 1)).need n = 0 := by
  unfold RfS.need
  rw [fs_has B n _ h1 h2, if_neg (by simp), fs_cnt, if_neg (by omega)]
theorem fs_dec (B n : Int) (k : Nat) (h1 : 2 ≤ n) (h2 : n < B) : (fs B n (k + 1)).dec n = fs B n k ∧ (fs B n (k + 1)).last n = ((k : Int) == 0) ∧ (fs B n (k + 1)).need n = 0 := by
  have h := fs_need B n k h1 h2
  refine ⟨?_, ?_, h⟩
  · unfold RfS.dec
    rw [if_pos h, fs_cnt]
    by_cases e : k = 0
    · subst e
      rw [if_pos (by omega)]
      unfold fs
      simp [delL]
      omega
    · rw [if_neg (by omega), fs_put]
      unfold fs
      simp [e]
  · unfold RfS.last
    rw [h, fs_cnt]
    by_cases e : (k : Int) = 0
    · simp [e]
    · have h3 : ¬ (((k + 1 : Nat) : Int) = 1) := by omega
      have h4 : ((k : Int) == 0) = false := by simpa using e
      rw [h4]
      simp only [true_and, decide_eq_false_iff_not]
      exact h3
theorem fs_free (B n : Int) (k : Nat) (h : k ≠ 0) : (fs B n k).free = B - 3 := by
  unfold RfS.free fs
  simp [h]
  omega
theorem fs_used (B n : Int) (k : Nat) (h : k ≠ 0) : (fs B n k).usedL = [n] := by
  unfold RfS.usedL fs
  simp [h]
def fe (B : Int) : RfS := ⟨B, [(2, 1)], 2⟩
theorem fs_take (B n : Int) (h1 : 3 ≤ B) (h2 : B ≤ 4294967296) : (fs B n 0).take = fe B ∧ (fs B n 0).tookN = 2 ∧ (fs B n 0).took = true := by
  have hok : (fs B n 0).Ok 0 := by rw [← fs_new B n h1 h2]; exact RfS.new_ok B
  have hn : (fs B n 0).next = 2 := RfS.next_is hok (by omega) (by show 2 ≤ B; omega) (fun j a b => by omega) (fun _ => rfl)
  have hb : (fs B n 0).blocks = B := rfl
  refine ⟨?_, ?_, ?_⟩
  · unfold RfS.take; rw [hn, hb, if_neg (by omega)]; rfl
  · unfold RfS.tookN; rw [hn, hb, if_neg (by omega)]
  · unfold RfS.took; rw [hn, hb]; have : ¬ (2 = B) := by omega
    simpa using this
theorem fe_free (B : Int) : (fe B).free = B - 3 := by unfold RfS.free fe; simp; omega
theorem IntsIn.one {w : World} {base : Nat} {v : Value} {n : Int} (h : IntsIn w base v [n]) : ∃ g cap, v = .slice (some ⟨g, 0, none⟩) 1 cap ∧ base ≤ g ∧ g < w.heap.size ∧ 1 ≤ cap ∧ w.cell? ⟨g, 0, none⟩ = some (.int .i64 n) := by
  have h' : w.ownsRow base 3 1 v 1 [.int .i64 n] := h
  rcases h'.2 with ⟨_, e2⟩ | ⟨g, cap, cur, rfl, h2, h3, h4, h5, h6, h7⟩
  · omega
  · refine ⟨g, cap, rfl, h2, lt_block h3, h4, ?_⟩
    have := h'.cells (g := g) rfl 0 (.int .i64 n) rfl
    rw [add_lit] at this
    exact this
theorem far_n (B n : Int) (h1 : 3 ≤ B) (h2 : B ≤ 4294967295) : ∃ m, wrap64 (2 + n % 4294967296 % (B - 2)) = m ∧ 2 ≤ m ∧ m < B := by
  have a1 := Int.emod_nonneg (n % 4294967296) (show B - 2 ≠ 0 by omega)
  have a2 := Int.emod_lt_of_pos (n % 4294967296) (show 0 < B - 2 by omega)
  refine ⟨_, rfl, ?_, ?_⟩ <;> rw [wrap64_of_range (by omega) (by omega)] <;> omega

set_option maxHeartbeats 4000000 in
set_option maxRecDepth 100000 in
theorem far_walk (w : World) (bl n ts : Int) : Calls Try.prog 7 #[.int .i64 bl, .int .i64 n, .int .i64 ts] w fun e w' => e = .returned (.bool true) ∧ Below w.heap.size w w' := by
  have m1 := and32 bl
  have m2 := and32 n
  have m3 := and63 ts
  go_enter Try.func7, Try.ntmps7
  go_upto_region 3 with (first | (go_at_call 8; refine (shown_calls _).mono ?_; rintro e w0 ⟨rfl, b0⟩))
  obtain ⟨B, hB, hB1, hB2⟩ : ∃ B, 3 + bl % 4294967296 % 4294967293 = B ∧ 3 ≤ B ∧ B ≤ 4294967295 := ⟨_, rfl, by omega, by omega⟩
  simp only [hB]
  clear hB m1
  go_upto_region 4 with fail
  obtain ⟨m, hm, hm1, hm2⟩ := far_n B n hB1 hB2
  simp only [hm]
  clear hm m2
  go_upto_region 5 with fail
  obtain ⟨t, ht, ht1, ht2⟩ : ∃ t : Nat, 1 + ts % 64 = (t : Int) ∧ 1 ≤ t ∧ t ≤ 64 := ⟨(1 + ts % 64).toNat, by omega, by omega, by omega⟩
  simp only [ht]
  clear ht m3
  have Bw : Below w.heap.size w w0 := b0
  go_wp2_with (go_at_call 9; refine (newQ _ B ⟨by omega, by omega⟩).mono ?_; rintro e w1 ⟨rfl, h1, b1⟩)
  rw [fs_new B m hB1 (by omega)] at h1
  have hs0 := Bw.size
  have HW : Hid (Below w.heap.size w w1) := Bw.trans (b1.mono hs0)
  have HQ : Hid (RQ w1 (w0.heap.size + 1) w0.heap.size w0.heap.size 0 (fs B m 0)) := h1
  have HS0 : Hid (w.heap.size ≤ w0.heap.size) := hs0
  clear h1 b1 Bw b0 hs0
  generalize w0.heap.size + 1 = p at *
  generalize w0.heap.size = q at *
  go_loopg [9] t (fun g i wr => ∃ k : Nat, k + g = t ∧ i = .int .i64 (k : Int) ∧ Hid (RQ wr p q q k (fs B m k)) ∧ Hid (Below w.heap.size w wr))
  case atStart => exact ⟨0, by omega, rfl, HQ, HW⟩
  case round =>
    obtain ⟨k, hk, rfl, HR, HB⟩ := hrel
    cases gk with
    | zero =>
      have e : k = t := by omega
      subst e
      have hk0 : k ≠ 0 := by omega
      have E1 := fs_cnt B m k
      have E2 := fs_free B m k hk0
      have E3 := fs_used B m k hk0
      have HE : Hid (cnt (fs B m k).L m = (k : Int) ∧ (fs B m k).free = B - 3 ∧ (fs B m k).usedL = [m]) := ⟨E1, E2, E3⟩
      clear E1 E2 E3
      have hq := HR.out.size
      go_wp2_with (first
        | (go_at_call 21; refine (usedQ _ p _ _ _ _ HR.out (by omega)).mono ?_; rintro e w2 ⟨v, rfl, hu, bu⟩; rw [HE.out.2.2] at hu; obtain ⟨g, cap, rfl, hg1, hg2, hcap, hcell⟩ := hu.one; have HR2 : Hid (RQ w2 p q q k (fs B m k)) := HR.out.below bu (Nat.le_refl _); clear hu)
        | (go_at_call 19; refine (countQ _ p _ _ _ _ m HR2.out ⟨by omega, by omega⟩).mono ?_; rintro e w3 ⟨rfl, rfl⟩; rw [HE.out.1])
        | (go_at_call 20; refine (freeQ _ p _ _ _ _ HR2.out (by omega)).mono ?_; rintro e w4 ⟨rfl, h4, b4⟩; rw [HE.out.2.1]; have HR4 : Hid (RQ w4 p q q k (fs B m k)) := h4; have hcell4 := (World.cell?_of_block (b4.block g hg2)).trans hcell; clear h4))
      have HB4 : Hid (Below w.heap.size w w4) := (HB.out.trans (bu.mono (by have := HS0.out; omega))).trans (b4.mono (by have := HS0.out; have := bu.size; omega))
      clear HB HR HR2 bu b4 hcell hcell4
      go_loopg [13] k (fun g i wr => ∃ j : Nat, j + g = k ∧ i = .int .i64 (j : Int) ∧ Hid (RQ wr p q q (k + j) (fs B m g)) ∧ Hid (Below w.heap.size w wr))
      case atStart => exact ⟨0, by omega, rfl, HR4, HB4⟩
      case round =>
        clear HR4 HB4
        obtain ⟨j, hj, rfl, HR, HB⟩ := hrel
        cases gk with
        | zero =>
          have e : j = k := by omega
          subst e
          have ET := fs_take B m hB1 (by omega)
          have HT : Hid ((fs B m 0).take = fe B ∧ (fs B m 0).tookN = 2 ∧ (fs B m 0).took = true ∧ (fe B).free = B - 3) := ⟨ET.1, ET.2.1, ET.2.2, fe_free B⟩
          clear ET
          go_wp2_with (first
            | (go_at_call 18; refine (takeQ _ p _ _ _ _ HR.out (by omega)).mono ?_; rintro e w5 ⟨rfl, h5, b5, -⟩; rw [HT.out.1] at h5; rw [HT.out.2.1, HT.out.2.2.1]; have HR5 : Hid (RQ w5 p q q (j + j + 1) (fe B)) := h5; clear h5)
            | (go_at_call 20; refine (freeQ _ p _ _ _ _ HR5.out (by omega)).mono ?_; rintro e w6 ⟨rfl, h6, b6⟩; rw [HT.out.2.2.2]))
          go_ret
          exact ⟨by simp, (HB.out.trans (b5.mono HS0.out)).trans (b6.mono (by have := HR5.out.size; have := HS0.out; omega))⟩
        | succ g =>
          have E := fs_dec B m g hm1 hm2
          have e1 : ((g : Int) == 0) = ((j : Int) == (k : Int) - 1) := by
            by_cases e : g = 0
            · have e2 : (j : Int) = (k : Int) - 1 := by omega
              rw [e2, e]; simp
            · have e2 : ¬ ((j : Int) = (k : Int) - 1) := by omega
              have e3 : ((j : Int) == (k : Int) - 1) = false := by simpa using e2
              rw [e3]; simpa using e
          rw [e1] at E
          have HE : Hid ((fs B m (g + 1)).dec m = fs B m g ∧ (fs B m (g + 1)).last m = ((j : Int) == (k : Int) - 1) ∧ (fs B m (g + 1)).need m = 0) := E
          clear E e1
          have hlt : (j : Int) < (k : Int) := by omega
          go_wp2_with (first
            | (go_at_call 22; refine (decQ _ p _ _ _ _ m HR.out ⟨by omega, by omega⟩ (by omega)).mono ?_; rintro e w5 ⟨rfl, h5, b5, -⟩; rw [HE.out.1] at h5; rw [HE.out.2.1, HE.out.2.2]))
          go_roundg g
          case measure => omega
          case rel => exact ⟨j + 1, by omega, by go_num, h5, HB.out.trans (b5.mono HS0.out)⟩
    | succ g =>
      have E := fs_mark B m k hm1 hm2
      have HE : Hid ((fs B m k).mark m = fs B m (k + 1) ∧ (fs B m k).first m = ((k : Int) == 0) ∧ (fs B m k).merr m = 0) := E
      clear E
      have hlt : (k : Int) < (t : Int) := by omega
      go_wp2_with (first
        | (go_at_call 17; refine (markQ _ p _ _ _ _ m HR.out ⟨by omega, by omega⟩ (by omega)).mono ?_; rintro e w2 ⟨rfl, h2, b2, -⟩; rw [HE.out.1] at h2; rw [HE.out.2.1, HE.out.2.2]))
      go_roundg g
      case measure => omega
      case rel => exact ⟨k + 1, by omega, by go_num, h2, HB.out.trans (b2.mono HS0.out)⟩
end Go.Proofs.Ytpgepejleklpfaa
