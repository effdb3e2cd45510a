/- RefsTakes' walk: from the contracts of refs. -/
import Derived.Test.YtpgepejleklpfaaRfW
namespace Go.Proofs.Ytpgepejleklpfaa
set_option linter.unusedVariables false
open Go.RowKit
attribute [local go_sem ↓] Go.wp_at_zero Go.wp_at_succ

/-- The counts that a row tells. -/
def tk (N : Nat) (f : Nat → Int) : Int → Int := fun m => if 2 ≤ m ∧ m < (N : Int) then f m.toNat else 0
def updI (f : Nat → Int) (j : Nat) (c : Int) : Nat → Int := fun i => if i = j then c else f i
theorem tk_new {N : Nat} (h : 2 ≤ N) (h2 : N ≤ 4294967296) : Cn (RfS.new (N : Int)) N (tk N fun _ => 0) := by
  refine ⟨by show min (max (N : Int) 2) 4294967296 = _; omega, fun m => ?_⟩
  show (0 : Int) = tk N _ m
  unfold tk
  split <;> rfl
theorem tk_at {S : RfS} {N j : Nat} {f : Nat → Int} (hc : Cn S N (tk N f)) (h1 : 2 ≤ j) (h2 : j < N) : cnt S.L (j : Int) = f j := by
  rw [hc.2]; unfold tk; rw [if_pos (by omega)]; simp
theorem tk_upd {S S' : RfS} {N j : Nat} {f : Nat → Int} {c : Int} (hc : Cn S N (tk N f)) (h1 : 2 ≤ j) (h2 : j < N) (hb : S'.blocks = S.blocks) (h3 : ∀ m, cnt S'.L m = if m = (j : Int) then c else cnt S.L m) : Cn S' N (tk N (updI f j c)) := by
  refine ⟨hb.trans hc.1, fun m => ?_⟩
  rw [h3, hc.2]
  unfold tk updI
  by_cases e : m = (j : Int)
  · subst e
    rw [if_pos rfl, if_pos (by omega)]
    simp
  · rw [if_neg e]
    by_cases e2 : 2 ≤ m ∧ m < (N : Int)
    · rw [if_pos e2, if_pos e2, if_neg (by omega)]
    · rw [if_neg e2, if_neg e2]
theorem tk_mark {S : RfS} {K N j : Nat} {f : Nat → Int} (h : S.Ok K) (hc : Cn S N (tk N f)) (h1 : 2 ≤ j) (h2 : j < N) : S.merr (j : Int) = 0 ∧ S.first (j : Int) = (f j == 0) ∧ Cn (S.mark (j : Int)) N (tk N (updI f j (f j + 1))) := by
  have hm := mark_at h (n := (j : Int)) (by omega) (by rw [hc.1]; omega)
  rw [tk_at hc h1 h2] at hm
  exact ⟨hm.1, hm.2.1, tk_upd hc h1 h2 (RfS.mark_blocks _ _) hm.2.2⟩
theorem tk_out {S : RfS} {N : Nat} {f : Nat → Int} {x : Int} (hc : Cn S N (tk N f)) (h1 : x < 2 ∨ (N : Int) ≤ x) : S.merr x = 1 ∧ S.first x = false ∧ S.mark x = S := mark_out (by rw [hc.1]; exact h1)
theorem tk_take {S : RfS} {K N n : Nat} {f : Nat → Int} (h : S.Ok K) (hc : Cn S N (tk N f)) (h1 : 2 ≤ n) (h2 : n < N) (h3 : ∀ j, 2 ≤ j → j < n → 0 < f j) (h4 : f n = 0) : S.tookN = (n : Int) ∧ S.took = true ∧ Cn S.take N (tk N (updI f n 1)) := by
  have hT := take_at h (n := (n : Int)) (by omega) (by rw [hc.1]; omega) (fun j a b => by
    obtain ⟨i, rfl⟩ := Int.eq_ofNat_of_zero_le (show 0 ≤ j by omega)
    rw [tk_at hc (by omega) (by omega)]
    have := h3 i (by omega) (by omega)
    omega) (by rw [tk_at hc h1 h2]; exact h4)
  exact ⟨hT.1, hT.2.1, tk_upd hc h1 h2 rfl hT.2.2⟩
theorem tk_end {S : RfS} {K N : Nat} {f : Nat → Int} (h : S.Ok K) (hc : Cn S N (tk N f)) (h3 : ∀ j, 2 ≤ j → j < N → 0 < f j) : S.took = false ∧ Cn S.take N (tk N f) ∧ S.take.free = 0 ∧ (S.take.usedL.length : Int) = (N : Int) - 2 := by
  have hall : ∀ j, 2 ≤ j → j < S.blocks → cnt S.L j ≠ 0 := fun j a b => by
    rw [hc.1] at b
    obtain ⟨i, rfl⟩ := Int.eq_ofNat_of_zero_le (show 0 ≤ j by omega)
    rw [tk_at hc (by omega) (by omega)]
    have := h3 i (by omega) (by omega)
    omega
  have hT := take_none h hall
  have hf : ∀ n, 2 ≤ n → n < S.take.blocks → cnt S.take.L n ≠ 0 := fun n a b => by rw [hT.2]; exact hall n a b
  refine ⟨hT.1, ⟨hc.1, fun m => by rw [hT.2, hc.2]⟩, h.take.full_free hf, ?_⟩
  have := h.take.full hf
  have hb : S.take.blocks = (N : Int) := hc.1
  unfold RfS.usedL
  rw [List.length_map]
  omega
theorem IntsIn.form {w : World} {base : Nat} {v : Value} {l : List Int} (h : IntsIn w base v l) : ∃ a c, v = .slice a l.length c := by
  rcases h.2 with ⟨e, e2⟩ | ⟨g, cap, cur, e, _⟩
  · exact ⟨none, 0, by rw [e, e2]⟩
  · exact ⟨_, cap, e⟩

set_option maxHeartbeats 4000000 in
set_option maxRecDepth 100000 in
theorem takes_walk (w : World) (bl : Int) (a : Option Addr) (len cap : Nat) (l : Nat → Int) (hl : ArgI w a len cap l) : Calls Try.prog 4 #[.int .i64 bl, .slice a len cap] w fun e w' => e = .returned (.bool true) ∧ Below w.heap.size w w' := by
  have m1 := and65535 bl
  obtain ⟨i0, hi, hz0, hz1, hz2⟩ := info_parts Try.info_i64
  have HA : Hid (ArgI w a len cap l) := hl
  have hlen := hl.1
  unfold maxLen at hlen
  clear hl
  go_enter Try.func4, Try.ntmps4
  go_upto_region 3 with (first | (go_at_call 8; refine (shown_calls _).mono ?_; rintro e w0 ⟨rfl, b0⟩))
  obtain ⟨N, hN, hN1, hN2⟩ : ∃ N : Nat, 2 + bl % 65536 % 1000 = (N : Int) ∧ 2 ≤ N ∧ N ≤ 1001 := ⟨(2 + bl % 65536 % 1000).toNat, by omega, by omega, by omega⟩
  simp only [hN]
  clear hN m1
  have Bw : Below w.heap.size w w0 := b0
  go_upto_region 6 with (go_at_call 9; refine (newQ _ (N : Int) ⟨by omega, by omega⟩).mono ?_; rintro e w1 ⟨rfl, h1, b1⟩)
  have hs0 := Bw.size
  have hw1 := b1.size
  have HW : Hid (Below w.heap.size w w1) := Bw.trans (b1.mono hs0)
  have HQ : Hid (RQ w1 (w0.heap.size + 1) w0.heap.size w0.heap.size 0 (RfS.new (N : Int)) ∧ Cn (RfS.new (N : Int)) N (tk N fun _ => 0)) := ⟨h1, tk_new (by omega) (by omega)⟩
  have HS0 : Hid (w.heap.size ≤ w0.heap.size) := hs0
  clear h1 b1 Bw b0 hs0 hw1
  generalize w0.heap.size + 1 = p at *
  generalize w0.heap.size = q at *
  go_upto_region 7 with (at_make; refine wpList_make_full _ rfl (.tmp 27) (.tmp 27) 37 rfl w1.heap.size 3 i0 (.int .i64 0) 1 Try.underlying37 hi hz0 hz1 .i64 .i64 (N : Int) (N : Int) N rfl rfl rfl rfl (by rw [hz2]; omega) (by unfold maxLen; omega) (Nat.le_refl _) ?_; intro w2 hown hgrow)
  have hg2 : Below w1.heap.size w1 w2 := (Below.refl _ _).grown hgrow (Nat.le_refl _) (fun k hk => by cases hk)
  have hlt := HQ.out.1.lt
  have hsz := HW.out.size
  have HR2 : Hid (RQ w2 p q q 0 (RfS.new (N : Int)) ∧ Cn (RfS.new (N : Int)) N (tk N fun _ => 0)) := ⟨HQ.out.1.below hg2 (Nat.le_refl _), HQ.out.2⟩
  have HW2 : Hid (Row w2 w1.heap.size N 3 (fun i => .int .i64 ((fun _ => 0 : Nat → Int) i)) ∧ w1.heap.size ≠ p ∧ w1.heap.size ≠ q ∧ w.heap.size ≤ w1.heap.size) := ⟨made_row rfl hown, by omega, by omega, hsz⟩
  have HB2 : Hid (Below w.heap.size w w2) := HW.out.trans (hg2.mono hsz)
  clear HQ HW hown hgrow hg2 hlt hsz
  generalize w1.heap.size = r at *
  go_wp2_with fail
  go_loopg [8] (min len 300) (fun g i wr => ∃ (k K : Nat) (S : RfS) (f : Nat → Int), k + g = min len 300 ∧ K ≤ k ∧ i = .int .i64 (k : Int) ∧ Hid (RQ wr p q q K S ∧ Cn S N (tk N f)) ∧ Hid (Row wr r N 3 (fun i => .int .i64 (f i)) ∧ r ≠ p ∧ r ≠ q ∧ w.heap.size ≤ r) ∧ Hid (Below w.heap.size w wr) ∧ Hid (∀ i, 0 ≤ f i ∧ f i ≤ (k : Int)))
  case atStart => exact ⟨0, 0, _, _, by omega, by omega, rfl, HR2, HW2, HB2, fun i => ⟨Int.le_refl _, Int.le_refl _⟩⟩
  case round =>
    clear HR2 HW2 HB2
    obtain ⟨k, K, S, f, hk, hK, rfl, HR, HW, HB, HF⟩ := hrel
    cases gk with
    | zero =>
      rcases (show k = len ∨ ((k : Int) < (len : Int) ∧ k = 300) by omega) with hke | ⟨hk1, hk2⟩
      · subst hke
        go_upto_region 18 with fail
        all_goals
          go_wp2_with fail
          go_loopg [12] (N - 2) (fun g i wy => ∃ (m K2 : Nat) (S2 : RfS) (f2 : Nat → Int), m + g = N ∧ 2 ≤ m ∧ K2 ≤ K + m ∧ i = .int .i64 (m : Int) ∧ Hid (RQ wy p q q K2 S2 ∧ Cn S2 N (tk N f2)) ∧ Hid (Row wy r N 3 (fun i => .int .i64 (f2 i)) ∧ r ≠ p ∧ r ≠ q ∧ w.heap.size ≤ r) ∧ Hid (Below w.heap.size w wy) ∧ Hid (∀ i, 0 ≤ f2 i ∧ f2 i ≤ 1000) ∧ Hid (∀ j, 2 ≤ j → j < m → 0 < f2 j))
          case atStart => exact ⟨2, K, S, f, by omega, by omega, by omega, rfl, HR, HW, HB, (fun i => by have := HF.out i; omega), fun j a b => by omega⟩
          case round =>
            clear HR HW HB HF
            obtain ⟨m, K2, S2, f2, hm, hm2, hK2, rfl, HR, HW, HB, HF, HP⟩ := hrel
            cases gk with
            | zero =>
              have e : m = N := by omega
              subst e
              have HE : Hid (S2.took = false ∧ Cn S2.take m (tk m f2) ∧ S2.take.free = 0 ∧ (S2.take.usedL.length : Int) = (m : Int) - 2) := tk_end HR.out.1.rf.ok HR.out.2 HP.out
              go_upto_region 27 with (first
                | (go_at_call 18; refine (takeQ _ p _ _ _ _ HR.out.1 (by omega)).mono ?_; rintro e w5 ⟨rfl, h5, b5, t5⟩; rw [HE.out.1]))
              have HR5 : Hid (RQ w5 p q q (K2 + 1) S2.take) := h5
              have HW5 : Hid (Row w5 r m 3 (fun i => .int .i64 (f2 i))) := HW.out.1.touch t5 HW.out.2.1 HW.out.2.2.1
              have HB5 : Hid (Below w.heap.size w w5) := HB.out.trans (b5.mono HS0.out)
              clear h5 b5 t5
              go_wp2_with fail
              go_loopg [17] (m - 2) (fun g i wz => ∃ (n : Nat) (d : Nat), n + g = m ∧ 2 ≤ n ∧ i = .int .i64 (n : Int) ∧ wz = w5.drewN d)
              case atStart => exact ⟨2, 0, by omega, by omega, rfl, rfl⟩
              case round =>
                obtain ⟨n, d, hn, hn2, rfl, rfl⟩ := hrel
                have HRd : Hid (RQ (w5.drewN d) p q q (K2 + 1) S2.take) := ⟨HR5.out.rf.kept rfl rfl, HR5.out.bp, HR5.out.bb⟩
                cases gk with
                | zero =>
                  have e : n = m := by omega
                  subst e
                  have hsd : (w5.drewN d).heap.size = w5.heap.size := rfl
                  have hs5 := HB5.out.size
                  go_wp2_with (first
                    | (go_at_call 20; refine (freeQ _ p _ _ _ _ HRd.out (by omega)).mono ?_; rintro e w6 ⟨rfl, h6, b6⟩; rw [HE.out.2.2.1]; have HR6 : Hid (RQ w6 p q q (K2 + 1) S2.take) := h6; clear h6)
                    | (go_at_call 21; refine (usedQ _ p _ _ _ _ HR6.out (by omega)).mono ?_; rintro e w7 ⟨v, rfl, h7, b7⟩; obtain ⟨va, vc, rfl⟩ := h7.form; have HLn : (S2.take.usedL.length : Int) = (n : Int) - 2 := HE.out.2.2.2; generalize S2.take.usedL.length = ul at *; clear h7))
                  go_ret
                  have b6' : Below w5.heap.size w5 w6 := ⟨b6.os, b6.tape, b6.output, b6.size, b6.block⟩
                  exact ⟨by simp, (HB5.out.trans (b6'.mono hs5)).trans (b7.mono (by have := b6'.size; omega))⟩
                | succ g =>
                  have hnm : (n : Int) < (m : Int) := by omega
                  have hc : (w5.drewN d).cell? ⟨r, n, none⟩ = some (.int .i64 (f2 n)) := HW5.out.cell (by omega)
                  have hcd : (w5.drewN d).drew.cell? ⟨r, n, none⟩ = some (.int .i64 (f2 n)) := HW5.out.cell (by omega)
                  have hcc := countQ (w5.drewN d).drew p _ _ _ _ (n : Int) HRd.out.drew ⟨by omega, by omega⟩
                  rw [tk_at HE.out.2.1 hn2 (by omega)] at hcc
                  clear HRd
                  go_wp2_with fail
                  go_region_held3 (fun w' => w'.cell? ⟨r, n, none⟩ = some (.int .i64 (f2 n))) (exact hcd)
                    (first | (go_at_call 19; refine hcc.mono ?_; rintro e w8 ⟨rfl, rfl⟩))
                  go_wp2
                  go_roundg g
                  case measure => omega
                  case rel => exact ⟨n + 1, d + 1, by omega, by omega, by go_num, rfl⟩
            | succ g =>
              have hmn : (m : Int) < (N : Int) := by omega
              have hc := HW.out.1.cell (i := m) (by omega)
              have hf1 := (HF.out m).1
              by_cases hf : f2 m = 0
              · rw [hf] at hc
                have HE : Hid (S2.tookN = (m : Int) ∧ S2.took = true ∧ Cn S2.take N (tk N (updI f2 m 1))) := tk_take HR.out.1.rf.ok HR.out.2 hm2 (by omega) HP.out hf
                have HQW : Hid (∀ w3, Touch p (some q) wr w3 → w3.cell? ⟨r, m, none⟩ = some (.int .i64 0) ∧ w3.frozen? ⟨r, m, none⟩ = false ∧ Row (w3.setCell ⟨r, m, none⟩ (.int .i64 1)) r N 3 (fun i => .int .i64 (updI f2 m 1 i))) := fun w3 ht => by
                  have h3 := HW.out.1.touch ht HW.out.2.1 HW.out.2.2.1
                  refine ⟨by rw [← hf]; exact h3.cell (by omega), h3.free m, (h3.set m _).same fun i _ => ?_⟩
                  unfold upd updI
                  by_cases e : i = m
                  · rw [if_pos e, if_pos e]
                  · rw [if_neg e, if_neg e]
                have HF2 : Hid ((∀ i, 0 ≤ updI f2 m 1 i ∧ updI f2 m 1 i ≤ 1000) ∧ ∀ j, 2 ≤ j → j < m + 1 → 0 < updI f2 m 1 j) := ⟨fun i => by
                  unfold updI
                  have := HF.out i
                  by_cases e : i = m
                  · rw [if_pos e]; omega
                  · rw [if_neg e]; omega, fun j a b => by
                  unfold updI
                  by_cases e : j = m
                  · rw [if_pos e]; omega
                  · rw [if_neg e]; exact HP.out j a (by omega)⟩
                clear hf hf1
                go_wp2_with (first
                  | (go_at_call 18; refine (takeQ _ p _ _ _ _ HR.out.1 (by omega)).mono ?_; rintro e w5 ⟨rfl, h5, b5, t5⟩; rw [HE.out.1, HE.out.2.1]; obtain ⟨k3, k4, k5⟩ := HQW.out _ t5; have HR5 : Hid (RQ w5 p q q (K2 + 1) S2.take ∧ Row (w5.setCell ⟨r, m, none⟩ (.int .i64 1)) r N 3 (fun i => .int .i64 (updI f2 m 1 i))) := ⟨h5, k5⟩; clear h5 k5))
                go_roundg g
                case measure => omega
                case rel => exact ⟨m + 1, K2 + 1, _, _, by omega, by omega, by omega, by go_num, ⟨HR5.out.1.setRow HW.out.2.1 HW.out.2.2.1, HE.out.2.2⟩, ⟨HR5.out.2, HW.out.2⟩, below_set (HB.out.trans (b5.mono HS0.out)) HW.out.2.2.2, HF2.out.1, HF2.out.2⟩
              · have hf2 : 0 < f2 m := by omega
                have HP2 : Hid (∀ j, 2 ≤ j → j < m + 1 → 0 < f2 j) := fun j a b => by
                  by_cases e : j = m
                  · subst e; exact hf2
                  · exact HP.out j a (by omega)
                clear hf hf1
                generalize f2 m = v at *
                go_wp2_with fail
                go_roundg g
                case measure => omega
                case rel => exact ⟨m + 1, K2, S2, f2, by omega, by omega, by omega, by go_num, HR, HW, HB, HF, HP2.out⟩
      · subst hk2
        go_upto_region 18 with fail
        all_goals
          go_wp2_with fail
          go_loopg [12] (N - 2) (fun g i wy => ∃ (m K2 : Nat) (S2 : RfS) (f2 : Nat → Int), m + g = N ∧ 2 ≤ m ∧ K2 ≤ K + m ∧ i = .int .i64 (m : Int) ∧ Hid (RQ wy p q q K2 S2 ∧ Cn S2 N (tk N f2)) ∧ Hid (Row wy r N 3 (fun i => .int .i64 (f2 i)) ∧ r ≠ p ∧ r ≠ q ∧ w.heap.size ≤ r) ∧ Hid (Below w.heap.size w wy) ∧ Hid (∀ i, 0 ≤ f2 i ∧ f2 i ≤ 1000) ∧ Hid (∀ j, 2 ≤ j → j < m → 0 < f2 j))
          case atStart => exact ⟨2, K, S, f, by omega, by omega, by omega, rfl, HR, HW, HB, (fun i => by have := HF.out i; omega), fun j a b => by omega⟩
          case round =>
            clear HR HW HB HF
            obtain ⟨m, K2, S2, f2, hm, hm2, hK2, rfl, HR, HW, HB, HF, HP⟩ := hrel
            cases gk with
            | zero =>
              have e : m = N := by omega
              subst e
              have HE : Hid (S2.took = false ∧ Cn S2.take m (tk m f2) ∧ S2.take.free = 0 ∧ (S2.take.usedL.length : Int) = (m : Int) - 2) := tk_end HR.out.1.rf.ok HR.out.2 HP.out
              go_upto_region 27 with (first
                | (go_at_call 18; refine (takeQ _ p _ _ _ _ HR.out.1 (by omega)).mono ?_; rintro e w5 ⟨rfl, h5, b5, t5⟩; rw [HE.out.1]))
              have HR5 : Hid (RQ w5 p q q (K2 + 1) S2.take) := h5
              have HW5 : Hid (Row w5 r m 3 (fun i => .int .i64 (f2 i))) := HW.out.1.touch t5 HW.out.2.1 HW.out.2.2.1
              have HB5 : Hid (Below w.heap.size w w5) := HB.out.trans (b5.mono HS0.out)
              clear h5 b5 t5
              go_wp2_with fail
              go_loopg [17] (m - 2) (fun g i wz => ∃ (n : Nat) (d : Nat), n + g = m ∧ 2 ≤ n ∧ i = .int .i64 (n : Int) ∧ wz = w5.drewN d)
              case atStart => exact ⟨2, 0, by omega, by omega, rfl, rfl⟩
              case round =>
                obtain ⟨n, d, hn, hn2, rfl, rfl⟩ := hrel
                have HRd : Hid (RQ (w5.drewN d) p q q (K2 + 1) S2.take) := ⟨HR5.out.rf.kept rfl rfl, HR5.out.bp, HR5.out.bb⟩
                cases gk with
                | zero =>
                  have e : n = m := by omega
                  subst e
                  have hsd : (w5.drewN d).heap.size = w5.heap.size := rfl
                  have hs5 := HB5.out.size
                  go_wp2_with (first
                    | (go_at_call 20; refine (freeQ _ p _ _ _ _ HRd.out (by omega)).mono ?_; rintro e w6 ⟨rfl, h6, b6⟩; rw [HE.out.2.2.1]; have HR6 : Hid (RQ w6 p q q (K2 + 1) S2.take) := h6; clear h6)
                    | (go_at_call 21; refine (usedQ _ p _ _ _ _ HR6.out (by omega)).mono ?_; rintro e w7 ⟨v, rfl, h7, b7⟩; obtain ⟨va, vc, rfl⟩ := h7.form; have HLn : (S2.take.usedL.length : Int) = (n : Int) - 2 := HE.out.2.2.2; generalize S2.take.usedL.length = ul at *; clear h7))
                  go_ret
                  have b6' : Below w5.heap.size w5 w6 := ⟨b6.os, b6.tape, b6.output, b6.size, b6.block⟩
                  exact ⟨by simp, (HB5.out.trans (b6'.mono hs5)).trans (b7.mono (by have := b6'.size; omega))⟩
                | succ g =>
                  have hnm : (n : Int) < (m : Int) := by omega
                  have hc : (w5.drewN d).cell? ⟨r, n, none⟩ = some (.int .i64 (f2 n)) := HW5.out.cell (by omega)
                  have hcd : (w5.drewN d).drew.cell? ⟨r, n, none⟩ = some (.int .i64 (f2 n)) := HW5.out.cell (by omega)
                  have hcc := countQ (w5.drewN d).drew p _ _ _ _ (n : Int) HRd.out.drew ⟨by omega, by omega⟩
                  rw [tk_at HE.out.2.1 hn2 (by omega)] at hcc
                  clear HRd
                  go_wp2_with fail
                  go_region_held3 (fun w' => w'.cell? ⟨r, n, none⟩ = some (.int .i64 (f2 n))) (exact hcd)
                    (first | (go_at_call 19; refine hcc.mono ?_; rintro e w8 ⟨rfl, rfl⟩))
                  go_wp2
                  go_roundg g
                  case measure => omega
                  case rel => exact ⟨n + 1, d + 1, by omega, by omega, by go_num, rfl⟩
            | succ g =>
              have hmn : (m : Int) < (N : Int) := by omega
              have hc := HW.out.1.cell (i := m) (by omega)
              have hf1 := (HF.out m).1
              by_cases hf : f2 m = 0
              · rw [hf] at hc
                have HE : Hid (S2.tookN = (m : Int) ∧ S2.took = true ∧ Cn S2.take N (tk N (updI f2 m 1))) := tk_take HR.out.1.rf.ok HR.out.2 hm2 (by omega) HP.out hf
                have HQW : Hid (∀ w3, Touch p (some q) wr w3 → w3.cell? ⟨r, m, none⟩ = some (.int .i64 0) ∧ w3.frozen? ⟨r, m, none⟩ = false ∧ Row (w3.setCell ⟨r, m, none⟩ (.int .i64 1)) r N 3 (fun i => .int .i64 (updI f2 m 1 i))) := fun w3 ht => by
                  have h3 := HW.out.1.touch ht HW.out.2.1 HW.out.2.2.1
                  refine ⟨by rw [← hf]; exact h3.cell (by omega), h3.free m, (h3.set m _).same fun i _ => ?_⟩
                  unfold upd updI
                  by_cases e : i = m
                  · rw [if_pos e, if_pos e]
                  · rw [if_neg e, if_neg e]
                have HF2 : Hid ((∀ i, 0 ≤ updI f2 m 1 i ∧ updI f2 m 1 i ≤ 1000) ∧ ∀ j, 2 ≤ j → j < m + 1 → 0 < updI f2 m 1 j) := ⟨fun i => by
                  unfold updI
                  have := HF.out i
                  by_cases e : i = m
                  · rw [if_pos e]; omega
                  · rw [if_neg e]; omega, fun j a b => by
                  unfold updI
                  by_cases e : j = m
                  · rw [if_pos e]; omega
                  · rw [if_neg e]; exact HP.out j a (by omega)⟩
                clear hf hf1
                go_wp2_with (first
                  | (go_at_call 18; refine (takeQ _ p _ _ _ _ HR.out.1 (by omega)).mono ?_; rintro e w5 ⟨rfl, h5, b5, t5⟩; rw [HE.out.1, HE.out.2.1]; obtain ⟨k3, k4, k5⟩ := HQW.out _ t5; have HR5 : Hid (RQ w5 p q q (K2 + 1) S2.take ∧ Row (w5.setCell ⟨r, m, none⟩ (.int .i64 1)) r N 3 (fun i => .int .i64 (updI f2 m 1 i))) := ⟨h5, k5⟩; clear h5 k5))
                go_roundg g
                case measure => omega
                case rel => exact ⟨m + 1, K2 + 1, _, _, by omega, by omega, by omega, by go_num, ⟨HR5.out.1.setRow HW.out.2.1 HW.out.2.2.1, HE.out.2.2⟩, ⟨HR5.out.2, HW.out.2⟩, below_set (HB.out.trans (b5.mono HS0.out)) HW.out.2.2.2, HF2.out.1, HF2.out.2⟩
              · have hf2 : 0 < f2 m := by omega
                have HP2 : Hid (∀ j, 2 ≤ j → j < m + 1 → 0 < f2 j) := fun j a b => by
                  by_cases e : j = m
                  · subst e; exact hf2
                  · exact HP.out j a (by omega)
                clear hf hf1
                generalize f2 m = v at *
                go_wp2_with fail
                go_roundg g
                case measure => omega
                case rel => exact ⟨m + 1, K2, S2, f2, by omega, by omega, by omega, by go_num, HR, HW, HB, HF, HP2.out⟩
    | succ g =>
      have hk1 : (k : Int) < (len : Int) := by omega
      have hk2 : (k : Int) < 300 := by omega
      obtain ⟨ab, off, rfl, hab, hcell⟩ := HA.out.cell HB.out (i := k) (by omega)
      have hx := HA.out.2.2.1 k
      have HX : Hid (I64 (l k)) := hx
      clear hx
      generalize l k = x at *
      by_cases hx1 : x < 2
      · have HE : Hid (S.merr x = 1 ∧ S.first x = false ∧ S.mark x = S) := tk_out HR.out.2 (.inl hx1)
        go_wp2_with (first
          | (go_at_call 17; refine (markQ _ p _ _ _ _ x HR.out.1 HX.out (by omega)).mono ?_; rintro e w3 ⟨rfl, h3, b3, t3⟩; rw [HE.out.1, HE.out.2.1]; rw [HE.out.2.2] at h3; have HR3 : Hid (RQ w3 p q q (K + 1) S) := h3; clear h3))
        go_roundg g
        case measure => omega
        case rel => exact ⟨k + 1, K + 1, S, f, by omega, by omega, by go_num, ⟨HR3.out, HR.out.2⟩, ⟨HW.out.1.touch t3 HW.out.2.1 HW.out.2.2.1, HW.out.2⟩, HB.out.trans (b3.mono HS0.out), fun i => by have := HF.out i; omega⟩
      · by_cases hx2 : (N : Int) ≤ x
        · have HE : Hid (S.merr x = 1 ∧ S.first x = false ∧ S.mark x = S) := tk_out HR.out.2 (.inr hx2)
          go_wp2_with (first
            | (go_at_call 17; refine (markQ _ p _ _ _ _ x HR.out.1 HX.out (by omega)).mono ?_; rintro e w3 ⟨rfl, h3, b3, t3⟩; rw [HE.out.1, HE.out.2.1]; rw [HE.out.2.2] at h3; have HR3 : Hid (RQ w3 p q q (K + 1) S) := h3; clear h3))
          go_roundg g
          case measure => omega
          case rel => exact ⟨k + 1, K + 1, S, f, by omega, by omega, by go_num, ⟨HR3.out, HR.out.2⟩, ⟨HW.out.1.touch t3 HW.out.2.1 HW.out.2.2.1, HW.out.2⟩, HB.out.trans (b3.mono HS0.out), fun i => by have := HF.out i; omega⟩
        · obtain ⟨j, rfl⟩ := Int.eq_ofNat_of_zero_le (show 0 ≤ x by omega)
          have hj1 : 2 ≤ j := by omega
          have hj2 : j < N := by omega
          have HE : Hid (S.merr (j : Int) = 0 ∧ S.first (j : Int) = (f j == 0) ∧ Cn (S.mark (j : Int)) N (tk N (updI f j (f j + 1)))) := tk_mark HR.out.1.rf.ok HR.out.2 hj1 hj2
          have hf1 := (HF.out j).1
          have hf2 := (HF.out j).2
          have hf3 : f j ≤ 1000 := by omega
          have HQW : Hid (∀ w3, Touch p (some q) wr w3 → w3.cell? ⟨r, j, none⟩ = some (.int .i64 (f j)) ∧ w3.frozen? ⟨r, j, none⟩ = false ∧ Row (w3.setCell ⟨r, j, none⟩ (.int .i64 (f j + 1))) r N 3 (fun i => .int .i64 (updI f j (f j + 1) i))) := fun w3 ht => by
            have h3 := HW.out.1.touch ht HW.out.2.1 HW.out.2.2.1
            refine ⟨h3.cell hj2, h3.free j, (h3.set j _).same fun i _ => ?_⟩
            unfold upd updI
            by_cases e : i = j
            · rw [if_pos e, if_pos e]
            · rw [if_neg e, if_neg e]
          have HF2 : Hid (∀ i, 0 ≤ updI f j (f j + 1) i ∧ updI f j (f j + 1) i ≤ ((k + 1 : Nat) : Int)) := fun i => by
            unfold updI
            have := HF.out i
            by_cases e : i = j
            · rw [if_pos e]; omega
            · rw [if_neg e]; omega
          have HR0 : Hid (∀ v, v = f j → Hid (S.merr (j : Int) = 0 ∧ S.first (j : Int) = (v == 0))) := fun v e => by subst e; exact ⟨HE.out.1, HE.out.2.1⟩
          generalize hfj : f j = v at *
          clear hfj
          go_wp2_with (first
            | (go_at_call 17; refine (markQ _ p _ _ _ _ (j : Int) HR.out.1 ⟨by omega, by omega⟩ (by omega)).mono ?_; rintro e w3 ⟨rfl, h3, b3, t3⟩; rw [HE.out.1, HE.out.2.1]; obtain ⟨k3, k4, k5⟩ := HQW.out _ t3; have HR3 : Hid (RQ w3 p q q (K + 1) (S.mark (j : Int)) ∧ Row (w3.setCell ⟨r, j, none⟩ (.int .i64 (v + 1))) r N 3 (fun i => .int .i64 (updI f j (v + 1) i))) := ⟨h3, k5⟩; clear h3 k5))
          go_roundg g
          case measure => omega
          case rel => exact ⟨k + 1, K + 1, _, _, by omega, by omega, by go_num, ⟨HR3.out.1.setRow HW.out.2.1 HW.out.2.2.1, HE.out.2.2⟩, ⟨HR3.out.2, HW.out.2⟩, below_set (HB.out.trans (b3.mono HS0.out)) HW.out.2.2.2, HF2.out⟩
end Go.Proofs.Ytpgepejleklpfaa
