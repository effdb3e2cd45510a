/- RefsLeast's walk: from the contracts of refs. -/
import Derived.Test.YtpgepejleklpfaaRfW
namespace Go.Proofs.Ytpgepejleklpfaa
set_option linter.unusedVariables false
open Go.RowKit
attribute [local go_sem ↓] Go.wp_at_zero Go.wp_at_succ

/-- All below n are taken. -/
def l1 (n : Nat) : Int → Int := fun m => if 2 ≤ m ∧ m < (n : Int) then 1 else 0
/-- All are taken but those that are free; these, below n, too. -/
def l2 (N n : Nat) (f : Nat → Bool) : Int → Int := fun m => if 2 ≤ m ∧ m < (N : Int) ∧ (m < (n : Int) ∨ f m.toNat = false) then 1 else 0
theorem l1_new {N : Nat} (h : 2 ≤ N) (h2 : N ≤ 4294967296) : Cn (RfS.new (N : Int)) N (l1 2) := by
  refine ⟨by show min (max (N : Int) 2) 4294967296 = _; omega, fun m => ?_⟩
  show (0 : Int) = l1 2 m
  unfold l1
  rw [if_neg (by omega)]
theorem l1_take {S : RfS} {K N n : Nat} (h : S.Ok K) (hc : Cn S N (l1 n)) (h1 : 2 ≤ n) (h2 : n < N) : S.tookN = (n : Int) ∧ S.took = true ∧ Cn S.take N (l1 (n + 1)) := by
  have hT := take_at h (n := (n : Int)) (by omega) (by rw [hc.1]; omega) (fun j a b => by rw [hc.2]; unfold l1; rw [if_pos (by omega)]; omega) (by rw [hc.2]; unfold l1; rw [if_neg (by omega)])
  refine ⟨hT.1, hT.2.1, hc.1, fun m => ?_⟩
  rw [hT.2.2, hc.2]
  unfold l1
  by_cases e : m = (n : Int)
  · rw [if_pos e, if_pos (by omega)]
  · rw [if_neg e]
    by_cases e2 : 2 ≤ m ∧ m < (n : Int)
    · rw [if_pos e2, if_pos (by omega)]
    · rw [if_neg e2, if_neg (by omega)]
theorem l1_l2 {S : RfS} {N : Nat} (hc : Cn S N (l1 N)) : Cn S N (l2 N 2 fun _ => false) := by
  refine ⟨hc.1, fun m => ?_⟩
  rw [hc.2]
  unfold l1 l2
  by_cases e : 2 ≤ m ∧ m < (N : Int)
  · rw [if_pos e, if_pos ⟨e.1, e.2, .inr rfl⟩]
  · rw [if_neg e, if_neg (fun h => e ⟨h.1, h.2.1⟩)]
def setT (f : Nat → Bool) (j : Nat) : Nat → Bool := fun i => if i = j then true else f i
theorem l2_dec {S : RfS} {K N j : Nat} {f : Nat → Bool} (h : S.Ok K) (hc : Cn S N (l2 N 2 f)) (h1 : 2 ≤ j) (h2 : j < N) : S.last (j : Int) = !f j ∧ (S.need (j : Int) == 0) = !f j ∧ Cn (S.dec (j : Int)) N (l2 N 2 (setT f j)) := by
  have hcj : cnt S.L (j : Int) = if f j = false then 1 else 0 := by
    rw [hc.2]; unfold l2
    by_cases e : f j = false
    · rw [if_pos e, if_pos ⟨by omega, by omega, .inr (by simpa using e)⟩]
    · rw [if_neg e, if_neg (fun x => by rcases x.2.2 with y | y; omega; exact e (by simpa using y))]
  cases e : f j with
  | false =>
    rw [e, if_pos rfl] at hcj
    obtain ⟨d1, d2, d3⟩ := dec_one h (n := (j : Int)) (by omega) (by rw [hc.1]; omega) hcj
    refine ⟨by rw [d2]; rfl, by rw [d1]; rfl, by rw [RfS.dec_blocks]; exact hc.1, fun m => ?_⟩
    rw [d3, hc.2]
    unfold l2 setT
    by_cases e2 : m = (j : Int)
    · subst e2
      rw [if_pos rfl, if_neg (fun x => by rcases x.2.2 with y | y; omega; simp at y)]
    · rw [if_neg e2]
      by_cases e3 : m.toNat = j
      · rw [if_neg (by omega), if_neg (by omega)]
      · rw [if_neg e3]
  | true =>
    rw [e, if_neg (by simp)] at hcj
    obtain ⟨d1, d2, d3⟩ := dec_zero (n := (j : Int)) (by omega) (by rw [hc.1]; omega) hcj
    refine ⟨by rw [d2]; rfl, by rw [d1]; rfl, by rw [d3]; exact hc.1, fun m => ?_⟩
    rw [d3, hc.2]
    unfold l2 setT
    by_cases e3 : m.toNat = j
    · rw [if_pos e3, e3, e]
    · rw [if_neg e3]
theorem l2_take {S : RfS} {K N n : Nat} {f : Nat → Bool} (h : S.Ok K) (hc : Cn S N (l2 N n f)) (h1 : 2 ≤ n) (h2 : n < N) (hf : f n = true) : S.tookN = (n : Int) ∧ S.took = true ∧ Cn S.take N (l2 N (n + 1) f) := by
  have hT := take_at h (n := (n : Int)) (by omega) (by rw [hc.1]; omega) (fun j a b => by rw [hc.2]; unfold l2; rw [if_pos ⟨by omega, by omega, .inl b⟩]; omega) (by rw [hc.2]; unfold l2; rw [if_neg (fun x => by rcases x.2.2 with y | y; omega; simp [hf] at y)])
  refine ⟨hT.1, hT.2.1, hc.1, fun m => ?_⟩
  rw [hT.2.2, hc.2]
  unfold l2
  by_cases e : m = (n : Int)
  · rw [if_pos e, if_pos ⟨by omega, by omega, .inl (by omega)⟩]
  · rw [if_neg e]
    by_cases e2 : 2 ≤ m ∧ m < (N : Int) ∧ (m < (n : Int) ∨ f m.toNat = false)
    · rw [if_pos e2, if_pos ⟨e2.1, e2.2.1, by rcases e2.2.2 with y | y; exact .inl (by omega); exact .inr y⟩]
    · rw [if_neg e2, if_neg (fun x => e2 ⟨x.1, x.2.1, by rcases x.2.2 with y | y; exact .inl (by omega); exact .inr y⟩)]
theorem l2_skip {S : RfS} {N n : Nat} {f : Nat → Bool} (hc : Cn S N (l2 N n f)) (hf : f n = false) : Cn S N (l2 N (n + 1) f) := by
  refine ⟨hc.1, fun m => ?_⟩
  rw [hc.2]
  unfold l2
  by_cases e : m = (n : Int)
  · subst e
    have : f (n : Int).toNat = false := by simpa using hf
    by_cases e2 : 2 ≤ (n : Int) ∧ (n : Int) < (N : Int)
    · rw [if_pos ⟨e2.1, e2.2, .inr this⟩, if_pos ⟨e2.1, e2.2, .inr this⟩]
    · rw [if_neg (fun x => e2 ⟨x.1, x.2.1⟩), if_neg (fun x => e2 ⟨x.1, x.2.1⟩)]
  · by_cases e2 : 2 ≤ m ∧ m < (N : Int) ∧ (m < (n : Int) ∨ f m.toNat = false)
    · rw [if_pos e2, if_pos ⟨e2.1, e2.2.1, by rcases e2.2.2 with y | y; exact .inl (by omega); exact .inr y⟩]
    · rw [if_neg e2, if_neg (fun x => e2 ⟨x.1, x.2.1, by rcases x.2.2 with y | y; exact .inl (by omega); exact .inr y⟩)]
theorem l2_end {S : RfS} {K N : Nat} {f : Nat → Bool} (h : S.Ok K) (hc : Cn S N (l2 N N f)) : S.took = false ∧ S.take.free = 0 := by
  have hall : ∀ j, 2 ≤ j → j < S.blocks → cnt S.L j ≠ 0 := fun j a b => by
    rw [hc.1] at b
    rw [hc.2]; unfold l2; rw [if_pos ⟨a, b, .inl b⟩]; omega
  have hT := take_none h hall
  refine ⟨hT.1, h.take.full_free fun n a b => ?_⟩
  rw [hT.2]; exact hall n a b

set_option maxHeartbeats 4000000 in
set_option maxRecDepth 100000 in
theorem least_walk (w : World) (bl : Int) (a : Option Addr) (len cap : Nat) (l : Nat → Int) (hl : ArgI w a len cap l) : Calls Try.prog 6 #[.int .i64 bl, .slice a len cap] w fun e w' => e = .returned (.bool true) ∧ Below w.heap.size w w' := by
  have m1 := and65535 bl
  obtain ⟨i0, hi, hz0, hz1, hz2⟩ := info_parts Try.info_bool
  have HA : Hid (ArgI w a len cap l) := hl
  have hlen := hl.1
  unfold maxLen at hlen
  clear hl
  go_enter Try.func6, Try.ntmps6
  go_upto_region 3 with (first | (go_at_call 8; refine (shown_calls _).mono ?_; rintro e w0 ⟨rfl, b0⟩))
  obtain ⟨N, hN, hN1, hN2⟩ : ∃ N : Nat, 3 + bl % 65536 % 500 = (N : Int) ∧ 3 ≤ N ∧ N ≤ 502 := ⟨(3 + bl % 65536 % 500).toNat, by omega, by omega, by omega⟩
  simp only [hN]
  clear hN m1
  have Bw : Below w.heap.size w w0 := b0
  go_wp2_with (go_at_call 9; refine (newQ _ (N : Int) ⟨by omega, by omega⟩).mono ?_; rintro e w1 ⟨rfl, h1, b1⟩)
  have hs0 := Bw.size
  have HW : Hid (Below w.heap.size w w1) := Bw.trans (b1.mono hs0)
  have HQ : Hid (RQ w1 (w0.heap.size + 1) w0.heap.size w0.heap.size 0 (RfS.new (N : Int)) ∧ Cn (RfS.new (N : Int)) N (l1 2)) := ⟨h1, l1_new (by omega) (by omega)⟩
  have HS0 : Hid (w.heap.size ≤ w0.heap.size) := hs0
  clear h1 b1 Bw b0 hs0
  generalize w0.heap.size + 1 = p at *
  generalize w0.heap.size = q at *
  go_loopg [7] (N - 2) (fun g i wr => ∃ (n K : Nat) (S : RfS), n + g = N ∧ 2 ≤ n ∧ K ≤ n ∧ i = .int .i64 (n : Int) ∧ Hid (RQ wr p q q K S ∧ Cn S N (l1 n)) ∧ Hid (Below w.heap.size w wr))
  case atStart => exact ⟨2, 0, _, by omega, by omega, by omega, rfl, HQ, HW⟩
  case round =>
    clear HQ HW
    obtain ⟨n, K, S, hn, hn2, hK, rfl, HR, HB⟩ := hrel
    cases gk with
    | zero =>
      have e : n = N := by omega
      subst e
      go_upto_region 13 with (at_make; refine wpList_make_full _ rfl (.tmp 46) (.tmp 46) 49 rfl wr.heap.size 4 i0 (.bool false) 1 Try.underlying49 hi hz0 hz1 .i64 .i64 (n : Int) (n : Int) n rfl rfl rfl rfl (by rw [hz2]; omega) (by unfold maxLen; omega) (Nat.le_refl _) ?_; intro w2 hown hgrow)
      have hg2 : Below wr.heap.size wr w2 := (Below.refl _ _).grown hgrow (Nat.le_refl _) (fun k hk => by cases hk)
      have hlt := HR.out.1.lt
      have hsz := HB.out.size
      have HR2 : Hid (RQ w2 p q q K S ∧ Cn S n (l2 n 2 fun _ => false)) := ⟨HR.out.1.below hg2 (Nat.le_refl _), l1_l2 HR.out.2⟩
      have HW2 : Hid (Row w2 wr.heap.size n 4 (fun i => .bool ((fun _ => false : Nat → Bool) i)) ∧ wr.heap.size ≠ p ∧ wr.heap.size ≠ q ∧ w.heap.size ≤ wr.heap.size) := ⟨made_row rfl hown, by omega, by omega, hsz⟩
      have HB2 : Hid (Below w.heap.size w w2) := HB.out.trans (hg2.mono hsz)
      clear HR HB hown hgrow hg2 hlt hsz
      generalize wr.heap.size = r at *
      go_wp2_with fail
      go_loopg [11] (min len 100) (fun g i wr => ∃ (k K : Nat) (S : RfS) (f : Nat → Bool), k + g = min len 100 ∧ K ≤ n + k ∧ i = .int .i64 (k : Int) ∧ Hid (RQ wr p q q K S ∧ Cn S n (l2 n 2 f)) ∧ Hid (Row wr r n 4 (fun i => .bool (f i)) ∧ r ≠ p ∧ r ≠ q ∧ w.heap.size ≤ r) ∧ Hid (Below w.heap.size w wr))
      case atStart => exact ⟨0, K, S, _, by omega, by omega, rfl, HR2, HW2, HB2⟩
      case round =>
        clear HR2 HW2 HB2
        obtain ⟨k, K, S, f, hk, hK, rfl, HR, HW, HB⟩ := hrel
        cases gk with
        | zero =>
          rcases (show k = len ∨ ((k : Int) < (len : Int) ∧ k = 100) by omega) with hke | ⟨hk1, hk2⟩
          · subst hke
            go_upto_region 21 with fail
            all_goals
              go_wp2_with fail
              go_loopg [15] (n - 2) (fun g i wy => ∃ (m K2 : Nat) (S2 : RfS), m + g = n ∧ 2 ≤ m ∧ K2 ≤ K + m ∧ i = .int .i64 (m : Int) ∧ Hid (RQ wy p q q K2 S2 ∧ Cn S2 n (l2 n m f)) ∧ Hid (Row wy r n 4 (fun i => .bool (f i))) ∧ Hid (Below w.heap.size w wy))
              case atStart => exact ⟨2, K, S, by omega, by omega, by omega, rfl, HR, HW.out.1, HB⟩
              case round =>
                clear HR HB
                obtain ⟨m, K2, S2, hm, hm2, hK2, rfl, HR, HW2, HB⟩ := hrel
                cases gk with
                | zero =>
                  have e : m = n := by omega
                  subst e
                  have E := l2_end HR.out.1.rf.ok HR.out.2
                  have HE : Hid (S2.took = false ∧ S2.take.free = 0) := E
                  clear E
                  go_wp2_with (first
                    | (go_at_call 18; refine (takeQ _ p _ _ _ _ HR.out.1 (by omega)).mono ?_; rintro e w5 ⟨rfl, h5, b5, -⟩; rw [HE.out.1]; have HR5 : Hid (RQ w5 p q q (K2 + 1) S2.take) := h5; clear h5)
                    | (go_at_call 20; refine (freeQ _ p _ _ _ _ HR5.out (by omega)).mono ?_; rintro e w6 ⟨rfl, h6, b6⟩; rw [HE.out.2]))
                  go_ret
                  exact ⟨by simp, (HB.out.trans (b5.mono HS0.out)).trans (b6.mono (by have := HR5.out.size; have := HS0.out; omega))⟩
                | succ g =>
                  have hmn : (m : Int) < (n : Int) := by omega
                  have hc := HW2.out.cell (i := m) (by omega)
                  cases hf : f m with
                  | false =>
                    rw [hf] at hc
                    have HE : Hid (Cn S2 n (l2 n (m + 1) f)) := l2_skip HR.out.2 hf
                    clear hf
                    go_wp2_with fail
                    go_roundg g
                    case measure => omega
                    case rel => exact ⟨m + 1, K2, S2, by omega, by omega, by omega, by go_num, ⟨HR.out.1, HE.out⟩, HW2, HB⟩
                  | true =>
                    rw [hf] at hc
                    have HE : Hid (S2.tookN = (m : Int) ∧ S2.took = true ∧ Cn S2.take n (l2 n (m + 1) f)) := l2_take HR.out.1.rf.ok HR.out.2 hm2 (by omega) hf
                    clear hf
                    go_wp2_with (first
                      | (go_at_call 18; refine (takeQ _ p _ _ _ _ HR.out.1 (by omega)).mono ?_; rintro e w5 ⟨rfl, h5, b5, t5⟩; rw [HE.out.1, HE.out.2.1]; have HR5 : Hid (RQ w5 p q q (K2 + 1) S2.take ∧ Row w5 r n 4 (fun i => .bool (f i))) := ⟨h5, HW2.out.touch t5 HW.out.2.1 HW.out.2.2.1⟩; clear h5))
                    go_roundg g
                    case measure => omega
                    case rel => exact ⟨m + 1, K2 + 1, _, by omega, by omega, by omega, by go_num, ⟨HR5.out.1, HE.out.2.2⟩, HR5.out.2, HB.out.trans (b5.mono HS0.out)⟩
          · subst hk2
            go_upto_region 21 with fail
            all_goals
              go_wp2_with fail
              go_loopg [15] (n - 2) (fun g i wy => ∃ (m K2 : Nat) (S2 : RfS), m + g = n ∧ 2 ≤ m ∧ K2 ≤ K + m ∧ i = .int .i64 (m : Int) ∧ Hid (RQ wy p q q K2 S2 ∧ Cn S2 n (l2 n m f)) ∧ Hid (Row wy r n 4 (fun i => .bool (f i))) ∧ Hid (Below w.heap.size w wy))
              case atStart => exact ⟨2, K, S, by omega, by omega, by omega, rfl, HR, HW.out.1, HB⟩
              case round =>
                clear HR HB
                obtain ⟨m, K2, S2, hm, hm2, hK2, rfl, HR, HW2, HB⟩ := hrel
                cases gk with
                | zero =>
                  have e : m = n := by omega
                  subst e
                  have E := l2_end HR.out.1.rf.ok HR.out.2
                  have HE : Hid (S2.took = false ∧ S2.take.free = 0) := E
                  clear E
                  go_wp2_with (first
                    | (go_at_call 18; refine (takeQ _ p _ _ _ _ HR.out.1 (by omega)).mono ?_; rintro e w5 ⟨rfl, h5, b5, -⟩; rw [HE.out.1]; have HR5 : Hid (RQ w5 p q q (K2 + 1) S2.take) := h5; clear h5)
                    | (go_at_call 20; refine (freeQ _ p _ _ _ _ HR5.out (by omega)).mono ?_; rintro e w6 ⟨rfl, h6, b6⟩; rw [HE.out.2]))
                  go_ret
                  exact ⟨by simp, (HB.out.trans (b5.mono HS0.out)).trans (b6.mono (by have := HR5.out.size; have := HS0.out; omega))⟩
                | succ g =>
                  have hmn : (m : Int) < (n : Int) := by omega
                  have hc := HW2.out.cell (i := m) (by omega)
                  cases hf : f m with
                  | false =>
                    rw [hf] at hc
                    have HE : Hid (Cn S2 n (l2 n (m + 1) f)) := l2_skip HR.out.2 hf
                    clear hf
                    go_wp2_with fail
                    go_roundg g
                    case measure => omega
                    case rel => exact ⟨m + 1, K2, S2, by omega, by omega, by omega, by go_num, ⟨HR.out.1, HE.out⟩, HW2, HB⟩
                  | true =>
                    rw [hf] at hc
                    have HE : Hid (S2.tookN = (m : Int) ∧ S2.took = true ∧ Cn S2.take n (l2 n (m + 1) f)) := l2_take HR.out.1.rf.ok HR.out.2 hm2 (by omega) hf
                    clear hf
                    go_wp2_with (first
                      | (go_at_call 18; refine (takeQ _ p _ _ _ _ HR.out.1 (by omega)).mono ?_; rintro e w5 ⟨rfl, h5, b5, t5⟩; rw [HE.out.1, HE.out.2.1]; have HR5 : Hid (RQ w5 p q q (K2 + 1) S2.take ∧ Row w5 r n 4 (fun i => .bool (f i))) := ⟨h5, HW2.out.touch t5 HW.out.2.1 HW.out.2.2.1⟩; clear h5))
                    go_roundg g
                    case measure => omega
                    case rel => exact ⟨m + 1, K2 + 1, _, by omega, by omega, by omega, by go_num, ⟨HR5.out.1, HE.out.2.2⟩, HR5.out.2, HB.out.trans (b5.mono HS0.out)⟩
        | succ g =>
          have hk1 : (k : Int) < (len : Int) := by omega
          have hk2 : (k : Int) < 100 := by omega
          obtain ⟨ab, off, rfl, hab, hcell⟩ := HA.out.cell HB.out (i := k) (by omega)
          have m2 := and24 (l k)
          generalize l k = x at *
          go_upto_region 17 with fail
          obtain ⟨j, hj, hj1, hj2⟩ := mod_n n x 16777216 (by omega) (by omega) (by omega)
          simp only [hj]
          clear hj m2 hcell
          have E := l2_dec HR.out.1.rf.ok HR.out.2 hj1 hj2
          have HE : Hid (S.last (j : Int) = !f j ∧ (S.need (j : Int) == 0) = !f j ∧ Cn (S.dec (j : Int)) n (l2 n 2 (setT f j))) := E
          clear E
          have hjn : (j : Int) < (n : Int) := by omega
          have HQW : Hid (∀ w3, Touch p (some q) wr w3 → w3.cell? ⟨r, j, none⟩ = some (.bool (f j)) ∧ w3.frozen? ⟨r, j, none⟩ = false ∧ Row (w3.setCell ⟨r, j, none⟩ (.bool true)) r n 4 (fun i => .bool (setT f j i))) := fun w3 ht => by
            have h3 := HW.out.1.touch ht HW.out.2.1 HW.out.2.2.1
            refine ⟨h3.cell hj2, h3.free j, (h3.set j (.bool true)).same fun i _ => ?_⟩
            unfold upd setT
            by_cases e : i = j
            · rw [if_pos e, if_pos e]
            · rw [if_neg e, if_neg e]
          go_upto_region 20 with (first
            | (go_at_call 22; refine (decQ _ p _ _ _ _ (j : Int) HR.out.1 ⟨by omega, by omega⟩ (by omega)).mono ?_; rintro e w3 ⟨rfl, h3, b3, t3⟩; rw [HE.out.1]; have HN := HE.out.2.1; generalize S.need (j : Int) = en at *; obtain ⟨k3, k4, k5⟩ := HQW.out _ t3; have HR3 : Hid (RQ w3 p q q (K + 1) (S.dec (j : Int)) ∧ Row (w3.setCell ⟨r, j, none⟩ (.bool true)) r n 4 (fun i => .bool (setT f j i))) := ⟨h3, k5⟩; clear h3 k5; cases hf : f j <;> rw [hf] at HN k3))
          all_goals
            go_wp2
            go_roundg g
            case measure => omega
            case rel => exact ⟨k + 1, K + 1, _, _, by omega, by omega, by go_num, ⟨HR3.out.1.setRow HW.out.2.1 HW.out.2.2.1, HE.out.2.2⟩, ⟨HR3.out.2, HW.out.2⟩, below_set (HB.out.trans (b3.mono HS0.out)) HW.out.2.2.2⟩
    | succ g =>
      have E := l1_take HR.out.1.rf.ok HR.out.2 hn2 (by omega)
      have HE : Hid (S.tookN = (n : Int) ∧ S.took = true ∧ Cn S.take N (l1 (n + 1))) := E
      clear E
      have hlt : (n : Int) < (N : Int) := by omega
      go_wp2_with (first
        | (go_at_call 18; refine (takeQ _ p _ _ _ _ HR.out.1 (by omega)).mono ?_; rintro e w2 ⟨rfl, h2, b2, -⟩; rw [HE.out.1, HE.out.2.1]))
      go_roundg g
      case measure => omega
      case rel => exact ⟨n + 1, K + 1, _, by omega, by omega, by omega, by go_num, ⟨h2, HE.out.2.2⟩, HB.out.trans (b2.mono HS0.out)⟩
end Go.Proofs.Ytpgepejleklpfaa
