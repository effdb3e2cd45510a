/- What the calls that change counts come to: Inc, Mark, Dec, Take. -/
import Derived.Test.YtpgepejleklpfaaRfB
namespace Go.Proofs.Ytpgepejleklpfaa
set_option linter.unusedVariables false
open Go.RowKit
attribute [local go_sem ↓] Go.wp_at_zero Go.wp_at_succ

theorem Rf.put {w w' : World} {p b K : Nat} {S : RfS} (h : Rf w p b K S) {n c : Int} (hm : MapR w' b (K + 1) (putL S.L n c)) (hg : w.grownBy w' (some b)) (hn : 2 ≤ n ∧ n < S.blocks) (hc : 1 ≤ c ∧ c ≤ (K : Int) + 1) :
    RGo w p b K ⟨S.blocks, putL S.L n c, S.low⟩ w' :=
  ⟨⟨h.ok.put hn hc, (hg.block p h.lt.1 (fun e => h.pb (by cases e; rfl))).trans h.blk, hm, h.pb⟩, (Touch.refl _ _ _).grown hg⟩
theorem Rf.same {w : World} {p b K : Nat} {S : RfS} (h : Rf w p b K S) : RGo w p b K S w := ⟨h.mono (Nat.le_succ _), Touch.refl _ _ _⟩

set_option maxHeartbeats 1000000 in
theorem inc_calls (w : World) (p b K : Nat) (S : RfS) (n : Int) (h : Rf w p b K S) (hn : I64 n) (hK : K ≤ 1000000) : Calls Try.prog 23 #[.pointer (some ⟨p, 0, none⟩), .int .i64 n] w fun e w' => e = .returned (.int .i64 (S.need n)) ∧ RGo w p b K (S.inc n) w' := by
  obtain ⟨_, c1, _⟩ := cells3 h.blk
  have hl := h.mp.look hn
  have hh := needed_calls w p b K S n h hn
  by_cases hz : S.need n = 0
  · have E : Hid (S.inc n = ⟨S.blocks, putL S.L n (cnt S.L n + 1), S.low⟩) := by show _ = _; unfold RfS.inc; rw [if_pos hz]
    have hc := h.ok.cnt0 n
    have HR : Hid (∀ w', MapR w' b (K + 1) (putL S.L n (cnt S.L n + 1)) → w.grownBy w' (some b) → RGo w p b K ⟨S.blocks, putL S.L n (cnt S.L n + 1), S.low⟩ w') := fun w' h1 h2 => h.put h1 h2 (RfS.has_iff.1 (RfS.need_zero hz).1) ⟨by omega, by omega⟩
    have HM : Hid (MapR w b K S.L) := h.mp
    have c2 : cnt S.L n ≤ 1000000 := by omega
    have c3 := hc.1
    rw [hz] at hh
    have HZ : Hid (S.need n = 0) := hz
    clear hc hz h
    generalize hcc : cnt S.L n = c at *
    clear hcc
    go_enter Try.func23, Try.ntmps23
    go_wp2_with (first | (go_at_call 38; refine hh.mono ?_; rintro e w1 ⟨rfl, rfl⟩) | (at_mapUpdate; refine wpList_store_r _ rfl _ _ _ rfl b K S.L rfl HM.out (by unfold maxLen; omega) n hn rfl (c + 1) ⟨by omega, by omega⟩ rfl ?_; intro w2 hm2 hg2))
    go_ret
    exact ⟨by rw [HZ.out]; rfl, by rw [E.out]; exact HR.out _ hm2 hg2⟩
  · have E : Hid (S.inc n = S) := by show _ = _; unfold RfS.inc; rw [if_neg hz]
    have HS : Hid (RGo w p b K S w) := h.same
    have hz2 : (S.need n == 0) = false := by simpa using hz
    clear hz h hl c1
    generalize S.need n = c at *
    go_enter Try.func23, Try.ntmps23
    go_wp2_with (first | (go_at_call 38; refine hh.mono ?_; rintro e w1 ⟨rfl, rfl⟩))
    go_ret
    exact ⟨rfl, by rw [E.out]; exact HS.out⟩

set_option maxHeartbeats 1000000 in
theorem mark_calls (w : World) (p b K : Nat) (S : RfS) (n : Int) (h : Rf w p b K S) (hn : I64 n) (hK : K ≤ 1000000) : Calls Try.prog 17 #[.pointer (some ⟨p, 0, none⟩), .int .i64 n] w fun e w' => e = .returned (.tuple #[.bool (S.first n), .int .i64 (S.merr n)]) ∧ RGo w p b K (S.mark n) w' := by
  obtain ⟨_, c1, _⟩ := cells3 h.blk
  have hl := h.mp.look hn
  have hh := has_calls w p b K S n h
  cases hz : S.has n with
  | true =>
    have E : Hid (S.mark n = ⟨S.blocks, putL S.L n (cnt S.L n + 1), S.low⟩ ∧ S.first n = (cnt S.L n + 1 == 1) ∧ S.merr n = 0) := by
      refine ⟨?_, ?_, ?_⟩
      · unfold RfS.mark; rw [if_pos hz]
      · unfold RfS.first; rw [hz]; by_cases e : cnt S.L n = 0 <;> simp [e]; omega
      · unfold RfS.merr; rw [if_pos hz]
    have hc := h.ok.cnt0 n
    have HR : Hid (∀ w', MapR w' b (K + 1) (putL S.L n (cnt S.L n + 1)) → w.grownBy w' (some b) → RGo w p b K ⟨S.blocks, putL S.L n (cnt S.L n + 1), S.low⟩ w' ∧ w'.cell? ⟨p, 1, none⟩ = some (.map (some b)) ∧ (Instr.lookup 51 (.map (some b)) (.int .i64 n) false).run Try.prog w' = .ok (.int .i64 (cnt S.L n + 1)) w') := fun w' h1 h2 => by
      have h3 := h.put h1 h2 (RfS.has_iff.1 hz) ⟨by omega, by omega⟩
      have h4 := h1.look hn
      rw [cnt_put h.ok.rise, if_pos rfl] at h4
      exact ⟨h3, (cells3 h3.1.blk).2.1, h4⟩
    have HM : Hid (MapR w b K S.L) := h.mp
    have c2 : cnt S.L n ≤ 1000000 := by omega
    have c3 := hc.1
    rw [hz] at hh
    clear hc hz h
    generalize hcc : cnt S.L n = c at *
    clear hcc
    go_enter Try.func17, Try.ntmps17
    go_wp2_with (first | (go_at_call 34; refine hh.mono ?_; rintro e w1 ⟨rfl, rfl⟩) | (at_mapUpdate; refine wpList_store_r _ rfl _ _ _ rfl b K S.L rfl HM.out (by unfold maxLen; omega) n hn rfl (c + 1) ⟨by omega, by omega⟩ rfl ?_; intro w2 hm2 hg2; obtain ⟨R2, k2, l2⟩ := HR.out _ hm2 hg2; clear hm2 hg2))
    go_ret2
    exact ⟨by rw [E.out.2.1, E.out.2.2]; rfl, by rw [E.out.1]; exact R2⟩
  | false =>
    have E : Hid (S.mark n = S ∧ S.first n = false ∧ S.merr n = 1) := by
      refine ⟨?_, ?_, ?_⟩
      · unfold RfS.mark; rw [if_neg (by rw [hz]; simp)]
      · unfold RfS.first; rw [hz]; simp
      · unfold RfS.merr; rw [if_neg (by rw [hz]; simp)]
    have HS : Hid (RGo w p b K S w) := h.same
    rw [hz] at hh
    clear hz h hl c1
    go_enter Try.func17, Try.ntmps17
    go_wp2_with (first | (go_at_call 34; refine hh.mono ?_; rintro e w1 ⟨rfl, rfl⟩))
    go_ret2
    exact ⟨by rw [E.out.2.1, E.out.2.2]; rfl, by rw [E.out.1]; exact HS.out⟩

set_option maxHeartbeats 1000000 in
set_option maxRecDepth 100000 in
theorem dec_calls (w : World) (p b K : Nat) (S : RfS) (n : Int) (h : Rf w p b K S) (hn : I64 n) (hK : K ≤ 1000000) : Calls Try.prog 22 #[.pointer (some ⟨p, 0, none⟩), .int .i64 n] w fun e w' => e = .returned (.tuple #[.bool (S.last n), .int .i64 (S.need n)]) ∧ RGo w p b K (S.dec n) w' := by
  obtain ⟨_, c1, _⟩ := cells3 h.blk
  have hl := h.mp.look hn
  have hh := needed_calls w p b K S n h hn
  by_cases hz : S.need n = 0
  · have hc := h.ok.cnt0 n
    have hc0 := (RfS.need_zero hz).2
    have hin := RfS.has_iff.1 (RfS.need_zero hz).1
    have HM : Hid (MapR w b K S.L) := h.mp
    have HZ : Hid (S.need n = 0) := hz
    have HG : Hid (∀ w', MapR w' b (K + 1) (putL S.L n (cnt S.L n - 1)) → w.grownBy w' (some b) → w'.cell? ⟨p, 1, none⟩ = some (.map (some b)) ∧ (Instr.lookup 51 (.map (some b)) (.int .i64 n) false).run Try.prog w' = .ok (.int .i64 (cnt S.L n - 1)) w') := fun w' h1 h2 => by
      have h4 := h1.look hn
      rw [cnt_put h.ok.rise, if_pos rfl] at h4
      refine ⟨?_, h4⟩
      exact (cells3 ((h2.block p h.lt.1 (fun e => h.pb (by cases e; rfl))).trans h.blk)).2.1
    rw [hz] at hh
    by_cases h1 : cnt S.L n = 1
    · have E : Hid (S.dec n = ⟨S.blocks, delL S.L n, min S.low n⟩ ∧ S.last n = true) := by
        refine ⟨?_, ?_⟩
        · unfold RfS.dec; rw [if_pos hz, if_pos h1]
        · unfold RfS.last; simp [hz, h1]
      have HR : Hid (∀ w' w'', MapR w' b (K + 1) (putL S.L n 0) → w.grownBy w' (some b) → MapR w'' b (K + 1) (delL (putL S.L n 0) n) → w'.grownBy w'' (some b) → w''.cell? ⟨p, 2, none⟩ = some (.int .i64 S.low) ∧ w''.frozen? ⟨p, 2, none⟩ = false ∧ ∀ m, m = min S.low n → RGo w p b K ⟨S.blocks, delL S.L n, min S.low n⟩ (w''.setCell ⟨p, 2, none⟩ (.int .i64 m))) := fun w' w'' a1 a2 a3 a4 => by
        have e1 := (a2.block p h.lt.1 (fun e => h.pb (by cases e; rfl))).trans h.blk
        have e2 := (a4.block p (lt_block e1) (fun e => h.pb (by cases e; rfl))).trans e1
        refine ⟨(cells3 e2).2.2, (free3 e2).2.2, fun m hm => ?_⟩
        subst hm
        rw [del_put] at a3
        refine ⟨⟨(h.ok.del n hin.1).mono (Nat.le_succ _), (set3 e2).2.2, a3.kept ?_, h.pb⟩, (((Touch.refl _ _ _).grown a2).grown a4).setCell _ _⟩
        exact Below.heap_setCell _ _ _ _ (by simpa using h.pb.symm)
      have l1 : 2 ≤ S.low := h.ok.l1
      have l2 : S.low ≤ S.blocks := h.ok.l2
      have l3 := h.ok.b2
      rw [h1] at HG hl
      have n1 := hin.1
      have n2 := hin.2
      clear h hz hc hc0 h1 hin
      generalize S.low = lo at *
      generalize S.blocks = bl at *
      go_enter Try.func22, Try.ntmps22
      go_wp2_with (first | (go_at_call 38; refine hh.mono ?_; rintro e w1 ⟨rfl, rfl⟩) | (at_mapUpdate; go_loud (refine wpList_store_r _ rfl _ _ _ rfl b K S.L rfl HM.out (by unfold maxLen; omega) n hn rfl 0 ⟨by omega, by omega⟩ rfl ?_; intro w2 hm2 hg2; obtain ⟨k2, x2⟩ := HG.out _ hm2 hg2; have HM2 : Hid (MapR w2 b (K + 1) (putL S.L n 0)) := hm2; have HG2 : Hid (World.grownBy _ w2 (some b)) := hg2; clear hm2 hg2)) | (at_delete; refine wpList_delete_r _ rfl _ _ rfl b (K + 1) (putL S.L n 0) rfl HM2.out n hn rfl ?_; intro w3 hm3 hg3; obtain ⟨k3, k4, k5⟩ := HR.out _ _ HM2.out HG2.out hm3 hg3; clear hm3 hg3))
      all_goals
        go_ret2
        exact ⟨by rw [E.out.2, HZ.out]; rfl, by rw [E.out.1]; exact k5 _ (by omega)⟩
    · have E : Hid (S.dec n = ⟨S.blocks, putL S.L n (cnt S.L n - 1), S.low⟩ ∧ S.last n = false) := by
        refine ⟨?_, ?_⟩
        · unfold RfS.dec; rw [if_pos hz, if_neg h1]
        · unfold RfS.last; simp [h1]
      have HR : Hid (∀ w', MapR w' b (K + 1) (putL S.L n (cnt S.L n - 1)) → w.grownBy w' (some b) → RGo w p b K ⟨S.blocks, putL S.L n (cnt S.L n - 1), S.low⟩ w') := fun w' a1 a2 => h.put a1 a2 hin ⟨by omega, by omega⟩
      have c2 : cnt S.L n ≤ 1000000 := by omega
      have c3 : 2 ≤ cnt S.L n := by omega
      clear h hz hc hc0 h1
      generalize hcc : cnt S.L n = c at *
      clear hcc
      go_enter Try.func22, Try.ntmps22
      go_wp2_with (first | (go_at_call 38; refine hh.mono ?_; rintro e w1 ⟨rfl, rfl⟩) | (at_mapUpdate; refine wpList_store_r _ rfl _ _ _ rfl b K S.L rfl HM.out (by unfold maxLen; omega) n hn rfl (c - 1) ⟨by omega, by omega⟩ rfl ?_; intro w2 hm2 hg2; obtain ⟨k2, x2⟩ := HG.out _ hm2 hg2; have R2 := HR.out _ hm2 hg2; clear hm2 hg2))
      go_ret2
      exact ⟨by rw [E.out.2, HZ.out]; rfl, by rw [E.out.1]; exact R2⟩
  · have E : Hid (S.dec n = S ∧ S.last n = false) := by
      refine ⟨?_, ?_⟩
      · unfold RfS.dec; rw [if_neg hz]
      · unfold RfS.last; simp [hz]
    have HS : Hid (RGo w p b K S w) := h.same
    have hz2 : (S.need n == 0) = false := by simpa using hz
    clear hz h hl c1
    generalize S.need n = c at *
    go_enter Try.func22, Try.ntmps22
    go_wp2_with (first | (go_at_call 38; refine hh.mono ?_; rintro e w1 ⟨rfl, rfl⟩))
    go_ret2
    exact ⟨by rw [E.out.2]; rfl, by rw [E.out.1]; exact HS.out⟩
end Go.Proofs.Ytpgepejleklpfaa
