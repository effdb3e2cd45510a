/- What the document's own Take, Used and Same come to; two lists of numbers held against one another. -/
import Derived.Test.YtpgepejleklpfaaRpC
namespace Go.Proofs.Ytpgepejleklpfaa
set_option linter.unusedVariables false
open Go.RowKit
attribute [local go_sem ↓] Go.wp_at_zero Go.wp_at_succ

theorem run_next {S : RfS} {K : Nat} (hok : S.Ok K) {i : Nat} (hi : i ≤ S.L.length) (hrun : ∀ j (hj : j < S.L.length), j < i → S.L[j].1 = 2 + (j : Int)) (hend : i = S.L.length ∨ ∃ h : i < S.L.length, S.L[i].1 ≠ 2 + (i : Int)) : S.next = 2 + (i : Int) := by
  obtain ⟨a1, a2⟩ := run_free hok.rise (fun p hp => (hok.inB p hp).1) hi hrun hend
  refine RfS.next_is hok (by omega) ?_ (fun j x y => ?_) (fun _ => a2)
  · by_cases e : i = 0
    · subst e; have := hok.b1; simpa using this
    · have h1 := hrun (i - 1) (by omega) (by omega)
      have h2 := hok.inB _ (List.getElem_mem (show i - 1 < S.L.length by omega))
      rw [h1] at h2
      omega
  · obtain ⟨p, hp, rfl⟩ := a1 j x y
    rw [cnt_mem hok.rise hp]
    have := hok.inB p hp
    omega
set_option maxHeartbeats 4000000 in
set_option maxRecDepth 100000 in
theorem rtake_calls (w : World) (q : Nat) (lv : Value) (S : RfS) (K bs : Nat) (h : RD w q lv S.blocks S.L bs) (hok : S.Ok K) (hL : S.L.length ≤ 1000) (hbs : bs ≤ w.heap.size) : Calls Try.prog 28 #[.pointer (some ⟨q, 0, none⟩)] w fun e w' => e = .returned (.tuple #[.int .i64 S.tookN, .bool S.took]) ∧ DGo w q lv S.blocks S.take.L bs w' := by
  obtain ⟨c0, c1⟩ := cells2 h.blk
  have HR : Hid (RD w q lv S.blocks S.L bs) := h
  have HS : Hid (DGo w q lv S.blocks S.L bs w) := h.same
  have HO : Hid (S.Ok K) := hok
  have HSET : Hid (∀ n, Calls Try.prog 41 #[.pointer (some ⟨q, 0, none⟩), .int .i64 n, .int .i64 1] w fun e w' => e = .returned (.tuple #[]) ∧ DGo w q lv S.blocks (putL S.L n 1) bs w') := fun n => by
    have := rset_calls w q lv S.blocks S.L bs n 1 h hok.rise hL hbs
    rw [set_pos (by omega)] at this
    exact this
  have HB : Hid (2 ≤ S.blocks ∧ S.blocks ≤ 4294967296) := ⟨hok.b1, hok.b2⟩
  obtain ⟨la, lc, rfl⟩ := h.form
  clear h hok
  obtain ⟨N, hN⟩ : ∃ N, N = S.L.length := ⟨_, rfl⟩
  rw [← hN] at HR hL HS HSET c1
  have HN : Hid (N = S.L.length) := hN
  have HFM : Hid (Value.slice la S.L.length lc = Value.slice la N lc) := by show _ = _; rw [hN]
  rw [HFM.out]
  clear hN
  go_enter Try.func28, Try.ntmps28
  go_wp2
  go_loopg [4, 5] N (fun g nv i wr => ∃ k : Nat, k + g = N ∧ i = .int .i64 (k : Int) ∧ nv = .int .i64 (2 + (k : Int)) ∧ wr = w ∧ Hid (∀ j (hj : j < S.L.length), j < k → S.L[j].1 = 2 + (j : Int)))
  case atStart => exact ⟨0, by omega, rfl, rfl, rfl, fun j _ h => by omega⟩
  case round =>
    obtain ⟨k, hk, rfl, rfl, rfl, HE⟩ := hrel
    have HEnd : Hid (∀ (_ : k = S.L.length ∨ ∃ h : k < S.L.length, S.L[k].1 ≠ 2 + (k : Int)), S.next = 2 + (k : Int)) := fun hh => run_next HO.out (by have := HN.out; omega) HE.out hh
    cases gk with
    | zero =>
      have e : k = N := by omega
      subst e
      have hnx := HEnd.out (.inl HN.out)
      by_cases hb : S.next = S.blocks
      · have E : Hid (S.take.L = S.L ∧ S.tookN = 0 ∧ S.took = false) := ⟨by unfold RfS.take; simp only [if_pos hb], by unfold RfS.tookN; rw [if_pos hb], by unfold RfS.took; rw [hb]; simp⟩
        have hge : S.blocks ≤ 2 + (k : Int) := by omega
        clear hb hnx
        go_wp2_with fail
        go_ret2
        exact ⟨by rw [E.out.2.1, E.out.2.2]; rfl, by rw [E.out.1]; exact HS.out⟩
      · have E : Hid (S.take.L = putL S.L (2 + (k : Int)) 1 ∧ S.tookN = 2 + (k : Int) ∧ S.took = true) := ⟨by unfold RfS.take; simp only [if_neg hb]; rw [hnx], by unfold RfS.tookN; rw [if_neg hb, hnx], by unfold RfS.took; simpa using hb⟩
        have hge : ¬ S.blocks ≤ 2 + (k : Int) := by have := HO.out.next.2.1; omega
        have hset := HSET.out (2 + (k : Int))
        clear hb hnx
        go_wp2_with (first | (go_at_call 41; refine hset.mono ?_; rintro e w2 ⟨rfl, h2⟩))
        go_ret2
        exact ⟨by rw [E.out.2.1, E.out.2.2]; rfl, by rw [E.out.1]; exact h2⟩
    | succ g =>
      have hlt : (k : Int) < (N : Int) := by omega
      have hkl : k < S.L.length := by have := HN.out; omega
      obtain ⟨g0, cc, e0, hc0, d1, d2⟩ := HR.out.at hkl
      rw [← HN.out] at e0 hc0
      cases e0
      by_cases e : S.L[k].1 = 2 + (k : Int)
      · have HE2 : Hid (∀ j (hj : j < S.L.length), j < k + 1 → S.L[j].1 = 2 + (j : Int)) := fun j hj hjk => by
          by_cases ej : j = k
          · subst ej; exact e
          · exact HE.out j hj (by omega)
        rw [e] at d1
        clear e
        have hw1 : wrap64 (2 + (k : Int) + 1) = 2 + ((k + 1 : Nat) : Int) := by rw [wrap64_of_range (by omega) (by omega)]; omega
        go_wp2_with fail
        go_roundg g
        case measure => omega
        case rel => exact ⟨k + 1, by omega, by go_num, by first | rfl | (congr 1; omega) | (rw [hw1]), rfl, HE2⟩
      · have hnx := HEnd.out (.inr ⟨hkl, e⟩)
        have e2 : (S.L[k].1 == 2 + (k : Int)) = false := by simpa using e
        generalize S.L[k] = p at *
        clear e
        by_cases hb : S.next = S.blocks
        · have E : Hid (S.take.L = S.L ∧ S.tookN = 0 ∧ S.took = false) := ⟨by unfold RfS.take; simp only [if_pos hb], by unfold RfS.tookN; rw [if_pos hb], by unfold RfS.took; rw [hb]; simp⟩
          have hge : S.blocks ≤ 2 + (k : Int) := by omega
          clear hb hnx
          go_wp2_with fail
          go_ret2
          exact ⟨by rw [E.out.2.1, E.out.2.2]; rfl, by rw [E.out.1]; exact HS.out⟩
        · have E : Hid (S.take.L = putL S.L (2 + (k : Int)) 1 ∧ S.tookN = 2 + (k : Int) ∧ S.took = true) := ⟨by unfold RfS.take; simp only [if_neg hb]; rw [hnx], by unfold RfS.tookN; rw [if_neg hb, hnx], by unfold RfS.took; simpa using hb⟩
          have hge : ¬ S.blocks ≤ 2 + (k : Int) := by have := HO.out.next.2.1; omega
          have hset := HSET.out (2 + (k : Int))
          clear hb hnx
          go_wp2_with (first | (go_at_call 41; refine hset.mono ?_; rintro e w2 ⟨rfl, h2⟩))
          go_ret2
          exact ⟨by rw [E.out.2.1, E.out.2.2]; rfl, by rw [E.out.1]; exact h2⟩
end Go.Proofs.Ytpgepejleklpfaa
