/- The document's own Right, pieces, Width, Short. -/
import Derived.Test.YtdmgmicabofmiaaDoorNaR
import Derived.Test.YtdmgmicabofmiaaDoorSl3
namespace Go.Proofs.YtdmgmicabofmiaaDoor
set_option linter.unusedVariables false
open Go.RowKit

theorem dec_of_chr (L : List UInt8) : (dec L).2 = max (chr L).1 1 := by
  unfold dec
  split
  · rename_i h; rw [h]; rfl
  · rename_i h; show (chr L).1 = _; omega
theorem chr_v_le (L : List UInt8) : (chr L).2 ≤ 1114111 := by
  rcases chr_cases L with h | ⟨a, r, rfl, h1, h⟩ | ⟨a, b, r, rfl, h1, h2, h3, h4, h⟩ | ⟨a, b, c, r, rfl, h1, h2, h3, h4, h5, h6, h⟩ | ⟨a, b, c, d, r, rfl, h1, h2, h3, h4, h5, h6, h7, h⟩
  · rw [h]; decide
  · rw [h]; show a.toNat ≤ _; omega
  · rw [h]; rw [tlB_iff] at h3; show _ ≤ 1114111; omega
  · rw [h]; rw [tlB_iff] at h3 h4; show _ ≤ 1114111; omega
  · rw [h]; exact h7
theorem chr_n_le (L : List UInt8) : (chr L).1 ≤ 4 := by
  rcases chr_cases L with h | ⟨a, r, rfl, h1, h⟩ | ⟨a, b, r, rfl, h1, h2, h3, h4, h⟩ | ⟨a, b, c, r, rfl, h1, h2, h3, h4, h5, h6, h⟩ | ⟨a, b, c, d, r, rfl, h1, h2, h3, h4, h5, h6, h7, h⟩ <;> rw [h] <;> dsimp only <;> omega

set_option maxRecDepth 1000000 in
set_option maxHeartbeats 4000000 in
theorem rright_calls (s : ByteArray) (w : World) :
    Calls Tryd.prog 15 #[.string s] w fun e w' => e = .returned (.bool (rightP s.data.toList)) ∧ Below w.heap.size w w' := by
  go_enter Tryd.func15, Tryd.ntmps15
  by_cases h1 : ¬ (1 ≤ s.size ∧ s.size ≤ 18)
  · have e : rightP s.data.toList = false := by
      rw [rightP, toList_size]
      by_cases h2 : 1 ≤ s.size
      · rw [decide_eq_true h2, decide_eq_false (show ¬ s.size ≤ 18 by omega)]; rfl
      · rw [decide_eq_false h2]; rfl
    rw [e]
    clear e
    by_cases h2 : 1 ≤ s.size
    · have a1 : ¬ (s.size : Int) < 1 := by omega
      have a2 : (s.size : Int) > 18 := by omega
      clear h1 h2
      go_wp2
      go_ret
      exact ⟨rfl, Below.refl _ _⟩
    · have a1 : (s.size : Int) < 1 := by omega
      clear h1 h2
      go_wp2
      go_ret
      exact ⟨rfl, Below.refl _ _⟩
  replace h1 := Classical.not_not.1 h1
  have a1 : ¬ (s.size : Int) < 1 := by omega
  have a2 : ¬ (s.size : Int) > 18 := by omega
  have HR : Hid (rightP s.data.toList = (!(s.toList == [46]) && (!(s.toList == [46, 46]) && okC s.data.toList))) := (show _ = _ by
    rw [rightP, toList_size, decide_eq_true h1.1, decide_eq_true h1.2, beq_str, beq_str]; rfl)
  obtain ⟨R, hR⟩ : ∃ R, rightP s.data.toList = R := ⟨_, rfl⟩
  rw [hR] at HR ⊢
  have HSZ : Hid (s.size ≤ 18) := h1.2
  clear hR h1
  cases hd1 : (s.toList == [46]) with
  | true =>
    have e : R = false := by rw [HR.out, hd1]; rfl
    subst e
    clear HR
    go_wp2
    go_ret
    exact ⟨rfl, Below.refl _ _⟩
  | false =>
  cases hd2 : (s.toList == [46, 46]) with
  | true =>
    have e : R = false := by rw [HR.out, hd1, hd2]; rfl
    subst e
    clear HR
    go_wp2
    go_ret
    exact ⟨rfl, Below.refl _ _⟩
  | false =>
  have HO : Hid (R = okC s.data.toList) := (show _ = _ by rw [HR.out, hd1, hd2]; rfl)
  clear HR
  obtain ⟨N, hN⟩ : ∃ N, s.size = N := ⟨_, rfl⟩
  have HN : Hid (s.size = N) := hN
  go_wp2_with fail
  go_loopg [3] N (fun g i wr => ∃ (pos n : Nat), i = .int .i64 (pos : Int) ∧ pos ≤ N ∧ N ≤ pos + g ∧ wr = w.drewN n ∧ Hid (okC (s.data.toList.drop pos) = okC s.data.toList))
  case atStart => exact ⟨0, 0, rfl, Nat.zero_le _, by omega, rfl, (show okC (s.data.toList.drop 0) = _ by simp)⟩
  case round =>
    obtain ⟨pos, n, rfl, hps, hpg, rfl, HW⟩ := hrel
    by_cases hp : pos < N
    · have hpI : (pos : Int) < (N : Int) := by omega
      have hp2 : (pos : Int) ≤ (N : Int) := by omega
      have hp0 : (0 : Int) ≤ (pos : Int) := by omega
      have hps2 : pos < s.size := by rw [HN.out]; exact hp
      have hne := drop_ne hps2
      have c1 := char_calls (s.extract pos s.size) (w.drewN n)
      have hex : (s.extract pos s.size).data.toList = s.data.toList.drop pos := Lib.extract_to_end s pos
      unfold CharTo at c1
      rw [hex] at c1
      rw [hN] at c1
      have HQ : Hid (okC s.data.toList = (okH (s.data.toList.drop pos) && okC (s.data.toList.drop (pos + (dec (s.data.toList.drop pos)).2)))) := (show _ = _ by
        rw [← HW.out, okC_cons _ hne, List.drop_drop])
      have hdl := dec_le _ hne
      rw [List.length_drop, toList_size, HN.out] at hdl
      have hdp := dec_pos (s.data.toList.drop pos)
      have hdc := dec_of_chr (s.data.toList.drop pos)
      have hv := chr_v_le (s.data.toList.drop pos)
      have hn4 := chr_n_le (s.data.toList.drop pos)
      have HH : Hid (okH (s.data.toList.drop pos) = (decide ((chr (s.data.toList.drop pos)).1 ≠ 0) && (decide (32 ≤ (chr (s.data.toList.drop pos)).2) && (decide ((chr (s.data.toList.drop pos)).2 ≠ 47) && decide ((chr (s.data.toList.drop pos)).2 ≠ 127))))) := rfl
      clear HW hne hex
      generalize (dec (s.data.toList.drop pos)).2 = D at *
      generalize okH (s.data.toList.drop pos) = O at *
      generalize (chr (s.data.toList.drop pos)).1 = c at *
      generalize (chr (s.data.toList.drop pos)).2 = v at *
      cases O with
      | false =>
        have e : R = false := by rw [HO.out, HQ.out]; rfl
        subst e
        have hbad : (c : Int) = 0 ∨ (v : Int) = 47 ∨ (v : Int) < 32 ∨ (v : Int) = 127 := by
          have := HH.out
          apply Classical.byContradiction
          intro hh
          have h1 : (decide (c ≠ 0) && (decide (32 ≤ v) && (decide (v ≠ 47) && decide (v ≠ 127)))) = true := by
            simp only [Bool.and_eq_true, decide_eq_true_eq]
            omega
          rw [h1] at this
          cases this
        clear HH HQ HO hdl hdp hdc hv hn4
        by_cases q1 : (c : Int) = 0
        · have q1b : ((c : Int) == 0) = true := by rw [q1]; rfl
          clear hbad q1
          go_wp2_with (go_at_call 27; refine c1.mono ?_; rintro e w3 ⟨rfl, m, hm⟩; have HM : Hid (w3 = (w.drewN n).drewN m) := hm; clear c1 hm)
          go_ret
          exact ⟨rfl, by rw [HM.out]; exact below_drewN (below_drewN (Below.refl _ _) n) m⟩
        have q1b : ((c : Int) == 0) = false := beq_eq_false_iff_ne.2 q1
        by_cases q2 : (v : Int) = 47
        · have q2b : ((v : Int) == 47) = true := by rw [q2]; rfl
          clear hbad q1 q2
          go_wp2_with (go_at_call 27; refine c1.mono ?_; rintro e w3 ⟨rfl, m, hm⟩; have HM : Hid (w3 = (w.drewN n).drewN m) := hm; clear c1 hm)
          go_ret
          exact ⟨rfl, by rw [HM.out]; exact below_drewN (below_drewN (Below.refl _ _) n) m⟩
        have q2b : ((v : Int) == 47) = false := beq_eq_false_iff_ne.2 q2
        by_cases q3 : (v : Int) < 32
        · clear hbad q1 q2
          go_wp2_with (go_at_call 27; refine c1.mono ?_; rintro e w3 ⟨rfl, m, hm⟩; have HM : Hid (w3 = (w.drewN n).drewN m) := hm; clear c1 hm)
          go_ret
          exact ⟨rfl, by rw [HM.out]; exact below_drewN (below_drewN (Below.refl _ _) n) m⟩
        have q4 : (v : Int) = 127 := by omega
        have q4b : ((v : Int) == 127) = true := by rw [q4]; rfl
        clear hbad q1 q2 q4
        go_wp2_with (go_at_call 27; refine c1.mono ?_; rintro e w3 ⟨rfl, m, hm⟩; have HM : Hid (w3 = (w.drewN n).drewN m) := hm; clear c1 hm)
        go_ret
        exact ⟨rfl, by rw [HM.out]; exact below_drewN (below_drewN (Below.refl _ _) n) m⟩
      | true =>
        have HD : Hid (okC (s.data.toList.drop (pos + D)) = okC s.data.toList) := (show _ = _ by rw [HQ.out]; rfl)
        obtain ⟨g1, g2, g3, g4⟩ : c ≠ 0 ∧ 32 ≤ v ∧ v ≠ 47 ∧ v ≠ 127 := by
          have := HH.out.symm
          simp only [Bool.and_eq_true, decide_eq_true_eq] at this
          exact ⟨this.1, this.2.1, this.2.2.1, this.2.2.2⟩
        have hDc : D = c := by omega
        subst hDc
        have i1 : ((D : Int) == 0) = false := beq_eq_false_iff_ne.2 (by omega)
        have i2 : ¬ (v : Int) < 32 := by omega
        have i3 : ((v : Int) == 47) = false := beq_eq_false_iff_ne.2 (by omega)
        have i4 : ((v : Int) == 127) = false := beq_eq_false_iff_ne.2 (by omega)
        have hdI : (D : Int) ≤ 4 := by omega
        have hd0 : (0 : Int) ≤ (D : Int) := by omega
        have hN18 : (N : Int) ≤ 18 := by have := HSZ.out; have := HN.out; omega
        clear HH HQ hdc g1 g2 g3 g4 hv hn4
        go_wp2_with (go_at_call 27; refine c1.mono ?_; rintro e w3 ⟨rfl, m, hm⟩; have HM : Hid (w3 = (w.drewN n).drewN m) := hm; clear c1 hm)
        cases gk with
        | zero => omega
        | succ g =>
        go_roundg g
        case measure => omega
        case rel => exact ⟨pos + D, n + m, rfl, by omega, by omega, by rw [HM.out, World.drewN_drewN], HD⟩
    · have hpI : ¬ (pos : Int) < (N : Int) := by omega
      have e : R = true := by rw [HO.out, ← HW.out, drop_nil (by rw [HN.out]; exact hp), okC_nil]
      subst e
      clear HW HO
      go_wp2_with fail
      go_ret
      exact ⟨rfl, below_drewN (Below.refl _ _) n⟩
end Go.Proofs.YtdmgmicabofmiaaDoor
