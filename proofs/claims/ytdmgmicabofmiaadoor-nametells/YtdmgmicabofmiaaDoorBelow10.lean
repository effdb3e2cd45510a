/- A path is below each of its beginnings, and below no other one. -/
import Derived.Test.YtdmgmicabofmiaaDoorBack10
namespace Go.Proofs.YtdmgmicabofmiaaDoor
set_option linter.unusedVariables false
open Go.RowKit

theorem idx_at (s : ByteArray) (i : Nat) (b : UInt8) (h : s.data.toList[i]? = some b) (w : World) : (Instr.index 9 (.string s) (.int .i64 (i : Int))).run Tryd.prog w = .ok (.int .u8 (b.toNat : Int)) w := by
  obtain ⟨hl, rfl⟩ := List.getElem?_eq_some_iff.1 h
  have hs : i < s.size := by rw [toList_size] at hl; exact hl
  have hi : (0 : Int) ≤ (i : Int) ∧ (i : Int) < (s.size : Int) := by omega
  rw [run_index_string w _ _ _ _ Tryd.underlying9, dif_pos hi]
  have e : (s[(i : Int).toNat]'(by omega)) = s.data.toList[i] := by simp only [Int.toNat_natCast, Array.getElem_toList]; rfl
  rw [e]
set_option maxRecDepth 1000000 in
set_option maxHeartbeats 4000000 in
theorem nameBelow_walk (w : World) (s t : ByteArray) :
    Calls Tryd.prog 5 #[.string s, .string t] w fun e w' => e = .returned (.bool true) ∧ Below w.heap.size w w' := by
  obtain ⟨k, hk1, hk2, hk3⟩ := cut_text s 300 300 rfl
  obtain ⟨m, hm1, hm2, hm3⟩ := cut_text t 300 300 rfl
  go_enter Tryd.func5, Tryd.ntmps5
  go_wp2_with fail
  refine (shown_calls w).mono ?_
  rintro e w1 ⟨rfl, b1⟩
  go_wp2_with fail
  generalize s.extract 0 k = S at *
  generalize t.extract 0 m = T at *
  clear hk1 hk2 hm1 hm2
  refine (split_calls S w1).mono ?_
  rintro e w2 ⟨b2, ⟨nv, a, rfl, hn, hs⟩ | ⟨rfl, hs⟩⟩
  rotate_left
  · have B2 := b1.trans (b2.mono b1.size)
    have c1 := fun y => below_calls S T y
    have c2 := fun y => below_calls T S y
    rw [below_left hs] at c1
    rw [below_right hs] at c2
    clear b1 b2 hs
    go_wp2_with fail
    refine (c1 w2).mono ?_
    rintro e w3 ⟨rfl, b3⟩
    clear c1
    have B3 := B2.trans (b3.mono B2.size)
    go_wp2_with fail
    refine (c2 w3).mono ?_
    rintro e w4 ⟨rfl, b4⟩
    clear c2
    go_wp2_with fail
    go_ret
    exact ⟨rfl, B3.trans (b4.mono B3.size)⟩
  have hal := split_len hs
  have B2 := b1.trans (b2.mono b1.size)
  clear b1 b2
  obtain ⟨ad, cap, rfl, hcap, hmax, _, _⟩ := id hn
  have HS : Hid (splitP S.data.toList = some (bl a)) := hs
  have HN : Hid (Sl encS w2 (.slice ad a.length cap) a) := hn
  clear hs hn hmax
  obtain ⟨N, hN⟩ : ∃ N, a.length = N := ⟨_, rfl⟩
  have HL : Hid (a.length = N) := hN
  rw [hN] at hcap hal HN ⊢
  clear hN
  go_wp2_with fail
  go_loopg [8] (N + 1) (fun g i wr => ∃ j : Nat, j + g = N + 1 ∧ i = .int .i64 (j : Int) ∧ Hid (Below w2.heap.size w2 wr))
  case atStart => exact ⟨0, by omega, rfl, Below.refl _ _⟩
  case round =>
    obtain ⟨j, hjg, rfl, HW⟩ := hrel
    cases gk with
    | zero =>
      have hjI : ¬ (j : Int) ≤ (N : Int) := by omega
      have B3 : Below w.heap.size w wr := B2.trans (HW.out.mono B2.size)
      clear HW hjg HN HL
      generalize wr = W at *
      go_wp2_with fail
      refine (below_calls S T W).mono ?_
      rintro e w4 ⟨rfl, b4⟩
      have B4 := B3.trans (b4.mono B3.size)
      clear b4 B3
      cases hb : belowP S.data.toList T.data.toList with
      | false =>
        go_wp2_with fail
        go_ret
        exact ⟨rfl, B4⟩
      | true =>
      have c2 := below_calls T S w4
      rw [below_back hb] at c2
      have HE : Hid (decide (S.data.toList = T.data.toList) = (S.toList == T.toList)) := (show _ = _ by
        rw [Lib.toList_data, Lib.toList_data]
        by_cases h : S.data.toList = T.data.toList
        · rw [decide_eq_true h, h, beq_self_eq_true]
        · rw [decide_eq_false h, beq_eq_false_iff_ne.2 h])
      rw [HE.out] at c2
      clear HE
      cases ht : (T.toList == [47]) with
      | true =>
        clear hb
        go_wp2_with (go_at_call 21; refine c2.mono ?_; rintro e w5 ⟨rfl, b5⟩; clear c2)
        go_ret
        exact ⟨by simp, B4.trans (b5.mono B4.size)⟩
      | false =>
      obtain ⟨e1, e2, e3⟩ := below_starts hb (fun e => by rw [beq_str, e] at ht; cases ht)
      rw [toList_size, toList_size] at e1
      have hle : ¬ (S.size : Int) < (T.size : Int) := by rw [toList_size, toList_size] at *; omega
      have hle2 : (T.size : Int) ≤ (S.size : Int) := by omega
      have hex : S.extract 0 T.size = T := by
        apply bl_inj
        rw [Lib.extract_data]
        rw [toList_size] at e2
        simpa using e2
      rw [toList_size] at e3
      rw [toList_size] at e3
      by_cases hgt : T.size < S.size
      · have hgI : (S.size : Int) > (T.size : Int) := by omega
        have e4 := e3 hgt
        have hidx : ∀ y, (Instr.index 9 (.string S) (.int .i64 (T.size : Int))).run Tryd.prog y = .ok (.int .u8 47) y := idx_at S T.size 47 e4
        clear e1 e2 e3 hb
        go_wp2_with (go_at_call 21; refine c2.mono ?_; rintro e w5 ⟨rfl, b5⟩; clear c2)
        go_ret
        exact ⟨by simp, B4.trans (b5.mono B4.size)⟩
      · have hgI : ¬ (S.size : Int) > (T.size : Int) := by omega
        clear e1 e2 e3 hb
        go_wp2_with (go_at_call 21; refine c2.mono ?_; rintro e w5 ⟨rfl, b5⟩; clear c2)
        go_ret
        exact ⟨by simp, B4.trans (b5.mono B4.size)⟩
    | succ g =>
      have hjI : (j : Int) ≤ (N : Int) := by omega
      have hj0 : (0 : Int) ≤ (j : Int) := by omega
      have hjc : (j : Int) ≤ (cap : Int) := by omega
      have hjl : j ≤ a.length := by have := HL.out; omega
      obtain ⟨d, hd⟩ := split_take HS.out j
      have hsl : Sl encS wr (.slice ad j cap) (a.take j) := Sl.called (SlB.take HN.out j hjl) HW.out
      have c1 := join_calls _ (a.take j) wr (by simp; omega) hsl
      have hbd := below_dir HS.out hd
      have hlen : (bl a).length = N := by simp [bl]; exact HL.out
      have HB1 : Hid (belowP S.data.toList d = true) := hbd.1
      have HB2 : Hid (j < N → belowP d S.data.toList = false) := (fun h => hbd.2 (by rw [hlen]; exact h))
      have HJ : Hid (joinP (bl (a.take j)) = some d) := (show _ = _ by rw [bl_take]; exact hd)
      have hw64 : wrap64 ((j : Int) + 1) = ((j + 1 : Nat) : Int) := by rw [wrap64_ok (by omega) (by omega)]; omega
      clear hbd hlen hd hsl hjl HN
      have B3 : Below w.heap.size w wr := B2.trans (HW.out.mono B2.size)
      go_wp2_with (go_at_call 12; refine c1.mono ?_; rintro e w3 ⟨b3, ⟨p, rfl, hp⟩ | ⟨rfl, hp⟩⟩)
      rotate_left
      · exact absurd (hp.symm.trans HJ.out) (by simp)
      have HP : Hid (p.data.toList = d) := Option.some.inj (hp.symm.trans HJ.out)
      have c2 := fun y => below_calls S p y
      have c3 := fun y => below_calls p S y
      rw [HP.out] at c2 c3
      rw [HB1.out] at c2
      clear c1 hp HB1 HJ
      by_cases hjN : j < N
      · have hjJ : (j : Int) < (N : Int) := by omega
        rw [HB2.out hjN] at c3
        clear HB2 hjN HP
        go_wp2_with fail
        refine (c2 w3).mono ?_
        rintro e w4 ⟨rfl, b4⟩
        clear c2
        go_wp2_with fail
        refine (c3 w4).mono ?_
        rintro e w5 ⟨rfl, b5⟩
        clear c3
        go_wp2_with fail
        have B4 := HW.out.trans (b3.mono HW.out.size)
        have B5 := B4.trans (b4.mono B4.size)
        go_roundg g
        case measure => omega
        case rel => exact ⟨j + 1, by omega, rfl, B5.trans (b5.mono B5.size)⟩
      · have hjJ : ¬ (j : Int) < (N : Int) := by omega
        clear HB2 hjN HP c3
        go_wp2_with fail
        refine (c2 w3).mono ?_
        rintro e w4 ⟨rfl, b4⟩
        clear c2
        go_wp2_with fail
        have B4 := HW.out.trans (b3.mono HW.out.size)
        go_roundg g
        case measure => omega
        case rel => exact ⟨j + 1, by omega, rfl, B4.trans (b4.mono B4.size)⟩
end Go.Proofs.YtdmgmicabofmiaaDoor
