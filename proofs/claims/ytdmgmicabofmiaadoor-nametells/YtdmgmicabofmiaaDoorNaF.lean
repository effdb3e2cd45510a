/- What each statement of stage 10 begins with: shown; and same. -/
import Derived.Test.YtdmgmicabofmiaaDoorNaE
import Derived.Deep.DeepCutAuto
import Derived.BigQuiet
namespace Go.Proofs.YtdmgmicabofmiaaDoor
set_option linter.unusedVariables false
open Go.RowKit

theorem okC_one (a : UInt8) (l : List UInt8) (h1 : okH (a :: l) = true) (h2 : (dec (a :: l)).2 = 1) : okC (a :: l) = okC l := by
  rw [okC_cons _ (by simp), h1, h2]; rfl
theorem okC_two (a b : UInt8) (l : List UInt8) (h1 : okH (a :: b :: l) = true) (h2 : (dec (a :: b :: l)).2 = 2) : okC (a :: b :: l) = okC l := by
  rw [okC_cons _ (by simp), h1, h2]; rfl
theorem right_a : rightP [97] = true := by
  have : okC [97] = true := by rw [okC_one 97 [] (by decide) (by decide), okC_nil]
  simp [rightP, this]
theorem right_b : rightP [98] = true := by
  have : okC [98] = true := by rw [okC_one 98 [] (by decide) (by decide), okC_nil]
  simp [rightP, this]
theorem right_be : rightP [98, 195, 169] = true := by
  have : okC [98, 195, 169] = true := by rw [okC_one 98 [195, 169] (by decide) (by decide), okC_two 195 169 [] (by decide) (by decide), okC_nil]
  simp [rightP, this]
theorem split_be : splitP [47, 97, 47, 98, 195, 169] = some [[97], [98, 195, 169]] := by
  rw [splitP_mk (by simp), show segs [97, 47, 98, 195, 169] = [[97], [98, 195, 169]] by decide, if_pos (by simp [right_a, right_be])]
theorem split_ab : splitP [47, 97, 47, 98] = some [[97], [98]] := by
  rw [splitP_mk (by simp), show segs [97, 47, 98] = [[97], [98]] by decide, if_pos (by simp [right_a, right_b])]
theorem split_a : splitP [47, 97] = some [([97] : List UInt8)] := by
  rw [splitP_mk (by simp), show segs [97] = [([97] : List UInt8)] by decide, if_pos (by simp [right_a])]
theorem split_ax : splitP [47, 97, 47] = none := by
  rw [splitP_mk (by simp), show segs [97, 47] = [[97], []] by decide, if_neg]
  have : rightP [] = false := by decide
  simp [right_a, this]
theorem wid_one (a : UInt8) (l : List UInt8) (h2 : (dec (a :: l)).2 = 1) : wid (a :: l) = 1 + wid l := by
  rw [wid_cons _ (by simp), h2]; rfl
theorem wid_two (a b : UInt8) (l : List UInt8) (h2 : (dec (a :: b :: l)).2 = 2) : wid (a :: b :: l) = 1 + wid l := by
  rw [wid_cons _ (by simp), h2]; rfl
theorem wid_be : wid [98, 195, 169] = 2 := by
  rw [wid_one 98 [195, 169] (by decide), wid_two 195 169 [] (by decide), wid_nil]
theorem wid_abcd : wid [97, 98, 99, 100] = 4 := by
  rw [wid_one 97 _ (by decide), wid_one 98 _ (by decide), wid_one 99 _ (by decide), wid_one 100 _ (by decide), wid_nil]
theorem short_abcd : shortP [97, 98, 99, 100] 3 = [97, 98, 226, 128, 166] := by
  rw [shortP, if_neg (by decide), wid_abcd, if_neg (by decide)]
  decide
theorem below_ab : belowP [47, 97, 47, 98] [47, 97] = true := by rw [below_some split_ab split_a]; decide

set_option maxRecDepth 1000000 in
set_option maxHeartbeats 1000000 in
theorem shown_calls (w : World) : Calls Tryd.prog 9 #[] w fun e w' => e = .returned (.bool true) ∧ Below w.heap.size w w' := by
  go_enter Tryd.func9, Tryd.ntmps9
  go_wp2_with fail
  refine (split_calls ⟨#[47, 97, 47, 98, 195, 169]⟩ w).mono ?_
  rintro e w1 ⟨b1, ⟨v, a, rfl, hv, hs⟩ | ⟨rfl, hs⟩⟩
  rotate_left
  · exact absurd (hs.symm.trans split_be) (by simp)
  have ha : a = [⟨#[97]⟩, ⟨#[98, 195, 169]⟩] := bl_eq (Option.some.inj (hs.symm.trans split_be))
  subst ha
  obtain ⟨ad, cap, rfl, _, _, _, _⟩ := id hv
  obtain ⟨g, off, rfl, hg, hc0⟩ := sl_cell hv 0 (by decide)
  obtain ⟨g', off', e1, _, hc1⟩ := sl_cell hv 1 (by decide)
  cases e1
  clear hs
  simp only [List.length_cons, List.length_nil, Nat.zero_add, Nat.reduceAdd, List.getElem_cons_zero, List.getElem_cons_succ, Nat.add_zero] at hc0 hc1 ⊢
  have HV : Hid (w1.cell? ⟨g, off, none⟩ = some (.string ⟨#[97]⟩) ∧ w1.cell? ⟨g, off + 1, none⟩ = some (.string ⟨#[98, 195, 169]⟩)) := ⟨hc0, hc1⟩
  clear hc0 hc1 hv
  go_wp2_with fail
  refine (split_calls ⟨#[47, 97, 47]⟩ w1).mono ?_
  rintro e w2 ⟨b2, ⟨u, b, rfl, hu, ht⟩ | ⟨rfl, ht⟩⟩
  · exact absurd (ht.symm.trans split_ax) (by simp)
  have hB : Below w.heap.size w w2 := b1.trans (b2.mono b1.size)
  have hc0 : w2.cell? ⟨g, off, none⟩ = some (.string ⟨#[97]⟩) := (World.cell?_of_block (b2.block g hg)).trans HV.out.1
  have hc1 : w2.cell? ⟨g, off + 1, none⟩ = some (.string ⟨#[98, 195, 169]⟩) := (World.cell?_of_block (b2.block g hg)).trans HV.out.2
  clear HV ht b1 b2 hg
  have c1 := fun w => short_calls ⟨#[97, 98, 99, 100]⟩ 3 (by decide) (by decide) w
  have c2 := fun w => width_calls ⟨#[98, 195, 169]⟩ (by decide) w
  have c3 := fun w => right_calls ⟨#[97]⟩ w
  have c4 := fun w => below_calls ⟨#[47, 97, 47, 98]⟩ ⟨#[47, 97]⟩ w
  simp only [short_abcd] at c1
  simp only [wid_be] at c2
  simp only [right_a] at c3
  simp only [below_ab] at c4
  go_wp2_with (first
    | (go_at_call 19; refine (c1 _).mono ?_; rintro e w3 ⟨rfl, b3⟩; clear c1)
    | (go_at_call 17; refine (c2 _).mono ?_; rintro e w4 ⟨rfl, b4⟩; clear c2)
    | (go_at_call 14; refine (c3 _).mono ?_; rintro e w5 ⟨rfl, b5⟩; clear c3)
    | (go_at_call 21; refine (c4 _).mono ?_; rintro e w6 ⟨rfl, b6⟩; clear c4))
  go_ret
  have hB3 := hB.trans (b3.mono hB.size)
  have hB4 := hB3.trans (b4.mono hB3.size)
  have hB5 := hB4.trans (b5.mono hB4.size)
  exact ⟨rfl, hB5.trans (b6.mono hB5.size)⟩

set_option maxRecDepth 1000000 in
set_option maxHeartbeats 1000000 in
theorem same_calls (v u : Value) (a b : List ByteArray) (w : World) (hv : Sl encS w v a) (hu : Sl encS w u b) (hl : a.length ≤ 1000) :
    Calls Tryd.prog 16 #[v, u] w fun e w' => e = .returned (.bool (decide (a = b))) ∧ Below w.heap.size w w' := by
  obtain ⟨ad, cap, rfl, hcap, hmax, _, _⟩ := id hv
  obtain ⟨ad2, cap2, rfl, hcap2, hmax2, _, _⟩ := id hu
  have HI : Hid (∀ i (hi : i < a.length), ∃ g off, ad = some ⟨g, off, none⟩ ∧ g < w.heap.size ∧ w.cell? ⟨g, off + i, none⟩ = some (.string a[i])) := fun i hi => sl_cell hv i hi
  have HJ : Hid (∀ i (hi : i < b.length), ∃ g off, ad2 = some ⟨g, off, none⟩ ∧ g < w.heap.size ∧ w.cell? ⟨g, off + i, none⟩ = some (.string b[i])) := fun i hi => sl_cell hu i hi
  go_enter Tryd.func16, Tryd.ntmps16
  clear hv hu hmax hmax2
  by_cases hlen : a.length = b.length
  · have HE : Hid (a.length = b.length) := hlen
    rw [← hlen] at hcap2 ⊢
    clear hlen
    obtain ⟨N, hN⟩ : ∃ N, a.length = N := ⟨_, rfl⟩
    have HN : Hid (a.length = N) := hN
    rw [hN] at hcap hcap2 hl ⊢
    clear hN
    go_wp2_with fail
    go_loopg [5] N (fun g i wr => ∃ (j n : Nat), j + g = N ∧ i = .int .i64 (j : Int) ∧ wr = w.drewN n ∧ Hid (a.take j = b.take j))
    case atStart => exact ⟨0, 0, by omega, rfl, rfl, (show _ = _ by simp)⟩
    case round =>
      obtain ⟨j, n, hjg, rfl, rfl, HW⟩ := hrel
      cases gk with
      | zero =>
        have hjN : j = N := by omega
        subst hjN
        have HS : Hid (a = b) := (show _ = _ by
          have h1 := HW.out
          rw [List.take_of_length_le (by rw [HN.out]; exact Nat.le_refl _), List.take_of_length_le (by rw [← HE.out, HN.out]; exact Nat.le_refl _)] at h1
          exact h1)
        go_wp2_with fail
        go_ret
        exact ⟨by rw [decide_eq_true HS.out]; rfl, below_drewN (Below.refl _ _) n⟩
      | succ g =>
        have hjI : (j : Int) < (N : Int) := by omega
        have hj0 : (0 : Int) ≤ (j : Int) := by omega
        have hja : j < a.length := by have := HN.out; omega
        have hjb : j < b.length := by have := HN.out; have := HE.out; omega
        obtain ⟨g1, off, rfl, hg1, hc1⟩ := HI.out j hja
        obtain ⟨g2, off2, rfl, hg2, hc2⟩ := HJ.out j hjb
        have hw64 : wrap64 ((j : Int) + 1) = ((j + 1 : Nat) : Int) := by rw [wrap64_ok (by omega) (by omega)]; omega
        have HA : Hid (a.take (j + 1) = a.take j ++ [a[j]] ∧ b.take (j + 1) = b.take j ++ [b[j]]) := ⟨by rw [List.take_add_one, List.getElem?_eq_getElem hja]; rfl, by rw [List.take_add_one, List.getElem?_eq_getElem hjb]; rfl⟩
        have HG : Hid (∀ x y, a[j] = x → b[j] = y → x ≠ y → a ≠ b) := fun x y h1 h2 h3 e => by subst e; exact h3 (h1.symm.trans h2)
        have HG2 : Hid (a[j] ≠ b[j] → a ≠ b) := HG.out _ _ rfl rfl
        clear HG
        generalize a[j] = x at *
        generalize b[j] = y at *
        have d1 : (w.drewN n).cell? ⟨g1, off + j, none⟩ = some (.string x) := hc1
        have d2 : (w.drewN n).cell? ⟨g2, off2 + j, none⟩ = some (.string y) := hc2
        have HD : Hid (∀ m, ∃ k, (w.drewN n).drewN m = w.drewN k) := fun m => ⟨n + m, by rw [World.drewN_drewN]⟩
        have hwn : Hid (Below w.heap.size w (w.drewN n)) := below_drewN (Below.refl _ _) n
        generalize w.drewN n = W at *
        cases hxy : (x.toList == y.toList) with
        | true =>
          have HX : Hid (x = y) := (show _ = _ by rw [Lib.toList_data, Lib.toList_data] at hxy; exact bl_inj (beq_iff_eq.1 hxy))
          clear hc1 hc2 hja hjb
          go_upto_region 6 with fail
          go_quiet (fail)
          go_wp2_with fail
          go_roundg g
          case measure => omega
          case rel => exact ⟨j + 1, _, by omega, rfl, (HD.out _).choose_spec, (show _ = _ by rw [HA.out.1, HA.out.2, HW.out, HX.out])⟩
        | false =>
          have HX : Hid (x ≠ y) := (show _ ≠ _ by intro e; rw [e] at hxy; simp at hxy)
          clear hc1 hc2 hja hjb
          go_upto_region 6 with fail
          go_quiet (fail)
          go_wp2_with fail
          go_ret
          exact ⟨by rw [decide_eq_false (HG2.out HX.out)]; rfl, below_drewN hwn.out _⟩
  · have HS : Hid (a ≠ b) := fun e => hlen (by rw [e])
    have hne : ¬ ((a.length : Nat) : Int) = ((b.length : Nat) : Int) := by omega
    clear HI HJ
    go_wp2_with fail
    go_ret
    exact ⟨by rw [decide_eq_false HS.out]; rfl, Below.refl _ _⟩
end Go.Proofs.YtdmgmicabofmiaaDoor
