/- What each statement of stage 10 begins with: shown; and same. -/
import Derived.Test.YtdmgmicabofmiabDoorNaE
import Derived.Deep.DeepCutAuto
import Derived.BigQuiet
namespace Go.Proofs.YtdmgmicabofmiabDoor
set_option linter.unusedVariables false
open Go.RowKit

theorem okC_one (a : UInt8) (l : List UInt8) (h1 : okH (a :: l) = true) (h2 : (dec (a :: l)).2 = 1) : okC (a :: l) = okC l := by
  rw [okC_cons _ (by simp), h1, h2]; rfl
theorem okC_two (a b : UInt8) (l : List UInt8) (h1 : okH (a :: b :: l) = true) (h2 : (dec (a :: b :: l)).2 = 2) : okC (a :: b :: l) = okC l := by
  rw [okC_cons _ (by simp), h1, h2]; rfl
theorem right_a : rightP [97] = true := by
  have : okC [97] = true := by rw [okC_one 97 [] (by decide) (by decide), okC_nil]
  simp [rightP, this]
theorem right_b : rightP [98] = true := by
  have : okC [98] = true := by rw [okC_one 98 [] (by decide) (by decide), okC_nil]
  simp [rightP, this]
theorem right_be : rightP [98, 195, 169] = true := by
  have : okC [98, 195, 169] = true := by rw [okC_one 98 [195, 169] (by decide) (by decide), okC_two 195 169 [] (by decide) (by decide), okC_nil]
  simp [rightP, this]
theorem split_be : splitP [47, 97, 47, 98, 195, 169] = some [[97], [98, 195, 169]] := by
  rw [splitP_mk (by simp), show segs [97, 47, 98, 195, 169] = [[97], [98, 195, 169]] by decide, if_pos (by simp [right_a, right_be])]
theorem split_ab : splitP [47, 97, 47, 98] = some [[97], [98]] := by
  rw [splitP_mk (by simp), show segs [97, 47, 98] = [[97], [98]] by decide, if_pos (by simp [right_a, right_b])]
theorem split_a : splitP [47, 97] = some [([97] : List UInt8)] := by
  rw [splitP_mk (by simp), show segs [97] = [([97] : List UInt8)] by decide, if_pos (by simp [right_a])]
theorem split_ax : splitP [47, 97, 47] = none := by
  rw [splitP_mk (by simp), show segs [97, 47] = [[97], []] by decide, if_neg]
  have : rightP [] = false := by decide
  simp [right_a, this]
theorem wid_one (a : UInt8) (l : List UInt8) (h2 : (dec (a :: l)).2 = 1) : wid (a :: l) = 1 + wid l := by
  rw [wid_cons _ (by simp), h2]; rfl
theorem wid_two (a b : UInt8) (l : List UInt8) (h2 : (dec (a :: b :: l)).2 = 2) : wid (a :: b :: l) = 1 + wid l := by
  rw [wid_cons _ (by simp), h2]; rfl
theorem wid_be : wid [98, 195, 169] = 2 := by
  rw [wid_one 98 [195, 169] (by decide), wid_two 195 169 [] (by decide), wid_nil]
theorem wid_abcd : wid [97, 98, 99, 100] = 4 := by
  rw [wid_one 97 _ (by decide), wid_one 98 _ (by decide), wid_one 99 _ (by decide), wid_one 100 _ (by decide), wid_nil]
theorem short_abcd : shortP [97, 98, 99, 100] 3 = [97, 98, 226, 128, 166] := by
  rw [shortP, if_neg (by decide), wid_abcd, if_neg (by decide)]
  decide
theorem below_ab : belowP [47, 97, 47, 98] [47, 97] = true := by rw [below_some split_ab split_a]; decide

set_option maxRecDepth 1000000 in
set_option maxHeartbeats 1000000 in
theorem shown_calls (w : World) : Calls Tryd.prog 4 #[] w fun e w' => e = .returned (.bool true) ∧ Below w.heap.size w w' := by
  go_enter Tryd.func4, Tryd.ntmps4
  go_wp2_with fail
  refine (split_calls ⟨#[47, 97, 47, 98, 195, 169]⟩ w).mono ?_
  rintro e w1 ⟨b1, ⟨v, a, rfl, hv, hs⟩ | ⟨rfl, hs⟩⟩
  rotate_left
  · exact absurd (hs.symm.trans split_be) (by simp)
  have ha : a = [⟨#[97]⟩, ⟨#[98, 195, 169]⟩] := bl_eq (Option.some.inj (hs.symm.trans split_be))
  subst ha
  obtain ⟨ad, cap, rfl, _, _, _, _⟩ := id hv
  obtain ⟨g, off, rfl, hg, hc0⟩ := sl_cell hv 0 (by decide)
  obtain ⟨g', off', e1, _, hc1⟩ := sl_cell hv 1 (by decide)
  cases e1
  clear hs
  simp only [List.length_cons, List.length_nil, Nat.zero_add, Nat.reduceAdd, List.getElem_cons_zero, List.getElem_cons_succ, Nat.add_zero] at hc0 hc1 ⊢
  have HV : Hid (w1.cell? ⟨g, off, none⟩ = some (.string ⟨#[97]⟩) ∧ w1.cell? ⟨g, off + 1, none⟩ = some (.string ⟨#[98, 195, 169]⟩)) := ⟨hc0, hc1⟩
  clear hc0 hc1 hv
  go_wp2_with fail
  refine (split_calls ⟨#[47, 97, 47]⟩ w1).mono ?_
  rintro e w2 ⟨b2, ⟨u, b, rfl, hu, ht⟩ | ⟨rfl, ht⟩⟩
  · exact absurd (ht.symm.trans split_ax) (by simp)
  have hB : Below w.heap.size w w2 := b1.trans (b2.mono b1.size)
  have hc0 : w2.cell? ⟨g, off, none⟩ = some (.string ⟨#[97]⟩) := (World.cell?_of_block (b2.block g hg)).trans HV.out.1
  have hc1 : w2.cell? ⟨g, off + 1, none⟩ = some (.string ⟨#[98, 195, 169]⟩) := (World.cell?_of_block (b2.block g hg)).trans HV.out.2
  clear HV ht b1 b2 hg
  have c1 := fun w => short_calls ⟨#[97, 98, 99, 100]⟩ 3 (by decide) (by decide) w
  have c2 := fun w => width_calls ⟨#[98, 195, 169]⟩ (by decide) w
  have c3 := fun w => right_calls ⟨#[97]⟩ w
  have c4 := fun w => below_calls ⟨#[47, 97, 47, 98]⟩ ⟨#[47, 97]⟩ w
  simp only [short_abcd] at c1
  simp only [wid_be] at c2
  simp only [right_a] at c3
  simp only [below_ab] at c4
  go_wp2_with (first
    | (go_at_call 7; refine (c1 _).mono ?_; rintro e w3 ⟨rfl, b3⟩; clear c1)
    | (go_at_call 5; refine (c2 _).mono ?_; rintro e w4 ⟨rfl, b4⟩; clear c2)
    | (go_at_call 8; refine (c3 _).mono ?_; rintro e w5 ⟨rfl, b5⟩; clear c3)
    | (go_at_call 9; refine (c4 _).mono ?_; rintro e w6 ⟨rfl, b6⟩; clear c4))
  go_ret
  have hB3 := hB.trans (b3.mono hB.size)
  have hB4 := hB3.trans (b4.mono hB3.size)
  have hB5 := hB4.trans (b5.mono hB4.size)
  exact ⟨rfl, hB5.trans (b6.mono hB5.size)⟩

end Go.Proofs.YtdmgmicabofmiabDoor
