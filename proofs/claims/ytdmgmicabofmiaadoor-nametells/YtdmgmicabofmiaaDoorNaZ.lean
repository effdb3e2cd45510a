/- The document's own Below. -/
import Derived.Test.YtdmgmicabofmiaaDoorNaX
namespace Go.Proofs.YtdmgmicabofmiaaDoor
set_option linter.unusedVariables false
open Go.RowKit

set_option maxRecDepth 1000000 in
set_option maxHeartbeats 4000000 in
theorem rbelow_calls (s t : ByteArray) (w : World) : Calls Tryd.prog 22 #[.string s, .string t] w fun e w' => e = .returned (.bool (belowP s.data.toList t.data.toList)) ∧ Below w.heap.size w w' := by
  go_enter Tryd.func22, Tryd.ntmps22
  go_wp2_with fail
  refine (rsplit_calls s w).mono ?_
  rintro e w1 ⟨b1, ⟨v, a, rfl, hv, hs⟩ | ⟨rfl, hs⟩⟩
  · go_wp2_with fail
    refine (rsplit_calls t w1).mono ?_
    rintro e w2 ⟨b2, ⟨u, b, rfl, hu, ht⟩ | ⟨rfl, ht⟩⟩
    · have hv2 : Sl encS w2 v a := Sl.called hv b2
      have hB : Below w.heap.size w w2 := b1.trans (b2.mono b1.size)
      have HB : Hid (belowP s.data.toList t.data.toList = decide (b = a.take b.length ∧ b.length ≤ a.length)) := (show _ = _ by rw [below_some hs ht, bl_prefix])
      have hal := split_len hs
      have hbl := split_len ht
      clear hv b1 b2 hs ht
      obtain ⟨ad, cap, rfl, hcap, hmax, -, -⟩ := id hv2
      obtain ⟨ad2, cap2, rfl, hcap2, hmax2, -, -⟩ := id hu
      have HI : Hid (∀ i (hi : i < a.length), ∃ g off, ad = some ⟨g, off, none⟩ ∧ g < w2.heap.size ∧ w2.cell? ⟨g, off + i, none⟩ = some (.string a[i])) := fun i hi => sl_cell hv2 i hi
      have HJ : Hid (∀ i (hi : i < b.length), ∃ g off, ad2 = some ⟨g, off, none⟩ ∧ g < w2.heap.size ∧ w2.cell? ⟨g, off + i, none⟩ = some (.string b[i])) := fun i hi => sl_cell hu i hi
      clear hv2 hu hmax hmax2
      obtain ⟨N, hN⟩ : ∃ N, b.length = N := ⟨_, rfl⟩
      obtain ⟨M, hM⟩ : ∃ M, a.length = M := ⟨_, rfl⟩
      have HN : Hid (b.length = N ∧ a.length = M) := ⟨hN, hM⟩
      rw [hN, hM] at HB
      rw [hN] at hcap2 hbl ⊢
      rw [hM] at hcap hal ⊢
      clear hN hM
      by_cases hle : N ≤ M
      · have hlI : ¬ (N : Int) > (M : Int) := by omega
        go_wp2_with fail
        go_loopg [9] N (fun g i wr => ∃ (j n : Nat), j + g = N ∧ i = .int .i64 (j : Int) ∧ wr = w2.drewN n ∧ Hid (a.take j = b.take j))
        case atStart => exact ⟨0, 0, by omega, rfl, rfl, (show _ = _ by simp)⟩
        case round =>
          obtain ⟨j, n, hjg, rfl, rfl, HW⟩ := hrel
          cases gk with
          | zero =>
            have hjN : j = N := by omega
            subst hjN
            have HS : Hid (belowP s.data.toList t.data.toList = true) := (show _ = _ by
              rw [HB.out]
              apply decide_eq_true
              refine ⟨?_, hle⟩
              have h1 := HW.out
              rw [List.take_of_length_le (l := b) (by rw [HN.out.1]; exact Nat.le_refl _)] at h1
              exact h1.symm)
            clear HB HI HJ
            go_wp2_with fail
            go_ret
            exact ⟨by rw [HS.out]; rfl, below_drewN hB n⟩
          | succ g =>
            have hjI : (j : Int) < (N : Int) := by omega
            have hjM : (j : Int) < (M : Int) := by omega
            have hj0 : (0 : Int) ≤ (j : Int) := by omega
            have hja : j < a.length := by have := HN.out.2; omega
            have hjb : j < b.length := by have := HN.out.1; omega
            have hNb : (N : Int) ≤ 200 := by omega
            obtain ⟨g1, off, rfl, hg1, hc1⟩ := HI.out j hja
            obtain ⟨g2, off2, rfl, hg2, hc2⟩ := HJ.out j hjb
            have HA : Hid (a.take (j + 1) = a.take j ++ [a[j]] ∧ b.take (j + 1) = b.take j ++ [b[j]]) := ⟨by rw [List.take_add_one, List.getElem?_eq_getElem hja]; rfl, by rw [List.take_add_one, List.getElem?_eq_getElem hjb]; rfl⟩
            have HG : Hid (a[j] ≠ b[j] → belowP s.data.toList t.data.toList = false) := fun hne => by
              rw [HB.out]
              apply decide_eq_false
              rintro ⟨e, _⟩
              apply hne
              have hjN : j < N := by omega
              have h1 : b[j] = (a.take N)[j]'(by simp; omega) := by
                have := congrArg (fun q => q[j]?) e
                simp only [List.getElem?_eq_getElem hjb, List.getElem?_take_of_lt hjN, List.getElem?_eq_getElem hja, Option.some.injEq] at this
                rw [List.getElem_take]
                exact this
              rw [h1, List.getElem_take]
            generalize a[j] = x at *
            generalize b[j] = y at *
            have d1 : (w2.drewN n).cell? ⟨g1, off + j, none⟩ = some (.string x) := hc1
            have d2 : (w2.drewN n).cell? ⟨g2, off2 + j, none⟩ = some (.string y) := hc2
            have HD : Hid (∀ m, ∃ k, (w2.drewN n).drewN m = w2.drewN k) := fun m => ⟨n + m, by rw [World.drewN_drewN]⟩
            have hwn : Hid (Below w.heap.size w (w2.drewN n)) := below_drewN hB n
            generalize w2.drewN n = W at *
            clear hc1 hc2 hja hjb HB HI HJ
            cases hxy : (x.toList == y.toList) with
            | true =>
              have HX : Hid (x = y) := (show _ = _ by rw [Lib.toList_data, Lib.toList_data] at hxy; exact bl_inj (beq_iff_eq.1 hxy))
              go_upto_region 8 with fail
              go_quiet (fail)
              go_wp2_with fail
              go_roundg g
              case measure => omega
              case rel => exact ⟨j + 1, _, by omega, rfl, (HD.out _).choose_spec, (show _ = _ by rw [HA.out.1, HA.out.2, HW.out, HX.out])⟩
            | false =>
              have HX : Hid (x ≠ y) := (show _ ≠ _ by intro e; rw [e] at hxy; simp at hxy)
              go_upto_region 8 with fail
              go_quiet (fail)
              go_wp2_with fail
              go_ret
              exact ⟨by rw [HG.out HX.out]; rfl, below_drewN hwn.out _⟩
      · have hlI : (N : Int) > (M : Int) := by omega
        have HE : Hid (belowP s.data.toList t.data.toList = false) := (show _ = _ by rw [HB.out]; apply decide_eq_false; exact fun h => hle h.2)
        clear HB HI HJ hle
        go_wp2_with fail
        go_ret
        exact ⟨by rw [HE.out]; rfl, hB⟩
    · have HE : Hid (belowP s.data.toList t.data.toList = false) := below_right ht
      go_wp2_with fail
      go_ret
      exact ⟨by rw [HE.out]; rfl, b1.trans (b2.mono b1.size)⟩
  · have HE : Hid (belowP s.data.toList t.data.toList = false) := below_left hs
    go_wp2_with fail
    refine (rsplit_calls t w1).mono ?_
    rintro e w2 ⟨b2, ⟨u, b, rfl, hu, ht⟩ | ⟨rfl, ht⟩⟩
    · go_wp2_with fail
      go_ret
      exact ⟨by rw [HE.out]; rfl, b1.trans (b2.mono b1.size)⟩
    · go_wp2_with fail
      go_ret
      exact ⟨by rw [HE.out]; rfl, b1.trans (b2.mono b1.size)⟩
end Go.Proofs.YtdmgmicabofmiaaDoor
