/- Package name: Below. -/
import Derived.Test.YtdmgmicabofmiaaDoorNaD
namespace Go.Proofs.YtdmgmicabofmiaaDoor
set_option linter.unusedVariables false
open Go.RowKit

theorem equal_calls (v u : Value) (a b : List ByteArray) (w : World) (hl : a.length = b.length) (hv : Sl encS w v a) (hu : Sl encS w u b) :
    Calls Tryd.prog 29 #[v, u] w fun e w' => e = .returned (.bool (decide (a = b))) ∧ Below w.heap.size w w' := by
  have hv0 := hv
  have hu0 := hu
  obtain ⟨ad, cap, rfl, hcap, hmax, _, h5⟩ := hv
  obtain ⟨ad2, cap2, rfl, hcap2, hmax2, _, h6⟩ := hu
  rcases h5 with rfl | ⟨g, off, rfl, hg, _⟩
  · have hb : b = [] := List.eq_nil_of_length_eq_zero hl.symm
    subst hb
    refine (Any.slices_Equal_string_empty (P := Tryd.prog) (ρ := Tryd.equalA_ren) Tryd.equalA ad ad2 cap 0 cap2 w (by omega)).mono fun e w' ⟨h1, h2⟩ => ⟨h1, ?_⟩
    rw [h2]; exact Below.refl _ _
  · rcases h6 with rfl | ⟨g2, off2, rfl, hg2, _⟩
    · have ha : a = [] := List.eq_nil_of_length_eq_zero hl
      subst ha
      refine (Any.slices_Equal_string_empty (P := Tryd.prog) (ρ := Tryd.equalA_ren) Tryd.equalA (some ⟨g, off, none⟩) ad2 cap 0 cap2 w (by omega)).mono fun e w' ⟨h1, h2⟩ => ⟨h1, ?_⟩
      rw [h2]; exact Below.refl _ _
    · have hm1 : a.length ≤ 9223372036854775807 := by unfold maxLen at hmax; omega
      have hm2 : b.length ≤ 9223372036854775807 := by unfold maxLen at hmax2; omega
      refine (Any.slices_Equal_string (P := Tryd.prog) (ρ := Tryd.equalA_ren) Tryd.equalA g off a.length cap g2 off2 b.length cap2 a b w (Nat.le_refl _) (Nat.le_refl _) hm1 hm2 ?_ ?_).mono fun e w' ⟨h1, q, h2⟩ => ⟨?_, ?_⟩
      · intro j hj
        obtain ⟨g', off', e1, _, e2⟩ := sl_cell hv0 j hj
        cases e1
        rw [e2]; simp [hj]
      · intro j hj
        obtain ⟨g', off', e1, _, e2⟩ := sl_cell hu0 j hj
        cases e1
        rw [e2]; simp [hj]
      · rw [h1, List.take_length, List.take_length]
      · rw [h2]; exact below_drewN (Below.refl _ _) q

set_option maxRecDepth 1000000 in
set_option maxHeartbeats 1000000 in
theorem below_calls (s t : ByteArray) (w : World) : Calls Tryd.prog 21 #[.string s, .string t] w fun e w' => e = .returned (.bool (belowP s.data.toList t.data.toList)) ∧ Below w.heap.size w w' := by
  go_enter Tryd.func21, Tryd.ntmps21
  go_wp2_with fail
  refine (split_calls s w).mono ?_
  rintro e w1 ⟨b1, ⟨v, a, rfl, hv, hs⟩ | ⟨rfl, hs⟩⟩
  · go_wp2_with fail
    refine (split_calls t w1).mono ?_
    rintro e w2 ⟨b2, ⟨u, b, rfl, hu, ht⟩ | ⟨rfl, ht⟩⟩
    · have hv2 : Sl encS w2 v a := Sl.called hv b2
      have hB : Below w.heap.size w w2 := b1.trans (b2.mono b1.size)
      have HB : Hid (belowP s.data.toList t.data.toList = decide (b = a.take b.length ∧ b.length ≤ a.length)) := (show _ = _ by rw [below_some hs ht, bl_prefix])
      clear hv b1 b2 hs ht
      have hv0 := hv2
      have hu0 := hu
      obtain ⟨ad, cap, rfl, hcap, hmax, _, _⟩ := hv2
      obtain ⟨ad2, cap2, rfl, hcap2, hmax2, _, _⟩ := hu
      by_cases hle : b.length ≤ a.length
      · have hlI : ((b.length : Nat) : Int) ≤ ((a.length : Nat) : Int) := by omega
        have hlc : ((b.length : Nat) : Int) ≤ (cap : Int) := by omega
        have c := equal_calls _ _ b (a.take b.length) w2 (by simp; omega) hu0 (SlB.take hv0 b.length hle)
        have HE : Hid (decide (b = a.take b.length) = belowP s.data.toList t.data.toList) := (show _ = _ by rw [HB.out]; simp [hle])
        generalize decide (b = a.take b.length) = R at *
        clear HB hv0 hu0 hle hmax hmax2
        go_wp2_with (go_at_call 29; refine c.mono ?_; rintro e w3 ⟨rfl, b3⟩; clear c)
        go_ret
        exact ⟨by rw [← HE.out]; rfl, hB.trans (b3.mono hB.size)⟩
      · have hlI : ¬ ((b.length : Nat) : Int) ≤ ((a.length : Nat) : Int) := by omega
        have HE : Hid (belowP s.data.toList t.data.toList = false) := (show _ = _ by rw [HB.out]; simp [hle])
        clear HB hv0 hu0 hle
        go_wp2_with fail
        go_ret
        exact ⟨by rw [HE.out]; rfl, hB⟩
    · have HE : Hid (belowP s.data.toList t.data.toList = false) := below_right ht
      go_wp2_with fail
      go_ret
      exact ⟨by rw [HE.out]; rfl, b1.trans (b2.mono b1.size)⟩
  · have HE : Hid (belowP s.data.toList t.data.toList = false) := below_left hs
    go_wp2_with fail
    refine (split_calls t w1).mono ?_
    rintro e w2 ⟨b2, ⟨u, b, rfl, hu, ht⟩ | ⟨rfl, ht⟩⟩
    · go_wp2_with fail
      go_ret
      exact ⟨by rw [HE.out]; rfl, b1.trans (b2.mono b1.size)⟩
    · go_wp2_with fail
      go_ret
      exact ⟨by rw [HE.out]; rfl, b1.trans (b2.mono b1.size)⟩
end Go.Proofs.YtdmgmicabofmiaaDoor
