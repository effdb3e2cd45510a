/- The document's own Of, Trim and Full. -/
import Derived.Test.YtgijkgcekfbgeaaDoorInE
namespace Go.Proofs.YtgijkgcekfbgeaaDoor
set_option linter.unusedVariables false
open Go.RowKit

theorem HasI.touch {w w' : World} {b q : Nat} {n : Ino} (h : HasI w b n) (ht : Touch q none w w') (hq : b ≠ q) : HasI w' b n := (ht.block _ (lt_of_block h) hq (by simp)).trans h
theorem KQ.other {w : World} {b q j : Nat} {u : Value} {t : RS} (h : KQ w q t) (hq : q ≠ b) : KQ (w.setCell ⟨b, j, none⟩ u) q t := h.kept (Below.heap_setCell _ _ _ _ (by simpa using hq))
theorem HasI.set1 {w : World} {b : Nat} {n : Ino} (h : HasI w b n) (x : Int) : HasI (w.setCell ⟨b, 1, none⟩ (.int .i64 x)) b ⟨n.d, x, n.s⟩ := set_blk h 1 _
theorem HasI.set2 {w : World} {b : Nat} {n : Ino} (h : HasI w b n) (x : Int) : HasI (w.setCell ⟨b, 2, none⟩ (.int .i64 x)) b ⟨n.d, n.l, x⟩ := set_blk h 2 _
theorem HasI.other {w : World} {b c j : Nat} {n : Ino} {u : Value} (h : HasI w b n) (hq : b ≠ c) : HasI (w.setCell ⟨c, j, none⟩ u) b n := by
  unfold HasI; rw [Below.heap_setCell _ _ _ _ (by simpa using hq)]; exact h
set_option maxHeartbeats 1600000 in
theorem rof_of (w : World) (L T : List UInt8) (n : Ino) (K X Y : Int) (hK : K = (num ((rd0 L).got 1) : Int)) (hX : X = (num (((rd0 L).take 1).got 4) : Int)) (hY : Y = (num ((((rd0 L).take 1).take 4).got 4) : Int))
    (hn : (K == 1) = true ∧ n = dirI ∨ (K == 1) = false ∧ n = ⟨false, X, Y⟩)
    (ok b : Bool) (HV : ∀ w, Calls Tryd.prog 10 #[iv n] w fun e w' => e = .returned (.tuple #[.string (str T), .bool ok]) ∧ Below w.heap.size w w')
    (hb : b = true ∧ ok = true ∧ ((str T).toList == (str L).toList) = true ∨ b = false ∧ ok = false ∨ b = false ∧ ok = true ∧ ((str T).toList == (str L).toList) = false) :
    Calls Tryd.prog 12 #[.string (str L)] w fun e w' => e = .returned (.tuple #[iv (if b = true then n else nilI), .bool b]) ∧ Below w.heap.size w w' := by
  have hbox : HasI (w.alloc (.cells #[.bool nilI.d, .int .i64 nilI.l, .int .i64 nilI.s] 23)) w.heap.size nilI := heap_alloc_new _ _
  have H := qri_new (w.alloc (.cells #[.bool nilI.d, .int .i64 nilI.l, .int .i64 nilI.s] 23)) L
  go_enter Tryd.func12, Tryd.ntmps12
  rw [show (w.alloc (.cells #[.bool nilI.d, .int .i64 nilI.l, .int .i64 nilI.s] 23)).heap.size = w.heap.size + 1 by simp] at H
  go_wp2_with fail
  refine (qri_byte H).mono ?_
  rw [← hK]
  clear hK H
  rintro e w2 ⟨rfl, H2, -⟩
  have hI2 : HasI w2 w.heap.size nilI := H2.block hbox
  have hlt2 : w.heap.size + 1 < w2.heap.size := H2.1.lt
  rcases hn with ⟨hk, rfl⟩ | ⟨hk, rfl⟩
  · go_wp2_with fail
    refine (HV _).mono ?_
    rintro e w6 ⟨rfl, H6⟩
    clear HV
    have HB := below_box (behind (H2.2.1.alloc H2.2.1.size _) H6)
    have hJ : HasI w6 w2.heap.size dirI := (H6.block _ (by simp)).trans (heap_alloc_new _ _)
    have hI : HasI w6 w.heap.size nilI := (H6.block _ (by simp; omega)).trans ((Below.heap_alloc _ _ _ (by omega)).trans hI2)
    obtain ⟨c0, c1, c2⟩ := cells3 hI
    obtain ⟨f0, f1, f2⟩ := free3 hI
    obtain ⟨g0, g1, g2⟩ := cells3 hJ
    have HI : Hid (HasI w6 w.heap.size nilI) := hI
    clear H6 hJ hI hI2 hX hY H2 hbox
    rcases hb with ⟨rfl, rfl, hne⟩ | ⟨rfl, rfl⟩ | ⟨rfl, rfl, hne⟩
    · go_wp2
      exact ret_ino_ok rfl w.heap.size dirI (.bool true) rfl rfl (HI.out.put3 dirI) rfl ⟨rfl, below_set3 HB (Nat.le_refl _) _ _ _⟩
    · go_wp2
      exact ret_ino_ok rfl w.heap.size nilI (.bool false) rfl rfl (HI.out.put3 nilI) rfl ⟨rfl, below_set3 HB (Nat.le_refl _) _ _ _⟩
    · go_wp2
      exact ret_ino_ok rfl w.heap.size nilI (.bool false) rfl rfl (HI.out.put3 nilI) rfl ⟨rfl, below_set3 HB (Nat.le_refl _) _ _ _⟩
  · have hJ2 : HasI (w2.alloc (.cells #[.bool false, .int .i64 0, .int .i64 0] 23)) w2.heap.size nilI := heap_alloc_new _ _
    have hI3 : HasI (w2.alloc (.cells #[.bool false, .int .i64 0, .int .i64 0] 23)) w.heap.size nilI := (Below.heap_alloc _ _ _ (by omega)).trans hI2
    have H3 : Qri (w.alloc (.cells #[.bool nilI.d, .int .i64 nilI.l, .int .i64 nilI.s] 23)) (w2.alloc (.cells #[.bool false, .int .i64 0, .int .i64 0] 23)) (w.heap.size + 1) ((rd0 L).take 1) := ⟨H2.1.kept (Below.heap_alloc _ _ _ hlt2), H2.2.1.alloc H2.2.1.size _, H2.2.2⟩
    go_wp2_with fail
    refine (qri_word H3).mono ?_
    rw [← hX]
    clear hX H3
    rintro e w3 ⟨rfl, H3, ht3⟩
    have hI4 := hI3.touch ht3 (by omega)
    have hJ4 := hJ2.touch ht3 (by omega)
    clear hI3 hJ2 ht3
    obtain ⟨c0, c1, c2⟩ := cells3 hJ4
    obtain ⟨f0, f1, f2⟩ := free3 hJ4
    have H4 : Qri (w.alloc (.cells #[.bool nilI.d, .int .i64 nilI.l, .int .i64 nilI.s] 23)) (w3.setCell ⟨w2.heap.size, 1, none⟩ (.int .i64 X)) (w.heap.size + 1) (((rd0 L).take 1).take 4) := ⟨H3.1.other (by omega), H3.2.1.setCell (by simp; omega) _, H3.2.2⟩
    go_wp2_with fail
    refine (qri_word H4).mono ?_
    rw [← hY]
    clear hY H4
    rintro e w4 ⟨rfl, H4, ht4⟩
    have hI5 := (hI4.other (c := w2.heap.size) (j := 1) (u := .int .i64 X) (by omega)).touch ht4 (by omega)
    have hJ5 := (hJ4.set1 X).touch ht4 (by omega)
    clear hI4 hJ4 ht4 c0 c1 c2 f0 f1 f2 H3
    obtain ⟨c0, c1, c2⟩ := cells3 hJ5
    obtain ⟨f0, f1, f2⟩ := free3 hJ5
    have hJ6 := hJ5.set2 Y
    have hI6 := hI5.other (c := w2.heap.size) (j := 2) (u := .int .i64 Y) (by omega)
    have HB6 : Below w.heap.size w (w4.setCell ⟨w2.heap.size, 2, none⟩ (.int .i64 Y)) := (below_box H4.2.1).setCell (by simp; omega) _
    have HJ6 : Hid (HasI (w4.setCell ⟨w2.heap.size, 2, none⟩ (.int .i64 Y)) w2.heap.size ⟨nilI.d, X, Y⟩) := hJ6
    have HI6 : Hid (HasI (w4.setCell ⟨w2.heap.size, 2, none⟩ (.int .i64 Y)) w.heap.size nilI) := hI6
    clear hJ6 hI6 hI5 hJ5
    go_wp2_with fail
    refine (HV _).mono ?_
    rintro e w6 ⟨rfl, H6⟩
    clear HV c0 c1 c2 f0 f1 f2
    have HB := behind HB6 H6
    have hJ : HasI w6 w2.heap.size ⟨false, X, Y⟩ := (H6.block _ (lt_of_block HJ6.out)).trans HJ6.out
    have hI : HasI w6 w.heap.size nilI := (H6.block _ (lt_of_block HI6.out)).trans HI6.out
    obtain ⟨c0, c1, c2⟩ := cells3 hI
    obtain ⟨f0, f1, f2⟩ := free3 hI
    obtain ⟨g0, g1, g2⟩ := cells3 hJ
    have HI : Hid (HasI w6 w.heap.size nilI) := hI
    clear H6 hJ hI hI2 H2 hbox HJ6 HI6 HB6 H4
    rcases hb with ⟨rfl, rfl, hne⟩ | ⟨rfl, rfl⟩ | ⟨rfl, rfl, hne⟩
    · go_wp2
      exact ret_ino_ok rfl w.heap.size ⟨false, X, Y⟩ (.bool true) rfl rfl (HI.out.put3 ⟨false, X, Y⟩) rfl ⟨rfl, below_set3 HB (Nat.le_refl _) _ _ _⟩
    · go_wp2
      exact ret_ino_ok rfl w.heap.size nilI (.bool false) rfl rfl (HI.out.put3 nilI) rfl ⟨rfl, below_set3 HB (Nat.le_refl _) _ _ _⟩
    · go_wp2
      exact ret_ino_ok rfl w.heap.size nilI (.bool false) rfl rfl (HI.out.put3 nilI) rfl ⟨rfl, below_set3 HB (Nat.le_refl _) _ _ _⟩
theorem rof_calls (w : World) (L : List UInt8) :
    Calls Tryd.prog 12 #[.string (str L)] w fun e w' => OfTo L w e w' := by
  have hof : OfIs L (if rightI (dsaidI L) = true ∧ valI (dsaidI L) = L then some (dsaidI L) else none) := of_is dsaid_says L
  have hn : ((num ((rd0 L).got 1) : Int) == 1) = true ∧ dsaidI L = dirI ∨ ((num ((rd0 L).got 1) : Int) == 1) = false ∧ dsaidI L = ⟨false, num (((rd0 L).take 1).got 4), num ((((rd0 L).take 1).take 4).got 4)⟩ := by
    by_cases h : (num ((rd0 L).got 1) : Int) = 1
    · exact .inl ⟨by simpa using h, by rw [dsaidI, if_pos h]⟩
    · exact .inr ⟨by simpa using h, by rw [dsaidI, if_neg h]⟩
  generalize dsaidI L = n at hof hn
  have HV := fun w => rvalue_calls w n
  by_cases hr : rightI n = true
  · rw [valT, if_pos hr, hr] at HV
    by_cases hv : valI n = L
    · refine (rof_of w L _ n _ _ _ rfl rfl rfl hn true true HV (.inl ⟨rfl, rfl, by rw [hv, str_ne]; simp⟩)).mono fun e w' ⟨h1, h2⟩ => ⟨_, hof, ?_, h2⟩
      rw [if_pos ⟨hr, hv⟩]
      exact h1
    · refine (rof_of w L _ n _ _ _ rfl rfl rfl hn true false HV (.inr (.inr ⟨rfl, rfl, by rw [str_ne]; simpa using hv⟩))).mono fun e w' ⟨h1, h2⟩ => ⟨_, hof, ?_, h2⟩
      rw [if_neg (fun h => hv h.2)]
      exact h1
  · refine (rof_of w L _ n _ _ _ rfl rfl rfl hn _ false HV (.inr (.inl ⟨rfl, by simpa using hr⟩))).mono fun e w' ⟨h1, h2⟩ => ⟨_, hof, ?_, h2⟩
    rw [if_neg (fun h => hr h.1)]
    exact h1
end Go.Proofs.YtgijkgcekfbgeaaDoor
