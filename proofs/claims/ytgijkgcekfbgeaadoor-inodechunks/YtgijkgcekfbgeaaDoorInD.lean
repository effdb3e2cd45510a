/- Package inode: Of, Numbered. -/
import Derived.Test.YtgijkgcekfbgeaaDoorInC
namespace Go.Proofs.YtgijkgcekfbgeaaDoor
set_option linter.unusedVariables false
open Go.RowKit

theorem str_ne {a b : List UInt8} : ((str a).toList == (str b).toList) = (a == b) := by rw [str_toList, str_toList]
set_option maxHeartbeats 800000 in
theorem of_no (w : World) (L T : List UInt8) (n : Ino) (HS : ∀ w, Calls Tryd.prog 31 #[.string (str L)] w fun e w' => e = .returned (iv n) ∧ Below w.heap.size w w')
    (ok : Bool) (HV : ∀ w, Calls Tryd.prog 9 #[iv n] w fun e w' => e = .returned (.tuple #[.string (str T), .bool ok]) ∧ Below w.heap.size w w') (hno : ok = false ∨ ok = true ∧ ((str T).toList == (str L).toList) = false) :
    Calls Tryd.prog 11 #[.string (str L)] w fun e w' => e = .returned (.tuple #[iv nilI, .bool false]) ∧ Below w.heap.size w w' := by
  have hbox : HasI (w.alloc (.cells #[.bool nilI.d, .int .i64 nilI.l, .int .i64 nilI.s] 23)) w.heap.size nilI := heap_alloc_new _ _
  go_enter Tryd.func11, Tryd.ntmps11
  go_wp2_with fail
  refine (HS _).mono ?_
  rintro e w1 ⟨rfl, H1⟩
  clear HS
  go_wp2_with fail
  refine (HV _).mono ?_
  rintro e w2 ⟨rfl, H2⟩
  clear HV
  have h0 : w.heap.size < w1.heap.size := by have := H1.size; simp at this; omega
  have hbel : Below (w.alloc (.cells #[.bool nilI.d, .int .i64 nilI.l, .int .i64 nilI.s] 23)).heap.size (w.alloc (.cells #[.bool nilI.d, .int .i64 nilI.l, .int .i64 nilI.s] 23)) w2 := (H1.alloc H1.size _).trans (H2.mono (by have := H1.size; simp at this ⊢; omega))
  have hI : HasI w2 w.heap.size nilI := (hbel.block _ (lt_of_block hbox)).trans hbox
  obtain ⟨c0, c1, c2⟩ := cells3 hI
  obtain ⟨f0, f1, f2⟩ := free3 hI
  have HB := below_alloc0 w _ hbel
  have HI : Hid (HasI w2 w.heap.size nilI) := hI
  clear hbel hbox hI H1 H2
  rcases hno with rfl | ⟨rfl, hne⟩
  · go_wp2
    exact ret_ino_ok rfl w.heap.size nilI (.bool false) rfl rfl (HI.out.put3 nilI) rfl ⟨rfl, below_set3 HB (Nat.le_refl _) _ _ _⟩
  · go_wp2
    exact ret_ino_ok rfl w.heap.size nilI (.bool false) rfl rfl (HI.out.put3 nilI) rfl ⟨rfl, below_set3 HB (Nat.le_refl _) _ _ _⟩
set_option maxHeartbeats 800000 in
theorem of_yes (w : World) (L : List UInt8) (n : Ino) (HS : ∀ w, Calls Tryd.prog 31 #[.string (str L)] w fun e w' => e = .returned (iv n) ∧ Below w.heap.size w w')
    (HV : ∀ w, Calls Tryd.prog 9 #[iv n] w fun e w' => e = .returned (.tuple #[.string (str L), .bool true]) ∧ Below w.heap.size w w') :
    Calls Tryd.prog 11 #[.string (str L)] w fun e w' => e = .returned (.tuple #[iv n, .bool true]) ∧ Below w.heap.size w w' := by
  have hbox : HasI (w.alloc (.cells #[.bool nilI.d, .int .i64 nilI.l, .int .i64 nilI.s] 23)) w.heap.size nilI := heap_alloc_new _ _
  go_enter Tryd.func11, Tryd.ntmps11
  go_wp2_with fail
  refine (HS _).mono ?_
  rintro e w1 ⟨rfl, H1⟩
  clear HS
  go_wp2_with fail
  refine (HV _).mono ?_
  rintro e w2 ⟨rfl, H2⟩
  clear HV
  have h0 : w.heap.size < w1.heap.size := by have := H1.size; simp at this; omega
  have hbel : Below (w.alloc (.cells #[.bool nilI.d, .int .i64 nilI.l, .int .i64 nilI.s] 23)).heap.size (w.alloc (.cells #[.bool nilI.d, .int .i64 nilI.l, .int .i64 nilI.s] 23)) w2 := (H1.alloc H1.size _).trans (H2.mono (by have := H1.size; simp at this ⊢; omega))
  have hI : HasI w2 w.heap.size nilI := (hbel.block _ (lt_of_block hbox)).trans hbox
  have hJ : HasI w2 w1.heap.size n := (H2.block _ (by simp)).trans (heap_alloc_new _ _)
  obtain ⟨c0, c1, c2⟩ := cells3 hI
  obtain ⟨d0, d1, d2⟩ := cells3 hJ
  obtain ⟨f0, f1, f2⟩ := free3 hI
  have HB := below_alloc0 w _ hbel
  have HI : Hid (HasI w2 w.heap.size nilI) := hI
  clear hbel hbox hI H1 H2 hJ
  go_wp2
  exact ret_ino_ok rfl w.heap.size n (.bool true) rfl rfl (HI.out.put3 n) rfl ⟨rfl, below_set3 HB (Nat.le_refl _) _ _ _⟩
theorem str_inj {a b : List UInt8} (h : str a = str b) : a = b := by rw [← str_list a, ← str_list b, h]
theorem of_calls (w : World) (L : List UInt8) :
    Calls Tryd.prog 11 #[.string (str L)] w fun e w' => OfTo L w e w' := by
  have HS := fun w => said_calls w L
  have hof : OfIs L (if rightI (saidI (L.take 9)) = true ∧ valI (saidI (L.take 9)) = L then some (saidI (L.take 9)) else none) := of_is said_says L
  generalize saidI (L.take 9) = n at HS hof
  by_cases hr : rightI n = true
  · by_cases hv : valI n = L
    · have HV := fun w => value_calls w n
      rw [valT, if_pos hr, hv, hr] at HV
      refine (of_yes w L n HS HV).mono fun e w' ⟨h1, h2⟩ => ⟨_, hof, ?_, h2⟩
      rw [if_pos ⟨hr, hv⟩]
      exact h1
    · have HV := fun w => value_calls w n
      rw [valT, if_pos hr, hr] at HV
      refine (of_no w L _ n HS _ HV (.inr ⟨rfl, by rw [str_ne]; simpa using hv⟩)).mono fun e w' ⟨h1, h2⟩ => ⟨_, hof, ?_, h2⟩
      rw [if_neg (fun h => hv h.2)]
      exact h1
  · have HV := fun w => value_calls w n
    refine (of_no w L _ n HS _ HV (.inl (by simpa using hr))).mono fun e w' ⟨h1, h2⟩ => ⟨_, hof, ?_, h2⟩
    rw [if_neg (fun h => hr h.1)]
    exact h1

/-- What Numbered tells. -/
def NmTo (L : List UInt8) (w : World) (e : Ending) (w' : World) : Prop := ∃ o, NmIs L o ∧ e = .returned (.tuple #[.int .i64 (o.getD 0), .bool o.isSome]) ∧ Below w.heap.size w w'
set_option maxHeartbeats 800000 in
theorem numbered_of (w : World) (L M T : List UInt8) (N : Int) (HF : ∀ w, Calls Tryd.prog 34 #[.string (str L), .int .i64 4] w fun e w' => ∃ q, e = .returned (.pointer (some ⟨q, 0, none⟩)) ∧ Rea w w' q (rd0 M)) (hN : N = (num ((rd0 M).got 4) : Int))
    (ok b : Bool) (HV : ∀ w, Calls Tryd.prog 13 #[.int .i64 N] w fun e w' => e = .returned (.tuple #[.string (str T), .bool ok]) ∧ Below w.heap.size w w') (hb : b = true ∧ ok = true ∧ ((str T).toList == (str L).toList) = true ∨ b = false ∧ ok = false ∨ b = false ∧ ok = true ∧ ((str T).toList == (str L).toList) = false) :
    Calls Tryd.prog 15 #[.string (str L)] w fun e w' => e = .returned (.tuple #[.int .i64 (if b = true then N else 0), .bool b]) ∧ Below w.heap.size w w' := by
  go_enter Tryd.func15, Tryd.ntmps15
  go_wp2_with fail
  refine (HF _).mono ?_
  rintro e w1 ⟨q, rfl, H⟩
  clear HF
  go_wp2_with fail
  refine (rea_word H).mono ?_
  rw [← hN]
  clear hN
  rintro e w2 ⟨rfl, H2⟩
  go_wp2_with fail
  refine (HV _).mono ?_
  rintro e w3 ⟨rfl, H3⟩
  clear HV
  have HB := H2.below.trans (H3.mono H2.below.size)
  clear H H2 H3
  rcases hb with ⟨rfl, rfl, hne⟩ | ⟨rfl, rfl⟩ | ⟨rfl, rfl, hne⟩
  all_goals
    go_wp2
    go_ret2
    exact ⟨rfl, HB⟩
theorem numbered_calls (w : World) (L : List UInt8) :
    Calls Tryd.prog 15 #[.string (str L)] w fun e w' => NmTo L w e w' := by
  have HF := fun w => reader_calls w L 4 4 rfl (by rw [List.length_take]; omega)
  have hof := nm_is (f := fun L => (num ((rd0 (L.take 4)).got 4) : Int)) (fun n h => by
    show (num ((rd0 ((be n.toNat 4).take 4)).got 4) : Int) = n
    rw [List.take_of_length_le (by rw [be_length]; omega)]
    exact word_back n h) L
  unfold nmI at hof
  obtain ⟨N, hN⟩ : ∃ N : Int, N = (num ((rd0 (L.take 4)).got 4) : Int) := ⟨_, rfl⟩
  simp only [← hN] at hof
  by_cases hr : okNum N = true
  · have HV := fun w => inumber_calls w N
    rw [numT, if_pos hr, hr] at HV
    by_cases hv : be N.toNat 4 = L
    · refine (numbered_of w L _ _ N HF hN true true HV (.inl ⟨rfl, rfl, by rw [hv, str_ne]; simp⟩)).mono fun e w' ⟨h1, h2⟩ => ⟨_, hof, ?_, h2⟩
      rw [if_pos ⟨hr, hv⟩]
      exact h1
    · refine (numbered_of w L _ _ N HF hN true false HV (.inr (.inr ⟨rfl, rfl, by rw [str_ne]; simpa using hv⟩))).mono fun e w' ⟨h1, h2⟩ => ⟨_, hof, ?_, h2⟩
      rw [if_neg (fun h => hv h.2)]
      exact h1
  · have HV := fun w => inumber_calls w N
    refine (numbered_of w L _ _ N HF hN _ false HV (.inr (.inl ⟨rfl, by simpa using hr⟩))).mono fun e w' ⟨h1, h2⟩ => ⟨_, hof, ?_, h2⟩
    rw [if_neg (fun h => hr h.1)]
    exact h1
end Go.Proofs.YtgijkgcekfbgeaaDoor
