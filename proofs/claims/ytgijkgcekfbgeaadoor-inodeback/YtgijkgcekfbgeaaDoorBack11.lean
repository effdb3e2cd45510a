/- InodeBack: what is written is read, and there is one value of each. -/
import Derived.Test.YtgijkgcekfbgeaaDoorInS
namespace Go.Proofs.YtgijkgcekfbgeaaDoor
set_option linter.unusedVariables false
open Go.RowKit

theorem pair_ino (n : Ino) : ∃ (v : List UInt8) (m : Ino) (a b : Bool),
    (∀ w, Calls Tryd.prog 9 #[iv n] w fun e w' => e = .returned (.tuple #[.string (str v), .bool a]) ∧ Below w.heap.size w w') ∧
    (∀ w, Calls Tryd.prog 11 #[.string (str v)] w fun e w' => e = .returned (.tuple #[iv m, .bool b]) ∧ Below w.heap.size w w') ∧
    decide (((str v).size : Int) ≤ 9) = true ∧ (a = false ∨ a = true ∧ b = true ∧ m = n) := by
  by_cases hr : rightI n = true
  · refine ⟨valI n, n, true, true, fun w => ?_, fun w => ?_, ?_, .inr ⟨rfl, rfl, rfl⟩⟩
    · have h := value_calls w n
      rw [valT, if_pos hr, hr] at h
      exact h
    · refine (of_calls w (valI n)).mono ?_
      rintro e w' ⟨o, ho, rfl, hb⟩
      have h : o = some n := (ho n).2 ⟨hr, rfl⟩
      rw [h]
      exact ⟨rfl, hb⟩
    · rw [str_size]
      have := valI_length n
      split at this <;> simp [this]
  · refine ⟨[], nilI, false, false, fun w => ?_, fun w => ?_, by decide, .inl rfl⟩
    · have h := value_calls w n
      rw [valT, if_neg hr, (by simpa using hr : rightI n = false)] at h
      exact h
    · refine (of_calls w []).mono ?_
      rintro e w' ⟨o, ho, rfl, hb⟩
      have h : o = none := of_unlike ho (by decide) (by decide)
      rw [h]
      exact ⟨rfl, hb⟩
theorem nm_unlike {L : List UInt8} {o : Option Int} (h : NmIs L o) (hl : L.length ≠ 4) : o = none := by
  cases o with
  | none => rfl
  | some n =>
    have h1 := ((h n).1 rfl).2
    rw [← h1, be_length] at hl
    exact absurd rfl hl
theorem pair_num (n : Int) : ∃ (v : List UInt8) (m : Int) (a b : Bool),
    (∀ w, Calls Tryd.prog 13 #[.int .i64 n] w fun e w' => e = .returned (.tuple #[.string (str v), .bool a]) ∧ Below w.heap.size w w') ∧
    (∀ w, Calls Tryd.prog 15 #[.string (str v)] w fun e w' => e = .returned (.tuple #[.int .i64 m, .bool b]) ∧ Below w.heap.size w w') ∧
    (a = false ∨ a = true ∧ b = true ∧ m = n) := by
  by_cases hr : okNum n = true
  · refine ⟨be n.toNat 4, n, true, true, fun w => ?_, fun w => ?_, .inr ⟨rfl, rfl, rfl⟩⟩
    · have h := inumber_calls w n
      rw [numT, if_pos hr, hr] at h
      exact h
    · refine (numbered_calls w _).mono ?_
      rintro e w' ⟨o, ho, rfl, hb⟩
      have h : o = some n := (ho n).2 ⟨hr, rfl⟩
      rw [h]
      exact ⟨rfl, hb⟩
  · refine ⟨[], 0, false, false, fun w => ?_, fun w => ?_, .inl rfl⟩
    · have h := inumber_calls w n
      rw [numT, if_neg hr, (by simpa using hr : okNum n = false)] at h
      exact h
    · refine (numbered_calls w []).mono ?_
      rintro e w' ⟨o, ho, rfl, hb⟩
      have h : o = none := nm_unlike ho (by decide)
      rw [h]
      exact ⟨rfl, hb⟩
theorem back_ino (L : List UInt8) : ∃ (v : List UInt8) (m : Ino) (a b : Bool),
    (∀ w, Calls Tryd.prog 11 #[.string (str L)] w fun e w' => e = .returned (.tuple #[iv m, .bool a]) ∧ Below w.heap.size w w') ∧
    (∀ w, Calls Tryd.prog 9 #[iv m] w fun e w' => e = .returned (.tuple #[.string (str v), .bool b]) ∧ Below w.heap.size w w') ∧
    (a = false ∨ a = true ∧ b = true ∧ ((str v).toList == (str L).toList) = true) := by
  have hof : OfIs L (ofI dsaidI L) := of_is dsaid_says L
  generalize ofI dsaidI L = o at hof
  refine ⟨valT (o.getD nilI), o.getD nilI, o.isSome, rightI (o.getD nilI), fun w => ?_, fun w => value_calls w _, ?_⟩
  · refine (of_calls w L).mono ?_
    rintro e w' ⟨o', ho, rfl, hb⟩
    rw [ho.unique hof]
    exact ⟨rfl, hb⟩
  · cases o with
    | none => exact .inl rfl
    | some n =>
      obtain ⟨h1, h2⟩ := (hof n).1 rfl
      refine .inr ⟨rfl, h1, ?_⟩
      show ((str (valT n)).toList == (str L).toList) = true
      rw [valT, if_pos h1, h2]
      simp
theorem back_num (L : List UInt8) : ∃ (v : List UInt8) (m : Int) (a b : Bool),
    (∀ w, Calls Tryd.prog 15 #[.string (str L)] w fun e w' => e = .returned (.tuple #[.int .i64 m, .bool a]) ∧ Below w.heap.size w w') ∧
    (∀ w, Calls Tryd.prog 13 #[.int .i64 m] w fun e w' => e = .returned (.tuple #[.string (str v), .bool b]) ∧ Below w.heap.size w w') ∧
    (a = false ∨ a = true ∧ b = true ∧ ((str v).toList == (str L).toList) = true) := by
  have hof : NmIs L (nmI (fun L => (num ((rd0 L).got 4) : Int)) L) := nm_is word_back L
  generalize nmI (fun L => (num ((rd0 L).got 4) : Int)) L = o at hof
  refine ⟨numT (o.getD 0), o.getD 0, o.isSome, okNum (o.getD 0), fun w => ?_, fun w => inumber_calls w _, ?_⟩
  · refine (numbered_calls w L).mono ?_
    rintro e w' ⟨o', ho, rfl, hb⟩
    rw [ho.unique hof]
    exact ⟨rfl, hb⟩
  · cases o with
    | none => exact .inl rfl
    | some n =>
      obtain ⟨h1, h2⟩ := (hof n).1 rfl
      refine .inr ⟨rfl, h1, ?_⟩
      show ((str (numT n)).toList == (str L).toList) = true
      rw [numT, if_pos h1, h2]
      simp
theorem behind {w w1 w2 : World} (h : Below w.heap.size w w1) (k : Below w1.heap.size w1 w2) : Below w.heap.size w w2 := h.trans (k.mono h.size)
set_option maxHeartbeats 3200000 in
theorem back_walk (w : World) (n : Ino) (ino : Int) (L : List UInt8) : Calls Tryd.prog 4 #[iv n, .int .i64 ino, .string (str L)] w fun e w' => e = .returned (.bool true) ∧ Below w.heap.size w w' := by
  have hbox : HasI (w.alloc (.cells #[.bool n.d, .int .i64 n.l, .int .i64 n.s] 23)) w.heap.size n := heap_alloc_new _ _
  obtain ⟨v1, m1, a1, b1, P1, Q1, hlen, d1⟩ := pair_ino n
  obtain ⟨v2, m2, a2, b2, P2, Q2, d2⟩ := pair_num ino
  obtain ⟨v3, m3, a3, b3, P3, Q3, d3⟩ := back_ino L
  obtain ⟨v4, m4, a4, b4, P4, Q4, d4⟩ := back_num L
  go_enter Tryd.func4, Tryd.ntmps4
  go_wp2_with fail
  refine (shown_calls _).mono ?_
  rintro e w1 ⟨rfl, H1⟩
  have hI : HasI w1 w.heap.size n := (H1.block _ (lt_of_block hbox)).trans hbox
  obtain ⟨c0, c1, c2⟩ := cells3 hI
  go_wp2_with fail
  refine (P1 _).mono ?_
  rintro e w2 ⟨rfl, H2⟩
  replace H2 := behind H1 H2
  clear H1 P1 c0 c1 c2 hI
  go_wp2_with fail
  refine (Q1 _).mono ?_
  rintro e w3 ⟨rfl, H3⟩
  replace H3 := behind H2 H3
  clear H2 Q1
  have hI : HasI w3 w.heap.size n := (H3.block _ (lt_of_block hbox)).trans hbox
  obtain ⟨c0, c1, c2⟩ := cells3 hI
  have hlt : w.heap.size < w3.heap.size := lt_of_block hI
  rcases d1 with rfl | ⟨rfl, rfl, rfl⟩
  all_goals
    go_wp2_with fail
    refine (P2 _).mono ?_
    rintro e w4 ⟨rfl, H4⟩
    replace H4 := behind (H3.alloc H3.size _) H4
    clear H3 P2 c0 c1 c2 hI
    go_wp2_with fail
    refine (Q2 _).mono ?_
    rintro e w5 ⟨rfl, H5⟩
    replace H5 := behind H4 H5
    clear H4 Q2
    rcases d2 with rfl | ⟨rfl, rfl, rfl⟩
    all_goals
      go_wp2_with fail
      refine (P3 _).mono ?_
      rintro e w6 ⟨rfl, H6⟩
      replace H6 := behind H5 H6
      clear H5 P3
      go_wp2_with fail
      refine (Q3 _).mono ?_
      rintro e w7 ⟨rfl, H7⟩
      replace H7 := behind (H6.alloc H6.size _) H7
      clear H6 Q3
      rcases d3 with rfl | ⟨rfl, rfl, d3⟩
      all_goals
        go_wp2_with fail
        refine (P4 _).mono ?_
        rintro e w8 ⟨rfl, H8⟩
        replace H8 := behind H7 H8
        clear H7 P4
        go_wp2_with fail
        refine (Q4 _).mono ?_
        rintro e w9 ⟨rfl, H9⟩
        replace H9 := behind H8 H9
        clear H8 Q4
        rcases d4 with rfl | ⟨rfl, rfl, d4⟩
        all_goals
          go_wp2
          go_ret
          exact ⟨by first | rfl | (simp_all; done), below_box H9⟩
end Go.Proofs.YtgijkgcekfbgeaaDoor
