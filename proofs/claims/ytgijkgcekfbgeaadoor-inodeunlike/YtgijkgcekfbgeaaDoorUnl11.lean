/- InodeUnlike: unlike things have unlike values, and an inode's value is never an entry's. -/
import Derived.Test.YtgijkgcekfbgeaaDoorBack11
namespace Go.Proofs.YtgijkgcekfbgeaaDoor
set_option linter.unusedVariables false
open Go.RowKit

theorem one_ino (n : Ino) : ∃ (v : List UInt8) (m : Int) (a b : Bool),
    (∀ w, Calls Tryd.prog 9 #[iv n] w fun e w' => e = .returned (.tuple #[.string (str v), .bool a]) ∧ Below w.heap.size w w') ∧
    (∀ w, Calls Tryd.prog 15 #[.string (str v)] w fun e w' => e = .returned (.tuple #[.int .i64 m, .bool b]) ∧ Below w.heap.size w w') ∧
    (a = false ∨ a = true ∧ b = false) ∧ (a = true → rightI n = true ∧ v = valI n) := by
  have hl : (valT n).length ≠ 4 := by
    unfold valT
    split
    · rw [valI_length]; split <;> omega
    · simp
  refine ⟨valT n, 0, rightI n, false, fun w => value_calls w n, fun w => ?_, ?_, fun h => ⟨h, by rw [valT, if_pos h]⟩⟩
  · refine (numbered_calls w _).mono ?_
    rintro e w' ⟨o, ho, rfl, hb⟩
    rw [nm_unlike ho hl]
    exact ⟨rfl, hb⟩
  · cases rightI n
    · exact .inl rfl
    · exact .inr ⟨rfl, rfl⟩
theorem one_num (n : Int) : ∃ (v : List UInt8) (m : Ino) (a b : Bool),
    (∀ w, Calls Tryd.prog 13 #[.int .i64 n] w fun e w' => e = .returned (.tuple #[.string (str v), .bool a]) ∧ Below w.heap.size w w') ∧
    (∀ w, Calls Tryd.prog 11 #[.string (str v)] w fun e w' => e = .returned (.tuple #[iv m, .bool b]) ∧ Below w.heap.size w w') ∧
    (a = false ∨ a = true ∧ b = false) ∧ (a = true → okNum n = true ∧ v = be n.toNat 4) := by
  have hl : (numT n).length ≠ 1 ∧ (numT n).length ≠ 9 := by
    unfold numT
    split
    · rw [be_length]; omega
    · simp
  refine ⟨numT n, nilI, okNum n, false, fun w => inumber_calls w n, fun w => ?_, ?_, fun h => ⟨h, by rw [numT, if_pos h]⟩⟩
  · refine (of_calls w _).mono ?_
    rintro e w' ⟨o, ho, rfl, hb⟩
    rw [of_unlike ho hl.1 hl.2]
    exact ⟨rfl, hb⟩
  · cases okNum n
    · exact .inl rfl
    · exact .inr ⟨rfl, rfl⟩
/-- Two inodes: one and the same, or the first field in which they part. -/
theorem parts (a b : Ino) : a = b ∨ (a.d == b.d) = false ∧ ¬ a.d = b.d ∨ (a.d = b.d ∧ (a.l == b.l) = false ∧ ¬ a.l = b.l) ∨ (a.d = b.d ∧ a.l = b.l ∧ (a.s == b.s) = false ∧ ¬ a.s = b.s) := by
  by_cases h1 : a.d = b.d
  · by_cases h2 : a.l = b.l
    · by_cases h3 : a.s = b.s
      · exact .inl (Ino.ext' h1 h2 h3)
      · exact .inr (.inr (.inr ⟨h1, h2, by simpa using h3, h3⟩))
    · exact .inr (.inr (.inl ⟨h1, by simpa using h2, h2⟩))
  · exact .inr (.inl ⟨by simpa using h1, h1⟩)
set_option maxHeartbeats 6400000 in
theorem unlike_walk (w : World) (a b : Ino) (n k : Int) : Calls Tryd.prog 7 #[iv a, iv b, .int .i64 n, .int .i64 k] w fun e w' => e = .returned (.bool true) ∧ Below w.heap.size w w' := by
  obtain ⟨v1, m1, a1, b1, P1, Q1, d1, r1⟩ := one_ino a
  obtain ⟨v2, _, a2, _, P2, -, -, r2⟩ := one_ino b
  obtain ⟨v3, m3, a3, b3, P3, Q3, d3, r3⟩ := one_num n
  obtain ⟨v4, _, a4, _, P4, -, -, r4⟩ := one_num k
  have D : Hid (a1 = false ∨ (a1 = true ∧ a2 = false) ∨ (a1 = true ∧ a2 = true ∧ ((a = b ∧ ((str v1).toList == (str v2).toList) = true) ∨ ((str v1).toList == (str v2).toList) = false ∧ ((a.d == b.d) = false ∧ ¬ a.d = b.d ∨ (a.d = b.d ∧ (a.l == b.l) = false ∧ ¬ a.l = b.l) ∨ (a.d = b.d ∧ a.l = b.l ∧ (a.s == b.s) = false ∧ ¬ a.s = b.s))))) := by
    show _ ∨ _
    cases ha : a1 with
    | false => exact .inl rfl
    | true =>
      cases hb : a2 with
      | false => exact .inr (.inl ⟨rfl, rfl⟩)
      | true =>
        refine .inr (.inr ⟨rfl, rfl, ?_⟩)
        obtain ⟨x1, x2⟩ := r1 ha
        obtain ⟨y1, y2⟩ := r2 hb
        rw [str_ne]
        rcases parts a b with h | h
        · exact .inl ⟨h, by rw [x2, y2, h]; simp⟩
        · refine .inr ⟨?_, h⟩
          have hn : a ≠ b := by
            rintro rfl
            rcases h with ⟨-, h⟩ | ⟨-, -, h⟩ | ⟨-, -, -, h⟩ <;> exact h rfl
          simpa using fun e => hn (val_inj x1 y1 (by rw [← x2, ← y2]; exact e))
  have E : Hid (a3 = false ∨ (a3 = true ∧ a4 = false) ∨ (a3 = true ∧ a4 = true ∧ ((n == k) = true ∧ ((str v3).toList == (str v4).toList) = true ∨ ((str v3).toList == (str v4).toList) = false ∧ (n == k) = false))) := by
    show _ ∨ _
    cases ha : a3 with
    | false => exact .inl rfl
    | true =>
      cases hb : a4 with
      | false => exact .inr (.inl ⟨rfl, rfl⟩)
      | true =>
        refine .inr (.inr ⟨rfl, rfl, ?_⟩)
        obtain ⟨x1, x2⟩ := r3 ha
        obtain ⟨y1, y2⟩ := r4 hb
        rw [str_ne]
        by_cases h : n = k
        · exact .inl ⟨by simpa using h, by rw [x2, y2, h]; simp⟩
        · exact .inr ⟨by simpa using fun e => h (num_inj4 x1 y1 (by rw [← x2, ← y2]; exact e)), by simpa using h⟩
  have hlen : Hid (a3 = true → (((str v3).size : Int) == 4) = true) := by
    show _ → _
    intro h
    rw [str_size, (r3 h).2, be_length]
    rfl
  clear r1 r2 r3 r4
  have hb1 : HasI (w.alloc (.cells #[.bool a.d, .int .i64 a.l, .int .i64 a.s] 23)) w.heap.size a := heap_alloc_new _ _
  have hbox1 : HasI ((w.alloc (.cells #[.bool a.d, .int .i64 a.l, .int .i64 a.s] 23)).alloc (.cells #[.bool b.d, .int .i64 b.l, .int .i64 b.s] 23)) w.heap.size a := (Below.heap_alloc _ _ _ (lt_of_block hb1)).trans hb1
  have hbox2 : HasI ((w.alloc (.cells #[.bool a.d, .int .i64 a.l, .int .i64 a.s] 23)).alloc (.cells #[.bool b.d, .int .i64 b.l, .int .i64 b.s] 23)) (w.heap.size + 1) b := by
    have h := heap_alloc_new (w.alloc (.cells #[.bool a.d, .int .i64 a.l, .int .i64 a.s] 23)) (.cells #[.bool b.d, .int .i64 b.l, .int .i64 b.s] 23)
    rw [World.size_alloc] at h
    exact h
  clear hb1
  go_enter Tryd.func7, Tryd.ntmps7
  go_wp2_with fail
  refine (shown_calls _).mono ?_
  rintro e w1 ⟨rfl, H1⟩
  have hI : HasI w1 w.heap.size a := (H1.block _ (lt_of_block hbox1)).trans hbox1
  have hJ : HasI w1 (w.heap.size + 1) b := (H1.block _ (lt_of_block hbox2)).trans hbox2
  obtain ⟨c0, c1, c2⟩ := cells3 hI
  obtain ⟨g0, g1, g2⟩ := cells3 hJ
  go_wp2_with fail
  refine (P1 _).mono ?_
  rintro e w2 ⟨rfl, H2⟩
  replace H2 := behind H1 H2
  clear H1 P1 c0 c1 c2 hI g0 g1 g2 hJ
  have hI : HasI w2 w.heap.size a := (H2.block _ (lt_of_block hbox1)).trans hbox1
  have hJ : HasI w2 (w.heap.size + 1) b := (H2.block _ (lt_of_block hbox2)).trans hbox2
  obtain ⟨c0, c1, c2⟩ := cells3 hI
  obtain ⟨g0, g1, g2⟩ := cells3 hJ
  go_wp2_with fail
  refine (P2 _).mono ?_
  rintro e w3 ⟨rfl, H3⟩
  replace H3 := behind H2 H3
  clear H2 P2 c0 c1 c2 hI g0 g1 g2 hJ
  go_wp2_with fail
  refine (P3 _).mono ?_
  rintro e w4 ⟨rfl, H4⟩
  replace H4 := behind H3 H4
  clear H3 P3
  go_wp2_with fail
  refine (P4 _).mono ?_
  rintro e w5 ⟨rfl, H5⟩
  replace H5 := behind H4 H5
  clear H4 P4
  have hI : HasI w5 w.heap.size a := (H5.block _ (lt_of_block hbox1)).trans hbox1
  have hJ : HasI w5 (w.heap.size + 1) b := (H5.block _ (lt_of_block hbox2)).trans hbox2
  have HB := below_box (below_box H5)
  clear H5 hbox1 hbox2
  obtain ⟨c0, c1, c2⟩ := cells3 hI
  obtain ⟨g0, g1, g2⟩ := cells3 hJ
  clear hI hJ
  rcases D.out with rfl | ⟨rfl, rfl⟩ | ⟨rfl, rfl, ⟨rfl, h⟩ | ⟨h, ⟨h1, h1'⟩ | ⟨h0, h1, h1'⟩ | ⟨h0, h0', h1, h1'⟩⟩⟩
  all_goals
    clear D
    try rw [h0] at c0
    try rw [h0'] at c1
    try clear h0
    try clear h0'
    rcases E.out with rfl | ⟨rfl, rfl⟩ | ⟨rfl, rfl, ⟨hn, hs⟩ | ⟨hs, hn⟩⟩
    all_goals
      clear E
      go_wp2_with fail
      refine (Q1 _).mono ?_
      rintro e w6 ⟨rfl, H6⟩
      replace H6 := behind HB H6
      clear HB Q1 c0 c1 c2 g0 g1 g2
      go_wp2_with fail
      refine (Q3 _).mono ?_
      rintro e w7 ⟨rfl, H7⟩
      replace H7 := behind H6 H7
      clear H6 Q3
      rcases d3 with d3 | ⟨-, rfl⟩
      · first
        | (cases d3; done)
        | (rcases d1 with d1 | ⟨-, rfl⟩
           · first
             | (cases d1; done)
             | (clear d1 d3; go_wp2; go_ret; exact ⟨rfl, H7.alloc H7.size _⟩)
           · go_wp2
             go_ret
             exact ⟨rfl, H7.alloc H7.size _⟩)
      · rcases d1 with d1 | ⟨-, rfl⟩
        · first
          | (cases d1; done)
          | (clear d1; go_wp2; all_goals (go_ret; exact ⟨by first | rfl | (simp_all; done), H7.alloc H7.size _⟩))
        · go_wp2
          all_goals
            go_ret
            exact ⟨by first | rfl | (simp_all; done), H7.alloc H7.size _⟩
end Go.Proofs.YtgijkgcekfbgeaaDoor
