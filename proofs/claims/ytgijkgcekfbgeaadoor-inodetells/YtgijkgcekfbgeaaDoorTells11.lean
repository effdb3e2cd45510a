/- InodeTells: values are what the document says. -/
import Derived.Test.YtgijkgcekfbgeaaDoorInG
namespace Go.Proofs.YtgijkgcekfbgeaaDoor
set_option linter.unusedVariables false
open Go.RowKit

set_option maxHeartbeats 6400000 in
theorem tells_of (w : World) (n : Ino) (ino : Int) (A S v1 v2 v3 v4 : ByteArray) (o : Option Ino) (p : Option Int) (r1 r2 : Bool) (hxA : A.extract 0 (min (A.size : Int) 100).toNat = S)
    (P1 : ∀ w, Calls Tryd.prog 9 #[iv n] w fun e w' => e = .returned (.tuple #[.string v1, .bool r1]) ∧ Below w.heap.size w w')
    (Q1 : ∀ w, Calls Tryd.prog 10 #[iv n] w fun e w' => e = .returned (.tuple #[.string v1, .bool r1]) ∧ Below w.heap.size w w')
    (P2 : ∀ w, Calls Tryd.prog 11 #[.string S] w fun e w' => e = .returned (.tuple #[iv (o.getD nilI), .bool o.isSome]) ∧ Below w.heap.size w w')
    (Q2 : ∀ w, Calls Tryd.prog 12 #[.string S] w fun e w' => e = .returned (.tuple #[iv (o.getD nilI), .bool o.isSome]) ∧ Below w.heap.size w w')
    (P3 : ∀ w, Calls Tryd.prog 13 #[.int .i64 ino] w fun e w' => e = .returned (.tuple #[.string v2, .bool r2]) ∧ Below w.heap.size w w')
    (Q3 : ∀ w, Calls Tryd.prog 14 #[.int .i64 ino] w fun e w' => e = .returned (.tuple #[.string v2, .bool r2]) ∧ Below w.heap.size w w')
    (P4 : ∀ w, Calls Tryd.prog 15 #[.string S] w fun e w' => e = .returned (.tuple #[.int .i64 (p.getD 0), .bool p.isSome]) ∧ Below w.heap.size w w')
    (Q4 : ∀ w, Calls Tryd.prog 16 #[.string S] w fun e w' => e = .returned (.tuple #[.int .i64 (p.getD 0), .bool p.isSome]) ∧ Below w.heap.size w w')
    (P5 : ∀ w, Calls Tryd.prog 17 #[.string S] w fun e w' => e = .returned (.string v3) ∧ Below w.heap.size w w')
    (Q5 : ∀ w, Calls Tryd.prog 18 #[.string S] w fun e w' => e = .returned (.string v3) ∧ Below w.heap.size w w')
    (P6 : ∀ w, Calls Tryd.prog 19 #[.string S] w fun e w' => e = .returned (.string v4) ∧ Below w.heap.size w w')
    (Q6 : ∀ w, Calls Tryd.prog 20 #[.string S] w fun e w' => e = .returned (.string v4) ∧ Below w.heap.size w w') :
    Calls Tryd.prog 3 #[iv n, .int .i64 ino, .string A] w fun e w' => e = .returned (.bool true) ∧ Below w.heap.size w w' := by
  have hbox : HasI (w.alloc (.cells #[.bool n.d, .int .i64 n.l, .int .i64 n.s] 23)) w.heap.size n := heap_alloc_new _ _
  generalize o.getD nilI = N at P2 Q2
  generalize o.isSome = r3 at P2 Q2
  generalize p.getD 0 = M at P4 Q4
  generalize p.isSome = r4 at P4 Q4
  go_enter Tryd.func3, Tryd.ntmps3
  go_wp2_with fail
  refine (shown_calls _).mono ?_
  rintro e w1 ⟨rfl, H1⟩
  have hI : HasI w1 w.heap.size n := (H1.block _ (lt_of_block hbox)).trans hbox
  obtain ⟨c0, c1, c2⟩ := cells3 hI
  go_wp2_with fail
  refine (P1 _).mono ?_
  rintro e w2 ⟨rfl, H2⟩
  replace H2 := behind H1 H2
  clear H1 P1 c0 c1 c2 hI
  have hI : HasI w2 w.heap.size n := (H2.block _ (lt_of_block hbox)).trans hbox
  obtain ⟨c0, c1, c2⟩ := cells3 hI
  go_wp2_with fail
  refine (Q1 _).mono ?_
  rintro e w3 ⟨rfl, H3⟩
  replace H3 := behind H2 H3
  clear H2 Q1 c0 c1 c2 hI
  go_wp2_with fail
  refine (P2 _).mono ?_
  rintro e w4 ⟨rfl, H4⟩
  replace H4 := behind H3 H4
  clear H3 P2
  go_wp2_with fail
  refine (Q2 _).mono ?_
  rintro e w5 ⟨rfl, H5⟩
  have hJ5 : HasI w5 w4.heap.size N := (H5.block _ (by simp)).trans (heap_alloc_new _ _)
  replace H5 := behind (H4.alloc H4.size _) H5
  clear H4 Q2
  have hJ : HasI (w5.alloc (.cells #[.bool N.d, .int .i64 N.l, .int .i64 N.s] 23)) w4.heap.size N := (Below.heap_alloc _ _ _ (lt_of_block hJ5)).trans hJ5
  have hK : HasI (w5.alloc (.cells #[.bool N.d, .int .i64 N.l, .int .i64 N.s] 23)) w5.heap.size N := heap_alloc_new _ _
  go_wp2_with fail
  refine (P3 _).mono ?_
  rintro e w6 ⟨rfl, H6⟩
  replace hJ : HasI w6 w4.heap.size N := (H6.block _ (lt_of_block hJ)).trans hJ
  replace hK : HasI w6 w5.heap.size N := (H6.block _ (lt_of_block hK)).trans hK
  replace H6 := behind (H5.alloc H5.size _) H6
  clear H5 P3 hJ5
  go_wp2_with fail
  refine (Q3 _).mono ?_
  rintro e w7 ⟨rfl, H7⟩
  replace hJ : HasI w7 w4.heap.size N := (H7.block _ (lt_of_block hJ)).trans hJ
  replace hK : HasI w7 w5.heap.size N := (H7.block _ (lt_of_block hK)).trans hK
  replace H7 := behind H6 H7
  clear H6 Q3
  go_wp2_with fail
  refine (P4 _).mono ?_
  rintro e w8 ⟨rfl, H8⟩
  replace hJ : HasI w8 w4.heap.size N := (H8.block _ (lt_of_block hJ)).trans hJ
  replace hK : HasI w8 w5.heap.size N := (H8.block _ (lt_of_block hK)).trans hK
  replace H8 := behind H7 H8
  clear H7 P4
  go_wp2_with fail
  refine (Q4 _).mono ?_
  rintro e w9 ⟨rfl, H9⟩
  replace hJ : HasI w9 w4.heap.size N := (H9.block _ (lt_of_block hJ)).trans hJ
  replace hK : HasI w9 w5.heap.size N := (H9.block _ (lt_of_block hK)).trans hK
  replace H9 := behind H8 H9
  clear H8 Q4
  obtain ⟨c0, c1, c2⟩ := cells3 hJ
  obtain ⟨g0, g1, g2⟩ := cells3 hK
  go_wp2_with fail
  refine (P5 _).mono ?_
  rintro e w10 ⟨rfl, H10⟩
  replace H10 := behind H9 H10
  clear H9 P5 c0 c1 c2 g0 g1 g2 hJ hK
  go_wp2_with fail
  refine (Q5 _).mono ?_
  rintro e w11 ⟨rfl, H11⟩
  replace H11 := behind H10 H11
  clear H10 Q5
  go_wp2_with fail
  refine (P6 _).mono ?_
  rintro e w12 ⟨rfl, H12⟩
  replace H12 := behind H11 H12
  clear H11 P6
  go_wp2_with fail
  refine (Q6 _).mono ?_
  rintro e w13 ⟨rfl, H13⟩
  replace H13 := behind H12 H13
  clear H12 Q6
  go_wp2
  go_ret
  exact ⟨by first | rfl | simp, below_box H13⟩
theorem tells_walk (w : World) (n : Ino) (ino : Int) (L : List UInt8) : Calls Tryd.prog 3 #[iv n, .int .i64 ino, .string (str L)] w fun e w' => e = .returned (.bool true) ∧ Below w.heap.size w w' := by
  have hlt : (L.take 100).length ≤ 100 := by rw [List.length_take]; omega
  have hof : OfIs (L.take 100) (ofI dsaidI (L.take 100)) := of_is dsaid_says _
  have hnm : NmIs (L.take 100) (nmI (fun L => (num ((rd0 L).got 4) : Int)) (L.take 100)) := nm_is word_back _
  refine tells_of w n ino (str L) (str (L.take 100)) _ _ _ _ (ofI dsaidI (L.take 100)) (nmI (fun L => (num ((rd0 L).got 4) : Int)) (L.take 100)) _ _ ?_ (fun w => value_calls w n) (fun w => rvalue_calls w n) (fun w => ?_) (fun w => ?_) (fun w => inumber_calls w ino) (fun w => rnumber_calls w ino) (fun w => ?_) (fun w => ?_) (fun w => trim_calls w _) (fun w => ?_) (fun w => full_calls w _) (fun w => rfull_calls w _)
  · rw [ext_take, str_size]
    by_cases hl : L.length ≤ 100
    · rw [List.take_of_length_le (i := 100) hl, List.take_of_length_le (by omega)]
    · congr 2
      omega
  · refine (of_calls w _).mono ?_
    rintro e w' ⟨o, ho, rfl, hb⟩
    rw [ho.unique hof]
    exact ⟨rfl, hb⟩
  · refine (rof_calls w _).mono ?_
    rintro e w' ⟨o, ho, rfl, hb⟩
    rw [ho.unique hof]
    exact ⟨rfl, hb⟩
  · refine (numbered_calls w _).mono ?_
    rintro e w' ⟨o, ho, rfl, hb⟩
    rw [ho.unique hnm]
    exact ⟨rfl, hb⟩
  · refine (rnumbered_calls w _).mono ?_
    rintro e w' ⟨o, ho, rfl, hb⟩
    rw [ho.unique hnm]
    exact ⟨rfl, hb⟩
  · refine (rtrim_calls w _ (by omega)).mono ?_
    rintro e w' ⟨rfl, hw⟩
    rw [hw]
    exact ⟨rfl, Below.refl _ _⟩
end Go.Proofs.YtgijkgcekfbgeaaDoor
