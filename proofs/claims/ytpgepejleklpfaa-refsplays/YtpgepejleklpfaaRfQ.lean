/- Refs all of whose own blocks are new since there were B: the form in which the statements' walks carry them; shown() answers true. -/
import Derived.Test.YtpgepejleklpfaaRfE
namespace Go.Proofs.Ytpgepejleklpfaa
set_option linter.unusedVariables false
open Go.RowKit
attribute [local go_sem ↓] Go.wp_at_zero Go.wp_at_succ

structure RQ (w : World) (p b B K : Nat) (S : RfS) : Prop where
  rf : Rf w p b K S
  bp : B ≤ p
  bb : B ≤ b
theorem RQ.lt {w : World} {p b B K : Nat} {S : RfS} (h : RQ w p b B K S) : p < w.heap.size ∧ b < w.heap.size := h.rf.lt
theorem RQ.size {w : World} {p b B K : Nat} {S : RfS} (h : RQ w p b B K S) : B ≤ w.heap.size := by have := h.lt; have := h.bp; omega
theorem RQ.below {w w' : World} {p b B K C : Nat} {S : RfS} (h : RQ w p b B K S) (hb : Below C w w') (hC : w.heap.size ≤ C) : RQ w' p b B K S := ⟨h.rf.below hb hC, h.bp, h.bb⟩
theorem RQ.drew {w : World} {p b B K : Nat} {S : RfS} (h : RQ w p b B K S) : RQ w.drew p b B K S := ⟨h.rf.kept rfl rfl, h.bp, h.bb⟩
theorem RQ.go {w w' : World} {p b B K : Nat} {S S' : RfS} (h : RQ w p b B K S) (g : RGo w p b K S' w') : RQ w' p b B (K + 1) S' ∧ Below B w w' ∧ Touch p (some b) w w' :=
  ⟨⟨g.1, h.bp, h.bb⟩, g.2.below h.size h.bp (fun k e => by cases e; exact h.bb), g.2⟩
/-- What a call comes to. -/
def QGo (w : World) (p b B K : Nat) (S' : RfS) (w' : World) : Prop := RQ w' p b B (K + 1) S' ∧ Below B w w' ∧ Touch p (some b) w w'
theorem newQ (w : World) (n : Int) (hn : I64 n) : Calls Try.prog 9 #[.int .i64 n] w fun e w' => e = .returned (.pointer (some ⟨w.heap.size + 1, 0, none⟩)) ∧ RQ w' (w.heap.size + 1) w.heap.size w.heap.size 0 (RfS.new n) ∧ Below w.heap.size w w' :=
  (new_calls w n hn).mono fun e w' ⟨h1, h2, h3⟩ => ⟨h1, ⟨h2, by omega, by omega⟩, h3⟩
theorem takeQ (w : World) (p b B K : Nat) (S : RfS) (h : RQ w p b B K S) (hK : K ≤ 1000000) : Calls Try.prog 18 #[.pointer (some ⟨p, 0, none⟩)] w fun e w' => e = .returned (.tuple #[.int .i64 S.tookN, .bool S.took]) ∧ QGo w p b B K S.take w' :=
  (take_calls w p b K S h.rf hK).mono fun e w' ⟨h1, h2⟩ => ⟨h1, h.go h2⟩
theorem incQ (w : World) (p b B K : Nat) (S : RfS) (n : Int) (h : RQ w p b B K S) (hn : I64 n) (hK : K ≤ 1000000) : Calls Try.prog 23 #[.pointer (some ⟨p, 0, none⟩), .int .i64 n] w fun e w' => e = .returned (.int .i64 (S.need n)) ∧ QGo w p b B K (S.inc n) w' :=
  (inc_calls w p b K S n h.rf hn hK).mono fun e w' ⟨h1, h2⟩ => ⟨h1, h.go h2⟩
theorem markQ (w : World) (p b B K : Nat) (S : RfS) (n : Int) (h : RQ w p b B K S) (hn : I64 n) (hK : K ≤ 1000000) : Calls Try.prog 17 #[.pointer (some ⟨p, 0, none⟩), .int .i64 n] w fun e w' => e = .returned (.tuple #[.bool (S.first n), .int .i64 (S.merr n)]) ∧ QGo w p b B K (S.mark n) w' :=
  (mark_calls w p b K S n h.rf hn hK).mono fun e w' ⟨h1, h2⟩ => ⟨h1, h.go h2⟩
theorem decQ (w : World) (p b B K : Nat) (S : RfS) (n : Int) (h : RQ w p b B K S) (hn : I64 n) (hK : K ≤ 1000000) : Calls Try.prog 22 #[.pointer (some ⟨p, 0, none⟩), .int .i64 n] w fun e w' => e = .returned (.tuple #[.bool (S.last n), .int .i64 (S.need n)]) ∧ QGo w p b B K (S.dec n) w' :=
  (dec_calls w p b K S n h.rf hn hK).mono fun e w' ⟨h1, h2⟩ => ⟨h1, h.go h2⟩
theorem countQ (w : World) (p b B K : Nat) (S : RfS) (n : Int) (h : RQ w p b B K S) (hn : I64 n) : Calls Try.prog 19 #[.pointer (some ⟨p, 0, none⟩), .int .i64 n] w fun e w' => e = .returned (.int .i64 (cnt S.L n)) ∧ w' = w := count_calls w p b K S n h.rf hn
theorem below_drewN0 (w : World) (n : Nat) : Below w.heap.size w (w.drewN n) := below_drewN (Below.refl _ _) n
theorem freeQ (w : World) (p b B K : Nat) (S : RfS) (h : RQ w p b B K S) (hK : K ≤ 1000000) : Calls Try.prog 20 #[.pointer (some ⟨p, 0, none⟩)] w fun e w' => e = .returned (.int .i64 S.free) ∧ RQ w' p b B K S ∧ Below w.heap.size w w' :=
  (free_calls w p b K S h.rf hK).mono fun e w' ⟨h1, n, h2⟩ => by subst h2; exact ⟨h1, ⟨h.rf.kept rfl rfl, h.bp, h.bb⟩, below_drewN0 w n⟩
theorem usedQ (w : World) (p b B K : Nat) (S : RfS) (h : RQ w p b B K S) (hK : K ≤ 1000000) : Calls Try.prog 21 #[.pointer (some ⟨p, 0, none⟩)] w fun e w' => ∃ v, e = .returned v ∧ IntsIn w' w.heap.size v S.usedL ∧ Below w.heap.size w w' := used_calls w p b K S h.rf hK
theorem sameQ (w : World) (p b B K q c C M : Nat) (S T : RfS) (h : RQ w p b B K S) (h2 : RQ w q c C M T) : Calls Try.prog 16 #[.pointer (some ⟨p, 0, none⟩), .pointer (some ⟨q, 0, none⟩)] w fun e w' => e = .returned (.bool (S.same T)) ∧ Below w.heap.size w w' := same_calls w p b K q c M S T h.rf h2.rf
theorem cloneQ (w : World) (p b B K : Nat) (S : RfS) (h : RQ w p b B K S) : Calls Try.prog 11 #[.pointer (some ⟨p, 0, none⟩)] w fun e w' => e = .returned (.pointer (some ⟨w.heap.size, 0, none⟩)) ∧ RQ w' w.heap.size (w.heap.size + 1) w.heap.size K S ∧ Below w.heap.size w w' :=
  (clone_calls w p b K S h.rf).mono fun e w' ⟨h1, h2, h3⟩ => ⟨h1, ⟨h2, by omega, by omega⟩, h3⟩

def sh0 : RfS := ⟨5, [], 2⟩
def sh1 : RfS := ⟨5, [(2, 1)], 2⟩
def sh2 : RfS := ⟨5, [(2, 1), (3, 1)], 3⟩
def sh3 : RfS := ⟨5, [(2, 2), (3, 1)], 3⟩
def sh5 : RfS := ⟨5, [(3, 1)], 2⟩
def sh6 : RfS := ⟨5, [(2, 1), (3, 1)], 2⟩
def sh7 : RfS := ⟨5, [(2, 1), (3, 1), (4, 1)], 4⟩
def sh8 : RfS := ⟨5, [(2, 1), (3, 1), (4, 1)], 5⟩
theorem sh_0 : RfS.new 5 = sh0 := by rfl
theorem sh_1 : sh0.take = sh1 ∧ sh0.tookN = 2 ∧ sh0.took = true := ⟨by rfl, by rfl, by rfl⟩
theorem sh_2 : sh1.take = sh2 ∧ sh1.tookN = 3 ∧ sh1.took = true := ⟨by rfl, by rfl, by rfl⟩
theorem sh_3 : sh2.inc 2 = sh3 ∧ sh2.need 2 = 0 := ⟨by rfl, by rfl⟩
theorem sh_4 : sh3.dec 2 = sh2 ∧ sh3.last 2 = false ∧ sh3.need 2 = 0 := ⟨by rfl, by rfl, by rfl⟩
theorem sh_5 : sh2.dec 2 = sh5 ∧ sh2.last 2 = true ∧ sh2.need 2 = 0 := ⟨by rfl, by rfl, by rfl⟩
theorem sh_6 : sh5.take = sh6 ∧ sh5.tookN = 2 ∧ sh5.took = true := ⟨by rfl, by rfl, by rfl⟩
theorem sh_7 : sh6.take = sh7 ∧ sh6.tookN = 4 ∧ sh6.took = true := ⟨by rfl, by rfl, by rfl⟩
theorem sh_8 : sh7.take = sh8 ∧ sh7.took = false ∧ sh7.tookN = 0 := ⟨by rfl, by rfl, by rfl⟩
theorem sh_9 : sh8.free = 0 := by rfl

set_option maxHeartbeats 4000000 in
set_option maxRecDepth 100000 in
theorem shown_calls (w : World) : Calls Try.prog 8 #[] w fun e w' => e = .returned (.bool true) ∧ Below w.heap.size w w' := by
  go_enter Try.func8, Try.ntmps8
  go_wp2_with fail
  refine (newQ _ 5 ⟨by omega, by omega⟩).mono ?_
  rintro e w1 ⟨rfl, h1, b1⟩
  rw [sh_0] at h1
  generalize w.heap.size + 1 = p at *
  go_wp2_with fail
  refine (takeQ _ p _ _ _ _ h1 (by omega)).mono ?_
  rintro e w2 ⟨rfl, h2, b2, -⟩
  rw [sh_1.1] at h2; rw [sh_1.2.1, sh_1.2.2]
  have B2 := b1.trans b2
  clear h1 b1 b2
  go_wp2_with fail
  refine (takeQ _ p _ _ _ _ h2 (by omega)).mono ?_
  rintro e w3 ⟨rfl, h3, b3, -⟩
  rw [sh_2.1] at h3; rw [sh_2.2.1, sh_2.2.2]
  have B3 := B2.trans b3
  clear h2 B2 b3
  go_wp2_with fail
  refine (incQ _ p _ _ _ _ 2 h3 ⟨by omega, by omega⟩ (by omega)).mono ?_
  rintro e w4 ⟨rfl, h4, b4, -⟩
  rw [sh_3.1] at h4; rw [sh_3.2]
  have B4 := B3.trans b4
  clear h3 B3 b4
  go_wp2_with fail
  refine (decQ _ p _ _ _ _ 2 h4 ⟨by omega, by omega⟩ (by omega)).mono ?_
  rintro e w5 ⟨rfl, h5, b5, -⟩
  rw [sh_4.1] at h5; rw [sh_4.2.1, sh_4.2.2]
  have B5 := B4.trans b5
  clear h4 B4 b5
  go_wp2_with fail
  refine (decQ _ p _ _ _ _ 2 h5 ⟨by omega, by omega⟩ (by omega)).mono ?_
  rintro e w6 ⟨rfl, h6, b6, -⟩
  rw [sh_5.1] at h6; rw [sh_5.2.1, sh_5.2.2]
  have B6 := B5.trans b6
  clear h5 B5 b6
  go_wp2_with fail
  refine (takeQ _ p _ _ _ _ h6 (by omega)).mono ?_
  rintro e w7 ⟨rfl, h7, b7, -⟩
  rw [sh_6.1] at h7; rw [sh_6.2.1, sh_6.2.2]
  have B7 := B6.trans b7
  clear h6 B6 b7
  go_wp2_with fail
  refine (takeQ _ p _ _ _ _ h7 (by omega)).mono ?_
  rintro e w8 ⟨rfl, h8, b8, -⟩
  rw [sh_7.1] at h8; rw [sh_7.2.1, sh_7.2.2]
  have B8 := B7.trans b8
  clear h7 B7 b8
  go_wp2_with fail
  refine (takeQ _ p _ _ _ _ h8 (by omega)).mono ?_
  rintro e w9 ⟨rfl, h9, b9, -⟩
  rw [sh_8.1] at h9; rw [sh_8.2.1, sh_8.2.2]
  have B9 := B8.trans b9
  have hs := h8.size
  have hs9 := h9.size
  clear h8 B8 b9
  go_wp2_with fail
  refine (freeQ _ p _ _ _ _ h9 (by omega)).mono ?_
  rintro e w10 ⟨rfl, h10, b10⟩
  rw [sh_9]
  go_wp2
  go_ret
  exact ⟨rfl, B9.trans (b10.mono hs9)⟩
end Go.Proofs.Ytpgepejleklpfaa
