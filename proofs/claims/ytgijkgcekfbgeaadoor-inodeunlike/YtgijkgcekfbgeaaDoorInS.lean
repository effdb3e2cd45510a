/- shown() of layer 11: it answers true, and changes nothing that was there. -/
import Derived.Test.YtgijkgcekfbgeaaDoorInD
namespace Go.Proofs.YtgijkgcekfbgeaaDoor
set_option linter.unusedVariables false
open Go.RowKit

theorem of_unlike {L : List UInt8} {o : Option Ino} (h : OfIs L o) (hl : L.length ≠ 1) (hl2 : L.length ≠ 9) : o = none := by
  cases o with
  | none => rfl
  | some n =>
    have h1 := ((h n).1 rfl).2
    have h2 := valI_length n
    rw [h1] at h2
    split at h2 <;> omega
theorem sw1 (w : World) : Calls Tryd.prog 9 #[.agg #[.bool false, .int .i64 1, .int .i64 5]] w fun e w' => e = .returned (.tuple #[.string ⟨#[2, 0, 0, 0, 1, 0, 0, 0, 5]⟩, .bool true]) ∧ Below w.heap.size w w' := by
  have h := value_calls w ⟨false, 1, 5⟩
  have h1 : rightI ⟨false, 1, 5⟩ = true := by decide
  have h2 : str (valT ⟨false, 1, 5⟩) = ⟨#[2, 0, 0, 0, 1, 0, 0, 0, 5]⟩ := by
    rw [valT, if_pos h1]
    rfl
  rw [h1, h2] at h
  exact h
theorem sw2 (w : World) : Calls Tryd.prog 15 #[.string ⟨#[0, 0, 0, 7]⟩] w fun e w' => e = .returned (.tuple #[.int .i64 7, .bool true]) ∧ Below w.heap.size w w' := by
  refine (numbered_calls w [0, 0, 0, 7]).mono ?_
  rintro e w' ⟨o, ho, rfl, hb⟩
  have h : o = some 7 := (ho 7).2 ⟨by decide, rfl⟩
  rw [h]
  exact ⟨rfl, hb⟩
theorem sw3 (w : World) : Calls Tryd.prog 11 #[.string ⟨#[1, 0]⟩] w fun e w' => e = .returned (.tuple #[.agg #[.bool false, .int .i64 0, .int .i64 0], .bool false]) ∧ Below w.heap.size w w' := by
  refine (of_calls w [1, 0]).mono ?_
  rintro e w' ⟨o, ho, rfl, hb⟩
  have h : o = none := of_unlike ho (by decide) (by decide)
  rw [h]
  exact ⟨rfl, hb⟩
theorem sw4 (w : World) : Calls Tryd.prog 17 #[.string ⟨#[97, 0]⟩] w fun e w' => e = .returned (.string ⟨#[97]⟩) ∧ Below w.heap.size w w' := by
  refine (trim_calls w [97, 0]).mono ?_
  rintro e w' ⟨rfl, hb⟩
  exact ⟨rfl, hb⟩
theorem full_length (L : List UInt8) : (fullP L).length = 32 := by
  unfold fullP
  rw [List.length_append, List.length_replicate, List.length_take]
  omega
theorem sw5 (w : World) : Calls Tryd.prog 19 #[.string ⟨#[97]⟩] w fun e w' => ∃ s : ByteArray, e = .returned (.string s) ∧ ((s.size : Int) == 32) = true ∧ Below w.heap.size w w' := by
  refine (full_calls w [97]).mono ?_
  rintro e w' ⟨rfl, hb⟩
  exact ⟨_, rfl, by rw [str_size, full_length]; rfl, hb⟩
set_option maxHeartbeats 800000 in
theorem shown_calls (w : World) : Calls Tryd.prog 8 #[] w fun e w' => e = .returned (.bool true) ∧ Below w.heap.size w w' := by
  go_enter Tryd.func8, Tryd.ntmps8
  go_wp2_with fail
  refine (sw1 _).mono ?_
  rintro e w1 ⟨rfl, H1⟩
  go_wp2_with fail
  refine (sw2 _).mono ?_
  rintro e w2 ⟨rfl, H2⟩
  replace H2 := H1.trans (H2.mono H1.size)
  clear H1
  go_wp2_with fail
  refine (sw3 _).mono ?_
  rintro e w3 ⟨rfl, H3⟩
  replace H3 := H2.trans (H3.mono H2.size)
  clear H2
  go_wp2_with fail
  refine (sw4 _).mono ?_
  rintro e w4 ⟨rfl, H4⟩
  replace H4 := (H3.alloc H3.size _).trans (H4.mono (by have := H3.size; simp; omega))
  clear H3
  go_wp2_with fail
  refine (sw5 _).mono ?_
  rintro e w5 ⟨s, rfl, hs, H5⟩
  replace H5 := H4.trans (H5.mono H4.size)
  clear H4
  go_wp2
  go_ret
  exact ⟨rfl, H5⟩
end Go.Proofs.YtgijkgcekfbgeaaDoor
