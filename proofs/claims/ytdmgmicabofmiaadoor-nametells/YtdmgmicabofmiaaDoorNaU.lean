/- The document's own pieces, Width, Short. -/
import Derived.Test.YtdmgmicabofmiaaDoorNaT
namespace Go.Proofs.YtdmgmicabofmiaaDoor
set_option linter.unusedVariables false
open Go.RowKit

/-- Numbers in slices. -/
def encI : Enc Nat 1 where
  c n := [.int .i64 (n : Int)]
  len _ := rfl
  one _ _ h := by cases h with | head => rfl | tail _ h => cases h
theorem rowI : RowTy Tryd.prog encI 46 3 8 := ⟨Tryd.underlying46, ⟨.int .i64 0, by kernel_rfl, rfl⟩, by decide⟩
/-- Where each piece ends. -/
def ends (L : List UInt8) (k : Nat) : List Nat := (List.range k).map fun j => pre (j + 1) L
theorem ends_len (L : List UInt8) (k : Nat) : (ends L k).length = k := by simp [ends]
theorem ends_succ (L : List UInt8) (k : Nat) : ends L (k + 1) = ends L k ++ [pre (k + 1) L] := by simp [ends, List.range_succ]
theorem ends_get (L : List UInt8) (k j : Nat) (h : j < k) : (ends L k)[j]'(by rw [ends_len]; exact h) = pre (j + 1) L := by simp [ends]

set_option maxRecDepth 1000000 in
set_option maxHeartbeats 4000000 in
theorem pieces_calls (s : ByteArray) (hs : s.size ≤ 1000) (w : World) :
    Calls Tryd.prog 28 #[.string s] w fun e w' => ∃ v, e = .returned v ∧ Sl encI w' v (ends s.data.toList (wid s.data.toList)) ∧ Below w.heap.size w w' := by
  obtain ⟨N, hN⟩ : ∃ N, s.size = N := ⟨_, rfl⟩
  have HN : Hid (s.size = N) := hN
  rw [hN] at hs
  have HO0 : Hid (Own encI 3 w w.heap.size (.slice none 0 0) (ends s.data.toList 0)) := Own.nil _ _ _ _
  go_enter Tryd.func28, Tryd.ntmps28
  go_wp2_with fail
  go_loopg [3, 4] N (fun g v i wr => ∃ (pos k : Nat), i = .int .i64 (pos : Int) ∧ pos ≤ N ∧ k ≤ pos ∧ N ≤ pos + g ∧ Hid (Below w.heap.size w wr ∧ Own encI 3 wr w.heap.size v (ends s.data.toList k) ∧ pos = pre k s.data.toList ∧ k ≤ wid s.data.toList))
  case atStart => exact ⟨0, 0, rfl, Nat.zero_le _, Nat.le_refl _, by omega, ⟨Below.refl _ _, HO0.out, rfl, Nat.zero_le _⟩⟩
  case round =>
    obtain ⟨pos, k, rfl, hps, hkp, hpg, HW⟩ := hrel
    clear HO0
    by_cases hp : pos < N
    · have hpI : (pos : Int) < (N : Int) := by omega
      have hp2 : (pos : Int) ≤ (N : Int) := by omega
      have hp0 : (0 : Int) ≤ (pos : Int) := by omega
      have hps2 : pos < s.size := by rw [HN.out]; exact hp
      have hne := drop_ne hps2
      have c1 := char_calls (s.extract pos s.size) wr
      have hex : (s.extract pos s.size).data.toList = s.data.toList.drop pos := Lib.extract_to_end s pos
      unfold CharTo at c1
      rw [hex, hN] at c1
      have hdl := dec_le _ hne
      rw [List.length_drop, toList_size, HN.out] at hdl
      have hdp := dec_pos (s.data.toList.drop pos)
      have hdc := dec_of_chr (s.data.toList.drop pos)
      have HP : Hid (pos + (dec (s.data.toList.drop pos)).2 = pre (k + 1) s.data.toList ∧ k + 1 ≤ wid s.data.toList) := (show _ ∧ _ by
        obtain ⟨_, _, e1, e2⟩ := HW.out
        refine ⟨by rw [pre_succ k _ (by rw [← e1]; exact hne), ← e1], ?_⟩
        have := (pre_wid k s.data.toList e2).1
        rw [← e1] at this
        have := wid_pos _ hne
        omega)
      clear hne hex
      generalize (dec (s.data.toList.drop pos)).2 = D at *
      generalize (chr (s.data.toList.drop pos)).1 = c at *
      generalize (chr (s.data.toList.drop pos)).2 = v at *
      have hmx : max (c : Int) 1 = (D : Int) := by omega
      obtain ⟨P1, hP1⟩ : ∃ P1, pos + D = P1 := ⟨_, rfl⟩
      have hadd : (pos : Int) + (D : Int) = (P1 : Int) := by rw [← hP1]; rfl
      have hD0 : (0 : Int) ≤ (D : Int) := by omega
      have hDN : (D : Int) ≤ 1000 := by omega
      have hpN : (pos : Int) ≤ 1000 := by omega
      have hP1N : P1 ≤ N := by omega
      have hgg : N ≤ P1 + (gk - 1) := by omega
      have hkP : k + 1 ≤ P1 := by omega
      rw [hP1] at HP
      have hbw := HW.out.1
      have how := HW.out.2.1
      have HLT : Hid (∀ j, u3.ownBlock = some j → w.heap.size ≤ j ∧ j < wr.heap.size) := how.lt
      have hg1 : 1 ≤ gk := by omega
      clear HW hdl hdp hdc hP1
      generalize hE : ends s.data.toList k = E0 at *
      have HE : Hid (ends s.data.toList k = E0 ∧ E0.length = k) := ⟨hE, by rw [← hE, ends_len]⟩
      clear hE
      go_wp2_with fail
      refine c1.mono ?_
      rintro e w3 ⟨rfl, q, hq⟩
      have HM : Hid (w3 = wr.drewN q) := hq
      clear c1 hq
      have hb3 : Below w.heap.size w w3 := by rw [HM.out]; exact below_drewN hbw q
      have ho3 : Own encI 3 w3 w.heap.size u3 E0 := by rw [HM.out]; exact ownsRow_drewN how q
      have hsz3 : w3.heap.size = wr.heap.size := by rw [HM.out]; rfl
      have HSZ : Hid (w3.heap.size = wr.heap.size) := hsz3
      clear hsz3 HM
      go_wp2_with (first
        | (refine build_c1 rowI rfl _ rfl P1 _ rfl rfl ?_; intro z3 o4 b4 s4; have hb4 := hb3.trans (b4.mono hb3.size); have ho4 := ho3.below b4)
        | (at_builtin; refine append_slB rowI rfl _ _ rfl w.heap.size u3 E0 [P1] rfl ho4 _ rfl _ o4.slB (by have := HE.out.2; simp only [List.length_cons, List.length_nil]; omega) (by decide) hb4.size ?_; intro v5 z5 o5 g5))
      cases gk with
      | zero => omega
      | succ g =>
      go_roundg g
      case measure => omega
      case rel => exact ⟨P1, k + 1, rfl, hP1N, hkP, by simpa using hgg, ⟨hb4.grown g5 hb4.size (fun j hj => (HLT.out j hj).1), by rw [ends_succ, HE.out.1, ← HP.out.1]; exact o5, HP.out.1, HP.out.2⟩⟩
    · have hpI : ¬ (pos : Int) < (N : Int) := by omega
      have HK : Hid (k = wid s.data.toList) := (show _ = _ by
        obtain ⟨_, _, e1, e2⟩ := HW.out
        have := (pre_wid k s.data.toList e2).1
        rw [← e1, drop_nil (by rw [HN.out]; exact hp), wid_nil] at this
        omega)
      go_wp2_with fail
      go_ret
      exact ⟨_, rfl, by rw [← HK.out]; exact HW.out.2.1.slB, HW.out.1⟩
end Go.Proofs.YtdmgmicabofmiaaDoor
