/- InodeChunks: a chunk is what it was but for noughts at its end, and filled up it has them again. -/
import Derived.Test.YtgijkgcekfbgeaaDoorInT
import Derived.Test.YtgijkgcekfbgeaaDoorBack11
namespace Go.Proofs.YtgijkgcekfbgeaaDoor
set_option linter.unusedVariables false
open Go.RowKit

theorem idx_at (s : ByteArray) (i : Nat) (b : UInt8) (h : s.data.toList[i]? = some b) (w : World) : (Instr.index 9 (.string s) (.int .i64 (i : Int))).run Tryd.prog w = .ok (.int .u8 (b.toNat : Int)) w := by
  obtain ⟨hl, rfl⟩ := List.getElem?_eq_some_iff.1 h
  have hs : i < s.size := by simpa using hl
  have hi : (0 : Int) ≤ (i : Int) ∧ (i : Int) < (s.size : Int) := by omega
  rw [run_index_string w _ _ _ _ Tryd.underlying9, dif_pos hi]
  have e : (s[(i : Int).toNat]'(by omega)) = s.data.toList[i] := by simp only [Int.toNat_natCast, Array.getElem_toList]; rfl
  rw [e]
set_option maxHeartbeats 3200000 in
theorem chunks_of (w : World) (A S T F : ByteArray) (hxA : A.extract 0 (min (A.size : Int) 32).toNat = S)
    (HT : ∀ w, Calls Tryd.prog 17 #[.string S] w fun e w' => e = .returned (.string T) ∧ Below w.heap.size w w')
    (HF : ∀ w, Calls Tryd.prog 19 #[.string T] w fun e w' => e = .returned (.string F) ∧ Below w.heap.size w w')
    (HTT : ∀ w, Calls Tryd.prog 17 #[.string T] w fun e w' => e = .returned (.string T) ∧ Below w.heap.size w w')
    (HTF : ∀ w, Calls Tryd.prog 17 #[.string F] w fun e w' => e = .returned (.string T) ∧ Below w.heap.size w w')
    (HFS : ∀ w, Calls Tryd.prog 19 #[.string S] w fun e w' => e = .returned (.string F) ∧ Below w.heap.size w w')
    (hts : (T.size : Int) ≤ (S.size : Int)) (hss : (S.size : Int) ≤ 32) (hfs : (F.size : Int) = 32) (hx1 : S.extract 0 T.size = T) (hx2 : F.extract 0 T.size = T)
    (f0 : ∀ j, T.size ≤ j → j < 32 → F.data.toList[j]? = some 0) (s0 : ∀ j, T.size ≤ j → j < S.size → S.data.toList[j]? = some 0) (l0 : ∀ b, 0 < T.size → T.data.toList[T.size - 1]? = some b → b ≠ 0) :
    Calls Tryd.prog 5 #[.string A] w fun e w' => e = .returned (.bool true) ∧ Below w.heap.size w w' := by
  have hfs' : ((F.size : Int) == 32) = true := by simpa using hfs
  go_enter Tryd.func5, Tryd.ntmps5
  go_wp2_with fail
  refine (shown_calls _).mono ?_
  rintro e w1 ⟨rfl, H1⟩
  go_wp2_with fail
  refine (HT _).mono ?_
  rintro e w2 ⟨rfl, H2⟩
  replace H2 := behind H1 H2
  clear H1 HT
  go_wp2_with fail
  refine (HF _).mono ?_
  rintro e w3 ⟨rfl, H3⟩
  replace H3 := behind H2 H3
  clear H2 HF hxA
  go_wp2_with fail
  refine (HTT _).mono ?_
  rintro e w4 ⟨rfl, H4⟩
  replace H4 := behind H3 H4
  clear H3 HTT
  go_wp2_with fail
  refine (HTF _).mono ?_
  rintro e w5 ⟨rfl, H5⟩
  replace H5 := behind H4 H5
  clear H4 HTF
  go_wp2_with fail
  refine (HFS _).mono ?_
  rintro e w6 ⟨rfl, H6⟩
  replace H6 := behind H5 H6
  clear H5 HFS
  have hts' : ¬ (S.size : Int) < (T.size : Int) := by omega
  go_wp2_with fail
  go_loop [6] (fun v => ∃ k : Nat, T.size ≤ k ∧ k ≤ 32 ∧ v = .int .i64 (k : Int)) (fun v => 32 - (intOf v).toNat)
  case atStart => exact ⟨T.size, Nat.le_refl _, by omega, rfl⟩
  case round =>
    obtain ⟨k, hk, hk2, rfl⟩ := hrel
    by_cases hlt : k < 32
    · have hidx : ∀ y, (Instr.index 9 (.string F) (.int .i64 (k : Int))).run Tryd.prog y = .ok (.int .u8 0) y := idx_at F k 0 (f0 k hk hlt)
      have hkI : (k : Int) < 32 := by omega
      by_cases hs : k < S.size
      · have hidx2 : ∀ y, (Instr.index 9 (.string S) (.int .i64 (k : Int))).run Tryd.prog y = .ok (.int .u8 0) y := idx_at S k 0 (s0 k hk hs)
        have hsI : (k : Int) < (S.size : Int) := by omega
        go_wp2
        go_round
        case rel => exact ⟨k + 1, by omega, by omega, by go_num⟩
        case measure => simp [intOf]; omega
      · have hsI : ¬ (k : Int) < (S.size : Int) := by omega
        go_wp2
        go_round
        case rel => exact ⟨k + 1, by omega, by omega, by go_num⟩
        case measure => simp [intOf]; omega
    · have hkI : ¬ (k : Int) < 32 := by omega
      by_cases ht : T.size = 0
      · have hz : T = ⟨#[]⟩ := by
          apply Go.WideShapes.bytes_inj
          apply List.eq_nil_of_length_eq_zero
          simpa using ht
        have hE : T.toList = [] := by rw [hz, ByteArray.toList_eq]
        clear ht hz
        go_wp2
        go_ret
        exact ⟨by first | rfl | (simp [hE]; done), H6⟩
      · obtain ⟨b, hb⟩ : ∃ b, T.data.toList[T.size - 1]? = some b := ⟨_, List.getElem?_eq_getElem (by simp; omega)⟩
        have hb0 := l0 b (by omega) hb
        have hbI : ((b.toNat : Int) == 0) = false := by
          have : b.toNat ≠ 0 := fun e => hb0 (UInt8.toNat_inj.1 e)
          simpa using this
        have hE : ¬ T.toList = [] := fun e => ht (by have := congrArg List.length e; rw [ByteArray.toList_eq] at this; simpa using this)
        have hE2 : T.toList.isEmpty = false := by simpa using hE
        have hidx : ∀ y, (Instr.index 9 (.string T) (.int .i64 ((T.size : Int) - 1))).run Tryd.prog y = .ok (.int .u8 (b.toNat : Int)) y := by
          rw [show (T.size : Int) - 1 = ((T.size - 1 : Nat) : Int) by omega]
          exact idx_at T _ b hb
        clear ht hb hb0
        go_wp2
        all_goals
          go_ret
          exact ⟨by first | rfl | (simp; done) | (simp_all; done), H6⟩
theorem chunks_walk (w : World) (L : List UInt8) : Calls Tryd.prog 5 #[.string (str L)] w fun e w' => e = .returned (.bool true) ∧ Below w.heap.size w w' := by
  have h := chunk_is (L.take 32) (by rw [List.length_take]; omega)
  have e1 := fun w => trim_calls w (L.take 32)
  have e2 := fun w => full_calls w (trimmed (L.take 32))
  have e3 := fun w => trim_calls w (trimmed (L.take 32))
  have e4 := fun w => trim_calls w (fullP (trimmed (L.take 32)))
  have e5 := fun w => full_calls w (L.take 32)
  rw [h.tt] at e3
  rw [h.tf] at e4
  rw [h.fs] at e5
  refine chunks_of w (str L) (str (L.take 32)) (str (trimmed (L.take 32))) (str (fullP (trimmed (L.take 32)))) ?_ e1 e2 e3 e4 e5 ?_ ?_ ?_ ?_ ?_ ?_ ?_ ?_
  · rw [ext_take, str_size]
    by_cases hl : L.length ≤ 32
    · rw [List.take_of_length_le (i := 32) hl, List.take_of_length_le (by omega)]
    · congr 2
      omega
  · rw [str_size, str_size]; have := h.le; omega
  · rw [str_size]; have := h.lt; omega
  · rw [str_size, h.fl]; rfl
  · rw [ext_take, str_size, h.tk]
  · rw [ext_take, str_size, h.ft]
  · intro j; rw [str_size, str_list]; exact h.f0 j
  · intro j; rw [str_size, str_list, str_size]; exact h.s0 j
  · intro b; rw [str_size, str_list]; exact h.l0 b
end Go.Proofs.YtgijkgcekfbgeaaDoor
