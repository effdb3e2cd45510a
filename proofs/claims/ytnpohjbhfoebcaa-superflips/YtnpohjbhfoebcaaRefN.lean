/- The document's own words: Number, root. -/
import Derived.Test.YtnpohjbhfoebcaaSupY
namespace Go.Proofs.Ytnpohjbhfoebcaa
set_option linter.unusedVariables false
open Go.RowKit

theorem str_cons (b : UInt8) (l : List UInt8) : str [b] ++ str l = str (b :: l) := by
  apply ByteArray.ext
  simp [str]
theorem wrap_div (x : Nat) (h : x < 9223372036854775808) : wrap64 ((x : Int) / 256) = ((x / 256 : Nat) : Int) := by
  unfold wrap64
  omega
theorem be_next (N k : Nat) : be N (k + 1) = UInt8.ofNat (N / 256 ^ k) :: be N k := rfl
set_option maxHeartbeats 1000000 in
theorem number_calls4 (w : World) (N W : Nat) (hW : W ≤ 8) (hN : Hid (N < 9223372036854775808)) :
    Calls Try.prog 8 #[.int .i64 (N : Int), .int .i64 (W : Int)] w fun e w' => e = .returned (.string (str (be N W))) ∧ Below w.heap.size w w' := by
  go_enter Try.func8, Try.ntmps8
  go_wp2
  go_loopw [0, 5, 6] (fun u t i wr => ∃ (k : Nat), k ≤ W ∧ i = .int .i64 (k : Int) ∧ t = .string (str (be N k)) ∧ u = .int .i64 ((N / 256 ^ k : Nat) : Int) ∧ Below w.heap.size w wr) (fun _ _ i _ => W - (intOf i).toNat)
  case atStart => exact ⟨0, Nat.zero_le _, rfl, rfl, by simp, Below.refl _ _⟩
  case round =>
    obtain ⟨k, hk, rfl, rfl, rfl, hbel⟩ := hrel
    by_cases hlt : k < W
    · obtain ⟨x, hx⟩ : ∃ x : Nat, x = N / 256 ^ k := ⟨_, rfl⟩
      rw [← hx]
      have HX : Hid (x = N / 256 ^ k) := hx
      clear hx
      have hcv := conv_bytes (byt_one wr (UInt8.ofNat x)).choose_spec.1
      have eb : ((UInt8.ofNat x).toNat : Int) = (x : Int) % 256 := by simp
      rw [eb] at hcv
      have HS : Hid (str [UInt8.ofNat x] ++ str (be N k) = str (be N (k + 1))) := (show _ = _ by rw [str_cons, HX.out]; rfl)
      have HD : Hid (N / 256 ^ (k + 1) = x / 256) := (show _ = _ by rw [HX.out, Nat.pow_succ, Nat.div_div_eq_div_mul])
      have z1 : (str [UInt8.ofNat x]).size = 1 := str_size _
      have z2 : (str (be N k)).size = k := by rw [str_size, be_length]
      have hk8 : k < 8 := by omega
      go_wp2
      go_round
      case rel => exact ⟨k + 1, by omega, by go_num, by rw [← HS.out], by rw [HD.out, wrap_div x (by rw [HX.out]; exact Nat.lt_of_le_of_lt (Nat.div_le_self _ _) hN.out)], hbel.alloc hbel.size _⟩
      case measure => simp [intOf]; omega
    · have e : k = W := by omega
      subst e
      go_wp2
      go_ret
      exact ⟨rfl, hbel⟩
end Go.Proofs.Ytnpohjbhfoebcaa
