/- The document's own words: get, cut. -/
import Derived.Test.YtbjnbobohkjhiaaRefBy
namespace Go.Proofs.Ytbjnbobohkjhiaa
set_option linter.unusedVariables false
open Go.RowKit

/-- W bytes from a place on; behind the end there are noughts. -/
def win (L : List UInt8) (p : Nat) : Nat → List UInt8
  | 0 => []
  | k + 1 => win L p k ++ [L.getD (p + k) 0]
theorem win_length (L : List UInt8) (p k : Nat) : (win L p k).length = k := by
  induction k with
  | zero => rfl
  | succ k ih => simp [win, ih]
theorem win_in {L : List UInt8} {p : Nat} : ∀ {k : Nat}, p + k ≤ L.length → win L p k = (L.drop p).take k
  | 0, _ => by simp [win]
  | k + 1, h => by
    rw [win, win_in (by omega), List.take_succ_eq_append_getElem (by simp; omega)]
    simp [List.getElem?_eq_getElem (show p + k < L.length by omega)]
theorem wrap_more (a b : Nat) : wrap64 (wrap64 (wrap64 (a : Int) * 256) + (b : Int)) = wrap64 ((256 * a + b : Nat) : Int) := by
  unfold wrap64
  omega
theorem wrap_none (a : Nat) : wrap64 (wrap64 (a : Int) * 256) = wrap64 ((256 * a : Nat) : Int) := by
  unfold wrap64
  omega
def getP (L : List UInt8) (p W : Nat) : Int := i64 (num (win L p W))
theorem getP_zero (L : List UInt8) (p : Nat) : getP L p 0 = 0 := by
  show wrap64 ((0 : Nat) : Int) = 0
  unfold wrap64
  omega
theorem get_byte (L : List UInt8) (i : Nat) (h : i < (str L).size) : wrap64 (((str L)[i]).toNat : Int) = ((L.getD i 0).toNat : Int) := by
  have hl : i < L.length := by rw [str_size] at h; exact h
  have e : (str L)[i] = L.getD i 0 := by
    show (str L).data[i] = _
    simp [str, List.getElem?_eq_getElem hl]
  refine (congrArg (fun b : UInt8 => wrap64 (b.toNat : Int)) e).trans ?_
  have := (L.getD i 0).toNat_lt
  simp only [wrap64]
  omega
theorem getP_in (L : List UInt8) (p k : Nat) (h : p + k < L.length) : wrap64 (wrap64 (getP L p k * 256) + ((L.getD (p + k) 0).toNat : Int)) = getP L p (k + 1) := by
  unfold getP i64
  rw [wrap_more, win, num_snoc]
theorem getP_out (L : List UInt8) (p k : Nat) (h : L.length ≤ p + k) : wrap64 (getP L p k * 256) = getP L p (k + 1) := by
  unfold getP i64
  rw [wrap_none, win, num_snoc]
  have : L.getD (p + k) 0 = 0 := by simp [h]
  rw [this]
  rfl
set_option maxHeartbeats 4000000 in
theorem get_calls (w : World) (L : List UInt8) (p W : Nat) (hp : p ≤ 100000) (hW : W ≤ 8) (hL : L.length ≤ 1000) :
    Calls Try.prog 26 #[.string (str L), .int .i64 (p : Int), .int .i64 (W : Int)] w fun e w' => e = .returned (.int .i64 (getP L p W)) ∧ w' = w := by
  have hz : (str L).size = L.length := str_size L
  go_enter Try.func26, Try.ntmps26
  go_wp2
  go_loopw [7, 8] (fun n i wr => ∃ (k : Nat), k ≤ W ∧ i = .int .i64 ((p + k : Nat) : Int) ∧ n = .int .i64 (getP L p k) ∧ wr = w) (fun _ i _ => p + W - (intOf i).toNat)
  case atStart => exact ⟨0, Nat.zero_le _, rfl, (by rw [getP_zero]), rfl⟩
  case round =>
    obtain ⟨k, hk, rfl, rfl, rfl⟩ := hrel
    by_cases hlt : k < W
    · by_cases hin : p + k < L.length
      · have hb : ∃ b : UInt8, (L.getD (p + k) 0) = b ∧ (str L).data[p + k]? = some b := ⟨_, rfl, by simp [str, hin]⟩
        have HG : Hid (wrap64 (wrap64 (getP L p k * 256) + ((L.getD (p + k) 0).toNat : Int)) = getP L p (k + 1)) := getP_in L p k hin
        go_wp2
        go_round
        case rel => exact ⟨k + 1, by omega, by congr 1, by rw [← HG.out, get_byte], trivial⟩
        case measure => simp [intOf]; omega
      · have HG : Hid (wrap64 (getP L p k * 256) = getP L p (k + 1)) := getP_out L p k (by omega)
        go_wp2
        go_round
        case rel => exact ⟨k + 1, by omega, by congr 1, by rw [HG.out], trivial⟩
        case measure => simp [intOf]; omega
    · have e : k = W := by omega
      subst e
      go_wp2
      go_ret
      exact ⟨rfl, rfl⟩

def cutP (L : List UInt8) (p n : Nat) : List UInt8 := if L.length < p + n then [] else (L.drop p).take n
theorem str_cut (L : List UInt8) (p q : Nat) : (str L).extract p q = str ((L.drop p).take (q - p)) := by
  apply ByteArray.ext
  rw [ByteArray.data_extract]
  simp [str, List.extract_eq_take_drop]
set_option maxHeartbeats 1000000 in
theorem rcut_calls (w : World) (L : List UInt8) (p n : Nat) (hp : p ≤ 100000) (hn : n ≤ 1000) (hL : L.length ≤ 1000) :
    Calls Try.prog 27 #[.string (str L), .int .i64 (p : Int), .int .i64 (n : Int)] w fun e w' => e = .returned (.string (str (cutP L p n))) ∧ w' = w := by
  have hz : (str L).size = L.length := str_size L
  by_cases h : L.length < p + n
  · have HC : Hid (cutP L p n = []) := (show _ = _ by rw [cutP, if_pos h])
    go_enter Try.func27, Try.ntmps27
    go_wp2
    go_ret
    exact ⟨by rw [HC.out]; rfl, rfl⟩
  · have HC : Hid (cutP L p n = (L.drop p).take n) := (show _ = _ by rw [cutP, if_neg h])
    go_enter Try.func27, Try.ntmps27
    go_wp2
    go_ret
    refine ⟨?_, rfl⟩
    rw [HC.out]
    have e := str_cut L p (p + n)
    rw [Nat.add_sub_cancel_left] at e
    rw [← e]
    rfl
end Go.Proofs.Ytbjnbobohkjhiaa
