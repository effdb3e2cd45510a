/- Bytes of a number, the highest first, the number of bytes, bytes as a string: plain mathematics: they are ordered as the numbers, and read again they are the number. -/
import Derived.Test.YtgijkgcekfbgeaaDoorBase
namespace Go.Proofs.YtgijkgcekfbgeaaDoor
set_option linter.unusedVariables false
open Go.RowKit

/-- The bytes of a number, k of them, the highest first. -/
def be (v : Nat) : Nat → List UInt8
  | 0 => []
  | k + 1 => UInt8.ofNat (v / 256 ^ k) :: be v k
theorem be_length (v k : Nat) : (be v k).length = k := by induction k with
  | zero => rfl
  | succ k ih => simp [be, ih]
theorem be_take (v : Nat) : ∀ (n k j : Nat), j + k + 1 = n → (be v n).take (k + 1) = (be v n).take k ++ [UInt8.ofNat (v / 256 ^ j)]
  | 0, k, j, h => by omega
  | n + 1, 0, j, h => by
    have : j = n := by omega
    subst this
    simp [be]
  | n + 1, k + 1, j, h => by
    have ih := be_take v n k j (by omega)
    simp only [be, List.take_succ_cons, List.cons_append, ih]
theorem u8_be (v : Nat) (j : Int) (h0 : 0 ≤ j) : IntKind.u8.wrap ((v : Int) / 2 ^ (8 * j).toNat) = ((UInt8.ofNat (v / 256 ^ j.toNat)).toNat : Int) := by
  obtain ⟨n, rfl⟩ := Int.eq_ofNat_of_zero_le h0
  have e1 : (8 * (n : Int)).toNat = 8 * n := by omega
  have e3 : (2 : Int) ^ (8 * n) = ((256 ^ n : Nat) : Int) := by rw [Int.pow_mul]; simp
  rw [e1, Int.toNat_natCast, e3, ← Int.natCast_ediv, IntKind.wrap_u8]
  simp

/-- The number that bytes are, the highest first. -/
def num (l : List UInt8) : Nat := l.foldl (fun a b => 256 * a + b.toNat) 0
theorem num_snoc (l : List UInt8) (b : UInt8) : num (l ++ [b]) = 256 * num l + b.toNat := by simp [num]
theorem foldl_lt : ∀ (l : List UInt8) (a : Nat), l.foldl (fun a b => 256 * a + b.toNat) a < (a + 1) * 256 ^ l.length
  | [], a => by simp
  | b :: l, a => by
    have ih := foldl_lt l (256 * a + b.toNat)
    have hb := b.toNat_lt
    have h2 : (256 * a + b.toNat + 1) * 256 ^ l.length ≤ (256 * (a + 1)) * 256 ^ l.length := Nat.mul_le_mul_right _ (by omega)
    rw [List.foldl_cons, List.length_cons, Nat.pow_succ]
    have h3 : (a + 1) * (256 ^ l.length * 256) = (256 * (a + 1)) * 256 ^ l.length := by rw [Nat.mul_comm (256 ^ l.length) 256, ← Nat.mul_assoc, Nat.mul_comm (a + 1) 256]
    omega
theorem num_lt (l : List UInt8) : num l < 256 ^ l.length := by
  have := foldl_lt l 0
  simpa [num] using this
theorem num_small {l : List UInt8} (h : l.length ≤ 8) : num l < 18446744073709551616 := by
  have h1 := num_lt l
  have h2 : 256 ^ l.length ≤ 256 ^ 8 := Nat.pow_le_pow_right (by omega) h
  have h3 : (256 : Nat) ^ 8 = 18446744073709551616 := by decide
  omega
theorem num_small7 {l : List UInt8} (h : l.length ≤ 7) : num l < 72057594037927936 := by
  have h1 := num_lt l
  have h2 : 256 ^ l.length ≤ 256 ^ 7 := Nat.pow_le_pow_right (by omega) h
  have h3 : (256 : Nat) ^ 7 = 72057594037927936 := by decide
  omega
theorem take_snoc8 (l : List UInt8) (k : Nat) (h : k < l.length) : l.take (k + 1) = l.take k ++ [l[k]] := List.take_succ_eq_append_getElem h

/-- Bytes as a string. -/
def str (l : List UInt8) : ByteArray := ⟨l.toArray⟩
theorem str_of (l : List UInt8) : strOfNums (l.map fun b => (b.toNat : Int)) = str l := by
  unfold strOfNums str
  congr 2
  rw [List.map_map]
  conv => rhs; rw [← List.map_id l]
  apply List.map_congr_left
  intro b _
  simp
theorem str_size (l : List UInt8) : (str l).size = l.length := by simp [str, ByteArray.size]
theorem str_list (l : List UInt8) : (str l).data.toList = l := by simp [str]
theorem str_data (s : ByteArray) : str s.data.toList = s := by simp [str]

theorem pow_pos256 (k : Nat) : 0 < 256 ^ k := Nat.pos_of_ne_zero (by simp)
theorem byte_mod (a c i : Nat) : UInt8.ofNat (a % (256 ^ i * (256 * c)) / 256 ^ i) = UInt8.ofNat (a / 256 ^ i) := by
  apply UInt8.toNat_inj.1
  rw [Nat.mod_mul_right_div_self]
  simp [Nat.mod_mul_right_mod]
theorem be_mod (a : Nat) : ∀ (k j : Nat), k ≤ j → be (a % 256 ^ j) k = be a k
  | 0, j, _ => rfl
  | k + 1, j, h => by
    have e : 256 ^ j = 256 ^ k * (256 * 256 ^ (j - (k + 1))) := by
      rw [← Nat.mul_assoc, ← Nat.pow_succ, ← Nat.pow_add]
      congr 1
      omega
    rw [be, be, be_mod a k j (by omega)]
    congr 1
    rw [e]
    exact byte_mod a _ k
theorem head_lt {a k : Nat} (h : a < 256 ^ (k + 1)) : a / 256 ^ k < 256 := by
  rw [Nat.div_lt_iff_lt_mul (pow_pos256 k)]
  rw [Nat.pow_succ] at h
  omega
theorem ofNat_lt {x y : Nat} (hx : x < 256) (hy : y < 256) : (UInt8.ofNat x < UInt8.ofNat y) ↔ x < y := by
  rw [UInt8.lt_iff_toNat_lt]
  simp [Nat.mod_eq_of_lt hx, Nat.mod_eq_of_lt hy]
theorem ofNat_eq {x y : Nat} (hx : x < 256) (hy : y < 256) : (UInt8.ofNat x = UInt8.ofNat y) ↔ x = y := by
  rw [← UInt8.toNat_inj]
  simp [Nat.mod_eq_of_lt hx, Nat.mod_eq_of_lt hy]

theorem be_less : ∀ (k a b : Nat), a < 256 ^ k → b < 256 ^ k → Op.bytesLess (be a k) (be b k) = decide (a < b)
  | 0, a, b, ha, hb => by
    have : a = 0 := by simpa using ha
    have : b = 0 := by simpa using hb
    subst a b
    rfl
  | k + 1, a, b, ha, hb => by
    have h1 := head_lt ha
    have h2 := head_lt hb
    have hp := pow_pos256 k
    have ia := Nat.div_add_mod a (256 ^ k)
    have ib := Nat.div_add_mod b (256 ^ k)
    have ma := Nat.mod_lt a hp
    have mb := Nat.mod_lt b hp
    rw [be, be, Op.bytesLess, ← be_mod a k k (Nat.le_refl _), ← be_mod b k k (Nat.le_refl _), be_less k _ _ ma mb]
    rw [Bool.eq_iff_iff]
    simp only [Bool.or_eq_true, Bool.and_eq_true, decide_eq_true_eq, beq_iff_eq, ofNat_lt h1 h2, ofNat_eq h1 h2]
    constructor
    · rintro (h | ⟨h, h'⟩)
      · have : 256 ^ k * (a / 256 ^ k + 1) ≤ 256 ^ k * (b / 256 ^ k) := Nat.mul_le_mul_left _ h
        rw [Nat.mul_add, Nat.mul_one] at this
        omega
      · rw [h] at ia
        omega
    · intro h
      rcases Nat.lt_trichotomy (a / 256 ^ k) (b / 256 ^ k) with hh | hh | hh
      · exact .inl hh
      · refine .inr ⟨hh, ?_⟩
        rw [hh] at ia
        omega
      · have : 256 ^ k * (b / 256 ^ k + 1) ≤ 256 ^ k * (a / 256 ^ k) := Nat.mul_le_mul_left _ hh
        rw [Nat.mul_add, Nat.mul_one] at this
        omega

theorem num_be : ∀ (k a : Nat), a < 256 ^ k → num (be a k) = a := by
  have gen : ∀ (k a c : Nat), a < 256 ^ k → (be a k).foldl (fun x b => 256 * x + b.toNat) c = c * 256 ^ k + a := by
    intro k
    induction k with
    | zero => intro a c h; simp at h; subst h; simp [be]
    | succ k ih =>
      intro a c h
      have hp := pow_pos256 k
      have h1 := head_lt h
      have ia := Nat.div_add_mod a (256 ^ k)
      have e : (UInt8.ofNat (a / 256 ^ k)).toNat = a / 256 ^ k := by simp [Nat.mod_eq_of_lt h1]
      rw [be, List.foldl_cons, ← be_mod a k k (Nat.le_refl _), ih _ _ (Nat.mod_lt a hp), e, Nat.pow_succ, Nat.add_mul]
      have e2 : 256 * c * 256 ^ k = c * (256 ^ k * 256) := by rw [Nat.mul_comm 256 c, Nat.mul_assoc, Nat.mul_comm 256]
      rw [e2, Nat.mul_comm (a / 256 ^ k)]
      omega
  intro k a h
  have := gen k a 0 h
  simpa [num] using this
theorem be_inj {k a b : Nat} (ha : a < 256 ^ k) (hb : b < 256 ^ k) : be a k = be b k ↔ a = b := by
  constructor
  · intro h
    rw [← num_be k a ha, ← num_be k b hb, h]
  · intro h
    rw [h]
theorem str_toList (l : List UInt8) : (str l).toList = l := by rw [ByteArray.toList_eq]; exact str_list l
theorem p4 : (256 : Nat) ^ 4 = 4294967296 := by decide
theorem p8 : (256 : Nat) ^ 8 = 18446744073709551616 := by decide
theorem less_str (k : Nat) (A B : Int) (hA0 : 0 ≤ A) (hB0 : 0 ≤ B) (hA : A.toNat < 256 ^ k) (hB : B.toNat < 256 ^ k) : Op.bytesLess (str (be A.toNat k)).toList (str (be B.toNat k)).toList = decide (A < B) := by
  rw [str_toList, str_toList, be_less k _ _ hA hB]
  simp only [decide_eq_decide]
  omega
theorem eq_str (k : Nat) (A B : Int) (hA0 : 0 ≤ A) (hB0 : 0 ≤ B) (hA : A.toNat < 256 ^ k) (hB : B.toNat < 256 ^ k) : ((str (be A.toNat k)).toList == (str (be B.toNat k)).toList) = (A == B) := by
  rw [str_toList, str_toList, Bool.eq_iff_iff, beq_iff_eq, beq_iff_eq, be_inj hA hB]
  omega
end Go.Proofs.YtgijkgcekfbgeaaDoor
