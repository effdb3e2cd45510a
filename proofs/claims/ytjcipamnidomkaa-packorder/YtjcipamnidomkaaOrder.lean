/- Numbers are ordered as their bytes: the walk of PackOrder. -/
import Derived.Test.YtjcipamnidomkaaShown
import Derived.Test.YtjcipamnidomkaaBeMath
namespace Go.Proofs.Ytjcipamnidomkaa
set_option linter.unusedVariables false
open Go.RowKit

theorem long_new (a : Nat) : WS.long ⟨8, [], false⟩ a = ⟨8, be a 8, false⟩ := by
  unfold WS.long WS.put
  rw [if_neg (by simp), if_pos (by rw [be_length]; simp)]
  simp
theorem word_new (a : Int) (h0 : 0 ≤ a) (h : a < 4294967296) : WS.word ⟨4, [], false⟩ a = ⟨4, be a.toNat 4, false⟩ := by
  unfold WS.word WS.put
  rw [if_neg (by omega), if_neg (by simp), if_pos (by rw [be_length]; simp)]
  simp
theorem word_not (v : Int) (h : v < 0 ∨ 4294967296 ≤ v) : WS.word ⟨4, [], false⟩ v = ⟨4, [], true⟩ := by
  unfold WS.word
  rw [if_pos h]
  rfl

set_option maxHeartbeats 400000 in
theorem law_long' (w : World) (a : Nat) : Calls Try.prog 41 #[.int .u64 (a : Int)] w fun e w' => e = .returned (.tuple #[.string (str (be a 8)), .bool true]) ∧ Below w.heap.size w w' := by
  have hbl := be_length a 8
  have Hbl : Hid ((be a 8).length = 8) := hbl
  clear hbl
  go_enter Try.func41, Try.ntmps41
  go_wp2_with (first
    | (go_at_call 10; refine (new_calls _ 8 (by omega) (by omega)).mono ?_; rintro e w0 ⟨rfl, h0, b0⟩)
    | (go_at_call 16; refine (long_calls _ w.heap.size a _ none h0).mono ?_; rintro e w1 ⟨rfl, r1, h1, t1, n1⟩; rw [long_new] at h1)
    | (go_at_call 24; refine (done_ok _ w.heap.size _ r1 h1 rfl).mono ?_; rintro e w2 ⟨a2, c2, rfl, o2, b2⟩; have hcv := conv_bytes (own_bytes o2)))
  go_ret2
  exact ⟨rfl, (b0.trans (t1.below b0.size (Nat.le_refl _) (fun k hk => by cases hk))).trans (b2.mono (by have := t1.size; have := b0.size; omega))⟩
theorem law_long (w : World) (A : Int) (h0 : 0 ≤ A) : Calls Try.prog 41 #[.int .u64 A] w fun e w' => e = .returned (.tuple #[.string (str (be A.toNat 8)), .bool true]) ∧ Below w.heap.size w w' := by
  obtain ⟨a, rfl⟩ := Int.eq_ofNat_of_zero_le h0
  exact law_long' w a
theorem conv_nil (w : World) : (convert 34 9 (.slice none 0 0)).run Try.prog w = .ok (.string (str [])) w := conv_bytes (r := none) ⟨none, 0, rfl, Nat.le_refl _, .inl ⟨rfl, rfl, rfl⟩⟩
set_option maxHeartbeats 400000 in
set_option maxRecDepth 100000 in
theorem law_word_yes (w : World) (A : Int) (h0 : 0 ≤ A) (h1 : A < 4294967296) : Calls Try.prog 42 #[.int .u64 A] w fun e w' => e = .returned (.tuple #[.string (str (be A.toNat 4)), .bool true]) ∧ Below w.heap.size w w' := by
  have hi : A < 4611686018427387904 := by omega
  go_enter Try.func42, Try.ntmps42
  go_wp2_with (first
    | (go_at_call 10; refine (new_calls _ 4 (by omega) (by omega)).mono ?_; rintro e w0 ⟨rfl, hs0, b0⟩)
    | (go_at_call 14; refine (word_calls _ w.heap.size A _ none hs0 (by omega)).mono ?_; rintro e w1 ⟨rfl, r1, hs1, t1, n1⟩; rw [word_new A h0 h1] at hs1)
    | (go_at_call 24; refine (done_ok _ w.heap.size _ r1 hs1 rfl).mono ?_; rintro e w2 ⟨a2, c2, rfl, o2, b2⟩; have hcv := conv_bytes (own_bytes o2)))
  go_ret2
  exact ⟨rfl, (b0.trans (t1.below b0.size (Nat.le_refl _) (fun k hk => by cases hk))).trans (b2.mono (by have := t1.size; have := b0.size; omega))⟩
set_option maxHeartbeats 400000 in
set_option maxRecDepth 100000 in
theorem law_word_big (w : World) (A : Int) (h1 : 4294967296 ≤ A) (h2 : A < 4611686018427387904) : Calls Try.prog 42 #[.int .u64 A] w fun e w' => e = .returned (.tuple #[.string (str []), .bool false]) ∧ Below w.heap.size w w' := by
  go_enter Try.func42, Try.ntmps42
  go_wp2_with (first
    | (go_at_call 10; refine (new_calls _ 4 (by omega) (by omega)).mono ?_; rintro e w0 ⟨rfl, hs0, b0⟩)
    | (go_at_call 14; refine (word_calls _ w.heap.size A _ none hs0 (by omega)).mono ?_; rintro e w1 ⟨rfl, r1, hs1, t1, n1⟩; rw [word_not A (.inr h1)] at hs1)
    | (go_at_call 24; refine (done_bad _ w.heap.size _ r1 hs1 rfl).mono ?_; rintro e w2 ⟨rfl, rfl⟩; have hcv := conv_nil w2))
  go_ret2
  exact ⟨rfl, b0.trans (t1.below b0.size (Nat.le_refl _) (fun k hk => by cases hk))⟩
set_option maxHeartbeats 400000 in
set_option maxRecDepth 100000 in
theorem law_word_huge (w : World) (A : Int) (h1 : 4611686018427387904 ≤ A) : Calls Try.prog 42 #[.int .u64 A] w fun e w' => e = .returned (.tuple #[.string (str []), .bool false]) ∧ Below w.heap.size w w' := by
  have hi : ¬ A < 4611686018427387904 := by omega
  go_enter Try.func42, Try.ntmps42
  go_wp2_with (first
    | (go_at_call 10; refine (new_calls _ 4 (by omega) (by omega)).mono ?_; rintro e w0 ⟨rfl, hs0, b0⟩)
    | (go_at_call 14; refine (word_calls _ w.heap.size (-1) _ none hs0 (by omega)).mono ?_; rintro e w1 ⟨rfl, r1, hs1, t1, n1⟩; rw [word_not (-1) (.inl (by omega))] at hs1)
    | (go_at_call 24; refine (done_bad _ w.heap.size _ r1 hs1 rfl).mono ?_; rintro e w2 ⟨rfl, rfl⟩; have hcv := conv_nil w2))
  go_ret2
  exact ⟨rfl, b0.trans (t1.below b0.size (Nat.le_refl _) (fun k hk => by cases hk))⟩
theorem law_word_no (w : World) (A : Int) (h1 : 4294967296 ≤ A) : Calls Try.prog 42 #[.int .u64 A] w fun e w' => e = .returned (.tuple #[.string (str []), .bool false]) ∧ Below w.heap.size w w' := by
  by_cases h : A < 4611686018427387904
  · exact law_word_big w A h1 h
  · exact law_word_huge w A (by omega)

set_option maxHeartbeats 800000 in
set_option maxRecDepth 100000 in
theorem order_walk_yy (A B : Int) (w : World) (ha0 : 0 ≤ A) (hb0 : 0 ≤ B) (ha1 : A < 4294967296) (hb1 : B < 4294967296) : Calls Try.prog 8 #[.int .u64 A, .int .u64 B] w fun e w' => e = .returned (.bool true) ∧ Below w.heap.size w w' := by
  have hl8 := less_str 8 A B ha0 hb0 (by rw [p8]; omega) (by rw [p8]; omega)
  have he8 := eq_str 8 A B ha0 hb0 (by rw [p8]; omega) (by rw [p8]; omega)
  have hx : (str (be A.toNat 8)).size = 8 := by rw [str_size, be_length]
  have hl4 := less_str 4 A B ha0 hb0 (by rw [p4]; omega) (by rw [p4]; omega)
  have hu : (str (be A.toNat 4)).size = 4 := by rw [str_size, be_length]
  go_enter Try.func8, Try.ntmps8
  go_wp2_with fail
  refine (shown_calls _).mono ?_
  rintro e w0 ⟨rfl, b0⟩
  go_wp2_with fail
  refine (law_long _ A ha0).mono ?_
  rintro e w1 ⟨rfl, b1⟩
  go_wp2_with fail
  refine (law_long _ B hb0).mono ?_
  rintro e w2 ⟨rfl, b2⟩
  go_wp2_with fail
  refine (law_word_yes _ A ha0 ha1).mono ?_
  rintro e w3 ⟨rfl, b3⟩
  go_wp2_with fail
  refine (law_word_yes _ B hb0 hb1).mono ?_
  rintro e w4 ⟨rfl, b4⟩
  go_wp2
  go_ret
  exact ⟨by simp, (((b0.trans (b1.mono b0.size)).trans (b2.mono (by have := b0.size; have := b1.size; omega))).trans (b3.mono (by have := b0.size; have := b1.size; have := b2.size; omega))).trans (b4.mono (by have := b0.size; have := b1.size; have := b2.size; have := b3.size; omega))⟩
set_option maxHeartbeats 800000 in
set_option maxRecDepth 100000 in
theorem order_walk_yn (A B : Int) (w : World) (ha0 : 0 ≤ A) (hb0 : 0 ≤ B) (ha1 : A < 4294967296) (hb1 : ¬ B < 4294967296) (hb2 : B < 18446744073709551616) : Calls Try.prog 8 #[.int .u64 A, .int .u64 B] w fun e w' => e = .returned (.bool true) ∧ Below w.heap.size w w' := by
  have hl8 := less_str 8 A B ha0 hb0 (by rw [p8]; omega) (by rw [p8]; omega)
  have he8 := eq_str 8 A B ha0 hb0 (by rw [p8]; omega) (by rw [p8]; omega)
  have hx : (str (be A.toNat 8)).size = 8 := by rw [str_size, be_length]
  go_enter Try.func8, Try.ntmps8
  go_wp2_with fail
  refine (shown_calls _).mono ?_
  rintro e w0 ⟨rfl, b0⟩
  go_wp2_with fail
  refine (law_long _ A ha0).mono ?_
  rintro e w1 ⟨rfl, b1⟩
  go_wp2_with fail
  refine (law_long _ B hb0).mono ?_
  rintro e w2 ⟨rfl, b2⟩
  go_wp2_with fail
  refine (law_word_yes _ A ha0 ha1).mono ?_
  rintro e w3 ⟨rfl, b3⟩
  go_wp2_with fail
  refine (law_word_no _ B (by omega)).mono ?_
  rintro e w4 ⟨rfl, b4⟩
  go_wp2
  go_ret
  exact ⟨by simp, (((b0.trans (b1.mono b0.size)).trans (b2.mono (by have := b0.size; have := b1.size; omega))).trans (b3.mono (by have := b0.size; have := b1.size; have := b2.size; omega))).trans (b4.mono (by have := b0.size; have := b1.size; have := b2.size; have := b3.size; omega))⟩
set_option maxHeartbeats 800000 in
set_option maxRecDepth 100000 in
theorem order_walk_ny (A B : Int) (w : World) (ha0 : 0 ≤ A) (hb0 : 0 ≤ B) (ha1 : ¬ A < 4294967296) (ha2 : A < 18446744073709551616) (hb1 : B < 4294967296) : Calls Try.prog 8 #[.int .u64 A, .int .u64 B] w fun e w' => e = .returned (.bool true) ∧ Below w.heap.size w w' := by
  have hl8 := less_str 8 A B ha0 hb0 (by rw [p8]; omega) (by rw [p8]; omega)
  have he8 := eq_str 8 A B ha0 hb0 (by rw [p8]; omega) (by rw [p8]; omega)
  have hx : (str (be A.toNat 8)).size = 8 := by rw [str_size, be_length]
  go_enter Try.func8, Try.ntmps8
  go_wp2_with fail
  refine (shown_calls _).mono ?_
  rintro e w0 ⟨rfl, b0⟩
  go_wp2_with fail
  refine (law_long _ A ha0).mono ?_
  rintro e w1 ⟨rfl, b1⟩
  go_wp2_with fail
  refine (law_long _ B hb0).mono ?_
  rintro e w2 ⟨rfl, b2⟩
  go_wp2_with fail
  refine (law_word_no _ A (by omega)).mono ?_
  rintro e w3 ⟨rfl, b3⟩
  go_wp2_with fail
  refine (law_word_yes _ B hb0 hb1).mono ?_
  rintro e w4 ⟨rfl, b4⟩
  go_wp2
  go_ret
  exact ⟨by simp, (((b0.trans (b1.mono b0.size)).trans (b2.mono (by have := b0.size; have := b1.size; omega))).trans (b3.mono (by have := b0.size; have := b1.size; have := b2.size; omega))).trans (b4.mono (by have := b0.size; have := b1.size; have := b2.size; have := b3.size; omega))⟩
set_option maxHeartbeats 800000 in
set_option maxRecDepth 100000 in
theorem order_walk_nn (A B : Int) (w : World) (ha0 : 0 ≤ A) (hb0 : 0 ≤ B) (ha1 : ¬ A < 4294967296) (ha2 : A < 18446744073709551616) (hb1 : ¬ B < 4294967296) (hb2 : B < 18446744073709551616) : Calls Try.prog 8 #[.int .u64 A, .int .u64 B] w fun e w' => e = .returned (.bool true) ∧ Below w.heap.size w w' := by
  have hl8 := less_str 8 A B ha0 hb0 (by rw [p8]; omega) (by rw [p8]; omega)
  have he8 := eq_str 8 A B ha0 hb0 (by rw [p8]; omega) (by rw [p8]; omega)
  have hx : (str (be A.toNat 8)).size = 8 := by rw [str_size, be_length]
  go_enter Try.func8, Try.ntmps8
  go_wp2_with fail
  refine (shown_calls _).mono ?_
  rintro e w0 ⟨rfl, b0⟩
  go_wp2_with fail
  refine (law_long _ A ha0).mono ?_
  rintro e w1 ⟨rfl, b1⟩
  go_wp2_with fail
  refine (law_long _ B hb0).mono ?_
  rintro e w2 ⟨rfl, b2⟩
  go_wp2_with fail
  refine (law_word_no _ A (by omega)).mono ?_
  rintro e w3 ⟨rfl, b3⟩
  go_wp2_with fail
  refine (law_word_no _ B (by omega)).mono ?_
  rintro e w4 ⟨rfl, b4⟩
  go_wp2
  go_ret
  exact ⟨by simp, (((b0.trans (b1.mono b0.size)).trans (b2.mono (by have := b0.size; have := b1.size; omega))).trans (b3.mono (by have := b0.size; have := b1.size; have := b2.size; omega))).trans (b4.mono (by have := b0.size; have := b1.size; have := b2.size; have := b3.size; omega))⟩
theorem order_walk (A B : Int) (w : World) (ha0 : 0 ≤ A) (hb0 : 0 ≤ B) (ha2 : A < 18446744073709551616) (hb2 : B < 18446744073709551616) : Calls Try.prog 8 #[.int .u64 A, .int .u64 B] w fun e w' => e = .returned (.bool true) ∧ Below w.heap.size w w' := by
  by_cases ha1 : A < 4294967296
  · by_cases hb1 : B < 4294967296
    · exact order_walk_yy A B w ha0 hb0 ha1 hb1
    · exact order_walk_yn A B w ha0 hb0 ha1 hb1 hb2
  · by_cases hb1 : B < 4294967296
    · exact order_walk_ny A B w ha0 hb0 ha1 ha2 hb1
    · exact order_walk_nn A B w ha0 hb0 ha1 ha2 hb1 hb2
end Go.Proofs.Ytjcipamnidomkaa
