/- A text of one character is a name just if that may be in one. -/
import Derived.Test.YtdmgmicabofmiaaDoorNaH
namespace Go.Proofs.YtdmgmicabofmiaaDoor
set_option linter.unusedVariables false
open Go.RowKit

theorem byte_add (m a n : Nat) (h : m + a < 256) : Value.int .u8 (((UInt8.ofNat (m + a)).toNat : Nat) : Int) = .int .u8 ((m : Int) + (a : Int)) := by
  rw [UInt8.toNat_ofNat', Nat.mod_eq_of_lt h]; rfl
theorem bc3 (a b q : Nat) (ha : a < 16) (hb : b < 64) (hq : q < 64) : #[.int .u8 (224 + (a : Int)), .int .u8 (128 + (b : Int)), .int .u8 (128 + (q : Int))] = (bc [UInt8.ofNat (224 + a), UInt8.ofNat (128 + b), UInt8.ofNat (128 + q)]).toArray := by
  simp only [bc, List.map_cons, List.map_nil, byte_add 224 a 0 (by omega), byte_add 128 b 0 (by omega), byte_add 128 q 0 (by omega)]
  rfl
theorem bc4 (a b d q : Nat) (ha : a < 8) (hb : b < 64) (hd : d < 64) (hq : q < 64) : #[.int .u8 (240 + (a : Int)), .int .u8 (128 + (b : Int)), .int .u8 (128 + (d : Int)), .int .u8 (128 + (q : Int))] = (bc [UInt8.ofNat (240 + a), UInt8.ofNat (128 + b), UInt8.ofNat (128 + d), UInt8.ofNat (128 + q)]).toArray := by
  simp only [bc, List.map_cons, List.map_nil, byte_add 240 a 0 (by omega), byte_add 128 b 0 (by omega), byte_add 128 d 0 (by omega), byte_add 128 q 0 (by omega)]
  rfl
/-- A number's bits, six by six. -/
theorem parts (k : Nat) (hk : k < 2097152) : ∃ h6 h12 h18 b d q : Nat, ((k : Int) / 64 = (h6 : Int) ∧ (k : Int) / 4096 = (h12 : Int) ∧ (k : Int) / 262144 = (h18 : Int)) ∧ (bits .and .u32 (k : Int) 63 = (q : Int) ∧ bits .and .u32 (h6 : Int) 63 = (d : Int) ∧ bits .and .u32 (h12 : Int) 63 = (b : Int)) ∧
    (q < 64 ∧ d < 64 ∧ b < 64 ∧ h18 < 8) ∧ (k < 65536 → h12 < 16 ∧ h12 * 4096 + d * 64 + q = k) ∧ (k < 2048 → h6 < 32 ∧ h6 * 64 + q = k) ∧ h18 * 262144 + b * 4096 + d * 64 + q = k := by
  refine ⟨k / 64, k / 4096, k / 262144, k / 4096 % 64, k / 64 % 64, k % 64, ⟨rfl, rfl, rfl⟩, ⟨and63u k (by omega), and63u _ (by omega), and63u _ (by omega)⟩, ⟨by omega, by omega, by omega, by omega⟩, fun h => ⟨by omega, by omega⟩, fun h => ⟨by omega, by omega⟩, by omega⟩
theorem bc2 (a q : Nat) (ha : a < 32) (hq : q < 64) : #[.int .u8 (192 + (a : Int)), .int .u8 (128 + (q : Int))] = (bc [UInt8.ofNat (192 + a), UInt8.ofNat (128 + q)]).toArray := by
  simp only [bc, List.map_cons, List.map_nil, byte_add 192 a 0 (by omega), byte_add 128 q 0 (by omega)]
  rfl
theorem below_made1 (w : World) (o : Obj) : Below w.heap.size w (w.alloc o) := (Below.refl _ _).alloc (Nat.le_refl _) _
theorem below_two {w w1 : World} (b1 : Below w.heap.size w w1) (o : Obj) : Below w.heap.size w (w1.alloc o) := b1.trans ((below_made1 w1 o).mono b1.size)
set_option maxRecDepth 1000000 in
set_option maxHeartbeats 4000000 in
theorem nameChars_walk (w : World) (c : Int) (hc : 0 ≤ c ∧ c ≤ 4294967295) :
    Calls Tryd.prog 7 #[.int .u32 c] w fun e w' => e = .returned (.bool true) ∧ Below w.heap.size w w' := by
  obtain ⟨k, hk, hk5⟩ := and21u c
  clear hc
  go_enter Tryd.func7, Tryd.ntmps7
  go_wp2_with fail
  refine (shown_calls w).mono ?_
  rintro e w1 ⟨rfl, b1⟩
  by_cases h1 : k < 128
  · have h1I : (k : Int) < 128 := by omega
    go_upto_region 6 with fail
    have h0I : (0 : Int) ≤ (k : Int) := by omega
    have hbk : (UInt8.ofNat k).toNat = k := by rw [UInt8.toNat_ofNat']; omega
    have hra := right_ascii (UInt8.ofNat k) (by rw [hbk]; exact h1)
    rw [hbk] at hra
    have hcv := conv_new w1 [UInt8.ofNat k] #[.int .u8 (k : Int)] (by simp [bc, hbk]) 1 rfl
    obtain ⟨S, hS⟩ : ∃ S : ByteArray, (⟨([UInt8.ofNat k] : List UInt8).toArray⟩ : ByteArray) = S := ⟨_, rfl⟩
    rw [hS] at hcv
    have hSd : S.data.toList = [UInt8.ofNat k] := by rw [← hS]
    have hsz : S.size = 1 := by rw [← hS]; rfl
    have c1 := fun y => right_calls S y
    have c2 := fun y => width_calls S (by rw [hsz]; decide) y
    rw [hSd, hra.1] at c1
    rw [hSd, hra.2] at c2
    have B1 := below_two b1 (.cells #[.int .u8 (k : Int)] 5)
    have hw1 : (k : Int) < 55296 := by omega
    clear hS hSd hra hbk hk5 h1 b1
    obtain ⟨R, hR⟩ : ∃ R : Bool, decide (32 ≤ k ∧ k ≠ 127 ∧ k ≠ 47 ∧ k ≠ 46) = R := ⟨_, rfl⟩
    rw [hR] at c1
    by_cases r1 : (32 : Int) ≤ (k : Int)
    · by_cases r2 : k = 127
      · have e : R = false := by rw [← hR]; apply decide_eq_false; omega
        subst e
        subst r2
        clear hR
        replace hcv : (convert 37 9 (.slice (some ⟨w1.heap.size, 0, none⟩) 1 1)).run Tryd.prog (w1.alloc (.cells #[.int .u8 127] 5)) = .ok (.string S) (w1.alloc (.cells #[.int .u8 127] 5)) := hcv
        replace hk : bits .and .u32 c 2097151 = 127 := hk
        replace B1 : Below w.heap.size w (w1.alloc (.cells #[.int .u8 127] 5)) := B1
        clear h1I h0I r1 hw1
        go_wp2_with (first
          | (go_at_call 14; refine (c1 _).mono ?_; rintro e w2 ⟨rfl, b2⟩; clear c1)
          | (go_at_call 17; refine (c2 _).mono ?_; rintro e w3 ⟨rfl, b3⟩; clear c2))
        go_ret
        have B2 := B1.trans (b2.mono B1.size)
        exact ⟨by simp, B2.trans (b3.mono B2.size)⟩
      · by_cases r3 : k = 47
        · have e : R = false := by rw [← hR]; apply decide_eq_false; omega
          subst e
          subst r3
          clear hR
          replace hcv : (convert 37 9 (.slice (some ⟨w1.heap.size, 0, none⟩) 1 1)).run Tryd.prog (w1.alloc (.cells #[.int .u8 47] 5)) = .ok (.string S) (w1.alloc (.cells #[.int .u8 47] 5)) := hcv
          replace hk : bits .and .u32 c 2097151 = 47 := hk
          replace B1 : Below w.heap.size w (w1.alloc (.cells #[.int .u8 47] 5)) := B1
          clear h1I h0I r1 hw1
          go_wp2_with (first
            | (go_at_call 14; refine (c1 _).mono ?_; rintro e w2 ⟨rfl, b2⟩; clear c1)
            | (go_at_call 17; refine (c2 _).mono ?_; rintro e w3 ⟨rfl, b3⟩; clear c2))
          go_ret
          have B2 := B1.trans (b2.mono B1.size)
          exact ⟨by simp, B2.trans (b3.mono B2.size)⟩
        · by_cases r4 : k = 46
          · have e : R = false := by rw [← hR]; apply decide_eq_false; omega
            subst e
            subst r4
            clear hR
            replace hcv : (convert 37 9 (.slice (some ⟨w1.heap.size, 0, none⟩) 1 1)).run Tryd.prog (w1.alloc (.cells #[.int .u8 46] 5)) = .ok (.string S) (w1.alloc (.cells #[.int .u8 46] 5)) := hcv
            replace hk : bits .and .u32 c 2097151 = 46 := hk
            replace B1 : Below w.heap.size w (w1.alloc (.cells #[.int .u8 46] 5)) := B1
            clear h1I h0I r1 hw1
            go_wp2_with (first
              | (go_at_call 14; refine (c1 _).mono ?_; rintro e w2 ⟨rfl, b2⟩; clear c1)
              | (go_at_call 17; refine (c2 _).mono ?_; rintro e w3 ⟨rfl, b3⟩; clear c2))
            go_ret
            have B2 := B1.trans (b2.mono B1.size)
            exact ⟨by simp, B2.trans (b3.mono B2.size)⟩
          · have e : R = true := by rw [← hR]; apply decide_eq_true; omega
            subst e
            have r2I : ¬ (k : Int) = 127 := by omega
            have r3I : ¬ (k : Int) = 47 := by omega
            have r4I : ¬ (k : Int) = 46 := by omega
            clear r2 r3 r4
            clear hR
            go_wp2_with (first
              | (go_at_call 14; refine (c1 _).mono ?_; rintro e w2 ⟨rfl, b2⟩; clear c1)
              | (go_at_call 17; refine (c2 _).mono ?_; rintro e w3 ⟨rfl, b3⟩; clear c2))
            go_ret
            have B2 := B1.trans (b2.mono B1.size)
            exact ⟨by simp [r2I, r3I, r4I], B2.trans (b3.mono B2.size)⟩
    · have e : R = false := by rw [← hR]; apply decide_eq_false; omega
      subst e
      clear hR
      go_wp2_with (first
        | (go_at_call 14; refine (c1 _).mono ?_; rintro e w2 ⟨rfl, b2⟩; clear c1)
        | (go_at_call 17; refine (c2 _).mono ?_; rintro e w3 ⟨rfl, b3⟩; clear c2))
      go_ret
      have B2 := B1.trans (b2.mono B1.size)
      exact ⟨by simp, B2.trans (b3.mono B2.size)⟩
  have h1I : ¬ (k : Int) < 128 := by omega
  by_cases h2 : k < 2048
  · have h2I : (k : Int) < 2048 := by omega
    go_upto_region 9 with fail
    obtain ⟨h6, h12, h18, b, d, q, ⟨h6I, h12I, h18I⟩, ⟨hqm, hdm, hbm⟩, ⟨q64, d64, b64, l18⟩, f3, f2, f4⟩ := parts k hk5
    have hq0 : (0 : Int) ≤ (q : Int) := Int.natCast_nonneg q
    have hq1 : (q : Int) < 64 := Int.ofNat_lt.2 q64
    have hd0 : (0 : Int) ≤ (d : Int) := Int.natCast_nonneg d
    have hd1 : (d : Int) < 64 := Int.ofNat_lt.2 d64
    have hb0 : (0 : Int) ≤ (b : Int) := Int.natCast_nonneg b
    have hb1 : (b : Int) < 64 := Int.ofNat_lt.2 b64
    have hs6 : (0 : Int) ≤ (h6 : Int) := Int.natCast_nonneg h6
    have hs12 : (0 : Int) ≤ (h12 : Int) := Int.natCast_nonneg h12
    have hs18 : (0 : Int) ≤ (h18 : Int) := Int.natCast_nonneg h18
    have hl18 : (h18 : Int) < 8 := Int.ofNat_lt.2 l18
    obtain ⟨l6, f2⟩ := f2 h2
    have ha1 : (h6 : Int) < 32 := Int.ofNat_lt.2 l6
    obtain ⟨r1, r2⟩ := enc2 h6 q l6 q64 (by rw [f2]; exact Nat.le_of_not_lt h1) _ rfl
    have hcv := conv_new w1 [UInt8.ofNat (192 + h6), UInt8.ofNat (128 + q)] #[.int .u8 (192 + (h6 : Int)), .int .u8 (128 + (q : Int))] (bc2 h6 q l6 q64) 2 rfl
    obtain ⟨S, hS⟩ : ∃ S : ByteArray, (⟨([UInt8.ofNat (192 + h6), UInt8.ofNat (128 + q)] : List UInt8).toArray⟩ : ByteArray) = S := ⟨_, rfl⟩
    rw [hS] at hcv
    have hSd : S.data.toList = [UInt8.ofNat (192 + h6), UInt8.ofNat (128 + q)] := by rw [← hS]
    have hsz : S.size = 2 := by rw [← hS]; rfl
    have c1 := fun y => right_calls S y
    have c2 := fun y => width_calls S (by rw [hsz]; decide) y
    rw [hSd, r1] at c1
    rw [hSd, r2] at c2
    have B1 := below_two b1 (.cells #[.int .u8 (192 + (h6 : Int)), .int .u8 (128 + (q : Int))] 5)
    have hw1 : (k : Int) < 55296 := Int.lt_of_lt_of_le h2I (by decide)
    clear hS hSd r1 r2 hk5 h1 h2 b1 f2 f3 f4 l6 q64 d64 b64 l18 h12I h18I hdm hbm
    go_wp2_with (first
      | (go_at_call 14; refine (c1 _).mono ?_; rintro e w2 ⟨rfl, b2⟩; clear c1)
      | (go_at_call 17; refine (c2 _).mono ?_; rintro e w3 ⟨rfl, b3⟩; clear c2))
    go_ret
    have B2 := B1.trans (b2.mono B1.size)
    exact ⟨by simp, B2.trans (b3.mono B2.size)⟩
  have h2I : ¬ (k : Int) < 2048 := by omega
  by_cases h3 : k < 65536
  · have h3I : (k : Int) < 65536 := by omega
    go_upto_region 11 with fail
    obtain ⟨h6, h12, h18, b, d, q, ⟨h6I, h12I, h18I⟩, ⟨hqm, hdm, hbm⟩, ⟨q64, d64, b64, l18⟩, f3, f2, f4⟩ := parts k hk5
    have hq0 : (0 : Int) ≤ (q : Int) := Int.natCast_nonneg q
    have hq1 : (q : Int) < 64 := Int.ofNat_lt.2 q64
    have hd0 : (0 : Int) ≤ (d : Int) := Int.natCast_nonneg d
    have hd1 : (d : Int) < 64 := Int.ofNat_lt.2 d64
    have hb0 : (0 : Int) ≤ (b : Int) := Int.natCast_nonneg b
    have hb1 : (b : Int) < 64 := Int.ofNat_lt.2 b64
    have hs6 : (0 : Int) ≤ (h6 : Int) := Int.natCast_nonneg h6
    have hs12 : (0 : Int) ≤ (h12 : Int) := Int.natCast_nonneg h12
    have hs18 : (0 : Int) ≤ (h18 : Int) := Int.natCast_nonneg h18
    have hl18 : (h18 : Int) < 8 := Int.ofNat_lt.2 l18
    obtain ⟨l12, hkk⟩ := f3 h3
    have hl12 : (h12 : Int) < 16 := Int.ofNat_lt.2 l12
    obtain ⟨e1, e2⟩ := enc3 h12 d q l12 d64 q64 (by rw [hkk]; exact Nat.le_of_not_lt h2) _ rfl
    rw [hkk] at e1 e2
    have hcv := conv_new w1 [UInt8.ofNat (224 + h12), UInt8.ofNat (128 + d), UInt8.ofNat (128 + q)] #[.int .u8 (224 + (h12 : Int)), .int .u8 (128 + (d : Int)), .int .u8 (128 + (q : Int))] (bc3 h12 d q l12 d64 q64) 3 rfl
    obtain ⟨S, hS⟩ : ∃ S : ByteArray, (⟨([UInt8.ofNat (224 + h12), UInt8.ofNat (128 + d), UInt8.ofNat (128 + q)] : List UInt8).toArray⟩ : ByteArray) = S := ⟨_, rfl⟩
    rw [hS] at hcv
    have hSd : S.data.toList = [UInt8.ofNat (224 + h12), UInt8.ofNat (128 + d), UInt8.ofNat (128 + q)] := by rw [← hS]
    have hsz : S.size = 3 := by rw [← hS]; rfl
    have c1 := fun y => right_calls S y
    have c2 := fun y => width_calls S (by rw [hsz]; decide) y
    rw [hSd] at c1 c2
    have B1 := below_two b1 (.cells #[.int .u8 (224 + (h12 : Int)), .int .u8 (128 + (d : Int)), .int .u8 (128 + (q : Int))] 5)
    by_cases u1 : k < 55296
    · have u1I : (k : Int) < 55296 := by omega
      rw [(e1 (.inl u1)).1] at c1
      rw [(e1 (.inl u1)).2] at c2
      clear hS hSd e1 e2 hkk hk5 h1 h2 h3 b1 f2 f3 f4 l12 q64 d64 b64 l18 h18I hbm u1
      go_wp2_with (first
        | (go_at_call 14; refine (c1 _).mono ?_; rintro e w2 ⟨rfl, b2⟩; clear c1)
        | (go_at_call 17; refine (c2 _).mono ?_; rintro e w3 ⟨rfl, b3⟩; clear c2))
      go_ret
      have B2 := B1.trans (b2.mono B1.size)
      exact ⟨by simp, B2.trans (b3.mono B2.size)⟩
    · have u1I : ¬ (k : Int) < 55296 := by omega
      by_cases u2 : k > 57343
      · have u2I : (k : Int) > 57343 := by omega
        have u3I : (k : Int) ≤ 1114111 := by omega
        rw [(e1 (.inr u2)).1] at c1
        rw [(e1 (.inr u2)).2] at c2
        clear hS hSd e1 e2 hkk hk5 h1 h2 h3 b1 f2 f3 f4 l12 q64 d64 b64 l18 h18I hbm u1 u2
        go_wp2_with (first
          | (go_at_call 14; refine (c1 _).mono ?_; rintro e w2 ⟨rfl, b2⟩; clear c1)
          | (go_at_call 17; refine (c2 _).mono ?_; rintro e w3 ⟨rfl, b3⟩; clear c2))
        go_ret
        have B2 := B1.trans (b2.mono B1.size)
        exact ⟨by simp, B2.trans (b3.mono B2.size)⟩
      · have u2I : ¬ (k : Int) > 57343 := by omega
        rw [(e2 (by omega)).1] at c1
        rw [(e2 (by omega)).2] at c2
        clear hS hSd e1 e2 hkk hk5 h1 h2 h3 b1 f2 f3 f4 l12 q64 d64 b64 l18 h18I hbm u1 u2
        go_wp2_with (first
          | (go_at_call 14; refine (c1 _).mono ?_; rintro e w2 ⟨rfl, b2⟩; clear c1)
          | (go_at_call 17; refine (c2 _).mono ?_; rintro e w3 ⟨rfl, b3⟩; clear c2))
        go_ret
        have B2 := B1.trans (b2.mono B1.size)
        exact ⟨by simp, B2.trans (b3.mono B2.size)⟩
  have h3I : ¬ (k : Int) < 65536 := by omega
  go_upto_region 13 with fail
  obtain ⟨h6, h12, h18, b, d, q, ⟨h6I, h12I, h18I⟩, ⟨hqm, hdm, hbm⟩, ⟨q64, d64, b64, l18⟩, f3, f2, f4⟩ := parts k hk5
  have hq0 : (0 : Int) ≤ (q : Int) := Int.natCast_nonneg q
  have hq1 : (q : Int) < 64 := Int.ofNat_lt.2 q64
  have hd0 : (0 : Int) ≤ (d : Int) := Int.natCast_nonneg d
  have hd1 : (d : Int) < 64 := Int.ofNat_lt.2 d64
  have hb0 : (0 : Int) ≤ (b : Int) := Int.natCast_nonneg b
  have hb1 : (b : Int) < 64 := Int.ofNat_lt.2 b64
  have hs6 : (0 : Int) ≤ (h6 : Int) := Int.natCast_nonneg h6
  have hs12 : (0 : Int) ≤ (h12 : Int) := Int.natCast_nonneg h12
  have hs18 : (0 : Int) ≤ (h18 : Int) := Int.natCast_nonneg h18
  have hl18 : (h18 : Int) < 8 := Int.ofNat_lt.2 l18
  obtain ⟨e1, e2⟩ := enc4 h18 b d q l18 b64 d64 q64 (by rw [f4]; exact Nat.le_of_not_lt h3) _ rfl
  rw [f4] at e1 e2
  have hcv := conv_new w1 [UInt8.ofNat (240 + h18), UInt8.ofNat (128 + b), UInt8.ofNat (128 + d), UInt8.ofNat (128 + q)] #[.int .u8 (240 + (h18 : Int)), .int .u8 (128 + (b : Int)), .int .u8 (128 + (d : Int)), .int .u8 (128 + (q : Int))] (bc4 h18 b d q l18 b64 d64 q64) 4 rfl
  obtain ⟨S, hS⟩ : ∃ S : ByteArray, (⟨([UInt8.ofNat (240 + h18), UInt8.ofNat (128 + b), UInt8.ofNat (128 + d), UInt8.ofNat (128 + q)] : List UInt8).toArray⟩ : ByteArray) = S := ⟨_, rfl⟩
  rw [hS] at hcv
  have hSd : S.data.toList = [UInt8.ofNat (240 + h18), UInt8.ofNat (128 + b), UInt8.ofNat (128 + d), UInt8.ofNat (128 + q)] := by rw [← hS]
  have hsz : S.size = 4 := by rw [← hS]; rfl
  have c1 := fun y => right_calls S y
  have c2 := fun y => width_calls S (by rw [hsz]; decide) y
  rw [hSd] at c1 c2
  have B1 := below_two b1 (.cells #[.int .u8 (240 + (h18 : Int)), .int .u8 (128 + (b : Int)), .int .u8 (128 + (d : Int)), .int .u8 (128 + (q : Int))] 5)
  have u1I : ¬ (k : Int) < 55296 := by omega
  have u2I : (k : Int) > 57343 := by omega
  by_cases u3 : k ≤ 1114111
  · have u3I : (k : Int) ≤ 1114111 := by omega
    rw [(e1 u3).1] at c1
    rw [(e1 u3).2] at c2
    clear hS hSd e1 e2 hk5 h1 h2 h3 b1 f2 f3 f4 q64 d64 b64 l18 u3
    go_wp2_with (first
      | (go_at_call 14; refine (c1 _).mono ?_; rintro e w2 ⟨rfl, b2⟩; clear c1)
      | (go_at_call 17; refine (c2 _).mono ?_; rintro e w3 ⟨rfl, b3⟩; clear c2))
    go_ret
    have B2 := B1.trans (b2.mono B1.size)
    exact ⟨by simp, B2.trans (b3.mono B2.size)⟩
  · have u3I : ¬ (k : Int) ≤ 1114111 := by omega
    rw [(e2 u3).1] at c1
    rw [(e2 u3).2] at c2
    clear hS hSd e1 e2 hk5 h1 h2 h3 b1 f2 f3 f4 q64 d64 b64 l18 u3
    go_wp2_with (first
      | (go_at_call 14; refine (c1 _).mono ?_; rintro e w2 ⟨rfl, b2⟩; clear c1)
      | (go_at_call 17; refine (c2 _).mono ?_; rintro e w3 ⟨rfl, b3⟩; clear c2))
    go_ret
    have B2 := B1.trans (b2.mono B1.size)
    exact ⟨by simp, B2.trans (b3.mono B2.size)⟩
end Go.Proofs.YtdmgmicabofmiaaDoor
