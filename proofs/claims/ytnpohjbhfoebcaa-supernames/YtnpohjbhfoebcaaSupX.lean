/- Blocks that are torn: plain mathematics. -/
import Derived.Test.YtnpohjbhfoebcaaSupN
namespace Go.Proofs.Ytnpohjbhfoebcaa
set_option linter.unusedVariables false
open Go.RowKit

theorem enc_first {S : Sup} (h : right S = true) : (enc S).take 8 = be S.g.toNat 8 := by
  have e : enc S = be S.g.toNat 8 ++ (wain.data.toList ++ (be S.r.toNat 4 ++ (be S.x.toNat 4 ++ (be S.c.toNat 8 ++ (be S.l.length 1 ++ (encL S.l ++ (List.replicate (504 - (encB S).length) 0 ++ be S.g.toNat 8))))))) := by
    rw [enc, encB, encH]
    simp only [List.append_assoc]
  rw [e, List.take_append_of_le_length (by rw [be_length]; omega), List.take_of_length_le (by rw [be_length]; omega)]
theorem enc_last {S : Sup} (h : right S = true) : (enc S).drop 504 = be S.g.toNat 8 := by
  have hB := (fits h).encB
  have e : enc S = (encB S ++ List.replicate (504 - (encB S).length) 0) ++ be S.g.toNat 8 := by rw [enc, List.append_assoc]
  have hl : (encB S ++ List.replicate (504 - (encB S).length) (0 : UInt8)).length = 504 := by simp; omega
  rw [e, List.drop_append_of_le_length (by omega), List.drop_of_length_le (by omega)]
  rfl
theorem validP_of (L : List UInt8) (n : Int) (S : Sup) (h : ofP L = some S) : validP L n = if S.g % 2 = n then some S else none := by rw [validP, h]; rfl
theorem gen_lt {S : Sup} (h : right S = true) : S.g.toNat < 256 ^ 8 := by
  have := (fits h).g1
  rw [p8]
  omega
theorem gen_eq {S T : Sup} (h : right S = true) (h' : right T = true) (e : be S.g.toNat 8 = be T.g.toNat 8) : S.g = T.g := by
  have := (be_inj (gen_lt h) (gen_lt h')).1 e
  have := (fits h).g0
  have := (fits h').g0
  omega
/-- A beginning of one list, the rest of another. -/
def tear (A B : List UInt8) (a : Nat) : List UInt8 := A.take a ++ B.drop a
theorem tear_length {A B : List UInt8} {a : Nat} (hA : A.length = 512) (hB : B.length = 512) (ha : a ≤ 512) : (tear A B a).length = 512 := by simp [tear]; omega
theorem tear_take {A B : List UInt8} {a n : Nat} (hA : A.length = 512) (h : n ≤ a) (ha : a ≤ 512) : (tear A B a).take n = A.take n := by
  rw [tear, List.take_append_of_le_length (by simp; omega), List.take_take, Nat.min_eq_left h]
theorem tear_drop {A B : List UInt8} {a n : Nat} (hA : A.length = 512) (h : a ≤ n) (ha : a ≤ 512) : (tear A B a).drop n = B.drop n := by
  rw [tear, List.drop_append, List.drop_of_length_le (by simp; omega), List.nil_append, List.length_take, hA, Nat.min_eq_left ha, List.drop_drop]
  congr 1
  omega
theorem list_split {A B : List UInt8} (n : Nat) (h1 : A.take n = B.take n) (h2 : A.drop n = B.drop n) : A = B := by
  rw [← List.take_append_drop n A, ← List.take_append_drop n B, h1, h2]
/-- Read again, a block that is torn is none's, or has one of both ends' generations. -/
theorem tear_first {A B : List UInt8} {a : Nat} {S U : Sup} (hS : right S = true) (hU : right U = true) (hA : A = enc S) (h8 : 8 ≤ a) (ha : a ≤ 512) (e : enc U = tear A B a) : U.g = S.g := by
  subst hA
  apply gen_eq hU hS
  rw [← enc_first hU, e, tear_take ((fits hS).enc) h8 ha, enc_first hS]
theorem tear_last {A B : List UInt8} {a : Nat} {U : Sup} (hA : A.length = 512) (hU : right U = true) (h8 : a ≤ 504) (e : enc U = tear A B a) : be U.g.toNat 8 = B.drop 504 := by
  rw [← enc_last hU, e, tear_drop hA h8 (by omega)]
theorem tear_behind {A B : List UInt8} {a : Nat} {S U : Sup} (hS : right S = true) (hU : right U = true) (hA : A = enc S) (h8 : 504 < a) (ha : a ≤ 512) (e : enc U = tear A B a) : U = S := by
  have hg := tear_first hS hU hA (by omega) ha e
  subst hA
  have e2 : enc U = enc S := by
    refine list_split 504 ?_ ?_
    · rw [e, tear_take ((fits hS).enc) (by omega) ha]
    · rw [enc_last hU, enc_last hS, hg]
  have := of_enc U hU
  rw [e2, of_enc S hS] at this
  exact (Option.some.inj this).symm
theorem torn_of {S T : Sup} {a : Nat} (hS : right S = true) (hT : right T = true) (hne : S.g ≠ T.g) (ha : a ≤ 512) :
    (ofP (tear (enc S) (enc T) a) = none ∧ 0 < a ∧ a < 512) ∨ ofP (tear (enc S) (enc T) a) = some S ∨ ofP (tear (enc S) (enc T) a) = some T := by
  have lS := (fits hS).enc
  have lT := (fits hT).enc
  cases h : ofP (tear (enc S) (enc T) a) with
  | none =>
    refine .inl ⟨rfl, ?_, ?_⟩
    · rcases Nat.eq_zero_or_pos a with e | e
      · subst e
        rw [show tear (enc S) (enc T) 0 = enc T by simp [tear], of_enc T hT] at h
        cases h
      · exact e
    · rcases Nat.lt_or_ge a 512 with e | e
      · exact e
      · have : a = 512 := by omega
        subst this
        rw [show tear (enc S) (enc T) 512 = enc S by rw [tear, List.take_of_length_le (by omega), List.drop_of_length_le (by omega), List.append_nil], of_enc S hS] at h
        cases h
  | some U =>
    obtain ⟨hU, e⟩ := (of_iff _ _).1 h
    right
    rcases Nat.lt_or_ge 504 a with h5 | h5
    · left
      rw [tear_behind hS hU rfl h5 ha e]
    · have e2 := tear_last lS hU h5 e
      rw [enc_last hT] at e2
      have hg := gen_eq hU hT e2
      rcases Nat.lt_or_ge a 8 with h8 | h8
      · right
        have e3 : enc U = enc T := by
          refine list_split 8 ?_ ?_
          · rw [enc_first hU, enc_first hT, hg]
          · rw [e, tear_drop lS (by omega) ha]
        have := of_enc U hU
        rw [e3, of_enc T hT] at this
        rw [Option.some.inj this]
      · exact absurd ((tear_first hS hU rfl h8 ha e).symm.trans hg) hne

theorem be_le {a b : Nat} (ha : a < 256 ^ 8) (hb : b < 256 ^ 8) (h : Op.bytesLess (be a 8) (be b 8) = false) : b ≤ a := by
  rw [be_less 8 a b ha hb] at h
  have := of_decide_eq_false h
  omega
/-- What stands at the place that is written. -/
theorem flip_valid {T N : Sup} {O : List UInt8} {a : Nat} (hT : right T = true) (hN : right N = true) (hg : N.g = T.g + 1) (hO : O.length = 512) (hle : Op.bytesLess (be T.g.toNat 8) (O.drop 504) = false) (ha : a ≤ 512) :
    (validP (tear (enc N) O a) ((T.g + 1) % 2) = none ∧ a < 512) ∨ (∃ U, validP (tear (enc N) O a) ((T.g + 1) % 2) = some U ∧ U.g < T.g ∧ a < 512) ∨ validP (tear (enc N) O a) ((T.g + 1) % 2) = some N := by
  have lN := (fits hN).enc
  have full : a = 512 → validP (tear (enc N) O a) ((T.g + 1) % 2) = some N := fun e => by
    subst e
    rw [show tear (enc N) O 512 = enc N by rw [tear, List.take_of_length_le (by omega), List.drop_of_length_le (by omega), List.append_nil], validP_of _ _ _ (of_enc N hN), if_pos (by rw [hg])]
  by_cases h512 : a = 512
  · exact .inr (.inr (full h512))
  have ha2 : a < 512 := by omega
  cases h : validP (tear (enc N) O a) ((T.g + 1) % 2) with
  | none => exact .inl ⟨rfl, ha2⟩
  | some U =>
    have ho : ofP (tear (enc N) O a) = some U ∧ U.g % 2 = (T.g + 1) % 2 := by
      unfold validP at h
      cases h2 : ofP (tear (enc N) O a) with
      | none => rw [h2] at h; cases h
      | some V =>
        rw [h2] at h
        simp only [Option.bind_some] at h
        split at h
        · cases h
          rename_i hp
          exact ⟨rfl, hp⟩
        · cases h
    obtain ⟨hU, e⟩ := (of_iff _ _).1 ho.1
    right
    rcases Nat.lt_or_ge 504 a with h5 | h5
    · right
      rw [tear_behind hN hU rfl h5 ha e]
    · have e2 := tear_last lN hU h5 e
      rw [← e2] at hle
      have hle2 := be_le (gen_lt hT) (gen_lt hU) hle
      have t0 := (fits hT).g0
      have u0 := (fits hU).g0
      have hpar := ho.2
      rcases Nat.lt_or_ge a 8 with h8 | h8
      · exact .inl ⟨U, rfl, by omega, ha2⟩
      · have := tear_first hN hU rfl h8 ha e
        omega
theorem flips {T N : Sup} {O : List UInt8} {a : Nat} (hT : right T = true) (hN : right N = true) (hg : N.g = T.g + 1) (hO : O.length = 512) (hle : Op.bytesLess (be T.g.toNat 8) (O.drop 504) = false) (ha : a ≤ 512) :
    ∃ R, (if T.g % 2 = 0 then chooseP (enc T) (tear (enc N) O a) else chooseP (tear (enc N) O a) (enc T)) = some R ∧ (R = T ∨ R = N) ∧ (a = 512 → R = N) := by
  have t0 := (fits hT).g0
  have hv := flip_valid hT hN hg hO hle ha
  have hTv : validP (enc T) (T.g % 2) = some T := by rw [validP_of _ _ _ (of_enc T hT), if_pos rfl]
  have par : T.g % 2 = 0 ∨ T.g % 2 = 1 := by omega
  rcases par with hp | hp
  · have hq : (T.g + 1) % 2 = 1 := by omega
    rw [hq] at hv
    rw [hp] at hTv
    rw [if_pos hp, chooseP, hTv]
    rcases hv with ⟨h, hlt⟩ | ⟨U, h, hlt, hl2⟩ | h
    · rw [h, if_neg (by simp [nilU]; omega)]
      exact ⟨T, rfl, .inl rfl, fun e => by omega⟩
    · rw [h, if_neg (by simp only [Option.getD_some]; omega)]
      exact ⟨T, rfl, .inl rfl, fun e => by omega⟩
    · rw [h, if_pos (by simp only [Option.getD_some]; omega)]
      exact ⟨N, rfl, .inr rfl, fun _ => rfl⟩
  · have hq : (T.g + 1) % 2 = 0 := by omega
    rw [hq] at hv
    rw [hp] at hTv
    rw [if_neg (by omega), chooseP, hTv]
    rcases hv with ⟨h, hlt⟩ | ⟨U, h, hlt, hl2⟩ | h
    · rw [h, if_pos (by simp [nilU]; omega)]
      exact ⟨T, rfl, .inl rfl, fun e => by omega⟩
    · rw [h, if_pos (by simp only [Option.getD_some]; omega)]
      exact ⟨T, rfl, .inl rfl, fun e => by omega⟩
    · rw [h, if_neg (by simp only [Option.getD_some]; omega)]
      exact ⟨N, rfl, .inr rfl, fun _ => rfl⟩
end Go.Proofs.Ytnpohjbhfoebcaa
