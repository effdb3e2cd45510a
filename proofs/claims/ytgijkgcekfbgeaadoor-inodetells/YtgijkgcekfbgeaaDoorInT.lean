/- Chunks: noughts at the end, taken away and put again (mathematics). -/
import Derived.Test.YtgijkgcekfbgeaaDoorInS
namespace Go.Proofs.YtgijkgcekfbgeaaDoor
set_option linter.unusedVariables false
open Go.RowKit

/-- Where the noughts at the end begin. -/
theorem trim_spec : ∀ (n : Nat) (L : List UInt8), L.length = n → ∃ k, k ≤ L.length ∧ Lib.trimRightB L 0 = L.take k ∧ (∀ (j : Nat) b, k ≤ j → L[j]? = some b → b = 0) ∧ (∀ b, 0 < k → L[k - 1]? = some b → b ≠ 0)
  | 0, L, h => by
    have e : L = [] := List.eq_nil_of_length_eq_zero h
    subst e
    exact ⟨0, Nat.le_refl _, rfl, fun j b _ hb => by simp at hb, fun b h _ => absurd h (by omega)⟩
  | n + 1, L, h => by
    rcases List.eq_nil_or_concat L with e | ⟨L', b, e⟩
    · subst e; simp at h
    · subst e
      rw [List.concat_eq_append] at h ⊢
      by_cases hb : b = 0
      · subst hb
        obtain ⟨k, h1, h2, h3, h4⟩ := trim_spec n L' (by simpa using h)
        have e : Lib.trimRightB (L' ++ [0]) 0 = Lib.trimRightB L' 0 := by simp [Lib.trimRightB]
        refine ⟨k, by simp; omega, by rw [e, h2, List.take_append_of_le_length h1], fun j b hj hb => ?_, fun b hk hb => ?_⟩
        · by_cases hl : j < L'.length
          · rw [List.getElem?_append_left hl] at hb
            exact h3 j b hj hb
          · rw [List.getElem?_append_right (by omega)] at hb
            have : j - L'.length = 0 := by
              have := List.getElem?_eq_some_iff.1 hb
              obtain ⟨h', _⟩ := this
              simp at h'
              omega
            rw [this] at hb
            simpa using hb.symm
        · rw [List.getElem?_append_left (by omega)] at hb
          exact h4 b hk hb
      · refine ⟨(L' ++ [b]).length, Nat.le_refl _, ?_, fun j c hj hc => ?_, fun c _ hc => ?_⟩
        · rw [List.take_length]
          simp [Lib.trimRightB, hb]
        · have := (List.getElem?_eq_some_iff.1 hc).1
          omega
        · have e : (L' ++ [b]).length - 1 = L'.length := by simp
          rw [e, List.getElem?_append_right (Nat.le_refl _), Nat.sub_self] at hc
          have : b = c := by simpa using hc
          rw [← this]
          exact hb
/-- What a trimmed chunk is, and what it is filled up to. -/
structure Chunk (S T F : List UInt8) : Prop where
  le : T.length ≤ S.length
  lt : S.length ≤ 32
  tk : S.take T.length = T
  fl : F.length = 32
  ft : F.take T.length = T
  f0 : ∀ j, T.length ≤ j → j < 32 → F[j]? = some 0
  s0 : ∀ j, T.length ≤ j → j < S.length → S[j]? = some 0
  l0 : ∀ b, 0 < T.length → T[T.length - 1]? = some b → b ≠ 0
  tt : trimmed T = T
  tf : trimmed F = T
  fs : fullP S = F
theorem chunk_is (S : List UInt8) (hS : S.length ≤ 32) : Chunk S (trimmed S) (fullP (trimmed S)) := by
  obtain ⟨k, h1, h2, h3, h4⟩ := trim_spec S.length S rfl
  have e : trimmed S = S.take k := by rw [trimmed, List.take_of_length_le hS, h2]
  have el : (S.take k).length = k := by rw [List.length_take]; omega
  have ef : fullP (S.take k) = S.take k ++ List.replicate (32 - k) 0 := by
    rw [fullP, List.take_of_length_le (i := 32) (by omega), el]
  have hl : ∀ b, 0 < (S.take k).length → (S.take k)[(S.take k).length - 1]? = some b → b ≠ 0 := fun b hk hb => by
    rw [el] at hk hb
    rw [List.getElem?_take_of_lt (by omega)] at hb
    exact h4 b hk hb
  have hd : S.drop k = List.replicate (S.length - k) 0 := by
    rw [List.eq_replicate_iff]
    refine ⟨by simp, fun b hb => ?_⟩
    obtain ⟨i, hi, e'⟩ := List.mem_iff_getElem.1 hb
    refine h3 (k + i) b (by omega) ?_
    rw [← List.getElem?_drop, ← e']
    exact List.getElem?_eq_getElem hi
  rw [e, ef]
  refine ⟨by omega, hS, by rw [el], by simp; omega, ?_, fun j hj hj2 => ?_, fun j hj hj2 => ?_, hl, ?_, ?_, ?_⟩
  · rw [List.take_append_of_le_length (Nat.le_refl _), List.take_length]
  · rw [List.getElem?_append_right hj, List.getElem?_replicate, if_pos (by rw [el]; omega)]
  · rw [el] at hj
    rw [List.getElem?_eq_getElem hj2]
    exact congrArg some (h3 j _ hj (List.getElem?_eq_getElem hj2))
  · rw [trimmed, List.take_of_length_le (by omega), Lib.trimRightB_take (S.take k) 0 (S.take k).length (Nat.le_refl _) (fun j b hj hb => by have := (List.getElem?_eq_some_iff.1 hb).1; omega) hl, List.take_length]
  · rw [trimmed, List.take_of_length_le (by simp; omega), Lib.trimRightB_take _ 0 k (by simp; omega) (fun j b hj hb => ?_) (fun b hk hb => ?_)]
    · rw [List.take_append_of_le_length (by omega), List.take_of_length_le (by omega)]
    · rw [List.getElem?_append_right (by omega), List.getElem?_replicate] at hb
      split at hb
      · exact (Option.some.inj hb).symm
      · cases hb
    · rw [List.getElem?_append_left (by omega), List.getElem?_take_of_lt (by omega)] at hb
      exact h4 b hk hb
  · rw [fullP, List.take_of_length_le hS]
    conv => lhs; rw [← List.take_append_drop k S]
    rw [hd, List.append_assoc, List.replicate_append_replicate]
    congr 2
    rw [List.length_append, el, List.length_replicate]
    omega
end Go.Proofs.YtgijkgcekfbgeaaDoor
