/- Keys and spans that came in. -/
import Derived.Test.YtbdolhmeknlnpaaKeyC
import Derived.Test.YtbdolhmeknlnpaaRowKit
namespace Go.Proofs.Ytbdolhmeknlnpaa
set_option linter.unusedVariables false
open Go.ChangeShapes Go.WideShapes Go.ChangeAt Go.RowKit

theorem cell_u8 {W : World} {base : Nat} {v : Value} (h : Cell.okWide Try.prog W .any base 5 v) : ∃ b : UInt8, v = .int .u8 (b.toNat : Int) := by
  unfold Cell.okWide at h
  rw [Try.underlying5] at h
  cases v <;> simp only [Cell.ok, Try.underlying5] at h
  rename_i k n
  obtain ⟨rfl, h⟩ := h
  have h1 : 0 ≤ n ∧ n ≤ 255 := by simpa [IntKind.has, IntKind.min, IntKind.max, IntKind.signed, IntKind.bits] using h
  refine ⟨UInt8.ofNat n.toNat, ?_⟩
  rw [UInt8.toNat_ofNat']
  congr 1
  omega
theorem cell_bool {W : World} {base : Nat} {v : Value} (h : Cell.okWide Try.prog W .any base 4 v) : ∃ b : Bool, v = .bool b := by
  unfold Cell.okWide at h
  rw [Try.underlying4] at h
  cases v <;> simp only [Cell.ok, Try.underlying4] at h
  exact ⟨_, rfl⟩
theorem bytes_of (l : List Value) (h : ∀ v ∈ l, ∃ b : UInt8, v = .int .u8 (b.toNat : Int)) : ∃ K : List UInt8, l = bc K := by
  induction l with
  | nil => exact ⟨[], rfl⟩
  | cons v l ih =>
    obtain ⟨b, rfl⟩ := h v (by simp)
    obtain ⟨K, rfl⟩ := ih fun x hx => h x (by simp [hx])
    exact ⟨b :: K, rfl⟩

theorem open_key {W : World} {base : Nat} {v : Value} (h : Value.okWide Try.prog W .any base 30 v) : ∃ K : List UInt8, K.length = 24 ∧ v = kv K := by
  unfold Value.okWide at h
  rw [Try.underlying30] at h
  obtain ⟨cs, rfl, hsz, ts, hts, _, hc⟩ := h
  have h1 : Try.prog.cellTypes Try.prog.depth 30 = some (List.replicate 24 5) := by kernel_rfl
  have h2 : Try.prog.cellsOf 30 = 24 := by kernel_rfl
  rw [h1] at hts
  cases hts
  rw [h2] at hsz
  obtain ⟨K, hK⟩ := bytes_of cs.toList (fun v hv => by
    obtain ⟨i, hi, rfl⟩ := List.mem_iff_getElem.1 hv
    obtain ⟨u, hu, hk⟩ := hc i cs.toList[i] (by simp)
    rw [List.length_replicate, List.getElem?_replicate] at hu
    split at hu
    · cases hu
      exact cell_u8 hk
    · cases hu)
  refine ⟨K, ?_, ?_⟩
  · have := congrArg List.length hK
    rw [bc_length] at this
    simp at this
    omega
  · show Value.agg cs = Value.agg (bc K).toArray
    rw [← hK]
theorem open_span {W : World} {base : Nat} {v : Value} (h : Value.okWide Try.prog W .any base 35 v) : ∃ (F T : List UInt8) (e : Bool), F.length = 24 ∧ T.length = 24 ∧ v = sv F T e := by
  unfold Value.okWide at h
  rw [Try.underlying35] at h
  obtain ⟨cs, rfl, hsz, ts, hts, _, hc⟩ := h
  have h1 : Try.prog.cellTypes Try.prog.depth 35 = some (List.replicate 48 5 ++ [4]) := by kernel_rfl
  have h2 : Try.prog.cellsOf 35 = 49 := by kernel_rfl
  rw [h1] at hts
  cases hts
  rw [h2] at hsz
  have hl : cs.toList.length = 49 := by simpa using hsz
  have hlen : (List.replicate 48 5 ++ [4] : List TypeId).length = 49 := rfl
  have hat : ∀ i (hi : i < 48), ∃ b : UInt8, cs.toList[i]'(by omega) = .int .u8 (b.toNat : Int) := fun i hi => by
    obtain ⟨u, hu, hk⟩ := hc i (cs.toList[i]'(by omega)) (by simp)
    rw [hlen, Nat.mod_eq_of_lt (by omega), List.getElem?_append_left (by simpa using hi), List.getElem?_replicate, if_pos hi] at hu
    cases hu
    exact cell_u8 hk
  obtain ⟨e, he⟩ : ∃ b : Bool, cs.toList[48]'(by omega) = .bool b := by
    obtain ⟨u, hu, hk⟩ := hc 48 (cs.toList[48]'(by omega)) (by simp)
    rw [hlen] at hu
    have : (List.replicate 48 5 ++ [4] : List TypeId)[48 % 49]? = some 4 := rfl
    rw [this] at hu
    cases hu
    exact cell_bool hk
  obtain ⟨F, hF⟩ := bytes_of (cs.toList.take 24) (fun v hv => by
    obtain ⟨i, hi, rfl⟩ := List.mem_iff_getElem.1 hv
    rw [List.length_take] at hi
    rw [List.getElem_take]
    exact hat i (by omega))
  obtain ⟨T, hT⟩ := bytes_of ((cs.toList.drop 24).take 24) (fun v hv => by
    obtain ⟨i, hi, rfl⟩ := List.mem_iff_getElem.1 hv
    rw [List.length_take, List.length_drop] at hi
    rw [List.getElem_take, List.getElem_drop]
    exact hat (24 + i) (by omega))
  have e3 : cs.toList.drop 48 = [.bool e] := by
    rw [List.drop_eq_getElem_cons (by omega), he, List.drop_of_length_le (by omega)]
  have e4 : cs.toList = bc F ++ bc T ++ [.bool e] := by
    rw [← hF, ← hT, ← e3, List.append_assoc]
    have : cs.toList.drop 48 = (cs.toList.drop 24).drop 24 := by rw [List.drop_drop]
    rw [this, List.take_append_drop, List.take_append_drop]
  refine ⟨F, T, e, ?_, ?_, ?_⟩
  · have := congrArg List.length hF
    rw [bc_length, List.length_take] at this
    omega
  · have := congrArg List.length hT
    rw [bc_length, List.length_take, List.length_drop] at this
    omega
  · show Value.agg cs = Value.agg (sc F T e).toArray
    rw [sc, ← e4]
end Go.Proofs.Ytbdolhmeknlnpaa
