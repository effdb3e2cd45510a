/- NodeOrder, walked. -/
import Derived.Test.YtggbnacpgkbieaaNodV
import Derived.Test.YtggbnacpgkbieaaNodX
import Derived.Deep.RegionHeld3
namespace Go.Proofs.Ytggbnacpgkbieaa
set_option linter.unusedVariables false
open Go.RowKit

/-- Elements in a row of their own, in whose midst one may be stored. -/
structure RowAt (y : World) (g off n : Nat) (l : List El) : Prop where
  len : l.length = n
  ok : ∀ i (hi : i < l.length), (l[i]).Ok
  el : ∀ i (hi : i < l.length), y.rangeAt g (off + i * 25) (ec l[i])
  th : y.there g off (n * 25)
  lt : g < y.heap.size
theorem RowAt.same {y z : World} {g off n : Nat} {l : List El} (h : RowAt y g off n l) (e : z.heap[g]? = y.heap[g]?) (hs : y.heap.size ≤ z.heap.size) : RowAt z g off n l :=
  ⟨h.len, h.ok, fun i hi => range_same (h.el i hi) e, there_same h.th e, by have := h.lt; omega⟩
theorem RowAt.set {y : World} {g off n : Nat} {l : List El} (h : RowAt y g off n l) (k : Nat) (hk : k < n) (e : El) (he : e.Ok) : RowAt (y.setCells g (off + k * 25) (ec e)) g off n (l.set k e) := by
  have hl := h.len
  have le := ec_length he
  refine ⟨by simp [hl], fun i hi => ?_, fun i hi => ?_, World.there_setCells h.th _ _ _, by rw [size_setCells]; exact h.lt⟩
  · rw [List.getElem_set]
    split
    · exact he
    · exact h.ok i (by simpa using hi)
  · rw [List.getElem_set]
    split
    · rename_i hki
      subst hki
      refine World.rangeAt_setCells_same _ _ _ _ (fun j hj => ?_)
      have := h.th (k * 25 + j) (by rw [le] at hj; have : (k + 1) * 25 ≤ n * 25 := Nat.mul_le_mul_right 25 (by omega); omega)
      rw [Nat.add_assoc]
      exact this
    · have hi' : i < l.length := by simpa using hi
      have l2 := ec_length (h.ok i hi')
      refine World.rangeAt_setCells_apart (h.el i hi') _ _ _ (.inr ?_)
      rcases Nat.lt_or_gt_of_ne ‹_› with q | q
      · right
        have : (k + 1) * 25 ≤ i * 25 := Nat.mul_le_mul_right 25 (by omega)
        omega
      · left
        have : (i + 1) * 25 ≤ k * 25 := Nat.mul_le_mul_right 25 (by omega)
        omega
theorem RowAt.els {y : World} {g off n c : Nat} {l : List El} (h : RowAt y g off n l) (hc : n ≤ c) (hm : n ≤ maxLen) : Els y (.slice (some ⟨g, off, none⟩) n c) l := by
  have := h.len
  exact ⟨some g, ⟨some ⟨g, off, none⟩, c, by rw [this], by omega, by omega, h.ok, .inr ⟨g, off, rfl, rfl, h.lt, h.el⟩⟩, fun k hk => by cases hk; exact h.lt⟩
theorem less_all : ∀ (x y : List UInt8), (Op.bytesLess x y || x == y) = (!Op.bytesLess y x)
  | [], [] => rfl
  | [], _ :: _ => rfl
  | _ :: _, [] => rfl
  | a :: x, b :: y => by
    have ih := less_all x y
    rw [Op.bytesLess, Op.bytesLess, List.cons_beq_cons]
    by_cases h1 : a = b
    · subst h1
      have h2 : ¬ a < a := UInt8.lt_irrefl a
      simp only [decide_eq_false h2, Bool.false_or, beq_self_eq_true, Bool.true_and]
      exact ih
    · have e1 : (a == b) = false := by simpa using h1
      have e2 : (b == a) = false := by simpa using fun e : b = a => h1 e.symm
      rw [e1, e2]
      have h3 : a.toNat ≠ b.toNat := fun e => h1 (UInt8.toNat_inj.1 e)
      simp only [Bool.false_and, Bool.or_false, UInt8.lt_iff_toNat_lt]
      by_cases h4 : a.toNat < b.toNat
      · rw [decide_eq_true h4, decide_eq_false (by omega)]; rfl
      · rw [decide_eq_false h4, decide_eq_true (by omega)]; rfl
theorem RowAt.setv {y : World} {g off n : Nat} {l : List El} (h : RowAt y g off n l) (k : Nat) (hk : k < l.length) (v : Value) (hv : v.oneCell' = true) : RowAt (y.setCell ⟨g, off + k * 25 + 24, none⟩ v) g off n (l.set k ⟨(l[k]).k, v⟩) := by
  have hl := h.len
  have okk := h.ok k hk
  have okn : (⟨(l[k]).k, v⟩ : El).Ok := ⟨okk.len, hv⟩
  have T := touch_set y g (off + k * 25 + 24) v
  have hth := h.th (k * 25 + 24) (by have : (k + 1) * 25 ≤ n * 25 := Nat.mul_le_mul_right 25 (by omega); omega)
  rw [← Nat.add_assoc] at hth
  have out : ∀ o, o ≠ off + k * 25 + 24 → (y.setCell ⟨g, off + k * 25 + 24, none⟩ v).cell? ⟨g, o, none⟩ = y.cell? ⟨g, o, none⟩ := fun o ho => by
    have := World.cell?_setCells_out g [v] (off + k * 25 + 24) y ⟨g, o, none⟩ (fun _ _ => by simp; omega)
    simpa [World.setCells] using this
  have inn : (y.setCell ⟨g, off + k * 25 + 24, none⟩ v).cell? ⟨g, off + k * 25 + 24, none⟩ = some v := by
    have ht : y.there g (off + k * 25 + 24) [v].length := fun j hj => by
      have e : j = 0 := by simpa using hj
      subst e
      simpa using hth
    have := World.rangeAt_setCells_same y g (off + k * 25 + 24) [v] ht 0 v rfl
    simpa [World.setCells] using this
  have th2 : (y.setCell ⟨g, off + k * 25 + 24, none⟩ v).there g off (n * 25) := by
    have := World.there_setCells h.th g (off + k * 25 + 24) [v]
    simpa [World.setCells] using this
  refine ⟨by simp [hl], fun i hi => ?_, fun i hi => ?_, th2, by have := T.size; have := h.lt; omega⟩
  · rw [List.getElem_set]
    split
    · exact okn
    · exact h.ok i (by simpa using hi)
  · rw [List.getElem_set]
    split
    · rename_i hki
      subst hki
      intro j u hu
      have hj : j < 25 := by have := (List.getElem?_eq_some_iff.1 hu).1; rw [ec_length okn] at this; exact this
      by_cases h24 : j = 24
      · subst h24
        have e : u = v := by
          rw [ec, List.getElem?_append_right (by simp [bc_length, okk.len])] at hu
          simp [bc_length, okk.len] at hu
          exact hu.symm
        rw [e]
        exact inn
      · rw [out _ (by omega)]
        refine h.el k hk j u ?_
        rw [ec, List.getElem?_append_left (by simp [bc_length, okk.len]; omega)] at hu ⊢
        exact hu
    · have hi' : i < l.length := by simpa using hi
      have l2 := ec_length (h.ok i hi')
      intro j u hu
      have hj : j < 25 := by have := (List.getElem?_eq_some_iff.1 hu).1; omega
      rw [out _ (by
        rcases Nat.lt_or_gt_of_ne ‹_› with q | q
        · have : (k + 1) * 25 ≤ i * 25 := Nat.mul_le_mul_right 25 (by omega)
          omega
        · have : (i + 1) * 25 ≤ k * 25 := Nat.mul_le_mul_right 25 (by omega)
          omega)]
      exact h.el i hi' j u hu

theorem RowAt.at_ {y : World} {g off n : Nat} {l : List El} (h : RowAt y g off n l) (k : Nat) (hk : k < n) {e : El} (he : e.Ok) : y.there g (off + k * 25) (ec e).toArray.size := fun j hj => by
  rw [ec_size he] at hj
  have := h.th (k * 25 + j) (by have : (k + 1) * 25 ≤ n * 25 := Nat.mul_le_mul_right 25 (by omega); omega)
  rw [Nat.add_assoc]
  exact this
theorem HasN.re {w : World} {b : Nat} {x : Nod} {pv qv : Value} (h : HasN w b x pv qv) (x' : Nod) (hl : x'.lv = x.lv) : HasN w b x' pv qv := ⟨by rw [nc, hl]; exact h.1, h.2⟩
theorem els_empty {w y : World} {sv : Value} {l : List El} {B : Nat} (h : ElsN w sv l B) (hl : l = []) : Els y sv [] := by
  subst hl
  obtain ⟨⟨r, ⟨ad, cap, rfl, h1, h2, _, _⟩, _⟩, _⟩ := h
  exact ⟨none, ⟨ad, cap, rfl, h1, h2, (fun i hi => by cases hi), .inl rfl⟩, fun k hk => by cases hk⟩
/-! What is not right any more. -/
theorem less_irrefl (a : List UInt8) : Op.bytesLess a a = false := by
  have := less_all a a
  cases h : Op.bytesLess a a with
  | false => rfl
  | true => rw [h] at this; simp at this
theorem less_asym {a b : List UInt8} (h : Op.bytesLess a b = true) : Op.bytesLess b a = false := by
  have := less_all b a
  rw [h] at this
  cases h2 : Op.bytesLess b a with
  | false => rfl
  | true => rw [h2] at this; simp at this
theorem rises_at : ∀ (l : List (List UInt8)) (k : Nat) (h : k + 1 < l.length), rises l = true → Op.bytesLess (l[k]'(by omega)) l[k + 1] = true
  | [], k, h, _ => by simp at h
  | [a], k, h, _ => by simp at h
  | a :: b :: l, 0, h, hr => by
    simp only [rises, Bool.and_eq_true] at hr
    exact hr.1
  | a :: b :: l, k + 1, h, hr => by
    simp only [rises, Bool.and_eq_true] at hr
    exact rises_at (b :: l) k (by simpa using h) hr.2
theorem rises_no (l : List (List UInt8)) (k : Nat) (h : k + 1 < l.length) (hn : Op.bytesLess (l[k]'(by omega)) l[k + 1] = false) : rises l = false := by
  cases hr : rises l with
  | false => rfl
  | true => rw [rises_at l k h hr] at hn; cases hn
theorem right_pairs {lv : Int} {ps : List Pr} {ks : List Kd} (h : rises (ps.map Pr.k) = false) (z : lv = 0) : rightN ⟨lv, ps, ks⟩ = false := by
  rw [rightN]
  simp only [okPairs, h, Bool.and_false]
  split <;> simp_all
theorem right_kids {lv : Int} {ps : List Pr} {ks : List Kd} (h : rises (ks.map Kd.k) = false ∨ apart ks = false) (z : ¬ lv = 0) : rightN ⟨lv, ps, ks⟩ = false := by
  rw [rightN]
  rcases h with h | h <;> simp [okKids, h, z]
theorem rises_of_right {x : Nod} (h : rightN x = true) : (x.lv = 0 → rises (x.ps.map Pr.k) = true) ∧ (¬ x.lv = 0 → rises (x.ks.map Kd.k) = true) := by
  rw [rightN] at h
  split at h
  · cases h
  · split at h
    · rename_i z
      simp only [okPairs, Bool.and_eq_true] at h
      exact ⟨fun _ => h.2.2, fun q => absurd z q⟩
    · rename_i z
      simp only [okKids, Bool.and_eq_true] at h
      exact ⟨fun q => absurd q z, fun _ => h.2.1.2⟩
/-- Neighbours changed about; one twice. -/
theorem swap_no (l : List (List UInt8)) (k : Nat) (h : k + 1 < l.length) (hr : rises l = true) : rises ((l.set k l[k + 1]).set (k + 1) (l[k]'(by omega))) = false := by
  refine rises_no _ k (by simpa using h) ?_
  have := less_asym (rises_at l k h hr)
  simpa [List.getElem_set] using this
theorem twice_no (l : List (List UInt8)) (k : Nat) (h : k + 1 < l.length) : rises (l.set (k + 1) (l[k]'(by omega))) = false := by
  refine rises_no _ k (by simpa using h) ?_
  have := less_irrefl (l[k]'(by omega))
  simpa [List.getElem_set] using this
theorem apart_twice (l : List Kd) (k : Nat) (h : k + 1 < l.length) : apart (l.set (k + 1) ⟨(l[k + 1]).k, (l[k]'(by omega)).n⟩) = false := by
  refine apart_no _ (k + 1) (by simpa using h) (apartAt_no _ (k + 1) k (by omega) (by simpa using h) ?_)
  rw [nAt_eq _ _ (by simp; omega), nAt_eq _ _ (by simpa using h)]
  simp
end Go.Proofs.Ytggbnacpgkbieaa
