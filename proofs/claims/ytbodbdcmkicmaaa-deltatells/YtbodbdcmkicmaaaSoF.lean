/- A row of elements of k cells as the library's sort holds it. -/
import Derived.Test.YtbodbdcmkicmaaaSl2
import Derived.Shelf.SlSortCmp.NoneTotal
namespace Go.Proofs.Ytbodbdcmkicmaaa
set_option linter.unusedVariables false
open Go.RowKit Go.Sort

theorem Own.frozenAt' {α : Type} {k : Nat} {E : Enc α k} {ty : TypeId} {w : World} {base g n cap : Nat} {l : List α} (h : Own E ty w base (.slice (some ⟨g, 0, none⟩) n cap) l) (j : Nat) : w.frozen? ⟨g, j, none⟩ = false := by
  rcases h.2 with ⟨h', _⟩ | ⟨g', cap', cur, h', _, hg, _⟩
  · cases h'
  · cases h'
    simp [World.frozen?, hg]
section
variable {α : Type} [Inhabited α] {k : Nat} (E : Enc α k)
theorem flatK_eq (d : Array α) : flatK E.c k d = (E.flat d.toList).toArray := by
  refine ext_get! (by simp [E.flat_length]) fun t ht => ?_
  have ht' : t < d.size * k := by simpa using ht
  have k0 : 0 < k := by
    rcases Nat.eq_zero_or_pos k with h | h
    · subst h; simp at ht'
    · exact h
  have hd : t / k < d.toList.length := by
    rw [Array.length_toList]
    exact Nat.div_lt_of_lt_mul (by rwa [Nat.mul_comm] at ht')
  have hm : t % k < (E.c d.toList[t / k]).length := by rw [E.len]; exact Nat.mod_lt _ k0
  have h1 := E.flat_get d.toList (t / k) (t % k) hd _ (List.getElem?_eq_getElem hm)
  rw [show t / k * k + t % k = t by rw [Nat.mul_comm]; exact Nat.div_add_mod t k] at h1
  rw [get_flatK _ _ _ t ht']
  have h2 : d[t / k]! = d.toList[t / k] := by
    have : t / k < d.size := by simpa using hd
    rw [getElem!_pos d _ this]; rfl
  rw [h2]
  have h3 : (E.c d.toList[t / k])[t % k]! = (E.c d.toList[t / k])[t % k] := getElem!_pos (E.c d.toList[t / k]) (t % k) hm
  rw [h3]
  have h4 := List.getElem?_eq_some_iff.1 h1
  obtain ⟨h5, h6⟩ := h4
  rw [getElem!_pos (E.flat d.toList).toArray t (by simpa using h5)]
  simpa using h6.symm
theorem holds_own {ty : TypeId} {w : World} {base g cap : Nat} {l : List α} (h : Own E ty w base (.slice (some ⟨g, 0, none⟩) l.length cap) l) : HoldsK E.c k w g 0 l.toArray := by
  intro j hj
  rw [flatK_eq] at hj ⊢
  have hj' : j < (E.flat l).length := by simpa using hj
  have h1 := h.cells (g := g) rfl j _ (List.getElem?_eq_getElem hj')
  rw [Addr.add_mid] at h1
  refine ⟨?_, by simpa using h.frozenAt' (0 + j)⟩
  rw [h1, getElem!_pos (E.flat l).toArray j (by simpa using hj')]
  simp
theorem take_put (cur : Array Value) (F : List Value) (h : F.length ≤ cur.size) : (putCells id 0 F.toArray cur).toList.take F.length = F := by
  apply List.ext_getElem?
  intro j
  by_cases hj : j < F.length
  · rw [List.getElem?_take_of_lt hj, Array.getElem?_toList]
    simp [putCells, hj, show j < cur.size by omega]
  · rw [List.getElem?_take_eq_none (by omega), List.getElem?_eq_none (by omega)]
theorem own_sorted {ty : TypeId} {w : World} {base g cap n : Nat} {l : List α} {os : Array Obj} (h : Own E ty w base (.slice (some ⟨g, 0, none⟩) l.length cap) l) (d : Array α) (hd : d.size = l.length) :
    Own E ty (sortWorldK E.c k w g 0 n d os) base (.slice (some ⟨g, 0, none⟩) l.length cap) d.toList ∧ w.grownBy (sortWorldK E.c k w g 0 n d os) (some g) := by
  rcases h.2 with ⟨h0, _⟩ | ⟨g', cap', cur, hv, h2, h3, h4, h5, h6, h7⟩
  · cases h0
  · cases hv
    have hg : g < w.heap.size := lt_of_block h3
    have hlen : (E.flat d.toList).length = l.length * k := by rw [E.flat_length, Array.length_toList, hd]
    have hb : (sortWorldK E.c k w g 0 n d os).heap[g]? = some (.cells (putCells id 0 (E.flat d.toList).toArray cur) ty (0, 0)) := by
      unfold sortWorldK putRowK
      rw [flatK_eq, heap_grow_old _ _ (by simpa using hg)]
      simp [putRow, mapBlock, Array.getElem?_modify, h3, onCells]
    refine ⟨⟨by rw [E.flat_length], .inr ⟨g, cap, _, by rw [show d.toList.length = l.length by simpa using hd], h2, hb, by rw [Array.length_toList, hd]; exact h4, h5, by simp [putCells, h6], ?_⟩⟩, ?_⟩
    · rw [Array.length_toList, hd, ← hlen]
      refine take_put cur _ ?_
      rw [hlen, h6]
      exact Nat.mul_le_mul_right k h4
    · unfold sortWorldK putRowK
      refine ⟨rfl, rfl, rfl, by simp, fun j hj hne => ?_⟩
      rw [heap_grow_old _ _ (by simpa using hj)]
      have : g ≠ j := fun e => hne (by rw [e])
      simp [putRow, mapBlock, Array.getElem?_modify, this]
end
end Go.Proofs.Ytbodbdcmkicmaaa
