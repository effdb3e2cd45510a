import Derived.Test.YtdmindhjmjnagaaGreatDoorB24
/- The edges are sorted. -/
namespace Go.Proofs.YtdmindhjmjnagaaGreatDoor
set_option linter.unusedVariables false
set_option maxRecDepth 100000
open Go.RowKit Go.Sort

section
variable {α : Type} [Inhabited α] {k : Nat} (E : Enc α k)
theorem flatK_eq (d : Array α) : flatK E.c k d = (E.flat d.toList).toArray := by
  refine ext_get! (by simp [E.flat_length]) fun t ht => ?_
  have ht' : t < d.size * k := by simpa using ht
  have k0 : 0 < k := by
    rcases Nat.eq_zero_or_pos k with h | h
    · subst h; simp at ht'
    · exact h
  have hd : t / k < d.toList.length := by
    rw [Array.length_toList]
    exact Nat.div_lt_of_lt_mul (by rwa [Nat.mul_comm] at ht')
  have hm : t % k < (E.c d.toList[t / k]).length := by rw [E.len]; exact Nat.mod_lt _ k0
  have h1 := E.flat_get d.toList (t / k) (t % k) hd _ (List.getElem?_eq_getElem hm)
  rw [show t / k * k + t % k = t by rw [Nat.mul_comm]; exact Nat.div_add_mod t k] at h1
  rw [get_flatK _ _ _ t ht']
  have h2 : d[t / k]! = d.toList[t / k] := by
    have : t / k < d.size := by simpa using hd
    rw [getElem!_pos d _ this]; rfl
  rw [h2]
  have h3 : (E.c d.toList[t / k])[t % k]! = (E.c d.toList[t / k])[t % k] := getElem!_pos (E.c d.toList[t / k]) (t % k) hm
  rw [h3]
  have h4 := List.getElem?_eq_some_iff.1 h1
  obtain ⟨h5, h6⟩ := h4
  rw [getElem!_pos (E.flat d.toList).toArray t (by simpa using h5)]
  simpa using h6.symm
theorem holds_own {ty : TypeId} {w : World} {base g cap : Nat} {l : List α} (h : Own E ty w base (.slice (some ⟨g, 0, none⟩) l.length cap) l) : HoldsK E.c k w g 0 l.toArray := by
  intro j hj
  rw [flatK_eq] at hj ⊢
  have hj' : j < (E.flat l).length := by simpa using hj
  have h1 := h.cells (g := g) rfl j _ (List.getElem?_eq_getElem hj')
  rw [Addr.add_mid] at h1
  refine ⟨?_, by simpa using h.frozenAt' (0 + j)⟩
  rw [h1, getElem!_pos (E.flat l).toArray j (by simpa using hj')]
  simp
theorem take_put (cur : Array Value) (F : List Value) (h : F.length ≤ cur.size) : (putCells id 0 F.toArray cur).toList.take F.length = F := by
  apply List.ext_getElem?
  intro j
  by_cases hj : j < F.length
  · rw [List.getElem?_take_of_lt hj, Array.getElem?_toList]
    simp [putCells, hj, show j < cur.size by omega]
  · rw [List.getElem?_take_eq_none (by omega), List.getElem?_eq_none (by omega)]
theorem own_sorted {ty : TypeId} {w : World} {base g cap n : Nat} {l : List α} {os : Array Obj} (h : Own E ty w base (.slice (some ⟨g, 0, none⟩) l.length cap) l) (d : Array α) (hd : d.size = l.length) :
    Own E ty (sortWorldK E.c k w g 0 n d os) base (.slice (some ⟨g, 0, none⟩) l.length cap) d.toList ∧ w.grownBy (sortWorldK E.c k w g 0 n d os) (some g) := by
  rcases h.2 with ⟨h0, _⟩ | ⟨g', cap', cur, hv, h2, h3, h4, h5, h6, h7⟩
  · cases h0
  · cases hv
    have hg : g < w.heap.size := lt_of_block h3
    have hlen : (E.flat d.toList).length = l.length * k := by rw [E.flat_length, Array.length_toList, hd]
    have hb : (sortWorldK E.c k w g 0 n d os).heap[g]? = some (.cells (putCells id 0 (E.flat d.toList).toArray cur) ty (0, 0)) := by
      unfold sortWorldK putRowK
      rw [flatK_eq, heap_grow_old _ _ (by simpa using hg)]
      simp [putRow, mapBlock, Array.getElem?_modify, h3, onCells]
    refine ⟨⟨by rw [E.flat_length], .inr ⟨g, cap, _, by rw [show d.toList.length = l.length by simpa using hd], h2, hb, by rw [Array.length_toList, hd]; exact h4, h5, by simp [putCells, h6], ?_⟩⟩, ?_⟩
    · rw [Array.length_toList, hd, ← hlen]
      refine take_put cur _ ?_
      rw [hlen, h6]
      exact Nat.mul_le_mul_right k h4
    · unfold sortWorldK putRowK
      refine ⟨rfl, rfl, rfl, by simp, fun j hj hne => ?_⟩
      rw [heap_grow_old _ _ (by simpa using hj)]
      have : g ≠ j := fun e => hne (by rw [e])
      simp [putRow, mapBlock, Array.getElem?_modify, this]
end
def cfE (x y : Ed) : Int := Lib.compareBytes x.k y.k
theorem ltE (x y : Ed) : ltOf cfE x y = decide (num x.k < num y.k) := by
  unfold ltOf cfE
  rw [← less_num x.k y.k (by rw [x.hk, y.hk]), ← compare_less]
theorem swoE : SWO (ltOf cfE) where
  irrefl x := by rw [ltE]; simp
  trans x y z h1 h2 := by rw [ltE] at *; simp at *; omega
  ntrans x y z h1 h2 := by rw [ltE] at *; simp at *; omega
theorem perm_of {d d' : Array Ed} (h : PermIn 0 d.size d d') : d'.toList.Perm d.toList := by
  obtain ⟨h1, _, h3⟩ := h
  have e1 : (d'.extract 0 d.size).toList = d'.toList := by rw [← h1]; simp
  have e2 : (d.extract 0 d.size).toList = d.toList := by simp
  rwa [e1, e2] at h3
theorem sorted_of {d : Array Ed} (h : SortedIn (ltOf cfE) 0 d.size d) : d.toList.Pairwise (fun e f => num e.k ≤ num f.k) := by
  rw [List.pairwise_iff_getElem]
  intro i j hi hj hij
  have h1 := h i j (Nat.zero_le _) hij (by simpa using hj)
  have e1 : d[i]! = d.toList[i] := by rw [getElem!_pos d i (by simpa using hi)]; rfl
  have e2 : d[j]! = d.toList[j] := by rw [getElem!_pos d j (by simpa using hj)]; rfl
  rw [e1, e2, ltE] at h1
  simp at h1
  simpa using h1
theorem sort_calls (w : World) (p : Nat) (v : Value) (es : List Ed) (h : EV w p v es) (hl : es.length ≤ 1000000) :
    Calls Tryz.prog 133 #[v, .func (.func 134) #[] #[]] w fun e w' => e = .returned (.tuple #[]) ∧ ∃ es', es'.Perm es ∧ es'.Pairwise (fun e f => num e.k ≤ num f.k) ∧ EV w' p v es' ∧ w.grownBy w' v.ownBlock := by
  have eg : ∀ args w, (callFunc 134 args).run Tryz.prog w = .ok (.enter 134 args) w := enters_of Tryz.func134 (by kernel_rfl) rfl
  rcases h.own.2 with ⟨rfl, h0⟩ | ⟨g, cap, cur, rfl, hb, hg, _⟩
  · have he : es = [] := List.eq_nil_of_length_eq_zero h0
    subst he
    have hc := AnyF.slices_SortFunc_none (P := Tryz.prog) (ρ := Tryz.sortE_ren) { Tryz.sortE with } none 0 (.func (.func 134) #[] #[]) w
    refine Calls.mono (show Calls Tryz.prog 133 _ _ _ from hc) ?_
    rintro e w' ⟨rfl, rfl⟩
    exact ⟨rfl, [], List.Perm.refl _, List.Pairwise.nil, h, ⟨rfl, rfl, rfl, Nat.le_refl _, fun _ _ _ => rfl⟩⟩
  · have hlt := lt_of_block hg
    have hc := AnyQ.slices_SortFunc Tryz.sortE 26 Tryz.isAgg189 Tryz.sizeOf189 encE.c encE.len encE.one cfE swoE 134 #[] g 0 cap es.toArray w eg
      (fun _ _ _ _ x y => cmp3_calls _ x y) (holds_own encE h.own) hlt (by simp; omega)
    refine Calls.mono (show Calls Tryz.prog 133 _ _ _ from hc) ?_
    rintro e w' ⟨rfl, d', n, os, hp, hs, rfl⟩
    have hsz : d'.size = es.length := by have := hp.1; simpa using this
    obtain ⟨o1, o2⟩ := own_sorted encE (n := n) (os := os) h.own d' hsz
    refine ⟨rfl, d'.toList, by simpa using perm_of hp, sorted_of (by rw [hsz]; simpa using hs), ⟨?_, o1⟩, o2⟩
    exact (o2.block p h.lt (fun e => by have := (h.row g rfl).1; simp at e; omega)).trans h.var
end Go.Proofs.YtdmindhjmjnagaaGreatDoor
