/- Package name: what it calls of the library, at one slash; Split, Join, Below. -/
import Derived.Test.YtdmgmicabofmiaaDoorNaL
import Derived.Test.YtdmgmicabofmiaaDoorNaA
import Derived.Test.YtdmgmicabofmiaaDoorSl
namespace Go.Proofs.YtdmgmicabofmiaaDoor
set_option linter.unusedVariables false
open Go.RowKit

/-- Texts in slices. -/
def encS : Enc ByteArray 1 where
  c s := [.string s]
  len _ := rfl
  one _ _ h := by cases h with | head => rfl | tail _ h => cases h
/-- As lists of bytes. -/
abbrev bl (l : List ByteArray) : List (List UInt8) := l.map (·.data.toList)
theorem bl_inj {a b : ByteArray} (h : a.data.toList = b.data.toList) : a = b := by
  rw [← Lib.mk_data a, ← Lib.mk_data b, h]
theorem bl_eq : ∀ {a b : List ByteArray}, bl a = bl b → a = b
  | [], [], _ => rfl
  | [], _ :: _, h => by cases h
  | _ :: _, [], h => by cases h
  | x :: a, y :: b, h => by
    simp only [bl, List.map_cons, List.cons.injEq] at h
    rw [bl_inj h.1, bl_eq h.2]
theorem bl_prefix (a b : List ByteArray) : List.isPrefixOf (bl b) (bl a) = decide (b = a.take b.length ∧ b.length ≤ a.length) := by
  by_cases h : b = a.take b.length ∧ b.length ≤ a.length
  · rw [decide_eq_true h, List.isPrefixOf_iff_prefix]
    refine ⟨bl (a.drop b.length), ?_⟩
    rw [← List.map_append]
    congr 1
    rw [show b ++ a.drop b.length = a.take b.length ++ a.drop b.length from congrArg (· ++ _) h.1, List.take_append_drop]
  · rw [decide_eq_false h]
    apply Bool.eq_false_iff.2
    intro e
    rw [List.isPrefixOf_iff_prefix] at e
    apply h
    have hl := e.length_le
    simp only [bl, List.length_map] at hl
    refine ⟨bl_eq ?_, hl⟩
    have := List.prefix_iff_eq_take.1 e
    rw [this]
    simp [bl, List.map_take]

/-! strings.Split at a slash. -/
theorem splitK_segs : ∀ (k : Nat) (s : List UInt8), s.count 47 = k → Lib.splitK [47] 0 k s = segs s
  | 0, s, h => by
    rw [segs_flat s (List.count_eq_zero.1 h)]
    rfl
  | k + 1, s, h => by
    have hi : Lib.index s [47] = Lib.indexByte s 47 := Lib.index_one s 47
    rcases Lib.index_spec s [47] with ⟨hn, _⟩ | ⟨o, ho, _⟩
    · exfalso
      rw [hi] at hn
      have hm : (47 : UInt8) ∈ s := by
        apply List.count_pos_iff.1
        omega
      obtain ⟨j, hj, e⟩ := List.mem_iff_getElem.1 hm
      exact Lib.indexByte_none hn j (by rw [List.getElem?_eq_getElem hj, e])
    · have ho' : Lib.indexByte s 47 = o := by rw [← hi]; exact ho
      obtain ⟨h1, h2⟩ := Lib.indexByte_some ho'
      obtain ⟨hlt, he⟩ := List.getElem?_eq_some_iff.1 h1
      have hs : s = s.take o ++ 47 :: s.drop (o + 1) := by
        rw [← he, ← List.drop_eq_getElem_cons hlt, List.take_append_drop]
      have h47 : (47 : UInt8) ∉ s.take o := by
        intro hm
        obtain ⟨j, hj, e⟩ := List.mem_iff_getElem.1 hm
        simp only [List.length_take] at hj
        rw [List.getElem_take] at e
        exact h2 j (by omega) (by rw [List.getElem?_eq_getElem (by omega), e])
      have hc : (s.drop (o + 1)).count 47 = k := by
        rw [hs, List.count_append, List.count_eq_zero.2 h47, List.count_cons_self] at h
        omega
      have e2 : Lib.splitK [47] 0 (k + 1) s = s.take o :: Lib.splitK [47] 0 k (s.drop (o + 1)) := by
        have hm : ¬ (Lib.index s [47] == -1) = true := fun e => by have := beq_iff_eq.1 e; omega
        rw [Lib.splitK, if_neg hm, ho]
        rfl
      rw [e2, splitK_segs k _ hc]
      conv => rhs; rw [hs]
      rw [segs_append, segs_flat _ h47]
      rfl
def slash : ByteArray := ⟨#[47]⟩
theorem count_slash (s : ByteArray) : Lib.countB s slash = s.data.toList.count 47 := Lib.count_one 47 s.data.toList
theorem splitB_segs (s : ByteArray) : bl (Lib.splitB slash 0 (Lib.countB s slash) s) = segs s.data.toList := by
  rw [bl, Lib.splitB_data]
  exact splitK_segs _ _ (count_slash s).symm

set_option maxRecDepth 1000000 in
set_option maxHeartbeats 1000000 in
theorem libSplit_calls (s : ByteArray) (w : World) (hs : s.size < 4294967281) :
    Calls Tryd.prog 24 #[.string s, .string ⟨#[47]⟩] w fun e w' => ∃ l : List ByteArray, bl l = segs s.data.toList ∧
      e = .returned (.slice (some ⟨w.heap.size, 0, none⟩) l.length l.length) ∧ w' = w.alloc (.cells (l.map Value.string).toArray 9) := by
  have hle := Lib.countB_le slash (by decide) s.size s (Nat.le_refl _)
  have hlen := Lib.splitB_all slash (by decide) 0 _ s rfl
  have c := Any.strings_genSplit_core (P := Tryd.prog) (ρ := Tryd.splitA_ren) { Tryd.splitA with } (by kernel_rfl) s slash 0 (-1) (Lib.countB s slash + 1) w hs (by decide) (Nat.zero_le _)
    (fun x cc _ => (Any.strings_Index_one { Tryd.splitA with } x 47 _).mono fun e w' ⟨h1, h2⟩ => ⟨by rw [h1]; exact congrArg (fun z => Ending.returned (Value.int .i64 z)) (Lib.index_one x.data.toList 47).symm, h2⟩)
    ((Any.strings_Count_one { Tryd.splitA with } s 47 w).mono fun e w' ⟨h1, h2⟩ => ⟨by rw [h1, count_slash]; rfl, h2⟩)
    (by decide) (by decide) (by rw [if_pos (by decide)]; omega)
  rw [Nat.add_sub_cancel, hlen] at c
  have e2 : Lib.cellsOf (Lib.splitB slash 0 (Lib.countB s slash) s) (Lib.countB s slash + 1) = ((Lib.splitB slash 0 (Lib.countB s slash) s).map Value.string).toArray := by rw [← hlen]; exact Lib.cellsOf_full _
  rw [e2] at c
  have hb := splitB_segs s
  generalize Lib.splitB slash 0 (Lib.countB s slash) s = l at *
  have c2 : Calls Tryd.prog 31 #[.string s, .string ⟨#[47]⟩, .int .i64 0, .int .i64 (-1)] w fun e w' => e = .returned (.slice (some ⟨w.heap.size, 0, none⟩) l.length l.length) ∧ w' = w.alloc (.cells (l.map Value.string).toArray 9) := by
    rw [hlen]; exact c
  clear c e2 hle hlen
  go_enter Tryd.func24, Tryd.ntmps24
  go_wp2_with (go_at_call 31; refine c2.mono ?_; rintro e w' ⟨rfl, rfl⟩)
  go_ret
  exact ⟨l, hb, rfl, rfl⟩
theorem cutPrefix_calls (s : ByteArray) (w : World) :
    Calls Tryd.prog 23 #[.string s, .string ⟨#[47]⟩] w fun e w' => e = .returned (.tuple #[.string ⟨(Lib.trimPrefix s.data.toList [47]).toArray⟩, .bool (Lib.hasPrefix s.data.toList [47])]) ∧ w' = w :=
  Any.strings_CutPrefix (P := Tryd.prog) (ρ := Tryd.cutA_ren) Tryd.cutA s ⟨#[47]⟩ w
end Go.Proofs.YtdmgmicabofmiaaDoor
