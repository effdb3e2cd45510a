/- Package name: Split, Join, Below. -/
import Derived.Test.YtdmgmicabofmiaaDoorNaB
namespace Go.Proofs.YtdmgmicabofmiaaDoor
set_option linter.unusedVariables false
open Go.RowKit

theorem sl_cell {w : World} {B : Nat} {ad : Option Addr} {n cap : Nat} {l : List ByteArray} (h : SlB encS w B (.slice ad n cap) l) (i : Nat) (hi : i < l.length) : ∃ g off, ad = some ⟨g, off, none⟩ ∧ g < B ∧ w.cell? ⟨g, off + i, none⟩ = some (.string l[i]) := by
  obtain ⟨g, off, h1, h2, h3⟩ := SlB.at h i hi
  refine ⟨g, off, h1, h2, ?_⟩
  have := h3 0 (.string l[i]) rfl
  simpa using this
theorem sl_alloc (w : World) (l : List ByteArray) (hl : l.length ≤ 1000000) (ty : TypeId) : Sl encS (w.alloc (.cells (l.map Value.string).toArray ty)) (.slice (some ⟨w.heap.size, 0, none⟩) l.length l.length) l := by
  refine ⟨_, _, rfl, Nat.le_refl _, by unfold maxLen; omega, (fun e => by cases e), .inr ⟨w.heap.size, 0, rfl, by simp, fun i hi => ?_⟩⟩
  intro j v hv
  match j, hv with
  | 0, hv =>
    cases hv
    rw [cell_of_row _ _ _ _ _ _ (heap_alloc_new _ _)]
    simp [hi]
  | j + 1, hv => simp [encS] at hv
/-- What Split tells. -/
def SplitTo (w : World) (s : ByteArray) (e : Ending) (w' : World) : Prop :=
  Below w.heap.size w w' ∧ ((∃ v l, e = .returned (.tuple #[v, .bool true]) ∧ Sl encS w' v l ∧ splitP s.data.toList = some (bl l)) ∨ (e = .returned (.tuple #[.slice none 0 0, .bool false]) ∧ splitP s.data.toList = none))

set_option maxRecDepth 1000000 in
set_option maxHeartbeats 1000000 in
theorem split_calls (s : ByteArray) (w : World) : Calls Tryd.prog 10 #[.string s] w fun e w' => SplitTo w s e w' := by
  go_enter Tryd.func10, Tryd.ntmps10
  cases hroot : (s.toList == [47]) with
  | true =>
    have HS : Hid (splitP s.data.toList = some []) := (show _ = _ by rw [beq_str] at hroot; rw [beq_iff_eq.1 hroot]; exact splitP_root)
    go_wp2_with fail
    go_ret2
    exact ⟨Below.refl _ _, .inl ⟨_, [], rfl, SlB.nil _ _ _, HS.out⟩⟩
  | false =>
  have hne : s.data.toList ≠ [47] := fun e => by rw [beq_str, e] at hroot; cases hroot
  have c1 := cutPrefix_calls s w
  cases hpre : Lib.hasPrefix s.data.toList [47] with
  | false =>
    have HS : Hid (splitP s.data.toList = none) := (show _ = _ by
      rw [splitP.eq_def, if_neg hne]
      cases hs : s.data.toList with
      | nil => rfl
      | cons c r =>
        dsimp only
        rw [if_neg]
        rintro ⟨rfl, _⟩
        rw [hs] at hpre
        simp [Lib.hasPrefix] at hpre)
    rw [hpre] at c1
    clear hne
    go_wp2_with (go_at_call 23; refine c1.mono ?_; rintro e w1 ⟨rfl, hw1⟩; rw [hw1]; clear c1 hw1)
    go_ret2
    exact ⟨Below.refl _ _, .inr ⟨rfl, HS.out⟩⟩
  | true =>
  obtain ⟨r, hr⟩ : ∃ r, s.data.toList = 47 :: r := by
    cases hs : s.data.toList with
    | nil => rw [hs] at hpre; cases hpre
    | cons c r =>
      rw [hs] at hpre
      simp [Lib.hasPrefix] at hpre
      exact ⟨r, by rw [← hpre]⟩
  have hrn : r ≠ [] := fun e => hne (by rw [hr, e])
  have et : Lib.trimPrefix s.data.toList [47] = r := by rw [Lib.trimPrefix, hpre, hr]; rfl
  rw [hpre, et] at c1
  have hsz : s.size = r.length + 1 := by rw [← toList_size, hr]; rfl
  have HSP : Hid (splitP s.data.toList = if (47 :: r).length ≤ 200 ∧ (segs r).all rightP = true then some (segs r) else none) := (show _ = _ by rw [hr]; exact splitP_mk hrn)
  by_cases hbig : s.size > 200
  · have HS : Hid (splitP s.data.toList = none) := (show _ = _ by rw [HSP.out, if_neg (by simp only [List.length_cons]; omega)])
    have hb : (s.size : Int) > 200 := by omega
    clear HSP hne hrn et hpre hsz hr hbig
    go_wp2_with (go_at_call 23; refine c1.mono ?_; rintro e w1 ⟨rfl, hw1⟩; rw [hw1]; clear c1 hw1)
    go_ret2
    exact ⟨Below.refl _ _, .inr ⟨rfl, HS.out⟩⟩
  have hb : ¬ (s.size : Int) > 200 := by omega
  have c2 := libSplit_calls ⟨r.toArray⟩ w (by show r.toArray.size < _; simp; omega)
  have HS2 : Hid (splitP s.data.toList = if (segs r).all rightP = true then some (segs r) else none) := (show _ = _ by
    rw [HSP.out]
    by_cases hq : (segs r).all rightP = true
    · rw [if_pos ⟨by simp only [List.length_cons]; omega, hq⟩, if_pos hq]
    · rw [if_neg (fun h => hq h.2), if_neg hq])
  have HRL : Hid (r.length ≤ 199) := (show _ ≤ _ by omega)
  clear HSP hne hrn et hpre hsz hr hbig
  go_wp2_with (first
    | (go_at_call 23; refine c1.mono ?_; rintro e w1 ⟨rfl, hw1⟩; rw [hw1]; clear c1 hw1)
    | (go_at_call 24; refine c2.mono ?_; rintro e w2 ⟨l, hl, rfl, hw2⟩; have HW2 : Hid (w2 = w.alloc (.cells (l.map Value.string).toArray 9)) := hw2; clear c2 hw2))
  have hll : l.length ≤ 201 := by
    have h1 := congrArg List.length hl
    have h2 : ∀ q : List UInt8, (segs q).length ≤ q.length + 1 := by
      intro q
      induction q with
      | nil => simp [segs]
      | cons c q ih =>
        by_cases hc : c = 47
        · subst hc; rw [segs_slash]; simp; exact ih
        · obtain ⟨h, t, e1, e2⟩ := segs_cons c q hc
          rw [e1] at ih
          rw [e2]
          simp only [List.length_cons] at ih ⊢
          omega
    have h3 := h2 r
    have h4 := HRL.out
    simp only [bl, List.length_map] at h1
    omega
  have HL : Hid (bl l = segs r) := (show _ = _ by rw [hl])
  have hSl : Sl encS w2 (.slice (some ⟨w.heap.size, 0, none⟩) l.length l.length) l := by rw [HW2.out]; exact sl_alloc w l (by omega) _
  have hB : Below w.heap.size w w2 := by rw [HW2.out]; exact (Below.refl _ _).alloc (Nat.le_refl _) _
  have HI : Hid (∀ i (hi : i < l.length), w.heap.size < w2.heap.size ∧ w2.cell? ⟨w.heap.size, i, none⟩ = some (.string l[i])) := fun i hi => by
    obtain ⟨g, off, e1, e2, e3⟩ := sl_cell hSl i hi
    cases e1
    exact ⟨e2, by simpa using e3⟩
  obtain ⟨N, hN⟩ : ∃ N, l.length = N := ⟨_, rfl⟩
  have HN : Hid (l.length = N) := hN
  have HSl : Hid (Sl encS w2 (.slice (some ⟨w.heap.size, 0, none⟩) l.length l.length) l) := hSl
  clear hSl HW2 hl
  rw [hN] at hll HSl ⊢
  have HB : Hid (Below w.heap.size w w2) := hB
  clear hN hB
  obtain ⟨B, hBB⟩ : ∃ B, w.heap.size = B := ⟨_, rfl⟩
  have HBB : Hid (w.heap.size = B) := hBB
  rw [hBB] at HI HSl ⊢
  clear hBB
  go_loopg [27] N (fun g i wr => ∃ j : Nat, j + g = N ∧ i = .int .i64 (j : Int) ∧ Hid (Below w2.heap.size w2 wr ∧ (bl (l.take j)).all rightP = true))
  case atStart => exact ⟨0, by omega, rfl, ⟨Below.refl _ _, rfl⟩⟩
  case round =>
    obtain ⟨j, hjg, rfl, HW⟩ := hrel
    cases gk with
    | zero =>
      have hjN : j = N := by omega
      subst hjN
      have HS : Hid (splitP s.data.toList = some (bl l)) := (show _ = _ by
        have h1 := HW.out.2
        rw [List.take_of_length_le (by rw [HN.out]; exact Nat.le_refl _), HL.out] at h1
        rw [HS2.out, if_pos h1, HL.out])
      go_wp2_with fail
      go_ret2
      refine ⟨?_, .inl ⟨_, l, rfl, ?_, HS.out⟩⟩
      · exact HB.out.trans (HW.out.1.mono HB.out.size)
      · exact Sl.called HSl.out HW.out.1
    | succ g =>
      have hjI : (j : Int) < (N : Int) := by omega
      have hj0 : (0 : Int) ≤ (j : Int) := by omega
      have hjl : j < l.length := by have := HN.out; omega
      obtain ⟨hBlt, hcell⟩ := HI.out j hjl
      have hc2 : wr.cell? ⟨B, j, none⟩ = some (.string l[j]) := (World.cell?_of_block (HW.out.1.block B hBlt)).trans hcell
      have c3 := right_calls l[j] wr
      have hw64 : wrap64 ((j : Int) + 1) = ((j + 1 : Nat) : Int) := by rw [wrap64_ok (by omega) (by omega)]; omega
      have HT : Hid (bl (l.take (j + 1)) = bl (l.take j) ++ [l[j].data.toList]) := (show _ = _ by
        rw [List.take_add_one, List.getElem?_eq_getElem hjl]; simp only [bl, Option.toList_some, List.map_append, List.map_cons, List.map_nil])
      have HM : Hid (l[j].data.toList ∈ segs r) := (show _ ∈ _ by
        rw [← HL.out]; exact List.mem_map_of_mem (List.getElem_mem hjl))
      generalize l[j] = x at *
      clear hcell hjl
      cases hx : rightP x.data.toList with
      | false =>
        have HS : Hid (splitP s.data.toList = none) := (show _ = _ by
          rw [HS2.out, if_neg]
          intro hall
          have := List.all_eq_true.1 hall _ HM.out
          rw [hx] at this
          cases this)
        rw [hx] at c3
        clear hx HT HM
        go_wp2_with (go_at_call 14; refine c3.mono ?_; rintro e w3 ⟨rfl, hb3⟩; clear c3)
        go_ret2
        refine ⟨?_, .inr ⟨rfl, HS.out⟩⟩
        have b1 := HB.out.trans (HW.out.1.mono HB.out.size)
        exact b1.trans (hb3.mono b1.size)
      | true =>
        rw [hx] at c3
        have HX : Hid (rightP x.data.toList = true) := hx
        clear hx HM
        go_wp2_with (go_at_call 14; refine c3.mono ?_; rintro e w3 ⟨rfl, hb3⟩; clear c3)
        go_roundg g
        case measure => omega
        case rel => exact ⟨j + 1, by omega, rfl, ⟨HW.out.1.trans (hb3.mono HW.out.1.size), by rw [HT.out, List.all_append, HW.out.2]; simp [HX.out]⟩⟩
end Go.Proofs.YtdmgmicabofmiaaDoor
