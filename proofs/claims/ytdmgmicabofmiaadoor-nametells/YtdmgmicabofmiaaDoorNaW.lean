/- The document's own Join, Split, Below. -/
import Derived.Test.YtdmgmicabofmiaaDoorNaV
namespace Go.Proofs.YtdmgmicabofmiaaDoor
set_option linter.unusedVariables false
open Go.RowKit

set_option maxRecDepth 1000000 in
set_option maxHeartbeats 1000000 in
theorem rjoin_calls (v : Value) (l : List ByteArray) (w : World) (hl : l.length ≤ 1000) (hv : Sl encS w v l) : Calls Tryd.prog 13 #[v] w fun e w' => JoinTo w l e w' := by
  have hv0 := hv
  obtain ⟨ad, cap, rfl, hcap, hmax, -, -⟩ := hv
  go_enter Tryd.func13, Tryd.ntmps13
  by_cases h0 : l = []
  · subst h0
    simp only [List.length_nil] at *
    go_wp2_with fail
    go_ret2
    exact ⟨Below.refl _ _, .inl ⟨_, rfl, by simp [joinP, bl]⟩⟩
  have HI : Hid (∀ i (hi : i < l.length), ∃ g off, ad = some ⟨g, off, none⟩ ∧ g < w.heap.size ∧ w.cell? ⟨g, off + i, none⟩ = some (.string l[i])) := fun i hi => sl_cell hv0 i hi
  have HNE : Hid (bl l ≠ []) := fun e => h0 (by simpa [bl] using e)
  have hpos : (((l.length : Nat) : Int) == 0) = false := by have := List.length_pos_iff.2 h0; simp; exact h0
  clear hv0 hmax
  obtain ⟨N, hN⟩ : ∃ N, l.length = N := ⟨_, rfl⟩
  have HN : Hid (l.length = N) := hN
  rw [hN] at hpos hl hcap ⊢
  clear hN h0
  go_wp2_with fail
  go_loopg [4, 5] N (fun g p i wr => ∃ (j : Nat) (P : ByteArray), j + g = N ∧ i = .int .i64 (j : Int) ∧ p = .string P ∧ P.size ≤ 200 ∧ Hid (Below w.heap.size w wr ∧ P.data.toList = joinB (bl (l.take j)) ∧ (bl (l.take j)).all rightP = true))
  case atStart => exact ⟨0, ⟨#[]⟩, by omega, rfl, rfl, by decide, ⟨Below.refl _ _, rfl, rfl⟩⟩
  case round =>
    obtain ⟨j, P, hjg, rfl, rfl, hP, HW⟩ := hrel
    cases gk with
    | zero =>
      have hjN : j = N := by omega
      subst hjN
      have HS : Hid (joinP (bl l) = some P.data.toList) := (show _ = _ by
        obtain ⟨_, h1, h2⟩ := HW.out
        rw [List.take_of_length_le (by rw [HN.out]; exact Nat.le_refl _)] at h1 h2
        rw [joinP, if_neg HNE.out, if_pos ⟨h2, by rw [← h1, toList_size]; exact hP⟩, h1])
      go_wp2_with fail
      go_ret2
      exact ⟨HW.out.1, .inl ⟨_, rfl, HS.out⟩⟩
    | succ g =>
      have hjI : (j : Int) < (N : Int) := by omega
      have hj0 : (0 : Int) ≤ (j : Int) := by omega
      have hjl : j < l.length := by have := HN.out; omega
      obtain ⟨g1, off, rfl, hg1, hcell⟩ := HI.out j hjl
      have hc2 : wr.cell? ⟨g1, off + j, none⟩ = some (.string l[j]) := (World.cell?_of_block (HW.out.1.block g1 hg1)).trans hcell
      have c3 := rright_calls l[j] wr
      have hg2 : g1 < wr.heap.size := by have := HW.out.1.size; omega
      have HT : Hid (bl (l.take (j + 1)) = bl (l.take j) ++ [l[j].data.toList]) := bl_take_succ l j hjl
      have HM : Hid (l[j].data.toList ∈ bl l) := (show _ ∈ _ from List.mem_map_of_mem (List.getElem_mem hjl))
      have hNb : (N : Int) ≤ 1000 := by omega
      generalize l[j] = x at *
      clear hcell hjl
      cases hx : rightP x.data.toList with
      | false =>
        have HS : Hid (joinP (bl l) = none) := joinP_none_right HM.out hx
        rw [hx] at c3
        clear hx HT HM
        go_wp2_with (go_at_call 15; refine c3.mono ?_; rintro e w3 ⟨rfl, hb3⟩; clear c3)
        go_ret2
        exact ⟨HW.out.1.trans (hb3.mono HW.out.1.size), .inr ⟨rfl, HS.out⟩⟩
      | true =>
        have hx18 : x.size ≤ 18 := by have := rightP_len _ hx; rw [toList_size] at this; exact this
        have HX : Hid (rightP x.data.toList = true) := hx
        rw [hx] at c3
        clear hx HM
        obtain ⟨C, D, K, M, a1, a2, hK, -, hD, hDM⟩ := join_step P x (Nat.le_trans hP (by decide)) (Nat.le_trans hx18 (by decide))
        have HJ : Hid (D.data.toList = joinB (bl (l.take (j + 1)))) := (show _ = _ by
          rw [HT.out, joinB_append, ← HW.out.2.1, hD]
          simp [joinB])
        have HM : Hid (D.data.toList.length = M) := (show _ = _ by rw [toList_size, hDM])
        have hMM : M = P.size + 1 + x.size := by
          have h1 := congrArg List.length hD
          rw [toList_size, hDM, List.length_append, List.length_cons, toList_size, toList_size] at h1
          omega
        have hMI : (P.size : Int) + 1 + (x.size : Int) = (M : Int) := by omega
        have hPb : (P.size : Int) ≤ 200 := by omega
        have hxb : (x.size : Int) ≤ 18 := by omega
        have hP0 : (0 : Int) ≤ (P.size : Int) := by omega
        have hx0 : (0 : Int) ≤ (x.size : Int) := by omega
        clear hD hDM hK
        by_cases hbig : M > 200
        · have hbI : (M : Int) > 200 := int_gt hbig
          have HS : Hid (joinP (bl l) = none) := joinP_none_long HNE.out (j + 1) (by
            rw [← bl_take, ← HJ.out, HM.out]; exact hbig)
          clear HJ HT HX hbig HM hMM
          go_wp2_with fail
          refine c3.mono ?_
          rintro e w3 ⟨rfl, hb3⟩
          clear c3
          have hc3 : w3.cell? ⟨g1, off + j, none⟩ = some (.string x) := (World.cell?_of_block (hb3.block g1 hg2)).trans hc2
          go_wp2_with fail
          go_ret2
          exact ⟨HW.out.1.trans (hb3.mono HW.out.1.size), .inr ⟨rfl, HS.out⟩⟩
        · have hbI : ¬ (M : Int) > 200 := int_ngt hbig
          have HZ : Hid (D.size ≤ 200) := (show _ ≤ _ by rw [← toList_size, HM.out]; exact Nat.le_of_not_lt hbig)
          clear hbig HM hMM
          go_wp2_with fail
          refine c3.mono ?_
          rintro e w3 ⟨rfl, hb3⟩
          clear c3
          have hc3 : w3.cell? ⟨g1, off + j, none⟩ = some (.string x) := (World.cell?_of_block (hb3.block g1 hg2)).trans hc2
          go_wp2_with fail
          go_roundg g
          case measure => omega
          case rel => exact ⟨j + 1, _, by omega, rfl, rfl, HZ.out, ⟨HW.out.1.trans (hb3.mono HW.out.1.size), HJ.out, by rw [HT.out, List.all_append, HW.out.2.2]; simp [HX.out]⟩⟩
end Go.Proofs.YtdmgmicabofmiaaDoor
