/- Package name: Join, Below. -/
import Derived.Test.YtdmgmicabofmiaaDoorNaC
namespace Go.Proofs.YtdmgmicabofmiaaDoor
set_option linter.unusedVariables false
open Go.RowKit

/-- What Join tells. -/
def JoinTo (w : World) (l : List ByteArray) (e : Ending) (w' : World) : Prop :=
  Below w.heap.size w w' ∧ ((∃ p : ByteArray, e = .returned (.tuple #[.string p, .bool true]) ∧ joinP (bl l) = some p.data.toList) ∨ (e = .returned (.tuple #[.string ⟨#[]⟩, .bool false]) ∧ joinP (bl l) = none))
theorem bl_take_succ (l : List ByteArray) (j : Nat) (hj : j < l.length) : bl (l.take (j + 1)) = bl (l.take j) ++ [l[j].data.toList] := by
  rw [List.take_add_one, List.getElem?_eq_getElem hj]; simp only [bl, Option.toList_some, List.map_append, List.map_cons, List.map_nil]
theorem bl_take (l : List ByteArray) (j : Nat) : bl (l.take j) = (bl l).take j := by simp [bl, List.map_take]
theorem joinP_none_right {l : List (List UInt8)} {n : List UInt8} (hm : n ∈ l) (h : rightP n = false) : joinP l = none := by
  have hne : l ≠ [] := fun e => by subst e; cases hm
  rw [joinP, if_neg hne, if_neg]
  rintro ⟨h1, _⟩
  have := List.all_eq_true.1 h1 n hm
  rw [h] at this
  cases this
theorem joinP_none_long {l : List (List UInt8)} (hne : l ≠ []) (j : Nat) (h : 200 < (joinB (l.take j)).length) : joinP l = none := by
  rw [joinP, if_neg hne, if_neg]
  rintro ⟨_, h1⟩
  have := joinB_len l j
  omega
theorem wrap_add2 (a b : Nat) (h : a ≤ 1000000) (h2 : b ≤ 1000000) : wrap64 ((a : Int) + (b : Int)) = ((a + b : Nat) : Int) := by rw [wrap64_ok (by omega) (by omega)]; omega
theorem sum_small (a b : Nat) (h : a ≤ 1000000) (h2 : b ≤ 1000000) : a + b ≤ 9223372036854775807 := by omega
theorem add_str (a b : ByteArray) (h : a.size ≤ 1000000) (h2 : b.size ≤ 1000000) (w : World) : (Op.stringOp .add a b).run Tryd.prog w = .ok (.string (a ++ b)) w := run_string_add_sum w a b (sum_small _ _ h h2)
theorem size_lit1 (P : ByteArray) (c : UInt8) : (P ++ (⟨#[c]⟩ : ByteArray)).size = P.size + 1 := by simp [ByteArray.size_append]; rfl
theorem int_gt {n m : Nat} (h : n > m) : ((n : Nat) : Int) > (m : Int) := by omega
theorem int_ngt {n m : Nat} (h : ¬ n > m) : ¬ ((n : Nat) : Int) > (m : Int) := by omega
theorem lit_small (c : UInt8) : (⟨#[c]⟩ : ByteArray).size ≤ 1000000 := by show 1 ≤ 1000000; omega
/-- A text, a slash, and another one. -/
theorem join_step (P x : ByteArray) (hP : P.size ≤ 1000) (hx : x.size ≤ 1000) : ∃ (C D : ByteArray) (K M : Nat), (∀ w, (Op.stringOp .add P ⟨#[47]⟩).run Tryd.prog w = .ok (.string C) w) ∧ (∀ w, (Op.stringOp .add C x).run Tryd.prog w = .ok (.string D) w) ∧ C.size = K ∧ wrap64 ((K : Int) + (x.size : Int)) = (M : Int) ∧ D.data.toList = P.data.toList ++ 47 :: x.data.toList ∧ D.size = M := by
  have e := size_lit1 P 47
  refine ⟨P ++ ⟨#[47]⟩, P ++ ⟨#[47]⟩ ++ x, P.size + 1, P.size + 1 + x.size, add_str _ _ (Nat.le_trans hP (by decide)) (lit_small 47), add_str _ _ (by rw [e]; exact Nat.le_trans (Nat.add_le_add_right hP 1) (by decide)) (Nat.le_trans hx (by decide)), e, wrap_add2 _ _ (Nat.le_trans (Nat.add_le_add_right hP 1) (by decide)) (Nat.le_trans hx (by decide)), ?_, ?_⟩
  · simp [ByteArray.data_append]
  · rw [ByteArray.size_append, e]

set_option maxRecDepth 1000000 in
set_option maxHeartbeats 1000000 in
theorem join_calls (v : Value) (l : List ByteArray) (w : World) (hl : l.length ≤ 1000) (hv : Sl encS w v l) : Calls Tryd.prog 12 #[v] w fun e w' => JoinTo w l e w' := by
  have hv0 := hv
  obtain ⟨ad, cap, rfl, hcap, hmax, _, _⟩ := hv
  go_enter Tryd.func12, Tryd.ntmps12
  by_cases h0 : l = []
  · subst h0
    simp only [List.length_nil] at *
    go_wp2_with fail
    go_ret2
    exact ⟨Below.refl _ _, .inl ⟨_, rfl, by simp [joinP, bl]⟩⟩
  have HI : Hid (∀ i (hi : i < l.length), ∃ g off, ad = some ⟨g, off, none⟩ ∧ g < w.heap.size ∧ w.cell? ⟨g, off + i, none⟩ = some (.string l[i])) := fun i hi => sl_cell hv0 i hi
  have HNE : Hid (bl l ≠ []) := fun e => h0 (by simpa [bl] using e)
  have hpos : (((l.length : Nat) : Int) == 0) = false := by have := List.length_pos_iff.2 h0; simp; exact h0
  clear hv0 hmax
  obtain ⟨N, hN⟩ : ∃ N, l.length = N := ⟨_, rfl⟩
  have HN : Hid (l.length = N) := hN
  rw [hN] at hpos hl hcap ⊢
  clear hN h0
  go_wp2_with fail
  go_loopg [4, 12] N (fun g p i wr => ∃ (j : Nat) (P : ByteArray), j + g = N ∧ i = .int .i64 (j : Int) ∧ p = .string P ∧ P.size ≤ 200 ∧ Hid (Below w.heap.size w wr ∧ P.data.toList = joinB (bl (l.take j)) ∧ (bl (l.take j)).all rightP = true))
  case atStart => exact ⟨0, ⟨#[]⟩, by omega, rfl, rfl, by decide, ⟨Below.refl _ _, rfl, rfl⟩⟩
  case round =>
    obtain ⟨j, P, hjg, rfl, rfl, hP, HW⟩ := hrel
    cases gk with
    | zero =>
      have hjN : j = N := by omega
      subst hjN
      have HS : Hid (joinP (bl l) = some P.data.toList) := (show _ = _ by
        obtain ⟨_, h1, h2⟩ := HW.out
        rw [List.take_of_length_le (by rw [HN.out]; exact Nat.le_refl _)] at h1 h2
        rw [joinP, if_neg HNE.out, if_pos ⟨h2, by rw [← h1, toList_size]; exact hP⟩, h1])
      go_wp2_with fail
      go_ret2
      exact ⟨HW.out.1, .inl ⟨_, rfl, HS.out⟩⟩
    | succ g =>
      have hjI : (j : Int) < (N : Int) := by omega
      have hj0 : (0 : Int) ≤ (j : Int) := by omega
      have hjl : j < l.length := by have := HN.out; omega
      obtain ⟨g1, off, rfl, hg1, hcell⟩ := HI.out j hjl
      have hc2 : wr.cell? ⟨g1, off + j, none⟩ = some (.string l[j]) := (World.cell?_of_block (HW.out.1.block g1 hg1)).trans hcell
      have c3 := right_calls l[j] wr
      have hw64 : wrap64 ((j : Int) + 1) = ((j + 1 : Nat) : Int) := by rw [wrap64_ok (by omega) (by omega)]; omega
      have HT : Hid (bl (l.take (j + 1)) = bl (l.take j) ++ [l[j].data.toList]) := bl_take_succ l j hjl
      have HM : Hid (l[j].data.toList ∈ bl l) := (show _ ∈ _ from List.mem_map_of_mem (List.getElem_mem hjl))
      generalize l[j] = x at *
      clear hcell hjl
      cases hx : rightP x.data.toList with
      | false =>
        have HS : Hid (joinP (bl l) = none) := joinP_none_right HM.out hx
        rw [hx] at c3
        clear hx HT HM
        go_wp2_with (go_at_call 14; refine c3.mono ?_; rintro e w3 ⟨rfl, hb3⟩; clear c3)
        go_ret2
        exact ⟨HW.out.1.trans (hb3.mono HW.out.1.size), .inr ⟨rfl, HS.out⟩⟩
      | true =>
        have hx18 : x.size ≤ 18 := by have := rightP_len _ hx; rw [toList_size] at this; exact this
        have HX : Hid (rightP x.data.toList = true) := hx
        rw [hx] at c3
        clear hx HM
        obtain ⟨C, D, K, M, a1, a2, hK, hw65, hD, hDM⟩ := join_step P x (Nat.le_trans hP (by decide)) (Nat.le_trans hx18 (by decide))
        have HJ : Hid (D.data.toList = joinB (bl (l.take (j + 1)))) := (show _ = _ by
          rw [HT.out, joinB_append, ← HW.out.2.1, hD]
          simp [joinB])
        have HM : Hid (D.data.toList.length = M) := (show _ = _ by rw [toList_size, hDM])
        clear hD hDM
        by_cases hbig : M > 200
        · have hbI : (M : Int) > 200 := int_gt hbig
          have HS : Hid (joinP (bl l) = none) := joinP_none_long HNE.out (j + 1) (by
            rw [← bl_take, ← HJ.out, HM.out]; exact hbig)
          clear HJ HT HX hbig HM
          go_wp2_with (go_at_call 14; refine c3.mono ?_; rintro e w3 ⟨rfl, hb3⟩; clear c3)
          go_ret2
          exact ⟨HW.out.1.trans (hb3.mono HW.out.1.size), .inr ⟨rfl, HS.out⟩⟩
        · have hbI : ¬ (M : Int) > 200 := int_ngt hbig
          have HZ : Hid (D.size ≤ 200) := (show _ ≤ _ by rw [← toList_size, HM.out]; exact Nat.le_of_not_lt hbig)
          clear hbig HM
          go_wp2_with (go_at_call 14; refine c3.mono ?_; rintro e w3 ⟨rfl, hb3⟩; clear c3)
          go_roundg g
          case measure => omega
          case rel => exact ⟨j + 1, _, by omega, rfl, rfl, HZ.out, ⟨HW.out.1.trans (hb3.mono HW.out.1.size), HJ.out, by rw [HT.out, List.all_append, HW.out.2.2]; simp [HX.out]⟩⟩
end Go.Proofs.YtdmgmicabofmiaaDoor
