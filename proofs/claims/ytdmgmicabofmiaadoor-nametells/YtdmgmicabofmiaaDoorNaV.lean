/- The document's own Width, Short, Join. -/
import Derived.Test.YtdmgmicabofmiaaDoorNaU
namespace Go.Proofs.YtdmgmicabofmiaaDoor
set_option linter.unusedVariables false
open Go.RowKit

set_option maxRecDepth 1000000 in
theorem rwidth_calls (s : ByteArray) (hs : s.size ≤ 1000) (w : World) :
    Calls Tryd.prog 18 #[.string s] w fun e w' => e = .returned (.int .i64 (wid s.data.toList : Int)) ∧ Below w.heap.size w w' := by
  go_enter Tryd.func18, Tryd.ntmps18
  go_wp2_with fail
  refine (pieces_calls s hs w).mono ?_
  rintro e w1 ⟨v, rfl, hv, b1⟩
  obtain ⟨ad, cap, rfl, hcap, hmax, -, -⟩ := id hv
  rw [ends_len]
  clear hv hcap hmax
  go_wp2_with fail
  go_ret
  exact ⟨rfl, b1⟩
theorem sli_cell {w : World} {B : Nat} {ad : Option Addr} {n cap : Nat} {l : List Nat} (h : SlB encI w B (.slice ad n cap) l) (i : Nat) (hi : i < l.length) : ∃ g off, ad = some ⟨g, off, none⟩ ∧ g < B ∧ w.cell? ⟨g, off + i, none⟩ = some (.int .i64 (l[i] : Int)) := by
  obtain ⟨g, off, h1, h2, h3⟩ := SlB.at h i hi
  refine ⟨g, off, h1, h2, ?_⟩
  have := h3 0 (.int .i64 (l[i] : Int)) rfl
  simpa using this

set_option maxRecDepth 1000000 in
set_option maxHeartbeats 4000000 in
theorem rshort_calls (s : ByteArray) (n : Int) (hs : s.size ≤ 1000) (w : World) :
    Calls Tryd.prog 20 #[.string s, .int .i64 n] w fun e w' => e = .returned (.string ⟨(shortP s.data.toList n).toArray⟩) ∧ Below w.heap.size w w' := by
  go_enter Tryd.func20, Tryd.ntmps20
  by_cases h1 : n < 1
  · have e : shortP s.data.toList n = [] := by rw [shortP, if_pos h1]
    rw [e]
    clear e
    go_wp2_with fail
    go_ret
    exact ⟨rfl, Below.refl _ _⟩
  obtain ⟨R, hR⟩ : ∃ R, shortP s.data.toList n = R := ⟨_, rfl⟩
  have HS : Hid (R = if (wid s.data.toList : Int) ≤ n then s.data.toList else s.data.toList.take (pre (n.toNat - 1) s.data.toList) ++ [226, 128, 166]) := (show _ = _ by rw [← hR, shortP, if_neg h1])
  rw [hR]
  clear hR
  go_wp2_with fail
  refine (pieces_calls s hs w).mono ?_
  rintro e w1 ⟨v, rfl, hv, b1⟩
  obtain ⟨ad, cap, rfl, hcap, hmax, -, -⟩ := id hv
  have hl := ends_len s.data.toList (wid s.data.toList)
  obtain ⟨Z, hZ⟩ : ∃ Z, wid s.data.toList = Z := ⟨_, rfl⟩
  have hzl : Z ≤ 1000 := by have := wid_le _ s.data.toList rfl; rw [toList_size] at this; omega
  rw [hZ] at HS hv hcap hmax hl ⊢
  rw [hl] at hcap ⊢
  clear hmax
  by_cases h2 : (Z : Int) ≤ n
  · have e : R = s.data.toList := by rw [HS.out, if_pos h2]
    clear HS hv hl hZ
    go_wp2_with fail
    go_ret
    exact ⟨by rw [e, Lib.mk_data]; rfl, b1⟩
  have HR : Hid (R = s.data.toList.take (pre (n.toNat - 1) s.data.toList) ++ [226, 128, 166]) := (show _ = _ by rw [HS.out, if_neg h2])
  clear HS
  by_cases h3 : n = 1
  · subst h3
    have e : R = [226, 128, 166] := by rw [HR.out]; rfl
    clear HR hv hl hZ
    go_wp2_with fail
    go_ret
    exact ⟨by rw [e]; rfl, b1⟩
  obtain ⟨k, hk⟩ : ∃ k : Nat, n = (k : Int) + 2 := ⟨(n - 2).toNat, by omega⟩
  have hkZ : k < Z := by omega
  obtain ⟨g, off, rfl, hg, hc⟩ := sli_cell hv k (by rw [hl]; exact hkZ)
  rw [ends_get _ _ _ hkZ] at hc
  have hq := pre_le (k + 1) s.data.toList
  rw [toList_size] at hq
  have e1 : n.toNat - 1 = k + 1 := by omega
  rw [e1] at HR
  obtain ⟨q, hqq⟩ : ∃ q, pre (k + 1) s.data.toList = q := ⟨_, rfl⟩
  rw [hqq] at hc HR hq
  have hn2 : n - 2 = (k : Int) := by omega
  have h3b : (n == 1) = false := beq_eq_false_iff_ne.2 h3
  have hk0 : (0 : Int) ≤ (k : Int) := by omega
  have hkI : (k : Int) < (Z : Int) := by omega
  have hqI : (q : Int) ≤ (s.size : Int) := by omega
  have hq0 : (0 : Int) ≤ (q : Int) := by omega
  have hnl : (2 : Int) ≤ n := by omega
  have hnu : n ≤ 1002 := by omega
  obtain ⟨X, hX⟩ : ∃ X : ByteArray, s.extract 0 q ++ ⟨#[226, 128, 166]⟩ = X := ⟨_, rfl⟩
  have a1 : ∀ y, (Op.stringOp .add (s.extract 0 q) ⟨#[226, 128, 166]⟩).run Tryd.prog y = .ok (.string X) y := fun y => by
    rw [← hX]
    exact add_str _ _ (by rw [ByteArray.size_extract]; omega) (by show 3 ≤ 1000000; omega) y
  have HX : Hid ((⟨R.toArray⟩ : ByteArray) = X) := (show _ = _ by
    rw [HR.out, ← hX]
    apply bl_inj
    simp [ByteArray.data_append])
  have h1b : ¬ n < 1 := by omega
  have h2b : ¬ (Z : Int) ≤ n := by omega
  clear HR hX hv hl hZ hk e1 hqq h2 h1 h3 hq
  go_wp2_with fail
  go_ret
  exact ⟨by rw [HX.out]; rfl, b1⟩
end Go.Proofs.YtdmgmicabofmiaaDoor
