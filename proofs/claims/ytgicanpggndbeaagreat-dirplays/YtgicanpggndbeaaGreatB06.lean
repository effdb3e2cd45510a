import Derived.Test.YtgicanpggndbeaaGreatB05
import Derived.Deep.QuietTactic
import Derived.Deep.DeepCutAuto
import Derived.BigQuiet
/- The document's own characters: tail, char. -/
namespace Go.Proofs.YtgicanpggndbeaaGreat
set_option linter.unusedVariables false
set_option maxRecDepth 100000
open Go.RowKit
theorem idx_at (s : ByteArray) (i : Nat) (b : UInt8) (h : s.data.toList[i]? = some b) (w : World) : (Instr.index 9 (.string s) (.int .i64 (i : Int))).run Tryz.prog w = .ok (.int .u8 (b.toNat : Int)) w := by
 obtain ⟨hl, rfl⟩ := List.getElem?_eq_some_iff.1 h
 have hs : i < s.size := by rw [toList_size] at hl; exact hl
 have hi : (0 : Int) ≤ (i : Int) ∧ (i : Int) < (s.size : Int) := by omega
 rw [run_index_string w _ _ _ _ Tryz.underlying9, dif_pos hi]
 have e : (s[(i : Int).toNat]'(by omega)) = s.data.toList[i] := by simp only [Int.toNat_natCast, Array.getElem_toList]; rfl
 rw [e]

theorem tail_calls (b : UInt8) (w : World) : Calls Tryz.prog 145 #[.int .u8 (b.toNat : Int)] w fun e w' => e = .returned (.bool (tlB b)) ∧ w' = w := by
 go_enter Tryz.func145, Tryz.ntmps145
 by_cases h1 : 128 ≤ b.toNat
 · have h1I : (b.toNat : Int) ≥ 128 := by omega
   by_cases h2 : b.toNat < 192
   · have h2I : (b.toNat : Int) < 192 := by omega
     have e : tlB b = true := (tlB_iff b).2 ⟨h1, h2⟩
     rw [e]
     clear e h1 h2
     go_wp2
     go_ret
     exact ⟨by simp, rfl⟩
   · have h2I : ¬ (b.toNat : Int) < 192 := by omega
     have e : tlB b = false := Bool.eq_false_iff.2 fun h => h2 ((tlB_iff b).1 h).2
     rw [e]
     clear e h1 h2
     go_wp2
     go_ret
     exact ⟨by simp, rfl⟩
 · have h1I : ¬ (b.toNat : Int) ≥ 128 := by omega
   have e : tlB b = false := Bool.eq_false_iff.2 fun h => h1 ((tlB_iff b).1 h).1
   rw [e]
   clear e h1
   go_wp2
   go_ret
   exact ⟨rfl, rfl⟩
theorem b255 (b : UInt8) : (0 : Int) ≤ (b.toNat : Int) ∧ (b.toNat : Int) ≤ 255 := by have := b.toNat_lt; omega
/-- What char tells. -/
def CharTo (w : World) (L : List UInt8) (e : Ending) (w' : World) : Prop := e = .returned (.tuple #[.int .i64 ((chr L).1 : Int), .int .i64 ((chr L).2 : Int)]) ∧ ∃ n, w' = w.drewN n
theorem charTo_mk {w w' : World} {L : List UInt8} {n v : Nat} {e : Ending} (h : chr L = (n, v)) (h1 : e = .returned (.tuple #[.int .i64 (n : Int), .int .i64 (v : Int)])) (h2 : ∃ k, w' = w.drewN k) : CharTo w L e w' := by
 refine ⟨?_, h2⟩
 rw [h]; exact h1


set_option maxRecDepth 1000000 in
theorem char_0 (s : ByteArray) (w : World) (hL : s.data.toList = []) : Calls Tryz.prog 110 #[.string s] w fun e w' => CharTo w s.data.toList e w' := by
 have hne : s.toList.isEmpty = true := by rw [Lib.toList_data, hL]; rfl
 have HA : Hid (chr s.data.toList = (0, 0)) := (show _ = _ by rw [hL]; rfl)
 clear hL
 go_enter Tryz.func110, Tryz.ntmps110
 go_wp2_with fail
 go_ret2
 exact charTo_mk HA.out rfl ⟨0, rfl⟩

set_option maxRecDepth 1000000 in
set_option maxHeartbeats 4000000 in
theorem char_1 (s : ByteArray) (w : World) (a : UInt8) (r : List UInt8) (hL : s.data.toList = a :: r) (h1 : a.toNat < 128) : Calls Tryz.prog 110 #[.string s] w fun e w' => CharTo w s.data.toList e w' := by
 have hne : s.toList.isEmpty = false := by rw [Lib.toList_data, hL]; rfl
 have xa := idx_at s 0 a (by rw [hL]; rfl)
 have ya : ∀ y, (Instr.index 9 (.string s) (.int .i64 0)).run Tryz.prog y = .ok (.int .u8 (a.toNat : Int)) y := xa
 clear xa
 obtain ⟨a0, a9⟩ := b255 a
 have hsz : s.size = (s.data.toList).length := (toList_size s).symm
 clear hsz
 have i1 : (a.toNat : Int) < 128 := by omega
 have HA : Hid (chr s.data.toList = (1, a.toNat)) := (show _ = _ by rw [hL]; simp only [chr, if_pos h1])
 clear hL
 go_enter Tryz.func110, Tryz.ntmps110
 go_wp2_with fail
 all_goals
  go_ret2
  exact charTo_mk HA.out rfl ⟨0, rfl⟩

set_option maxRecDepth 1000000 in
set_option maxHeartbeats 4000000 in
theorem char_n (s : ByteArray) (w : World) (a : UInt8) (r : List UInt8) (hL : s.data.toList = a :: r) (h1 : 128 ≤ a.toNat) (h2 : ¬ (192 ≤ a.toNat ∧ a.toNat < 248)) : Calls Tryz.prog 110 #[.string s] w fun e w' => CharTo w s.data.toList e w' := by
 have hne : s.toList.isEmpty = false := by rw [Lib.toList_data, hL]; rfl
 have xa := idx_at s 0 a (by rw [hL]; rfl)
 have ya : ∀ y, (Instr.index 9 (.string s) (.int .i64 0)).run Tryz.prog y = .ok (.int .u8 (a.toNat : Int)) y := xa
 clear xa
 obtain ⟨a0, a9⟩ := b255 a
 have hsz : s.size = (s.data.toList).length := (toList_size s).symm
 clear hsz
 have i1 : ¬ (a.toNat : Int) < 128 := by omega
 have i9 : ¬ ((a.toNat : Int) ≥ 192 ∧ (a.toNat : Int) < 248) := by omega
 have HA : Hid (chr s.data.toList = (0, 0)) := (show _ = _ by rw [hL]; simp only [chr, if_neg (show ¬ a.toNat < 128 by omega), if_neg (show ¬ (192 ≤ a.toNat ∧ a.toNat < 224) by omega), if_neg (show ¬ (224 ≤ a.toNat ∧ a.toNat < 240) by omega), if_neg (show ¬ (240 ≤ a.toNat ∧ a.toNat < 248) by omega)])
 clear hL
 go_enter Tryz.func110, Tryz.ntmps110
 go_wp2_with fail
 all_goals
  go_ret2
  exact charTo_mk HA.out rfl ⟨0, rfl⟩

set_option maxRecDepth 1000000 in
set_option maxHeartbeats 4000000 in
theorem char_2s1 (s : ByteArray) (w : World) (a : UInt8) (hL : s.data.toList = [a]) (h1 : 192 ≤ a.toNat) (h2 : a.toNat < 224) : Calls Tryz.prog 110 #[.string s] w fun e w' => CharTo w s.data.toList e w' := by
 have hne : s.toList.isEmpty = false := by rw [Lib.toList_data, hL]; rfl
 have xa := idx_at s 0 a (by rw [hL]; rfl)
 have ya : ∀ y, (Instr.index 9 (.string s) (.int .i64 0)).run Tryz.prog y = .ok (.int .u8 (a.toNat : Int)) y := xa
 clear xa
 obtain ⟨a0, a9⟩ := b255 a
 have hsz : s.size = (s.data.toList).length := (toList_size s).symm
 have z2 : ¬ (s.size : Int) ≥ 2 := by rw [hsz, hL]; simp only [List.length_cons, List.length_nil]; omega
 clear hsz
 have i1 : ¬ (a.toNat : Int) < 128 := by omega
 have i2 : (a.toNat : Int) ≥ 192 := by omega
 have i3 : (a.toNat : Int) < 224 := by omega
 have i4 : ¬ (a.toNat : Int) ≥ 224 := by omega
 have i5 : ¬ (a.toNat : Int) ≥ 240 := by omega
 have HA : Hid (chr s.data.toList = (0, 0)) := (show _ = _ by rw [hL]; simp only [chr, if_neg (show ¬ a.toNat < 128 by omega), if_pos (And.intro h1 h2)])
 clear hL
 go_enter Tryz.func110, Tryz.ntmps110
 go_wp2_with fail
 all_goals
  go_ret2
  exact charTo_mk HA.out rfl ⟨0, rfl⟩

set_option maxRecDepth 1000000 in
set_option maxHeartbeats 4000000 in
theorem char_2t2 (s : ByteArray) (w : World) (a b : UInt8) (r : List UInt8) (hL : s.data.toList = a :: b :: r) (h1 : 192 ≤ a.toNat) (h2 : a.toNat < 224) (hbt : tlB b = false) : Calls Tryz.prog 110 #[.string s] w fun e w' => CharTo w s.data.toList e w' := by
 have hne : s.toList.isEmpty = false := by rw [Lib.toList_data, hL]; rfl
 have xa := idx_at s 0 a (by rw [hL]; rfl)
 have ya : ∀ y, (Instr.index 9 (.string s) (.int .i64 0)).run Tryz.prog y = .ok (.int .u8 (a.toNat : Int)) y := xa
 clear xa
 obtain ⟨a0, a9⟩ := b255 a
 have xb := idx_at s 1 b (by rw [hL]; rfl)
 have yb : ∀ y, (Instr.index 9 (.string s) (.int .i64 1)).run Tryz.prog y = .ok (.int .u8 (b.toNat : Int)) y := xb
 clear xb
 obtain ⟨b0, b9⟩ := b255 b
 have hsz : s.size = (s.data.toList).length := (toList_size s).symm
 have z2 : (s.size : Int) ≥ 2 := by rw [hsz, hL]; simp only [List.length_cons]; omega
 clear hsz
 have i1 : ¬ (a.toNat : Int) < 128 := by omega
 have i2 : (a.toNat : Int) ≥ 192 := by omega
 have i3 : (a.toNat : Int) < 224 := by omega
 have i4 : ¬ (a.toNat : Int) ≥ 224 := by omega
 have i5 : ¬ (a.toNat : Int) ≥ 240 := by omega
 have HA : Hid (chr s.data.toList = (0, 0)) := (show _ = _ by rw [hL]; simp only [chr, if_neg (show ¬ a.toNat < 128 by omega), if_pos (And.intro h1 h2)]; rw [if_neg (fun h => by have := h.1; rw [hbt] at this; cases this)])
 have tb := fun y => tail_calls b y
 rw [hbt] at tb
 clear hL
 clear hbt
 go_enter Tryz.func110, Tryz.ntmps110
 go_wp2_with (go_at_call 145; refine (tb _).mono ?_; rintro e w' ⟨rfl, hw⟩; rw [hw]; clear tb hw)
 all_goals
  go_ret2
  exact charTo_mk HA.out rfl ⟨0, rfl⟩

set_option maxRecDepth 1000000 in
set_option maxHeartbeats 4000000 in
theorem char_2w (s : ByteArray) (w : World) (a b : UInt8) (r : List UInt8) (hL : s.data.toList = a :: b :: r) (h1 : 192 ≤ a.toNat) (h2 : a.toNat < 224) (hbt : tlB b = true) (hv : 128 ≤ (a.toNat - 192) * 64 + (b.toNat - 128)) : Calls Tryz.prog 110 #[.string s] w fun e w' => CharTo w s.data.toList e w' := by
 have hne : s.toList.isEmpty = false := by rw [Lib.toList_data, hL]; rfl
 have xa := idx_at s 0 a (by rw [hL]; rfl)
 have ya : ∀ y, (Instr.index 9 (.string s) (.int .i64 0)).run Tryz.prog y = .ok (.int .u8 (a.toNat : Int)) y := xa
 clear xa
 obtain ⟨a0, a9⟩ := b255 a
 have xb := idx_at s 1 b (by rw [hL]; rfl)
 have yb : ∀ y, (Instr.index 9 (.string s) (.int .i64 1)).run Tryz.prog y = .ok (.int .u8 (b.toNat : Int)) y := xb
 clear xb
 obtain ⟨b0, b9⟩ := b255 b
 have hsz : s.size = (s.data.toList).length := (toList_size s).symm
 have z2 : (s.size : Int) ≥ 2 := by rw [hsz, hL]; simp only [List.length_cons]; omega
 clear hsz
 have i1 : ¬ (a.toNat : Int) < 128 := by omega
 have i2 : (a.toNat : Int) ≥ 192 := by omega
 have i3 : (a.toNat : Int) < 224 := by omega
 have i4 : ¬ (a.toNat : Int) ≥ 224 := by omega
 have i5 : ¬ (a.toNat : Int) ≥ 240 := by omega
 obtain ⟨b1, b2⟩ := (tlB_iff b).1 hbt
 have b3 : (128 : Int) ≤ (b.toNat : Int) := by omega
 obtain ⟨V, hV⟩ : ∃ V : Nat, (a.toNat - 192) * 64 + (b.toNat - 128) = V := ⟨_, rfl⟩
 have hVI : ((a.toNat : Int) - 192) * 64 + (b.toNat : Int) - 128 = (V : Int) := by omega
 have j1 : (V : Int) ≥ 128 := by omega
 clear b1 b2
 have HA : Hid (chr s.data.toList = (2, V)) := (show _ = _ by rw [hL]; simp only [chr, if_neg (show ¬ a.toNat < 128 by omega), if_pos (And.intro h1 h2)]; rw [if_pos ⟨hbt, hv⟩]; exact Prod.ext rfl hV)
 have tb := fun y => tail_calls b y
 rw [hbt] at tb
 clear hL
 clear hbt
 go_enter Tryz.func110, Tryz.ntmps110
 go_wp2_with (go_at_call 145; refine (tb _).mono ?_; rintro e w' ⟨rfl, hw⟩; rw [hw]; clear tb hw)
 all_goals
  go_ret2
  exact charTo_mk HA.out rfl ⟨0, rfl⟩

set_option maxRecDepth 1000000 in
set_option maxHeartbeats 4000000 in
theorem char_2x (s : ByteArray) (w : World) (a b : UInt8) (r : List UInt8) (hL : s.data.toList = a :: b :: r) (h1 : 192 ≤ a.toNat) (h2 : a.toNat < 224) (hbt : tlB b = true) (hv : ¬ 128 ≤ (a.toNat - 192) * 64 + (b.toNat - 128)) : Calls Tryz.prog 110 #[.string s] w fun e w' => CharTo w s.data.toList e w' := by
 have hne : s.toList.isEmpty = false := by rw [Lib.toList_data, hL]; rfl
 have xa := idx_at s 0 a (by rw [hL]; rfl)
 have ya : ∀ y, (Instr.index 9 (.string s) (.int .i64 0)).run Tryz.prog y = .ok (.int .u8 (a.toNat : Int)) y := xa
 clear xa
 obtain ⟨a0, a9⟩ := b255 a
 have xb := idx_at s 1 b (by rw [hL]; rfl)
 have yb : ∀ y, (Instr.index 9 (.string s) (.int .i64 1)).run Tryz.prog y = .ok (.int .u8 (b.toNat : Int)) y := xb
 clear xb
 obtain ⟨b0, b9⟩ := b255 b
 have hsz : s.size = (s.data.toList).length := (toList_size s).symm
 have z2 : (s.size : Int) ≥ 2 := by rw [hsz, hL]; simp only [List.length_cons]; omega
 clear hsz
 have i1 : ¬ (a.toNat : Int) < 128 := by omega
 have i2 : (a.toNat : Int) ≥ 192 := by omega
 have i3 : (a.toNat : Int) < 224 := by omega
 have i4 : ¬ (a.toNat : Int) ≥ 224 := by omega
 have i5 : ¬ (a.toNat : Int) ≥ 240 := by omega
 obtain ⟨b1, b2⟩ := (tlB_iff b).1 hbt
 have b3 : (128 : Int) ≤ (b.toNat : Int) := by omega
 obtain ⟨V, hV⟩ : ∃ V : Nat, (a.toNat - 192) * 64 + (b.toNat - 128) = V := ⟨_, rfl⟩
 have hVI : ((a.toNat : Int) - 192) * 64 + (b.toNat : Int) - 128 = (V : Int) := by omega
 have j1 : ¬ (V : Int) ≥ 128 := by omega
 clear b1 b2
 have HA : Hid (chr s.data.toList = (0, 0)) := (show _ = _ by rw [hL]; simp only [chr, if_neg (show ¬ a.toNat < 128 by omega), if_pos (And.intro h1 h2)]; rw [if_neg (fun h => hv h.2)])
 have tb := fun y => tail_calls b y
 rw [hbt] at tb
 clear hL
 clear hbt
 go_enter Tryz.func110, Tryz.ntmps110
 go_wp2_with (go_at_call 145; refine (tb _).mono ?_; rintro e w' ⟨rfl, hw⟩; rw [hw]; clear tb hw)
 all_goals
  go_ret2
  exact charTo_mk HA.out rfl ⟨0, rfl⟩

set_option maxRecDepth 1000000 in
set_option maxHeartbeats 4000000 in
theorem char_3s1 (s : ByteArray) (w : World) (a : UInt8) (hL : s.data.toList = [a]) (h1 : 224 ≤ a.toNat) (h2 : a.toNat < 240) : Calls Tryz.prog 110 #[.string s] w fun e w' => CharTo w s.data.toList e w' := by
 have hne : s.toList.isEmpty = false := by rw [Lib.toList_data, hL]; rfl
 have xa := idx_at s 0 a (by rw [hL]; rfl)
 have ya : ∀ y, (Instr.index 9 (.string s) (.int .i64 0)).run Tryz.prog y = .ok (.int .u8 (a.toNat : Int)) y := xa
 clear xa
 obtain ⟨a0, a9⟩ := b255 a
 have hsz : s.size = (s.data.toList).length := (toList_size s).symm
 have z3 : ¬ (s.size : Int) ≥ 3 := by rw [hsz, hL]; simp only [List.length_cons, List.length_nil]; omega
 clear hsz
 have i1 : ¬ (a.toNat : Int) < 128 := by omega
 have i2 : (a.toNat : Int) ≥ 192 := by omega
 have i3 : ¬ (a.toNat : Int) < 224 := by omega
 have i4 : (a.toNat : Int) ≥ 224 := by omega
 have i5 : (a.toNat : Int) < 240 := by omega
 have i6 : ¬ (a.toNat : Int) ≥ 240 := by omega
 have HA : Hid (chr s.data.toList = (0, 0)) := (show _ = _ by rw [hL]; simp only [chr, if_neg (show ¬ a.toNat < 128 by omega), if_neg (show ¬ (192 ≤ a.toNat ∧ a.toNat < 224) by omega), if_pos (And.intro h1 h2)])
 clear hL
 go_enter Tryz.func110, Tryz.ntmps110
 go_wp2_with fail
 all_goals
  go_ret2
  exact charTo_mk HA.out rfl ⟨0, rfl⟩

set_option maxRecDepth 1000000 in
set_option maxHeartbeats 4000000 in
theorem char_3s2 (s : ByteArray) (w : World) (a b : UInt8) (hL : s.data.toList = [a, b]) (h1 : 224 ≤ a.toNat) (h2 : a.toNat < 240) : Calls Tryz.prog 110 #[.string s] w fun e w' => CharTo w s.data.toList e w' := by
 have hne : s.toList.isEmpty = false := by rw [Lib.toList_data, hL]; rfl
 have xa := idx_at s 0 a (by rw [hL]; rfl)
 have ya : ∀ y, (Instr.index 9 (.string s) (.int .i64 0)).run Tryz.prog y = .ok (.int .u8 (a.toNat : Int)) y := xa
 clear xa
 obtain ⟨a0, a9⟩ := b255 a
 have hsz : s.size = (s.data.toList).length := (toList_size s).symm
 have z3 : ¬ (s.size : Int) ≥ 3 := by rw [hsz, hL]; simp only [List.length_cons, List.length_nil]; omega
 clear hsz
 have i1 : ¬ (a.toNat : Int) < 128 := by omega
 have i2 : (a.toNat : Int) ≥ 192 := by omega
 have i3 : ¬ (a.toNat : Int) < 224 := by omega
 have i4 : (a.toNat : Int) ≥ 224 := by omega
 have i5 : (a.toNat : Int) < 240 := by omega
 have i6 : ¬ (a.toNat : Int) ≥ 240 := by omega
 have HA : Hid (chr s.data.toList = (0, 0)) := (show _ = _ by rw [hL]; simp only [chr, if_neg (show ¬ a.toNat < 128 by omega), if_neg (show ¬ (192 ≤ a.toNat ∧ a.toNat < 224) by omega), if_pos (And.intro h1 h2)])
 clear hL
 go_enter Tryz.func110, Tryz.ntmps110
 go_wp2_with fail
 all_goals
  go_ret2
  exact charTo_mk HA.out rfl ⟨0, rfl⟩

set_option maxRecDepth 1000000 in
set_option maxHeartbeats 4000000 in
theorem char_3t2 (s : ByteArray) (w : World) (a b c : UInt8) (r : List UInt8) (hL : s.data.toList = a :: b :: c :: r) (h1 : 224 ≤ a.toNat) (h2 : a.toNat < 240) (hbt : tlB b = false) : Calls Tryz.prog 110 #[.string s] w fun e w' => CharTo w s.data.toList e w' := by
 have hne : s.toList.isEmpty = false := by rw [Lib.toList_data, hL]; rfl
 have xa := idx_at s 0 a (by rw [hL]; rfl)
 have ya : ∀ y, (Instr.index 9 (.string s) (.int .i64 0)).run Tryz.prog y = .ok (.int .u8 (a.toNat : Int)) y := xa
 clear xa
 obtain ⟨a0, a9⟩ := b255 a
 have xb := idx_at s 1 b (by rw [hL]; rfl)
 have yb : ∀ y, (Instr.index 9 (.string s) (.int .i64 1)).run Tryz.prog y = .ok (.int .u8 (b.toNat : Int)) y := xb
 clear xb
 obtain ⟨b0, b9⟩ := b255 b
 have hsz : s.size = (s.data.toList).length := (toList_size s).symm
 have z3 : (s.size : Int) ≥ 3 := by rw [hsz, hL]; simp only [List.length_cons]; omega
 clear hsz
 have i1 : ¬ (a.toNat : Int) < 128 := by omega
 have i2 : (a.toNat : Int) ≥ 192 := by omega
 have i3 : ¬ (a.toNat : Int) < 224 := by omega
 have i4 : (a.toNat : Int) ≥ 224 := by omega
 have i5 : (a.toNat : Int) < 240 := by omega
 have i6 : ¬ (a.toNat : Int) ≥ 240 := by omega
 have HA : Hid (chr s.data.toList = (0, 0)) := (show _ = _ by rw [hL]; simp only [chr, if_neg (show ¬ a.toNat < 128 by omega), if_neg (show ¬ (192 ≤ a.toNat ∧ a.toNat < 224) by omega), if_pos (And.intro h1 h2)]; rw [if_neg (fun h => by have := h.1.1; rw [hbt] at this; cases this)])
 have tb := fun y => tail_calls b y
 rw [hbt] at tb
 clear hL
 clear hbt
 go_enter Tryz.func110, Tryz.ntmps110
 go_wp2_with (go_at_call 145; refine (tb _).mono ?_; rintro e w' ⟨rfl, hw⟩; rw [hw]; clear tb hw)
 all_goals
  go_ret2
  exact charTo_mk HA.out rfl ⟨0, rfl⟩

set_option maxRecDepth 1000000 in
set_option maxHeartbeats 4000000 in
theorem char_3t3 (s : ByteArray) (w : World) (a b c : UInt8) (r : List UInt8) (hL : s.data.toList = a :: b :: c :: r) (h1 : 224 ≤ a.toNat) (h2 : a.toNat < 240) (hbt : tlB b = true) (hct : tlB c = false) : Calls Tryz.prog 110 #[.string s] w fun e w' => CharTo w s.data.toList e w' := by
 have hne : s.toList.isEmpty = false := by rw [Lib.toList_data, hL]; rfl
 have xa := idx_at s 0 a (by rw [hL]; rfl)
 have ya : ∀ y, (Instr.index 9 (.string s) (.int .i64 0)).run Tryz.prog y = .ok (.int .u8 (a.toNat : Int)) y := xa
 clear xa
 obtain ⟨a0, a9⟩ := b255 a
 have xb := idx_at s 1 b (by rw [hL]; rfl)
 have yb : ∀ y, (Instr.index 9 (.string s) (.int .i64 1)).run Tryz.prog y = .ok (.int .u8 (b.toNat : Int)) y := xb
 clear xb
 obtain ⟨b0, b9⟩ := b255 b
 have xc := idx_at s 2 c (by rw [hL]; rfl)
 have yc : ∀ y, (Instr.index 9 (.string s) (.int .i64 2)).run Tryz.prog y = .ok (.int .u8 (c.toNat : Int)) y := xc
 clear xc
 obtain ⟨c0, c9⟩ := b255 c
 have hsz : s.size = (s.data.toList).length := (toList_size s).symm
 have z3 : (s.size : Int) ≥ 3 := by rw [hsz, hL]; simp only [List.length_cons]; omega
 clear hsz
 have i1 : ¬ (a.toNat : Int) < 128 := by omega
 have i2 : (a.toNat : Int) ≥ 192 := by omega
 have i3 : ¬ (a.toNat : Int) < 224 := by omega
 have i4 : (a.toNat : Int) ≥ 224 := by omega
 have i5 : (a.toNat : Int) < 240 := by omega
 have i6 : ¬ (a.toNat : Int) ≥ 240 := by omega
 have HA : Hid (chr s.data.toList = (0, 0)) := (show _ = _ by rw [hL]; simp only [chr, if_neg (show ¬ a.toNat < 128 by omega), if_neg (show ¬ (192 ≤ a.toNat ∧ a.toNat < 224) by omega), if_pos (And.intro h1 h2)]; rw [if_neg (fun h => by have := h.1.2; rw [hct] at this; cases this)])
 have tb := fun y => tail_calls b y
 rw [hbt] at tb
 have tc := fun y => tail_calls c y
 rw [hct] at tc
 clear hL
 clear hbt hct
 go_enter Tryz.func110, Tryz.ntmps110
 go_wp2_with (first | (go_at_call 145; refine (tb _).mono ?_; rintro e w' ⟨rfl, hw⟩; rw [hw]; clear tb hw) | (go_at_call 145; refine (tc _).mono ?_; rintro e w' ⟨rfl, hw⟩; rw [hw]; clear tc hw))
 all_goals
  go_ret2
  exact charTo_mk HA.out rfl ⟨0, rfl⟩

set_option maxRecDepth 1000000 in
set_option maxHeartbeats 4000000 in
theorem char_3w (s : ByteArray) (w : World) (a b c : UInt8) (r : List UInt8) (hL : s.data.toList = a :: b :: c :: r) (h1 : 224 ≤ a.toNat) (h2 : a.toNat < 240) (hbt : tlB b = true) (hct : tlB c = true) (hv : 2048 ≤ (a.toNat - 224) * 4096 + (b.toNat - 128) * 64 + (c.toNat - 128) ∧ ((a.toNat - 224) * 4096 + (b.toNat - 128) * 64 + (c.toNat - 128) < 55296 ∨ 57343 < (a.toNat - 224) * 4096 + (b.toNat - 128) * 64 + (c.toNat - 128))) : Calls Tryz.prog 110 #[.string s] w fun e w' => CharTo w s.data.toList e w' := by
 have hne : s.toList.isEmpty = false := by rw [Lib.toList_data, hL]; rfl
 have xa := idx_at s 0 a (by rw [hL]; rfl)
 have ya : ∀ y, (Instr.index 9 (.string s) (.int .i64 0)).run Tryz.prog y = .ok (.int .u8 (a.toNat : Int)) y := xa
 clear xa
 obtain ⟨a0, a9⟩ := b255 a
 have xb := idx_at s 1 b (by rw [hL]; rfl)
 have yb : ∀ y, (Instr.index 9 (.string s) (.int .i64 1)).run Tryz.prog y = .ok (.int .u8 (b.toNat : Int)) y := xb
 clear xb
 obtain ⟨b0, b9⟩ := b255 b
 have xc := idx_at s 2 c (by rw [hL]; rfl)
 have yc : ∀ y, (Instr.index 9 (.string s) (.int .i64 2)).run Tryz.prog y = .ok (.int .u8 (c.toNat : Int)) y := xc
 clear xc
 obtain ⟨c0, c9⟩ := b255 c
 have hsz : s.size = (s.data.toList).length := (toList_size s).symm
 have z3 : (s.size : Int) ≥ 3 := by rw [hsz, hL]; simp only [List.length_cons]; omega
 clear hsz
 have i1 : ¬ (a.toNat : Int) < 128 := by omega
 have i2 : (a.toNat : Int) ≥ 192 := by omega
 have i3 : ¬ (a.toNat : Int) < 224 := by omega
 have i4 : (a.toNat : Int) ≥ 224 := by omega
 have i5 : (a.toNat : Int) < 240 := by omega
 have i6 : ¬ (a.toNat : Int) ≥ 240 := by omega
 obtain ⟨b1, b2⟩ := (tlB_iff b).1 hbt
 obtain ⟨c1, c2⟩ := (tlB_iff c).1 hct
 have b3 : (128 : Int) ≤ (b.toNat : Int) := by omega
 have c3 : (128 : Int) ≤ (c.toNat : Int) := by omega
 obtain ⟨V, hV⟩ : ∃ V : Nat, (a.toNat - 224) * 4096 + (b.toNat - 128) * 64 + (c.toNat - 128) = V := ⟨_, rfl⟩
 have hVI : ((a.toNat : Int) - 224) * 4096 + ((b.toNat : Int) - 128) * 64 + (c.toNat : Int) - 128 = (V : Int) := by omega
 have j1 : (V : Int) ≥ 2048 := by omega
 have j2 : ((V : Int) < 55296 ∨ (V : Int) > 57343) := by omega
 clear b1 b2 c1 c2
 have HA : Hid (chr s.data.toList = (3, V)) := (show _ = _ by rw [hL]; simp only [chr, if_neg (show ¬ a.toNat < 128 by omega), if_neg (show ¬ (192 ≤ a.toNat ∧ a.toNat < 224) by omega), if_pos (And.intro h1 h2)]; rw [if_pos ⟨⟨hbt, hct⟩, hv⟩]; exact Prod.ext rfl hV)
 have tb := fun y => tail_calls b y
 rw [hbt] at tb
 have tc := fun y => tail_calls c y
 rw [hct] at tc
 clear hL
 clear hbt hct
 go_enter Tryz.func110, Tryz.ntmps110
 go_upto_region 12 with (first | (go_at_call 145; refine (tb _).mono ?_; rintro e w' ⟨rfl, hw⟩; rw [hw]; clear tb hw) | (go_at_call 145; refine (tc _).mono ?_; rintro e w' ⟨rfl, hw⟩; rw [hw]; clear tc hw))
 go_quiet (fail)
 go_wp2_with fail
 all_goals
  go_ret2
  exact charTo_mk HA.out rfl ⟨_, rfl⟩

set_option maxRecDepth 1000000 in
set_option maxHeartbeats 4000000 in
theorem char_3x (s : ByteArray) (w : World) (a b c : UInt8) (r : List UInt8) (hL : s.data.toList = a :: b :: c :: r) (h1 : 224 ≤ a.toNat) (h2 : a.toNat < 240) (hbt : tlB b = true) (hct : tlB c = true) (hv : ¬ (2048 ≤ (a.toNat - 224) * 4096 + (b.toNat - 128) * 64 + (c.toNat - 128) ∧ ((a.toNat - 224) * 4096 + (b.toNat - 128) * 64 + (c.toNat - 128) < 55296 ∨ 57343 < (a.toNat - 224) * 4096 + (b.toNat - 128) * 64 + (c.toNat - 128)))) : Calls Tryz.prog 110 #[.string s] w fun e w' => CharTo w s.data.toList e w' := by
 have hne : s.toList.isEmpty = false := by rw [Lib.toList_data, hL]; rfl
 have xa := idx_at s 0 a (by rw [hL]; rfl)
 have ya : ∀ y, (Instr.index 9 (.string s) (.int .i64 0)).run Tryz.prog y = .ok (.int .u8 (a.toNat : Int)) y := xa
 clear xa
 obtain ⟨a0, a9⟩ := b255 a
 have xb := idx_at s 1 b (by rw [hL]; rfl)
 have yb : ∀ y, (Instr.index 9 (.string s) (.int .i64 1)).run Tryz.prog y = .ok (.int .u8 (b.toNat : Int)) y := xb
 clear xb
 obtain ⟨b0, b9⟩ := b255 b
 have xc := idx_at s 2 c (by rw [hL]; rfl)
 have yc : ∀ y, (Instr.index 9 (.string s) (.int .i64 2)).run Tryz.prog y = .ok (.int .u8 (c.toNat : Int)) y := xc
 clear xc
 obtain ⟨c0, c9⟩ := b255 c
 have hsz : s.size = (s.data.toList).length := (toList_size s).symm
 have z3 : (s.size : Int) ≥ 3 := by rw [hsz, hL]; simp only [List.length_cons]; omega
 clear hsz
 have i1 : ¬ (a.toNat : Int) < 128 := by omega
 have i2 : (a.toNat : Int) ≥ 192 := by omega
 have i3 : ¬ (a.toNat : Int) < 224 := by omega
 have i4 : (a.toNat : Int) ≥ 224 := by omega
 have i5 : (a.toNat : Int) < 240 := by omega
 have i6 : ¬ (a.toNat : Int) ≥ 240 := by omega
 obtain ⟨b1, b2⟩ := (tlB_iff b).1 hbt
 obtain ⟨c1, c2⟩ := (tlB_iff c).1 hct
 have b3 : (128 : Int) ≤ (b.toNat : Int) := by omega
 have c3 : (128 : Int) ≤ (c.toNat : Int) := by omega
 obtain ⟨V, hV⟩ : ∃ V : Nat, (a.toNat - 224) * 4096 + (b.toNat - 128) * 64 + (c.toNat - 128) = V := ⟨_, rfl⟩
 have hVI : ((a.toNat : Int) - 224) * 4096 + ((b.toNat : Int) - 128) * 64 + (c.toNat : Int) - 128 = (V : Int) := by omega
 have j1 : ¬ ((V : Int) ≥ 2048 ∧ ((V : Int) < 55296 ∨ (V : Int) > 57343)) := by omega
 clear b1 b2 c1 c2
 have HA : Hid (chr s.data.toList = (0, 0)) := (show _ = _ by rw [hL]; simp only [chr, if_neg (show ¬ a.toNat < 128 by omega), if_neg (show ¬ (192 ≤ a.toNat ∧ a.toNat < 224) by omega), if_pos (And.intro h1 h2)]; rw [if_neg (fun h => hv h.2)])
 have tb := fun y => tail_calls b y
 rw [hbt] at tb
 have tc := fun y => tail_calls c y
 rw [hct] at tc
 clear hL
 clear hbt hct
 go_enter Tryz.func110, Tryz.ntmps110
 go_upto_region 12 with (first | (go_at_call 145; refine (tb _).mono ?_; rintro e w' ⟨rfl, hw⟩; rw [hw]; clear tb hw) | (go_at_call 145; refine (tc _).mono ?_; rintro e w' ⟨rfl, hw⟩; rw [hw]; clear tc hw))
 go_quiet (fail)
 go_wp2_with fail
 all_goals
  go_ret2
  exact charTo_mk HA.out rfl ⟨_, rfl⟩

set_option maxRecDepth 1000000 in
set_option maxHeartbeats 4000000 in
theorem char_4s1 (s : ByteArray) (w : World) (a : UInt8) (hL : s.data.toList = [a]) (h1 : 240 ≤ a.toNat) (h2 : a.toNat < 248) : Calls Tryz.prog 110 #[.string s] w fun e w' => CharTo w s.data.toList e w' := by
 have hne : s.toList.isEmpty = false := by rw [Lib.toList_data, hL]; rfl
 have xa := idx_at s 0 a (by rw [hL]; rfl)
 have ya : ∀ y, (Instr.index 9 (.string s) (.int .i64 0)).run Tryz.prog y = .ok (.int .u8 (a.toNat : Int)) y := xa
 clear xa
 obtain ⟨a0, a9⟩ := b255 a
 have hsz : s.size = (s.data.toList).length := (toList_size s).symm
 have z4 : ¬ (s.size : Int) ≥ 4 := by rw [hsz, hL]; simp only [List.length_cons, List.length_nil]; omega
 clear hsz
 have i1 : ¬ (a.toNat : Int) < 128 := by omega
 have i2 : (a.toNat : Int) ≥ 192 := by omega
 have i3 : ¬ (a.toNat : Int) < 224 := by omega
 have i4 : (a.toNat : Int) ≥ 224 := by omega
 have i5 : ¬ (a.toNat : Int) < 240 := by omega
 have i6 : (a.toNat : Int) ≥ 240 := by omega
 have i7 : (a.toNat : Int) < 248 := by omega
 have HA : Hid (chr s.data.toList = (0, 0)) := (show _ = _ by rw [hL]; simp only [chr, if_neg (show ¬ a.toNat < 128 by omega), if_neg (show ¬ (192 ≤ a.toNat ∧ a.toNat < 224) by omega), if_neg (show ¬ (224 ≤ a.toNat ∧ a.toNat < 240) by omega), if_pos (And.intro h1 h2)])
 clear hL
 go_enter Tryz.func110, Tryz.ntmps110
 go_wp2_with fail
 all_goals
  go_ret2
  exact charTo_mk HA.out rfl ⟨0, rfl⟩

set_option maxRecDepth 1000000 in
set_option maxHeartbeats 4000000 in
theorem char_4s2 (s : ByteArray) (w : World) (a b : UInt8) (hL : s.data.toList = [a, b]) (h1 : 240 ≤ a.toNat) (h2 : a.toNat < 248) : Calls Tryz.prog 110 #[.string s] w fun e w' => CharTo w s.data.toList e w' := by
 have hne : s.toList.isEmpty = false := by rw [Lib.toList_data, hL]; rfl
 have xa := idx_at s 0 a (by rw [hL]; rfl)
 have ya : ∀ y, (Instr.index 9 (.string s) (.int .i64 0)).run Tryz.prog y = .ok (.int .u8 (a.toNat : Int)) y := xa
 clear xa
 obtain ⟨a0, a9⟩ := b255 a
 have hsz : s.size = (s.data.toList).length := (toList_size s).symm
 have z4 : ¬ (s.size : Int) ≥ 4 := by rw [hsz, hL]; simp only [List.length_cons, List.length_nil]; omega
 clear hsz
 have i1 : ¬ (a.toNat : Int) < 128 := by omega
 have i2 : (a.toNat : Int) ≥ 192 := by omega
 have i3 : ¬ (a.toNat : Int) < 224 := by omega
 have i4 : (a.toNat : Int) ≥ 224 := by omega
 have i5 : ¬ (a.toNat : Int) < 240 := by omega
 have i6 : (a.toNat : Int) ≥ 240 := by omega
 have i7 : (a.toNat : Int) < 248 := by omega
 have HA : Hid (chr s.data.toList = (0, 0)) := (show _ = _ by rw [hL]; simp only [chr, if_neg (show ¬ a.toNat < 128 by omega), if_neg (show ¬ (192 ≤ a.toNat ∧ a.toNat < 224) by omega), if_neg (show ¬ (224 ≤ a.toNat ∧ a.toNat < 240) by omega), if_pos (And.intro h1 h2)])
 clear hL
 go_enter Tryz.func110, Tryz.ntmps110
 go_wp2_with fail
 all_goals
  go_ret2
  exact charTo_mk HA.out rfl ⟨0, rfl⟩

set_option maxRecDepth 1000000 in
set_option maxHeartbeats 4000000 in
theorem char_4s3 (s : ByteArray) (w : World) (a b c : UInt8) (hL : s.data.toList = [a, b, c]) (h1 : 240 ≤ a.toNat) (h2 : a.toNat < 248) : Calls Tryz.prog 110 #[.string s] w fun e w' => CharTo w s.data.toList e w' := by
 have hne : s.toList.isEmpty = false := by rw [Lib.toList_data, hL]; rfl
 have xa := idx_at s 0 a (by rw [hL]; rfl)
 have ya : ∀ y, (Instr.index 9 (.string s) (.int .i64 0)).run Tryz.prog y = .ok (.int .u8 (a.toNat : Int)) y := xa
 clear xa
 obtain ⟨a0, a9⟩ := b255 a
 have hsz : s.size = (s.data.toList).length := (toList_size s).symm
 have z4 : ¬ (s.size : Int) ≥ 4 := by rw [hsz, hL]; simp only [List.length_cons, List.length_nil]; omega
 clear hsz
 have i1 : ¬ (a.toNat : Int) < 128 := by omega
 have i2 : (a.toNat : Int) ≥ 192 := by omega
 have i3 : ¬ (a.toNat : Int) < 224 := by omega
 have i4 : (a.toNat : Int) ≥ 224 := by omega
 have i5 : ¬ (a.toNat : Int) < 240 := by omega
 have i6 : (a.toNat : Int) ≥ 240 := by omega
 have i7 : (a.toNat : Int) < 248 := by omega
 have HA : Hid (chr s.data.toList = (0, 0)) := (show _ = _ by rw [hL]; simp only [chr, if_neg (show ¬ a.toNat < 128 by omega), if_neg (show ¬ (192 ≤ a.toNat ∧ a.toNat < 224) by omega), if_neg (show ¬ (224 ≤ a.toNat ∧ a.toNat < 240) by omega), if_pos (And.intro h1 h2)])
 clear hL
 go_enter Tryz.func110, Tryz.ntmps110
 go_wp2_with fail
 all_goals
  go_ret2
  exact charTo_mk HA.out rfl ⟨0, rfl⟩

set_option maxRecDepth 1000000 in
set_option maxHeartbeats 4000000 in
theorem char_4t2 (s : ByteArray) (w : World) (a b c d : UInt8) (r : List UInt8) (hL : s.data.toList = a :: b :: c :: d :: r) (h1 : 240 ≤ a.toNat) (h2 : a.toNat < 248) (hbt : tlB b = false) : Calls Tryz.prog 110 #[.string s] w fun e w' => CharTo w s.data.toList e w' := by
 have hne : s.toList.isEmpty = false := by rw [Lib.toList_data, hL]; rfl
 have xa := idx_at s 0 a (by rw [hL]; rfl)
 have ya : ∀ y, (Instr.index 9 (.string s) (.int .i64 0)).run Tryz.prog y = .ok (.int .u8 (a.toNat : Int)) y := xa
 clear xa
 obtain ⟨a0, a9⟩ := b255 a
 have xb := idx_at s 1 b (by rw [hL]; rfl)
 have yb : ∀ y, (Instr.index 9 (.string s) (.int .i64 1)).run Tryz.prog y = .ok (.int .u8 (b.toNat : Int)) y := xb
 clear xb
 obtain ⟨b0, b9⟩ := b255 b
 have hsz : s.size = (s.data.toList).length := (toList_size s).symm
 have z4 : (s.size : Int) ≥ 4 := by rw [hsz, hL]; simp only [List.length_cons]; omega
 clear hsz
 have i1 : ¬ (a.toNat : Int) < 128 := by omega
 have i2 : (a.toNat : Int) ≥ 192 := by omega
 have i3 : ¬ (a.toNat : Int) < 224 := by omega
 have i4 : (a.toNat : Int) ≥ 224 := by omega
 have i5 : ¬ (a.toNat : Int) < 240 := by omega
 have i6 : (a.toNat : Int) ≥ 240 := by omega
 have i7 : (a.toNat : Int) < 248 := by omega
 have HA : Hid (chr s.data.toList = (0, 0)) := (show _ = _ by rw [hL]; simp only [chr, if_neg (show ¬ a.toNat < 128 by omega), if_neg (show ¬ (192 ≤ a.toNat ∧ a.toNat < 224) by omega), if_neg (show ¬ (224 ≤ a.toNat ∧ a.toNat < 240) by omega), if_pos (And.intro h1 h2)]; rw [if_neg (fun h => by have := h.1.1; rw [hbt] at this; cases this)])
 have tb := fun y => tail_calls b y
 rw [hbt] at tb
 clear hL
 clear hbt
 go_enter Tryz.func110, Tryz.ntmps110
 go_wp2_with (go_at_call 145; refine (tb _).mono ?_; rintro e w' ⟨rfl, hw⟩; rw [hw]; clear tb hw)
 all_goals
  go_ret2
  exact charTo_mk HA.out rfl ⟨0, rfl⟩

set_option maxRecDepth 1000000 in
set_option maxHeartbeats 4000000 in
theorem char_4t3 (s : ByteArray) (w : World) (a b c d : UInt8) (r : List UInt8) (hL : s.data.toList = a :: b :: c :: d :: r) (h1 : 240 ≤ a.toNat) (h2 : a.toNat < 248) (hbt : tlB b = true) (hct : tlB c = false) : Calls Tryz.prog 110 #[.string s] w fun e w' => CharTo w s.data.toList e w' := by
 have hne : s.toList.isEmpty = false := by rw [Lib.toList_data, hL]; rfl
 have xa := idx_at s 0 a (by rw [hL]; rfl)
 have ya : ∀ y, (Instr.index 9 (.string s) (.int .i64 0)).run Tryz.prog y = .ok (.int .u8 (a.toNat : Int)) y := xa
 clear xa
 obtain ⟨a0, a9⟩ := b255 a
 have xb := idx_at s 1 b (by rw [hL]; rfl)
 have yb : ∀ y, (Instr.index 9 (.string s) (.int .i64 1)).run Tryz.prog y = .ok (.int .u8 (b.toNat : Int)) y := xb
 clear xb
 obtain ⟨b0, b9⟩ := b255 b
 have xc := idx_at s 2 c (by rw [hL]; rfl)
 have yc : ∀ y, (Instr.index 9 (.string s) (.int .i64 2)).run Tryz.prog y = .ok (.int .u8 (c.toNat : Int)) y := xc
 clear xc
 obtain ⟨c0, c9⟩ := b255 c
 have hsz : s.size = (s.data.toList).length := (toList_size s).symm
 have z4 : (s.size : Int) ≥ 4 := by rw [hsz, hL]; simp only [List.length_cons]; omega
 clear hsz
 have i1 : ¬ (a.toNat : Int) < 128 := by omega
 have i2 : (a.toNat : Int) ≥ 192 := by omega
 have i3 : ¬ (a.toNat : Int) < 224 := by omega
 have i4 : (a.toNat : Int) ≥ 224 := by omega
 have i5 : ¬ (a.toNat : Int) < 240 := by omega
 have i6 : (a.toNat : Int) ≥ 240 := by omega
 have i7 : (a.toNat : Int) < 248 := by omega
 have HA : Hid (chr s.data.toList = (0, 0)) := (show _ = _ by rw [hL]; simp only [chr, if_neg (show ¬ a.toNat < 128 by omega), if_neg (show ¬ (192 ≤ a.toNat ∧ a.toNat < 224) by omega), if_neg (show ¬ (224 ≤ a.toNat ∧ a.toNat < 240) by omega), if_pos (And.intro h1 h2)]; rw [if_neg (fun h => by have := h.1.2.1; rw [hct] at this; cases this)])
 have tb := fun y => tail_calls b y
 rw [hbt] at tb
 have tc := fun y => tail_calls c y
 rw [hct] at tc
 clear hL
 clear hbt hct
 go_enter Tryz.func110, Tryz.ntmps110
 go_wp2_with (first | (go_at_call 145; refine (tb _).mono ?_; rintro e w' ⟨rfl, hw⟩; rw [hw]; clear tb hw) | (go_at_call 145; refine (tc _).mono ?_; rintro e w' ⟨rfl, hw⟩; rw [hw]; clear tc hw))
 all_goals
  go_ret2
  exact charTo_mk HA.out rfl ⟨0, rfl⟩

set_option maxRecDepth 1000000 in
set_option maxHeartbeats 4000000 in
theorem char_4t4 (s : ByteArray) (w : World) (a b c d : UInt8) (r : List UInt8) (hL : s.data.toList = a :: b :: c :: d :: r) (h1 : 240 ≤ a.toNat) (h2 : a.toNat < 248) (hbt : tlB b = true) (hct : tlB c = true) (hdt : tlB d = false) : Calls Tryz.prog 110 #[.string s] w fun e w' => CharTo w s.data.toList e w' := by
 have hne : s.toList.isEmpty = false := by rw [Lib.toList_data, hL]; rfl
 have xa := idx_at s 0 a (by rw [hL]; rfl)
 have ya : ∀ y, (Instr.index 9 (.string s) (.int .i64 0)).run Tryz.prog y = .ok (.int .u8 (a.toNat : Int)) y := xa
 clear xa
 obtain ⟨a0, a9⟩ := b255 a
 have xb := idx_at s 1 b (by rw [hL]; rfl)
 have yb : ∀ y, (Instr.index 9 (.string s) (.int .i64 1)).run Tryz.prog y = .ok (.int .u8 (b.toNat : Int)) y := xb
 clear xb
 obtain ⟨b0, b9⟩ := b255 b
 have xc := idx_at s 2 c (by rw [hL]; rfl)
 have yc : ∀ y, (Instr.index 9 (.string s) (.int .i64 2)).run Tryz.prog y = .ok (.int .u8 (c.toNat : Int)) y := xc
 clear xc
 obtain ⟨c0, c9⟩ := b255 c
 have xd := idx_at s 3 d (by rw [hL]; rfl)
 have yd : ∀ y, (Instr.index 9 (.string s) (.int .i64 3)).run Tryz.prog y = .ok (.int .u8 (d.toNat : Int)) y := xd
 clear xd
 obtain ⟨d0, d9⟩ := b255 d
 have hsz : s.size = (s.data.toList).length := (toList_size s).symm
 have z4 : (s.size : Int) ≥ 4 := by rw [hsz, hL]; simp only [List.length_cons]; omega
 clear hsz
 have i1 : ¬ (a.toNat : Int) < 128 := by omega
 have i2 : (a.toNat : Int) ≥ 192 := by omega
 have i3 : ¬ (a.toNat : Int) < 224 := by omega
 have i4 : (a.toNat : Int) ≥ 224 := by omega
 have i5 : ¬ (a.toNat : Int) < 240 := by omega
 have i6 : (a.toNat : Int) ≥ 240 := by omega
 have i7 : (a.toNat : Int) < 248 := by omega
 have HA : Hid (chr s.data.toList = (0, 0)) := (show _ = _ by rw [hL]; simp only [chr, if_neg (show ¬ a.toNat < 128 by omega), if_neg (show ¬ (192 ≤ a.toNat ∧ a.toNat < 224) by omega), if_neg (show ¬ (224 ≤ a.toNat ∧ a.toNat < 240) by omega), if_pos (And.intro h1 h2)]; rw [if_neg (fun h => by have := h.1.2.2; rw [hdt] at this; cases this)])
 have tb := fun y => tail_calls b y
 rw [hbt] at tb
 have tc := fun y => tail_calls c y
 rw [hct] at tc
 have td := fun y => tail_calls d y
 rw [hdt] at td
 clear hL
 clear hbt hct hdt
 go_enter Tryz.func110, Tryz.ntmps110
 go_wp2_with (first | (go_at_call 145; refine (tb _).mono ?_; rintro e w' ⟨rfl, hw⟩; rw [hw]; clear tb hw) | (go_at_call 145; refine (tc _).mono ?_; rintro e w' ⟨rfl, hw⟩; rw [hw]; clear tc hw) | (go_at_call 145; refine (td _).mono ?_; rintro e w' ⟨rfl, hw⟩; rw [hw]; clear td hw))
 all_goals
  go_ret2
  exact charTo_mk HA.out rfl ⟨0, rfl⟩

set_option maxRecDepth 1000000 in
set_option maxHeartbeats 4000000 in
theorem char_4w (s : ByteArray) (w : World) (a b c d : UInt8) (r : List UInt8) (hL : s.data.toList = a :: b :: c :: d :: r) (h1 : 240 ≤ a.toNat) (h2 : a.toNat < 248) (hbt : tlB b = true) (hct : tlB c = true) (hdt : tlB d = true) (hv : 65536 ≤ (a.toNat - 240) * 262144 + (b.toNat - 128) * 4096 + (c.toNat - 128) * 64 + (d.toNat - 128) ∧ (a.toNat - 240) * 262144 + (b.toNat - 128) * 4096 + (c.toNat - 128) * 64 + (d.toNat - 128) ≤ 1114111) : Calls Tryz.prog 110 #[.string s] w fun e w' => CharTo w s.data.toList e w' := by
 have hne : s.toList.isEmpty = false := by rw [Lib.toList_data, hL]; rfl
 have xa := idx_at s 0 a (by rw [hL]; rfl)
 have ya : ∀ y, (Instr.index 9 (.string s) (.int .i64 0)).run Tryz.prog y = .ok (.int .u8 (a.toNat : Int)) y := xa
 clear xa
 obtain ⟨a0, a9⟩ := b255 a
 have xb := idx_at s 1 b (by rw [hL]; rfl)
 have yb : ∀ y, (Instr.index 9 (.string s) (.int .i64 1)).run Tryz.prog y = .ok (.int .u8 (b.toNat : Int)) y := xb
 clear xb
 obtain ⟨b0, b9⟩ := b255 b
 have xc := idx_at s 2 c (by rw [hL]; rfl)
 have yc : ∀ y, (Instr.index 9 (.string s) (.int .i64 2)).run Tryz.prog y = .ok (.int .u8 (c.toNat : Int)) y := xc
 clear xc
 obtain ⟨c0, c9⟩ := b255 c
 have xd := idx_at s 3 d (by rw [hL]; rfl)
 have yd : ∀ y, (Instr.index 9 (.string s) (.int .i64 3)).run Tryz.prog y = .ok (.int .u8 (d.toNat : Int)) y := xd
 clear xd
 obtain ⟨d0, d9⟩ := b255 d
 have hsz : s.size = (s.data.toList).length := (toList_size s).symm
 have z4 : (s.size : Int) ≥ 4 := by rw [hsz, hL]; simp only [List.length_cons]; omega
 clear hsz
 have i1 : ¬ (a.toNat : Int) < 128 := by omega
 have i2 : (a.toNat : Int) ≥ 192 := by omega
 have i3 : ¬ (a.toNat : Int) < 224 := by omega
 have i4 : (a.toNat : Int) ≥ 224 := by omega
 have i5 : ¬ (a.toNat : Int) < 240 := by omega
 have i6 : (a.toNat : Int) ≥ 240 := by omega
 have i7 : (a.toNat : Int) < 248 := by omega
 obtain ⟨b1, b2⟩ := (tlB_iff b).1 hbt
 obtain ⟨c1, c2⟩ := (tlB_iff c).1 hct
 obtain ⟨d1, d2⟩ := (tlB_iff d).1 hdt
 have b3 : (128 : Int) ≤ (b.toNat : Int) := by omega
 have c3 : (128 : Int) ≤ (c.toNat : Int) := by omega
 have d3 : (128 : Int) ≤ (d.toNat : Int) := by omega
 obtain ⟨V, hV⟩ : ∃ V : Nat, (a.toNat - 240) * 262144 + (b.toNat - 128) * 4096 + (c.toNat - 128) * 64 + (d.toNat - 128) = V := ⟨_, rfl⟩
 have hVI : ((a.toNat : Int) - 240) * 262144 + ((b.toNat : Int) - 128) * 4096 + ((c.toNat : Int) - 128) * 64 + (d.toNat : Int) - 128 = (V : Int) := by omega
 have j1 : (V : Int) ≥ 65536 := by omega
 have j2 : (V : Int) ≤ 1114111 := by omega
 clear b1 b2 c1 c2 d1 d2
 have HA : Hid (chr s.data.toList = (4, V)) := (show _ = _ by rw [hL]; simp only [chr, if_neg (show ¬ a.toNat < 128 by omega), if_neg (show ¬ (192 ≤ a.toNat ∧ a.toNat < 224) by omega), if_neg (show ¬ (224 ≤ a.toNat ∧ a.toNat < 240) by omega), if_pos (And.intro h1 h2)]; rw [if_pos ⟨⟨hbt, hct, hdt⟩, hv⟩]; exact Prod.ext rfl hV)
 have tb := fun y => tail_calls b y
 rw [hbt] at tb
 have tc := fun y => tail_calls c y
 rw [hct] at tc
 have td := fun y => tail_calls d y
 rw [hdt] at td
 clear hL
 clear hbt hct hdt
 go_enter Tryz.func110, Tryz.ntmps110
 go_upto_region 17 with (first | (go_at_call 145; refine (tb _).mono ?_; rintro e w' ⟨rfl, hw⟩; rw [hw]; clear tb hw) | (go_at_call 145; refine (tc _).mono ?_; rintro e w' ⟨rfl, hw⟩; rw [hw]; clear tc hw) | (go_at_call 145; refine (td _).mono ?_; rintro e w' ⟨rfl, hw⟩; rw [hw]; clear td hw))
 go_quiet (fail)
 go_wp2_with fail
 all_goals
  go_ret2
  exact charTo_mk HA.out rfl ⟨_, rfl⟩

set_option maxRecDepth 1000000 in
set_option maxHeartbeats 4000000 in
theorem char_4x (s : ByteArray) (w : World) (a b c d : UInt8) (r : List UInt8) (hL : s.data.toList = a :: b :: c :: d :: r) (h1 : 240 ≤ a.toNat) (h2 : a.toNat < 248) (hbt : tlB b = true) (hct : tlB c = true) (hdt : tlB d = true) (hv : ¬ (65536 ≤ (a.toNat - 240) * 262144 + (b.toNat - 128) * 4096 + (c.toNat - 128) * 64 + (d.toNat - 128) ∧ (a.toNat - 240) * 262144 + (b.toNat - 128) * 4096 + (c.toNat - 128) * 64 + (d.toNat - 128) ≤ 1114111)) : Calls Tryz.prog 110 #[.string s] w fun e w' => CharTo w s.data.toList e w' := by
 have hne : s.toList.isEmpty = false := by rw [Lib.toList_data, hL]; rfl
 have xa := idx_at s 0 a (by rw [hL]; rfl)
 have ya : ∀ y, (Instr.index 9 (.string s) (.int .i64 0)).run Tryz.prog y = .ok (.int .u8 (a.toNat : Int)) y := xa
 clear xa
 obtain ⟨a0, a9⟩ := b255 a
 have xb := idx_at s 1 b (by rw [hL]; rfl)
 have yb : ∀ y, (Instr.index 9 (.string s) (.int .i64 1)).run Tryz.prog y = .ok (.int .u8 (b.toNat : Int)) y := xb
 clear xb
 obtain ⟨b0, b9⟩ := b255 b
 have xc := idx_at s 2 c (by rw [hL]; rfl)
 have yc : ∀ y, (Instr.index 9 (.string s) (.int .i64 2)).run Tryz.prog y = .ok (.int .u8 (c.toNat : Int)) y := xc
 clear xc
 obtain ⟨c0, c9⟩ := b255 c
 have xd := idx_at s 3 d (by rw [hL]; rfl)
 have yd : ∀ y, (Instr.index 9 (.string s) (.int .i64 3)).run Tryz.prog y = .ok (.int .u8 (d.toNat : Int)) y := xd
 clear xd
 obtain ⟨d0, d9⟩ := b255 d
 have hsz : s.size = (s.data.toList).length := (toList_size s).symm
 have z4 : (s.size : Int) ≥ 4 := by rw [hsz, hL]; simp only [List.length_cons]; omega
 clear hsz
 have i1 : ¬ (a.toNat : Int) < 128 := by omega
 have i2 : (a.toNat : Int) ≥ 192 := by omega
 have i3 : ¬ (a.toNat : Int) < 224 := by omega
 have i4 : (a.toNat : Int) ≥ 224 := by omega
 have i5 : ¬ (a.toNat : Int) < 240 := by omega
 have i6 : (a.toNat : Int) ≥ 240 := by omega
 have i7 : (a.toNat : Int) < 248 := by omega
 obtain ⟨b1, b2⟩ := (tlB_iff b).1 hbt
 obtain ⟨c1, c2⟩ := (tlB_iff c).1 hct
 obtain ⟨d1, d2⟩ := (tlB_iff d).1 hdt
 have b3 : (128 : Int) ≤ (b.toNat : Int) := by omega
 have c3 : (128 : Int) ≤ (c.toNat : Int) := by omega
 have d3 : (128 : Int) ≤ (d.toNat : Int) := by omega
 obtain ⟨V, hV⟩ : ∃ V : Nat, (a.toNat - 240) * 262144 + (b.toNat - 128) * 4096 + (c.toNat - 128) * 64 + (d.toNat - 128) = V := ⟨_, rfl⟩
 have hVI : ((a.toNat : Int) - 240) * 262144 + ((b.toNat : Int) - 128) * 4096 + ((c.toNat : Int) - 128) * 64 + (d.toNat : Int) - 128 = (V : Int) := by omega
 have j1 : ¬ ((V : Int) ≥ 65536 ∧ (V : Int) ≤ 1114111) := by omega
 clear b1 b2 c1 c2 d1 d2
 have HA : Hid (chr s.data.toList = (0, 0)) := (show _ = _ by rw [hL]; simp only [chr, if_neg (show ¬ a.toNat < 128 by omega), if_neg (show ¬ (192 ≤ a.toNat ∧ a.toNat < 224) by omega), if_neg (show ¬ (224 ≤ a.toNat ∧ a.toNat < 240) by omega), if_pos (And.intro h1 h2)]; rw [if_neg (fun h => hv h.2)])
 have tb := fun y => tail_calls b y
 rw [hbt] at tb
 have tc := fun y => tail_calls c y
 rw [hct] at tc
 have td := fun y => tail_calls d y
 rw [hdt] at td
 clear hL
 clear hbt hct hdt
 go_enter Tryz.func110, Tryz.ntmps110
 go_upto_region 17 with (first | (go_at_call 145; refine (tb _).mono ?_; rintro e w' ⟨rfl, hw⟩; rw [hw]; clear tb hw) | (go_at_call 145; refine (tc _).mono ?_; rintro e w' ⟨rfl, hw⟩; rw [hw]; clear tc hw) | (go_at_call 145; refine (td _).mono ?_; rintro e w' ⟨rfl, hw⟩; rw [hw]; clear td hw))
 go_quiet (fail)
 go_wp2_with fail
 all_goals
  go_ret2
  exact charTo_mk HA.out rfl ⟨_, rfl⟩

theorem char_calls (s : ByteArray) (w : World) : Calls Tryz.prog 110 #[.string s] w fun e w' => CharTo w s.data.toList e w' := by
 obtain ⟨L, hL⟩ : ∃ L, s.data.toList = L := ⟨_, rfl⟩
 rcases L with _ | ⟨a, r⟩
 · exact char_0 s w hL
 by_cases h1 : a.toNat < 128
 · exact char_1 s w a r hL h1
 by_cases h2 : 192 ≤ a.toNat ∧ a.toNat < 224
 · rcases r with _ | ⟨b, r⟩
   · exact char_2s1 s w a hL h2.1 h2.2
   cases hb : tlB b with
   | false => exact char_2t2 s w a b r hL h2.1 h2.2 hb
   | true =>
    by_cases hv : 128 ≤ (a.toNat - 192) * 64 + (b.toNat - 128)
    · exact char_2w s w a b r hL h2.1 h2.2 hb hv
    · exact char_2x s w a b r hL h2.1 h2.2 hb hv
 by_cases h3 : 224 ≤ a.toNat ∧ a.toNat < 240
 · rcases r with _ | ⟨b, _ | ⟨c, r⟩⟩
   · exact char_3s1 s w a hL h3.1 h3.2
   · exact char_3s2 s w a b hL h3.1 h3.2
   cases hb : tlB b with
   | false => exact char_3t2 s w a b c r hL h3.1 h3.2 hb
   | true =>
   cases hc : tlB c with
   | false => exact char_3t3 s w a b c r hL h3.1 h3.2 hb hc
   | true =>
    by_cases hv : 2048 ≤ (a.toNat - 224) * 4096 + (b.toNat - 128) * 64 + (c.toNat - 128) ∧ ((a.toNat - 224) * 4096 + (b.toNat - 128) * 64 + (c.toNat - 128) < 55296 ∨ 57343 < (a.toNat - 224) * 4096 + (b.toNat - 128) * 64 + (c.toNat - 128))
    · exact char_3w s w a b c r hL h3.1 h3.2 hb hc hv
    · exact char_3x s w a b c r hL h3.1 h3.2 hb hc hv
 by_cases h4 : 240 ≤ a.toNat ∧ a.toNat < 248
 · rcases r with _ | ⟨b, _ | ⟨c, _ | ⟨d, r⟩⟩⟩
   · exact char_4s1 s w a hL h4.1 h4.2
   · exact char_4s2 s w a b hL h4.1 h4.2
   · exact char_4s3 s w a b c hL h4.1 h4.2
   cases hb : tlB b with
   | false => exact char_4t2 s w a b c d r hL h4.1 h4.2 hb
   | true =>
   cases hc : tlB c with
   | false => exact char_4t3 s w a b c d r hL h4.1 h4.2 hb hc
   | true =>
   cases hd : tlB d with
   | false => exact char_4t4 s w a b c d r hL h4.1 h4.2 hb hc hd
   | true =>
    by_cases hv : 65536 ≤ (a.toNat - 240) * 262144 + (b.toNat - 128) * 4096 + (c.toNat - 128) * 64 + (d.toNat - 128) ∧ (a.toNat - 240) * 262144 + (b.toNat - 128) * 4096 + (c.toNat - 128) * 64 + (d.toNat - 128) ≤ 1114111
    · exact char_4w s w a b c d r hL h4.1 h4.2 hb hc hd hv
    · exact char_4x s w a b c d r hL h4.1 h4.2 hb hc hd hv
 · exact char_n s w a r hL (by omega) (by omega)

end Go.Proofs.YtgicanpggndbeaaGreat
