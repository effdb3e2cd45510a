/- Package inode: Value, Number, Full, Trim. -/
import Derived.Test.YtgijkgcekfbgeaaDoorInA
import Derived.Test.YtgijkgcekfbgeaaDoorInL
namespace Go.Proofs.YtgijkgcekfbgeaaDoor
set_option linter.unusedVariables false
open Go.RowKit

theorem Wri.block {w w1 : World} {p : Nat} {S : WS} (h : Wri w w1 p S) {b : Nat} {o : Obj} (hb : w.heap[b]? = some o) : w1.heap[b]? = some o := by
  obtain ⟨r, h1, h2, h3⟩ := h
  exact (h2.block b (lt_of_block hb)).trans hb
theorem below_box {w w' : World} {o : Obj} (h : Below (w.alloc o).heap.size (w.alloc o) w') : Below w.heap.size w w' :=
  ((Below.refl _ w).alloc (Nat.le_refl _) o).trans (h.mono (by simp))
set_option maxHeartbeats 400000 in
theorem value_dir (w : World) :
    Calls Tryd.prog 9 #[iv dirI] w fun e w' => e = .returned (.tuple #[.string (str (valI dirI)), .bool true]) ∧ Below w.heap.size w w' := by
  have hbox := heap_alloc_new w (.cells #[.bool true, .int .i64 0, .int .i64 0] 23)
  go_enter Tryd.func9, Tryd.ntmps9
  go_wp2_with fail
  refine (wri_new (Below.refl _ _) 9 (by decide) (by decide)).mono ?_
  rintro e w1 ⟨p, rfl, H⟩
  obtain ⟨c0, c1, c2⟩ := cells3 (H.block hbox)
  go_wp2_with fail
  refine (wri_byte H 1 (by decide)).mono ?_
  rintro e w2 ⟨rfl, H2⟩
  rw [ws_dir] at H2
  go_wp2_with fail
  refine (wri_written H2 _ rfl).mono ?_
  rintro e w3 ⟨rfl, H3⟩
  go_wp2
  go_ret2
  exact ⟨rfl, below_box H3⟩
set_option maxHeartbeats 400000 in
theorem value_noF (w : World) (l s : Int) (h2 : isFil ⟨false, l, s⟩ = false) :
    Calls Tryd.prog 9 #[iv ⟨false, l, s⟩] w fun e w' => e = .returned (.tuple #[.string (str []), .bool false]) ∧ Below w.heap.size w w' := by
  have hbox := heap_alloc_new w (.cells #[.bool (⟨false, l, s⟩ : Ino).d, .int .i64 (⟨false, l, s⟩ : Ino).l, .int .i64 (⟨false, l, s⟩ : Ino).s] 23)
  go_enter Tryd.func9, Tryd.ntmps9
  go_wp2_with fail
  refine (wri_new (Below.refl _ _) 9 (by decide) (by decide)).mono ?_
  rintro e w1 ⟨p, rfl, H⟩
  obtain ⟨c0, c1, c2⟩ := cells3 (H.block hbox)
  have HF := isFile_calls w1 ⟨false, l, s⟩
  rw [h2] at HF
  clear h2
  go_wp2_with fail
  refine HF.mono ?_
  rintro e w2 ⟨rfl, H2⟩
  clear HF
  go_wp2
  go_ret2
  obtain ⟨r, k1, k2, k3⟩ := H
  exact ⟨rfl, below_box (k2.trans (H2.mono k2.size))⟩
set_option maxHeartbeats 400000 in
theorem value_noL (w : World) (l s : Int) (hl : (l == 0) = false) (hl2 : ¬ l = 0) (h2 : isFil ⟨true, l, s⟩ = false) :
    Calls Tryd.prog 9 #[iv ⟨true, l, s⟩] w fun e w' => e = .returned (.tuple #[.string (str []), .bool false]) ∧ Below w.heap.size w w' := by
  have hbox := heap_alloc_new w (.cells #[.bool (⟨true, l, s⟩ : Ino).d, .int .i64 (⟨true, l, s⟩ : Ino).l, .int .i64 (⟨true, l, s⟩ : Ino).s] 23)
  go_enter Tryd.func9, Tryd.ntmps9
  go_wp2_with fail
  refine (wri_new (Below.refl _ _) 9 (by decide) (by decide)).mono ?_
  rintro e w1 ⟨p, rfl, H⟩
  obtain ⟨c0, c1, c2⟩ := cells3 (H.block hbox)
  have HF := isFile_calls w1 ⟨true, l, s⟩
  rw [h2] at HF
  clear h2
  go_wp2_with fail
  refine HF.mono ?_
  rintro e w2 ⟨rfl, H2⟩
  clear HF
  go_wp2
  go_ret2
  obtain ⟨r, k1, k2, k3⟩ := H
  exact ⟨rfl, below_box (k2.trans (H2.mono k2.size))⟩
set_option maxHeartbeats 400000 in
theorem value_noS (w : World) (s : Int) (hl : (s == 0) = false) (hl2 : ¬ s = 0) (h2 : isFil ⟨true, 0, s⟩ = false) :
    Calls Tryd.prog 9 #[iv ⟨true, 0, s⟩] w fun e w' => e = .returned (.tuple #[.string (str []), .bool false]) ∧ Below w.heap.size w w' := by
  have hbox := heap_alloc_new w (.cells #[.bool (⟨true, 0, s⟩ : Ino).d, .int .i64 (⟨true, 0, s⟩ : Ino).l, .int .i64 (⟨true, 0, s⟩ : Ino).s] 23)
  go_enter Tryd.func9, Tryd.ntmps9
  go_wp2_with fail
  refine (wri_new (Below.refl _ _) 9 (by decide) (by decide)).mono ?_
  rintro e w1 ⟨p, rfl, H⟩
  obtain ⟨c0, c1, c2⟩ := cells3 (H.block hbox)
  have HF := isFile_calls w1 ⟨true, 0, s⟩
  rw [h2] at HF
  clear h2
  go_wp2_with fail
  refine HF.mono ?_
  rintro e w2 ⟨rfl, H2⟩
  clear HF
  go_wp2
  go_ret2
  obtain ⟨r, k1, k2, k3⟩ := H
  exact ⟨rfl, below_box (k2.trans (H2.mono k2.size))⟩
set_option maxHeartbeats 400000 in
theorem value_file (w : World) (l s : Int) (h : isFil ⟨false, l, s⟩ = true) (hl : l ≤ 65535) (hs : s ≤ 1048576) :
    Calls Tryd.prog 9 #[iv ⟨false, l, s⟩] w fun e w' => e = .returned (.tuple #[.string (str (valI ⟨false, l, s⟩)), .bool true]) ∧ Below w.heap.size w w' := by
  have hbox := heap_alloc_new w (.cells #[.bool (⟨false, l, s⟩ : Ino).d, .int .i64 (⟨false, l, s⟩ : Ino).l, .int .i64 (⟨false, l, s⟩ : Ino).s] 23)
  have hws := ws_file ⟨false, l, s⟩ h
  go_enter Tryd.func9, Tryd.ntmps9
  go_wp2_with fail
  refine (wri_new (Below.refl _ _) 9 (by decide) (by decide)).mono ?_
  rintro e w1 ⟨p, rfl, H⟩
  obtain ⟨c0, c1, c2⟩ := cells3 (H.block hbox)
  have HF := isFile_calls w1 ⟨false, l, s⟩
  rw [h] at HF
  clear h
  go_wp2_with fail
  refine HF.mono ?_
  rintro e w2 ⟨rfl, H2⟩
  clear HF
  replace H := H.called H2
  clear c0 c1 c2
  obtain ⟨c0, c1, c2⟩ := cells3 (H.block hbox)
  go_wp2_with fail
  refine (wri_byte H 2 (by decide)).mono ?_
  rintro e w3 ⟨rfl, H3⟩
  clear c0 c1 c2 H H2
  obtain ⟨c0, c1, c2⟩ := cells3 (H3.block hbox)
  go_wp2_with fail
  refine (wri_word H3 l (by omega)).mono ?_
  rintro e w4 ⟨rfl, H4⟩
  clear c0 c1 c2 H3
  obtain ⟨c0, c1, c2⟩ := cells3 (H4.block hbox)
  go_wp2_with fail
  refine (wri_word H4 s (by omega)).mono ?_
  rintro e w5 ⟨rfl, H5⟩
  rw [hws] at H5
  clear c0 c1 c2 H4 hws
  go_wp2_with fail
  refine (wri_written H5 _ rfl).mono ?_
  rintro e w6 ⟨rfl, H6⟩
  go_wp2
  go_ret2
  exact ⟨rfl, below_box H6⟩
/-- Value: of what is right its value, else nothing. -/
theorem value_calls (w : World) (n : Ino) :
    Calls Tryd.prog 9 #[iv n] w fun e w' => e = .returned (.tuple #[.string (str (valT n)), .bool (rightI n)]) ∧ Below w.heap.size w w' := by
  by_cases hd : isDir n = true
  · obtain rfl := isDir_eq hd
    exact value_dir w
  · rw [Bool.not_eq_true] at hd
    by_cases hf : isFil n = true
    · have hr : rightI n = true := by rw [rightI, hf, Bool.or_true]
      rw [valT, if_pos hr, hr]
      obtain ⟨h0, h1, h2, h3, h4⟩ := isFil_in hf
      obtain ⟨d, l, s⟩ := n
      obtain rfl : d = false := h0
      exact value_file w l s hf h2 h4
    · rw [Bool.not_eq_true] at hf
      have hr : rightI n = false := by rw [rightI, hd, hf]; rfl
      rw [valT, if_neg (by rw [hr]; decide), hr]
      obtain ⟨d, l, s⟩ := n
      cases d with
      | false => exact value_noF w l s hf
      | true =>
        by_cases hl : l = 0
        · subst hl
          have hs : ¬ s = 0 := by rintro rfl; exact absurd hd (by decide)
          exact value_noS w s (by simpa using hs) hs hf
        · exact value_noL w l s (by simpa using hl) hl hf

set_option maxHeartbeats 400000 in
theorem number_no1 (w : World) (n : Int) (h : n < 1) :
    Calls Tryd.prog 13 #[.int .i64 n] w fun e w' => e = .returned (.tuple #[.string (str []), .bool false]) ∧ Below w.heap.size w w' := by
  go_enter Tryd.func13, Tryd.ntmps13
  go_wp2
  go_ret2
  exact ⟨rfl, Below.refl _ _⟩
set_option maxHeartbeats 400000 in
theorem number_no2 (w : World) (n : Int) (h : 1073741824 ≤ n) :
    Calls Tryd.prog 13 #[.int .i64 n] w fun e w' => e = .returned (.tuple #[.string (str []), .bool false]) ∧ Below w.heap.size w w' := by
  have h1 : ¬ n < 1 := by omega
  go_enter Tryd.func13, Tryd.ntmps13
  go_wp2
  go_ret2
  exact ⟨rfl, Below.refl _ _⟩
set_option maxHeartbeats 400000 in
theorem number_yes (w : World) (n : Int) (h : okNum n = true) (h1 : ¬ n < 1) (h2 : n < 1073741824) :
    Calls Tryd.prog 13 #[.int .i64 n] w fun e w' => e = .returned (.tuple #[.string (str (numT n)), .bool true]) ∧ Below w.heap.size w w' := by
  have hws := ws_num n h
  clear h
  go_enter Tryd.func13, Tryd.ntmps13
  go_wp2_with fail
  refine (wri_new (Below.refl _ _) 4 (by decide) (by decide)).mono ?_
  rintro e w1 ⟨p, rfl, H⟩
  go_wp2_with fail
  refine (wri_word H n (by omega)).mono ?_
  rintro e w2 ⟨rfl, H2⟩
  rw [hws] at H2
  clear hws H
  go_wp2_with fail
  refine (wri_written H2 _ rfl).mono ?_
  rintro e w6 ⟨rfl, H6⟩
  go_wp2
  go_ret2
  exact ⟨rfl, H6⟩
theorem inumber_calls (w : World) (n : Int) :
    Calls Tryd.prog 13 #[.int .i64 n] w fun e w' => e = .returned (.tuple #[.string (str (numT n)), .bool (okNum n)]) ∧ Below w.heap.size w w' := by
  by_cases h1 : n < 1
  · have e : okNum n = false := by rw [okNum, decide_eq_false (by omega)]; rfl
    rw [numT, e]
    exact number_no1 w n h1
  · by_cases h2 : n < 1073741824
    · have e : okNum n = true := by rw [okNum, decide_eq_true (by omega), decide_eq_true h2]; rfl
      rw [e]
      exact number_yes w n e h1 h2
    · have e : okNum n = false := by rw [okNum, decide_eq_false h2, Bool.and_false]
      rw [numT, e]
      exact number_no2 w n (by omega)

/-- All bytes of a chunk. -/
def fullP (L : List UInt8) : List UInt8 := L.take 32 ++ List.replicate (32 - (L.take 32).length) 0
set_option maxHeartbeats 400000 in
theorem full_calls (w : World) (L : List UInt8) :
    Calls Tryd.prog 19 #[.string (str L)] w fun e w' => e = .returned (.string (str (fullP L))) ∧ Below w.heap.size w w' := by
  have hws : ((⟨32, [], false⟩ : WS).put (L.take 32)).fill 32 = ⟨32, fullP L, false⟩ := ws_full (L.take 32) (by rw [List.length_take]; omega)
  have hl : (L.take 32).length ≤ 140737488351232 := by rw [List.length_take]; omega
  have HF := fun w => first_calls w L 32 32 rfl
  go_enter Tryd.func19, Tryd.ntmps19
  go_wp2_with fail
  refine (wri_new (Below.refl _ _) 32 (by decide) (by decide)).mono ?_
  rintro e w1 ⟨p, rfl, H⟩
  go_wp2_with fail
  refine (HF _).mono ?_
  rintro e w2 ⟨rfl, hw⟩
  rw [hw]
  clear hw HF
  go_wp2_with fail
  refine (wri_raw H _ hl).mono ?_
  rintro e w3 ⟨rfl, H3⟩
  clear H hl
  go_wp2_with fail
  refine (wri_fill H3 32 (by decide)).mono ?_
  rintro e w4 ⟨rfl, H4⟩
  rw [hws] at H4
  clear H3 hws
  go_wp2_with fail
  refine (wri_written H4 _ rfl).mono ?_
  rintro e w5 ⟨rfl, H5⟩
  go_wp2
  go_ret
  exact ⟨rfl, H5⟩

/-- Noughts at the end, taken away; of the first 32 bytes. -/
def trimmed (L : List UInt8) : List UInt8 := Lib.trimRightB (L.take 32) 0
theorem trim_length (L : List UInt8) (c : UInt8) : (Lib.trimRightB L c).length ≤ L.length := by
  unfold Lib.trimRightB
  rw [List.length_reverse]
  have := (List.dropWhile_sublist (· == c) (l := L.reverse)).length_le
  simpa using this
set_option maxHeartbeats 400000 in
theorem clone_calls (w : World) (L : List UInt8) (hl : L.length ≤ 32) :
    Calls Tryd.prog 36 #[.string (str L)] w fun e w' => e = .returned (.string (str L)) ∧ Below w.heap.size w w' := by
  have H := Any.stringslite_Clone Tryd.cloneA (str L) w (by rw [str_size]; omega)
  go_enter Tryd.func36, Tryd.ntmps36
  go_wp2_with fail
  refine H.mono ?_
  rintro e w1 ⟨rfl, hb⟩
  clear H
  go_wp2
  go_ret
  exact ⟨rfl, hb⟩
set_option maxHeartbeats 400000 in
theorem trim_calls (w : World) (L : List UInt8) :
    Calls Tryd.prog 17 #[.string (str L)] w fun e w' => e = .returned (.string (str (trimmed L))) ∧ Below w.heap.size w w' := by
  have hl : (L.take 32).length ≤ 32 := by rw [List.length_take]; omega
  have HF := fun w => first_calls w L 32 32 rfl
  have HT := fun w => Any.strings_TrimRight_one Tryd.trimA (str (L.take 32)) 0 (by decide) w (by rw [str_size]; omega)
  rw [str_list] at HT
  have HC := fun w => clone_calls w (trimmed L) (Nat.le_trans (trim_length _ _) hl)
  go_enter Tryd.func17, Tryd.ntmps17
  go_wp2_with fail
  refine (HF _).mono ?_
  rintro e w2 ⟨rfl, hw⟩
  rw [hw]
  clear hw HF
  go_wp2_with fail
  refine (HT _).mono ?_
  rintro e w3 ⟨rfl, hw⟩
  rw [hw]
  clear hw HT
  go_wp2_with fail
  refine (HC _).mono ?_
  rintro e w4 ⟨rfl, hb⟩
  clear HC
  go_wp2
  go_ret
  exact ⟨rfl, hb⟩
end Go.Proofs.YtgijkgcekfbgeaaDoor
