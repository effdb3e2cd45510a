/- The document's own functions of layer 11. -/
import Derived.Test.YtgijkgcekfbgeaaDoorChu11
import Derived.Test.YtgijkgcekfbgeaaDoorRefX
namespace Go.Proofs.YtgijkgcekfbgeaaDoor
set_option linter.unusedVariables false
open Go.RowKit

set_option maxHeartbeats 800000 in
theorem rright_calls (w : World) (n : Ino) :
    Calls Tryd.prog 26 #[iv n] w fun e w' => e = .returned (.bool (rightI n)) ∧ Below w.heap.size w w' := by
  obtain ⟨d, l, s⟩ := n
  cases d with
  | false =>
    rw [show rightI ⟨false, l, s⟩ = (decide (1 ≤ l) && decide (l ≤ 65535) && decide (0 ≤ s) && decide (s ≤ 1048576)) by simp [rightI, isDir, isFil]]
    go_enter Tryd.func26, Tryd.ntmps26
    go_wp2
    all_goals
      go_ret
      refine ⟨congrArg (fun b => Ending.returned (Value.bool b)) ?_, (Below.refl _ _).alloc (Nat.le_refl _) _⟩
      first
      | (simp_all; done)
      | (simp_all; omega)
  | true =>
    rw [show rightI ⟨true, l, s⟩ = (decide (l = 0) && decide (s = 0)) by simp [rightI, isDir, isFil]]
    go_enter Tryd.func26, Tryd.ntmps26
    go_wp2
    all_goals
      go_ret
      refine ⟨congrArg (fun b => Ending.returned (Value.bool b)) ?_, (Below.refl _ _).alloc (Nat.le_refl _) _⟩
      first
      | (simp_all; done)
      | (simp_all; rw [Bool.eq_iff_iff]; simp; done)

/-- The document's writer, new since the world w. -/
def Kri (w w1 : World) (q : Nat) (S : WS) : Prop := KR w1 q S ∧ Below w.heap.size w w1 ∧ w.heap.size ≤ q
theorem kri_new {w w0 : World} (hb : Below w.heap.size w w0) (n : Int) (h0 : 0 ≤ n) (h1 : n ≤ 2147483647) :
    Calls Tryd.prog 27 #[.int .i64 n] w0 fun e w' => ∃ p, e = .returned (.pointer (some ⟨p, 0, none⟩)) ∧ Kri w w' p ⟨n, [], false⟩ := by
  refine (knew_calls w0 n h0 h1).mono ?_
  rintro e w' ⟨rfl, h, k⟩
  exact ⟨_, rfl, h, behind hb k, hb.size⟩
theorem kri_byte {w w1 : World} {p : Nat} {S : WS} (h : Kri w w1 p S) (v : Int) (hv0 : -9223372036854775808 ≤ v) (hv : v ≤ 9223372036854775807) :
    Calls Tryd.prog 28 #[.pointer (some ⟨p, 0, none⟩), .int .i64 v] w1 fun e w' => e = .returned (.tuple #[]) ∧ Kri w w' p (S.byte v) := by
  obtain ⟨h1, h2, h3⟩ := h
  refine (kbyte_calls w1 p v S h1 hv0 hv).mono ?_
  rintro e w' ⟨rfl, g1, g2⟩
  exact ⟨rfl, g1, h2.trans (g2.below h2.size h3 fun k hk => by cases hk), h3⟩
theorem kri_word {w w1 : World} {p : Nat} {S : WS} (h : Kri w w1 p S) (v : Int) (hv0 : -9223372036854775808 ≤ v) (hv : v ≤ 9223372036854775807) :
    Calls Tryd.prog 30 #[.pointer (some ⟨p, 0, none⟩), .int .i64 v] w1 fun e w' => e = .returned (.tuple #[]) ∧ Kri w w' p (S.word v) := by
  obtain ⟨h1, h2, h3⟩ := h
  refine (kword_calls w1 p v S h1 hv0 hv).mono ?_
  rintro e w' ⟨rfl, g1, g2⟩
  exact ⟨rfl, g1, h2.trans (g2.below h2.size h3 fun k hk => by cases hk), h3⟩
theorem kri_done {w w1 : World} {p : Nat} {S : WS} (h : Kri w w1 p S) (L : List UInt8) (hS : S = ⟨S.m, L, false⟩) :
    Calls Tryd.prog 29 #[.pointer (some ⟨p, 0, none⟩)] w1 fun e w' => e = .returned (.tuple #[.string (str L), .bool true]) ∧ Below w.heap.size w w' := by
  obtain ⟨h1, h2, h3⟩ := h
  refine (kdone_ok w1 p S h1 (by rw [hS])).mono ?_
  rintro e w' ⟨rfl, g⟩
  rw [g]
  exact ⟨by rw [hS], h2⟩
theorem Kri.block {w w1 : World} {p : Nat} {S : WS} (h : Kri w w1 p S) {b : Nat} {o : Obj} (hb : w.heap[b]? = some o) : w1.heap[b]? = some o :=
  (h.2.1.block b (lt_of_block hb)).trans hb
set_option maxHeartbeats 400000 in
theorem rvalue_no (w : World) (n : Ino) (h : rightI n = false) :
    Calls Tryd.prog 10 #[iv n] w fun e w' => e = .returned (.tuple #[.string (str []), .bool false]) ∧ Below w.heap.size w w' := by
  have HR := fun w => rright_calls w n
  rw [h] at HR
  clear h
  go_enter Tryd.func10, Tryd.ntmps10
  go_wp2_with fail
  refine (HR _).mono ?_
  rintro e w1 ⟨rfl, H⟩
  clear HR
  go_wp2
  go_ret2
  exact ⟨rfl, below_box H⟩
set_option maxHeartbeats 400000 in
theorem rvalue_dir (w : World) :
    Calls Tryd.prog 10 #[iv dirI] w fun e w' => e = .returned (.tuple #[.string (str (valI dirI)), .bool true]) ∧ Below w.heap.size w w' := by
  have hbox := heap_alloc_new w (.cells #[.bool true, .int .i64 0, .int .i64 0] 23)
  have HR : ∀ w, Calls Tryd.prog 26 #[iv dirI] w fun e w' => e = .returned (.bool true) ∧ Below w.heap.size w w' := fun w => rright_calls w dirI
  go_enter Tryd.func10, Tryd.ntmps10
  go_wp2_with fail
  refine (HR _).mono ?_
  rintro e w1 ⟨rfl, H⟩
  clear HR
  go_wp2_with fail
  refine (kri_new H 9 (by decide) (by decide)).mono ?_
  rintro e w2 ⟨p, rfl, H2⟩
  obtain ⟨c0, c1, c2⟩ := cells3 (H2.block hbox)
  go_wp2_with fail
  refine (kri_byte H2 1 (by decide) (by decide)).mono ?_
  rintro e w3 ⟨rfl, H3⟩
  rw [ws_dir] at H3
  go_wp2_with fail
  refine (kri_done H3 _ rfl).mono ?_
  rintro e w4 ⟨rfl, H4⟩
  go_wp2
  go_ret2
  exact ⟨rfl, below_box H4⟩
set_option maxHeartbeats 400000 in
theorem rvalue_file (w : World) (l s : Int) (h : isFil ⟨false, l, s⟩ = true) (hl0 : 1 ≤ l) (hl : l ≤ 65535) (hs0 : 0 ≤ s) (hs : s ≤ 1048576) :
    Calls Tryd.prog 10 #[iv ⟨false, l, s⟩] w fun e w' => e = .returned (.tuple #[.string (str (valI ⟨false, l, s⟩)), .bool true]) ∧ Below w.heap.size w w' := by
  have hbox := heap_alloc_new w (.cells #[.bool (⟨false, l, s⟩ : Ino).d, .int .i64 (⟨false, l, s⟩ : Ino).l, .int .i64 (⟨false, l, s⟩ : Ino).s] 23)
  have hws := ws_file ⟨false, l, s⟩ h
  have hr : rightI ⟨false, l, s⟩ = true := by rw [rightI, h, Bool.or_true]
  have HR := fun w => rright_calls w ⟨false, l, s⟩
  rw [hr] at HR
  clear h hr
  go_enter Tryd.func10, Tryd.ntmps10
  go_wp2_with fail
  refine (HR _).mono ?_
  rintro e w1 ⟨rfl, H⟩
  clear HR
  go_wp2_with fail
  refine (kri_new H 9 (by decide) (by decide)).mono ?_
  rintro e w2 ⟨p, rfl, H2⟩
  obtain ⟨c0, c1, c2⟩ := cells3 (H2.block hbox)
  go_wp2_with fail
  refine (kri_byte H2 2 (by decide) (by decide)).mono ?_
  rintro e w3 ⟨rfl, H3⟩
  clear c0 c1 c2 H2
  obtain ⟨c0, c1, c2⟩ := cells3 (H3.block hbox)
  go_wp2_with fail
  refine (kri_word H3 l (by omega) (by omega)).mono ?_
  rintro e w4 ⟨rfl, H4⟩
  clear c0 c1 c2 H3
  obtain ⟨c0, c1, c2⟩ := cells3 (H4.block hbox)
  go_wp2_with fail
  refine (kri_word H4 s (by omega) (by omega)).mono ?_
  rintro e w5 ⟨rfl, H5⟩
  rw [hws] at H5
  clear c0 c1 c2 H4 hws
  go_wp2_with fail
  refine (kri_done H5 _ rfl).mono ?_
  rintro e w6 ⟨rfl, H6⟩
  go_wp2
  go_ret2
  exact ⟨rfl, below_box H6⟩
theorem rvalue_calls (w : World) (n : Ino) :
    Calls Tryd.prog 10 #[iv n] w fun e w' => e = .returned (.tuple #[.string (str (valT n)), .bool (rightI n)]) ∧ Below w.heap.size w w' := by
  by_cases hr : rightI n = true
  · rw [valT, if_pos hr, hr]
    rcases right_cases hr with rfl | ⟨h0, h1, h2, h3, h4⟩
    · exact rvalue_dir w
    · obtain ⟨d, l, s⟩ := n
      obtain rfl : d = false := h0
      exact rvalue_file w l s (by simpa [rightI, isDir] using hr) h1 h2 h3 h4
  · have hf : rightI n = false := by simpa using hr
    rw [valT, if_neg hr, hf]
    exact rvalue_no w n hf

set_option maxHeartbeats 400000 in
theorem rnumber_no (w : World) (n : Int) (h : n < 1 ∨ 1073741824 ≤ n) :
    Calls Tryd.prog 14 #[.int .i64 n] w fun e w' => e = .returned (.tuple #[.string (str []), .bool false]) ∧ Below w.heap.size w w' := by
  by_cases h1 : n < 1
  · clear h
    go_enter Tryd.func14, Tryd.ntmps14
    go_wp2
    go_ret2
    exact ⟨rfl, Below.refl _ _⟩
  · have h2 : 1073741824 ≤ n := by omega
    clear h
    go_enter Tryd.func14, Tryd.ntmps14
    go_wp2
    go_ret2
    exact ⟨rfl, Below.refl _ _⟩
set_option maxHeartbeats 400000 in
theorem rnumber_yes (w : World) (n : Int) (h : okNum n = true) (h1 : ¬ n < 1) (h2 : n < 1073741824) :
    Calls Tryd.prog 14 #[.int .i64 n] w fun e w' => e = .returned (.tuple #[.string (str (numT n)), .bool true]) ∧ Below w.heap.size w w' := by
  have hws := ws_num n h
  clear h
  go_enter Tryd.func14, Tryd.ntmps14
  go_wp2_with fail
  refine (kri_new (Below.refl _ _) 4 (by decide) (by decide)).mono ?_
  rintro e w1 ⟨p, rfl, H⟩
  go_wp2_with fail
  refine (kri_word H n (by omega) (by omega)).mono ?_
  rintro e w2 ⟨rfl, H2⟩
  rw [hws] at H2
  clear hws H
  go_wp2_with fail
  refine (kri_done H2 _ rfl).mono ?_
  rintro e w6 ⟨rfl, H6⟩
  go_wp2
  go_ret2
  exact ⟨rfl, H6⟩
theorem rnumber_calls (w : World) (n : Int) :
    Calls Tryd.prog 14 #[.int .i64 n] w fun e w' => e = .returned (.tuple #[.string (str (numT n)), .bool (okNum n)]) ∧ Below w.heap.size w w' := by
  by_cases h : okNum n = true
  · have := okNum_in h
    rw [h]
    exact rnumber_yes w n h (by omega) (by omega)
  · have e : okNum n = false := by simpa using h
    rw [numT, e]
    refine rnumber_no w n ?_
    simp only [okNum, Bool.and_eq_false_iff, decide_eq_false_iff_not] at e
    omega

/-- The document's reader, new since the world w. -/
def Qri (w w1 : World) (q : Nat) (t : RS) : Prop := KQ w1 q t ∧ Below w.heap.size w w1 ∧ w.heap.size ≤ q
theorem Qri.block {w w1 : World} {p : Nat} {S : RS} (h : Qri w w1 p S) {b : Nat} {o : Obj} (hb : w.heap[b]? = some o) : w1.heap[b]? = some o :=
  (h.2.1.block b (lt_of_block hb)).trans hb
theorem qri_byte {w w1 : World} {q : Nat} {S : RS} (h : Qri w w1 q S) :
    Calls Tryd.prog 32 #[.pointer (some ⟨q, 0, none⟩)] w1 fun e w' => e = .returned (.int .i64 (num (S.got 1) : Int)) ∧ Qri w w' q (S.take 1) ∧ Touch q none w1 w' := by
  obtain ⟨h1, h2, h3⟩ := h
  refine (kbyte_reads w1 q S h1).mono ?_
  rintro e w' ⟨rfl, g1, g2⟩
  exact ⟨rfl, ⟨g1, h2.trans (g2.below h2.size h3 fun k hk => by cases hk), h3⟩, g2⟩
theorem qri_word {w w1 : World} {q : Nat} {S : RS} (h : Qri w w1 q S) :
    Calls Tryd.prog 33 #[.pointer (some ⟨q, 0, none⟩)] w1 fun e w' => e = .returned (.int .i64 (num (S.got 4) : Int)) ∧ Qri w w' q (S.take 4) ∧ Touch q none w1 w' := by
  obtain ⟨h1, h2, h3⟩ := h
  refine (kword_reads w1 q S h1).mono ?_
  rintro e w' ⟨rfl, g1, g2⟩
  exact ⟨rfl, ⟨g1, h2.trans (g2.below h2.size h3 fun k hk => by cases hk), h3⟩, g2⟩
theorem qri_new (w : World) (L : List UInt8) : Qri w (w.alloc (.cells #[.string (str L), .bool false] 48)) w.heap.size (rd0 L) :=
  ⟨⟨heap_alloc_new _ _, fun h => by cases h⟩, (Below.refl _ _).alloc (Nat.le_refl _) _, Nat.le_refl _⟩
set_option maxHeartbeats 800000 in
theorem rnumbered_of (w : World) (L T : List UInt8) (N : Int) (hN : N = (num ((rd0 L).got 4) : Int))
    (ok b : Bool) (HV : ∀ w, Calls Tryd.prog 14 #[.int .i64 N] w fun e w' => e = .returned (.tuple #[.string (str T), .bool ok]) ∧ Below w.heap.size w w') (hb : b = true ∧ ok = true ∧ ((str T).toList == (str L).toList) = true ∨ b = false ∧ ok = false ∨ b = false ∧ ok = true ∧ ((str T).toList == (str L).toList) = false) :
    Calls Tryd.prog 16 #[.string (str L)] w fun e w' => e = .returned (.tuple #[.int .i64 (if b = true then N else 0), .bool b]) ∧ Below w.heap.size w w' := by
  have H := qri_new w L
  go_enter Tryd.func16, Tryd.ntmps16
  go_wp2_with fail
  refine (qri_word H).mono ?_
  rw [← hN]
  clear hN
  rintro e w2 ⟨rfl, H2, -⟩
  go_wp2_with fail
  refine (HV _).mono ?_
  rintro e w3 ⟨rfl, H3⟩
  clear HV
  have HB := behind H2.2.1 H3
  clear H H2 H3
  rcases hb with ⟨rfl, rfl, hne⟩ | ⟨rfl, rfl⟩ | ⟨rfl, rfl, hne⟩
  all_goals
    go_wp2
    go_ret2
    exact ⟨rfl, HB⟩
theorem rnumbered_calls (w : World) (L : List UInt8) :
    Calls Tryd.prog 16 #[.string (str L)] w fun e w' => NmTo L w e w' := by
  have hof := nm_is (f := fun L => (num ((rd0 L).got 4) : Int)) word_back L
  unfold nmI at hof
  obtain ⟨N, hN⟩ : ∃ N : Int, N = (num ((rd0 L).got 4) : Int) := ⟨_, rfl⟩
  simp only [← hN] at hof
  by_cases hr : okNum N = true
  · have HV := fun w => rnumber_calls w N
    rw [numT, if_pos hr, hr] at HV
    by_cases hv : be N.toNat 4 = L
    · refine (rnumbered_of w L _ N hN true true HV (.inl ⟨rfl, rfl, by rw [hv, str_ne]; simp⟩)).mono fun e w' ⟨h1, h2⟩ => ⟨_, hof, ?_, h2⟩
      rw [if_pos ⟨hr, hv⟩]
      exact h1
    · refine (rnumbered_of w L _ N hN true false HV (.inr (.inr ⟨rfl, rfl, by rw [str_ne]; simpa using hv⟩))).mono fun e w' ⟨h1, h2⟩ => ⟨_, hof, ?_, h2⟩
      rw [if_neg (fun h => hv h.2)]
      exact h1
  · have HV := fun w => rnumber_calls w N
    refine (rnumbered_of w L _ N hN _ false HV (.inr (.inl ⟨rfl, by simpa using hr⟩))).mono fun e w' ⟨h1, h2⟩ => ⟨_, hof, ?_, h2⟩
    rw [if_neg (fun h => hr h.1)]
    exact h1
end Go.Proofs.YtgijkgcekfbgeaaDoor
