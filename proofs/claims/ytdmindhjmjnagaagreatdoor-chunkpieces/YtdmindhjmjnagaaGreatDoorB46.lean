import Derived.Test.YtdmindhjmjnagaaGreatDoorB45
/- chunk over a view of nothing; the statements' shown. -/
namespace Go.Proofs.YtdmindhjmjnagaaGreatDoor
set_option linter.unusedVariables false
set_option maxRecDepth 100000
open Go.RowKit

theorem change_len (V : VS) (c : Ch) : (V.change c).C.length ≤ V.C.length + 1 := by
  show (putA Ch.n V.C c).length ≤ _
  have : ∀ l : List Ch, (putA Ch.n l c).length ≤ l.length + 1 := fun l => by
    induction l with
    | nil => simp [putA]
    | cons a r ih =>
      unfold putA
      split
      · simp only [List.length_cons]; omega
      · split <;> simp
  exact this _
theorem chAll_len (V : VS) (l : List Pa) : (chAll V l).C.length ≤ V.C.length + l.length := by
  unfold chAll
  induction l generalizing V with
  | nil => simp
  | cons p r ih =>
    rw [List.foldl_cons]
    have h1 := ih (V.change (chgP p))
    have h2 := change_len V (chgP p)
    rw [List.length_cons]
    omega
theorem writeV_len (V : VS) (ge : Kz → List UInt8 × Bool × Int) (ino : Int) (off : Nat) (data : List UInt8) : (writeV V ge ino off data).C.length ≤ V.C.length + pN off data.length := by
  unfold writeV
  have h1 := chAll_len (getG V ino off data (List.range (pN off data.length))) (putG ge ino off data V.C (List.range (pN off data.length)))
  rw [getG_C, putG_length, List.length_range] at h1
  exact h1
theorem lives_len (C : List Ch) (s : Sp) : (lives C s).length ≤ C.length := by
  unfold lives inL
  rw [List.length_map]
  exact Nat.le_trans (List.length_filter_le _ _) (List.length_filter_le _ _)
/-- What is read of a file in changes over nothing. -/
def readB (C : List Ch) (ino : Int) (off n : Nat) : List UInt8 := readP (lives C (betS ino ((off / 32 : Nat) : Int) (((off + n - 1) / 32 : Nat) : Int))) ino off n
/-- What Cut leaves of a view over nothing. -/
def cutV (V : VS) (ino size : Int) : VS := chAll { V with R := V.R ++ [chsS ino (size / 32)] } (cutL size (lives V.C (chsS ino (size / 32))))
theorem cutV_len (V : VS) (ino size : Int) : (cutV V ino size).C.length ≤ V.C.length + V.C.length := by
  unfold cutV
  have h1 := chAll_len { V with R := V.R ++ [chsS ino (size / 32)] } (cutL size (lives V.C (chsS ino (size / 32))))
  have h2 := cutL_length size (lives V.C (chsS ino (size / 32)))
  have h3 := lives_len V.C (chsS ino (size / 32))
  have h4 : ({ V with R := V.R ++ [chsS ino (size / 32)] } : VS).C.length = V.C.length := rfl
  omega
theorem NV.asc {d : NV} {w0 y : World} (h : d.at_ w0 y) : Asc Ch.n d.V.C := h.vw.mapC.asc
theorem nvWrite {d : NV} {w0 y : World} (h : d.at_ w0 y) (ino : Int) (off : Nat) (data : List UInt8) (h1 : okNum ino = true) (hn : d.x.n + 5 * pN off data.length ≤ 5000) (hod : off + data.length ≤ 1048576) :
    Calls Tryz.prog 12 #[.pointer (some ⟨d.q, 0, none⟩), .int .i64 ino, .int .i64 (off : Int), .string (str data)] y fun e y' => e = .returned (.int .i64 0) ∧ ∃ x', VRan noB w0 d.lim (NI d.lim d.p d.pv d.base) 9 (nI d.p) d.q d.x (d.x.n + 5 * pN off data.length) (writeV d.V (plGe []) ino off data) y x' y' :=
  cWrite_ok (ni_base d.lim d.p d.pv d.base) (fun _ => rfl) w0 y 9 d.q d.x d.V ino off data (VAt.re _ h) hn hod h1
theorem nvRead {d : NV} {w0 y : World} (h : d.at_ w0 y) (ino : Int) (off n : Nat) (h1 : okNum ino = true) (hn : d.x.n ≤ 5000) (hC : d.V.C.length ≤ 5000) (hon : off + n ≤ 1048576) :
    Calls Tryz.prog 16 #[.pointer (some ⟨d.q, 0, none⟩), .int .i64 ino, .int .i64 (off : Int), .int .i64 (n : Int)] y fun e y' => e = .returned (.tuple #[.string (str (readB d.V.C ino off n)), .int .i64 0]) ∧ ∃ x', VRan noB w0 d.lim (NI d.lim d.p d.pv d.base) 9 (nI d.p) d.q d.x (d.x.n + 4) (readV d.V ino off n) y x' y' :=
  cRead_ok (ni_base d.lim d.p d.pv d.base) w0 y 9 d.q d.x d.V (VAt.re _ h) hn ino off n hon _ (fun _ => ⟨scan_lives (NV.asc h) _, lives_asc (NV.asc h) _, by have := lives_len d.V.C (betS ino ((off / 32 : Nat) : Int) (((off + n - 1) / 32 : Nat) : Int)); omega⟩) h1
theorem nvCut {d : NV} {w0 y : World} (h : d.at_ w0 y) (ino size : Int) (h1 : okNum ino = true) (hsz : 0 ≤ size ∧ size ≤ 1048576) (hn : d.x.n + 4 + 4 * d.V.C.length ≤ 5000) :
    Calls Tryz.prog 14 #[.pointer (some ⟨d.q, 0, none⟩), .int .i64 ino, .int .i64 size] y fun e y' => e = .returned (.int .i64 0) ∧ ∃ x', VRan noB w0 d.lim (NI d.lim d.p d.pv d.base) 9 (nI d.p) d.q d.x (d.x.n + 4 + 4 * d.V.C.length) (cutV d.V ino size) y x' y' := by
  have hl := lives_len d.V.C (chsS ino (size / 32))
  refine (cCut_ok (ni_base d.lim d.p d.pv d.base) w0 y 9 d.q d.x d.V (VAt.re _ h) ino size hsz (lives d.V.C (chsS ino (size / 32))) (scan_lives (NV.asc h) _) (by omega) h1).mono fun e y' r => ?_
  obtain ⟨r1, x', T⟩ := r
  exact ⟨r1, x', T.at_, T.fr, T.own, by have := T.n; omega⟩
theorem nvChanges {d : NV} {w0 y : World} (h : d.at_ w0 y) (hn : d.x.n ≤ 5000) :
    Calls Tryz.prog 19 #[.pointer (some ⟨d.q, 0, none⟩)] y fun e y' => ∃ ad cap, e = .returned (.slice ad d.V.C.length cap) ∧ Own encC 95 y' y.heap.size (.slice ad d.V.C.length cap) (d.V.C.map Ch.plain) ∧ Below y.heap.size y y' :=
  vchanges_calls y d.q (nI d.p) d.x d.V h.vw hn
/-! shown -/
def s13a : VS := writeV vs0 (plGe []) 1 31 [97, 98, 99]
def s13b : VS := readV s13a 1 30 5
def s13c : VS := cutV s13b 1 32
theorem s13_len : s13b.C.length = 2 := by kernel_rfl
theorem s13_r1 : readB s13a.C 1 30 5 = [0, 97, 98, 99, 0] := by kernel_rfl
theorem s13_r2 : readB s13c.C 1 30 5 = [0, 97, 0, 0, 0] := by kernel_rfl
theorem s13_lc : s13c.C.length = 2 := by kernel_rfl
theorem s13_la : s13a.C.length = 2 := by kernel_rfl
set_option maxRecDepth 100000 in
set_option maxHeartbeats 8000000 in
theorem shown13_calls (w : World) : Calls Tryz.prog 9 #[] w fun e w' => e = .returned (.bool true) ∧ Below w.heap.size w w' := by
  have hN := nvNew_calls w w (Below.refl _ _)
  go_enter Tryz.func9, Tryz.ntmps9
  go_upto_region 4 with (go_at_call 10; refine hN.mono ?_; clear hN; rintro e y0 ⟨d, rfl, A0, v0, n0, -, -⟩)
  obtain ⟨lim, p, pv, base, q, x0, V0⟩ := d
  dsimp only at v0 n0 ⊢
  subst v0
  have HN0 : Hid (x0.n = 0) := n0
  have h1 := nvWrite A0 1 31 [97, 98, 99] rfl (by show x0.n + 5 * 2 ≤ 5000; omega) (by decide)
  clear A0 n0
  go_upto_region 5 with (go_at_call 12; refine h1.mono ?_; clear h1; rintro e y1 ⟨rfl, x1, T1⟩)
  have A1 : NV.at_ ⟨lim, p, pv, base, q, x1, s13a⟩ w y1 := NV.ran (d := ⟨lim, p, pv, base, q, x0, vs0⟩) T1
  have HN1 : Hid (x1.n ≤ 10) := (show _ ≤ _ by have h : x1.n ≤ x0.n + 5 * 2 := T1.n; have := HN0.out; omega)
  have h2 := nvRead A1 1 30 5 rfl (by show x1.n ≤ 5000; have := HN1.out; omega) (by show s13a.C.length ≤ 5000; rw [s13_la]; omega) (by decide)
  rw [show readB (NV.V ⟨lim, p, pv, base, q, x1, s13a⟩).C 1 30 5 = [0, 97, 98, 99, 0] from s13_r1] at h2
  clear T1 A1
  go_upto_region 6 with (go_at_call 16; refine h2.mono ?_; clear h2; rintro e y2 ⟨rfl, x2, T2⟩)
  have A2 : NV.at_ ⟨lim, p, pv, base, q, x2, s13b⟩ w y2 := NV.ran (d := ⟨lim, p, pv, base, q, x1, s13a⟩) T2
  have HN2 : Hid (x2.n ≤ 14) := (show _ ≤ _ by have h : x2.n ≤ x1.n + 4 := T2.n; have := HN1.out; omega)
  have h3 := nvChanges A2 (by show x2.n ≤ 5000; have := HN2.out; omega)
  have HA2 : Hid (NV.at_ ⟨lim, p, pv, base, q, x2, s13b⟩ w y2) := A2
  rw [show (NV.V ⟨lim, p, pv, base, q, x2, s13b⟩).C.length = 2 from s13_len] at h3
  clear T2 A2
  go_upto_region 7 with (go_at_call 19; refine h3.mono ?_; clear h3; rintro e y3 ⟨ad, cap, rfl, -, b3⟩)
  have A3 := NV.called HA2.out b3
  have h4 := nvCut A3 1 32 rfl (by decide) (by show x2.n + 4 + 4 * s13b.C.length ≤ 5000; rw [s13_len]; have := HN2.out; omega)
  clear A3 b3
  go_upto_region 8 with (go_at_call 14; refine h4.mono ?_; clear h4; rintro e y4 ⟨rfl, x4, T4⟩)
  have A4 : NV.at_ ⟨lim, p, pv, base, q, x4, s13c⟩ w y4 := NV.ran (d := ⟨lim, p, pv, base, q, x2, s13b⟩) T4
  have HN4 : Hid (x4.n ≤ 26) := (show _ ≤ _ by have h : x4.n ≤ x2.n + 4 + 4 * s13b.C.length := T4.n; rw [s13_len] at h; have := HN2.out; omega)
  have h5 := nvRead A4 1 30 5 rfl (by show x4.n ≤ 5000; have := HN4.out; omega) (by show s13c.C.length ≤ 5000; rw [s13_lc]; omega) (by decide)
  rw [show readB (NV.V ⟨lim, p, pv, base, q, x4, s13c⟩).C 1 30 5 = [0, 97, 0, 0, 0] from s13_r2] at h5
  clear T4 A4
  have hq1 : ((str [0, 97, 98, 99, 0]).toList == [0, 97, 98, 99, 0]) = true := by rw [str_toList]; rfl
  have hq2 : ((str [0, 97, 0, 0, 0]).toList == [0, 97, 0, 0, 0]) = true := by rw [str_toList]; rfl
  go_wp2_with (go_at_call 16; refine h5.mono ?_; clear h5; rintro e y5 ⟨rfl, x5, T5⟩)
  go_ret
  exact ⟨rfl, T5.at_.bel⟩
end Go.Proofs.YtdmindhjmjnagaaGreatDoor
