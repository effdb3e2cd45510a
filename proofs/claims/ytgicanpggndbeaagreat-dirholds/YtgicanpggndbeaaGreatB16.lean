import Derived.Test.YtgicanpggndbeaaGreatB15
import Derived.Lib.TrimByte
import Derived.Lib.ConvBytes
/- Package inode: Value, Number, Full, Trim. -/
namespace Go.Proofs.YtgicanpggndbeaaGreat
set_option linter.unusedVariables false
set_option maxRecDepth 100000
open Go.RowKit

theorem Wri.block {w w1 : World} {p : Nat} {S : WS} (h : Wri w w1 p S) {b : Nat} {o : Obj} (hb : w.heap[b]? = some o) : w1.heap[b]? = some o := by
  obtain ⟨r, h1, h2, h3⟩ := h
  exact (h2.block b (lt_of_block hb)).trans hb
theorem below_box {w w' : World} {o : Obj} (h : Below (w.alloc o).heap.size (w.alloc o) w') : Below w.heap.size w w' :=
  ((Below.refl _ w).alloc (Nat.le_refl _) o).trans (h.mono (by simp))
set_option maxHeartbeats 400000 in
theorem number_no1 (w : World) (n : Int) (h : n < 1) :
    Calls Tryz.prog 32 #[.int .i64 n] w fun e w' => e = .returned (.tuple #[.string (str []), .bool false]) ∧ Below w.heap.size w w' := by
  go_enter Tryz.func32, Tryz.ntmps32
  go_wp2
  go_ret2
  exact ⟨rfl, Below.refl _ _⟩
set_option maxHeartbeats 400000 in
theorem number_no2 (w : World) (n : Int) (h : 1073741824 ≤ n) :
    Calls Tryz.prog 32 #[.int .i64 n] w fun e w' => e = .returned (.tuple #[.string (str []), .bool false]) ∧ Below w.heap.size w w' := by
  have h1 : ¬ n < 1 := by omega
  go_enter Tryz.func32, Tryz.ntmps32
  go_wp2
  go_ret2
  exact ⟨rfl, Below.refl _ _⟩
set_option maxHeartbeats 400000 in
theorem number_yes (w : World) (n : Int) (h : okNum n = true) (h1 : ¬ n < 1) (h2 : n < 1073741824) :
    Calls Tryz.prog 32 #[.int .i64 n] w fun e w' => e = .returned (.tuple #[.string (str (numT n)), .bool true]) ∧ Below w.heap.size w w' := by
  have hws := ws_num n h
  clear h
  go_enter Tryz.func32, Tryz.ntmps32
  go_wp2_with fail
  refine (wri_new (Below.refl _ _) 4 (by decide) (by decide)).mono ?_
  rintro e w1 ⟨p, rfl, H⟩
  go_wp2_with fail
  refine (wri_word H n (by omega)).mono ?_
  rintro e w2 ⟨rfl, H2⟩
  rw [hws] at H2
  clear hws H
  go_wp2_with fail
  refine (wri_written H2 _ rfl).mono ?_
  rintro e w6 ⟨rfl, H6⟩
  go_wp2
  go_ret2
  exact ⟨rfl, H6⟩
theorem inumber_calls (w : World) (n : Int) :
    Calls Tryz.prog 32 #[.int .i64 n] w fun e w' => e = .returned (.tuple #[.string (str (numT n)), .bool (okNum n)]) ∧ Below w.heap.size w w' := by
  by_cases h1 : n < 1
  · have e : okNum n = false := by rw [okNum, decide_eq_false (by omega)]; rfl
    rw [numT, e]
    exact number_no1 w n h1
  · by_cases h2 : n < 1073741824
    · have e : okNum n = true := by rw [okNum, decide_eq_true (by omega), decide_eq_true h2]; rfl
      rw [e]
      exact number_yes w n e h1 h2
    · have e : okNum n = false := by rw [okNum, decide_eq_false h2, Bool.and_false]
      rw [numT, e]
      exact number_no2 w n (by omega)

/-- All bytes of a chunk. -/
def fullP (L : List UInt8) : List UInt8 := L.take 32 ++ List.replicate (32 - (L.take 32).length) 0
/-- Noughts at the end, taken away; of the first 32 bytes. -/
def trimmed (L : List UInt8) : List UInt8 := Lib.trimRightB (L.take 32) 0
theorem trim_length (L : List UInt8) (c : UInt8) : (Lib.trimRightB L c).length ≤ L.length := by
  unfold Lib.trimRightB
  rw [List.length_reverse]
  have := (List.dropWhile_sublist (· == c) (l := L.reverse)).length_le
  simpa using this
end Go.Proofs.YtgicanpggndbeaaGreat
/- Package inode: reader, said, Of, Numbered. -/
namespace Go.Proofs.YtgicanpggndbeaaGreat
set_option linter.unusedVariables false
set_option maxRecDepth 100000
open Go.RowKit

/-- A text as bytes, in a row of its own. -/
theorem conv_text (w : World) (L : List UInt8) : ∃ cap w1, (convert 9 140 (.string (str L))).run Tryz.prog w = .ok (.slice (some ⟨w.heap.size, 0, none⟩) L.length cap) w1 ∧ BytesIn w1 (.slice (some ⟨w.heap.size, 0, none⟩) L.length cap) L (some w.heap.size) ∧ Below w.heap.size w w1 := by
  have h := Lib.run_convert_string_bytes (P := Tryz.prog) w 9 140 5 (str L) Tryz.underlying9 Tryz.underlying140 Tryz.underlying5
  rw [str_size] at h
  refine ⟨_, _, h, ⟨_, _, rfl, grownCap_ge _ _ _ _, .inr ⟨w.heap.size, 0, rfl, rfl, by rw [Lib.bytesWorld_size]; omega, fun j u hu => ?_⟩⟩, ⟨rfl, rfl, rfl, by rw [Lib.bytesWorld_size]; omega, fun k hk => Lib.bytesWorld_at_old _ _ _ _ hk⟩⟩
  have hj := bc_get hu
  rw [Nat.zero_add, Lib.bytesWorld_cell w _ _ j (by rw [str_size]; exact hj), ← hu, bc_at L j hj, str_list]
  simp [List.getD, hj]
theorem upon_run {P : Program} {o : Oper} {a : Act} {K : Act → World → Prop} {Q : Exit → Act → World → Prop} {m : Sem Value} {w w' : World} {v : Value} (hr : m.run P w = .ok v w') (h : K (a.put o.dst v) w') : Oper.upon P o a K Q ((m.run P w).andThen fun a w' => Result.ok (Next.value a) w') := by
  rw [hr]
  simp only [Result.andThen]
  rw [Oper.upon_value]
  exact h

/-- A reader of one's own, new since the world w. -/
def Rea (w w1 : World) (q : Nat) (S : RS) : Prop := ∃ r, RdS w1 q S r ∧ Below w.heap.size w w1 ∧ w.heap.size ≤ q
theorem Rea.below {w w1 : World} {q : Nat} {S : RS} (h : Rea w w1 q S) : Below w.heap.size w w1 := by obtain ⟨r, _, h, _⟩ := h; exact h
theorem Rea.block {w w1 : World} {p : Nat} {S : RS} (h : Rea w w1 p S) {b : Nat} {o : Obj} (hb : w.heap[b]? = some o) : w1.heap[b]? = some o :=
  (h.below.block b (lt_of_block hb)).trans hb
set_option maxHeartbeats 400000 in
theorem reader_of (w : World) (L M : List UInt8) (N : Int) (HF : ∀ w, Calls Tryz.prog 126 #[.string (str L), .int .i64 N] w fun e w' => e = .returned (.string (str M)) ∧ w' = w) (hl : M.length ≤ 140737488351232) :
    Calls Tryz.prog 88 #[.string (str L), .int .i64 N] w fun e w' => ∃ q, e = .returned (.pointer (some ⟨q, 0, none⟩)) ∧ Rea w w' q (rd0 M) := by
  obtain ⟨cap, w1, hc, hb, hbel⟩ := conv_text w M
  have HR := read_calls w1 _ _ _ hb hl
  clear hb hl
  have HC : Hid ((convert 9 140 (.string (str M))).run Tryz.prog w = .ok (.slice (some ⟨w.heap.size, 0, none⟩) M.length cap) w1) := hc
  clear hc
  go_enter Tryz.func88, Tryz.ntmps88
  go_wp2_with fail
  refine (HF _).mono ?_
  rintro e w2 ⟨rfl, hw⟩
  rw [hw]
  clear hw HF
  go_wp2_with fail
  refine upon_run HC.out ?_
  go_wp2_with fail
  refine HR.mono ?_
  rintro e w3 ⟨q, r, rfl, h1, h2, h3, h4⟩
  clear HR HC
  go_wp2
  go_ret
  exact ⟨q, rfl, r, h1, hbel.trans (h2.mono hbel.size), Nat.le_trans hbel.size h3⟩
theorem reader_calls (w : World) (L : List UInt8) (n : Nat) (N : Int) (hN : N = (n : Int)) (hl : (L.take n).length ≤ 140737488351232) :
    Calls Tryz.prog 88 #[.string (str L), .int .i64 N] w fun e w' => ∃ q, e = .returned (.pointer (some ⟨q, 0, none⟩)) ∧ Rea w w' q (rd0 (L.take n)) :=
  reader_of w L _ N (fun w => first_calls w L n N hN) hl
theorem rea_word {w w1 : World} {q : Nat} {S : RS} (h : Rea w w1 q S) :
    Calls Tryz.prog 89 #[.pointer (some ⟨q, 0, none⟩)] w1 fun e w' => e = .returned (.int .i64 (num (S.got 4) : Int)) ∧ Rea w w' q (S.take 4) := by
  obtain ⟨r, h1, h2, h3⟩ := h
  refine (word_reads w1 q S r h1).mono ?_
  rintro e w' ⟨rfl, g1, g2⟩
  exact ⟨rfl, r, g1, h2.trans (g2.below h2.size h3 fun k hk => by cases hk), h3⟩

theorem iset_blk {w : World} {b : Nat} {C : Array Value} {t : TypeId} (h : w.heap[b]? = some (.cells C t (0, 0))) (j : Nat) (u : Value) : (w.setCell ⟨b, j, none⟩ u).heap[b]? = some (.cells (C.setIfInBounds j u) t (0, 0)) := by
  rw [setCell_eq_setRow w b j C t _ u h, setRow_heap w b _ _ _ _ h]
theorem below_set3 {w w' : World} {b : Nat} (h : Below w.heap.size w w') (hb : w.heap.size ≤ b) (x y z : Value) : Below w.heap.size w (((w'.setCell ⟨b, 0, none⟩ x).setCell ⟨b, 1, none⟩ y).setCell ⟨b, 2, none⟩ z) :=
  ((h.setCell (by simpa using hb) _).setCell (by simpa using hb) _).setCell (by simpa using hb) _
theorem below_alloc0 (w : World) (o : Obj) {w' : World} (h : Below (w.alloc o).heap.size (w.alloc o) w') : Below w.heap.size w w' := below_box h

/-- What Of tells. -/
def OfTo (L : List UInt8) (w : World) (e : Ending) (w' : World) : Prop := ∃ o, OfIs L o ∧ e = .returned (.tuple #[iv (o.getD nilI), .bool o.isSome]) ∧ Below w.heap.size w w'
end Go.Proofs.YtgicanpggndbeaaGreat
/- Package inode: Of, Numbered. -/
namespace Go.Proofs.YtgicanpggndbeaaGreat
set_option linter.unusedVariables false
set_option maxRecDepth 100000
open Go.RowKit

theorem str_ne {a b : List UInt8} : ((str a).toList == (str b).toList) = (a == b) := by rw [str_toList, str_toList]
theorem str_inj {a b : List UInt8} (h : str a = str b) : a = b := by rw [← str_list a, ← str_list b, h]
/-- What Numbered tells. -/
def NmTo (L : List UInt8) (w : World) (e : Ending) (w' : World) : Prop := ∃ o, NmIs L o ∧ e = .returned (.tuple #[.int .i64 (o.getD 0), .bool o.isSome]) ∧ Below w.heap.size w w'
set_option maxHeartbeats 800000 in
theorem numbered_of (w : World) (L M T : List UInt8) (N : Int) (HF : ∀ w, Calls Tryz.prog 88 #[.string (str L), .int .i64 4] w fun e w' => ∃ q, e = .returned (.pointer (some ⟨q, 0, none⟩)) ∧ Rea w w' q (rd0 M)) (hN : N = (num ((rd0 M).got 4) : Int))
    (ok b : Bool) (HV : ∀ w, Calls Tryz.prog 32 #[.int .i64 N] w fun e w' => e = .returned (.tuple #[.string (str T), .bool ok]) ∧ Below w.heap.size w w') (hb : b = true ∧ ok = true ∧ ((str T).toList == (str L).toList) = true ∨ b = false ∧ ok = false ∨ b = false ∧ ok = true ∧ ((str T).toList == (str L).toList) = false) :
    Calls Tryz.prog 49 #[.string (str L)] w fun e w' => e = .returned (.tuple #[.int .i64 (if b = true then N else 0), .bool b]) ∧ Below w.heap.size w w' := by
  go_enter Tryz.func49, Tryz.ntmps49
  go_wp2_with fail
  refine (HF _).mono ?_
  rintro e w1 ⟨q, rfl, H⟩
  clear HF
  go_wp2_with fail
  refine (rea_word H).mono ?_
  rw [← hN]
  clear hN
  rintro e w2 ⟨rfl, H2⟩
  go_wp2_with fail
  refine (HV _).mono ?_
  rintro e w3 ⟨rfl, H3⟩
  clear HV
  have HB := H2.below.trans (H3.mono H2.below.size)
  clear H H2 H3
  rcases hb with ⟨rfl, rfl, hne⟩ | ⟨rfl, rfl⟩ | ⟨rfl, rfl, hne⟩
  all_goals
    go_wp2
    go_ret2
    exact ⟨rfl, HB⟩
theorem numbered_calls (w : World) (L : List UInt8) :
    Calls Tryz.prog 49 #[.string (str L)] w fun e w' => NmTo L w e w' := by
  have HF := fun w => reader_calls w L 4 4 rfl (by rw [List.length_take]; omega)
  have hof := nm_is (f := fun L => (num ((rd0 (L.take 4)).got 4) : Int)) (fun n h => by
    show (num ((rd0 ((be n.toNat 4).take 4)).got 4) : Int) = n
    rw [List.take_of_length_le (by rw [be_length]; omega)]
    exact word_back n h) L
  unfold nmI at hof
  obtain ⟨N, hN⟩ : ∃ N : Int, N = (num ((rd0 (L.take 4)).got 4) : Int) := ⟨_, rfl⟩
  simp only [← hN] at hof
  by_cases hr : okNum N = true
  · have HV := fun w => inumber_calls w N
    rw [numT, if_pos hr, hr] at HV
    by_cases hv : be N.toNat 4 = L
    · refine (numbered_of w L _ _ N HF hN true true HV (.inl ⟨rfl, rfl, by rw [hv, str_ne]; simp⟩)).mono fun e w' ⟨h1, h2⟩ => ⟨_, hof, ?_, h2⟩
      rw [if_pos ⟨hr, hv⟩]
      exact h1
    · refine (numbered_of w L _ _ N HF hN true false HV (.inr (.inr ⟨rfl, rfl, by rw [str_ne]; simpa using hv⟩))).mono fun e w' ⟨h1, h2⟩ => ⟨_, hof, ?_, h2⟩
      rw [if_neg (fun h => hv h.2)]
      exact h1
  · have HV := fun w => inumber_calls w N
    refine (numbered_of w L _ _ N HF hN _ false HV (.inr (.inl ⟨rfl, by simpa using hr⟩))).mono fun e w' ⟨h1, h2⟩ => ⟨_, hof, ?_, h2⟩
    rw [if_neg (fun h => hr h.1)]
    exact h1
end Go.Proofs.YtgicanpggndbeaaGreat
