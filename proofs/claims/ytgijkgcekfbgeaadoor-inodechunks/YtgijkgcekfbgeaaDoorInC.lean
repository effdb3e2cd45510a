/- Package inode: reader, said, Of, Numbered. -/
import Derived.Test.YtgijkgcekfbgeaaDoorInB
import Derived.Lib.ConvBytes
namespace Go.Proofs.YtgijkgcekfbgeaaDoor
set_option linter.unusedVariables false
open Go.RowKit

/-- A text as bytes, in a row of its own. -/
theorem conv_text (w : World) (L : List UInt8) : ∃ cap w1, (convert 9 55 (.string (str L))).run Tryd.prog w = .ok (.slice (some ⟨w.heap.size, 0, none⟩) L.length cap) w1 ∧ BytesIn w1 (.slice (some ⟨w.heap.size, 0, none⟩) L.length cap) L (some w.heap.size) ∧ Below w.heap.size w w1 := by
  have h := Lib.run_convert_string_bytes (P := Tryd.prog) w 9 55 5 (str L) Tryd.underlying9 Tryd.underlying55 Tryd.underlying5
  rw [str_size] at h
  refine ⟨_, _, h, ⟨_, _, rfl, grownCap_ge _ _ _ _, .inr ⟨w.heap.size, 0, rfl, rfl, by rw [Lib.bytesWorld_size]; omega, fun j u hu => ?_⟩⟩, ⟨rfl, rfl, rfl, by rw [Lib.bytesWorld_size]; omega, fun k hk => Lib.bytesWorld_at_old _ _ _ _ hk⟩⟩
  have hj := bc_get hu
  rw [Nat.zero_add, Lib.bytesWorld_cell w _ _ j (by rw [str_size]; exact hj), ← hu, bc_at L j hj, str_list]
  simp [List.getD, hj]
theorem upon_run {P : Program} {o : Oper} {a : Act} {K : Act → World → Prop} {Q : Exit → Act → World → Prop} {m : Sem Value} {w w' : World} {v : Value} (hr : m.run P w = .ok v w') (h : K (a.put o.dst v) w') : Oper.upon P o a K Q ((m.run P w).andThen fun a w' => Result.ok (Next.value a) w') := by
  rw [hr]
  simp only [Result.andThen]
  rw [Oper.upon_value]
  exact h

/-- A reader of one's own, new since the world w. -/
def Rea (w w1 : World) (q : Nat) (S : RS) : Prop := ∃ r, RdS w1 q S r ∧ Below w.heap.size w w1 ∧ w.heap.size ≤ q
theorem Rea.below {w w1 : World} {q : Nat} {S : RS} (h : Rea w w1 q S) : Below w.heap.size w w1 := by obtain ⟨r, _, h, _⟩ := h; exact h
theorem Rea.block {w w1 : World} {p : Nat} {S : RS} (h : Rea w w1 p S) {b : Nat} {o : Obj} (hb : w.heap[b]? = some o) : w1.heap[b]? = some o :=
  (h.below.block b (lt_of_block hb)).trans hb
set_option maxHeartbeats 400000 in
theorem reader_of (w : World) (L M : List UInt8) (N : Int) (HF : ∀ w, Calls Tryd.prog 38 #[.string (str L), .int .i64 N] w fun e w' => e = .returned (.string (str M)) ∧ w' = w) (hl : M.length ≤ 140737488351232) :
    Calls Tryd.prog 34 #[.string (str L), .int .i64 N] w fun e w' => ∃ q, e = .returned (.pointer (some ⟨q, 0, none⟩)) ∧ Rea w w' q (rd0 M) := by
  obtain ⟨cap, w1, hc, hb, hbel⟩ := conv_text w M
  have HR := read_calls w1 _ _ _ hb hl
  clear hb hl
  have HC : Hid ((convert 9 55 (.string (str M))).run Tryd.prog w = .ok (.slice (some ⟨w.heap.size, 0, none⟩) M.length cap) w1) := hc
  clear hc
  go_enter Tryd.func34, Tryd.ntmps34
  go_wp2_with fail
  refine (HF _).mono ?_
  rintro e w2 ⟨rfl, hw⟩
  rw [hw]
  clear hw HF
  go_wp2_with fail
  refine upon_run HC.out ?_
  go_wp2_with fail
  refine HR.mono ?_
  rintro e w3 ⟨q, r, rfl, h1, h2, h3, h4⟩
  clear HR HC
  go_wp2
  go_ret
  exact ⟨q, rfl, r, h1, hbel.trans (h2.mono hbel.size), Nat.le_trans hbel.size h3⟩
theorem reader_calls (w : World) (L : List UInt8) (n : Nat) (N : Int) (hN : N = (n : Int)) (hl : (L.take n).length ≤ 140737488351232) :
    Calls Tryd.prog 34 #[.string (str L), .int .i64 N] w fun e w' => ∃ q, e = .returned (.pointer (some ⟨q, 0, none⟩)) ∧ Rea w w' q (rd0 (L.take n)) :=
  reader_of w L _ N (fun w => first_calls w L n N hN) hl
theorem rea_byte {w w1 : World} {q : Nat} {S : RS} (h : Rea w w1 q S) :
    Calls Tryd.prog 45 #[.pointer (some ⟨q, 0, none⟩)] w1 fun e w' => e = .returned (.int .i64 (num (S.got 1) : Int)) ∧ Rea w w' q (S.take 1) := by
  obtain ⟨r, h1, h2, h3⟩ := h
  refine (byte_reads w1 q S r h1).mono ?_
  rintro e w' ⟨rfl, g1, g2⟩
  exact ⟨rfl, r, g1, h2.trans (g2.below h2.size h3 fun k hk => by cases hk), h3⟩
theorem rea_word {w w1 : World} {q : Nat} {S : RS} (h : Rea w w1 q S) :
    Calls Tryd.prog 35 #[.pointer (some ⟨q, 0, none⟩)] w1 fun e w' => e = .returned (.int .i64 (num (S.got 4) : Int)) ∧ Rea w w' q (S.take 4) := by
  obtain ⟨r, h1, h2, h3⟩ := h
  refine (word_reads w1 q S r h1).mono ?_
  rintro e w' ⟨rfl, g1, g2⟩
  exact ⟨rfl, r, g1, h2.trans (g2.below h2.size h3 fun k hk => by cases hk), h3⟩

/-- An inode in a block. -/
def HasI (w : World) (b : Nat) (n : Ino) : Prop := w.heap[b]? = some (.cells #[.bool n.d, .int .i64 n.l, .int .i64 n.s] 23 (0, 0))
theorem set_blk {w : World} {b : Nat} {C : Array Value} {t : TypeId} (h : w.heap[b]? = some (.cells C t (0, 0))) (j : Nat) (u : Value) : (w.setCell ⟨b, j, none⟩ u).heap[b]? = some (.cells (C.setIfInBounds j u) t (0, 0)) := by
  rw [setCell_eq_setRow w b j C t _ u h, setRow_heap w b _ _ _ _ h]
theorem HasI.put3 {w : World} {b : Nat} {n : Ino} (h : HasI w b n) (m : Ino) : HasI (((w.setCell ⟨b, 0, none⟩ (.bool m.d)).setCell ⟨b, 1, none⟩ (.int .i64 m.l)).setCell ⟨b, 2, none⟩ (.int .i64 m.s)) b m :=
  set_blk (set_blk (set_blk h 0 _) 1 _) 2 _
theorem ret_ino {fn : Func} {R : Ending → World → Prop} {a : Act} {w : World} {t : Tmp} (hr : fn.results = #[.cell t 23]) (b : Nat) (n : Ino) (hp : a.tmps.getD t undef = .pointer (some ⟨b, 0, none⟩)) (hK : HasI w b n)
    (hd : a.defers = []) (hR : R (.returned (iv n)) w) : bodyPost Tryd.prog fn R .ret a w :=
  bodyPost_ret (results_cell_row hr _ w b _ _ _ _ hp hK Tryd.underlying23 rfl (by kernel_rfl)) hd hR
theorem ret_ino_ok {fn : Func} {R : Ending → World → Prop} {a : Act} {w : World} {t u : Tmp} (hr : fn.results = #[.cell t 23, .tmp u]) (b : Nat) (n : Ino) (v : Value) (hp : a.tmps.getD t undef = .pointer (some ⟨b, 0, none⟩)) (hv : a.tmps.getD u undef = v) (hK : HasI w b n)
    (hd : a.defers = []) (hR : R (.returned (.tuple #[iv n, v])) w) : bodyPost Tryd.prog fn R .ret a w := by
  refine bodyPost_ret (v := .tuple #[iv n, v]) ?_ hd hR
  have hl := run_loadVar_row (P := Tryd.prog) w b 23 23 _ _ _ hK Tryd.underlying23 rfl (by kernel_rfl)
  rw [results_cell_tmp hr, hp, hv]
  simp [asAddr, Result.andThen, hl]
theorem below_set3 {w w' : World} {b : Nat} (h : Below w.heap.size w w') (hb : w.heap.size ≤ b) (x y z : Value) : Below w.heap.size w (((w'.setCell ⟨b, 0, none⟩ x).setCell ⟨b, 1, none⟩ y).setCell ⟨b, 2, none⟩ z) :=
  ((h.setCell (by simpa using hb) _).setCell (by simpa using hb) _).setCell (by simpa using hb) _
theorem below_alloc0 (w : World) (o : Obj) {w' : World} (h : Below (w.alloc o).heap.size (w.alloc o) w') : Below w.heap.size w w' := below_box h

set_option maxHeartbeats 800000 in
theorem said_dir (w : World) (L M : List UInt8) (HF : ∀ w, Calls Tryd.prog 34 #[.string (str L), .int .i64 9] w fun e w' => ∃ q, e = .returned (.pointer (some ⟨q, 0, none⟩)) ∧ Rea w w' q (rd0 M)) (h1' : ((num ((rd0 M).got 1) : Int) == 1) = true) :
    Calls Tryd.prog 31 #[.string (str L)] w fun e w' => e = .returned (iv dirI) ∧ Below w.heap.size w w' := by
  have hbox : HasI (w.alloc (.cells #[.bool nilI.d, .int .i64 nilI.l, .int .i64 nilI.s] 23)) w.heap.size nilI := heap_alloc_new _ _
  go_enter Tryd.func31, Tryd.ntmps31
  go_wp2_with fail
  refine (HF _).mono ?_
  rintro e w1 ⟨q, rfl, H⟩
  clear HF
  go_wp2_with fail
  refine (rea_byte H).mono ?_
  rintro e w2 ⟨rfl, H2⟩
  have hI : HasI w2 w.heap.size nilI := H2.block hbox
  obtain ⟨c0, c1, c2⟩ := cells3 hI
  obtain ⟨f0, f1, f2⟩ := free3 hI
  go_wp2
  refine ret_ino rfl w.heap.size dirI rfl (hI.put3 dirI) rfl ⟨rfl, below_set3 (below_alloc0 w _ H2.below) (Nat.le_refl _) _ _ _⟩
set_option maxHeartbeats 800000 in
theorem said_none (w : World) (L M : List UInt8) (HF : ∀ w, Calls Tryd.prog 34 #[.string (str L), .int .i64 9] w fun e w' => ∃ q, e = .returned (.pointer (some ⟨q, 0, none⟩)) ∧ Rea w w' q (rd0 M)) (h1' : ((num ((rd0 M).got 1) : Int) == 1) = false) (h2' : ((num ((rd0 M).got 1) : Int) == 2) = false) :
    Calls Tryd.prog 31 #[.string (str L)] w fun e w' => e = .returned (iv nilI) ∧ Below w.heap.size w w' := by
  have hbox : HasI (w.alloc (.cells #[.bool nilI.d, .int .i64 nilI.l, .int .i64 nilI.s] 23)) w.heap.size nilI := heap_alloc_new _ _
  go_enter Tryd.func31, Tryd.ntmps31
  go_wp2_with fail
  refine (HF _).mono ?_
  rintro e w1 ⟨q, rfl, H⟩
  clear HF
  go_wp2_with fail
  refine (rea_byte H).mono ?_
  rintro e w2 ⟨rfl, H2⟩
  have hI : HasI w2 w.heap.size nilI := H2.block hbox
  obtain ⟨c0, c1, c2⟩ := cells3 hI
  obtain ⟨f0, f1, f2⟩ := free3 hI
  go_wp2
  refine ret_ino rfl w.heap.size nilI rfl (hI.put3 nilI) rfl ⟨rfl, below_set3 (below_alloc0 w _ H2.below) (Nat.le_refl _) _ _ _⟩
set_option maxHeartbeats 800000 in
theorem said_file (w : World) (L M : List UInt8) (HF : ∀ w, Calls Tryd.prog 34 #[.string (str L), .int .i64 9] w fun e w' => ∃ q, e = .returned (.pointer (some ⟨q, 0, none⟩)) ∧ Rea w w' q (rd0 M)) (h1' : ((num ((rd0 M).got 1) : Int) == 1) = false) (h2' : ((num ((rd0 M).got 1) : Int) == 2) = true) :
    Calls Tryd.prog 31 #[.string (str L)] w fun e w' => e = .returned (iv ⟨false, num (((rd0 M).take 1).got 4), num ((((rd0 M).take 1).take 4).got 4)⟩) ∧ Below w.heap.size w w' := by
  have hbox : HasI (w.alloc (.cells #[.bool nilI.d, .int .i64 nilI.l, .int .i64 nilI.s] 23)) w.heap.size nilI := heap_alloc_new _ _
  go_enter Tryd.func31, Tryd.ntmps31
  go_wp2_with fail
  refine (HF _).mono ?_
  rintro e w1 ⟨q, rfl, H⟩
  clear HF
  go_wp2_with fail
  refine (rea_byte H).mono ?_
  rintro e w2 ⟨rfl, H2⟩
  have hI : HasI w2 w.heap.size nilI := H2.block hbox
  obtain ⟨c0, c1, c2⟩ := cells3 hI
  obtain ⟨f0, f1, f2⟩ := free3 hI
  clear c0 c1 c2 f0 f1 f2
  go_wp2_with fail
  refine (rea_word H2).mono ?_
  rintro e w3 ⟨rfl, H3⟩
  go_wp2_with fail
  refine (rea_word H3).mono ?_
  rintro e w4 ⟨rfl, H4⟩
  clear hI
  have hI : HasI w4 w.heap.size nilI := H4.block hbox
  obtain ⟨c0, c1, c2⟩ := cells3 hI
  obtain ⟨f0, f1, f2⟩ := free3 hI
  go_wp2
  refine ret_ino rfl w.heap.size ⟨false, num (((rd0 M).take 1).got 4), num ((((rd0 M).take 1).take 4).got 4)⟩ rfl (hI.put3 ⟨false, num (((rd0 M).take 1).got 4), num ((((rd0 M).take 1).take 4).got 4)⟩) rfl ⟨rfl, below_set3 (below_alloc0 w _ H4.below) (Nat.le_refl _) _ _ _⟩
theorem said_calls (w : World) (L : List UInt8) :
    Calls Tryd.prog 31 #[.string (str L)] w fun e w' => e = .returned (iv (saidI (L.take 9))) ∧ Below w.heap.size w w' := by
  have HF := fun w => reader_calls w L 9 9 rfl (by rw [List.length_take]; omega)
  generalize L.take 9 = M at *
  by_cases h1 : (num ((rd0 M).got 1) : Int) = 1
  · rw [saidI, if_pos h1]
    exact said_dir w L M HF (by simpa using h1)
  · by_cases h2 : (num ((rd0 M).got 1) : Int) = 2
    · rw [saidI, if_neg h1, if_pos h2]
      exact said_file w L M HF (by simpa using h1) (by simpa using h2)
    · rw [saidI, if_neg h1, if_neg h2]
      exact said_none w L M HF (by simpa using h1) (by simpa using h2)

/-- What Of tells. -/
def OfTo (L : List UInt8) (w : World) (e : Ending) (w' : World) : Prop := ∃ o, OfIs L o ∧ e = .returned (.tuple #[iv (o.getD nilI), .bool o.isSome]) ∧ Below w.heap.size w w'
/-- What Of's walk holds behind said: room for the answer, what was said. -/
structure Oh (w w1 : World) (n : Ino) : Prop where
  res : HasI w1 w.heap.size nilI
  got : HasI w1 (w.heap.size + 1) n
  bel : Below w.heap.size w w1
end Go.Proofs.YtgijkgcekfbgeaaDoor
