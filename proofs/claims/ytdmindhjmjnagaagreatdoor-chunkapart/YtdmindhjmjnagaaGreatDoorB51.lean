import Derived.Test.YtdmindhjmjnagaaGreatDoorB01
import Derived.Test.YtdmindhjmjnagaaGreatDoorB50
import Derived.Test.YtdmindhjmjnagaaGreatDoorCards
import Derived.Test.YtdmindhjmjnagaaGreatDoorTie
import Derived.LaidMore
import Derived.Lay
import Derived.SevenTiedAt
import Derived.Stop.Joined
import Derived.OwnWalk
import Derived.Test.YtdmindhjmjnagaaGreatDoorB48
import Derived.Lib.BufferWrite
/- ChunkApart answers true at every two rows of steps and turns nothing that was there: files have nothing to do with one another, and a chunk of noughts has no pair. No condition; the variables of unicode/utf8 that it lists are tied to the text of the program. -/
namespace Go.Proofs.YtdmindhjmjnagaaGreatDoor
set_option linter.unusedVariables false
set_option maxRecDepth 100000
open Go.ChangeShapes Go.WideShapes Go.ChangeAt Go.RowKit
open Go.ChangeMaps (open_string shut_string)

set_option maxRecDepth 100000 in
theorem chunkApart_lifted (os : Os) (started : os.Started) (H : Type) (enc : TypeId × Value → H) :
    ReturnsInHanded {} Tryz.checked os 5 .any (fun w args => (Rows.chunkApartSpec.pre enc Tryz.prog Tryz.f5 Rows.chunkApartRow.domain false w args ∧ laidMetH Tryz.prog Rows.chunkApartRow.laid w) ∧ sizedMet enc Tryz.prog Tryz.f5 (OpenSpec.ofChange Rows.chunkApartSpec) false w args)
      (Rows.chunkApartSpec.post enc Tryz.prog Tryz.f5 false true false false) := by
  refine returnsInHanded_of_change_and (C := Tryz.checked) (X := fun w _ => laidMetH Tryz.prog Rows.chunkApartRow.laid w) (fun _ _ _ hh h => h.of_heap hh) Tryz.own started (by kernel_rfl) Tryz.func5
    (ChangeSpec.witness_shaped (enc := enc) (C := Tryz.checked) (os := os) (X := fun w _ => laidMetH Tryz.prog Rows.chunkApartRow.laid w) false (World.laidAll Tryz.prog os Rows.chunkApartRow.laid) #[.slice none 0 0, .slice none 0 0] 8 (World.laidAll_os _ _ _)
      (World.shaped_of_ZipB (by kernel_rfl) (by kernel_rfl)) (by kernel_rfl) (by kernel_rfl) (by kernel_rfl)
      (by rw [MakeChecks.laidMetH_plain _ _ _ (by kernel_rfl)]; exact laidMet_laidAll _ (by kernel_rfl) (by kernel_rfl))) ?_
  intro W base args ds gs before hval0 hW hcnd _ hL _
  have hval : ∀ (j : Nat) t v, Tryz.f5.params[j]? = some t → args[j]? = some v → Value.okWide Tryz.prog W .any base t v := hval0
  have hW' := hW
  obtain ⟨p, q, hA0, hV, rfl, hfz, hnd⟩ := hW
  have hA : DataW.TrodAll enc Tryz.prog W 0 (fun _ => true) true Tryz.f5.params.toList args.toList ds p := hA0
  rw [Tryz.params5] at hA hval
  obtain ⟨v0, vs0, d0, ds0, p0, q0, hargs, rfl, rfl, h0, r0⟩ := trodAll_cons hA
  obtain ⟨v1, vs1, d1, ds1, p1, q1, rfl, rfl, rfl, h1, r1⟩ := trodAll_cons r0
  obtain ⟨rfl, rfl, rfl⟩ := trodAll_nil r1
  obtain rfl : args = #[v0, v1] := by cases args; simp_all
  obtain ⟨rfl, rfl⟩ := trodVars_none hV
  obtain ⟨a0, len0, cap0, rfl⟩ := okWide_slice Tryz.underlying22 (hval 0 22 v0 rfl rfl)
  have k0 := h0
  have lt0 : ∀ x ∈ p0, x.block < W.heap.size := by obtain ⟨m, hm⟩ := k0; exact DataW.trod_lt m _ _ _ hm
  obtain ⟨z0, w0⟩ := open_cops h0
  obtain ⟨a1, len1, cap1, rfl⟩ := okWide_slice Tryz.underlying22 (hval 1 22 v1 rfl rfl)
  have k1 := h1
  have lt1 : ∀ x ∈ p1, x.block < W.heap.size := by obtain ⟨m, hm⟩ := k1; exact DataW.trod_lt m _ _ _ hm
  obtain ⟨z1, w1⟩ := open_cops h1
  clear hA0 hval0
  refine (chunkApart_walk W _ _ z0 z1 w0 w1).mono fun e W' ⟨he, bel⟩ => ?_
  subst he
  exact ⟨_, rfl, _, _, _, [], _, [], hW', trodAll_mk1 (shut_bool Tryz.underlying4 _), (trodAll_cons_mk (Below.trod Tryz.laidOut (by kernel_rfl) (of_decide_eq_true (by kernel_rfl)) k0 bel lt0) (trodAll_cons_mk (Below.trod Tryz.laidOut (by kernel_rfl) (of_decide_eq_true (by kernel_rfl)) k1 bel lt1) trodAll_mk0)), rfl, bel.frame _, fun h => by cases h⟩

/-- The row. -/
theorem chunkApart_row : Rows.ChunkApartSaid :=
  OpenClaim.holds_of_wide 5 Tryz.f5 rfl rfl rfl rfl rfl rfl rfl ⟨rfl, rfl, rfl, rfl, rfl⟩ rfl rfl rfl rfl rfl (by kernel_rfl) Tryz.func5 (by kernel_rfl)
    (of_decide_eq_true (by kernel_rfl)) (by unfold Func.isWrapper; first | (rw [if_pos (by decide +kernel)]; kernel_rfl) | (rw [if_neg (by decide +kernel)]; exact ⟨rfl, rfl⟩))
    (fun os started H enc _ => chunkApart_lifted os started H enc)
/-- The statement: the card. -/
theorem chunkApart_holds : Rows.ChunkApartCardSaid :=
  Claim7.holds_tied_plain_at .later [] [.data, .pinned] true (true, "ae14236937028a21657f4b99df5b4519190e100113ec066a27f897597a491c60") false
    chunkApart_row (fun _ h => by cases h) (by kernel_rfl) (fun _ h => by cases h) chunkApart_row_tie rfl ⟨rfl, rfl⟩ (by kernel_rfl) rfl
    (fun f fn hf hfn => by
      obtain rfl : f = 5 := Option.some.inj ((show Tryz.prog.funcNamed "wainscot/wainscotlaw13.ChunkApart" = some 5 by kernel_rfl).symm.trans hf) |>.symm
      obtain rfl : fn = Tryz.f5 := (Option.some.inj (Tryz.func5.symm.trans hfn)).symm
      exact ⟨by kernel_rfl, fun j t ht => by
        rw [Tryz.params5] at ht
        have hm : t ∈ [22, 22] := by simpa using Array.mem_of_getElem? ht
        have hall : ([22, 22].all fun u => !Tryz.prog.wantsStandIn u) = true := by kernel_rfl
        exact (show Tryz.prog.wantsStandIn t = false by simpa using List.all_eq_true.1 hall t hm)⟩)
    (by kernel_rfl)
end Go.Proofs.YtdmindhjmjnagaaGreatDoor
/- Noughts that are made, and taken as a text (GENERIC). -/
namespace Go.Proofs.YtdmindhjmjnagaaGreatDoor
set_option linter.unusedVariables false
set_option maxRecDepth 100000
open Go.RowKit

theorem zr_info : (Tryz.prog.info? 5).map (fun i => (i.zero, i.size, i.bytes)) = some (some (.int .u8 0), 1, 1) := by kernel_rfl
theorem zr_cells (n : Nat) : (madeCells (Value.int .u8 0).cells (n * 1)).toList = bc (List.replicate n 0) := by
  apply List.ext_getElem
  · simp [madeCells, bc]
  · intro i h1 h2
    simp [madeCells, bc, Value.cells, Nat.mod_one]
theorem zr_make {ops : Array Oper} {rest : List Oper} {o : Oper} {a : Act} {w : World} {Q : Exit → Act → World → Prop} (l c : Operand) (hop : o.op = Op.makeSlice 49 l c) (hgd : o.guard = none) (n : Nat) (L : Int) (hl : a.eval l = .int .i64 L) (hc : a.eval c = .int .i64 L) (hL : L = (n : Int)) (b2 : n ≤ 100000)
    (h : ∀ w', w'.ownsRow w.heap.size 5 1 (.slice (some ⟨w.heap.size, 0, none⟩) n n) n (bc (List.replicate n 0)) → w.grownBy w' none → wpList Tryz.prog ops Q rest (a.put o.dst (.slice (some ⟨w.heap.size, 0, none⟩) n n)) w') : wpList Tryz.prog ops Q (o :: rest) a w := by
  obtain ⟨i0, hi, hz0, hz1, hz2⟩ := info_parts zr_info
  obtain ⟨w', hrun, r1, r2⟩ := run_make_full (P := Tryz.prog) w w.heap.size 49 5 i0 (.int .u8 0) 1 Tryz.underlying49 hi hz0 hz1 .i64 .i64 n (by rw [hz2]; omega) (by unfold maxLen; omega) (Nat.le_refl _)
  subst hL
  rw [zr_cells] at r1
  refine wpList_plain hgd fun K hK => ?_
  unfold Oper.wp
  simp [execOp, hop, hl, hc, hrun, Result.andThen]
  exact hK _ _ (h w' r1 r2)
/-- Bytes in a row of one's own, as a text. -/
theorem zr_conv {w : World} {base g n cap : Nat} {L : List UInt8} (h : w.ownsRow base 5 1 (.slice (some ⟨g, 0, none⟩) n cap) n (bc L)) :
    (convert 49 9 (.slice (some ⟨g, 0, none⟩) n cap)).run Tryz.prog w = .ok (.string (str L)) w := by
  have hn : L.length = n := by have := h.1; rw [bc_length] at this; omega
  have hr : w.rangeAt g 0 (bc L) := by
    rcases h.2 with ⟨e, _⟩ | ⟨g', cap', cur, e, h2, h3, h4, h5, h6, h7⟩
    · cases e
    · cases e
      intro j v hv
      rw [Nat.zero_add, cell_of_row _ _ _ _ _ _ h3]
      have hj : j < n * 1 := by have := (List.getElem?_eq_some_iff.1 hv).1; rw [bc_length] at this; omega
      rw [← h7, List.getElem?_take_of_lt hj] at hv
      simpa using hv
  have := run_convert_bytes_arg (P := Tryz.prog) w 49 5 Tryz.underlying49 Tryz.underlying5 g 0 n cap (L.map fun b => (b.toNat : Int)) (by simp [hn]) (fun i hi => by
    have hi' : i < L.length := by omega
    rw [hr i (.int .u8 ((L[i]).toNat : Int)) (by simp [bc, hi'])]
    simp [hi']) 9 Tryz.underlying9
  rw [str_of] at this
  exact this
end Go.Proofs.YtdmindhjmjnagaaGreatDoor
/- Bytes in a block of their own: one written over, some copied in, some taken as a text; a file beside them (what ChunkBytes' loop carries). -/
namespace Go.Proofs.YtdmindhjmjnagaaGreatDoor
set_option linter.unusedVariables false
set_option maxRecDepth 100000
open Go.RowKit

/-- A block of bytes. -/
def BcAt (w : World) (g : Nat) (L : List UInt8) : Prop := w.heap[g]? = some (.cells (bc L).toArray 5 (0, 0))
section
variable {w w' : World} {g : Nat} {L : List UInt8}
theorem BcAt.of_own {base n : Nat} (h : w.ownsRow base 5 1 (.slice (some ⟨g, 0, none⟩) n n) n (bc L)) : BcAt w g L := by
  rcases h.2 with ⟨e, _⟩ | ⟨g', cap', cur, e, h2, h3, h4, h5, h6, h7⟩
  · cases e
  · cases e
    have hc : cur.toList = bc L := by rw [← h7, List.take_of_length_le (by rw [Array.length_toList, h6]; exact Nat.le_refl _)]
    unfold BcAt
    rw [h3, ← hc]
theorem BcAt.same (h : BcAt w g L) (e : w'.heap[g]? = w.heap[g]?) : BcAt w' g L := e.trans h
theorem BcAt.lt (h : BcAt w g L) : g < w.heap.size := lt_of_block h
theorem bc_set (L : List UInt8) (i : Nat) (b : UInt8) : (bc L).toArray.setIfInBounds i (.int .u8 (b.toNat : Int)) = (bc (L.set i b)).toArray := by simp [bc, List.map_set]
theorem BcAt.put (h : BcAt w g L) (i : Nat) (b : UInt8) : BcAt (w.setCell ⟨g, i, none⟩ (.int .u8 (b.toNat : Int))) g (L.set i b) := by
  unfold BcAt
  rw [setCell_eq_setRow w g i _ _ _ _ h, bc_set]
  exact setRow_heap w g _ _ _ _ h
theorem BcAt.cell (h : BcAt w g L) (i : Nat) (hi : i < L.length) : w.cell? ⟨g, i, none⟩ = some (.int .u8 ((L[i]).toNat : Int)) := by
  rw [cell_of_row _ _ _ _ _ _ h]
  simp [bc, hi]
/-- Some of them as a text. -/
theorem BcAt.conv (h : BcAt w g L) (off n cap : Nat) (hn : off + n ≤ L.length) :
    (convert 49 9 (.slice (some ⟨g, off, none⟩) n cap)).run Tryz.prog w = .ok (.string (str ((L.drop off).take n))) w := by
  have hl : ((L.drop off).take n).length = n := by rw [List.length_take, List.length_drop]; omega
  have := run_convert_bytes_arg (P := Tryz.prog) w 49 5 Tryz.underlying49 Tryz.underlying5 g off n cap (((L.drop off).take n).map fun b => (b.toNat : Int)) (by rw [List.length_map, hl]) (fun i hi => by
    rw [h.cell (off + i) (by omega)]
    have h1 : i < ((L.drop off).take n).length := by omega
    rw [List.getD_eq_getElem?_getD, List.getElem?_map, List.getElem?_eq_getElem h1]
    simp) 9 Tryz.underlying9
  rw [str_of] at this
  exact this
/-- What stands there behind a copy. -/
def copied (L : List UInt8) (o : Nat) (s : List UInt8) : List UInt8 := L.take o ++ s ++ L.drop (o + s.length)
theorem copied_length {o : Nat} {s : List UInt8} (h : o + s.length ≤ L.length) : (copied L o s).length = L.length := by
  unfold copied
  simp
  omega
theorem copied_at {o : Nat} {s : List UInt8} (h : o + s.length ≤ L.length) (i : Nat) : (copied L o s).getD i 0 = if o ≤ i ∧ i < o + s.length then s.getD (i - o) 0 else L.getD i 0 := by
  unfold copied
  have h1 : (L.take o).length = o := by rw [List.length_take]; omega
  simp only [List.getD_eq_getElem?_getD]
  by_cases c1 : i < o
  · rw [if_neg (by omega), List.append_assoc, List.getElem?_append_left (by omega), List.getElem?_take_of_lt c1]
  · by_cases c2 : i < o + s.length
    · rw [if_pos ⟨by omega, c2⟩, List.getElem?_append_left (by rw [List.length_append]; omega), List.getElem?_append_right (by omega), h1]
    · rw [if_neg (by omega), List.getElem?_append_right (by rw [List.length_append]; omega), List.length_append, h1, List.getElem?_drop]
      congr 2
      omega
theorem BcAt.copy (h : BcAt w g L) (o dLen dCap : Nat) (s : List UInt8) (hd : s.length ≤ dLen) (hf : o + s.length ≤ L.length) (ty : TypeId) :
    (Builtin.copy_ #[49, 9] ty #[.slice (some ⟨g, o, none⟩) dLen dCap, .string (str s)]).run Tryz.prog w = .ok (goInt s.length) (w.setRow g (bc (copied L o s)).toArray) := by
  have hsz : (Tryz.prog.info? 5).map (·.size) = some 1 := by kernel_rfl
  have hs : (str s).size = s.length := str_size s
  have := Lib.run_copy_row_string (P := Tryz.prog) w 49 9 ty 5 g o dLen dCap (str s) _ _ Tryz.underlying49 hsz h (by omega) (by rw [hs, bc_size]; omega)
  rw [this, hs]
  have e : (bc L).toArray.toList.take o ++ Lib.byteCells (str s).data.toList ++ (bc L).toArray.toList.drop (o + s.length) = bc (copied L o s) := by
    unfold copied bc Lib.byteCells
    simp [str_list]
  rw [e]
theorem BcAt.after (h : BcAt w g L) (o : Nat) (s : List UInt8) : BcAt (w.setRow g (bc (copied L o s)).toArray) g (copied L o s) := setRow_heap w g _ _ _ _ h
end
/-- What changes a block beside a view leaves the view. -/
theorem NV.beside {d : NV} {w0 y y' : World} {g : Nat} (h : d.at_ w0 y) (f : FrV (fun i => i = g) y y') (hg : w0.heap.size ≤ g) (hf : ¬ d.foot g) : d.at_ w0 y' := by
  have hb : PlC d.lim y d.p d.pv [] d.base := h.base
  exact VAt.aside h f (fun i hi => by subst hi; exact ⟨hg, fun r => hf (.inl r)⟩) (hb.kept f.size fun i hi => f.block i (NV.lt h (.inr hi)) (fun e => hf (by rw [← e]; exact .inr hi)))
theorem fr_cell (y : World) (g i : Nat) (v : Value) : FrV (fun k => k = g) y (y.setCell ⟨g, i, none⟩ v) :=
  ⟨⟨rfl, rfl, rfl, by simp, fun j hj => absurd hj (Nat.not_lt_zero j)⟩, fun k _ hn => heap_setCell_other _ _ _ _ hn⟩
theorem fr_row (y : World) (g : Nat) (cs : Array Value) : FrV (fun k => k = g) y (y.setRow g cs) :=
  ⟨⟨rfl, rfl, rfl, by simp [World.setRow], fun j hj => absurd hj (Nat.not_lt_zero j)⟩, fun k _ hn => setRow_other _ _ _ _ hn⟩
/-- A file whose bytes are f, and a block of bytes beside it. -/
structure ByS (w : World) (q g j : Nat) (f : Nat → UInt8) (L : List UInt8) (y : World) : Prop where
  ex : ∃ d : NV, d.q = q ∧ d.at_ w y ∧ FileOk d.V.C ∧ d.V.U = [] ∧ d.V.C.length ≤ 11 * j ∧ d.V.R.length ≤ 11 * j ∧ d.x.n ≤ 400 ∧ (∀ i, i < 2000 → f i = fB d.V.C 5 i) ∧ ¬ d.foot g
  row : BcAt y g L
  len : L.length = 2000
  lo : w.heap.size ≤ g
section
variable {w y y' : World} {q g j : Nat} {f : Nat → UInt8} {L : List UInt8}
theorem ByS.bel (h : ByS w q g j f L y) : Below w.heap.size w y := by
  obtain ⟨d, -, h1, -⟩ := h.ex
  exact h1.bel
theorem ByS.called (h : ByS w q g j f L y) (b : Below y.heap.size y y') : ByS w q g j f L y' := by
  obtain ⟨d, h1, h2, h3⟩ := h.ex
  exact ⟨⟨d, h1, NV.called h2 b, h3⟩, h.row.same (b.block g h.row.lt), h.len, h.lo⟩
theorem ByS.beside (h : ByS w q g j f L y) (fr : FrV (fun i => i = g) y y') {L' : List UInt8} (r : BcAt y' g L') (hl : L'.length = 2000) : ByS w q g j f L' y' := by
  obtain ⟨d, h1, h2, h3, h4, h5, h6, h7, h8, h9⟩ := h.ex
  exact ⟨⟨d, h1, NV.beside h2 fr h.lo h9, h3, h4, h5, h6, h7, h8, h9⟩, r, hl, h.lo⟩
theorem ByS.put (h : ByS w q g j f L y) (i : Nat) (b : UInt8) : ByS w q g j f (L.set i b) (y.setCell ⟨g, i, none⟩ (.int .u8 (b.toNat : Int))) :=
  h.beside (fr_cell y g i _) (h.row.put i b) (by rw [List.length_set]; exact h.len)
theorem ByS.copied (h : ByS w q g j f L y) (o : Nat) (s : List UInt8) (hf : o + s.length ≤ 2000) : ByS w q g j f (copied L o s) (y.setRow g (bc (copied L o s)).toArray) :=
  h.beside (fr_row y g _) (h.row.after o s) (by rw [copied_length (by rw [h.len]; exact hf)]; exact h.len)
theorem ByS.func (h : ByS w q g j f L y) {f' : Nat → UInt8} (e : ∀ i, i < 2000 → f' i = f i) : ByS w q g j f' L y := by
  obtain ⟨d, h1, h2, h3, h4, h5, h6, h7, h8, h9⟩ := h.ex
  exact ⟨⟨d, h1, h2, h3, h4, h5, h6, h7, fun i hi => (e i hi).trans (h8 i hi), h9⟩, h.row, h.len, h.lo⟩
theorem ByS.write (h : ByS w q g j f L y) (hj : j < 30) (off : Nat) (s : List UInt8) (ho : off ≤ 1023) (hs : s.length ≤ 300) :
    Calls Tryz.prog 12 #[.pointer (some ⟨q, 0, none⟩), .int .i64 5, .int .i64 (off : Int), .string (str s)] y fun e y' => e = .returned (.int .i64 0) ∧ ByS w q g (j + 1) (fun i => if off ≤ i ∧ i < off + s.length then s.getD (i - off) 0 else f i) L y' := by
  obtain ⟨d, rfl, h2, h3, h4, h5, h6, h7, h8, h9⟩ := h.ex
  have hod : off + s.length ≤ 1048576 := by omega
  have hp := pN_300 (off := off) hs
  refine (nvWrite h2 5 off s rfl (by omega) hod).mono fun e z r => ⟨r.1, ?_⟩
  obtain ⟨x', T⟩ := r.2
  have hc := writeV_len d.V (plGe []) 5 off s
  have hr := writeV_R d.V 5 off s
  have hU := writeV_U h4 5 off s
  have A := VAt.tight (NV.ran T) 400 (most_of hU (by show (writeV d.V (plGe []) 5 off s).C.length ≤ 400; omega) (by show (writeV d.V (plGe []) 5 off s).R.length ≤ 400; omega))
  have hng : ¬ d.x.own d.q g := fun e => h9 (.inl e)
  refine ⟨⟨{ d with x := { x' with n := 400 }, V := writeV d.V (plGe []) 5 off s }, rfl, A, write_ok h3 rfl hod, hU, by show (writeV d.V (plGe []) 5 off s).C.length ≤ _; omega, by show (writeV d.V (plGe []) 5 off s).R.length ≤ _; omega, Nat.le_refl _, fun i hi => ?_, ?_⟩, h.row.same (T.kept h.row.lt hng), h.len, h.lo⟩
  · show _ = fB (writeV d.V (plGe []) 5 off s).C 5 i
    rw [write_fB h3.asc rfl hod rfl i (by omega), ← h8 i hi]
    by_cases c : off ≤ i ∧ i < off + s.length
    · rw [if_pos c, if_pos ⟨rfl, c⟩]
    · rw [if_neg c, if_neg (fun e => c e.2)]
  · rintro (e | e | e)
    · rcases T.own g e with q1 | q1
      · exact hng q1
      · have := h.row.lt
        omega
    · exact h9 (.inr (.inl e))
    · exact h9 (.inr (.inr e))
theorem ByS.cut (h : ByS w q g j f L y) (hj : j < 30) (at_ : Nat) (ho : at_ ≤ 1023) :
    Calls Tryz.prog 14 #[.pointer (some ⟨q, 0, none⟩), .int .i64 5, .int .i64 (at_ : Int)] y fun e y' => e = .returned (.int .i64 0) ∧ ByS w q g (j + 1) (fun i => if at_ ≤ i then 0 else f i) L y' := by
  obtain ⟨d, rfl, h2, h3, h4, h5, h6, h7, h8, h9⟩ := h.ex
  refine (nvCut h2 5 at_ rfl (by omega) (by omega)).mono fun e z r => ⟨r.1, ?_⟩
  obtain ⟨x', T⟩ := r.2
  have hc := cutV_same h3.asc 5 (at_ : Int)
  have hr := cutV_R d.V 5 (at_ : Int)
  have hU := cutV_U h4 5 (at_ : Int)
  have A := VAt.tight (NV.ran T) 400 (most_of hU (by show (cutV d.V 5 (at_ : Int)).C.length ≤ 400; omega) (by show (cutV d.V 5 (at_ : Int)).R.length ≤ 400; omega))
  have hng : ¬ d.x.own d.q g := fun e => h9 (.inl e)
  refine ⟨⟨{ d with x := { x' with n := 400 }, V := cutV d.V 5 (at_ : Int) }, rfl, A, cut_ok h3, hU, by show (cutV d.V 5 (at_ : Int)).C.length ≤ _; omega, by show (cutV d.V 5 (at_ : Int)).R.length ≤ _; omega, Nat.le_refl _, fun i hi => ?_, ?_⟩, h.row.same (T.kept h.row.lt hng), h.len, h.lo⟩
  · show _ = fB (cutV d.V 5 (at_ : Int)).C 5 i
    rw [cut_fB h3 rfl (by omega) rfl i (by omega), ← h8 i hi]
    by_cases c : at_ ≤ i
    · rw [if_pos c, if_pos ⟨rfl, c⟩]
    · rw [if_neg c, if_neg (fun e => c e.2)]
  · rintro (e | e | e)
    · rcases T.own g e with q1 | q1
      · exact hng q1
      · have := h.row.lt
        omega
    · exact h9 (.inr (.inl e))
    · exact h9 (.inr (.inr e))
theorem ByS.read (h : ByS w q g j f L y) (hj : j ≤ 30) (off n : Nat) (ho : off ≤ 1023) (hn : n ≤ 511) (hf : ∀ i, i < 2000 → f i = L.getD i 0) :
    Calls Tryz.prog 16 #[.pointer (some ⟨q, 0, none⟩), .int .i64 5, .int .i64 (off : Int), .int .i64 (n : Int)] y fun e y' => e = .returned (.tuple #[.string (str ((L.drop off).take n)), .int .i64 0]) ∧ BcAt y' g L ∧ Below w.heap.size w y' := by
  obtain ⟨d, rfl, h2, h3, h4, h5, h6, h7, h8, h9⟩ := h.ex
  refine (nvRead h2 5 off n rfl (by omega) (by omega) (by omega)).mono fun e z r => ?_
  obtain ⟨r1, x', T⟩ := r
  have hng : ¬ d.x.own d.q g := fun e => h9 (.inl e)
  refine ⟨?_, h.row.same (T.kept h.row.lt hng), T.at_.bel⟩
  rw [r1, read_bytes h3 rfl (by omega), take_drop_map L off n (by rw [h.len]; omega)]
  have : (List.range n).map (fun j => fB d.V.C 5 (off + j)) = (List.range n).map (fun j => L.getD (off + j) 0) := List.map_congr_left fun i hi => by
    rw [List.mem_range] at hi
    rw [← h8 (off + i) (by omega), hf (off + i) (by omega)]
  rw [this]
theorem ByS.start {d : NV} (h : d.at_ w y) (hq : q = d.q) (hV : d.V = vs0) (hn : d.x.n = 0) (r : BcAt y g (List.replicate 2000 0)) (hg : w.heap.size ≤ g) (hf : ¬ d.foot g) : ByS w q g 0 (fun _ => 0) (List.replicate 2000 0) y := by
  refine ⟨⟨d, hq.symm, h, by rw [hV]; exact FileOk.nil, by rw [hV]; rfl, by rw [hV]; exact Nat.zero_le _, by rw [hV]; exact Nat.zero_le _, by omega, fun i _ => ?_, hf⟩, r, List.length_replicate, hg⟩
  rw [hV]
  show (0 : UInt8) = (fullP []).getD (i % 32) 0
  rw [full_nil, List.getD_eq_getElem?_getD, List.getElem?_replicate]
  split <;> rfl
end
end Go.Proofs.YtdmindhjmjnagaaGreatDoor
