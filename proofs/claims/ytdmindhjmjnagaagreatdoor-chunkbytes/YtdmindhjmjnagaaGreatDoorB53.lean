import Derived.Test.YtdmindhjmjnagaaGreatDoorSi
import Derived.Test.YtdmindhjmjnagaaGreatDoorB51
import Derived.Test.YtdmindhjmjnagaaGreatDoorB49
import Derived.Lib.BufferWrite
import Derived.Test.YtdmindhjmjnagaaGreatDoorB45
import Derived.Test.YtdmindhjmjnagaaGreatDoorB07
import Derived.Test.YtdmindhjmjnagaaGreatDoorB52
/- Bytes in a block of their own: one written over, some copied in, some taken as a text; a file beside them (what ChunkBytes' loop carries). -/
namespace Go.Proofs.YtdmindhjmjnagaaGreatDoor
set_option linter.unusedVariables false
set_option maxRecDepth 100000
open Go.RowKit

/-- A block of bytes. -/
def BcAt (w : World) (g : Nat) (L : List UInt8) : Prop := w.heap[g]? = some (.cells (bc L).toArray 5 (0, 0))
section
variable {w w' : World} {g : Nat} {L : List UInt8}
theorem BcAt.of_own {base n : Nat} (h : w.ownsRow base 5 1 (.slice (some ⟨g, 0, none⟩) n n) n (bc L)) : BcAt w g L := by
  rcases h.2 with ⟨e, _⟩ | ⟨g', cap', cur, e, h2, h3, h4, h5, h6, h7⟩
  · cases e
  · cases e
    have hc : cur.toList = bc L := by rw [← h7, List.take_of_length_le (by rw [Array.length_toList, h6]; exact Nat.le_refl _)]
    unfold BcAt
    rw [h3, ← hc]
theorem BcAt.same (h : BcAt w g L) (e : w'.heap[g]? = w.heap[g]?) : BcAt w' g L := e.trans h
theorem BcAt.lt (h : BcAt w g L) : g < w.heap.size := lt_of_block h
theorem bc_set (L : List UInt8) (i : Nat) (b : UInt8) : (bc L).toArray.setIfInBounds i (.int .u8 (b.toNat : Int)) = (bc (L.set i b)).toArray := by simp [bc, List.map_set]
theorem BcAt.put (h : BcAt w g L) (i : Nat) (b : UInt8) : BcAt (w.setCell ⟨g, i, none⟩ (.int .u8 (b.toNat : Int))) g (L.set i b) := by
  unfold BcAt
  rw [setCell_eq_setRow w g i _ _ _ _ h, bc_set]
  exact setRow_heap w g _ _ _ _ h
theorem BcAt.cell (h : BcAt w g L) (i : Nat) (hi : i < L.length) : w.cell? ⟨g, i, none⟩ = some (.int .u8 ((L[i]).toNat : Int)) := by
  rw [cell_of_row _ _ _ _ _ _ h]
  simp [bc, hi]
/-- Some of them as a text. -/
theorem BcAt.conv (h : BcAt w g L) (off n cap : Nat) (hn : off + n ≤ L.length) :
    (convert 49 9 (.slice (some ⟨g, off, none⟩) n cap)).run Tryz.prog w = .ok (.string (str ((L.drop off).take n))) w := by
  have hl : ((L.drop off).take n).length = n := by rw [List.length_take, List.length_drop]; omega
  have := run_convert_bytes_arg (P := Tryz.prog) w 49 5 Tryz.underlying49 Tryz.underlying5 g off n cap (((L.drop off).take n).map fun b => (b.toNat : Int)) (by rw [List.length_map, hl]) (fun i hi => by
    rw [h.cell (off + i) (by omega)]
    have h1 : i < ((L.drop off).take n).length := by omega
    rw [List.getD_eq_getElem?_getD, List.getElem?_map, List.getElem?_eq_getElem h1]
    simp) 9 Tryz.underlying9
  rw [str_of] at this
  exact this
/-- What stands there behind a copy. -/
def copied (L : List UInt8) (o : Nat) (s : List UInt8) : List UInt8 := L.take o ++ s ++ L.drop (o + s.length)
theorem copied_length {o : Nat} {s : List UInt8} (h : o + s.length ≤ L.length) : (copied L o s).length = L.length := by
  unfold copied
  simp
  omega
theorem copied_at {o : Nat} {s : List UInt8} (h : o + s.length ≤ L.length) (i : Nat) : (copied L o s).getD i 0 = if o ≤ i ∧ i < o + s.length then s.getD (i - o) 0 else L.getD i 0 := by
  unfold copied
  have h1 : (L.take o).length = o := by rw [List.length_take]; omega
  simp only [List.getD_eq_getElem?_getD]
  by_cases c1 : i < o
  · rw [if_neg (by omega), List.append_assoc, List.getElem?_append_left (by omega), List.getElem?_take_of_lt c1]
  · by_cases c2 : i < o + s.length
    · rw [if_pos ⟨by omega, c2⟩, List.getElem?_append_left (by rw [List.length_append]; omega), List.getElem?_append_right (by omega), h1]
    · rw [if_neg (by omega), List.getElem?_append_right (by rw [List.length_append]; omega), List.length_append, h1, List.getElem?_drop]
      congr 2
      omega
theorem BcAt.copy (h : BcAt w g L) (o dLen dCap : Nat) (s : List UInt8) (hd : s.length ≤ dLen) (hf : o + s.length ≤ L.length) (ty : TypeId) :
    (Builtin.copy_ #[49, 9] ty #[.slice (some ⟨g, o, none⟩) dLen dCap, .string (str s)]).run Tryz.prog w = .ok (goInt s.length) (w.setRow g (bc (copied L o s)).toArray) := by
  have hsz : (Tryz.prog.info? 5).map (·.size) = some 1 := by kernel_rfl
  have hs : (str s).size = s.length := str_size s
  have := Lib.run_copy_row_string (P := Tryz.prog) w 49 9 ty 5 g o dLen dCap (str s) _ _ Tryz.underlying49 hsz h (by omega) (by rw [hs, bc_size]; omega)
  rw [this, hs]
  have e : (bc L).toArray.toList.take o ++ Lib.byteCells (str s).data.toList ++ (bc L).toArray.toList.drop (o + s.length) = bc (copied L o s) := by
    unfold copied bc Lib.byteCells
    simp [str_list]
  rw [e]
theorem BcAt.after (h : BcAt w g L) (o : Nat) (s : List UInt8) : BcAt (w.setRow g (bc (copied L o s)).toArray) g (copied L o s) := setRow_heap w g _ _ _ _ h
end
/-- What changes a block beside a view leaves the view. -/
theorem NV.beside {d : NV} {w0 y y' : World} {g : Nat} (h : d.at_ w0 y) (f : FrV (fun i => i = g) y y') (hg : w0.heap.size ≤ g) (hf : ¬ d.foot g) : d.at_ w0 y' := by
  have hb : PlC d.lim y d.p d.pv [] d.base := h.base
  exact VAt.aside h f (fun i hi => by subst hi; exact ⟨hg, fun r => hf (.inl r)⟩) (hb.kept f.size fun i hi => f.block i (NV.lt h (.inr hi)) (fun e => hf (by rw [← e]; exact .inr hi)))
theorem fr_cell (y : World) (g i : Nat) (v : Value) : FrV (fun k => k = g) y (y.setCell ⟨g, i, none⟩ v) :=
  ⟨⟨rfl, rfl, rfl, by simp, fun j hj => absurd hj (Nat.not_lt_zero j)⟩, fun k _ hn => heap_setCell_other _ _ _ _ hn⟩
theorem fr_row (y : World) (g : Nat) (cs : Array Value) : FrV (fun k => k = g) y (y.setRow g cs) :=
  ⟨⟨rfl, rfl, rfl, by simp [World.setRow], fun j hj => absurd hj (Nat.not_lt_zero j)⟩, fun k _ hn => setRow_other _ _ _ _ hn⟩
/-- A file whose bytes are f, and a block of bytes beside it. -/
structure ByS (w : World) (q g j : Nat) (f : Nat → UInt8) (L : List UInt8) (y : World) : Prop where
  ex : ∃ d : NV, d.q = q ∧ d.at_ w y ∧ FileOk d.V.C ∧ d.V.U = [] ∧ d.V.C.length ≤ 11 * j ∧ d.V.R.length ≤ 11 * j ∧ d.x.n ≤ 400 ∧ (∀ i, i < 2000 → f i = fB d.V.C 5 i) ∧ ¬ d.foot g
  row : BcAt y g L
  len : L.length = 2000
  lo : w.heap.size ≤ g
section
variable {w y y' : World} {q g j : Nat} {f : Nat → UInt8} {L : List UInt8}
theorem ByS.bel (h : ByS w q g j f L y) : Below w.heap.size w y := by
  obtain ⟨d, -, h1, -⟩ := h.ex
  exact h1.bel
theorem ByS.called (h : ByS w q g j f L y) (b : Below y.heap.size y y') : ByS w q g j f L y' := by
  obtain ⟨d, h1, h2, h3⟩ := h.ex
  exact ⟨⟨d, h1, NV.called h2 b, h3⟩, h.row.same (b.block g h.row.lt), h.len, h.lo⟩
theorem ByS.beside (h : ByS w q g j f L y) (fr : FrV (fun i => i = g) y y') {L' : List UInt8} (r : BcAt y' g L') (hl : L'.length = 2000) : ByS w q g j f L' y' := by
  obtain ⟨d, h1, h2, h3, h4, h5, h6, h7, h8, h9⟩ := h.ex
  exact ⟨⟨d, h1, NV.beside h2 fr h.lo h9, h3, h4, h5, h6, h7, h8, h9⟩, r, hl, h.lo⟩
theorem ByS.put (h : ByS w q g j f L y) (i : Nat) (b : UInt8) : ByS w q g j f (L.set i b) (y.setCell ⟨g, i, none⟩ (.int .u8 (b.toNat : Int))) :=
  h.beside (fr_cell y g i _) (h.row.put i b) (by rw [List.length_set]; exact h.len)
theorem ByS.copied (h : ByS w q g j f L y) (o : Nat) (s : List UInt8) (hf : o + s.length ≤ 2000) : ByS w q g j f (copied L o s) (y.setRow g (bc (copied L o s)).toArray) :=
  h.beside (fr_row y g _) (h.row.after o s) (by rw [copied_length (by rw [h.len]; exact hf)]; exact h.len)
theorem ByS.func (h : ByS w q g j f L y) {f' : Nat → UInt8} (e : ∀ i, i < 2000 → f' i = f i) : ByS w q g j f' L y := by
  obtain ⟨d, h1, h2, h3, h4, h5, h6, h7, h8, h9⟩ := h.ex
  exact ⟨⟨d, h1, h2, h3, h4, h5, h6, h7, fun i hi => (e i hi).trans (h8 i hi), h9⟩, h.row, h.len, h.lo⟩
theorem ByS.write (h : ByS w q g j f L y) (hj : j < 30) (off : Nat) (s : List UInt8) (ho : off ≤ 1023) (hs : s.length ≤ 300) :
    Calls Tryz.prog 12 #[.pointer (some ⟨q, 0, none⟩), .int .i64 5, .int .i64 (off : Int), .string (str s)] y fun e y' => e = .returned (.int .i64 0) ∧ ByS w q g (j + 1) (fun i => if off ≤ i ∧ i < off + s.length then s.getD (i - off) 0 else f i) L y' := by
  obtain ⟨d, rfl, h2, h3, h4, h5, h6, h7, h8, h9⟩ := h.ex
  have hod : off + s.length ≤ 1048576 := by omega
  have hp := pN_300 (off := off) hs
  refine (nvWrite h2 5 off s rfl (by omega) hod).mono fun e z r => ⟨r.1, ?_⟩
  obtain ⟨x', T⟩ := r.2
  have hc := writeV_len d.V (plGe []) 5 off s
  have hr := writeV_R d.V 5 off s
  have hU := writeV_U h4 5 off s
  have A := VAt.tight (NV.ran T) 400 (most_of hU (by show (writeV d.V (plGe []) 5 off s).C.length ≤ 400; omega) (by show (writeV d.V (plGe []) 5 off s).R.length ≤ 400; omega))
  have hng : ¬ d.x.own d.q g := fun e => h9 (.inl e)
  refine ⟨⟨{ d with x := { x' with n := 400 }, V := writeV d.V (plGe []) 5 off s }, rfl, A, write_ok h3 rfl hod, hU, by show (writeV d.V (plGe []) 5 off s).C.length ≤ _; omega, by show (writeV d.V (plGe []) 5 off s).R.length ≤ _; omega, Nat.le_refl _, fun i hi => ?_, ?_⟩, h.row.same (T.kept h.row.lt hng), h.len, h.lo⟩
  · show _ = fB (writeV d.V (plGe []) 5 off s).C 5 i
    rw [write_fB h3.asc rfl hod rfl i (by omega), ← h8 i hi]
    by_cases c : off ≤ i ∧ i < off + s.length
    · rw [if_pos c, if_pos ⟨rfl, c⟩]
    · rw [if_neg c, if_neg (fun e => c e.2)]
  · rintro (e | e | e)
    · rcases T.own g e with q1 | q1
      · exact hng q1
      · have := h.row.lt
        omega
    · exact h9 (.inr (.inl e))
    · exact h9 (.inr (.inr e))
theorem ByS.cut (h : ByS w q g j f L y) (hj : j < 30) (at_ : Nat) (ho : at_ ≤ 1023) :
    Calls Tryz.prog 14 #[.pointer (some ⟨q, 0, none⟩), .int .i64 5, .int .i64 (at_ : Int)] y fun e y' => e = .returned (.int .i64 0) ∧ ByS w q g (j + 1) (fun i => if at_ ≤ i then 0 else f i) L y' := by
  obtain ⟨d, rfl, h2, h3, h4, h5, h6, h7, h8, h9⟩ := h.ex
  refine (nvCut h2 5 at_ rfl (by omega) (by omega)).mono fun e z r => ⟨r.1, ?_⟩
  obtain ⟨x', T⟩ := r.2
  have hc := cutV_same h3.asc 5 (at_ : Int)
  have hr := cutV_R d.V 5 (at_ : Int)
  have hU := cutV_U h4 5 (at_ : Int)
  have A := VAt.tight (NV.ran T) 400 (most_of hU (by show (cutV d.V 5 (at_ : Int)).C.length ≤ 400; omega) (by show (cutV d.V 5 (at_ : Int)).R.length ≤ 400; omega))
  have hng : ¬ d.x.own d.q g := fun e => h9 (.inl e)
  refine ⟨⟨{ d with x := { x' with n := 400 }, V := cutV d.V 5 (at_ : Int) }, rfl, A, cut_ok h3, hU, by show (cutV d.V 5 (at_ : Int)).C.length ≤ _; omega, by show (cutV d.V 5 (at_ : Int)).R.length ≤ _; omega, Nat.le_refl _, fun i hi => ?_, ?_⟩, h.row.same (T.kept h.row.lt hng), h.len, h.lo⟩
  · show _ = fB (cutV d.V 5 (at_ : Int)).C 5 i
    rw [cut_fB h3 rfl (by omega) rfl i (by omega), ← h8 i hi]
    by_cases c : at_ ≤ i
    · rw [if_pos c, if_pos ⟨rfl, c⟩]
    · rw [if_neg c, if_neg (fun e => c e.2)]
  · rintro (e | e | e)
    · rcases T.own g e with q1 | q1
      · exact hng q1
      · have := h.row.lt
        omega
    · exact h9 (.inr (.inl e))
    · exact h9 (.inr (.inr e))
theorem ByS.read (h : ByS w q g j f L y) (hj : j ≤ 30) (off n : Nat) (ho : off ≤ 1023) (hn : n ≤ 511) (hf : ∀ i, i < 2000 → f i = L.getD i 0) :
    Calls Tryz.prog 16 #[.pointer (some ⟨q, 0, none⟩), .int .i64 5, .int .i64 (off : Int), .int .i64 (n : Int)] y fun e y' => e = .returned (.tuple #[.string (str ((L.drop off).take n)), .int .i64 0]) ∧ BcAt y' g L ∧ Below w.heap.size w y' := by
  obtain ⟨d, rfl, h2, h3, h4, h5, h6, h7, h8, h9⟩ := h.ex
  refine (nvRead h2 5 off n rfl (by omega) (by omega) (by omega)).mono fun e z r => ?_
  obtain ⟨r1, x', T⟩ := r
  have hng : ¬ d.x.own d.q g := fun e => h9 (.inl e)
  refine ⟨?_, h.row.same (T.kept h.row.lt hng), T.at_.bel⟩
  rw [r1, read_bytes h3 rfl (by omega), take_drop_map L off n (by rw [h.len]; omega)]
  have : (List.range n).map (fun j => fB d.V.C 5 (off + j)) = (List.range n).map (fun j => L.getD (off + j) 0) := List.map_congr_left fun i hi => by
    rw [List.mem_range] at hi
    rw [← h8 (off + i) (by omega), hf (off + i) (by omega)]
  rw [this]
theorem ByS.start {d : NV} (h : d.at_ w y) (hq : q = d.q) (hV : d.V = vs0) (hn : d.x.n = 0) (r : BcAt y g (List.replicate 2000 0)) (hg : w.heap.size ≤ g) (hf : ¬ d.foot g) : ByS w q g 0 (fun _ => 0) (List.replicate 2000 0) y := by
  refine ⟨⟨d, hq.symm, h, by rw [hV]; exact FileOk.nil, by rw [hV]; rfl, by rw [hV]; exact Nat.zero_le _, by rw [hV]; exact Nat.zero_le _, by omega, fun i _ => ?_, hf⟩, r, List.length_replicate, hg⟩
  rw [hV]
  show (0 : UInt8) = (fullP []).getD (i % 32) 0
  rw [full_nil, List.getD_eq_getElem?_getD, List.getElem?_replicate]
  split <;> rfl
end
end Go.Proofs.YtdmindhjmjnagaaGreatDoor
/- What comes in to stage 13's statements: steps. -/
namespace Go.Proofs.YtdmindhjmjnagaaGreatDoor
set_option linter.unusedVariables false
set_option maxRecDepth 100000
open Go.ChangeShapes Go.WideShapes Go.ChangeAt Go.RowKit

/-- A step of stage 13. -/
structure Co where
  kind : Int
  ino : Int
  off : Int
  n : Int
  s : List UInt8
  hi : -9223372036854775808 ≤ ino ∧ ino ≤ 9223372036854775807
  ho : -9223372036854775808 ≤ off ∧ off ≤ 9223372036854775807
  hn : -9223372036854775808 ≤ n ∧ n ≤ 9223372036854775807
def cocd (o : Co) : List Value := [.int .i64 o.kind, .int .i64 o.ino, .int .i64 o.off, .int .i64 o.n, .string (str o.s)]
def encCo : Enc Co 5 := ⟨cocd, fun _ => rfl, fun o v hv => by
  simp only [cocd, List.mem_cons, List.not_mem_nil, or_false] at hv
  rcases hv with rfl | rfl | rfl | rfl | rfl <;> rfl⟩
section
variable {w : World} {g off : Nat} {o : Co}
theorem range_cKind (h : w.rangeAt g off (encCo.c o)) : w.cell? ⟨g, off, none⟩ = some (.int .i64 o.kind) := by
  have := h 0 (.int .i64 o.kind) rfl
  simpa using this
theorem range_cIno (h : w.rangeAt g off (encCo.c o)) : w.cell? ⟨g, off + 1, none⟩ = some (.int .i64 o.ino) := h 1 (.int .i64 o.ino) rfl
theorem range_cOff (h : w.rangeAt g off (encCo.c o)) : w.cell? ⟨g, off + 2, none⟩ = some (.int .i64 o.off) := h 2 (.int .i64 o.off) rfl
theorem range_cN (h : w.rangeAt g off (encCo.c o)) : w.cell? ⟨g, off + 3, none⟩ = some (.int .i64 o.n) := h 3 (.int .i64 o.n) rfl
theorem range_cStr (h : w.rangeAt g off (encCo.c o)) : w.cell? ⟨g, off + 4, none⟩ = some (.string (str o.s)) := h 4 (.string (str o.s)) rfl
end
theorem open_cops {H : Type} {enc : TypeId × Value → H} {W : World} {base : Nat} {held : Bool} {a : Option Addr} {len cap : Nat} {d : DataW H} {p : List MemPlace}
    (h : DataW.Trod enc Tryz.prog W base (fun _ => true) held 22 (.slice a len cap) d p) : ∃ l : List Co, Sl encCo W (.slice a len cap) l := by
  refine open_els encCo 22 29 Tryz.underlying22 (by kernel_rfl) (by decide) (fun fuel z cs hf hl => ?_) h
  obtain ⟨xs, n', _, _, _, hlen, hf'⟩ := DataW.trod_struct Tryz.underlying29 hf
  match xs, hlen with
  | [y0, y1, y2, y3, y4], _ =>
    have ki : Tryz.prog.cellsOf 3 = 1 := by kernel_rfl
    have k1 : Tryz.prog.cellsOf 9 = 1 := by kernel_rfl
    have f0 := hf' 0 _ rfl
    have f1 := hf' 1 _ rfl
    have f2 := hf' 2 _ rfl
    have f3 := hf' 3 _ rfl
    have f4 := hf' 4 _ rfl
    simp at f0 f1 f2 f3 f4
    rw [ki] at f0 f1 f2 f3
    rw [k1] at f4
    obtain ⟨kd, e0, _, _⟩ := DataW.trod_int Tryz.underlying3 f0
    obtain ⟨ii, e1, _, w1⟩ := DataW.trod_int Tryz.underlying3 f1
    obtain ⟨oo, e2, _, w2⟩ := DataW.trod_int Tryz.underlying3 f2
    obtain ⟨nn, e3, _, w3⟩ := DataW.trod_int Tryz.underlying3 f3
    obtain ⟨s, e4, _, _⟩ := DataW.trod_string Tryz.underlying9 f4
    have b1 := bounds_i64 w1
    have b2 := bounds_i64 w2
    have b3 := bounds_i64 w3
    refine ⟨⟨kd, ii, oo, nn, s.data.toList, by omega, by omega, by omega⟩, ?_⟩
    show cs = [.int .i64 kd, .int .i64 ii, .int .i64 oo, .int .i64 nn, .string (str s.data.toList)]
    rw [str_data]
    rw [List.take_of_length_le (l := cs.drop 4) (by simp; omega)] at e4
    have d4 : cs.drop 4 = (cs.drop 3).drop 1 := by rw [List.drop_drop]
    have d3 : cs.drop 3 = (cs.drop 2).drop 1 := by rw [List.drop_drop]
    have d2 : cs.drop 2 = cs.tail.drop 1 := by rw [← List.drop_one, List.drop_drop]
    have d1 : cs.tail = cs.drop 1 := List.drop_one.symm
    show cs = .int .i64 kd :: .int .i64 ii :: .int .i64 oo :: .int .i64 nn :: [.string s]
    rw [← e4]
    show cs = .int .i64 kd :: .int .i64 ii :: .int .i64 oo :: ([.int .i64 nn] ++ cs.drop 4)
    rw [← e3, d4, List.take_append_drop]
    show cs = .int .i64 kd :: .int .i64 ii :: ([.int .i64 oo] ++ cs.drop 3)
    rw [← e2, d3, List.take_append_drop]
    show cs = .int .i64 kd :: ([.int .i64 ii] ++ cs.drop 2)
    rw [← e1, d2, List.take_append_drop]
    show cs = [.int .i64 kd] ++ cs.tail
    rw [← e0, d1, List.take_append_drop]
end Go.Proofs.YtdmindhjmjnagaaGreatDoor
/- ChunkBytes. -/
namespace Go.Proofs.YtdmindhjmjnagaaGreatDoor
set_option linter.unusedVariables false
set_option maxRecDepth 100000
open Go.RowKit

set_option maxRecDepth 100000 in
set_option maxHeartbeats 16000000 in
theorem chunkBytes_walk (w : World) (u : Value) (ops : List Co) (h : Sl encCo w u ops) (off0 n0 : Int) :
    Calls Tryz.prog 4 #[u, .int .i64 off0, .int .i64 n0] w fun e w' => e = .returned (.bool true) ∧ Below w.heap.size w w' := by
  have hsh := shown13_calls w
  obtain ⟨ad, cap, rfl, hcap, hmax, -, -⟩ := id h
  have HI : Hid (∀ i (hi : i < ops.length), ∃ g off, ad = some ⟨g, off, none⟩ ∧ g < w.heap.size ∧ w.rangeAt g (off + i * 5) (encCo.c ops[i])) := fun i hi => SlB.at h i hi
  obtain ⟨N, hN⟩ : ∃ N : Nat, N = ops.length := ⟨_, rfl⟩
  rw [← hN] at hcap hmax ⊢
  have HN : Hid (N = ops.length) := hN
  obtain ⟨M, hM⟩ : ∃ M : Nat, M = min N 30 := ⟨_, rfl⟩
  have HM : Hid (M = min N 30) := hM
  have hmo := and1023 off0
  have hmn := and511 n0
  clear h hN hM
  go_enter Tryz.func4, Tryz.ntmps4
  go_upto_region 2 with (go_at_call 9; refine hsh.mono ?_; clear hsh; rintro e y0 ⟨rfl, b1⟩)
  have hN1 := nvNew_calls w y0 b1
  clear b1
  go_upto_region 3 with (go_at_call 10; refine hN1.mono ?_; clear hN1; rintro e y1 ⟨d1, rfl, A1, v1, n1, f1, b1⟩)
  obtain ⟨q, hq⟩ : ∃ q, q = d1.q := ⟨_, rfl⟩
  rw [← hq]
  have HV1 : Hid (d1.at_ w y1 ∧ q = d1.q ∧ d1.V = vs0 ∧ d1.x.n = 0) := ⟨A1, hq, v1, n1⟩
  clear A1 v1 n1 f1 b1 hq
  go_upto_region 6 with (first
    | (refine zr_make _ _ rfl rfl 2000 2000 rfl rfl rfl (by decide) ?_; intro y2 o2 g2))
  have HS : Hid (ByS w q y1.heap.size 0 (fun _ => 0) (List.replicate 2000 0) y2) := by
    have b6 : Below y1.heap.size y1 y2 := ⟨g2.os, g2.tape, g2.output, g2.size, fun k hk => g2.block k hk (by simp)⟩
    exact ByS.start (NV.called HV1.out.1 b6) HV1.out.2.1 HV1.out.2.2.1 HV1.out.2.2.2 (BcAt.of_own o2) (VAt.bel HV1.out.1).size (fun e => Nat.lt_irrefl _ (NV.lt HV1.out.1 e))
  clear o2 g2 HV1
  generalize y1.heap.size = gb at *
  go_wp2_with fail
  go_loopg [10] M (fun gg i wr => ∃ (j : Nat) (L : List UInt8), j + gg = M ∧ i = .int .i64 (j : Int) ∧ Hid (ByS w q gb j (fun i => L.getD i 0) L wr))
  case atStart => exact ⟨0, List.replicate 2000 0, by omega, rfl, HS.out.func (fun i hi => by rw [List.getD_eq_getElem?_getD, List.getElem?_replicate]; split <;> rfl)⟩
  case round =>
    clear HS
    obtain ⟨j, L, hjg, rfl, HE⟩ := hrel
    cases gk with
    | zero =>
      have hjM : j = M := by omega
      by_cases hjN : j < N
      · have hjI : (j : Int) < (N : Int) := by omega
        have hj40 : ¬ (j : Int) < 30 := by have := HM.out; omega
        have HJM : Hid (j = M) := hjM
        clear hjN hjM hjg
        have HF : Hid (ByS w q gb j (fun i => L.getD i 0) L wr ∧ j ≤ 30) := ⟨HE.out, by have := HM.out; have := HJM.out; omega⟩
        clear HE HI
        go_upto_region 23 with fail
        obtain ⟨of2, hof⟩ := Int.eq_ofNat_of_zero_le (show 0 ≤ off0 % 1024 by omega)
        obtain ⟨nn, hnn⟩ := Int.eq_ofNat_of_zero_le (show 0 ≤ n0 % 512 by omega)
        rw [hof]
        rw [hnn]
        have hofI : (of2 : Int) ≤ 1023 := by omega
        have hnnI : (nn : Int) ≤ 511 := by omega
        have h1 := HF.out.1.read HF.out.2 of2 nn (by omega) (by omega) (fun _ _ => rfl)
        clear hof hnn
        go_upto_region 24 with (go_at_call 16; refine h1.mono ?_; clear h1; rintro e z1 ⟨rfl, R1, B1⟩)
        have hcv := R1.conv of2 nn (2000 - of2) (by rw [HF.out.1.len]; omega)
        have hse : ((str ((L.drop of2).take nn)).toList == (str ((L.drop of2).take nn)).toList) = true := by simp
        go_wp2_with fail
        go_ret
        exact ⟨rfl, B1⟩
      · have hjI : ¬ (j : Int) < (N : Int) := by omega
        have HJM : Hid (j = M) := hjM
        clear hjN hjM hjg
        have HF : Hid (ByS w q gb j (fun i => L.getD i 0) L wr ∧ j ≤ 30) := ⟨HE.out, by have := HM.out; have := HJM.out; omega⟩
        clear HE HI
        go_upto_region 23 with fail
        obtain ⟨of2, hof⟩ := Int.eq_ofNat_of_zero_le (show 0 ≤ off0 % 1024 by omega)
        obtain ⟨nn, hnn⟩ := Int.eq_ofNat_of_zero_le (show 0 ≤ n0 % 512 by omega)
        rw [hof]
        rw [hnn]
        have hofI : (of2 : Int) ≤ 1023 := by omega
        have hnnI : (nn : Int) ≤ 511 := by omega
        have h1 := HF.out.1.read HF.out.2 of2 nn (by omega) (by omega) (fun _ _ => rfl)
        clear hof hnn
        go_upto_region 24 with (go_at_call 16; refine h1.mono ?_; clear h1; rintro e z1 ⟨rfl, R1, B1⟩)
        have hcv := R1.conv of2 nn (2000 - of2) (by rw [HF.out.1.len]; omega)
        have hse : ((str ((L.drop of2).take nn)).toList == (str ((L.drop of2).take nn)).toList) = true := by simp
        go_wp2_with fail
        go_ret
        exact ⟨rfl, B1⟩
    | succ gg =>
      have hjI : (j : Int) < (N : Int) := by have := HM.out; omega
      have hj40 : (j : Int) < 30 := by have := HM.out; omega
      have hj0 : (0 : Int) ≤ (j : Int) := by omega
      have hjl : j < ops.length := by have := HN.out; omega
      obtain ⟨g, off, rfl, hg, hat⟩ := HI.out j hjl
      generalize ops[j] = o at *
      have HAT : Hid (∀ yy : World, Below w.heap.size w yy → yy.rangeAt g (off + j * 5) (encCo.c o)) := fun yy hb => range_same' hat (hb.block g hg)
      have HCS : Hid (∀ yy : World, yy.rangeAt g (off + j * 5) (encCo.c o) → yy.cell? ⟨g, off + j * 5 + 4, none⟩ = some (.string (str o.s))) := fun yy hh => range_cStr hh
      have hcO := range_cOff (HAT.out _ HE.out.bel)
      clear hat hg hjl HI
      go_upto_region 10 with fail
      have hcut := str_cut300 o.s
      have hm0 : (0 : Int) ≤ min ((str o.s).size : Int) 300 := by omega
      have hm1 : min ((str o.s).size : Int) 300 ≤ ((str o.s).size : Int) := by omega
      have hm3 := and1023 o.off
      have HRD : Hid (ByS w q gb j (fun i => L.getD i 0) L wr.drew) := HE.out.called ⟨rfl, rfl, rfl, Nat.le_refl _, fun _ _ => rfl⟩
      have HBD : Hid (Below w.heap.size w wr.drew) := HRD.out.bel
      clear HE hcO
      refine wp_region_noPanic ?_
      refine wp_region_held_drew (S := (fun yy => yy.rangeAt g (off + j * 5) (encCo.c o))) (by kernel_rfl) (HAT.out _ HBD.out) (fun hHeld => ?_)
      refine wpAnyH_take (i := 0) (v := ?_) rfl (by kernel_rfl) (by kernel_rfl) (by kernel_rfl) (fun _ _ _ h => h) (Or.inl ⟨by rfl, ?_⟩) hHeld ?_
      case refine_2 => (intro w hSw; (try dsimp only at hSw); go_simp; try (with_reducible rfl))
      (try simp only [gs])
      refine wpAnyH_take (i := 1) (v := ?_) rfl (by kernel_rfl) (by kernel_rfl) (by kernel_rfl) (fun _ _ _ h => h) (Or.inl ⟨by rfl, ?_⟩) hHeld ?_
      case refine_2 => (intro w hSw; (try dsimp only at hSw); go_simp; try (with_reducible rfl))
      (try simp only [gs])
      refine wpAnyH_take (i := 2) (v := ?_) rfl (by kernel_rfl) (by kernel_rfl) (by kernel_rfl) (fun _ _ _ h => h) (Or.inl ⟨by rfl, ?_⟩) hHeld ?_
      case refine_2 => (intro w hSw; (try dsimp only at hSw); go_simp; try (with_reducible rfl))
      (try simp only [gs])
      refine wpAnyH_take (i := 3) (v := ?_) rfl (by kernel_rfl) (by kernel_rfl) (by kernel_rfl) (fun _ _ _ h => h) (Or.inl ⟨by rfl, ?_⟩) hHeld ?_
      case refine_2 => (intro w hSw; (try dsimp only at hSw); go_simp; try (with_reducible rfl))
      (try simp only [gs])
      refine wpAnyH_take (i := 4) (v := ?_) rfl (by kernel_rfl) (by kernel_rfl) (by kernel_rfl) (fun _ _ _ h => h) (Or.inl ⟨by rfl, ?_⟩) hHeld ?_
      case refine_2 => (intro w hSw; (try dsimp only at hSw); have hc := HCS.out _ hSw; go_simp; try (with_reducible rfl))
      (try simp only [gs])
      refine wpAnyH_take (i := 5) (v := ?_) rfl (by kernel_rfl) (by kernel_rfl) (by kernel_rfl) (fun _ _ _ h => h) (Or.inl ⟨by rfl, ?_⟩) hHeld ?_
      case refine_2 => (intro w hSw; (try dsimp only at hSw); go_simp; try (with_reducible rfl))
      (try simp only [gs])
      refine wpAnyH_take (i := 6) (v := ?_) rfl (by kernel_rfl) (by kernel_rfl) (by kernel_rfl) (fun _ _ _ h => h) (Or.inl ⟨by rfl, ?_⟩) hHeld ?_
      case refine_2 => (intro w hSw; (try dsimp only at hSw); go_simp; try (with_reducible rfl))
      (try simp only [gs])
      refine wpAnyH_take (i := 7) (v := ?_) rfl (by kernel_rfl) (by kernel_rfl) (by kernel_rfl) (fun _ _ _ h => h) (Or.inl ⟨by rfl, ?_⟩) hHeld ?_
      case refine_2 => (intro w hSw; (try dsimp only at hSw); go_simp; try (with_reducible rfl))
      (try simp only [gs])
      refine wpAnyH_take (i := 8) (v := ?_) rfl (by kernel_rfl) (by kernel_rfl) (by kernel_rfl) (fun _ _ _ h => h) (Or.inl ⟨by rfl, ?_⟩) hHeld ?_
      case refine_2 => (intro w hSw; (try dsimp only at hSw); go_simp; try (with_reducible rfl))
      (try simp only [gs])
      refine wpAnyH_take (i := 9) (v := ?_) rfl (by kernel_rfl) (by kernel_rfl) (by kernel_rfl) (fun _ _ _ h => h) (Or.inl ⟨by rfl, ?_⟩) hHeld ?_
      case refine_2 => (intro w hSw; (try dsimp only at hSw); have hc := HCS.out _ hSw; go_simp; try (with_reducible rfl))
      (try simp only [gs])
      refine wpAnyH_take (i := 10) (v := ?_) rfl (by kernel_rfl) (by kernel_rfl) (by kernel_rfl) (fun _ _ _ h => h) (Or.inl ⟨by rfl, ?_⟩) hHeld ?_
      case refine_2 => (intro w hSw; (try dsimp only at hSw); go_simp; try (with_reducible rfl))
      (try simp only [gs])
      refine wpAnyH_take (i := 11) (v := ?_) rfl (by kernel_rfl) (by kernel_rfl) (by kernel_rfl) (fun _ _ _ h => h) (Or.inl ⟨by rfl, ?_⟩) hHeld ?_
      case refine_2 => (intro w hSw; (try dsimp only at hSw); go_simp; try (with_reducible rfl))
      (try simp only [gs])
      refine wpAnyH_take (i := 12) (v := ?_) rfl (by kernel_rfl) (by kernel_rfl) (by kernel_rfl) (fun _ _ _ h => h) (Or.inl ⟨by rfl, ?_⟩) hHeld ?_
      case refine_2 => (intro w hSw; (try dsimp only at hSw); go_simp; try (with_reducible rfl))
      (try simp only [gs])
      refine wpAnyH_take (i := 13) (v := ?_) rfl (by kernel_rfl) (by kernel_rfl) (by kernel_rfl) (fun _ _ _ h => h) (Or.inl ⟨by rfl, ?_⟩) hHeld ?_
      case refine_2 => (intro w hSw; (try dsimp only at hSw); go_simp; try (with_reducible rfl))
      (try simp only [gs])
      refine wpAnyH_done (by kernel_rfl) ?_ _
      refine NoPanic.normal ?_
      clear hHeld
      clear hcut hm0 hm1
      have hc0 := range_cKind (HAT.out _ HBD.out)
      clear HAT HCS HBD
      generalize wr.drew = z0 at *
      have HSL : Hid ((o.s.take 300).length ≤ 300) := (show _ ≤ _ by rw [List.length_take]; omega)
      generalize o.s.take 300 = s at *
      obtain ⟨at_, hat⟩ := Int.eq_ofNat_of_zero_le (show 0 ≤ o.off % 1024 by omega)
      rw [hat] at hm3
      have haI : (at_ : Int) ≤ 1023 := by omega
      have HA : Hid (at_ ≤ 1023) := (show _ ≤ _ by omega)
      have HJ : Hid (j < 30) := (show _ < _ by omega)
      rw [hm3]
      clear hat hm3
      by_cases hk : o.kind = 2
      · have hk2 : (o.kind == 2) = true := by simpa using hk
        have h3 := HRD.out.cut HJ.out at_ HA.out
        clear hk
        go_upto_region 14 with (go_at_call 14; refine h3.mono ?_; clear h3; rintro e z1 ⟨rfl, R1⟩)
        go_wp2_with fail
        go_loopg [13] (2000 - at_) (fun g2 k wr2 => ∃ (m : Nat) (L' : List UInt8), m + g2 = 2000 ∧ at_ ≤ m ∧ k = .int .i64 (m : Int) ∧ Hid (ByS w q gb (j + 1) (fun i => if at_ ≤ i then 0 else L.getD i 0) L' wr2 ∧ ∀ i, i < 2000 → L'.getD i 0 = if at_ ≤ i ∧ i < m then 0 else L.getD i 0))
        case atStart => exact ⟨at_, L, by have := HA.out; omega, Nat.le_refl _, rfl, R1, fun i _ => by rw [if_neg (by omega)]⟩
        case round =>
          clear R1
          obtain ⟨m, L', hmg, ham, rfl, HL⟩ := hrel
          cases gk with
          | zero =>
            have hmI : ¬ (m : Int) < 2000 := by omega
            have HM2 : Hid (m = 2000) := (show _ = _ by omega)
            clear hmg
            go_wp2_with fail
            go_roundg gg
            case measure => omega
            case rel => exact ⟨j + 1, L', by omega, congrArg (Value.int .i64) (by omega), HL.out.1.func (fun i hi => by
              rw [HL.out.2 i hi]
              have := HM2.out
              by_cases c : at_ ≤ i
              · rw [if_pos ⟨c, by omega⟩, if_pos c]
              · rw [if_neg (by omega), if_neg c])⟩
          | succ g2 =>
            have hmI : (m : Int) < 2000 := by omega
            have hm0 : (0 : Int) ≤ (m : Int) := by omega
            have hml : m < L'.length := by rw [HL.out.1.len]; omega
            have hcell := HL.out.1.row.cell m hml
            have hfz := frozen_of_row _ gb m _ _ HL.out.1.row
            have hput := HL.out.1.put m 0
            rw [show ((0 : UInt8).toNat : Int) = 0 from rfl] at hput
            have HPU : Hid (ByS w q gb (j + 1) (fun i => if at_ ≤ i then 0 else L.getD i 0) (L'.set m 0) (wr.setCell ⟨gb, m, none⟩ (.int .u8 0)) ∧ ∀ i, i < 2000 → (L'.set m 0).getD i 0 = if at_ ≤ i ∧ i < m + 1 then 0 else L.getD i 0) := ⟨hput, fun i hi => by
              by_cases c : i = m
              · subst c
                rw [if_pos ⟨ham, by omega⟩, List.getD_eq_getElem?_getD, List.getElem?_set_self hml]
                rfl
              · rw [List.getD_eq_getElem?_getD, List.getElem?_set_ne (by omega), ← List.getD_eq_getElem?_getD, HL.out.2 i hi]
                by_cases c2 : at_ ≤ i ∧ i < m
                · rw [if_pos c2, if_pos ⟨c2.1, by omega⟩]
                · rw [if_neg c2, if_neg (by omega)]⟩
            clear hput HL
            go_wp2_with fail
            go_roundg g2
            case measure => omega
            case rel => exact ⟨m + 1, L'.set m 0, by omega, by omega, congrArg (Value.int .i64) (by omega), HPU.out⟩
      · have hk2 : (o.kind == 2) = false := by simpa using hk
        have h3 := HRD.out.write HJ.out at_ s HA.out HSL.out
        clear hk
        go_upto_region 20 with (go_at_call 12; refine h3.mono ?_; clear h3; rintro e z1 ⟨rfl, R1⟩)
        have hcp := R1.row.copy at_ (2000 - at_) (2000 - at_) s (by have := HA.out; have := HSL.out; omega) (by rw [R1.len]; have := HA.out; have := HSL.out; omega) 3
        have HC : Hid (ByS w q gb (j + 1) (fun i => (copied L at_ s).getD i 0) (copied L at_ s) (z1.setRow gb (bc (copied L at_ s)).toArray)) := (R1.copied at_ s (by have := HA.out; have := HSL.out; omega)).func (fun i hi => copied_at (by rw [R1.len]; have := HA.out; have := HSL.out; omega) i)
        clear R1
        go_wp2_with fail
        go_roundg gg
        case measure => omega
        case rel => exact ⟨j + 1, copied L at_ s, by omega, congrArg (Value.int .i64) (by omega), HC.out⟩
end Go.Proofs.YtdmindhjmjnagaaGreatDoor
