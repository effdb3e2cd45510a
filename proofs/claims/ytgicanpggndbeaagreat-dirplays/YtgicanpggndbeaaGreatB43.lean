import Derived.Test.YtgicanpggndbeaaGreatSi
import Derived.Test.YtgicanpggndbeaaGreatB29
import Derived.Test.YtgicanpggndbeaaGreatB42
import Derived.Test.YtgicanpggndbeaaGreatB30
import Derived.Test.YtgicanpggndbeaaGreatB01
import Derived.Test.YtgicanpggndbeaaGreatB18
/- What comes in to stage 14's statements: texts, steps. -/
namespace Go.Proofs.YtgicanpggndbeaaGreat
set_option linter.unusedVariables false
set_option maxRecDepth 100000
open Go.ChangeShapes Go.WideShapes Go.ChangeAt Go.RowKit

/-- A step of stage 14. -/
structure Do where
 kind : Int
 dir : Int
 ino : Int
 s : List UInt8
 k : List UInt8
 h : k.length = 24
 v : List UInt8
def Do.kz (o : Do) : Kz := ⟨o.k, o.h⟩
def dcd (o : Do) : List Value := [.int .i64 o.kind, .int .i64 o.dir, .int .i64 o.ino, .string (str o.s)] ++ bc o.k ++ [.string (str o.v)]
theorem dcd_len (o : Do) : (dcd o).length = 29 := by simp [dcd, bc_length, o.h]
def encDo : Enc Do 29 := ⟨dcd, dcd_len, fun o v hv => by
 simp only [dcd, List.mem_append, List.mem_cons, List.not_mem_nil, or_false] at hv
 rcases hv with (hv | hv) | hv
 · rcases hv with rfl | rfl | rfl | rfl <;> rfl
 · exact bc_one _ v hv
 · subst hv; rfl⟩
section
variable {w : World} {g off : Nat} {o : Do}
theorem range_dKind (h : w.rangeAt g off (encDo.c o)) : w.cell? ⟨g, off, none⟩ = some (.int .i64 o.kind) := by
 have := h 0 (.int .i64 o.kind) rfl
 simpa using this
theorem range_dDir (h : w.rangeAt g off (encDo.c o)) : w.cell? ⟨g, off + 1, none⟩ = some (.int .i64 o.dir) := h 1 (.int .i64 o.dir) rfl
theorem range_dIno (h : w.rangeAt g off (encDo.c o)) : w.cell? ⟨g, off + 2, none⟩ = some (.int .i64 o.ino) := h 2 (.int .i64 o.ino) rfl
theorem range_dStr (h : w.rangeAt g off (encDo.c o)) : w.cell? ⟨g, off + 3, none⟩ = some (.string (str o.s)) := h 3 (.string (str o.s)) rfl
theorem dcd_at (o : Do) (j : Nat) (hj : j < 24) : (dcd o)[4 + j]? = (bc o.k)[j]? := by
 have hk : (bc o.k).length = 24 := by rw [bc_length, o.h]
 unfold dcd
 rw [List.append_assoc, List.getElem?_append_right (by simp), List.getElem?_append_left (by rw [hk]; simp; omega)]
 simp
theorem range_dKey (h : w.rangeAt g off (encDo.c o)) : w.rangeAt g (off + 4) (bc o.k) := fun j v hv => by
 have hj : j < 24 := by have := (List.getElem?_eq_some_iff.1 hv).1; rw [bc_length, o.h] at this; exact this
 have := h (4 + j) v (by show (dcd o)[4 + j]? = _; rw [dcd_at o j hj]; exact hv)
 rwa [← Nat.add_assoc] at this
theorem range_dVal (h : w.rangeAt g off (encDo.c o)) : w.cell? ⟨g, off + 28, none⟩ = some (.string (str o.v)) := h 28 (.string (str o.v)) (by
 show (dcd o)[28]? = _
 have hk : (bc o.k).length = 24 := by rw [bc_length, o.h]
 unfold dcd
 rw [List.getElem?_append_right (by simp [hk])]
 simp [hk])
end
theorem open_dops {H : Type} {enc : TypeId × Value → H} {W : World} {base : Nat} {held : Bool} {a : Option Addr} {len cap : Nat} {d : DataW H} {p : List MemPlace}
    (h : DataW.Trod enc Tryz.prog W base (fun _ => true) held 22 (.slice a len cap) d p) : ∃ l : List Do, Sl encDo W (.slice a len cap) l := by
 refine open_els encDo 22 31 Tryz.underlying22 (by kernel_rfl) (by decide) (fun fuel z cs hf hl => ?_) h
 obtain ⟨xs, n', _, _, _, hlen, hf'⟩ := DataW.trod_struct Tryz.underlying31 hf
 match xs, hlen with
 | [y0, y1, y2, y3, y4, y5], _ =>
  have ki : Tryz.prog.cellsOf 3 = 1 := by kernel_rfl
  have k24 : Tryz.prog.cellsOf 29 = 24 := by kernel_rfl
  have k1 : Tryz.prog.cellsOf 9 = 1 := by kernel_rfl
  have f0 := hf' 0 _ rfl
  have f1 := hf' 1 _ rfl
  have f2 := hf' 2 _ rfl
  have f3 := hf' 3 _ rfl
  have f4 := hf' 4 _ rfl
  have f5 := hf' 5 _ rfl
  simp at f0 f1 f2 f3 f4 f5
  rw [ki] at f0 f1 f2
  rw [k24] at f4
  rw [k1] at f3 f5
  obtain ⟨kd, e0, _, _⟩ := DataW.trod_int Tryz.underlying3 f0
  obtain ⟨dd, e1, _, _⟩ := DataW.trod_int Tryz.underlying3 f1
  obtain ⟨ii, e2, _, _⟩ := DataW.trod_int Tryz.underlying3 f2
  obtain ⟨s, e3, _, _⟩ := DataW.trod_string Tryz.underlying9 f3
  obtain ⟨K, lK, e4⟩ := trod_key f4
  obtain ⟨v, e5, _, _⟩ := DataW.trod_string Tryz.underlying9 f5
  refine ⟨⟨kd, dd, ii, s.data.toList, K, lK, v.data.toList⟩, ?_⟩
  show cs = [.int .i64 kd, .int .i64 dd, .int .i64 ii, .string (str s.data.toList)] ++ bc K ++ [.string (str v.data.toList)]
  rw [str_data2, str_data2, ← e4, ← e5, List.take_of_length_le (l := cs.drop 28) (by simp; omega)]
  have d28 : cs.drop 28 = (cs.drop 4).drop 24 := by rw [List.drop_drop]
  have d4 : cs.drop 4 = (cs.drop 3).drop 1 := by rw [List.drop_drop]
  have d3 : cs.drop 3 = (cs.drop 2).drop 1 := by rw [List.drop_drop]
  have d2 : cs.drop 2 = cs.tail.drop 1 := by rw [← List.drop_one, List.drop_drop]
  have d1 : cs.tail = cs.drop 1 := List.drop_one.symm
  rw [List.append_assoc, d28, List.take_append_drop]
  show cs = .int .i64 kd :: .int .i64 dd :: .int .i64 ii :: ([.string s] ++ cs.drop 4)
  rw [← e3, d4, List.take_append_drop]
  show cs = .int .i64 kd :: .int .i64 dd :: ([.int .i64 ii] ++ cs.drop 3)
  rw [← e2, d3, List.take_append_drop]
  show cs = .int .i64 kd :: ([.int .i64 dd] ++ cs.drop 2)
  rw [← e1, d2, List.take_append_drop]
  show cs = [.int .i64 kd] ++ cs.tail
  rw [← e0, d1, List.take_append_drop]
end Go.Proofs.YtgicanpggndbeaaGreat
/- DirPlays: a step on both views (puts, drops, raw pairs, Find). -/
namespace Go.Proofs.YtgicanpggndbeaaGreat
set_option linter.unusedVariables false
set_option maxRecDepth 100000
open Go.RowKit

/-- What stays through all steps. -/
structure Dn where
 lim : Nat
 p : Nat
 pv : Value
 base : Nat
 q : Nat
 rp : Nat
 bv : Value
abbrev Dn.I (d : Dn) : Nat → World → Prop := fun _ w => PlC d.lim w d.p d.pv [] d.base
abbrev Dn.iv (d : Dn) : Value := .iface 69 (.pointer (some ⟨d.p, 0, none⟩))
abbrev nilV : Value := .slice none 0 0
theorem Dn.D (d : Dn) : Baser d.lim noB d.I d.iv (plGe []) (fun s => (scanL s [], 0)) := plainC_base d.lim d.p d.pv [] d.base (Nat.zero_le _)
/-- Both views, j steps on. -/
def DpSt (w0 : World) (d : Dn) (j nx rb : Nat) (y : World) : Prop :=
 ∃ (x : VR) (V : VS) (cv rv : Value) (C : List Ch) (R : List Sp), PlAt w0 d.lim d.p d.pv [] d.base d.q x V d.rp d.bv cv rv nilV C R [] [] y ∧ PlOk [] V C R [] [] j ∧ x.n ≤ nx ∧ (rb = 0 ∨ R.length ≤ rb)
/-- The step's box. -/
structure Bx (d : Dn) (b : Nat) (o : Do) (y : World) : Prop where
 rg : y.rangeAt b 0 (encDo.c o)
 lt : b < y.heap.size
theorem Bx.fr {d : Dn} {b : Nat} {o : Do} {y z : World} (h : Bx d b o y) (F : FrV (fun i => i = d.rp) y z) (hne : b ≠ d.rp) : Bx d b o z := ⟨range_same' h.rg (F.block b h.lt hne), Nat.lt_of_lt_of_le h.lt F.size⟩
theorem Bx.called {d : Dn} {b : Nat} {o : Do} {y z : World} (h : Bx d b o y) (hb : Below y.heap.size y z) : Bx d b o z := ⟨range_same' h.rg (hb.block b h.lt), Nat.lt_of_lt_of_le h.lt hb.size⟩
/-- Both, with a box that is none of their own. -/
def DpBx (w0 : World) (d : Dn) (j b : Nat) (o : Do) (y : World) : Prop :=
 ∃ (x : VR) (V : VS) (cv rv : Value) (C : List Ch) (R : List Sp), PlAt w0 d.lim d.p d.pv [] d.base d.q x V d.rp d.bv cv rv nilV C R [] [] y ∧ PlOk [] V C R [] [] j ∧ x.n ≤ 100 ∧ R.length ≤ 300 ∧ Bx d b o y ∧ ¬ x.own d.q b ∧ b ≠ d.rp
theorem DpSt.called {w0 : World} {d : Dn} {j nx rb : Nat} {y z : World} (h : DpSt w0 d j nx rb y) (hb : Below y.heap.size y z) : DpSt w0 d j nx rb z := by
 obtain ⟨x, V, cv, rv, C, R, A, B, hn⟩ := h
 exact ⟨x, V, cv, rv, C, R, A.called (Nat.zero_le _) hb, B, hn⟩
theorem DpSt.bel {w0 : World} {d : Dn} {j nx rb : Nat} {y : World} (h : DpSt w0 d j nx rb y) : Below w0.heap.size w0 y := by
 obtain ⟨x, V, cv, rv, C, R, A, -⟩ := h
 exact A.a.bel
theorem DpBx.called {w0 : World} {d : Dn} {j b : Nat} {o : Do} {y z : World} (h : DpBx w0 d j b o y) (hb : Below y.heap.size y z) : DpBx w0 d j b o z := by
 obtain ⟨x, V, cv, rv, C, R, A, B, hn, hr, bx, ho⟩ := h
 exact ⟨x, V, cv, rv, C, R, A.called (Nat.zero_le _) hb, B, hn, hr, bx.called hb, ho⟩
theorem DpBx.bx {w0 : World} {d : Dn} {j b : Nat} {o : Do} {y : World} (h : DpBx w0 d j b o y) : Bx d b o y := by
 obtain ⟨x, V, cv, rv, C, R, A, B, hn, hr, bx, ho⟩ := h
 exact bx
/-- What is left behind the first of both calls: the second answers r. -/
structure Ph (w0 : World) (d : Dn) (j b : Nat) (o : Do) (F : FuncId) (args : Array Value) (r : Value) (y : World) : Prop where
 bx : Bx d b o y
 go : ∀ z, Below y.heap.size y z → Calls Tryz.prog F args z fun e y' => e = .returned r ∧ DpSt w0 d (j + 1) 104 0 y' ∧ Bx d b o y'
section
variable {w0 : World} {d : Dn} {j b : Nat} {o : Do} {y : World}
theorem bx_ran {k nb : Nat} {x x' : VR} {V' : VS} {y' : World} (h : Bx d b o y) (ho : ¬ x.own d.q b) (t : VRan noB w0 d.lim d.I k d.iv d.q x nb V' y x' y') : Bx d b o y' :=
 ⟨range_same' h.rg (t.fr.block b h.lt (fun e => e.elim ho (fun e => e))), Nat.lt_of_lt_of_le h.lt t.fr.size⟩
set_option maxHeartbeats 2000000 in
theorem dp_put (h : DpBx w0 d j b o y) (hj : j ≤ 60) (n : Int) (s : List UInt8) (i : Int) :
    Calls Tryz.prog 10 #[.pointer (some ⟨d.q, 0, none⟩), .int .i64 n, .string (str s), .int .i64 i] y fun e y1 => ∃ r : Int, e = .returned (.int .i64 r) ∧ Ph w0 d j b o 11 #[.pointer (some ⟨d.rp, 0, none⟩), .int .i64 n, .string (str s), .int .i64 i] (.int .i64 r) y1 := by
 obtain ⟨x, V, cv, rv, C, R, A, B, hn, hR, bx, ho⟩ := h
 cases hq : (okE n s && okNum i) with
 | false =>
  refine (dput_bad y d.q n s i hq).mono fun e y1 t => ⟨1, t.1, bx.called t.2, fun z hz => ?_⟩
  refine (r14put_bad z d.rp n s i hq).mono fun e y' u => ⟨u.1, ⟨x, V, cv, rv, C, R, ((A.called (Nat.zero_le _) t.2).called (Nat.zero_le _) hz).called (Nat.zero_le _) u.2, B.up, by omega, .inl rfl⟩, ((bx.called t.2).called hz).called u.2⟩
 | true =>
  obtain ⟨h1, h2⟩ : okE n s = true ∧ okNum i = true := by simpa using hq
  refine (dput_ok d.D w0 y 9 d.q x V A.a (by omega) n s i h1 h2).mono fun e y1 t => ?_
  obtain ⟨e1, x', T⟩ := t
  have P := A.fst T
  refine ⟨0, e1, bx_ran bx ho.1 T, fun z hz => r14put_ok z d.rp n s i h1 h2 _ fun z2 hz2 => ?_⟩
  have P2 := (P.called (Nat.zero_le _) hz).called (Nat.zero_le _) hz2
  refine (rvput_calls z2 d.rp d.bv cv rv nilV [] C R [] P2.d (fun g off n cap e => by cases e) (by have := B.lenC; omega) (enC n s i) rfl (numT_ok h2)).mono fun e y' t => ?_
  obtain ⟨e2, F, cv', D', hd, nv, J, -⟩ := t
  exact ⟨e2, ⟨x', _, cv', rv, D', R, P2.snd F hd (P2.ml.past P2.d F P2.hp) ⟨P2.off.p, P2.off.b, fun _ => P2.new nv, P2.off.r, P2.off.m, P2.off.e⟩ P2.hp, B.change (enC n s i) (fun h => by cases h) J, by have := T.n; omega, .inl rfl⟩, (((bx_ran bx ho.1 T).called hz).called hz2).fr F ho.2⟩
set_option maxHeartbeats 2000000 in
theorem dp_drop (h : DpBx w0 d j b o y) (hj : j ≤ 60) (n : Int) (s : List UInt8) :
    Calls Tryz.prog 12 #[.pointer (some ⟨d.q, 0, none⟩), .int .i64 n, .string (str s)] y fun e y1 => ∃ r : Int, e = .returned (.int .i64 r) ∧ Ph w0 d j b o 13 #[.pointer (some ⟨d.rp, 0, none⟩), .int .i64 n, .string (str s)] (.int .i64 r) y1 := by
 obtain ⟨x, V, cv, rv, C, R, A, B, hn, hR, bx, ho⟩ := h
 cases h1 : okE n s with
 | false =>
  refine (ddrop_bad y d.q n s h1).mono fun e y1 t => ⟨1, t.1, bx.called t.2, fun z hz => ?_⟩
  refine (r14drop_bad z d.rp n s h1).mono fun e y' u => ⟨u.1, ⟨x, V, cv, rv, C, R, ((A.called (Nat.zero_le _) t.2).called (Nat.zero_le _) hz).called (Nat.zero_le _) u.2, B.up, by omega, .inl rfl⟩, ((bx.called t.2).called hz).called u.2⟩
 | true =>
  refine (ddrop_ok d.D w0 y 9 d.q x V A.a (by omega) n s h1).mono fun e y1 t => ?_
  obtain ⟨e1, x', T⟩ := t
  have P := A.fst T
  refine ⟨0, e1, bx_ran bx ho.1 T, fun z hz => r14drop_ok z d.rp n s h1 _ fun z2 hz2 => ?_⟩
  have P2 := (P.called (Nat.zero_le _) hz).called (Nat.zero_le _) hz2
  refine (rvdelete_calls z2 d.rp d.bv cv rv nilV [] C R [] P2.d (fun g off n cap e => by cases e) (by have := B.lenC; omega) (ekz n s)).mono fun e y' t => ?_
  obtain ⟨e2, F, cv', D', hd, nv, J, -⟩ := t
  exact ⟨e2, ⟨x', _, cv', rv, D', R, P2.snd F hd (P2.ml.past P2.d F P2.hp) ⟨P2.off.p, P2.off.b, fun _ => P2.new nv, P2.off.r, P2.off.m, P2.off.e⟩ P2.hp, B.change (goneC (ekz n s)) (fun _ => rfl) J, by have := T.n; omega, .inl rfl⟩, (((bx_ran bx ho.1 T).called hz).called hz2).fr F ho.2⟩
set_option maxHeartbeats 2000000 in
theorem dp_raw (h : DpBx w0 d j b o y) (hj : j ≤ 60) (K : Kz) (v : List UInt8) :
    Calls Tryz.prog 19 #[.pointer (some ⟨d.q, 0, none⟩), kv K.k, .string (str v)] y fun e y1 => ∃ r : Int, e = .returned (.int .i64 r) ∧ Ph w0 d j b o 20 #[.pointer (some ⟨d.rp, 0, none⟩), kv K.k, .string (str v)] (.int .i64 r) y1 := by
 obtain ⟨x, V, cv, rv, C, R, A, B, hn, hR, bx, ho⟩ := h
 cases h1 : okV v with
 | false =>
  refine (vput_bad y d.q K v h1).mono fun e y1 t => ⟨1, t.1, bx.called t.2, fun z hz => ?_⟩
  refine (rvput_bad z d.rp K v h1).mono fun e y' u => ⟨u.1, ⟨x, V, cv, rv, C, R, ((A.called (Nat.zero_le _) t.2).called (Nat.zero_le _) hz).called (Nat.zero_le _) u.2, B.up, by omega, .inl rfl⟩, ((bx.called t.2).called hz).called u.2⟩
 | true =>
  refine (VAt.put d.D A.a (fun i hi => hi.elim) (by omega) ⟨K.k, K.h, v, false⟩ rfl h1).mono fun e y1 t => ?_
  obtain ⟨e1, x', T0⟩ := t
  have T := T0.ran (nb := x.n + 4) (Nat.le_refl _)
  have P := A.fst T
  refine ⟨0, e1, bx_ran bx ho.1 T, fun z hz => ?_⟩
  have P2 := P.called (Nat.zero_le _) hz
  refine (rvput_calls z d.rp d.bv cv rv nilV [] C R [] P2.d (fun g off n cap e => by cases e) (by have := B.lenC; omega) ⟨K.k, K.h, v, false⟩ rfl h1).mono fun e y' t => ?_
  obtain ⟨e2, F, cv', D', hd, nv, J, -⟩ := t
  exact ⟨e2, ⟨x', _, cv', rv, D', R, P2.snd F hd (P2.ml.past P2.d F P2.hp) ⟨P2.off.p, P2.off.b, fun _ => P2.new nv, P2.off.r, P2.off.m, P2.off.e⟩ P2.hp, B.change ⟨K.k, K.h, v, false⟩ (fun h => by cases h) J, by have := T.n; omega, .inl rfl⟩, ((bx_ran bx ho.1 T).called hz).fr F ho.2⟩
theorem findR_same (g : List UInt8 × Bool × Int) (hg : g.2.2 = 0) {o o' : Option Int} (h : NmIs g.1 o) (h' : g.2.1 = true → NmIs g.1 o') : findR (g.1, g.2.1, 0) o' = findR g o := by
 obtain ⟨g1, g2, g3⟩ := g
 cases hg
 cases g2 with
 | false => rfl
 | true => rw [NmIs.unique (h' rfl) h]; rfl
set_option maxHeartbeats 2000000 in
theorem dp_find (h : DpBx w0 d j b o y) (hj : j ≤ 60) (n : Int) (s : List UInt8) :
    Calls Tryz.prog 21 #[.pointer (some ⟨d.q, 0, none⟩), .int .i64 n, .string (str s)] y fun e y1 => ∃ (r1 : Int) (r2 : Bool) (r3 : Int), e = .returned (.tuple #[.int .i64 r1, .bool r2, .int .i64 r3]) ∧ Ph w0 d j b o 22 #[.pointer (some ⟨d.rp, 0, none⟩), .int .i64 n, .string (str s)] (.tuple #[.int .i64 r1, .bool r2, .int .i64 r3]) y1 := by
 obtain ⟨x, V, cv, rv, C, R, A, B, hn, hR, bx, ho⟩ := h
 cases h1 : okE n s with
 | false =>
  refine (dfind_bad y d.q n s h1).mono fun e y1 t => ⟨0, false, 1, t.1, bx.called t.2, fun z hz => ?_⟩
  refine (r14find_bad z d.rp n s h1).mono fun e y' u => ⟨u.1, ⟨x, V, cv, rv, C, R, ((A.called (Nat.zero_le _) t.2).called (Nat.zero_le _) hz).called (Nat.zero_le _) u.2, B.up, by omega, .inl rfl⟩, ((bx.called t.2).called hz).called u.2⟩
 | true =>
  have A9 : VAt w0 d.lim d.I (8 + 1) d.iv d.q x V y := ⟨A.a.vw, A.a.base, A.a.own, A.a.bel, A.a.le, A.a.limy⟩
  refine (dfind_ok d.D w0 y 8 d.q x V A9 (by omega) n s h1).mono fun e y1 t => ?_
  obtain ⟨⟨o1, ho1, e1⟩, x', T⟩ := t
  have P := A.fst T
  refine ⟨_, _, _, e1, bx_ran bx ho.1 T, fun z hz => ?_⟩
  refine (r14find_ok z d.rp n s h1 (fun v bb y' => v = (getV V.C (plGe []) (ekz n s)).1 ∧ bb = (getV V.C (plGe []) (ekz n s)).2.1 ∧ (getV V.C (plGe []) (ekz n s)).2.2 = 0 ∧ DpSt w0 d (j + 1) 104 0 y' ∧ Bx d b o y') fun z2 hz2 => ?_).mono fun e y' t => ?_
  · have P2 := (P.called (Nat.zero_le _) hz).called (Nat.zero_le _) hz2
    refine (rvget_calls z2 d.rp d.bv cv rv nilV [] C R [] P2.d (fun g off n cap e => by cases e) hR (Nat.zero_le _) (by have := B.lenC; omega) (ekz n s)).mono fun e y' t => ?_
    obtain ⟨mm, i3, e2, F, rv', R', hd, hT, hF⟩ := t
    have hgd := get_doc B.asc B.mi.asc B.g (by rw [← B.c]; exact i3) (ekz n s)
    have hg9 : gotV9 mm (ekz n s) = (getV V.C (plGe []) (ekz n s)).1 ∧ gotB mm (ekz n s) = (getV V.C (plGe []) (ekz n s)).2.1 ∧ (getV V.C (plGe []) (ekz n s)).2.2 = 0 := by
     rw [hgd, gotV9, gotB]
     cases look Pa.n mm (ekz n s).n <;> exact ⟨rfl, rfl, rfl⟩
    refine ⟨_, _, e2, hg9.1, hg9.2.1, hg9.2.2, ?_, (((bx_ran bx ho.1 T).called hz).called hz2).fr F ho.2⟩
    have hlk : (look Ch.n C (ekz n s).n).isSome = (look Ch.n V.C (ekz n s).n).isSome := by rw [B.c, plains_look]; cases look Ch.n V.C (ekz n s).n <;> rfl
    cases hq : (look Ch.n V.C (ekz n s).n).isSome with
    | true =>
     obtain ⟨q1, q2⟩ := hT (by rw [hlk]; exact hq)
     subst q1
     subst q2
     have hV : getW V (ekz n s) = V := by unfold getW; rw [if_pos hq]
     rw [hV] at P2
     exact ⟨x', V, cv, _, C, _, P2.snd F hd (P2.ml.past P2.d F P2.hp) P2.off P2.hp, B.up, by have := T.n; omega, .inl rfl⟩
    | false =>
     obtain ⟨n3, r3⟩ := hF (by rw [hlk]; exact hq)
     have hV : getW V (ekz n s) = { V with R := V.R ++ [oneSp (ekz n s)] } := by unfold getW; rw [if_neg (by rw [hq]; decide)]
     rw [hV] at P2
     exact ⟨x', { V with R := V.R ++ [oneSp (ekz n s)] }, cv, rv', C, R', P2.snd F hd (P2.ml.past P2.d F P2.hp) ⟨P2.off.p, P2.off.b, P2.off.c, fun _ => P2.new n3, P2.off.m, P2.off.e⟩ P2.hp, B.read (oneSp (ekz n s)) r3, by have := T.n; omega, .inl rfl⟩
  · obtain ⟨v, bb, o2, z', ho2, e2, ⟨rfl, rfl, hz0, hS, hbx⟩, hb'⟩ := t
    rw [findR_same _ hz0 ho1 ho2] at e2
    exact ⟨e2, hS.called hb', hbx.called hb'⟩
end
end Go.Proofs.YtgicanpggndbeaaGreat
/- DirPlays: List and Empty on both views. -/
namespace Go.Proofs.YtgicanpggndbeaaGreat
set_option linter.unusedVariables false
set_option maxRecDepth 100000
open Go.RowKit

theorem be_num14 : ∀ (l : List UInt8), be (num l) l.length = l := by
 intro l
 induction hn : l.length generalizing l with
 | zero => rw [List.eq_nil_of_length_eq_zero hn]; rfl
 | succ k ih =>
  obtain ⟨b, m, rfl⟩ : ∃ b m, l = b :: m := by
   cases l with
   | nil => simp at hn
   | cons b m => exact ⟨b, m, rfl⟩
  have hm : m.length = k := by simpa using hn
  have h1 := num_lt m
  rw [hm] at h1
  have hp := pow_pos256 k
  have e1 : num (b :: m) = b.toNat * 256 ^ k + num m := by
   have : ∀ (l : List UInt8) (c : Nat), l.foldl (fun a b => 256 * a + b.toNat) c = c * 256 ^ l.length + num l := by
    intro l
    induction l with
    | nil => intro c; simp [num]
    | cons x l ih2 =>
     intro c
     have a3 : num (x :: l) = x.toNat * 256 ^ l.length + num l := by
      have := ih2 x.toNat
      simpa [num] using this
     have a4 : 256 * c * 256 ^ l.length = c * (256 ^ l.length * 256) := by rw [Nat.mul_comm 256 c, Nat.mul_assoc, Nat.mul_comm 256]
     rw [List.foldl_cons, ih2, a3, List.length_cons, Nat.pow_succ, Nat.add_mul, a4]
     omega
   have a := this m b.toNat
   rw [hm] at a
   simpa [num] using a
  have e2 : num (b :: m) / 256 ^ k = b.toNat := by
   rw [e1, Nat.mul_comm, Nat.mul_add_div hp, Nat.div_eq_of_lt h1]
   rfl
  have e3 : num (b :: m) % 256 ^ k = num m := by
   rw [e1, Nat.mul_comm, Nat.mul_add_mod, Nat.mod_eq_of_lt h1]
  rw [be, e2, ← be_mod (num (b :: m)) k k (Nat.le_refl _), e3, ih m hm]
  simp
/-- A key among a directory's entries is an entry's. -/
theorem kind_span {n : Int} (hn : okN n = true) {K : List UInt8} (hK : K.length = 24) (h : inS (entriesF n) (entriesT n) false K = true) : pKind K = 2 := by
 obtain ⟨n0, n1, n2⟩ := okN_lt hn
 match K, hK with
 | k0 :: k1 :: k2 :: k3 :: k4 :: r, hK =>
  have hr : r.length = 19 := by simpa using hK
  have he : k0 :: k1 :: k2 :: k3 :: k4 :: r = be (num [k0, k1, k2, k3]) 4 ++ k4 :: r := by
   have := be_num14 [k0, k1, k2, k3]
   rw [show [k0, k1, k2, k3].length = 4 from rfl] at this
   rw [this]
   rfl
  have hi : num [k0, k1, k2, k3] < 4294967296 := by
   have := num_lt [k0, k1, k2, k3]
   simpa using this
  rw [entriesF, entriesT, if_pos hn, if_pos hn, inS, he, less_headE hi n1 _ _ _ hr, less_headE hi n1 _ _ _ hr] at h
  have hk : k4 = 2 := by
   simp only [Bool.and_eq_true, Bool.not_eq_true', Bool.or_eq_false_iff, decide_eq_false_iff_not, Bool.and_eq_false_iff, Bool.false_or, Bool.or_eq_true, decide_eq_true_eq] at h
   obtain ⟨⟨h1, h2⟩, h3⟩ := h
   rcases h3 with h3 | ⟨h3, h4⟩
   · exact absurd h3 h1
   · rcases h2 with h2 | h2
     · exact absurd h3 h2
     · have a1 : ¬ k4.toNat < 2 := fun q => h2 (UInt8.lt_iff_toNat_lt.2 q)
       have a2 : k4.toNat < 3 := UInt8.lt_iff_toNat_lt.1 h4
       apply UInt8.toNat_inj.1
       show k4.toNat = 2
       omega
  subst hk
  rfl
theorem good_scan {n : Int} (hn : okN n = true) (L : List Pa) : ∀ p ∈ scanL (entriesS n) L, goodK p.k = right p.k := fun p hp => by
 have h1 : (entriesS n).inb (num p.k) = true := (List.mem_filter.1 hp).2
 have h2 : inS (entriesF n) (entriesT n) false p.k = true := (in_num (entriesS n) p.k p.h).trans h1
 unfold goodK
 rw [kind_span hn p.h h2]
 simp
section
variable {w0 : World} {d : Dn} {j b : Nat} {o : Do} {y : World}
set_option maxHeartbeats 2000000 in
/-- Scan of the document's, as its List and Empty call it. -/
theorem dp_scan {x' : VR} {V : VS} {cv rv : Value} {C : List Ch} {R : List Sp} {n : Int} {z2 : World} (P2 : PlAt w0 d.lim d.p d.pv [] d.base d.q x' { V with R := V.R ++ [entriesS n] } d.rp d.bv cv rv nilV C R [] [] z2) (B : PlOk [] V C R [] [] j) (hR : R.length ≤ 300) (hj : j ≤ 60) (hx : x'.n ≤ 104) (S : World → Prop) (hS : ∀ z', FrV (fun i => i = d.rp) z2 z' → S z') :
    Calls Tryz.prog 43 #[.pointer (some ⟨d.rp, 0, none⟩), spv (entriesS n)] z2 fun e z' => ∃ v L, e = .returned v ∧ Own encP 88 z' z2.heap.size v L ∧ L.length ≤ 5000 ∧ ((scanV V.C (fun s => (scanL s [], 0)) (entriesS n) = (L, 0) ∧ (∃ mm, L = scanL (entriesS n) mm)) ∧ S z' ∧ DpSt w0 d (j + 1) 104 0 z') := by
 refine (rvscan_calls z2 d.rp d.bv cv rv nilV [] C R [] P2.d (fun g off n cap e => by cases e) hR (Nat.zero_le _) (by have := B.lenC; omega) (entriesS n)).mono fun e z' t => ?_
 obtain ⟨v, mm, e2, o2, i3, hl, F, rv', R', hd, n3, r3⟩ := t
 have hs := scan_doc B.asc B.mi.asc (by rw [← B.c]; exact i3) (entriesS n)
 refine ⟨v, _, e2, o2, ?_, ⟨hs, mm, rfl⟩, hS z' F, x', _, cv, rv', C, R', P2.snd F hd (P2.ml.past P2.d F P2.hp) ⟨P2.off.p, P2.off.b, P2.off.c, fun _ => P2.new n3, P2.off.m, P2.off.e⟩ P2.hp, B.read (entriesS n) r3, hx, .inl rfl⟩
 have h1 : (scanL (entriesS n) mm).length ≤ mm.length := List.length_filter_le _ _
 have h2 := B.lenC
 simp only [List.length_nil] at hl
 omega
set_option maxHeartbeats 2000000 in
theorem dp_empty (h : DpBx w0 d j b o y) (hj : j ≤ 60) (n : Int) :
    Calls Tryz.prog 17 #[.pointer (some ⟨d.q, 0, none⟩), .int .i64 n] y fun e y1 => ∃ (r1 : Bool) (r2 : Int), e = .returned (.tuple #[.bool r1, .int .i64 r2]) ∧ Ph w0 d j b o 18 #[.pointer (some ⟨d.rp, 0, none⟩), .int .i64 n] (.tuple #[.bool r1, .int .i64 r2]) y1 := by
 obtain ⟨x, V, cv, rv, C, R, A, B, hn, hR, bx, ho⟩ := h
 cases h1 : okN n with
 | false =>
  refine (dempty_bad y d.q n h1).mono fun e y1 t => ⟨false, 1, t.1, bx.called t.2, fun z hz => ?_⟩
  refine (r14empty_bad z d.rp n h1).mono fun e y' u => ⟨u.1, ⟨x, V, cv, rv, C, R, ((A.called (Nat.zero_le _) t.2).called (Nat.zero_le _) hz).called (Nat.zero_le _) u.2, B.up, by omega, .inl rfl⟩, ((bx.called t.2).called hz).called u.2⟩
 | true =>
  have A9 : VAt w0 d.lim d.I (8 + 1) d.iv d.q x V y := ⟨A.a.vw, A.a.base, A.a.own, A.a.bel, A.a.le, A.a.limy⟩
  have hl5 := scanV_len V.C [] (Nat.zero_le _) (by have := B.most.1; omega) (entriesS n)
  obtain ⟨L, hs⟩ : ∃ L, scanV V.C (fun s => (scanL s [], 0)) (entriesS n) = (L, 0) := ⟨_, rfl⟩
  rw [hs] at hl5
  refine (dempty_ok d.D w0 y 8 d.q x V A9 (by omega) n h1 L hs hl5).mono fun e y1 t => ?_
  obtain ⟨e1, x', T⟩ := t
  have P := A.fst T
  refine ⟨_, _, e1, bx_ran bx ho.1 T, fun z hz => ?_⟩
  refine (r14empty_ok z d.rp n h1 (fun L2 z' => (scanV V.C (fun s => (scanL s [], 0)) (entriesS n) = (L2, 0) ∧ (∃ mm, L2 = scanL (entriesS n) mm)) ∧ Bx d b o z' ∧ DpSt w0 d (j + 1) 104 0 z') fun z2 hz2 => ?_).mono fun e y' t => ?_
  · exact dp_scan ((P.called (Nat.zero_le _) hz).called (Nat.zero_le _) hz2) B hR hj (by have := T.n; omega) (fun z' => Bx d b o z') (fun z' F => (((bx_ran bx ho.1 T).called hz).called hz2).fr F ho.2)
  · obtain ⟨L2, ⟨⟨hs2, -⟩, hbx, hS⟩, e2⟩ := t
    rw [hs] at hs2
    cases hs2
    exact ⟨e2, hS, hbx⟩
/-- What is left behind the landed List. -/
structure PhL (w0 : World) (d : Dn) (j b : Nat) (o : Do) (n : Int) (v1 : Value) (er : Int) (y : World) : Prop where
 bx : Bx d b o y
 go : ∀ z, Below y.heap.size y z → Calls Tryz.prog 15 #[.pointer (some ⟨d.rp, 0, none⟩), .int .i64 n] z fun e y' => ∃ v2 l, e = .returned (.tuple #[v2, .int .i64 er]) ∧ Sl encN y' v1 l ∧ Sl encN y' v2 l ∧ l.length ≤ 5000 ∧ DpSt w0 d (j + 1) 104 0 y' ∧ Bx d b o y'
set_option maxHeartbeats 2000000 in
theorem dp_list (h : DpBx w0 d j b o y) (hj : j ≤ 60) (n : Int) :
    Calls Tryz.prog 14 #[.pointer (some ⟨d.q, 0, none⟩), .int .i64 n] y fun e y1 => ∃ (v1 : Value) (er : Int), e = .returned (.tuple #[v1, .int .i64 er]) ∧ PhL w0 d j b o n v1 er y1 := by
 obtain ⟨x, V, cv, rv, C, R, A, B, hn, hR, bx, ho⟩ := h
 cases h1 : okN n with
 | false =>
  refine (dlist_bad y d.q n h1).mono fun e y1 t => ⟨_, _, t.1, bx.called t.2, fun z hz => ?_⟩
  refine (r14list_bad z d.rp n h1).mono fun e y' u => ⟨_, [], u.1, SlB.nil _ _ _, SlB.nil _ _ _, Nat.zero_le _, ⟨x, V, cv, rv, C, R, ((A.called (Nat.zero_le _) t.2).called (Nat.zero_le _) hz).called (Nat.zero_le _) u.2, B.up, by omega, .inl rfl⟩, ((bx.called t.2).called hz).called u.2⟩
 | true =>
  have A9 : VAt w0 d.lim d.I (8 + 1) d.iv d.q x V y := ⟨A.a.vw, A.a.base, A.a.own, A.a.bel, A.a.le, A.a.limy⟩
  have hl5 := scanV_len V.C [] (Nat.zero_le _) (by have := B.most.1; omega) (entriesS n)
  obtain ⟨L, hs⟩ : ∃ L, scanV V.C (fun s => (scanL s [], 0)) (entriesS n) = (L, 0) := ⟨_, rfl⟩
  rw [hs] at hl5
  have hl6 : L.length ≤ 5000 := hl5
  have hrp := A.d.lt
  refine (dlist_ok d.D w0 y 8 d.q x V A9 (by omega) n h1 L hs hl6).mono fun e y1 t => ?_
  obtain ⟨x', T, t⟩ := t
  have P := A.fst T
  have hnl : (namesL L).length = L.length := by unfold namesL; rw [List.length_map]
  rcases t with ⟨hg, ad, cap, e1, o1, -⟩ | ⟨hg, e1⟩
  · refine ⟨_, _, e1, bx_ran bx ho.1 T, fun z hz => ?_⟩
    refine (r14list_ok z d.rp n h1 (fun L2 z' => (scanV V.C (fun s => (scanL s [], 0)) (entriesS n) = (L2, 0) ∧ (∃ mm, L2 = scanL (entriesS n) mm)) ∧ (Sl encN z' (.slice ad L.length cap) (namesL L) ∧ Bx d b o z') ∧ DpSt w0 d (j + 1) 104 0 z') fun z2 hz2 => ?_).mono fun e y' t => ?_
    · have b2 : Below y1.heap.size y1 z2 := hz.trans (hz2.mono hz.size)
      have o2 := o1.below b2
      exact dp_scan ((P.called (Nat.zero_le _) hz).called (Nat.zero_le _) hz2) B hR hj (by have := T.n; omega) (fun z' => Sl encN z' (.slice ad L.length cap) (namesL L) ∧ Bx d b o z') (fun z' F => ⟨(o2.same fun g hg => F.block g (o2.lt g hg).2 (fun e => by
       have h9 := (o1.lt g hg).1
       omega)).slB, (((bx_ran bx ho.1 T).called hz).called hz2).fr F ho.2⟩)
    · obtain ⟨L2, z', ⟨⟨hs2, mm, hmm⟩, ⟨hl, hbx⟩, hS⟩, hb', t⟩ := t
      rw [hs] at hs2
      cases hs2
      have hgr := good_scan h1 mm
      rw [← hmm] at hgr
      rcases t with ⟨-, ad2, cap2, e2, s2⟩ | ⟨⟨p, hp, hbad⟩, -⟩
      · exact ⟨_, _, e2, Sl.called hl hb', s2, by rw [hnl]; exact hl6, hS.called hb', hbx.called hb'⟩
      · have h7 := hg p hp
        rw [hgr p hp, hbad] at h7
        cases h7
  · refine ⟨_, _, e1, bx_ran bx ho.1 T, fun z hz => ?_⟩
    refine (r14list_ok z d.rp n h1 (fun L2 z' => (scanV V.C (fun s => (scanL s [], 0)) (entriesS n) = (L2, 0) ∧ (∃ mm, L2 = scanL (entriesS n) mm)) ∧ Bx d b o z' ∧ DpSt w0 d (j + 1) 104 0 z') fun z2 hz2 => ?_).mono fun e y' t => ?_
    · exact dp_scan ((P.called (Nat.zero_le _) hz).called (Nat.zero_le _) hz2) B hR hj (by have := T.n; omega) (fun z' => Bx d b o z') (fun z' F => (((bx_ran bx ho.1 T).called hz).called hz2).fr F ho.2)
    · obtain ⟨L2, z', ⟨⟨hs2, mm, hmm⟩, hbx, hS⟩, hb', t⟩ := t
      rw [hs] at hs2
      cases hs2
      have hgr := good_scan h1 mm
      rw [← hmm] at hgr
      rcases t with ⟨hall, -⟩ | ⟨-, e2⟩
      · obtain ⟨p, hp, hbad⟩ := hg
        rw [hgr p hp, hall p hp] at hbad
        cases hbad
      · exact ⟨_, [], e2, SlB.nil _ _ _, SlB.nil _ _ _, Nat.zero_le _, hS.called hb', hbx.called hb'⟩
end
end Go.Proofs.YtgicanpggndbeaaGreat
/- The document's Same, SameChanges (as DlH, over DlC alone). -/
namespace Go.Proofs.YtgicanpggndbeaaGreat
set_option linter.unusedVariables false
set_option maxRecDepth 100000
open Go.RowKit

theorem list_eq_cons {α : Type} {l m : List α} {k : Nat} (hk : k < l.length) (hm : k < m.length) (h : l.take k = m.take k) (e : l[k] = m[k]) : l.take (k + 1) = m.take (k + 1) := by
 rw [List.take_succ_eq_append_getElem hk, List.take_succ_eq_append_getElem hm, h, e]
theorem ne_at {α : Type} {l m : List α} {k : Nat} (hk : k < l.length) (hm : k < m.length) (e : ¬ l[k] = m[k]) : ¬ l = m := fun h => e (by subst h; rfl)
set_option maxRecDepth 100000 in
set_option maxHeartbeats 4000000 in
theorem sameC_calls (w : World) (ua ub : Value) (a b : List Ch) (ha : Sl encC w ua a) (hb : Sl encC w ub b) (hla : a.length ≤ 100000) :
    Calls Tryz.prog 23 #[ua, ub] w fun e w' => e = .returned (.bool (decide (a = b))) ∧ Below w.heap.size w w' := by
 have ha' := ha
 obtain ⟨ad, cap, rfl, hcap, hmax, _, _⟩ := ha'
 have hb' := hb
 obtain ⟨bd, cap2, rfl, hcap2, hmax2, _, _⟩ := hb'
 have HI : Hid (∀ i (hi : i < a.length), ∃ g off, ad = some ⟨g, off, none⟩ ∧ g < w.heap.size ∧ w.rangeAt g (off + i * 26) (encC.c a[i])) := fun i hi => SlB.at ha i hi
 have HJ : Hid (∀ i (hi : i < b.length), ∃ g off, bd = some ⟨g, off, none⟩ ∧ g < w.heap.size ∧ w.rangeAt g (off + i * 26) (encC.c b[i])) := fun i hi => SlB.at hb i hi
 have hInfo : ∀ p : Ch, (Tryz.prog.info? 64).map (·.size) = some (encC.c p).length := fun p => by rw [encC.len]; exact elC.info
 clear ha hb
 by_cases q2 : a.length = b.length
 rotate_left
 · have f : (((a.length : Nat) : Int) == ((b.length : Nat) : Int)) = false := by simpa using fun e : ((a.length : Nat) : Int) = ((b.length : Nat) : Int) => q2 (by omega)
   have f2 : (a.length == b.length) = false := by simpa using q2
   have hne : ¬ a = b := fun e => q2 (by rw [e])
   go_enter Tryz.func23, Tryz.ntmps23
   go_wp2_with fail
   go_ret
   exact ⟨by rw [decide_eq_false hne]; rfl, Below.refl _ _⟩
 obtain ⟨N, hN⟩ : ∃ N : Nat, a.length = N := ⟨_, rfl⟩
 have n2 : b.length = N := by omega
 have HL : Hid (a.length = N ∧ b.length = N) := ⟨hN, n2⟩
 rw [hN] at hcap hmax hla ⊢
 rw [n2] at hcap2 hmax2 ⊢
 clear hN n2 q2
 obtain ⟨R, hR⟩ : ∃ R : Bool, R = decide (a = b) := ⟨_, rfl⟩
 have HRR : Hid (R = decide (a = b)) := hR
 rw [← hR]
 clear hR
 go_enter Tryz.func23, Tryz.ntmps23
 go_wp2_with fail
 go_loopg [5] N (fun g i wr => ∃ k n : Nat, k + g = N ∧ i = .int .i64 (k : Int) ∧ wr = w.drewN n ∧ Hid (a.take k = b.take k))
 case atStart => exact ⟨0, 0, by omega, rfl, rfl, (show a.take 0 = b.take 0 by simp)⟩
 case round =>
  obtain ⟨k, n, hkg, rfl, rfl, HT⟩ := hrel
  cases gk with
  | zero =>
   have hkN : k = N := by omega
   subst hkN
   have HEQ : Hid (a = b) := (show _ = _ by
    have := HT.out
    rw [List.take_of_length_le (by have := HL.out.1; omega), List.take_of_length_le (by have := HL.out.2; omega)] at this
    exact this)
   go_wp2_with fail
   go_ret
   exact ⟨by rw [HRR.out, decide_eq_true HEQ.out]; rfl, below_drewN (Below.refl _ _) _⟩
  | succ g =>
   have hlt : k < N := by omega
   have hltI : (k : Int) < (N : Int) := by omega
   have hk0 : (0 : Int) ≤ (k : Int) := by omega
   have hka : k < a.length := by have := HL.out.1; omega
   have hkb : k < b.length := by have := HL.out.2; omega
   obtain ⟨g1, o1, rfl, hg1, hat1⟩ := HI.out k hka
   obtain ⟨g2, o2, rfl, hg2, hat2⟩ := HJ.out k hkb
   have HYES : Hid (a[k] = b[k] → a.take (k + 1) = b.take (k + 1)) := fun e => list_eq_cons hka hkb HT.out e
   have HNO : Hid (¬ a[k] = b[k] → ¬ a = b) := fun e => ne_at hka hkb e
   generalize a[k] = s at *
   generalize b[k] = t at *
   have HR1 : Hid ((w.drewN n).rangeAt g1 (o1 + k * 26) (encC.c s) ∧ (w.drewN n).rangeAt g2 (o2 + k * 26) (encC.c t)) := ⟨hat1, hat2⟩
   clear hat1 hat2 hka hkb HT
   generalize hwd : w.drewN n = W at *
   have HWD : Hid (w.drewN n = W) := hwd
   clear hwd
   go_upto_region 6 with fail
   refine wp_region_noPanic ?_
   refine wp_region_held_drew (S := (fun yy => yy.rangeAt g1 (o1 + k * 26) (encC.c s) ∧ yy.rangeAt g2 (o2 + k * 26) (encC.c t))) (by kernel_rfl) HR1.out (fun hHeld => ?_)
   refine tk (v := ?_) 0 rfl hHeld (Or.inl ⟨by rfl, ?_⟩) ?_
   case refine_2 => (intro w hSw; (try dsimp only at hSw); go_simp; try (with_reducible rfl))
   (try simp only [gs])
   refine tk (v := ?_) 1 rfl hHeld (Or.inl ⟨by rfl, ?_⟩) ?_
   case refine_2 => (intro w hSw; (try dsimp only at hSw); go_simp; try (with_reducible rfl))
   (try simp only [gs])
   refine tk (v := ?_) 2 rfl hHeld (Or.inl ⟨by rfl, ?_⟩) ?_
   case refine_2 => (intro w hSw; (try dsimp only at hSw); go_simp; try (with_reducible rfl))
   (try simp only [gs])
   refine tk 3 rfl hHeld (yieldsIf_load_mid (by rfl) _ _ rfl _ _ rfl _ _ (fun _ h => h.1) Tryz.underlying64 rfl (hInfo s)) ?_
   (try simp only [gs])
   refine tk (v := ?_) 4 rfl hHeld (Or.inl ⟨by rfl, ?_⟩) ?_
   case refine_2 => (intro w hSw; (try dsimp only at hSw); go_simp; try (with_reducible rfl))
   (try simp only [gs])
   refine tk (v := ?_) 5 rfl hHeld (Or.inl ⟨by rfl, ?_⟩) ?_
   case refine_2 => (intro w hSw; (try dsimp only at hSw); go_simp; try (with_reducible rfl))
   (try simp only [gs])
   refine tk (v := ?_) 6 rfl hHeld (Or.inl ⟨by rfl, ?_⟩) ?_
   case refine_2 => (intro w hSw; (try dsimp only at hSw); go_simp; try (with_reducible rfl))
   (try simp only [gs])
   refine tk 7 rfl hHeld (yieldsIf_load_mid (by rfl) _ _ rfl _ _ rfl _ _ (fun _ h => h.2) Tryz.underlying64 rfl (hInfo t)) ?_
   (try simp only [gs])
   refine wpAnyH_take (i := 8) (v := .bool (!decide (s = t))) rfl (by kernel_rfl) (by kernel_rfl) (by kernel_rfl) (fun _ _ _ h => h) (Or.inl ⟨by rfl, fun w _ => exec_ne_C _ _ _ rfl s t rfl rfl w⟩) hHeld ?_
   (try simp only [gs])
   refine wpAnyH_done (by kernel_rfl) ?_ _
   refine NoPanic.normal ?_
   by_cases hst : s = t
   · have hd : decide (s = t) = true := decide_eq_true hst
     have HY2 : Hid (a.take (k + 1) = b.take (k + 1)) := HYES.out hst
     clear hst
     rw [hd]
     go_wp2_with fail
     go_roundg g
     case measure => omega
     case rel => exact ⟨k + 1, n + 1, by omega, congrArg (Value.int .i64) (by omega), by rw [← HWD.out]; rfl, HY2⟩
   · have hd : decide (s = t) = false := decide_eq_false hst
     have HN2 : Hid (¬ a = b) := HNO.out hst
     clear hst
     rw [hd]
     go_wp2_with fail
     go_ret
     exact ⟨by rw [HRR.out, decide_eq_false HN2.out]; rfl, by rw [← HWD.out]; exact (below_drewN (Below.refl _ _) n).drew⟩
end Go.Proofs.YtgicanpggndbeaaGreat
