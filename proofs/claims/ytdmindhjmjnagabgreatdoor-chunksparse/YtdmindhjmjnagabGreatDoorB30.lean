import Derived.Test.YtdmindhjmjnagabGreatDoorB28
import Derived.Test.YtdmindhjmjnagabGreatDoorB29
import Derived.Test.YtdmindhjmjnagabGreatDoorB10
import Derived.Test.YtdmindhjmjnagabGreatDoorB14
/- Changes of a view; steps as plain data; the statements' does. -/
namespace Go.Proofs.YtdmindhjmjnagabGreatDoor
set_option linter.unusedVariables false
set_option maxRecDepth 100000
open Go.RowKit

theorem plains_look {C : List Ch} (x : Int) : look Ch.n (C.map Ch.plain) x = (look Ch.n C x).map Ch.plain := by
  induction C with
  | nil => rfl
  | cons a r ih =>
    simp only [List.map_cons, look]
    rw [Ch.plain_n, ih]
    by_cases e : a.n = x <;> simp [e]
theorem plains_asc {C : List Ch} (h : Asc Ch.n C) : Asc Ch.n (C.map Ch.plain) := by
  unfold Asc at h ⊢
  rw [List.pairwise_map]
  exact h.imp fun {a b} q => by rw [Ch.plain_n, Ch.plain_n]; exact q
theorem vals_join {n : Nat} {C ss d : List Ch} (hC : Asc Ch.n C) (hs : ValL n C ss) (hd : JoinIs ss d) : d = C.map Ch.plain := by
  refine asc_ext Ch.n hd.1 (plains_asc hC) fun x => ?_
  rw [hd.2, plains_look]
  by_cases hx : ∃ K : Kz, K.n = x
  · obtain ⟨K, rfl⟩ := hx
    rw [hs.2 K]
  · have e1 : look Ch.n C x = none := (look_none Ch.n).2 fun c hc e => hx ⟨c.kz, e⟩
    have e2 : lastA Ch.n ss x = none := by
      cases q : lastA Ch.n ss x with
      | none => rfl
      | some y => exact absurd (lastA_key Ch.n q).2 (fun e => hx ⟨y.kz, e⟩)
    rw [e1, e2]
set_option maxHeartbeats 4000000 in
theorem vchanges_calls (w : World) (p : Nat) (iv : Value) (x : VR) (V : VS) (h : VwIn w p iv x V) (hn : x.n ≤ 5000) :
    Calls Tryz.prog 9 #[.pointer (some ⟨p, 0, none⟩)] w fun e w' => ∃ ad cap, e = .returned (.slice ad V.C.length cap) ∧ Own encC 60 w' w.heap.size (.slice ad V.C.length cap) (V.C.map Ch.plain) ∧ Below w.heap.size w w' := by
  have hcl := h.cell.2.1
  have HC : Hid (MapA encC Ch.n w x.c x.n V.C) := h.mapC
  have hK := keysW_calls (some x.c) w
  have HN : Hid (x.n ≤ 5000) := hn
  generalize V.C = C at *
  clear h hn
  go_enter Tryz.func9, Tryz.ntmps9
  go_wp2_with (first
    | (go_at_call 22; refine hJ.mono ?_; clear hJ; rintro e w4 ⟨v4, d, rfl, o4, i4, l4, b4⟩
       obtain ⟨ad4, cap4, rfl, -, -, -, -⟩ := id o4.slB)
    | (refine build_one1 rfl _ rfl v2 rfl ss o2.slB ?_; intro w3 hs3 b3
       have hJ := join_calls w3 _ [(v2, ss)] hs3 (show 1 ≤ 1000 by omega) (by simp; have := HS2.out.1; have := HN.out; omega)
       have HB3 : Hid (Below w.heap.size w w3) := (b1.trans (b2.mono b1.size)).trans (b3.mono (Nat.le_trans b1.size b2.size))
       clear hs3 b3 b1 b2)
    | (go_at_call 23; refine hC.mono ?_; clear hC; rintro e w2 ⟨v2, ss, rfl, hs2, o2, b2⟩
       have HS2 : Hid (ValL x.n C ss) := hs2
       clear hs2)
    | (go_at_call 24; refine hK.mono ?_; clear hK; rintro e w1 ⟨rfl, hw1⟩
       have b1 : Below w.heap.size w w1 := by rw [hw1]; exact (Below.refl _ w).alloc (Nat.le_refl _) _
       have hm1 : w1.cell? ⟨w.heap.size, 0, none⟩ = some (.map (some x.c)) := by rw [hw1, cell_of_row _ _ _ _ _ _ (heap_alloc_new _ _)]; rfl
       have hlt : w.heap.size < w1.heap.size := by rw [hw1]; simp
       have hG := keysW_gives 0 w.heap.size x.c x.n C w1 hlt hm1 (HC.out.below b1 (Nat.le_refl _))
       have hC := collect_inW 1 45 _ (enters_of Tryz.func45 (by kernel_rfl) rfl) _ x.n (by have := HN.out; omega) w1 hG (Nat.le_refl _)
       clear hG hm1 hlt hw1))
  go_ret
  have e1 : ([(v2, ss)] : List (Value × List Ch)).flatMap (·.2) = ss := by simp
  rw [e1] at i4
  have hd := vals_join HC.out.asc HS2.out i4
  have hl : d.length = C.length := by rw [hd, List.length_map]
  rw [hl] at o4 ⊢
  rw [hd] at o4
  exact ⟨_, _, rfl, o4.lower HB3.out.size, HB3.out.trans (b4.mono HB3.out.size)⟩

/-! Steps. -/
/-- A step. -/
structure Vo where
  kind : Int
  num : Int
  k : List UInt8
  h : k.length = 24
  s : List UInt8
  sp : Sp
def Vo.kz (o : Vo) : Kz := ⟨o.k, o.h⟩
def ocd (o : Vo) : List Value := [.int .i64 o.kind, .int .i64 o.num] ++ bc o.k ++ [.string (str o.s)] ++ sc o.sp.F o.sp.T o.sp.e
theorem ocd_len (o : Vo) : (ocd o).length = 76 := by simp [ocd, sc, bc_length, o.h, o.sp.hF, o.sp.hT]
def encO : Enc Vo 76 := ⟨ocd, ocd_len, fun o v hv => by
  simp only [ocd, sc, List.mem_append, List.mem_cons, List.not_mem_nil, or_false] at hv
  rcases hv with ((hv | hv) | hv) | ((hv | hv) | hv)
  · rcases hv with rfl | rfl <;> rfl
  · exact bc_one _ v hv
  · subst hv; rfl
  · exact bc_one _ v hv
  · exact bc_one _ v hv
  · subst hv; rfl⟩
section
variable {w : World} {g off : Nat} {o : Vo}
theorem range_oKind (h : w.rangeAt g off (encO.c o)) : w.cell? ⟨g, off, none⟩ = some (.int .i64 o.kind) := by
  have := h 0 (.int .i64 o.kind) rfl
  simpa using this
theorem range_oNum (h : w.rangeAt g off (encO.c o)) : w.cell? ⟨g, off + 1, none⟩ = some (.int .i64 o.num) := h 1 (.int .i64 o.num) rfl
theorem ocd_at (o : Vo) (j : Nat) (hj : j < 24) : (ocd o)[2 + j]? = (bc o.k)[j]? := by
  have hk : (bc o.k).length = 24 := by rw [bc_length, o.h]
  unfold ocd
  rw [List.append_assoc, List.append_assoc, List.getElem?_append_right (by simp), List.getElem?_append_left (by rw [hk]; simp; omega)]
  simp
theorem range_oKey (h : w.rangeAt g off (encO.c o)) : w.rangeAt g (off + 2) (bc o.k) := fun j v hv => by
  have hj : j < 24 := by have := (List.getElem?_eq_some_iff.1 hv).1; rw [bc_length, o.h] at this; exact this
  have := h (2 + j) v (by show (ocd o)[2 + j]? = _; rw [ocd_at o j hj]; exact hv)
  rwa [← Nat.add_assoc] at this
theorem range_oStr (h : w.rangeAt g off (encO.c o)) : w.cell? ⟨g, off + 26, none⟩ = some (.string (str o.s)) := h 26 (.string (str o.s)) (by
  show (ocd o)[26]? = _
  have hk : (bc o.k).length = 24 := by rw [bc_length, o.h]
  unfold ocd
  rw [List.append_assoc, List.getElem?_append_right (by simp [hk]), List.getElem?_append_left (by simp [hk])]
  simp [hk])
theorem range_oSp (h : w.rangeAt g off (encO.c o)) : w.rangeAt g (off + 27) (sc o.sp.F o.sp.T o.sp.e) := fun j v hv => by
  have := h (27 + j) v (by
    show (ocd o)[27 + j]? = _
    have hk : (bc o.k).length = 24 := by rw [bc_length, o.h]
    have hl : ([Value.int .i64 o.kind, .int .i64 o.num] ++ bc o.k ++ [Value.string (str o.s)]).length = 27 := by simp [hk]
    unfold ocd
    rw [List.getElem?_append_right (by rw [hl]; omega), hl, Nat.add_sub_cancel_left]
    exact hv)
  rwa [← Nat.add_assoc] at this
end
theorem str_take50 (v : List UInt8) : (str v).extract 0 (min ((str v).size : Int) 50).toNat = str (v.take 50) := by
  have h : (min ((str v).size : Int) 50).toNat = min v.length 50 := by rw [str_size]; omega
  rw [h]
  apply ByteArray.ext
  apply Array.ext'
  rw [ByteArray.data_extract]
  simp only [Array.toList_extract, str_list, List.extract_eq_take_drop, List.drop_zero, Nat.sub_zero]
  by_cases q : v.length ≤ 50
  · rw [Nat.min_eq_left q, List.take_length, List.take_of_length_le q]
  · rw [Nat.min_eq_right (by omega)]
/-- The change that a put makes. -/
def Vo.ch (o : Vo) : Ch := ⟨o.k, o.h, o.s.take 50, false⟩
/-- A step of puts and deletes. -/
def doV (V : VS) (o : Vo) : VS := if o.kind = 1 then (if okV (o.s.take 50) = true then V.change o.ch else V) else V.change (goneC o.kz)
/-- What several calls leave. -/
structure VRan (S : Nat → Prop) (w0 : World) (lim : Nat) (I : Nat → World → Prop) (k : Nat) (iv : Value) (q : Nat) (x : VR) (nb : Nat) (V : VS) (y : World) (x' : VR) (y' : World) : Prop where
  at_ : VAt w0 lim I k iv q x' V y'
  fr : FrV (fun i => x.own q i ∨ S i) y y'
  own : ∀ i, x'.own q i → x.own q i ∨ y.heap.size ≤ i
  n : x'.n ≤ nb
section
variable {lim : Nat} {S : Nat → Prop} {I : Nat → World → Prop} {iv : Value} {ge : Kz → List UInt8 × Bool × Int} {sn : Sp → List Pa × Int} {w0 y y' y'' : World} {k k' k'' q nb nb' : Nat} {x x' x'' : VR} {V V' : VS}
theorem VAt.ran (h : VAt w0 lim I k iv q x V y) (hn : x.n ≤ nb) : VRan S w0 lim I k iv q x nb V y x y := ⟨h, FrV.refl _ _, fun i hi => .inl hi, hn⟩
theorem VTo.ran (t : VTo S w0 lim I k iv q x V y x' y') (hn : x.n + 4 ≤ nb) : VRan S w0 lim I k iv q x nb V y x' y' := ⟨t.at_, t.fr, t.own, Nat.le_trans t.n hn⟩
theorem VRan.trans (a : VRan S w0 lim I k iv q x nb V y x' y') (b : VRan S w0 lim I k' iv q x' nb' V' y' x'' y'') : VRan S w0 lim I k' iv q x nb' V' y x'' y'' :=
  ⟨b.at_, a.fr.trans b.fr (fun i e => e.elim (fun q => (a.own i q).imp .inl id) (fun q => .inl (.inr q))), fun i hi => (b.own i hi).elim (a.own i) (fun q => .inr (Nat.le_trans a.fr.size q)), b.n⟩
theorem VRan.called (D : Baser lim S I iv ge sn) (a : VRan S w0 lim I k iv q x nb V y x' y') (b : Below y'.heap.size y' y'') : VRan S w0 lim I k iv q x nb V y x' y'' :=
  ⟨a.at_.called D b, a.fr.trans (FrV.of_below (S := fun i => x.own q i ∨ S i) b) (fun i e => .inl e), a.own, a.n⟩
end
theorem okV_bad {v : List UInt8} (h : okV v = false) : okV v = false := h
/-- What a round of does holds. -/
structure DoAt (w0 y0 : World) (S : Nat → Prop) (lim : Nat) (I : Nat → World → Prop) (k : Nat) (iv : Value) (q : Nat) (x : VR) (nb : Nat) (V : VS) (x' : VR) (g off : Nat) (o : Vo) (y : World) : Prop where
  ran : VRan S w0 lim I k iv q x nb V y0 x' y
  rg : y.rangeAt g off (encO.c o)
end Go.Proofs.YtdmindhjmjnagabGreatDoor
/- dir: Put and Drop over a view. -/
namespace Go.Proofs.YtdmindhjmjnagabGreatDoor
set_option linter.unusedVariables false
set_option maxRecDepth 100000
open Go.RowKit

section
variable {lim : Nat} {I : Nat → World → Prop} {iv : Value} {ge : Kz → List UInt8 × Bool × Int} {sn : Sp → List Pa × Int} {w0 y y1 y2 : World} {k q nb b : Nat} {x x' : VR} {V V' : VS}
/-- A step on a view, and then a box stored over that was made ahead of it. -/
theorem VRan.boxed {k' : Nat} (D : Baser lim noB I iv ge sn) (A : VAt w0 lim I k iv q x V y) (b1 : Below y.heap.size y y1) (t : VRan noB w0 lim I k' iv q x nb V' y1 x' y2) (hb : y.heap.size ≤ b) (hb1 : b < y1.heap.size) (u : Value) : VRan noB w0 lim I k' iv q x nb V' y x' (y2.setCell ⟨b, 0, none⟩ u) := by
  have hno : ¬ x'.own q b := fun e => by
    rcases t.own b e with e | e
    · have := A.vw.lt e
      omega
    · omega
  have f : FrV (fun i => i = b) y2 (y2.setCell ⟨b, 0, none⟩ u) := ⟨⟨rfl, rfl, rfl, by simp, fun k hk => absurd hk (Nat.not_lt_zero k)⟩, fun i _ hn => heap_setCell_other _ _ _ _ hn⟩
  have hlim : lim ≤ b := Nat.le_trans A.limy hb
  refine ⟨⟨t.at_.vw.kept fun i hi => heap_setCell_other _ _ _ _ (fun e => hno (by have e' : i = b := e; rw [← e']; exact hi)), D.mono _ _ _ t.at_.base (f.below (fun i e => by cases e; exact hlim) t.at_.limy), t.at_.own, t.at_.bel.trans (f.below (fun i e => by cases e; exact Nat.le_trans A.le hlim) (Nat.le_trans t.at_.le t.at_.limy)), t.at_.le, Nat.le_trans t.at_.limy f.size⟩, ?_, fun i hi => (t.own i hi).imp id (fun e => Nat.le_trans b1.size e), t.n⟩
  exact ((FrV.of_below (S := fun i => x.own q i ∨ noB i) b1).trans t.fr (fun i e => .inl e)).trans f (fun i e => by cases e; exact .inr hb)
/-- What was made ahead of a step on a view, and is not its own, stands. -/
theorem VRan.kept {k' : Nat} (t : VRan noB w0 lim I k' iv q x nb V' y1 x' y2) (hb : b < y1.heap.size) (hn : ¬ x.own q b) : y2.heap[b]? = y1.heap[b]? := t.fr.block b hb (fun e => e.elim hn (fun e => e))
end
end Go.Proofs.YtdmindhjmjnagabGreatDoor
/- dir: Put and Drop. -/
namespace Go.Proofs.YtdmindhjmjnagabGreatDoor
set_option linter.unusedVariables false
set_option maxRecDepth 100000
open Go.RowKit

/-- The change that a put of an entry makes. -/
def enC (n : Int) (s : List UInt8) (ino : Int) : Ch := ⟨entryR n s, entryR_length n s, numT ino, false⟩
theorem numT_ok {ino : Int} (h : okNum ino = true) : okV (numT ino) = true := by
  unfold numT okV
  rw [if_pos h, be_length]
  rfl
end Go.Proofs.YtdmindhjmjnagabGreatDoor
/- dir: get, Find. -/
namespace Go.Proofs.YtdmindhjmjnagabGreatDoor
set_option linter.unusedVariables false
set_option maxRecDepth 100000
open Go.RowKit

theorem cell1 {w : World} {b : Nat} {v : Value} {ty : TypeId} (h : w.heap[b]? = some (.cells #[v] ty (0, 0))) : w.cell? ⟨b, 0, none⟩ = some v := by rw [cell_of_row _ _ _ _ _ _ h]; rfl
theorem set1 {w : World} {b : Nat} {u : Value} {ty : TypeId} (v : Value) (h : w.heap[b]? = some (.cells #[u] ty (0, 0))) : (w.setCell ⟨b, 0, none⟩ v).heap[b]? = some (.cells #[v] ty (0, 0)) := by
  rw [setCell_eq_setRow w b 0 _ _ _ _ h]
  exact setRow_heap w b _ _ _ _ h
theorem heap_al (w : World) (o : Obj) : (w.alloc o).heap = w.heap.push o := rfl
theorem al5 (w : World) (a b c d e : Obj) : ((((((w.alloc a).alloc b).alloc c).alloc d).alloc e).heap[w.heap.size]? = some a ∧ (((((w.alloc a).alloc b).alloc c).alloc d).alloc e).heap[w.heap.size + 1]? = some b ∧ (((((w.alloc a).alloc b).alloc c).alloc d).alloc e).heap[w.heap.size + 2]? = some c ∧ (((((w.alloc a).alloc b).alloc c).alloc d).alloc e).heap[w.heap.size + 3]? = some d ∧ (((((w.alloc a).alloc b).alloc c).alloc d).alloc e).heap[w.heap.size + 4]? = some e) := by
  have e1 : (w.alloc a).heap.size = w.heap.size + 1 := by simp
  have e2 : ((w.alloc a).alloc b).heap.size = w.heap.size + 2 := by simp
  have e3 : (((w.alloc a).alloc b).alloc c).heap.size = w.heap.size + 3 := by simp
  have e4 : ((((w.alloc a).alloc b).alloc c).alloc d).heap.size = w.heap.size + 4 := by simp
  refine ⟨?_, ?_, ?_, ?_, ?_⟩
  · rw [Below.heap_alloc _ _ _ (by omega), Below.heap_alloc _ _ _ (by omega), Below.heap_alloc _ _ _ (by omega), Below.heap_alloc _ _ _ (by omega)]
    exact heap_alloc_new _ _
  · rw [Below.heap_alloc _ _ _ (by omega), Below.heap_alloc _ _ _ (by omega), Below.heap_alloc _ _ _ (by omega)]
    exact e1 ▸ heap_alloc_new (w.alloc a) b
  · rw [Below.heap_alloc _ _ _ (by omega), Below.heap_alloc _ _ _ (by omega)]
    exact e2 ▸ heap_alloc_new ((w.alloc a).alloc b) c
  · rw [Below.heap_alloc _ _ _ (by omega)]
    exact e3 ▸ heap_alloc_new (((w.alloc a).alloc b).alloc c) d
  · exact e4 ▸ heap_alloc_new ((((w.alloc a).alloc b).alloc c).alloc d) e
section
variable {lim : Nat} {I : Nat → World → Prop} {iv : Value} {ge : Kz → List UInt8 × Bool × Int} {sn : Sp → List Pa × Int} {w0 y y1 y2 y3 : World} {k q nb : Nat} {x x' : VR} {V V' : VS}
/-- A step on a view, and then boxes stored over that were made ahead of it. -/
theorem VRan.boxes {k' : Nat} (D : Baser lim noB I iv ge sn) (A : VAt w0 lim I k iv q x V y) (b1 : Below y.heap.size y y1) (t : VRan noB w0 lim I k' iv q x nb V' y1 x' y2) (f : FrV (fun i => y.heap.size ≤ i ∧ i < y1.heap.size) y2 y3) : VRan noB w0 lim I k' iv q x nb V' y x' y3 := by
  have hno : ∀ i, y.heap.size ≤ i ∧ i < y1.heap.size → ¬ x'.own q i := fun i hi e => by
    rcases t.own i e with e | e
    · have := A.vw.lt e
      omega
    · omega
  have hl := A.limy
  refine ⟨⟨t.at_.vw.kept fun i hi => f.block i (t.at_.vw.lt hi) (fun e => hno i e hi), D.mono _ _ _ t.at_.base (f.below (fun i e => by omega) t.at_.limy), t.at_.own, t.at_.bel.trans (f.below (fun i e => Nat.le_trans A.le (Nat.le_trans hl e.1)) (Nat.le_trans t.at_.le t.at_.limy)), t.at_.le, Nat.le_trans t.at_.limy f.size⟩, ?_, fun i hi => (t.own i hi).imp id (fun e => Nat.le_trans b1.size e), t.n⟩
  exact ((FrV.of_below (S := fun i => x.own q i ∨ noB i) b1).trans t.fr (fun i e => .inl e)).trans f (fun i e => .inr e.1)
end
/-- What Find tells, of what Get told and the number that the value says. -/
def findR (r : List UInt8 × Bool × Int) (o : Option Int) : Int × Bool × Int :=
  if r.2.2 ≠ 0 ∨ r.2.1 = false then (0, false, r.2.2) else match o with
    | some i => (i, true, 0)
    | none => (0, false, 12)
theorem nm_is4 (L : List UInt8) : ∃ o, NmIs L o := ⟨_, nm_is (f := fun L => (num ((rd0 (L.take 4)).got 4) : Int)) (fun n h => by
  show (num ((rd0 ((be n.toNat 4).take 4)).got 4) : Int) = n
  rw [List.take_of_length_le (by rw [be_length]; omega)]
  exact word_back n h) L⟩
end Go.Proofs.YtdmindhjmjnagabGreatDoor
/- dir: entries, List, Empty. -/
namespace Go.Proofs.YtdmindhjmjnagabGreatDoor
set_option linter.unusedVariables false
set_option maxRecDepth 100000
open Go.RowKit

/-- The span of a directory's entries. -/
def entriesS (n : Int) : Sp := ⟨entriesF n, entriesT n, false, entriesF_length n, entriesT_length n⟩
theorem al2 (w : World) (a b : Obj) : ((w.alloc a).alloc b).heap[w.heap.size]? = some a ∧ ((w.alloc a).alloc b).heap[w.heap.size + 1]? = some b := by
  have e1 : (w.alloc a).heap.size = w.heap.size + 1 := by simp
  refine ⟨?_, ?_⟩
  · rw [Below.heap_alloc _ _ _ (by omega)]
    exact heap_alloc_new _ _
  · exact e1 ▸ heap_alloc_new (w.alloc a) b
theorem entries_ne {n : Int} (h : okN n = true) : decide (entriesS n = sp0) = false := by
  refine decide_eq_false fun e => ?_
  have h1 : entriesF n = zs 24 := congrArg Sp.F e
  have h0 : 1 ≤ n ∧ n < 1073741824 := by simpa [okN] using h
  unfold entriesF at h1
  rw [if_pos h] at h1
  have h2 := congrArg (fun l : List UInt8 => l.drop 4) h1
  have h3 : (headK n.toNat 2).drop 4 = 2 :: zs 19 := by
    unfold headK
    rw [List.drop_append_of_le_length (by rw [be_length]; omega), List.drop_eq_nil_of_le (by rw [be_length]; omega)]
    rfl
  have h4 : (headK n.toNat 2).drop 4 = (zs 24).drop 4 := h2
  rw [h3] at h4
  revert h4
  decide
theorem entries_eq {n : Int} (h : okN n = false) : decide (entriesS n = sp0) = true := by
  have h1 : entriesF n = zs 24 := by unfold entriesF; rw [h]; rfl
  have h2 : entriesT n = zs 24 := by unfold entriesT; rw [h]; rfl
  refine decide_eq_true ?_
  unfold entriesS sp0
  congr 1
section
variable {ops : Array Oper} {rest : List Oper} {o : Oper} {a : Act} {w : World} {Q : Exit → Act → World → Prop}
theorem op_eq_sp (hgd : o.guard = none) (x y : Operand) (t' : TypeId) (ho : o.op = .binOp .eql 33 x y t') (s u : Sp) (hx : a.eval x = spv s) (hy : a.eval y = spv u) (h : wpList Tryz.prog ops Q rest (a.put o.dst (.bool (decide (s = u)))) w) : wpList Tryz.prog ops Q (o :: rest) a w :=
  wpList_plain hgd fun K hK => by
    unfold Oper.wp
    rw [exec_eq_sp x y t' ho s u hx hy w]
    simp only [Oper.upon]
    exact hK _ _ h
end
end Go.Proofs.YtdmindhjmjnagabGreatDoor
/- dir: Empty, List. -/
namespace Go.Proofs.YtdmindhjmjnagabGreatDoor
set_option linter.unusedVariables false
set_option maxRecDepth 100000
open Go.RowKit

/-- Names in a slice. -/
def encN : Enc (List UInt8) 1 := ⟨fun s => [.string (str s)], fun _ => rfl, fun _ v hv => by rw [List.mem_singleton] at hv; subst hv; rfl⟩
/-- Is it the key of an entry? -/
def goodK (K : List UInt8) : Bool := right K && (pKind K == 2)
def namesL (L : List Pa) : List (List UInt8) := L.map fun p => pName p.k
end Go.Proofs.YtdmindhjmjnagabGreatDoor
/- Two views side by side, a view over a view: a base of pairs that is held block by block; a view as a base; what a view over a view tells (mathematics). -/
namespace Go.Proofs.YtdmindhjmjnagabGreatDoor
set_option linter.unusedVariables false
set_option maxRecDepth 100000
open Go.RowKit

set_option maxHeartbeats 1000000 in
/-- NewPlain, with its row its own. -/
theorem newPlainO_calls (w : World) (u : Value) (l : List Pa) (h : Sl encP w u l) (hl : l.length ≤ 10000) :
    Calls Tryz.prog 11 #[u] w fun e w' => ∃ p v m, e = .returned (.pointer (some ⟨p, 0, none⟩)) ∧ w'.heap[p]? = some (.cells #[v] 66 (0, 0)) ∧ Own encP 76 w' w.heap.size v m ∧ MapIs l m ∧ m.length ≤ l.length ∧ w.heap.size ≤ p ∧ Below w.heap.size w w' := by
  have hM := map_calls w u l h hl
  clear h
  go_enter Tryz.func11, Tryz.ntmps11
  go_wp2_with (first
    | (go_at_call 27; refine hM.mono ?_; clear hM; rintro e w1 ⟨v, m, rfl, h1, i1, l1, b1⟩
       have s1 := h1.slB
       obtain ⟨ad, cap, rfl, hcap, hmax, -, -⟩ := id s1))
  go_ret
  have BX : Below w1.heap.size w1 (w1.alloc (.cells #[.slice ad m.length cap] 66)) := (Below.refl _ w1).alloc (Nat.le_refl _) _
  exact ⟨_, _, m, rfl, heap_alloc_new _ _, h1.below BX, i1, l1, b1.size, b1.trans (BX.mono b1.size)⟩
/-- A base of pairs, block by block. -/
structure PlC (lim : Nat) (w : World) (p : Nat) (v : Value) (L : List Pa) (base : Nat) : Prop where
  blk : w.heap[p]? = some (.cells #[v] 66 (0, 0))
  own : Own encP 76 w base v L
  asc : Asc Pa.n L
  lo : p < lim
  lov : ∀ g, v.ownBlock = some g → g < lim
  le : lim ≤ w.heap.size
theorem PlC.kept {lim : Nat} {w w' : World} {p : Nat} {v : Value} {L : List Pa} {base : Nat} (h : PlC lim w p v L base) (hs : w.heap.size ≤ w'.heap.size) (hk : ∀ i, i = p ∨ v.ownBlock = some i → w'.heap[i]? = w.heap[i]?) : PlC lim w' p v L base :=
  ⟨(hk p (.inl rfl)).trans h.blk, h.own.same fun g hg => hk g (.inr hg), h.asc, h.lo, h.lov, Nat.le_trans h.le hs⟩
theorem PlC.mono {lim : Nat} {w w' : World} {p : Nat} {v : Value} {L : List Pa} {base : Nat} (h : PlC lim w p v L base) (b : Below lim w w') : PlC lim w' p v L base :=
  h.kept b.size fun i hi => b.block i (hi.elim (fun e => e ▸ h.lo) (h.lov i))
theorem PlC.inn {lim : Nat} {w : World} {p : Nat} {v : Value} {L : List Pa} {base : Nat} (h : PlC lim w p v L base) : PlIn w p v L := ⟨h.blk, h.own.slB, h.asc⟩
theorem PlC.of {w : World} {p : Nat} {v : Value} {L : List Pa} {base : Nat} (h1 : w.heap[p]? = some (.cells #[v] 66 (0, 0))) (h2 : Own encP 76 w base v L) (h3 : Asc Pa.n L) : PlC w.heap.size w p v L base :=
  ⟨h1, h2, h3, lt_of_block h1, fun g hg => (h2.lt g hg).2, Nat.le_refl _⟩
theorem plainC_base (lim p : Nat) (v : Value) (L : List Pa) (base : Nat) (hl : L.length ≤ 5000) : Baser lim noB (fun _ w => PlC lim w p v L base) (.iface 43 (.pointer (some ⟨p, 0, none⟩))) (plGe L) (fun s => (scanL s L, 0)) where
  get := ⟨150, _, plain_methG p, fun k w K h => (pget_calls w p v L K h.inn (by omega)).mono fun e w' q => ⟨by rw [plGe_v]; exact q.1, h.mono (q.2.mono h.le), frv_no q.2⟩⟩
  scan := ⟨152, _, plain_methS p, fun k w s h => (pscan_calls w p v L s h.inn (by omega)).mono fun e w' q => by
    obtain ⟨u, e1, o1, b1⟩ := q
    exact ⟨u, e1, o1.slB, h.mono (b1.mono h.le), frv_no b1⟩⟩
  mono := fun k w w' h b => h.mono b
  down := fun k w h => h
  low := fun i h => h.elim
  size := fun k w h => h.le
  len := fun s => Nat.le_trans (scanL_len s L) hl
  ifc := ⟨_, _, rfl⟩

/-! A view as a base. -/
theorem view_methG (p : Nat) : Meth (.iface 23 (.pointer (some ⟨p, 0, none⟩))) "Get" 53 (.pointer (some ⟨p, 0, none⟩)) := fun w args => by
  exact meth_of (P := Tryz.prog) (fun w => by kernel_rfl) (fun args w => callFunc_go Tryz.func53 (by kernel_rfl) (by rfl) args w) w args
theorem view_methS (p : Nat) : Meth (.iface 23 (.pointer (some ⟨p, 0, none⟩))) "Scan" 7 (.pointer (some ⟨p, 0, none⟩)) := fun w args => by
  exact meth_of (P := Tryz.prog) (fun w => by kernel_rfl) (fun args w => callFunc_go Tryz.func7 (by kernel_rfl) (by rfl) args w) w args
section
variable {lim : Nat} {S : Nat → Prop} {I : Nat → World → Prop} {iv : Value} {ge : Kz → List UInt8 × Bool × Int} {sn : Sp → List Pa × Int}
/-- A view that may be asked K times, and has been asked some: what was read has grown. -/
def ViI (w0 : World) (lim : Nat) (I : Nat → World → Prop) (iv : Value) (q : Nat) (x : VR) (V : VS) (K lim' k : Nat) (w : World) : Prop :=
  k ≤ K ∧ lim' ≤ w.heap.size ∧ ∃ R, VAt w0 lim I k iv q { x with n := x.n + (K - k) } { V with R := R } w
theorem getW_R (V : VS) (R : List Sp) (J : Kz) : ∃ R', getW { V with R := R } J = { V with R := R' } := by
  unfold getW
  split
  · exact ⟨R, rfl⟩
  · exact ⟨_, rfl⟩
theorem view_base (D : Baser lim S I iv ge sn) (w0 : World) (q : Nat) (x : VR) (V : VS) (K lim' : Nat) (hK : x.n + K ≤ 5000) (hS : ∀ i, S i → w0.heap.size ≤ i) (hl : lim ≤ lim') (hx : ∀ i, x.own q i → i < lim') (hlen : ∀ s, (scanV V.C sn s).1.length ≤ 5000) :
    Baser lim' (fun i => x.own q i ∨ S i) (ViI w0 lim I iv q x V K lim') (.iface 23 (.pointer (some ⟨q, 0, none⟩))) (getV V.C ge) (scanV V.C sn) where
  get := ⟨53, _, view_methG q, fun k w J h => by
    obtain ⟨hk, hle, R, A⟩ := h
    refine (VAt.get D A hS (show x.n + (K - (k + 1)) ≤ 100000 by omega) J).mono fun e w' t => ?_
    obtain ⟨e1, t⟩ := t
    obtain ⟨R', hR'⟩ := getW_R V R J
    have ha := t.at_
    rw [hR'] at ha
    have en : x.n + (K - (k + 1)) + 1 = x.n + (K - k) := by omega
    have ha' : VAt w0 lim I k iv q { x with n := x.n + (K - (k + 1)) + 1 } { V with R := R' } w' := ha
    rw [en] at ha'
    exact ⟨e1, ⟨by omega, Nat.le_trans hle t.fr.size, R', ha'⟩, t.fr⟩⟩
  scan := ⟨7, _, view_methS q, fun k w s h => by
    obtain ⟨hk, hle, R, A⟩ := h
    refine (VAt.scan D A hS (show x.n + (K - (k + 1)) ≤ 5000 by omega) s).mono fun e w' t => ?_
    obtain ⟨ad, cap, e1, o1, t⟩ := t
    have ha := t.at_
    have en : x.n + (K - (k + 1)) + 1 = x.n + (K - k) := by omega
    have ha' : VAt w0 lim I k iv q { x with n := x.n + (K - (k + 1)) + 1 } { V with R := R ++ [s] } w' := ha
    rw [en] at ha'
    exact ⟨_, e1, o1.slB, ⟨by omega, Nat.le_trans hle t.fr.size, _, ha'⟩, t.fr⟩⟩
  mono := fun k w w' h b => by
    obtain ⟨hk, hle, R, A⟩ := h
    exact ⟨hk, Nat.le_trans hle b.size, R, A.vw.kept (fun i hi => b.block i (hx i hi)), D.mono _ _ _ A.base (b.mono hl), A.own, A.bel.trans (b.mono (Nat.le_trans A.le hl)), A.le, Nat.le_trans A.limy b.size⟩
  down := fun k w h => by
    obtain ⟨hk, hle, R, A⟩ := h
    exact ⟨by omega, hle, R, A.vw.up (x.n + (K - k)) (show x.n + (K - (k + 1)) ≤ x.n + (K - k) by omega), D.down _ _ A.base, A.own, A.bel, A.le, A.limy⟩
  low := fun i h => h.elim (hx i) (fun e => Nat.lt_of_lt_of_le (D.low i e) hl)
  size := fun k w h => h.2.1
  len := hlen
  ifc := ⟨_, _, rfl⟩
theorem ViI.start {w0 : World} {q : Nat} {x : VR} {V : VS} {K lim' : Nat} {w : World} (h : VAt w0 lim I K iv q x V w) (hl : lim' ≤ w.heap.size) : ViI w0 lim I iv q x V K lim' K w := by
  refine ⟨Nat.le_refl _, hl, V.R, ?_⟩
  rw [Nat.sub_self]
  exact h
/-- A view beside what was changed. -/
theorem VAt.aside {w0 y y' : World} {k q : Nat} {x : VR} {V : VS} {T : Nat → Prop} (h : VAt w0 lim I k iv q x V y) (f : FrV T y y') (hT : ∀ i, T i → w0.heap.size ≤ i ∧ ¬ x.own q i) (hI : I k y') : VAt w0 lim I k iv q x V y' :=
  ⟨h.vw.kept (fun i hi => f.block i (h.vw.lt hi) (fun e => (hT i e).2 hi)), hI, h.own, h.bel.trans (f.below (fun i e => (hT i e).1) (Nat.le_trans h.le h.limy)), h.le, Nat.le_trans h.limy f.size⟩
theorem ViI.aside {w0 y y' : World} {K lim' k q : Nat} {x : VR} {V : VS} {T : Nat → Prop} (h : ViI w0 lim I iv q x V K lim' k y) (f : FrV T y y') (hT : ∀ i, T i → w0.heap.size ≤ i ∧ ¬ x.own q i) (hI : I k y → I k y') : ViI w0 lim I iv q x V K lim' k y' := by
  obtain ⟨hk, hle, R, A⟩ := h
  exact ⟨hk, Nat.le_trans hle f.size, R, A.aside f hT (hI A.base)⟩
end

/-! What a view over a view tells. -/
/-- C3 is C1 with C2 over it. -/
structure OverIs (C1 C2 C3 : List Ch) : Prop where
  a1 : Asc Ch.n C1
  a2 : Asc Ch.n C2
  a3 : Asc Ch.n C3
  is : ∀ x, look Ch.n C3 x = (look Ch.n C2 x).or (look Ch.n C1 x)
theorem OverIs.start {C : List Ch} (h : Asc Ch.n C) : OverIs C [] C := ⟨h, List.Pairwise.nil, h, fun _ => rfl⟩
theorem OverIs.change {C1 C2 C3 : List Ch} (h : OverIs C1 C2 C3) (c : Ch) : OverIs C1 (putA Ch.n C2 c) (putA Ch.n C3 c) :=
  ⟨h.a1, putA_asc Ch.n c h.a2, putA_asc Ch.n c h.a3, fun x => by
    rw [putA_look Ch.n c x h.a2, putA_look Ch.n c x h.a3, h.is x]
    split <;> rfl⟩
theorem OverIs.doV {C1 : List Ch} {V2 V3 : VS} (h : OverIs C1 V2.C V3.C) (o : Vo) : OverIs C1 (doV V2 o).C (doV V3 o).C := by
  unfold Go.Proofs.YtdmindhjmjnagabGreatDoor.doV
  split
  · split
    · exact h.change _
    · exact h
  · exact h.change _
theorem OverIs.steps {C1 : List Ch} (ops : List Vo) {V2 V3 : VS} (h : OverIs C1 V2.C V3.C) : OverIs C1 (ops.foldl Go.Proofs.YtdmindhjmjnagabGreatDoor.doV V2).C (ops.foldl Go.Proofs.YtdmindhjmjnagabGreatDoor.doV V3).C := by
  induction ops generalizing V2 V3 with
  | nil => exact h
  | cons o r ih => exact ih (h.doV o)
theorem scan_over {C1 C2 C3 : List Ch} (h : OverIs C1 C2 C3) (m : List Pa) (s : Sp) : scanV C2 (scanV C1 (fun s => (scanL s m, 0))) s = scanV C3 (fun s => (scanL s m, 0)) s := by
  have e1 : scanV C1 (fun s => (scanL s m, 0)) s = (applyL (scanL s m) (inL C1 s), 0) := rfl
  have e3 : scanV C3 (fun s => (scanL s m, 0)) s = (applyL (scanL s m) (inL C3 s), 0) := rfl
  have e2 : scanV C2 (scanV C1 (fun s => (scanL s m, 0))) s = (applyL (scanV C1 (fun s => (scanL s m, 0)) s).1 (inL C2 s), 0) := rfl
  rw [e2, e3, e1]
  refine congrArg (·, (0 : Int)) (asc_ext Pa.n (applyL_is _ _).1 (applyL_is _ _).1 fun x => ?_)
  rw [(applyL_is _ _).2, (applyL_is _ _).2, (applyL_is _ _).last, lastA_asc Ch.n (inL_asc h.a2 s), lastA_asc Ch.n (inL_asc h.a3 s), lastA_asc Ch.n (inL_asc h.a1 s), look_filter, look_filter, look_filter, h.is x]
  by_cases hb : s.inb x = true
  · rw [if_pos hb, if_pos hb, if_pos hb]
    cases look Ch.n C2 x <;> rfl
  · rw [if_neg hb, if_neg hb, if_neg hb]
    rfl
theorem applyL_len (l : List Pa) (c : List Ch) : (applyL l c).length ≤ l.length + c.length := by
  have h1 : ∀ (l m : List Pa), (l.foldl (putA Pa.n) m).length ≤ m.length + l.length := by
    intro l
    induction l with
    | nil => intro m; exact Nat.le_refl _
    | cons a r ih =>
      intro m
      rw [List.foldl_cons, List.length_cons]
      have := ih (putA Pa.n m a)
      have := putA_len Pa.n m a
      omega
  have h2 : ∀ (c : List Ch) (m : List Pa), (c.foldl stepA m).length ≤ m.length + c.length := by
    intro c
    induction c with
    | nil => intro m; exact Nat.le_refl _
    | cons a r ih =>
      intro m
      rw [List.foldl_cons, List.length_cons]
      have := ih (stepA m a)
      have : (stepA m a).length ≤ m.length + 1 := by
        unfold stepA
        split
        · have := delA_len Pa.n m a.n
          omega
        · exact putA_len Pa.n m a.pa
      omega
  have := h2 c (l.foldl (putA Pa.n) [])
  have := h1 l []
  simp only [List.length_nil] at this
  unfold applyL
  omega
theorem scanV_len (C : List Ch) (m : List Pa) (hm : m.length ≤ 100) (hC : C.length ≤ 100) (s : Sp) : (scanV C (fun s => (scanL s m, 0)) s).1.length ≤ 5000 := by
  have e1 : scanV C (fun s => (scanL s m, 0)) s = (applyL (scanL s m) (inL C s), 0) := rfl
  rw [e1]
  have := applyL_len (scanL s m) (inL C s)
  have := scanL_len s m
  have : (inL C s).length ≤ C.length := List.length_filter_le _ _
  show (applyL (scanL s m) (inL C s)).length ≤ 5000
  omega
end Go.Proofs.YtdmindhjmjnagabGreatDoor
