import Derived.Test.YtbbelhkdpmcoeaaGreatB27
import Derived.Test.YtbbelhkdpmcoeaaGreatB28
import Derived.Test.YtbbelhkdpmcoeaaGreatB06
/- Changes of a view; steps as plain data; the statements' does. -/
namespace Go.Proofs.YtbbelhkdpmcoeaaGreat
set_option linter.unusedVariables false
set_option maxRecDepth 100000
open Go.RowKit

theorem plains_look {C : List Ch} (x : Int) : look Ch.n (C.map Ch.plain) x = (look Ch.n C x).map Ch.plain := by
  induction C with
  | nil => rfl
  | cons a r ih =>
    simp only [List.map_cons, look]
    rw [Ch.plain_n, ih]
    by_cases e : a.n = x <;> simp [e]
theorem plains_asc {C : List Ch} (h : Asc Ch.n C) : Asc Ch.n (C.map Ch.plain) := by
  unfold Asc at h ⊢
  rw [List.pairwise_map]
  exact h.imp fun {a b} q => by rw [Ch.plain_n, Ch.plain_n]; exact q
theorem vals_join {n : Nat} {C ss d : List Ch} (hC : Asc Ch.n C) (hs : ValL n C ss) (hd : JoinIs ss d) : d = C.map Ch.plain := by
  refine asc_ext Ch.n hd.1 (plains_asc hC) fun x => ?_
  rw [hd.2, plains_look]
  by_cases hx : ∃ K : Kz, K.n = x
  · obtain ⟨K, rfl⟩ := hx
    rw [hs.2 K]
  · have e1 : look Ch.n C x = none := (look_none Ch.n).2 fun c hc e => hx ⟨c.kz, e⟩
    have e2 : lastA Ch.n ss x = none := by
      cases q : lastA Ch.n ss x with
      | none => rfl
      | some y => exact absurd (lastA_key Ch.n q).2 (fun e => hx ⟨y.kz, e⟩)
    rw [e1, e2]
set_option maxHeartbeats 4000000 in
theorem vchanges_calls (w : World) (p : Nat) (iv : Value) (x : VR) (V : VS) (h : VwIn w p iv x V) (hn : x.n ≤ 5000) :
    Calls Tryz.prog 12 #[.pointer (some ⟨p, 0, none⟩)] w fun e w' => ∃ ad cap, e = .returned (.slice ad V.C.length cap) ∧ Own encC 52 w' w.heap.size (.slice ad V.C.length cap) (V.C.map Ch.plain) ∧ Below w.heap.size w w' := by
  have hcl := h.cell.2.1
  have HC : Hid (MapA encC Ch.n w x.c x.n V.C) := h.mapC
  have hK := keysW_calls (some x.c) w
  have HN : Hid (x.n ≤ 5000) := hn
  generalize V.C = C at *
  clear h hn
  go_enter Tryz.func12, Tryz.ntmps12
  go_wp2_with (first
    | (go_at_call 34; refine hJ.mono ?_; clear hJ; rintro e w4 ⟨v4, d, rfl, o4, i4, l4, b4⟩
       obtain ⟨ad4, cap4, rfl, -, -, -, -⟩ := id o4.slB)
    | (refine build_one1 rfl _ rfl v2 rfl ss o2.slB ?_; intro w3 hs3 b3
       have hJ := join_calls w3 _ [(v2, ss)] hs3 (show 1 ≤ 1000 by omega) (by simp; have := HS2.out.1; have := HN.out; omega)
       have HB3 : Hid (Below w.heap.size w w3) := (b1.trans (b2.mono b1.size)).trans (b3.mono (Nat.le_trans b1.size b2.size))
       clear hs3 b3 b1 b2)
    | (go_at_call 35; refine hC.mono ?_; clear hC; rintro e w2 ⟨v2, ss, rfl, hs2, o2, b2⟩
       have HS2 : Hid (ValL x.n C ss) := hs2
       clear hs2)
    | (go_at_call 36; refine hK.mono ?_; clear hK; rintro e w1 ⟨rfl, hw1⟩
       have b1 : Below w.heap.size w w1 := by rw [hw1]; exact (Below.refl _ w).alloc (Nat.le_refl _) _
       have hm1 : w1.cell? ⟨w.heap.size, 0, none⟩ = some (.map (some x.c)) := by rw [hw1, cell_of_row _ _ _ _ _ _ (heap_alloc_new _ _)]; rfl
       have hlt : w.heap.size < w1.heap.size := by rw [hw1]; simp
       have hG := keysW_gives 0 w.heap.size x.c x.n C w1 hlt hm1 (HC.out.below b1 (Nat.le_refl _))
       have hC := collect_inW 1 62 _ (enters_of Tryz.func62 (by kernel_rfl) rfl) _ x.n (by have := HN.out; omega) w1 hG (Nat.le_refl _)
       clear hG hm1 hlt hw1))
  go_ret
  have e1 : ([(v2, ss)] : List (Value × List Ch)).flatMap (·.2) = ss := by simp
  rw [e1] at i4
  have hd := vals_join HC.out.asc HS2.out i4
  have hl : d.length = C.length := by rw [hd, List.length_map]
  rw [hl] at o4 ⊢
  rw [hd] at o4
  exact ⟨_, _, rfl, o4.lower HB3.out.size, HB3.out.trans (b4.mono HB3.out.size)⟩

/-! Steps. -/
/-- A step. -/
structure Vo where
  kind : Int
  num : Int
  k : List UInt8
  h : k.length = 24
  s : List UInt8
  sp : Sp
def Vo.kz (o : Vo) : Kz := ⟨o.k, o.h⟩
def ocd (o : Vo) : List Value := [.int .i64 o.kind, .int .i64 o.num] ++ bc o.k ++ [.string (str o.s)] ++ sc o.sp.F o.sp.T o.sp.e
theorem ocd_len (o : Vo) : (ocd o).length = 76 := by simp [ocd, sc, bc_length, o.h, o.sp.hF, o.sp.hT]
def encO : Enc Vo 76 := ⟨ocd, ocd_len, fun o v hv => by
  simp only [ocd, sc, List.mem_append, List.mem_cons, List.not_mem_nil, or_false] at hv
  rcases hv with ((hv | hv) | hv) | ((hv | hv) | hv)
  · rcases hv with rfl | rfl <;> rfl
  · exact bc_one _ v hv
  · subst hv; rfl
  · exact bc_one _ v hv
  · exact bc_one _ v hv
  · subst hv; rfl⟩
section
variable {w : World} {g off : Nat} {o : Vo}
theorem range_oKind (h : w.rangeAt g off (encO.c o)) : w.cell? ⟨g, off, none⟩ = some (.int .i64 o.kind) := by
  have := h 0 (.int .i64 o.kind) rfl
  simpa using this
theorem range_oNum (h : w.rangeAt g off (encO.c o)) : w.cell? ⟨g, off + 1, none⟩ = some (.int .i64 o.num) := h 1 (.int .i64 o.num) rfl
theorem ocd_at (o : Vo) (j : Nat) (hj : j < 24) : (ocd o)[2 + j]? = (bc o.k)[j]? := by
  have hk : (bc o.k).length = 24 := by rw [bc_length, o.h]
  unfold ocd
  rw [List.append_assoc, List.append_assoc, List.getElem?_append_right (by simp), List.getElem?_append_left (by rw [hk]; simp; omega)]
  simp
theorem range_oKey (h : w.rangeAt g off (encO.c o)) : w.rangeAt g (off + 2) (bc o.k) := fun j v hv => by
  have hj : j < 24 := by have := (List.getElem?_eq_some_iff.1 hv).1; rw [bc_length, o.h] at this; exact this
  have := h (2 + j) v (by show (ocd o)[2 + j]? = _; rw [ocd_at o j hj]; exact hv)
  rwa [← Nat.add_assoc] at this
theorem range_oStr (h : w.rangeAt g off (encO.c o)) : w.cell? ⟨g, off + 26, none⟩ = some (.string (str o.s)) := h 26 (.string (str o.s)) (by
  show (ocd o)[26]? = _
  have hk : (bc o.k).length = 24 := by rw [bc_length, o.h]
  unfold ocd
  rw [List.append_assoc, List.getElem?_append_right (by simp [hk]), List.getElem?_append_left (by simp [hk])]
  simp [hk])
theorem range_oSp (h : w.rangeAt g off (encO.c o)) : w.rangeAt g (off + 27) (sc o.sp.F o.sp.T o.sp.e) := fun j v hv => by
  have := h (27 + j) v (by
    show (ocd o)[27 + j]? = _
    have hk : (bc o.k).length = 24 := by rw [bc_length, o.h]
    have hl : ([Value.int .i64 o.kind, .int .i64 o.num] ++ bc o.k ++ [Value.string (str o.s)]).length = 27 := by simp [hk]
    unfold ocd
    rw [List.getElem?_append_right (by rw [hl]; omega), hl, Nat.add_sub_cancel_left]
    exact hv)
  rwa [← Nat.add_assoc] at this
end
theorem str_take50 (v : List UInt8) : (str v).extract 0 (min ((str v).size : Int) 50).toNat = str (v.take 50) := by
  have h : (min ((str v).size : Int) 50).toNat = min v.length 50 := by rw [str_size]; omega
  rw [h]
  apply ByteArray.ext
  apply Array.ext'
  rw [ByteArray.data_extract]
  simp only [Array.toList_extract, str_list, List.extract_eq_take_drop, List.drop_zero, Nat.sub_zero]
  by_cases q : v.length ≤ 50
  · rw [Nat.min_eq_left q, List.take_length, List.take_of_length_le q]
  · rw [Nat.min_eq_right (by omega)]
/-- The change that a put makes. -/
def Vo.ch (o : Vo) : Ch := ⟨o.k, o.h, o.s.take 50, false⟩
/-- A step of puts and deletes. -/
def doV (V : VS) (o : Vo) : VS := if o.kind = 1 then (if okV (o.s.take 50) = true then V.change o.ch else V) else V.change (goneC o.kz)
/-- What several calls leave. -/
structure VRan (S : Nat → Prop) (w0 : World) (lim : Nat) (I : Nat → World → Prop) (k : Nat) (iv : Value) (q : Nat) (x : VR) (nb : Nat) (V : VS) (y : World) (x' : VR) (y' : World) : Prop where
  at_ : VAt w0 lim I k iv q x' V y'
  fr : FrV (fun i => x.own q i ∨ S i) y y'
  own : ∀ i, x'.own q i → x.own q i ∨ y.heap.size ≤ i
  n : x'.n ≤ nb
section
variable {lim : Nat} {S : Nat → Prop} {I : Nat → World → Prop} {iv : Value} {ge : Kz → List UInt8 × Bool × Int} {sn : Sp → List Pa × Int} {w0 y y' y'' : World} {k k' k'' q nb nb' : Nat} {x x' x'' : VR} {V V' : VS}
theorem VAt.ran (h : VAt w0 lim I k iv q x V y) (hn : x.n ≤ nb) : VRan S w0 lim I k iv q x nb V y x y := ⟨h, FrV.refl _ _, fun i hi => .inl hi, hn⟩
theorem VTo.ran (t : VTo S w0 lim I k iv q x V y x' y') (hn : x.n + 4 ≤ nb) : VRan S w0 lim I k iv q x nb V y x' y' := ⟨t.at_, t.fr, t.own, Nat.le_trans t.n hn⟩
theorem VRan.trans (a : VRan S w0 lim I k iv q x nb V y x' y') (b : VRan S w0 lim I k' iv q x' nb' V' y' x'' y'') : VRan S w0 lim I k' iv q x nb' V' y x'' y'' :=
  ⟨b.at_, a.fr.trans b.fr (fun i e => e.elim (fun q => (a.own i q).imp .inl id) (fun q => .inl (.inr q))), fun i hi => (b.own i hi).elim (a.own i) (fun q => .inr (Nat.le_trans a.fr.size q)), b.n⟩
theorem VRan.called (D : Baser lim S I iv ge sn) (a : VRan S w0 lim I k iv q x nb V y x' y') (b : Below y'.heap.size y' y'') : VRan S w0 lim I k iv q x nb V y x' y'' :=
  ⟨a.at_.called D b, a.fr.trans (FrV.of_below (S := fun i => x.own q i ∨ S i) b) (fun i e => .inl e), a.own, a.n⟩
end
theorem okV_bad {v : List UInt8} (h : okV v = false) : okV v = false := h
/-- What a round of does holds. -/
structure DoAt (w0 y0 : World) (S : Nat → Prop) (lim : Nat) (I : Nat → World → Prop) (k : Nat) (iv : Value) (q : Nat) (x : VR) (nb : Nat) (V : VS) (x' : VR) (g off : Nat) (o : Vo) (y : World) : Prop where
  ran : VRan S w0 lim I k iv q x nb V y0 x' y
  rg : y.rangeAt g off (encO.c o)
end Go.Proofs.YtbbelhkdpmcoeaaGreat
/- Steps of stage 12 that came in. -/
namespace Go.Proofs.YtbbelhkdpmcoeaaGreat
set_option linter.unusedVariables false
set_option maxRecDepth 100000
open Go.ChangeShapes Go.WideShapes Go.ChangeAt Go.RowKit

theorem trod_span {H : Type} {enc : TypeId × Value → H} {W : World} {base : Nat} {held : Bool} {fuel : Nat} {z : DataW H × List MemPlace} {cs : List Value} (hf : DataW.trod enc Tryz.prog W base (fun _ => true) held fuel 44 cs = some z) : ∃ p : Sp, cs = sc p.F p.T p.e := by
  obtain ⟨xs, n', _, _, _, hlen, hf'⟩ := DataW.trod_struct Tryz.underlying44 hf
  match xs, hlen with
  | [y0, y1, y2], _ =>
    have k24 : Tryz.prog.cellsOf 29 = 24 := by kernel_rfl
    have k1 : Tryz.prog.cellsOf 4 = 1 := by kernel_rfl
    have k49 : Tryz.prog.cellsOf 44 = 49 := by kernel_rfl
    have f0 := hf' 0 _ rfl
    have f1 := hf' 1 _ rfl
    have f2 := hf' 2 _ rfl
    simp at f0 f1 f2
    rw [k24] at f0 f1
    rw [k1] at f2
    obtain ⟨F, lF, eF⟩ := trod_key f0
    obtain ⟨T, lT, eT⟩ := trod_key f1
    obtain ⟨e, ee, _⟩ := DataW.trod_bool Tryz.underlying4 f2
    refine ⟨⟨F, T, e, lF, lT⟩, ?_⟩
    show cs = bc F ++ bc T ++ [.bool e]
    rw [← eF, ← eT, ← ee, List.take_of_length_le (l := cs.drop 48) (by simp; omega), List.append_assoc]
    have : cs.drop 48 = (cs.drop 24).drop 24 := by rw [List.drop_drop]
    rw [this, List.take_append_drop, List.take_append_drop]
theorem open_vops {H : Type} {enc : TypeId × Value → H} {W : World} {base : Nat} {held : Bool} {a : Option Addr} {len cap : Nat} {d : DataW H} {p : List MemPlace}
    (h : DataW.Trod enc Tryz.prog W base (fun _ => true) held 23 (.slice a len cap) d p) : ∃ l : List Vo, Sl encO W (.slice a len cap) l := by
  refine open_els encO 23 46 Tryz.underlying23 (by kernel_rfl) (by decide) (fun fuel z cs hf hl => ?_) h
  obtain ⟨xs, n', _, _, _, hlen, hf'⟩ := DataW.trod_struct Tryz.underlying46 hf
  match xs, hlen with
  | [y0, y1, y2, y3, y4], _ =>
    have ki : Tryz.prog.cellsOf 3 = 1 := by kernel_rfl
    have k24 : Tryz.prog.cellsOf 29 = 24 := by kernel_rfl
    have k1 : Tryz.prog.cellsOf 9 = 1 := by kernel_rfl
    have k49 : Tryz.prog.cellsOf 44 = 49 := by kernel_rfl
    have f0 := hf' 0 _ rfl
    have f1 := hf' 1 _ rfl
    have f2 := hf' 2 _ rfl
    have f3 := hf' 3 _ rfl
    have f4 := hf' 4 _ rfl
    simp at f0 f1 f2 f3 f4
    rw [ki] at f0 f1
    rw [k24] at f2
    rw [k1] at f3
    rw [k49] at f4
    obtain ⟨kd, e0, _, _⟩ := DataW.trod_int Tryz.underlying3 f0
    obtain ⟨nn, e1, _, _⟩ := DataW.trod_int Tryz.underlying3 f1
    obtain ⟨K, lK, e2⟩ := trod_key f2
    obtain ⟨s, e3, _, _⟩ := DataW.trod_string Tryz.underlying9 f3
    obtain ⟨P, e4⟩ := trod_span f4
    refine ⟨⟨kd, nn, K, lK, s.data.toList, P⟩, ?_⟩
    show cs = [.int .i64 kd, .int .i64 nn] ++ bc K ++ [.string (str s.data.toList)] ++ sc P.F P.T P.e
    rw [str_data2, ← e2, ← e3, ← e4, List.take_of_length_le (l := cs.drop 27) (by simp; omega)]
    have d27 : cs.drop 27 = (cs.drop 26).drop 1 := by rw [List.drop_drop]
    have d26 : cs.drop 26 = (cs.drop 2).drop 24 := by rw [List.drop_drop]
    have d2 : cs.drop 2 = (cs.drop 1).drop 1 := by rw [List.drop_drop]
    rw [List.append_assoc, List.append_assoc, d27, List.take_append_drop, d26, List.take_append_drop]
    show cs = .int .i64 kd :: ([.int .i64 nn] ++ cs.drop 2)
    rw [← e1, d2, ← List.drop_one, List.take_append_drop]
    show cs = [.int .i64 kd] ++ cs.drop 1
    rw [← e0, List.take_append_drop]
end Go.Proofs.YtbbelhkdpmcoeaaGreat
/- What one goes back from was never done (mathematics); Back of a mark that is not there; Back with its bound. -/
namespace Go.Proofs.YtbbelhkdpmcoeaaGreat
set_option linter.unusedVariables false
set_option maxRecDepth 100000
open Go.RowKit

/-- The one mark of a view knows C0. -/
structure BkInv (C0 : List Ch) (V : VS) (n : Nat) : Prop where
  ex : ∃ L, V.U = [L] ∧ Asc Fo.n L ∧ FoOk L ∧ L.length ≤ n ∧ ∀ x, look Ch.n C0 x = match look Fo.n L x with
    | none => look Ch.n V.C x
    | some f => if f.was then some f.c else none
  asc : Asc Ch.n V.C
  len : V.C.length ≤ n
  rd : V.R = []
theorem BkInv.start {C0 : List Ch} {V : VS} {n : Nat} (hC : V.C = C0) (hU : V.U = [[]]) (hR : V.R = []) (ha : Asc Ch.n C0) (hl : C0.length ≤ n) : BkInv C0 V n :=
  ⟨⟨[], hU, List.Pairwise.nil, (fun f hf => by cases hf), Nat.zero_le _, fun x => by rw [hC]; rfl⟩, by rw [hC]; exact ha, by rw [hC]; exact hl, hR⟩
theorem BkInv.change {C0 : List Ch} {V : VS} {n : Nat} (h : BkInv C0 V n) (c : Ch) : BkInv C0 (V.change c) (n + 1) := by
  obtain ⟨L, hU, hL, hf, hn, hx⟩ := h.ex
  have hCn : (putA Ch.n V.C c).length ≤ n + 1 := by have := putA_len Ch.n V.C c; have := h.len; omega
  have hU' : (V.change c).U = [keepL V.C L c.kz] := by
    show keepU V.C V.U c.kz = _
    unfold keepU
    rw [hU]
    rfl
  refine ⟨⟨keepL V.C L c.kz, hU', ?_, ?_, ?_, ?_⟩, putA_asc Ch.n c h.asc, hCn, h.rd⟩
  · unfold keepL
    split
    · exact hL
    · exact putA_asc Fo.n _ hL
  · unfold keepL
    split
    · exact hf
    · intro f hm hw
      rcases putA_mem Fo.n hm with hm | rfl
      · exact hf f hm hw
      · show ((look Ch.n V.C c.kz.n).getD ch0).n = c.kz.n
        have hw' : (look Ch.n V.C c.kz.n).isSome = true := hw
        obtain ⟨y, hy⟩ := Option.isSome_iff_exists.1 hw'
        rw [hy]
        exact (look_key Ch.n hy).2
  · unfold keepL
    split
    · omega
    · have := putA_len Fo.n L ⟨c.kz, (look Ch.n V.C c.kz.n).getD ch0, (look Ch.n V.C c.kz.n).isSome⟩
      omega
  · intro x
    show look Ch.n C0 x = match look Fo.n (keepL V.C L c.kz) x with
      | none => look Ch.n (putA Ch.n V.C c) x
      | some f => if f.was then some f.c else none
    rw [hx x, putA_look Ch.n c x h.asc]
    have hcn : c.kz.n = c.n := rfl
    unfold keepL
    by_cases hs : (look Fo.n L c.kz.n).isSome = true
    · rw [if_pos hs]
      by_cases e : c.n = x
      · subst e
        rw [hcn] at hs
        obtain ⟨f, hf'⟩ := Option.isSome_iff_exists.1 hs
        rw [hf']
      · rw [if_neg e]
    · rw [if_neg hs, putA_look Fo.n _ x hL]
      have hq : (⟨c.kz, (look Ch.n V.C c.kz.n).getD ch0, (look Ch.n V.C c.kz.n).isSome⟩ : Fo).n = c.n := rfl
      rw [hq]
      by_cases e : c.n = x
      · subst e
        rw [if_pos rfl]
        rw [hcn] at hs
        have hn' : look Fo.n L c.n = none := by
          cases q : look Fo.n L c.n with
          | none => rfl
          | some f => rw [q] at hs; exact absurd rfl hs
        rw [hn']
        simp only [hcn]
        cases look Ch.n V.C c.n <;> rfl
      · rw [if_neg e, if_neg e]
theorem BkInv.mono {C0 : List Ch} {V : VS} {n n' : Nat} (h : BkInv C0 V n) (hn : n ≤ n') : BkInv C0 V n' := by
  obtain ⟨L, a, b, c, d, e⟩ := h.ex
  exact ⟨⟨L, a, b, c, Nat.le_trans d hn, e⟩, h.asc, Nat.le_trans h.len hn, h.rd⟩
theorem BkInv.doV {C0 : List Ch} {V : VS} {n : Nat} (h : BkInv C0 V n) (o : Vo) : BkInv C0 (doV V o) (n + 1) := by
  unfold Go.Proofs.YtbbelhkdpmcoeaaGreat.doV
  split
  · split
    · exact h.change _
    · exact h.mono (Nat.le_succ _)
  · exact h.change _
theorem BkInv.steps {C0 : List Ch} (ops : List Vo) {V : VS} {n : Nat} (h : BkInv C0 V n) : BkInv C0 (ops.foldl Go.Proofs.YtbbelhkdpmcoeaaGreat.doV V) (n + ops.length) := by
  induction ops generalizing V n with
  | nil => exact h
  | cons o r ih =>
    rw [List.foldl_cons, List.length_cons]
    exact (ih (h.doV o)).mono (by omega)
/-- Behind Back the changes are what they were. -/
theorem BkInv.back {C0 : List Ch} {V : VS} {n : Nat} (h : BkInv C0 V n) (h0 : Asc Ch.n C0) : (V.back 0).C = C0 ∧ (V.back 0).U = [[]] ∧ (V.back 0).R = [] ∧ (∀ L ∈ V.U, FoOk L) ∧ V.U.length = 1 := by
  obtain ⟨L, hU, hL, hf, hn, hx⟩ := h.ex
  obtain ⟨t1, t2⟩ := takeL_look h.asc hL hf
  refine ⟨?_, ?_, h.rd, ?_, by rw [hU]; rfl⟩
  · show backC V.C (V.U.drop 0) = C0
    rw [hU]
    show takeL V.C L = C0
    exact asc_ext Ch.n t1 h0 fun x => by rw [t2 x, hx x]; cases look Fo.n L x <;> rfl
  · show V.U.take 0 ++ [[]] = [[]]
    simp
  · intro M hM
    rw [hU, List.mem_singleton] at hM
    subst hM
    exact hf
/-- Without marks none come. -/
theorem doV_flat (V : VS) (o : Vo) (hU : V.U = []) (ha : Asc Ch.n V.C) : (doV V o).U = [] ∧ Asc Ch.n (doV V o).C ∧ (doV V o).R = V.R ∧ (doV V o).C.length ≤ V.C.length + 1 := by
  have hc : ∀ c : Ch, (V.change c).U = [] ∧ Asc Ch.n (V.change c).C ∧ (V.change c).R = V.R ∧ (V.change c).C.length ≤ V.C.length + 1 := fun c =>
    ⟨by show keepU V.C V.U c.kz = []; unfold keepU; rw [hU]; rfl, putA_asc Ch.n c ha, rfl, putA_len Ch.n V.C c⟩
  unfold doV
  split
  · split
    · exact hc _
    · exact ⟨hU, ha, rfl, Nat.le_succ _⟩
  · exact hc _
theorem steps_flat (ops : List Vo) (V : VS) (hU : V.U = []) (ha : Asc Ch.n V.C) : (ops.foldl doV V).U = [] ∧ Asc Ch.n (ops.foldl doV V).C ∧ (ops.foldl doV V).R = V.R ∧ (ops.foldl doV V).C.length ≤ V.C.length + ops.length := by
  induction ops generalizing V with
  | nil => exact ⟨hU, ha, rfl, Nat.le_refl _⟩
  | cons o r ih =>
    obtain ⟨a, b, c, d⟩ := doV_flat V o hU ha
    obtain ⟨a', b', c', d'⟩ := ih (doV V o) a b
    rw [List.foldl_cons, List.length_cons]
    exact ⟨a', b', by rw [c', c], by omega⟩
section
variable {lim : Nat} {S : Nat → Prop} {I : Nat → World → Prop} {iv : Value} {ge : Kz → List UInt8 × Bool × Int} {sn : Sp → List Pa × Int} {w0 y : World} {k q : Nat} {x : VR} {V : VS}
theorem VAt.backR (D : Baser lim S I iv ge sn) (h : VAt w0 lim I k iv q x V y) (hn : x.n ≤ 1000) (m : Nat) (MI : Int) (hMI : MI = (m : Int)) (hm : m < V.U.length) (hok : ∀ L ∈ V.U, FoOk L) (n : Nat) (hmo : (V.back m).most n) :
    Calls Tryz.prog 19 #[.pointer (some ⟨q, 0, none⟩), .int .i64 MI] y fun e y' => e = .returned (.int .i64 0) ∧ ∃ x', VRan S w0 lim I k iv q x n (V.back m) y x' y' := by
  subst hMI
  exact (vback_calls y q iv x V m h.vw hok hm hn).mono fun e y' r => by
    obtain ⟨r1, x', r2, r3, r4, r5⟩ := r
    have hfr : FrV (fun i => x.own q i ∨ S i) y y' := ⟨r4.bel, fun i hi hn => r4.block i hi (fun e => hn (.inl e))⟩
    exact ⟨r1, { x' with n := n }, ⟨⟨r2.tight n hmo, D.mono _ _ _ h.base (r4.below h.own h.limy), fun i hi => (r5 i hi).elim (h.own i) (fun e => Nat.le_trans h.limy e), h.bel.trans (r4.below (fun i hi => Nat.le_trans h.le (h.own i hi)) (Nat.le_trans h.le h.limy)), h.le, Nat.le_trans h.limy r4.size⟩, hfr, r5, Nat.le_refl _⟩⟩
end
set_option maxHeartbeats 4000000 in
theorem vback_bad (w : World) (p : Nat) (iv : Value) (x : VR) (V : VS) (MI : Int) (h : VwIn w p iv x V) (hM : MI < 0 ∨ (V.U.length : Int) ≤ MI) :
    Calls Tryz.prog 19 #[.pointer (some ⟨p, 0, none⟩), .int .i64 MI] w fun e w' => e = .returned (.int .i64 1) ∧ Below w.heap.size w w' := by
  have BX : Below w.heap.size w (w.alloc (.cells #[.pointer (some ⟨p, 0, none⟩)] 32)) := (Below.refl _ w).alloc (Nat.le_refl _) _
  have HB : Hid (Below w.heap.size w (w.alloc (.cells #[.pointer (some ⟨p, 0, none⟩)] 32))) := BX
  have hcl := (h.called BX).cell.2.2.2
  obtain ⟨ad, cap, hm, -, -, -, -⟩ := h.row.slB
  rw [hm] at hcl
  rw [h.len] at hM
  generalize x.u.length = N at *
  have hpl : p < w.heap.size := lt_of_block h.blk
  clear h BX hm
  rcases hM with hM | hM
  · go_enter Tryz.func19, Tryz.ntmps19
    go_wp2_with fail
    go_ret
    exact ⟨rfl, HB.out⟩
  · by_cases h0 : MI < 0
    · go_enter Tryz.func19, Tryz.ntmps19
      go_wp2_with fail
      go_ret
      exact ⟨rfl, HB.out⟩
    · go_enter Tryz.func19, Tryz.ntmps19
      go_wp2_with fail
      go_ret
      exact ⟨rfl, HB.out⟩
end Go.Proofs.YtbbelhkdpmcoeaaGreat
/- What the marks of a view stand for, whatever is done (mathematics): the changes as they were. -/
namespace Go.Proofs.YtbbelhkdpmcoeaaGreat
set_option linter.unusedVariables false
set_option maxRecDepth 100000
open Go.RowKit

theorem backC_append (C : List Ch) (Q T : List (List Fo)) : backC C (Q ++ T) = backC (backC C T) Q := by
  unfold backC
  rw [List.reverse_append, List.foldl_append]
theorem backC_one (C : List Ch) (L : List Fo) : backC C [L] = takeL C L := rfl
/-- A change, and what the last mark keeps of it: taken back it is as it was. -/
theorem takeL_change {C : List Ch} {L : List Fo} (c : Ch) (ha : Asc Ch.n C) (hL : Asc Fo.n L) (hf : FoOk L) : Asc Fo.n (keepL C L c.kz) ∧ FoOk (keepL C L c.kz) ∧ takeL (putA Ch.n C c) (keepL C L c.kz) = takeL C L := by
  obtain ⟨t1, t2⟩ := takeL_look ha hL hf
  have B : BkInv (takeL C L) { C := C, R := [], U := [L] } (C.length + L.length) := ⟨⟨L, rfl, hL, hf, Nat.le_add_left _ _, t2⟩, ha, Nat.le_add_right _ _, rfl⟩
  have hb := B.change c
  obtain ⟨L', h1, h2, h3, -, h4⟩ := hb.ex
  have h1' : [keepL C L c.kz] = [L'] := h1
  have e : keepL C L c.kz = L' := List.cons.inj h1' |>.1
  rw [e]
  refine ⟨h2, h3, ?_⟩
  obtain ⟨s1, s2⟩ := takeL_look (C := putA Ch.n C c) (putA_asc Ch.n c ha) h2 h3
  refine asc_ext Ch.n s1 t1 fun x => ?_
  rw [s2 x, h4 x]
  cases look Fo.n L' x <;> rfl
/-- The marks, and the changes as they were at each. -/
structure MkIs (V : VS) (D : List (List Ch)) : Prop where
  len : D.length = V.U.length
  asc : Asc Ch.n V.C
  ok : ∀ L ∈ V.U, Asc Fo.n L ∧ FoOk L
  at_ : ∀ i (h : i < D.length), backC V.C (V.U.drop i) = D[i]
theorem MkIs.start : MkIs vs0 [] := ⟨rfl, List.Pairwise.nil, (fun L h => by cases h), fun i h => absurd h (Nat.not_lt_zero _)⟩
theorem MkIs.change {V : VS} {D : List (List Ch)} (h : MkIs V D) (c : Ch) : MkIs (V.change c) D := by
  have hC : (V.change c).C = putA Ch.n V.C c := rfl
  rcases List.eq_nil_or_concat V.U with e | ⟨P, L, e⟩
  · have hU : (V.change c).U = [] := by
      show keepU V.C V.U c.kz = []
      unfold keepU
      rw [e]
      rfl
    have hD : D = [] := List.eq_nil_of_length_eq_zero (by rw [h.len, e]; rfl)
    subst hD
    refine ⟨by rw [hU]; rfl, by rw [hC]; exact putA_asc Ch.n c h.asc, fun L hL => ?_, fun i hi => absurd hi (Nat.not_lt_zero _)⟩
    rw [hU] at hL
    cases hL
  · rw [List.concat_eq_append] at e
    obtain ⟨hL, hf⟩ := h.ok L (by rw [e]; simp)
    obtain ⟨k1, k2, k3⟩ := takeL_change c h.asc hL hf
    have hU : (V.change c).U = P ++ [keepL V.C L c.kz] := by
      show keepU V.C V.U c.kz = _
      unfold keepU
      rw [e]
      have hl : (P ++ [L]).length - 1 = P.length := by simp
      rw [hl, List.set_append_right _ _ (Nat.le_refl _)]
      simp
    have hlen : D.length = P.length + 1 := by rw [h.len, e]; simp
    refine ⟨by rw [hU, hlen]; simp, by rw [hC]; exact putA_asc Ch.n c h.asc, fun M hM => ?_, fun i hi => ?_⟩
    · rw [hU, List.mem_append, List.mem_singleton] at hM
      rcases hM with hM | rfl
      · exact h.ok M (by rw [e]; simp [hM])
      · exact ⟨k1, k2⟩
    · have hi' : i ≤ P.length := by omega
      have ho := h.at_ i hi
      rw [e, List.drop_append_of_le_length hi', backC_append, backC_one] at ho
      rw [hC, hU, List.drop_append_of_le_length hi', backC_append, backC_one, k3]
      exact ho
theorem MkIs.mark {V : VS} {D : List (List Ch)} (h : MkIs V D) : MkIs V.mark (D ++ [V.C]) := by
  have hU : V.mark.U = V.U ++ [[]] := rfl
  have hC : V.mark.C = V.C := rfl
  refine ⟨by rw [hU]; simp [h.len], h.asc, fun L hL => ?_, fun i hi => ?_⟩
  · rw [hU, List.mem_append, List.mem_singleton] at hL
    rcases hL with hL | rfl
    · exact h.ok L hL
    · exact ⟨List.Pairwise.nil, fun f hf => by cases hf⟩
  · rw [hU, hC]
    have hl : i < D.length + 1 := by simpa using hi
    by_cases hq : i < D.length
    · rw [List.drop_append_of_le_length (by rw [← h.len]; omega), backC_append, backC_one]
      show backC V.C (V.U.drop i) = _
      rw [h.at_ i hq, List.getElem_append_left hq]
    · have he : i = D.length := by omega
      subst he
      have e1 : (V.U ++ [ [] ]).drop D.length = [ [] ] := by rw [h.len, List.drop_append_of_le_length (Nat.le_refl _), List.drop_length]; rfl
      have e2 : (D ++ [V.C])[D.length] = V.C := by simp
      rw [e1, e2]
      rfl
theorem MkIs.back {V : VS} {D : List (List Ch)} (h : MkIs V D) (m : Nat) (hm : m < D.length) (hD : ∀ L ∈ D, Asc Ch.n L) : (V.back m).C = D[m] ∧ MkIs (V.back m) (D.take (m + 1)) := by
  have hU : (V.back m).U = V.U.take m ++ [[]] := rfl
  have hC : (V.back m).C = D[m] := h.at_ m hm
  have hl := h.len
  refine ⟨hC, by rw [hU]; simp; omega, by rw [hC]; exact hD _ (List.getElem_mem hm), fun L hL => ?_, fun i hi => ?_⟩
  · rw [hU, List.mem_append, List.mem_singleton] at hL
    rcases hL with hL | rfl
    · exact h.ok L (List.mem_of_mem_take hL)
    · exact ⟨List.Pairwise.nil, fun f hf => by cases hf⟩
  · have hi2 : i < m + 1 ∧ i < D.length := by
      rw [List.length_take] at hi
      omega
    have ht : (V.U.take m).length = m := by rw [List.length_take]; omega
    rw [hU, hC, List.drop_append_of_le_length (by rw [ht]; omega), backC_append, backC_one]
    show backC D[m] ((V.U.take m).drop i) = _
    rw [List.getElem_take, ← h.at_ i hi2.2, ← h.at_ m hm, ← backC_append]
    congr 1
    have e : V.U.drop i = (V.U.take m ++ V.U.drop m).drop i := by rw [List.take_append_drop]
    rw [e, List.drop_append_of_le_length (by rw [ht]; omega)]
end Go.Proofs.YtbbelhkdpmcoeaaGreat
