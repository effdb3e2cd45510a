import Derived.Test.YtkmeilenocjhaaaGreatSi
import Derived.Test.YtkmeilenocjhaaaGreatB27
import Derived.Test.YtkmeilenocjhaaaGreatB28
import Derived.Test.YtkmeilenocjhaaaGreatB06
/- Changes of a view; steps as plain data; the statements' does. -/
namespace Go.Proofs.YtkmeilenocjhaaaGreat
set_option linter.unusedVariables false
set_option maxRecDepth 100000
open Go.RowKit

theorem plains_look {C : List Ch} (x : Int) : look Ch.n (C.map Ch.plain) x = (look Ch.n C x).map Ch.plain := by
  induction C with
  | nil => rfl
  | cons a r ih =>
    simp only [List.map_cons, look]
    rw [Ch.plain_n, ih]
    by_cases e : a.n = x <;> simp [e]
theorem plains_asc {C : List Ch} (h : Asc Ch.n C) : Asc Ch.n (C.map Ch.plain) := by
  unfold Asc at h ⊢
  rw [List.pairwise_map]
  exact h.imp fun {a b} q => by rw [Ch.plain_n, Ch.plain_n]; exact q
theorem vals_join {n : Nat} {C ss d : List Ch} (hC : Asc Ch.n C) (hs : ValL n C ss) (hd : JoinIs ss d) : d = C.map Ch.plain := by
  refine asc_ext Ch.n hd.1 (plains_asc hC) fun x => ?_
  rw [hd.2, plains_look]
  by_cases hx : ∃ K : Kz, K.n = x
  · obtain ⟨K, rfl⟩ := hx
    rw [hs.2 K]
  · have e1 : look Ch.n C x = none := (look_none Ch.n).2 fun c hc e => hx ⟨c.kz, e⟩
    have e2 : lastA Ch.n ss x = none := by
      cases q : lastA Ch.n ss x with
      | none => rfl
      | some y => exact absurd (lastA_key Ch.n q).2 (fun e => hx ⟨y.kz, e⟩)
    rw [e1, e2]
set_option maxHeartbeats 4000000 in
theorem vchanges_calls (w : World) (p : Nat) (iv : Value) (x : VR) (V : VS) (h : VwIn w p iv x V) (hn : x.n ≤ 5000) :
    Calls Tryz.prog 15 #[.pointer (some ⟨p, 0, none⟩)] w fun e w' => ∃ ad cap, e = .returned (.slice ad V.C.length cap) ∧ Own encC 52 w' w.heap.size (.slice ad V.C.length cap) (V.C.map Ch.plain) ∧ Below w.heap.size w w' := by
  have hcl := h.cell.2.1
  have HC : Hid (MapA encC Ch.n w x.c x.n V.C) := h.mapC
  have hK := keysW_calls (some x.c) w
  have HN : Hid (x.n ≤ 5000) := hn
  generalize V.C = C at *
  clear h hn
  go_enter Tryz.func15, Tryz.ntmps15
  go_wp2_with (first
    | (go_at_call 39; refine hJ.mono ?_; clear hJ; rintro e w4 ⟨v4, d, rfl, o4, i4, l4, b4⟩
       obtain ⟨ad4, cap4, rfl, -, -, -, -⟩ := id o4.slB)
    | (refine build_one1 rfl _ rfl v2 rfl ss o2.slB ?_; intro w3 hs3 b3
       have hJ := join_calls w3 _ [(v2, ss)] hs3 (show 1 ≤ 1000 by omega) (by simp; have := HS2.out.1; have := HN.out; omega)
       have HB3 : Hid (Below w.heap.size w w3) := (b1.trans (b2.mono b1.size)).trans (b3.mono (Nat.le_trans b1.size b2.size))
       clear hs3 b3 b1 b2)
    | (go_at_call 40; refine hC.mono ?_; clear hC; rintro e w2 ⟨v2, ss, rfl, hs2, o2, b2⟩
       have HS2 : Hid (ValL x.n C ss) := hs2
       clear hs2)
    | (go_at_call 41; refine hK.mono ?_; clear hK; rintro e w1 ⟨rfl, hw1⟩
       have b1 : Below w.heap.size w w1 := by rw [hw1]; exact (Below.refl _ w).alloc (Nat.le_refl _) _
       have hm1 : w1.cell? ⟨w.heap.size, 0, none⟩ = some (.map (some x.c)) := by rw [hw1, cell_of_row _ _ _ _ _ _ (heap_alloc_new _ _)]; rfl
       have hlt : w.heap.size < w1.heap.size := by rw [hw1]; simp
       have hG := keysW_gives 0 w.heap.size x.c x.n C w1 hlt hm1 (HC.out.below b1 (Nat.le_refl _))
       have hC := collect_inW 1 66 _ (enters_of Tryz.func66 (by kernel_rfl) rfl) _ x.n (by have := HN.out; omega) w1 hG (Nat.le_refl _)
       clear hG hm1 hlt hw1))
  go_ret
  have e1 : ([(v2, ss)] : List (Value × List Ch)).flatMap (·.2) = ss := by simp
  rw [e1] at i4
  have hd := vals_join HC.out.asc HS2.out i4
  have hl : d.length = C.length := by rw [hd, List.length_map]
  rw [hl] at o4 ⊢
  rw [hd] at o4
  exact ⟨_, _, rfl, o4.lower HB3.out.size, HB3.out.trans (b4.mono HB3.out.size)⟩

/-! Steps. -/
/-- A step. -/
structure Vo where
  kind : Int
  num : Int
  k : List UInt8
  h : k.length = 24
  s : List UInt8
  sp : Sp
def Vo.kz (o : Vo) : Kz := ⟨o.k, o.h⟩
def ocd (o : Vo) : List Value := [.int .i64 o.kind, .int .i64 o.num] ++ bc o.k ++ [.string (str o.s)] ++ sc o.sp.F o.sp.T o.sp.e
theorem ocd_len (o : Vo) : (ocd o).length = 76 := by simp [ocd, sc, bc_length, o.h, o.sp.hF, o.sp.hT]
def encO : Enc Vo 76 := ⟨ocd, ocd_len, fun o v hv => by
  simp only [ocd, sc, List.mem_append, List.mem_cons, List.not_mem_nil, or_false] at hv
  rcases hv with ((hv | hv) | hv) | ((hv | hv) | hv)
  · rcases hv with rfl | rfl <;> rfl
  · exact bc_one _ v hv
  · subst hv; rfl
  · exact bc_one _ v hv
  · exact bc_one _ v hv
  · subst hv; rfl⟩
section
variable {w : World} {g off : Nat} {o : Vo}
theorem range_oKind (h : w.rangeAt g off (encO.c o)) : w.cell? ⟨g, off, none⟩ = some (.int .i64 o.kind) := by
  have := h 0 (.int .i64 o.kind) rfl
  simpa using this
theorem range_oNum (h : w.rangeAt g off (encO.c o)) : w.cell? ⟨g, off + 1, none⟩ = some (.int .i64 o.num) := h 1 (.int .i64 o.num) rfl
theorem ocd_at (o : Vo) (j : Nat) (hj : j < 24) : (ocd o)[2 + j]? = (bc o.k)[j]? := by
  have hk : (bc o.k).length = 24 := by rw [bc_length, o.h]
  unfold ocd
  rw [List.append_assoc, List.append_assoc, List.getElem?_append_right (by simp), List.getElem?_append_left (by rw [hk]; simp; omega)]
  simp
theorem range_oKey (h : w.rangeAt g off (encO.c o)) : w.rangeAt g (off + 2) (bc o.k) := fun j v hv => by
  have hj : j < 24 := by have := (List.getElem?_eq_some_iff.1 hv).1; rw [bc_length, o.h] at this; exact this
  have := h (2 + j) v (by show (ocd o)[2 + j]? = _; rw [ocd_at o j hj]; exact hv)
  rwa [← Nat.add_assoc] at this
theorem range_oStr (h : w.rangeAt g off (encO.c o)) : w.cell? ⟨g, off + 26, none⟩ = some (.string (str o.s)) := h 26 (.string (str o.s)) (by
  show (ocd o)[26]? = _
  have hk : (bc o.k).length = 24 := by rw [bc_length, o.h]
  unfold ocd
  rw [List.append_assoc, List.getElem?_append_right (by simp [hk]), List.getElem?_append_left (by simp [hk])]
  simp [hk])
theorem range_oSp (h : w.rangeAt g off (encO.c o)) : w.rangeAt g (off + 27) (sc o.sp.F o.sp.T o.sp.e) := fun j v hv => by
  have := h (27 + j) v (by
    show (ocd o)[27 + j]? = _
    have hk : (bc o.k).length = 24 := by rw [bc_length, o.h]
    have hl : ([Value.int .i64 o.kind, .int .i64 o.num] ++ bc o.k ++ [Value.string (str o.s)]).length = 27 := by simp [hk]
    unfold ocd
    rw [List.getElem?_append_right (by rw [hl]; omega), hl, Nat.add_sub_cancel_left]
    exact hv)
  rwa [← Nat.add_assoc] at this
end
theorem str_take50 (v : List UInt8) : (str v).extract 0 (min ((str v).size : Int) 50).toNat = str (v.take 50) := by
  have h : (min ((str v).size : Int) 50).toNat = min v.length 50 := by rw [str_size]; omega
  rw [h]
  apply ByteArray.ext
  apply Array.ext'
  rw [ByteArray.data_extract]
  simp only [Array.toList_extract, str_list, List.extract_eq_take_drop, List.drop_zero, Nat.sub_zero]
  by_cases q : v.length ≤ 50
  · rw [Nat.min_eq_left q, List.take_length, List.take_of_length_le q]
  · rw [Nat.min_eq_right (by omega)]
/-- The change that a put makes. -/
def Vo.ch (o : Vo) : Ch := ⟨o.k, o.h, o.s.take 50, false⟩
/-- A step of puts and deletes. -/
def doV (V : VS) (o : Vo) : VS := if o.kind = 1 then (if okV (o.s.take 50) = true then V.change o.ch else V) else V.change (goneC o.kz)
/-- What several calls leave. -/
structure VRan (S : Nat → Prop) (w0 : World) (lim : Nat) (I : Nat → World → Prop) (k : Nat) (iv : Value) (q : Nat) (x : VR) (nb : Nat) (V : VS) (y : World) (x' : VR) (y' : World) : Prop where
  at_ : VAt w0 lim I k iv q x' V y'
  fr : FrV (fun i => x.own q i ∨ S i) y y'
  own : ∀ i, x'.own q i → x.own q i ∨ y.heap.size ≤ i
  n : x'.n ≤ nb
section
variable {lim : Nat} {S : Nat → Prop} {I : Nat → World → Prop} {iv : Value} {ge : Kz → List UInt8 × Bool × Int} {sn : Sp → List Pa × Int} {w0 y y' y'' : World} {k k' k'' q nb nb' : Nat} {x x' x'' : VR} {V V' : VS}
theorem VAt.ran (h : VAt w0 lim I k iv q x V y) (hn : x.n ≤ nb) : VRan S w0 lim I k iv q x nb V y x y := ⟨h, FrV.refl _ _, fun i hi => .inl hi, hn⟩
theorem VTo.ran (t : VTo S w0 lim I k iv q x V y x' y') (hn : x.n + 4 ≤ nb) : VRan S w0 lim I k iv q x nb V y x' y' := ⟨t.at_, t.fr, t.own, Nat.le_trans t.n hn⟩
theorem VRan.trans (a : VRan S w0 lim I k iv q x nb V y x' y') (b : VRan S w0 lim I k' iv q x' nb' V' y' x'' y'') : VRan S w0 lim I k' iv q x nb' V' y x'' y'' :=
  ⟨b.at_, a.fr.trans b.fr (fun i e => e.elim (fun q => (a.own i q).imp .inl id) (fun q => .inl (.inr q))), fun i hi => (b.own i hi).elim (a.own i) (fun q => .inr (Nat.le_trans a.fr.size q)), b.n⟩
theorem VRan.called (D : Baser lim S I iv ge sn) (a : VRan S w0 lim I k iv q x nb V y x' y') (b : Below y'.heap.size y' y'') : VRan S w0 lim I k iv q x nb V y x' y'' :=
  ⟨a.at_.called D b, a.fr.trans (FrV.of_below (S := fun i => x.own q i ∨ S i) b) (fun i e => .inl e), a.own, a.n⟩
end
theorem okV_bad {v : List UInt8} (h : okV v = false) : okV v = false := h
/-- What a round of does holds. -/
structure DoAt (w0 y0 : World) (S : Nat → Prop) (lim : Nat) (I : Nat → World → Prop) (k : Nat) (iv : Value) (q : Nat) (x : VR) (nb : Nat) (V : VS) (x' : VR) (g off : Nat) (o : Vo) (y : World) : Prop where
  ran : VRan S w0 lim I k iv q x nb V y0 x' y
  rg : y.rangeAt g off (encO.c o)
set_option maxRecDepth 100000 in
set_option maxHeartbeats 8000000 in
theorem does_calls {lim : Nat} {S : Nat → Prop} {I : Nat → World → Prop} {iv : Value} {ge : Kz → List UInt8 × Bool × Int} {sn : Sp → List Pa × Int} (D : Baser lim S I iv ge sn) (w0 y : World) (k q : Nat) (x : VR) (V : VS) (h : VAt w0 lim I k iv q x V y) (hS : ∀ i, S i → w0.heap.size ≤ i) (u : Value) (ops : List Vo) (hO : Sl encO w0 u ops) (M : Nat) (MI : Int) (hMI : MI = (M : Int)) (hM : M ≤ 100) (hn : x.n ≤ 10000) :
    Calls Tryz.prog 23 #[.pointer (some ⟨q, 0, none⟩), u, .int .i64 MI] y fun e y' => (∃ rv, e = .returned rv) ∧ ∃ x', VRan S w0 lim I k iv q x (x.n + 4 * M) ((ops.take M).foldl doV V) y x' y' := by
  obtain ⟨ad, cap, rfl, hcap, hmax, _, _⟩ := id hO
  have HI : Hid (∀ i (hi : i < ops.length), ∃ g off, ad = some ⟨g, off, none⟩ ∧ g < w0.heap.size ∧ w0.rangeAt g (off + i * 76) (encO.c ops[i])) := fun i hi => SlB.at hO i hi
  obtain ⟨N, hN⟩ : ∃ N : Nat, N = ops.length := ⟨_, rfl⟩
  rw [← hN] at hcap hmax ⊢
  have HN : Hid (N = ops.length) := hN
  obtain ⟨T, hT⟩ : ∃ T : Nat, T = min N M := ⟨_, rfl⟩
  have HT : Hid (T = min N M ∧ M ≤ 100 ∧ x.n ≤ 10000) := ⟨hT, hM, hn⟩
  have hTN : T ≤ N := by omega
  have hTM : (T : Int) ≤ MI := by omega
  have HMI : Hid (MI = (M : Int)) := hMI
  have HST : Hid (VRan S w0 lim I k iv q x (x.n + 4 * 0) ((ops.take 0).foldl doV V) y x y) := h.ran (Nat.le_refl _)
  have HS : Hid (∀ i, S i → w0.heap.size ≤ i) := hS
  have HD : Hid (Baser lim S I iv ge sn) := D
  clear hN h hO hT hM hn hMI hS D
  go_enter Tryz.func23, Tryz.ntmps23
  go_wp2
  go_loopg [6] T (fun gg i wr => ∃ (j : Nat) (x' : VR), j + gg = T ∧ i = .int .i64 (j : Int) ∧ Hid (VRan S w0 lim I k iv q x (x.n + 4 * j) ((ops.take j).foldl doV V) y x' wr))
  case atStart => exact ⟨0, x, by omega, rfl, HST.out⟩
  case round =>
    clear HST
    obtain ⟨j, x', hjg, rfl, HE⟩ := hrel
    cases gk with
    | zero =>
      have hjT : j = T := by omega
      have HF : Hid ((ops.take j).foldl doV V = (ops.take M).foldl doV V ∧ j ≤ M) := by
        have h1 := HT.out.1
        have h2 := HN.out
        refine ⟨?_, by omega⟩
        congr 1
        rw [hjT, h1, h2]
        by_cases q : ops.length ≤ M
        · rw [Nat.min_eq_left q, List.take_length, List.take_of_length_le q]
        · rw [Nat.min_eq_right (by omega)]
      by_cases hjN : j < N
      · have hjI : (j : Int) < (N : Int) := by omega
        have hjM : ¬ (j : Int) < MI := by have := HMI.out; have := HT.out.1; omega
        go_wp2_with fail
        go_end0
        refine ⟨⟨_, rfl⟩, x', ?_⟩
        have E := HE.out
        rw [HF.out.1] at E
        exact ⟨E.at_, E.fr, E.own, Nat.le_trans E.n (by have := HF.out.2; omega)⟩
      · have hjI : ¬ (j : Int) < (N : Int) := by omega
        go_wp2_with fail
        go_end0
        refine ⟨⟨_, rfl⟩, x', ?_⟩
        have E := HE.out
        rw [HF.out.1] at E
        exact ⟨E.at_, E.fr, E.own, Nat.le_trans E.n (by have := HF.out.2; omega)⟩
    | succ gg =>
      have hjI : (j : Int) < (N : Int) := by omega
      have hjM : (j : Int) < MI := by omega
      have hj0 : (0 : Int) ≤ (j : Int) := by omega
      have hjb : (j : Int) ≤ 100 := by have := HT.out; omega
      have hjl : j < ops.length := by have := HN.out; omega
      have HJ : Hid (j + 1 ≤ M) := (show _ ≤ _ by have := HMI.out; omega)
      obtain ⟨g, off, rfl, hg, hat⟩ := HI.out j hjl
      have hr : wr.rangeAt g (off + j * 76) (encO.c ops[j]) := range_same' hat (HE.out.at_.bel.block g hg)
      have HTK : Hid ((ops.take (j + 1)).foldl doV V = doV ((ops.take j).foldl doV V) ops[j]) := (show _ = _ by rw [List.take_succ_eq_append_getElem hjl, List.foldl_append]; rfl)
      generalize (ops.take j).foldl doV V = Vj at *
      generalize ops[j] = o at *
      have hkind := range_oKind hr
      have HXN : Hid (x'.n ≤ 11000) := (show _ ≤ _ by have := HE.out.n; have := HT.out; have := HJ.out; omega)
      have HDO : Hid (doV Vj o = if o.kind = 1 then (if okV (o.s.take 50) = true then Vj.change o.ch else Vj) else Vj.change (goneC o.kz)) := rfl
      have HR : Hid (DoAt w0 y S lim I k iv q x (x.n + 4 * j) Vj x' g (off + j * 76) o wr) := ⟨HE.out, hr⟩
      clear hjl HI HE
      by_cases hk1 : o.kind = 1
      · have HDO1 : Hid (doV Vj o = if okV (o.s.take 50) = true then Vj.change o.ch else Vj) := (show _ = _ by rw [HDO.out, if_pos hk1])
        rw [hk1] at hkind
        have HKL : Hid ((bc o.k).length = 24) := (show _ = _ by rw [bc_length, o.h])
        have HCK : Hid ((Tryz.prog.info? 29).map (·.size) = some 24) := Tryz.key_info
        have HCS : Hid (∀ yy : World, yy.rangeAt g (off + j * 76) (encO.c o) → yy.cell? ⟨g, off + j * 76 + 26, none⟩ = some (.string (str o.s))) := fun yy hh => range_oStr hh
        have HAT : Hid (∀ yy : World, Below w0.heap.size w0 yy → yy.rangeAt g (off + j * 76) (encO.c o)) := fun yy hb => range_same' hat (hb.block g hg)
        clear HDO hk1 hr hat hg
        have hcut := str_take50 o.s
        have hm0 : (0 : Int) ≤ min ((str o.s).size : Int) 50 := by omega
        have hm1 : min ((str o.s).size : Int) 50 ≤ ((str o.s).size : Int) := by omega
        go_upto_region 4 with fail
        have HRD : Hid (DoAt w0 y S lim I k iv q x (x.n + 4 * j) Vj x' g (off + j * 76) o wr.drew) := ⟨HR.out.ran.called HD.out ⟨rfl, rfl, rfl, Nat.le_refl _, fun _ _ => rfl⟩, HR.out.rg⟩
        refine wp_region_noPanic ?_
        refine wp_region_held_drew (S := (fun yy => yy.rangeAt g (off + j * 76) (encO.c o))) (by kernel_rfl) (HRD.out.rg) (fun hHeld => ?_)
        refine wpAnyH_take (i := 0) (v := ?_) rfl (by kernel_rfl) (by kernel_rfl) (by kernel_rfl) (fun _ _ _ h => h) (Or.inl ⟨by rfl, ?_⟩) hHeld ?_
        case refine_2 => (intro w hSw; (try dsimp only at hSw); go_simp; try (with_reducible rfl))
        (try simp only [gs])
        refine wpAnyH_take (i := 1) (v := ?_) rfl (by kernel_rfl) (by kernel_rfl) (by kernel_rfl) (fun _ _ _ h => h) (Or.inl ⟨by rfl, ?_⟩) hHeld ?_
        case refine_2 => (intro w hSw; (try dsimp only at hSw); go_simp; try (with_reducible rfl))
        (try simp only [gs])
        refine wpAnyH_take (i := 2) (v := ?_) rfl (by kernel_rfl) (by kernel_rfl) (by kernel_rfl) (fun _ _ _ h => h) (Or.inl ⟨by rfl, ?_⟩) hHeld ?_
        case refine_2 => (intro w hSw; (try dsimp only at hSw); go_simp; try (with_reducible rfl))
        (try simp only [gs])
        refine wpAnyH_take (i := 3) (v := ?_) rfl (by kernel_rfl) (by kernel_rfl) (by kernel_rfl) (fun _ _ _ h => h) (Or.inl ⟨by rfl, ?_⟩) hHeld ?_
        case refine_2 => (intro w hSw; (try dsimp only at hSw); go_simp; try (with_reducible rfl))
        (try simp only [gs])
        refine wpAnyH_take (i := 4) (v := ?_) rfl (by kernel_rfl) (by kernel_rfl) (by kernel_rfl) (fun _ _ _ h => h) (Or.inl ⟨by rfl, ?_⟩) hHeld ?_
        case refine_2 => (intro w hSw; (try dsimp only at hSw); go_simp; try (with_reducible rfl))
        (try simp only [gs])
        refine wpAnyH_take (i := 5) rfl (by kernel_rfl) (by kernel_rfl) (by kernel_rfl) (fun _ _ _ h => h) (yieldsIf_load_mid (by rfl) _ _ rfl _ _ rfl _ _ (fun y h => range_oKey h) Tryz.underlying29 rfl (by rw [HKL.out]; exact HCK.out)) hHeld ?_
        (try simp only [gs])
        refine wpAnyH_take (i := 6) (v := ?_) rfl (by kernel_rfl) (by kernel_rfl) (by kernel_rfl) (fun _ _ _ h => h) (Or.inl ⟨by rfl, ?_⟩) hHeld ?_
        case refine_2 => (intro w hSw; (try dsimp only at hSw); go_simp; try (with_reducible rfl))
        (try simp only [gs])
        refine wpAnyH_take (i := 7) (v := ?_) rfl (by kernel_rfl) (by kernel_rfl) (by kernel_rfl) (fun _ _ _ h => h) (Or.inl ⟨by rfl, ?_⟩) hHeld ?_
        case refine_2 => (intro w hSw; (try dsimp only at hSw); go_simp; try (with_reducible rfl))
        (try simp only [gs])
        refine wpAnyH_take (i := 8) (v := ?_) rfl (by kernel_rfl) (by kernel_rfl) (by kernel_rfl) (fun _ _ _ h => h) (Or.inl ⟨by rfl, ?_⟩) hHeld ?_
        case refine_2 => (intro w hSw; (try dsimp only at hSw); go_simp; try (with_reducible rfl))
        (try simp only [gs])
        refine wpAnyH_take (i := 9) (v := ?_) rfl (by kernel_rfl) (by kernel_rfl) (by kernel_rfl) (fun _ _ _ h => h) (Or.inl ⟨by rfl, ?_⟩) hHeld ?_
        case refine_2 => (intro w hSw; (try dsimp only at hSw); go_simp; try (with_reducible rfl))
        (try simp only [gs])
        refine wpAnyH_take (i := 10) (v := ?_) rfl (by kernel_rfl) (by kernel_rfl) (by kernel_rfl) (fun _ _ _ h => h) (Or.inl ⟨by rfl, ?_⟩) hHeld ?_
        case refine_2 => (intro w hSw; (try dsimp only at hSw); have hc := HCS.out _ hSw; go_simp; try (with_reducible rfl))
        (try simp only [gs])
        refine wpAnyH_take (i := 11) (v := ?_) rfl (by kernel_rfl) (by kernel_rfl) (by kernel_rfl) (fun _ _ _ h => h) (Or.inl ⟨by rfl, ?_⟩) hHeld ?_
        case refine_2 => (intro w hSw; (try dsimp only at hSw); go_simp; try (with_reducible rfl))
        (try simp only [gs])
        refine wpAnyH_take (i := 12) (v := ?_) rfl (by kernel_rfl) (by kernel_rfl) (by kernel_rfl) (fun _ _ _ h => h) (Or.inl ⟨by rfl, ?_⟩) hHeld ?_
        case refine_2 => (intro w hSw; (try dsimp only at hSw); go_simp; try (with_reducible rfl))
        (try simp only [gs])
        refine wpAnyH_take (i := 13) (v := ?_) rfl (by kernel_rfl) (by kernel_rfl) (by kernel_rfl) (fun _ _ _ h => h) (Or.inl ⟨by rfl, ?_⟩) hHeld ?_
        case refine_2 => (intro w hSw; (try dsimp only at hSw); go_simp; try (with_reducible rfl))
        (try simp only [gs])
        refine wpAnyH_take (i := 14) (v := ?_) rfl (by kernel_rfl) (by kernel_rfl) (by kernel_rfl) (fun _ _ _ h => h) (Or.inl ⟨by rfl, ?_⟩) hHeld ?_
        case refine_2 => (intro w hSw; (try dsimp only at hSw); go_simp; try (with_reducible rfl))
        (try simp only [gs])
        refine wpAnyH_take (i := 15) (v := ?_) rfl (by kernel_rfl) (by kernel_rfl) (by kernel_rfl) (fun _ _ _ h => h) (Or.inl ⟨by rfl, ?_⟩) hHeld ?_
        case refine_2 => (intro w hSw; (try dsimp only at hSw); have hc := HCS.out _ hSw; go_simp; try (with_reducible rfl))
        (try simp only [gs])
        refine wpAnyH_take (i := 16) (v := ?_) rfl (by kernel_rfl) (by kernel_rfl) (by kernel_rfl) (fun _ _ _ h => h) (Or.inl ⟨by rfl, ?_⟩) hHeld ?_
        case refine_2 => (intro w hSw; (try dsimp only at hSw); go_simp; try (with_reducible rfl))
        (try simp only [gs])
        refine wpAnyH_take (i := 17) (v := ?_) rfl (by kernel_rfl) (by kernel_rfl) (by kernel_rfl) (fun _ _ _ h => h) (Or.inl ⟨by rfl, ?_⟩) hHeld ?_
        case refine_2 => (intro w hSw; (try dsimp only at hSw); go_simp; try (with_reducible rfl))
        (try simp only [gs])
        refine wpAnyH_take (i := 18) (v := ?_) rfl (by kernel_rfl) (by kernel_rfl) (by kernel_rfl) (fun _ _ _ h => h) (Or.inl ⟨by rfl, ?_⟩) hHeld ?_
        case refine_2 => (intro w hSw; (try dsimp only at hSw); go_simp; try (with_reducible rfl))
        (try simp only [gs])
        generalize wr.drew = y1 at *
        cases hov : okV (o.s.take 50) with
        | true =>
          have hPu := HRD.out.ran.at_.put HD.out HS.out (by have := HXN.out; omega) o.ch rfl hov
          have HDV : Hid (doV Vj o = (Vj.change o.ch)) := (show _ = _ by rw [HDO1.out, hov]; rfl)
          clear hov
          refine wpAnyH_ready (rs := [19]) (by kernel_rfl) (by simp) (AllReadyH.cons rfl (fun K0 hK => ?_) AllReadyH.nil)
          rw [if_pos (by rfl)]
          (try simp only [gs])
          go_simp
          refine hPu.mono ?_
          clear hPu
          rintro e y2 ⟨rfl, x9, T9⟩
          have HR9 : Hid (VRan S w0 lim I k iv q x (x.n + 4 * (j + 1)) (Vj.change o.ch) y x9 y2) := HRD.out.ran.trans (T9.ran (by have := HRD.out.ran.n; omega))
          refine hK.out _ _ (HAT.out y2 HR9.out.at_.bel) (fun g1 => ?_)
          clear hK K0
          (try simp only [gs])
          refine wpAnyH_done (by kernel_rfl) ?_ _
          refine NoPanic.normal ?_
          clear g1 hHeld T9
          go_wp2_with fail
          go_roundg gg
          case measure => omega
          case rel =>
            have R9 := HR9.out
            rw [← HDV.out, ← HTK.out] at R9
            exact ⟨j + 1, x9, by omega, congrArg (Value.int .i64) (by omega), R9⟩
        | false =>
          have hPu := vput_bad y1 q o.kz (o.s.take 50) hov
          have HDV : Hid (doV Vj o = Vj) := (show _ = _ by rw [HDO1.out, hov]; rfl)
          clear hov
          refine wpAnyH_ready (rs := [19]) (by kernel_rfl) (by simp) (AllReadyH.cons rfl (fun K0 hK => ?_) AllReadyH.nil)
          rw [if_pos (by rfl)]
          (try simp only [gs])
          go_simp
          refine hPu.mono ?_
          clear hPu
          rintro e y2 ⟨rfl, T9⟩
          have HR9 : Hid (VRan S w0 lim I k iv q x (x.n + 4 * (j + 1)) Vj y x' y2) := (fun (a : VRan S w0 lim I k iv q x (x.n + 4 * j) Vj y x' y2) => ⟨a.at_, a.fr, a.own, Nat.le_trans a.n (by omega)⟩) (HRD.out.ran.called HD.out T9)
          refine hK.out _ _ (HAT.out y2 HR9.out.at_.bel) (fun g1 => ?_)
          clear hK K0
          (try simp only [gs])
          refine wpAnyH_done (by kernel_rfl) ?_ _
          refine NoPanic.normal ?_
          clear g1 hHeld T9
          go_wp2_with fail
          go_roundg gg
          case measure => omega
          case rel =>
            have R9 := HR9.out
            rw [← HDV.out, ← HTK.out] at R9
            exact ⟨j + 1, x', by omega, congrArg (Value.int .i64) (by omega), R9⟩
      · have HDO2 : Hid (doV Vj o = Vj.change (goneC o.kz)) := (show _ = _ by rw [HDO.out, if_neg hk1])
        have hkk := range_oKey hr
        have hDe := HR.out.ran.at_.delete HD.out HS.out (by have := HXN.out; omega) o.kz
        have hkn : (o.kind == 1) = false := by simpa using hk1
        clear HDO hk1 hr hat hg
        go_wp2_with (first
          | (refine load_part _ rfl g (off + j * 76 + 2) rfl rfl _ o.h hkk ?_)
          | (go_at_call 22; refine hDe.mono ?_; clear hDe; rintro e w9 ⟨rfl, x9, T9⟩))
        go_roundg gg
        case measure => omega
        case rel =>
          have R9 := HR.out.ran.trans (T9.ran (nb := x.n + 4 * (j + 1)) (by have := HR.out.ran.n; omega))
          rw [← HDO2.out, ← HTK.out] at R9
          exact ⟨j + 1, x9, by omega, congrArg (Value.int .i64) (by omega), R9⟩
end Go.Proofs.YtkmeilenocjhaaaGreat
/- Steps of stage 12 that came in. -/
namespace Go.Proofs.YtkmeilenocjhaaaGreat
set_option linter.unusedVariables false
set_option maxRecDepth 100000
open Go.ChangeShapes Go.WideShapes Go.ChangeAt Go.RowKit

theorem trod_span {H : Type} {enc : TypeId × Value → H} {W : World} {base : Nat} {held : Bool} {fuel : Nat} {z : DataW H × List MemPlace} {cs : List Value} (hf : DataW.trod enc Tryz.prog W base (fun _ => true) held fuel 44 cs = some z) : ∃ p : Sp, cs = sc p.F p.T p.e := by
  obtain ⟨xs, n', _, _, _, hlen, hf'⟩ := DataW.trod_struct Tryz.underlying44 hf
  match xs, hlen with
  | [y0, y1, y2], _ =>
    have k24 : Tryz.prog.cellsOf 29 = 24 := by kernel_rfl
    have k1 : Tryz.prog.cellsOf 4 = 1 := by kernel_rfl
    have k49 : Tryz.prog.cellsOf 44 = 49 := by kernel_rfl
    have f0 := hf' 0 _ rfl
    have f1 := hf' 1 _ rfl
    have f2 := hf' 2 _ rfl
    simp at f0 f1 f2
    rw [k24] at f0 f1
    rw [k1] at f2
    obtain ⟨F, lF, eF⟩ := trod_key f0
    obtain ⟨T, lT, eT⟩ := trod_key f1
    obtain ⟨e, ee, _⟩ := DataW.trod_bool Tryz.underlying4 f2
    refine ⟨⟨F, T, e, lF, lT⟩, ?_⟩
    show cs = bc F ++ bc T ++ [.bool e]
    rw [← eF, ← eT, ← ee, List.take_of_length_le (l := cs.drop 48) (by simp; omega), List.append_assoc]
    have : cs.drop 48 = (cs.drop 24).drop 24 := by rw [List.drop_drop]
    rw [this, List.take_append_drop, List.take_append_drop]
theorem open_vops {H : Type} {enc : TypeId × Value → H} {W : World} {base : Nat} {held : Bool} {a : Option Addr} {len cap : Nat} {d : DataW H} {p : List MemPlace}
    (h : DataW.Trod enc Tryz.prog W base (fun _ => true) held 23 (.slice a len cap) d p) : ∃ l : List Vo, Sl encO W (.slice a len cap) l := by
  refine open_els encO 23 46 Tryz.underlying23 (by kernel_rfl) (by decide) (fun fuel z cs hf hl => ?_) h
  obtain ⟨xs, n', _, _, _, hlen, hf'⟩ := DataW.trod_struct Tryz.underlying46 hf
  match xs, hlen with
  | [y0, y1, y2, y3, y4], _ =>
    have ki : Tryz.prog.cellsOf 3 = 1 := by kernel_rfl
    have k24 : Tryz.prog.cellsOf 29 = 24 := by kernel_rfl
    have k1 : Tryz.prog.cellsOf 9 = 1 := by kernel_rfl
    have k49 : Tryz.prog.cellsOf 44 = 49 := by kernel_rfl
    have f0 := hf' 0 _ rfl
    have f1 := hf' 1 _ rfl
    have f2 := hf' 2 _ rfl
    have f3 := hf' 3 _ rfl
    have f4 := hf' 4 _ rfl
    simp at f0 f1 f2 f3 f4
    rw [ki] at f0 f1
    rw [k24] at f2
    rw [k1] at f3
    rw [k49] at f4
    obtain ⟨kd, e0, _, _⟩ := DataW.trod_int Tryz.underlying3 f0
    obtain ⟨nn, e1, _, _⟩ := DataW.trod_int Tryz.underlying3 f1
    obtain ⟨K, lK, e2⟩ := trod_key f2
    obtain ⟨s, e3, _, _⟩ := DataW.trod_string Tryz.underlying9 f3
    obtain ⟨P, e4⟩ := trod_span f4
    refine ⟨⟨kd, nn, K, lK, s.data.toList, P⟩, ?_⟩
    show cs = [.int .i64 kd, .int .i64 nn] ++ bc K ++ [.string (str s.data.toList)] ++ sc P.F P.T P.e
    rw [str_data2, ← e2, ← e3, ← e4, List.take_of_length_le (l := cs.drop 27) (by simp; omega)]
    have d27 : cs.drop 27 = (cs.drop 26).drop 1 := by rw [List.drop_drop]
    have d26 : cs.drop 26 = (cs.drop 2).drop 24 := by rw [List.drop_drop]
    have d2 : cs.drop 2 = (cs.drop 1).drop 1 := by rw [List.drop_drop]
    rw [List.append_assoc, List.append_assoc, d27, List.take_append_drop, d26, List.take_append_drop]
    show cs = .int .i64 kd :: ([.int .i64 nn] ++ cs.drop 2)
    rw [← e1, d2, ← List.drop_one, List.take_append_drop]
    show cs = [.int .i64 kd] ++ cs.drop 1
    rw [← e0, List.take_append_drop]
end Go.Proofs.YtkmeilenocjhaaaGreat
