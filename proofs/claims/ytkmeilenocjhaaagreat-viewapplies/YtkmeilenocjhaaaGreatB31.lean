import Derived.Test.YtkmeilenocjhaaaGreatB30
import Derived.Test.YtkmeilenocjhaaaGreatB01
import Derived.Test.YtkmeilenocjhaaaGreatB06
import Derived.Test.YtkmeilenocjhaaaGreatB29
/- The statements' own cuts. -/
namespace Go.Proofs.YtkmeilenocjhaaaGreat
set_option linter.unusedVariables false
set_option maxRecDepth 100000
open Go.RowKit

theorem str_take40 (v : List UInt8) : (str v).extract 0 (min ((str v).size : Int) 40).toNat = str (v.take 40) := by
  have h : (min ((str v).size : Int) 40).toNat = min v.length 40 := by rw [str_size]; omega
  rw [h]
  apply ByteArray.ext
  apply Array.ext'
  rw [ByteArray.data_extract]
  simp only [Array.toList_extract, str_list, List.extract_eq_take_drop, List.drop_zero, Nat.sub_zero]
  by_cases q : v.length ≤ 40
  · rw [Nat.min_eq_left q, List.take_length, List.take_of_length_le q]
  · rw [Nat.min_eq_right (by omega)]
/-- A value cut, as the statements cut it. -/
def cutP1 (p : Pa) : Pa := ⟨p.k, p.h, p.v.take 40⟩
def cutP (l : List Pa) : List Pa := (l.take 40).map cutP1
theorem cutP_len (l : List Pa) : (cutP l).length ≤ 40 := by simp [cutP]; omega
theorem cutP_take (l : List Pa) (k : Nat) (h : k < l.length) : (l.take (k + 1)).map cutP1 = (l.take k).map cutP1 ++ [cutP1 l[k]] := by
  rw [List.take_succ_eq_append_getElem h, List.map_append]
  rfl
theorem Pa.set_cut {w : World} {q : Nat} {c : Pa} (h : InB encP 31 w q c) : InB encP 31 (w.setCell ⟨q, 24, none⟩ (.string (str (c.v.take 40)))) q (cutP1 c) := by
  constructor
  rw [setCell_eq_setRow w q 24 _ _ _ _ h.blk, setRow_heap w q _ _ _ _ h.blk]
  have hk : (bc c.k).length = 24 := by rw [bc_length, c.h]
  congr 2
  show (pcd c).toArray.setIfInBounds 24 _ = (pcd (cutP1 c)).toArray
  simp only [pcd, List.setIfInBounds_toArray]
  rw [List.set_append_right _ _ (by omega), hk]
  rfl
set_option maxRecDepth 100000 in
set_option maxHeartbeats 4000000 in
theorem cutP_calls (w : World) (u : Value) (l : List Pa) (h : Sl encP w u l) :
    Calls Tryz.prog 8 #[u] w fun e w' => ∃ v, e = .returned v ∧ Own encP 31 w' w.heap.size v (cutP l) ∧ Below w.heap.size w w' := by
  have hl' := h
  obtain ⟨ad, cap, rfl, hcap, hmax, _, _⟩ := hl'
  have HI : Hid (∀ i (hi : i < l.length), ∃ g off, ad = some ⟨g, off, none⟩ ∧ g < w.heap.size ∧ w.rangeAt g (off + i * 25) (encP.c l[i])) := fun i hi => SlB.at h i hi
  obtain ⟨N, hN⟩ : ∃ N : Nat, N = l.length := ⟨_, rfl⟩
  rw [← hN] at hcap hmax ⊢
  have HN : Hid (N = l.length) := hN
  have HST : Hid (Below w.heap.size w w ∧ Own encP 31 w w.heap.size (.slice none 0 0) ((l.take 0).map cutP1)) := ⟨Below.refl _ _, Own.nil _ _ _ _⟩
  obtain ⟨M, hM⟩ : ∃ M : Nat, M = min N 40 := ⟨_, rfl⟩
  have HM : Hid (M = min N 40) := hM
  have hMN : M ≤ N := by omega
  have hM40 : M ≤ 40 := by omega
  clear hN h hM
  go_enter Tryz.func8, Tryz.ntmps8
  go_wp2
  go_loopg [3, 4] M (fun gg s3 i wr => ∃ k : Nat, k + gg = M ∧ i = .int .i64 (k : Int) ∧ Hid (Below w.heap.size w wr ∧ Own encP 31 wr w.heap.size s3 ((l.take k).map cutP1)))
  case atStart => exact ⟨0, by omega, rfl, HST.out⟩
  case round =>
    obtain ⟨k, hkg, rfl, HE⟩ := hrel
    clear HST
    cases gk with
    | zero =>
      have hkM : k = M := by omega
      subst hkM
      have hfin : cutP l = (l.take k).map cutP1 := by
        unfold cutP
        have h1 := HN.out
        have h2 := HM.out
        rcases Nat.le_total N 40 with q | q
        · rw [List.take_of_length_le (by omega), List.take_of_length_le (by omega)]
        · rw [show k = 40 by omega]
      have HF : Hid (cutP l = (l.take k).map cutP1) := hfin
      clear hfin
      rcases Nat.lt_or_ge k N with q | q
      · have hk40 : (k : Int) = 40 := by have := HM.out; omega
        have h1 : (k : Int) < (N : Int) := by omega
        have h2 : ¬ (k : Int) < 40 := by omega
        clear hk40
        go_wp2_with fail
        go_ret
        exact ⟨_, rfl, by rw [HF.out]; exact HE.out.2, HE.out.1⟩
      · have h1 : ¬ (k : Int) < (N : Int) := by omega
        go_wp2_with fail
        go_ret
        exact ⟨_, rfl, by rw [HF.out]; exact HE.out.2, HE.out.1⟩
    | succ gg =>
      have hlt : k < M := by omega
      have hltI : (k : Int) < (N : Int) := by omega
      have hlt40 : (k : Int) < 40 := by omega
      have hkl : k < l.length := by rw [← HN.out]; omega
      obtain ⟨g0, off, rfl, hg0, hat⟩ := HI.out k hkl
      have HR : Hid (wr.rangeAt g0 (off + k * 25) (encP.c l[k])) := range_same' hat (HE.out.1.block g0 hg0)
      have HTK : Hid ((l.take (k + 1)).map cutP1 = (l.take k).map cutP1 ++ [cutP1 l[k]]) := cutP_take l k hkl
      have hlen : ((l.take k).map cutP1).length = k := by simp; omega
      generalize l[k] = p at *
      generalize (l.take k).map cutP1 = L1 at *
      clear hat hkl
      go_upto_region 6 with (first
        | (refine load_el elP _ rfl g0 (off + k * 25) rfl rfl p HR.out ?_)
        | (refine store_el elP rfl _ _ rfl wr.heap.size rfl p rfl pa0 (InB.new encP _ wr pa0 _ rfl) ?_; intro x1 hu1 tx1 sx1))
      have BX : Below wr.heap.size wr x1 := ((Below.refl _ wr).alloc (Nat.le_refl _) _).trans (tx1.below (by simp) (Nat.le_refl _) (by simp))
      have hb1 : Below w.heap.size w x1 := HE.out.1.trans (BX.mono HE.out.1.size)
      have ho1 := HE.out.2.below BX
      have hlu := HE.out.2.lt
      have hqw := HE.out.1.size
      have cv := range_vP hu1.range
      simp only [Nat.zero_add] at cv
      have ff : x1.frozen? ⟨wr.heap.size, 24, none⟩ = false := by simp [World.frozen?, hu1.blk]
      have hu2 := Pa.set_cut hu1
      rw [← str_take40] at hu2
      have hb2 : Below w.heap.size w (x1.setCell ⟨wr.heap.size, 24, none⟩ (.string ((str p.v).extract 0 (min ((str p.v).size : Int) 40).toNat))) := hb1.setCell (by simp; omega) _
      have ho2 : Own encP 31 (x1.setCell ⟨wr.heap.size, 24, none⟩ (.string ((str p.v).extract 0 (min ((str p.v).size : Int) 40).toNat))) w.heap.size u3 L1 := ho1.same fun g hg => Below.heap_setCell _ _ _ _ (by have := (hlu g hg).2; simp; omega)
      clear HE HR tx1 sx1 BX
      generalize wr.heap.size = q at *
      go_upto_region 7 with fail
      generalize x1.setCell ⟨q, 24, none⟩ (.string ((str p.v).extract 0 (min ((str p.v).size : Int) 40).toNat)) = x2 at *
      clear cv ff hu1 hb1 ho1
      go_wp2_with (first
        | (refine load_el elP _ rfl q 0 rfl rfl (cutP1 p) hu2.range ?_)
        | (refine build_el1 rowP rfl _ rfl (cutP1 p) rfl (by decide) ?_; intro x3 ho3 b3 s3 h3
           have hb3 : Below w.heap.size w x3 := hb2.trans (b3.mono hb2.size)
           have hs3 := ho2.below b3)
        | (at_builtin; refine append_one rowP rfl _ _ rfl w.heap.size _ L1 rfl hs3 x2.heap.size (cutP1 p) rfl (0, 0) _ h3 (by omega) (by decide) (by have := hb3.size; omega) ?_
           intro g cap x4 ho4 gr4 nr4 lt4))
      go_roundg gg
      case measure => omega
      case rel => exact ⟨k + 1, by omega, congrArg (Value.int .i64) (by omega), (show Below w.heap.size w x4 ∧ Own encP 31 x4 w.heap.size _ ((l.take (k + 1)).map cutP1) from ⟨hb3.grown gr4 hb3.size (fun i hi => (hlu i hi).1), by rw [HTK.out]; rw [hlen] at ho4; exact ho4⟩)⟩
end Go.Proofs.YtkmeilenocjhaaaGreat
/- ViewBacks. -/
namespace Go.Proofs.YtkmeilenocjhaaaGreat
set_option linter.unusedVariables false
set_option maxRecDepth 100000
open Go.RowKit

section
variable {lim : Nat} {I : Nat → World → Prop} {iv : Value} {w0 y y' : World} {k q nb : Nat} {x x' : VR} {V : VS} {α : Type} {n : Nat} {E : Enc α n} {ty : TypeId} {base : Nat} {v : Value} {l : List α}
/-- A row that is not the view's stands. -/
theorem VRan.keep (t : VRan noB w0 lim I k iv q x nb V y x' y') (ho : Own E ty y base v l) (hg : ∀ g, v.ownBlock = some g → ¬ x.own q g) : Own E ty y' base v l ∧ ∀ g, v.ownBlock = some g → ¬ x'.own q g :=
  ⟨ho.same fun g e => t.fr.block g (ho.lt g e).2 (fun r => r.elim (hg g e) (fun s => s)), fun g e r => (t.own g r).elim (hg g e) (fun s => by have := (ho.lt g e).2; omega)⟩
end
/-- What ViewBacks' loop carries. -/
structure BkLp (w0 : World) (lim p : Nat) (pv : Value) (m : List Pa) (q : Nat) (C0 : List Ch) (base : Nat) (was : Value) (y : World) : Prop where
  ex : ∃ (x : VR) (V : VS), VAt w0 lim (fun _ w => PlB lim w p pv m) 9 (.iface 26 (.pointer (some ⟨p, 0, none⟩))) q x V y ∧ V.C = C0 ∧ V.U = [[]] ∧ V.R = [] ∧ x.n ≤ 200 ∧ Own encC 52 y base was (C0.map Ch.plain) ∧ ∀ g, was.ownBlock = some g → ¬ x.own q g
theorem most64 {V : VS} {C0 : List Ch} (h1 : V.C = C0) (h2 : V.U = [[]]) (h3 : V.R = []) (h4 : C0.length ≤ 30) : V.most 64 := by
  refine ⟨by rw [h1]; omega, by rw [h3]; exact Nat.zero_le _, by rw [h2]; decide, fun L hL => ?_⟩
  rw [h2, List.mem_singleton] at hL
  subst hL
  exact Nat.zero_le _
set_option maxRecDepth 100000 in
set_option maxHeartbeats 8000000 in
theorem viewBacks_walk (w : World) (u : Value) (l : List Pa) (h : Sl encP w u l) (u1 : Value) (ops : List Vo) (h1 : Sl encO w u1 ops) (u2 : Value) (more : List Vo) (h2 : Sl encO w u2 more) :
    Calls Tryz.prog 5 #[u, u1, u2] w fun e w' => e = .returned (.bool true) ∧ Below w.heap.size w w' := by
  have hsh := shown12_calls w
  have HU : Hid (Sl encP w u l ∧ Sl encO w u1 ops ∧ Sl encO w u2 more) := ⟨h, h1, h2⟩
  obtain ⟨ad1, cap1, rfl, -, -, -, -⟩ := id h1
  obtain ⟨ad2, cap2, rfl, -, -, -, -⟩ := id h2
  clear h h1 h2
  go_enter Tryz.func5, Tryz.ntmps5
  go_upto_region 2 with (go_at_call 7; refine hsh.mono ?_; clear hsh; rintro e x1 ⟨rfl, b1⟩)
  have hC := cutP_calls x1 u l (HU.out.1.called b1)
  have HB1 : Hid (Below w.heap.size w x1) := b1
  clear b1
  go_upto_region 5 with (first
    | (go_at_call 10; refine hV.mono ?_; clear hV; rintro e x4 ⟨q, x, rfl, Av, hn, -, b4⟩)
    | (go_at_call 9; refine hN.mono ?_; clear hN; rintro e x3 ⟨p, pv, m, rfl, hp, -, hml, -, b3⟩
       have hm40 : m.length ≤ 40 := Nat.le_trans hml (cutP_len l)
       have HX3 : Hid (Below w.heap.size w x3 ∧ m.length ≤ 40) := ⟨HB2.out.trans (b3.mono HB2.out.size), hm40⟩
       have hV := VAt.new (plain_base x3.heap.size p pv m (by omega)) w x3 9 (PlB.of hp) HX3.out.1.size HX3.out.1
       clear hp hml b3 hm40)
    | (go_at_call 8; refine hC.mono ?_; clear hC; rintro e x2 ⟨uv, rfl, o2, b2⟩
       have hN := newPlain_calls x2 uv (cutP l) o2.slB (by have := cutP_len l; omega)
       have HB2 : Hid (Below w.heap.size w x2) := HB1.out.trans (b2.mono HB1.out.size)
       clear b2 o2))
  have HD : Hid (Baser x3.heap.size noB (fun _ w => PlB x3.heap.size w p pv m) (.iface 26 (.pointer (some ⟨p, 0, none⟩))) (plGe m) (fun s => (scanL s m, 0))) := plain_base _ p pv m (by have := HX3.out.2; omega)
  have HA4 : Hid (VAt w x3.heap.size (fun _ w => PlB x3.heap.size w p pv m) 9 (.iface 26 (.pointer (some ⟨p, 0, none⟩))) q x vs0 x4 ∧ x.n = 0) := ⟨Av, hn⟩
  have HNB : Hid (∀ i, noB i → w.heap.size ≤ i) := fun i hi => hi.elim
  have HFL : Hid (((ops.take 30).foldl doV vs0).U = [] ∧ Asc Ch.n ((ops.take 30).foldl doV vs0).C ∧ ((ops.take 30).foldl doV vs0).R = [] ∧ ((ops.take 30).foldl doV vs0).C.length ≤ 30) := by
    obtain ⟨a, b, c, d⟩ := steps_flat (ops.take 30) vs0 rfl List.Pairwise.nil
    exact ⟨a, b, c, by have : (ops.take 30).length ≤ 30 := by simp; omega
                       have h0 : vs0.C.length = 0 := rfl
                       omega⟩
  have hDo := does_calls HD.out w x4 9 q x vs0 Av HNB.out _ ops HU.out.2.1 30 30 rfl (by decide) (by omega)
  clear Av hn b4 HX3 HB2 HB1
  generalize x3.heap.size = lim at *
  generalize (ops.take 30).foldl doV vs0 = V1 at *
  go_upto_region 6 with (go_at_call 23; refine hDo.mono ?_; clear hDo; rintro e x5 ⟨⟨rv5, rfl⟩, r5, R5⟩)
  have hn5 : r5.n ≤ 120 := by have := R5.n; have := HA4.out.2; omega
  have hMk := R5.at_.mark HD.out HNB.out (by omega)
  rw [HFL.out.1] at hMk
  simp only [List.length_nil] at hMk
  rw [show ((0 : Nat) : Int) = 0 from rfl] at hMk
  have HN5 : Hid (r5.n ≤ 120) := hn5
  clear R5 hn5 HA4
  go_upto_region 7 with (go_at_call 24; refine hMk.mono ?_; clear hMk; rintro e x6 ⟨rfl, r6, T6⟩)
  have HA6 : Hid (VAt w lim (fun _ w => PlB lim w p pv m) 9 (.iface 26 (.pointer (some ⟨p, 0, none⟩))) q r6 V1.mark x6 ∧ r6.n ≤ 124) := ⟨T6.at_, by have := T6.n; have := HN5.out; omega⟩
  have hCh := vchanges_calls x6 q _ r6 V1.mark T6.at_.vw (by have := HA6.out.2; omega)
  rw [show V1.mark.C = V1.C from rfl] at hCh
  clear T6 HN5
  go_upto_region 8 with (go_at_call 15; refine hCh.mono ?_; clear hCh; rintro e x7 ⟨ad7, cap7, rfl, o7, b7⟩)
  obtain ⟨C0, hC0⟩ : ∃ C0, C0 = V1.C := ⟨_, rfl⟩
  rw [← hC0] at o7 HFL ⊢
  have HL : Hid (BkLp w lim p pv m q C0 x6.heap.size (.slice ad7 C0.length cap7) x7) := by
    have A := HA6.out.1.called HD.out b7
    refine ⟨r6, V1.mark, A, hC0.symm, by show V1.U ++ [[]] = [[]]; rw [HFL.out.1]; rfl, HFL.out.2.2.1, by have := HA6.out.2; omega, o7, fun g hg r => ?_⟩
    have := (o7.lt g hg).1
    have := HA6.out.1.vw.lt r
    omega
  have HCC : Hid (Asc Ch.n C0 ∧ C0.length ≤ 30) := ⟨HFL.out.2.1, HFL.out.2.2.2⟩
  have HM2 : Hid (Sl encO w (.slice ad2 more.length cap2) more) := HU.out.2.2
  clear HA6 b7 o7 HFL hC0 HU
  generalize x6.heap.size = base at *
  go_upto_region 9 with fail
  try go_frame
  go_loopg [11] 2 (fun gg i wr => ∃ j : Nat, j + gg = 2 ∧ i = .int .i64 (j : Int) ∧ Hid (BkLp w lim p pv m q C0 base (.slice ad7 C0.length cap7) wr))
  case atStart => exact ⟨0, by omega, rfl, HL.out⟩
  case round =>
    clear HL
    obtain ⟨j, hjg, rfl, HE⟩ := hrel
    obtain ⟨x, V, A, e1, e2, e3, e4, o, no⟩ := HE.out.ex
    cases gk with
    | zero =>
      have hj2 : j = 2 := by omega
      subst hj2
      have HA : Hid (VAt w lim (fun _ w => PlB lim w p pv m) 9 (.iface 26 (.pointer (some ⟨p, 0, none⟩))) q x V wr ∧ V.U = [[]]) := ⟨A, e2⟩
      have hB1 := vback_bad wr q _ x V 1 A.vw (.inr (by rw [e2]; decide))
      clear A e1 e2 e3 e4 o no HE
      go_wp2_with (first
        | (go_at_call 25; refine hB1.mono ?_; clear hB1; rintro e x8 ⟨rfl, b8⟩
           have A8 := HA.out.1.called HD.out b8
           have HA8 : Hid (Below w.heap.size w x8) := A8.bel
           have hB2 := vback_bad x8 q _ x V (-1) A8.vw (.inl (by decide))
           clear A8 b8)
        | (go_at_call 25; refine hB2.mono ?_; clear hB2; rintro e x9 ⟨rfl, b9⟩))
      go_ret
      exact ⟨rfl, HA8.out.trans (b9.mono HA8.out.size)⟩
    | succ gg =>
      have hj2 : (j : Int) < 2 := by omega
      have HE4 : Hid (x.n ≤ 200) := e4
      have HBI : Hid (BkInv C0 ((more.take 30).foldl doV V) 60) := (BkInv.steps (more.take 30) (BkInv.start e1 e2 e3 HCC.out.1 HCC.out.2)).mono (by
        have h30 : (more.take 30).length ≤ 30 := by rw [List.length_take]; exact Nat.min_le_left _ _
        omega)
      have hDo := does_calls HD.out w wr 9 q x V A HNB.out _ more HM2.out 30 30 rfl (by decide) (by omega)
      have HO : Hid (Own encC 52 wr base (.slice ad7 C0.length cap7) (C0.map Ch.plain) ∧ ∀ g, Value.ownBlock (.slice ad7 C0.length cap7) = some g → ¬ x.own q g) := ⟨o, no⟩
      generalize (more.take 30).foldl doV V = V2 at *
      clear A e1 e2 e3 e4 o no HE
      go_upto_region 12 with (go_at_call 23; refine hDo.mono ?_; clear hDo; rintro e y1 ⟨⟨rv1, rfl⟩, r1, R1⟩)
      have hK1 := R1.keep HO.out.1 HO.out.2
      have hn1 : r1.n ≤ 1000 := by have := R1.n; have := HE4.out; omega
      have hbk := HBI.out.back HCC.out.1
      have hBa := R1.at_.backR HD.out hn1 0 0 rfl (by rw [hbk.2.2.2.2]; decide) hbk.2.2.2.1 64 (most64 hbk.1 hbk.2.1 hbk.2.2.1 HCC.out.2)
      have HK1 : Hid (Own encC 52 y1 base (.slice ad7 C0.length cap7) (C0.map Ch.plain) ∧ ∀ g, Value.ownBlock (.slice ad7 C0.length cap7) = some g → ¬ r1.own q g) := hK1
      have HV3 : Hid ((V2.back 0).C = C0 ∧ (V2.back 0).U = [[]] ∧ (V2.back 0).R = []) := ⟨hbk.1, hbk.2.1, hbk.2.2.1⟩
      generalize V2.back 0 = V3 at *
      clear R1 hK1 hn1 hbk HBI HO
      go_upto_region 13 with (go_at_call 25; refine hBa.mono ?_; clear hBa; rintro e y2 ⟨rfl, r2, R2⟩)
      have hK2 := R2.keep HK1.out.1 HK1.out.2
      have hCh := vchanges_calls y2 q _ r2 V3 R2.at_.vw (by have := R2.n; omega)
      rw [HV3.out.1] at hCh
      have HR2 : Hid (VAt w lim (fun _ w => PlB lim w p pv m) 9 (.iface 26 (.pointer (some ⟨p, 0, none⟩))) q r2 V3 y2 ∧ r2.n ≤ 64) := ⟨R2.at_, R2.n⟩
      have HK2 : Hid (Own encC 52 y2 base (.slice ad7 C0.length cap7) (C0.map Ch.plain) ∧ ∀ g, Value.ownBlock (.slice ad7 C0.length cap7) = some g → ¬ r2.own q g) := hK2
      clear R2 hK2 HK1
      go_wp2_with (first
        | (go_at_call 17; refine hSm.mono ?_; clear hSm; rintro e y4 ⟨rfl, b4⟩)
        | (go_at_call 15; refine hCh.mono ?_; clear hCh; rintro e y3 ⟨ad3, cap3, rfl, o3, b3⟩
           have hSm := sameC_calls y3 _ _ _ _ o3.slB ((HK2.out.1.below b3).slB) (by rw [List.length_map]; have := HCC.out.2; omega)
           rw [show decide (C0.map Ch.plain = C0.map Ch.plain) = true from decide_eq_true rfl] at hSm
           have HB3 : Hid (Below y2.heap.size y2 y3) := b3
           clear o3 b3))
      go_roundg gg
      case measure => omega
      case rel =>
        have bb : Below y2.heap.size y2 y4 := HB3.out.trans (b4.mono HB3.out.size)
        exact ⟨j + 1, by omega, congrArg (Value.int .i64) (by omega), (show BkLp _ _ _ _ _ _ _ _ _ _ from ⟨r2, V3, HR2.out.1.called HD.out bb, HV3.out.1, HV3.out.2.1, HV3.out.2.2, by have := HR2.out.2; omega, HK2.out.1.below bb, HK2.out.2⟩)⟩
end Go.Proofs.YtkmeilenocjhaaaGreat
/- ViewBacks answers true at every list of pairs and every two lists of steps and turns nothing that was there: back to the mark is as it was. No condition. -/
namespace Go.Proofs.YtkmeilenocjhaaaGreat
set_option linter.unusedVariables false
set_option maxRecDepth 100000
open Go.ChangeShapes Go.WideShapes Go.ChangeAt Go.RowKit
open Go.ChangeMaps (open_string shut_string)

set_option maxRecDepth 100000 in
theorem viewBacks_lifted (os : Os) (started : os.Started) (H : Type) (enc : TypeId × Value → H) :
    ReturnsInHanded {} Tryz.checked os 5 .any (Rows.viewBacksSpec.pre6 enc Tryz.prog Tryz.f5 Rows.viewBacksRow.domain false) (Rows.viewBacksSpec.post enc Tryz.prog Tryz.f5 false true false false) := by
  refine returnsInHanded_of_change (C := Tryz.checked) Tryz.own started (by kernel_rfl) Tryz.func5
    (ChangeSpec.witness6 (enc := enc) (C := Tryz.checked) false ⟨#[], #[.slice none 0 0, .slice none 0 0, .slice none 0 0], []⟩ 8 (by kernel_rfl) (by kernel_rfl) (by kernel_rfl) (by kernel_rfl)) ?_
  intro W base args ds gs before hval0 hW hcnd _
  have hval : ∀ (j : Nat) t v, Tryz.f5.params[j]? = some t → args[j]? = some v → Value.okWide Tryz.prog W .any base t v := hval0
  have hW' := hW
  obtain ⟨p, q, hA0, hV, rfl, hfz, hnd⟩ := hW
  have hA : DataW.TrodAll enc Tryz.prog W 0 (fun _ => true) true Tryz.f5.params.toList args.toList ds p := hA0
  rw [Tryz.params5] at hA hval
  obtain ⟨v0, vs0, d0, ds0, p0, q0, hargs, rfl, rfl, h0, r0⟩ := trodAll_cons hA
  obtain ⟨v1, vs1, d1, ds1, p1, q1, rfl, rfl, rfl, h1, r1⟩ := trodAll_cons r0
  obtain ⟨v2, vs2, d2, ds2, p2, q2, rfl, rfl, rfl, h2, r2⟩ := trodAll_cons r1
  obtain ⟨rfl, rfl, rfl⟩ := trodAll_nil r2
  obtain rfl : args = #[v0, v1, v2] := by cases args; simp_all
  obtain ⟨rfl, rfl⟩ := trodVars_none hV
  obtain ⟨a0, len0, cap0, rfl⟩ := okWide_slice Tryz.underlying22 (hval 0 22 v0 rfl rfl)
  have k0 := h0
  have lt0 : ∀ x ∈ p0, x.block < W.heap.size := by obtain ⟨m, hm⟩ := k0; exact DataW.trod_lt m _ _ _ hm
  obtain ⟨z0, w0⟩ := open_pairs h0
  obtain ⟨a1, len1, cap1, rfl⟩ := okWide_slice Tryz.underlying23 (hval 1 23 v1 rfl rfl)
  have k1 := h1
  have lt1 : ∀ x ∈ p1, x.block < W.heap.size := by obtain ⟨m, hm⟩ := k1; exact DataW.trod_lt m _ _ _ hm
  obtain ⟨z1, w1⟩ := open_vops h1
  obtain ⟨a2, len2, cap2, rfl⟩ := okWide_slice Tryz.underlying23 (hval 2 23 v2 rfl rfl)
  have k2 := h2
  have lt2 : ∀ x ∈ p2, x.block < W.heap.size := by obtain ⟨m, hm⟩ := k2; exact DataW.trod_lt m _ _ _ hm
  obtain ⟨z2, w2⟩ := open_vops h2
  clear hA0 hval0
  refine (viewBacks_walk W (.slice a0 len0 cap0) z0 w0 (.slice a1 len1 cap1) z1 w1 (.slice a2 len2 cap2) z2 w2).mono fun e W' ⟨he, bel⟩ => ?_
  subst he
  exact ⟨_, rfl, _, _, _, [], _, [], hW', trodAll_mk1 (shut_bool Tryz.underlying4 _), (trodAll_cons_mk (Below.trod Tryz.laidOut (by kernel_rfl) (of_decide_eq_true (by kernel_rfl)) k0 bel lt0) (trodAll_cons_mk (Below.trod Tryz.laidOut (by kernel_rfl) (of_decide_eq_true (by kernel_rfl)) k1 bel lt1) (trodAll_cons_mk (Below.trod Tryz.laidOut (by kernel_rfl) (of_decide_eq_true (by kernel_rfl)) k2 bel lt2) trodAll_mk0))), rfl, bel.frame _, fun h => by cases h⟩

set_option maxRecDepth 100000 in
/-- The statement. -/
theorem viewBacks_holds : Rows.ViewBacksSaid :=
  OpenClaim.holds_of_wide 5 Tryz.f5 rfl rfl rfl rfl rfl rfl rfl ⟨rfl, rfl, rfl, rfl, rfl⟩ rfl rfl rfl rfl rfl (by kernel_rfl) Tryz.func5 (by kernel_rfl)
    (of_decide_eq_true (by kernel_rfl)) (by unfold Func.isWrapper; first | (rw [if_pos (by decide +kernel)]; kernel_rfl) | (rw [if_neg (by decide +kernel)]; exact ⟨rfl, rfl⟩))
    (fun os started H enc _ => viewBacks_lifted os started H enc)
end Go.Proofs.YtkmeilenocjhaaaGreat
/- Two views side by side, a view over a view: a base of pairs that is held block by block; a view as a base; what a view over a view tells (mathematics). -/
namespace Go.Proofs.YtkmeilenocjhaaaGreat
set_option linter.unusedVariables false
set_option maxRecDepth 100000
open Go.RowKit

set_option maxHeartbeats 1000000 in
/-- NewPlain, with its row its own. -/
theorem newPlainO_calls (w : World) (u : Value) (l : List Pa) (h : Sl encP w u l) (hl : l.length ≤ 10000) :
    Calls Tryz.prog 9 #[u] w fun e w' => ∃ p v m, e = .returned (.pointer (some ⟨p, 0, none⟩)) ∧ w'.heap[p]? = some (.cells #[v] 70 (0, 0)) ∧ Own encP 31 w' w.heap.size v m ∧ MapIs l m ∧ m.length ≤ l.length ∧ w.heap.size ≤ p ∧ Below w.heap.size w w' := by
  have hM := map_calls w u l h hl
  clear h
  go_enter Tryz.func9, Tryz.ntmps9
  go_wp2_with (first
    | (go_at_call 28; refine hM.mono ?_; clear hM; rintro e w1 ⟨v, m, rfl, h1, i1, l1, b1⟩
       have s1 := h1.slB
       obtain ⟨ad, cap, rfl, hcap, hmax, -, -⟩ := id s1))
  go_ret
  have BX : Below w1.heap.size w1 (w1.alloc (.cells #[.slice ad m.length cap] 70)) := (Below.refl _ w1).alloc (Nat.le_refl _) _
  exact ⟨_, _, m, rfl, heap_alloc_new _ _, h1.below BX, i1, l1, b1.size, b1.trans (BX.mono b1.size)⟩
/-- A base of pairs, block by block. -/
structure PlC (lim : Nat) (w : World) (p : Nat) (v : Value) (L : List Pa) (base : Nat) : Prop where
  blk : w.heap[p]? = some (.cells #[v] 70 (0, 0))
  own : Own encP 31 w base v L
  asc : Asc Pa.n L
  lo : p < lim
  lov : ∀ g, v.ownBlock = some g → g < lim
  le : lim ≤ w.heap.size
theorem PlC.kept {lim : Nat} {w w' : World} {p : Nat} {v : Value} {L : List Pa} {base : Nat} (h : PlC lim w p v L base) (hs : w.heap.size ≤ w'.heap.size) (hk : ∀ i, i = p ∨ v.ownBlock = some i → w'.heap[i]? = w.heap[i]?) : PlC lim w' p v L base :=
  ⟨(hk p (.inl rfl)).trans h.blk, h.own.same fun g hg => hk g (.inr hg), h.asc, h.lo, h.lov, Nat.le_trans h.le hs⟩
theorem PlC.mono {lim : Nat} {w w' : World} {p : Nat} {v : Value} {L : List Pa} {base : Nat} (h : PlC lim w p v L base) (b : Below lim w w') : PlC lim w' p v L base :=
  h.kept b.size fun i hi => b.block i (hi.elim (fun e => e ▸ h.lo) (h.lov i))
theorem PlC.inn {lim : Nat} {w : World} {p : Nat} {v : Value} {L : List Pa} {base : Nat} (h : PlC lim w p v L base) : PlIn w p v L := ⟨h.blk, h.own.slB, h.asc⟩
theorem PlC.of {w : World} {p : Nat} {v : Value} {L : List Pa} {base : Nat} (h1 : w.heap[p]? = some (.cells #[v] 70 (0, 0))) (h2 : Own encP 31 w base v L) (h3 : Asc Pa.n L) : PlC w.heap.size w p v L base :=
  ⟨h1, h2, h3, lt_of_block h1, fun g hg => (h2.lt g hg).2, Nat.le_refl _⟩
theorem plainC_base (lim p : Nat) (v : Value) (L : List Pa) (base : Nat) (hl : L.length ≤ 5000) : Baser lim noB (fun _ w => PlC lim w p v L base) (.iface 26 (.pointer (some ⟨p, 0, none⟩))) (plGe L) (fun s => (scanL s L, 0)) where
  get := ⟨151, _, plain_methG p, fun k w K h => (pget_calls w p v L K h.inn (by omega)).mono fun e w' q => ⟨by rw [plGe_v]; exact q.1, h.mono (q.2.mono h.le), frv_no q.2⟩⟩
  scan := ⟨152, _, plain_methS p, fun k w s h => (pscan_calls w p v L s h.inn (by omega)).mono fun e w' q => by
    obtain ⟨u, e1, o1, b1⟩ := q
    exact ⟨u, e1, o1.slB, h.mono (b1.mono h.le), frv_no b1⟩⟩
  mono := fun k w w' h b => h.mono b
  down := fun k w h => h
  low := fun i h => h.elim
  size := fun k w h => h.le
  len := fun s => Nat.le_trans (scanL_len s L) hl
  ifc := ⟨_, _, rfl⟩

/-! A view as a base. -/
theorem view_methG (p : Nat) : Meth (.iface 32 (.pointer (some ⟨p, 0, none⟩))) "Get" 26 (.pointer (some ⟨p, 0, none⟩)) := fun w args => by
  exact meth_of (P := Tryz.prog) (fun w => by kernel_rfl) (fun args w => callFunc_go Tryz.func26 (by kernel_rfl) (by rfl) args w) w args
theorem view_methS (p : Nat) : Meth (.iface 32 (.pointer (some ⟨p, 0, none⟩))) "Scan" 18 (.pointer (some ⟨p, 0, none⟩)) := fun w args => by
  exact meth_of (P := Tryz.prog) (fun w => by kernel_rfl) (fun args w => callFunc_go Tryz.func18 (by kernel_rfl) (by rfl) args w) w args
section
variable {lim : Nat} {S : Nat → Prop} {I : Nat → World → Prop} {iv : Value} {ge : Kz → List UInt8 × Bool × Int} {sn : Sp → List Pa × Int}
/-- A view that may be asked K times, and has been asked some: what was read has grown. -/
def ViI (w0 : World) (lim : Nat) (I : Nat → World → Prop) (iv : Value) (q : Nat) (x : VR) (V : VS) (K lim' k : Nat) (w : World) : Prop :=
  k ≤ K ∧ lim' ≤ w.heap.size ∧ ∃ R, VAt w0 lim I k iv q { x with n := x.n + (K - k) } { V with R := R } w
theorem getW_R (V : VS) (R : List Sp) (J : Kz) : ∃ R', getW { V with R := R } J = { V with R := R' } := by
  unfold getW
  split
  · exact ⟨R, rfl⟩
  · exact ⟨_, rfl⟩
theorem view_base (D : Baser lim S I iv ge sn) (w0 : World) (q : Nat) (x : VR) (V : VS) (K lim' : Nat) (hK : x.n + K ≤ 5000) (hS : ∀ i, S i → w0.heap.size ≤ i) (hl : lim ≤ lim') (hx : ∀ i, x.own q i → i < lim') (hlen : ∀ s, (scanV V.C sn s).1.length ≤ 5000) :
    Baser lim' (fun i => x.own q i ∨ S i) (ViI w0 lim I iv q x V K lim') (.iface 32 (.pointer (some ⟨q, 0, none⟩))) (getV V.C ge) (scanV V.C sn) where
  get := ⟨26, _, view_methG q, fun k w J h => by
    obtain ⟨hk, hle, R, A⟩ := h
    refine (VAt.get D A hS (show x.n + (K - (k + 1)) ≤ 100000 by omega) J).mono fun e w' t => ?_
    obtain ⟨e1, t⟩ := t
    obtain ⟨R', hR'⟩ := getW_R V R J
    have ha := t.at_
    rw [hR'] at ha
    have en : x.n + (K - (k + 1)) + 1 = x.n + (K - k) := by omega
    have ha' : VAt w0 lim I k iv q { x with n := x.n + (K - (k + 1)) + 1 } { V with R := R' } w' := ha
    rw [en] at ha'
    exact ⟨e1, ⟨by omega, Nat.le_trans hle t.fr.size, R', ha'⟩, t.fr⟩⟩
  scan := ⟨18, _, view_methS q, fun k w s h => by
    obtain ⟨hk, hle, R, A⟩ := h
    refine (VAt.scan D A hS (show x.n + (K - (k + 1)) ≤ 5000 by omega) s).mono fun e w' t => ?_
    obtain ⟨ad, cap, e1, o1, t⟩ := t
    have ha := t.at_
    have en : x.n + (K - (k + 1)) + 1 = x.n + (K - k) := by omega
    have ha' : VAt w0 lim I k iv q { x with n := x.n + (K - (k + 1)) + 1 } { V with R := R ++ [s] } w' := ha
    rw [en] at ha'
    exact ⟨_, e1, o1.slB, ⟨by omega, Nat.le_trans hle t.fr.size, _, ha'⟩, t.fr⟩⟩
  mono := fun k w w' h b => by
    obtain ⟨hk, hle, R, A⟩ := h
    exact ⟨hk, Nat.le_trans hle b.size, R, A.vw.kept (fun i hi => b.block i (hx i hi)), D.mono _ _ _ A.base (b.mono hl), A.own, A.bel.trans (b.mono (Nat.le_trans A.le hl)), A.le, Nat.le_trans A.limy b.size⟩
  down := fun k w h => by
    obtain ⟨hk, hle, R, A⟩ := h
    exact ⟨by omega, hle, R, A.vw.up (x.n + (K - k)) (show x.n + (K - (k + 1)) ≤ x.n + (K - k) by omega), D.down _ _ A.base, A.own, A.bel, A.le, A.limy⟩
  low := fun i h => h.elim (hx i) (fun e => Nat.lt_of_lt_of_le (D.low i e) hl)
  size := fun k w h => h.2.1
  len := hlen
  ifc := ⟨_, _, rfl⟩
theorem ViI.start {w0 : World} {q : Nat} {x : VR} {V : VS} {K lim' : Nat} {w : World} (h : VAt w0 lim I K iv q x V w) (hl : lim' ≤ w.heap.size) : ViI w0 lim I iv q x V K lim' K w := by
  refine ⟨Nat.le_refl _, hl, V.R, ?_⟩
  rw [Nat.sub_self]
  exact h
/-- A view beside what was changed. -/
theorem VAt.aside {w0 y y' : World} {k q : Nat} {x : VR} {V : VS} {T : Nat → Prop} (h : VAt w0 lim I k iv q x V y) (f : FrV T y y') (hT : ∀ i, T i → w0.heap.size ≤ i ∧ ¬ x.own q i) (hI : I k y') : VAt w0 lim I k iv q x V y' :=
  ⟨h.vw.kept (fun i hi => f.block i (h.vw.lt hi) (fun e => (hT i e).2 hi)), hI, h.own, h.bel.trans (f.below (fun i e => (hT i e).1) (Nat.le_trans h.le h.limy)), h.le, Nat.le_trans h.limy f.size⟩
theorem ViI.aside {w0 y y' : World} {K lim' k q : Nat} {x : VR} {V : VS} {T : Nat → Prop} (h : ViI w0 lim I iv q x V K lim' k y) (f : FrV T y y') (hT : ∀ i, T i → w0.heap.size ≤ i ∧ ¬ x.own q i) (hI : I k y → I k y') : ViI w0 lim I iv q x V K lim' k y' := by
  obtain ⟨hk, hle, R, A⟩ := h
  exact ⟨hk, Nat.le_trans hle f.size, R, A.aside f hT (hI A.base)⟩
end

/-! What a view over a view tells. -/
/-- C3 is C1 with C2 over it. -/
structure OverIs (C1 C2 C3 : List Ch) : Prop where
  a1 : Asc Ch.n C1
  a2 : Asc Ch.n C2
  a3 : Asc Ch.n C3
  is : ∀ x, look Ch.n C3 x = (look Ch.n C2 x).or (look Ch.n C1 x)
theorem OverIs.start {C : List Ch} (h : Asc Ch.n C) : OverIs C [] C := ⟨h, List.Pairwise.nil, h, fun _ => rfl⟩
theorem OverIs.change {C1 C2 C3 : List Ch} (h : OverIs C1 C2 C3) (c : Ch) : OverIs C1 (putA Ch.n C2 c) (putA Ch.n C3 c) :=
  ⟨h.a1, putA_asc Ch.n c h.a2, putA_asc Ch.n c h.a3, fun x => by
    rw [putA_look Ch.n c x h.a2, putA_look Ch.n c x h.a3, h.is x]
    split <;> rfl⟩
theorem OverIs.doV {C1 : List Ch} {V2 V3 : VS} (h : OverIs C1 V2.C V3.C) (o : Vo) : OverIs C1 (doV V2 o).C (doV V3 o).C := by
  unfold Go.Proofs.YtkmeilenocjhaaaGreat.doV
  split
  · split
    · exact h.change _
    · exact h
  · exact h.change _
theorem OverIs.steps {C1 : List Ch} (ops : List Vo) {V2 V3 : VS} (h : OverIs C1 V2.C V3.C) : OverIs C1 (ops.foldl Go.Proofs.YtkmeilenocjhaaaGreat.doV V2).C (ops.foldl Go.Proofs.YtkmeilenocjhaaaGreat.doV V3).C := by
  induction ops generalizing V2 V3 with
  | nil => exact h
  | cons o r ih => exact ih (h.doV o)
theorem scan_over {C1 C2 C3 : List Ch} (h : OverIs C1 C2 C3) (m : List Pa) (s : Sp) : scanV C2 (scanV C1 (fun s => (scanL s m, 0))) s = scanV C3 (fun s => (scanL s m, 0)) s := by
  have e1 : scanV C1 (fun s => (scanL s m, 0)) s = (applyL (scanL s m) (inL C1 s), 0) := rfl
  have e3 : scanV C3 (fun s => (scanL s m, 0)) s = (applyL (scanL s m) (inL C3 s), 0) := rfl
  have e2 : scanV C2 (scanV C1 (fun s => (scanL s m, 0))) s = (applyL (scanV C1 (fun s => (scanL s m, 0)) s).1 (inL C2 s), 0) := rfl
  rw [e2, e3, e1]
  refine congrArg (·, (0 : Int)) (asc_ext Pa.n (applyL_is _ _).1 (applyL_is _ _).1 fun x => ?_)
  rw [(applyL_is _ _).2, (applyL_is _ _).2, (applyL_is _ _).last, lastA_asc Ch.n (inL_asc h.a2 s), lastA_asc Ch.n (inL_asc h.a3 s), lastA_asc Ch.n (inL_asc h.a1 s), look_filter, look_filter, look_filter, h.is x]
  by_cases hb : s.inb x = true
  · rw [if_pos hb, if_pos hb, if_pos hb]
    cases look Ch.n C2 x <;> rfl
  · rw [if_neg hb, if_neg hb, if_neg hb]
    rfl
theorem applyL_len (l : List Pa) (c : List Ch) : (applyL l c).length ≤ l.length + c.length := by
  have h1 : ∀ (l m : List Pa), (l.foldl (putA Pa.n) m).length ≤ m.length + l.length := by
    intro l
    induction l with
    | nil => intro m; exact Nat.le_refl _
    | cons a r ih =>
      intro m
      rw [List.foldl_cons, List.length_cons]
      have := ih (putA Pa.n m a)
      have := putA_len Pa.n m a
      omega
  have h2 : ∀ (c : List Ch) (m : List Pa), (c.foldl stepA m).length ≤ m.length + c.length := by
    intro c
    induction c with
    | nil => intro m; exact Nat.le_refl _
    | cons a r ih =>
      intro m
      rw [List.foldl_cons, List.length_cons]
      have := ih (stepA m a)
      have : (stepA m a).length ≤ m.length + 1 := by
        unfold stepA
        split
        · have := delA_len Pa.n m a.n
          omega
        · exact putA_len Pa.n m a.pa
      omega
  have := h2 c (l.foldl (putA Pa.n) [])
  have := h1 l []
  simp only [List.length_nil] at this
  unfold applyL
  omega
theorem scanV_len (C : List Ch) (m : List Pa) (hm : m.length ≤ 100) (hC : C.length ≤ 100) (s : Sp) : (scanV C (fun s => (scanL s m, 0)) s).1.length ≤ 5000 := by
  have e1 : scanV C (fun s => (scanL s m, 0)) s = (applyL (scanL s m) (inL C s), 0) := rfl
  rw [e1]
  have := applyL_len (scanL s m) (inL C s)
  have := scanL_len s m
  have : (inL C s).length ≤ C.length := List.length_filter_le _ _
  show (applyL (scanL s m) (inL C s)).length ≤ 5000
  omega
end Go.Proofs.YtkmeilenocjhaaaGreat
