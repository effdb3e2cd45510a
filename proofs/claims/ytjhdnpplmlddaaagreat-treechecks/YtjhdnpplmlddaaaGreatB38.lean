import Derived.Test.YtjhdnpplmlddaaaGreatSi
import Derived.Test.YtjhdnpplmlddaaaGreatB37
/- open of package tree. -/
namespace Go.Proofs.YtjhdnpplmlddaaaGreat
set_option linter.unusedVariables false
open Go.RowKit

/-- Other kids in a piece. -/
theorem set_ks {w : World} {q : Nat} {x : Pv} (h : InB encPv 85 w q x) (s : Option Addr × Nat × Nat) : InB encPv 85 (w.setCell ⟨q, 26, none⟩ (slv s)) q ⟨x.k, x.h, x.b, x.ps, s⟩ := by
  constructor
  rw [setCell_eq_setRow w q 26 _ _ _ _ h.blk, setRow_heap w q _ _ _ _ h.blk]
  have hk : (bc x.k).length = 24 := by rw [bc_length, x.h]
  congr 2
  show (pvc x).toArray.setIfInBounds 26 _ = (pvc ⟨x.k, x.h, x.b, x.ps, s⟩).toArray
  simp only [pvc, List.setIfInBounds_toArray]
  rw [List.set_append_right _ _ (by omega), hk]
  rfl
def kidV (k : Kd) : Pv := if h : k.k.length = 24 then stayV k.k h k.n else pv0
theorem kidV_eq {k : Kd} (h : k.k.length = 24) : kidV k = stayV k.k h k.n := by rw [kidV, dif_pos h]
/-- What a round of open's loop holds: the piece, the kid. -/
structure OpS (w y : World) (q10 : Nat) (yc : Pv) (q12 : Nat) (kd : Kd) : Prop where
  p : InB encPv 85 y q10 yc
  k : HasK y q12 kd.el
  ne : q12 ≠ q10
  bel : Below w.heap.size w y
  ge : w.heap.size ≤ q10
theorem OpS.called {w y z : World} {q10 : Nat} {yc : Pv} {q12 : Nat} {kd : Kd} (h : OpS w y q10 yc q12 kd) (b : Below y.heap.size y z) : OpS w z q10 yc q12 kd :=
  ⟨h.p.below b h.p.lt, h.k.below b h.k.lt, h.ne, h.bel.trans (b.mono h.bel.size), h.ge⟩
theorem OpS.c26 {w y : World} {q10 : Nat} {yc : Pv} {q12 : Nat} {kd : Kd} (h : OpS w y q10 yc q12 kd) : y.cell? ⟨q10, 26, none⟩ = some (.slice yc.ks.1 yc.ks.2.1 yc.ks.2.2) := by
  have := (range_vV h.p.range).2.2
  simpa [slv] using this
theorem OpS.f26 {w y : World} {q10 : Nat} {yc : Pv} {q12 : Nat} {kd : Kd} (h : OpS w y q10 yc q12 kd) : y.frozen? ⟨q10, 26, none⟩ = false := by
  simp [World.frozen?, h.p.blk]
theorem OpS.grown {w y z : World} {q10 : Nat} {yc : Pv} {q12 : Nat} {kd : Kd} (h : OpS w y q10 yc q12 kd) {r : Option Nat} (g : y.grownBy z r) (hr : ∀ k, r = some k → q10 < k ∧ k ≠ q12 ∧ w.heap.size ≤ k) : OpS w z q10 yc q12 kd :=
  ⟨h.p.same (g.block q10 h.p.lt (fun e => by have := (hr q10 e.symm).1; omega)), h.k.same (g.block q12 h.k.lt (fun e => (hr q12 e.symm).2.1 rfl)), h.ne, h.bel.grown g h.bel.size (fun k hk => (hr k hk).2.2), h.ge⟩
theorem els_form {w : World} {sv : Value} {l : List El} (h : Els w sv l) : ∃ a c, sv = .slice a l.length c := by
  obtain ⟨r, ⟨ad, cap, e, _⟩, _⟩ := h
  exact ⟨ad, cap, e⟩
theorem ret_el_ok {α : Type} {k : Nat} {E : Enc α k} {P : Program} {ty : TypeId} (R : ElTy P E ty) {fn : Func} {A : Ending → World → Prop} {a : Act} {w : World} {p u : Tmp} (hr : fn.results = #[.cell p ty, .tmp u]) (b : Nat) (e : α) (v : Value) (hp : a.tmps.getD p undef = .pointer (some ⟨b, 0, none⟩)) (hv : a.tmps.getD u undef = v) (hK : InB E ty w b e)
    (hd : a.defers = []) (hR : A (.returned (.tuple #[.agg (E.c e).toArray, v])) w) : bodyPost P fn A .ret a w := by
  refine bodyPost_ret (v := .tuple #[.agg (E.c e).toArray, v]) ?_ hd hR
  obtain ⟨d, hu, _, hdd⟩ := R.row
  rw [results_cell_tmp hr, hp, hv]
  cases d with
  | struct fs =>
    have hl := run_loadVar_row (P := P) w b ty ty _ _ _ hK.blk hu rfl (by rw [E.size]; exact R.info)
    simp [asAddr, Result.andThen, hl]
  | array n t =>
    have hl := run_loadVar_row (P := P) w b ty ty _ _ _ hK.blk hu rfl (by rw [E.size]; exact R.info)
    simp [asAddr, Result.andThen, hl]
  | _ => cases hdd
set_option maxRecDepth 100000 in
set_option maxHeartbeats 8000000 in
theorem open_stay {R : World → Prop} {iv : Value} {g : Int → Nod × Int} (D : GetterN R iv g) (w : World) (x : Pv) (lv : Int) (X : Nod) (hb : x.b ≠ 0) (hrg : Rng x.b) (hR : R w) (hg : g x.b = (X, 0)) (hr : rightN X = true) (hlv : X.lv = lv) :
    Calls Tryz.prog 93 #[iv, .agg (encPv.c x).toArray, .int .i64 lv] w fun e w' => ∃ y, e = .returned (.tuple #[.agg (encPv.c y).toArray, .int .i64 0]) ∧ y.k = x.k ∧ y.b = 0 ∧ SlB encQ w' w'.heap.size (slv y.ps) (X.ps.map toPq) ∧ SlB encPv w' w'.heap.size (slv y.ks) (X.ks.map kidV) ∧ Below w.heap.size w w' := by
  have hread : readP g x.b lv = (X, 0) := by rw [readP, hg, if_pos rfl, if_pos ⟨hr, .inr hlv⟩]
  have hb' : (x.b == 0) = false := by simpa using hb
  have hI : InB encPv 85 ((w.alloc (.cells (encPv.c x).toArray 85)).alloc (.cells (encPv.c pv0).toArray 85)) w.heap.size x := (InB.new _ _ w x _ rfl).alloc _
  have hJ : InB encPv 85 ((w.alloc (.cells (encPv.c x).toArray 85)).alloc (.cells (encPv.c pv0).toArray 85)) (w.heap.size + 1) pv0 := InB.new _ _ _ _ _ (by simp)
  have hB : Below w.heap.size w ((w.alloc (.cells (encPv.c x).toArray 85)).alloc (.cells (encPv.c pv0).toArray 85)) := ((Below.refl _ w).alloc (Nat.le_refl _) _).alloc (by simp) _
  have HRD := readN_calls D ((w.alloc (.cells (encPv.c x).toArray 85)).alloc (.cells (encPv.c pv0).toArray 85)) x.b lv (D.mono _ _ hR hB) hrg
  rw [hread] at HRD
  have HH : Hid (InB encPv 85 ((w.alloc (.cells (encPv.c x).toArray 85)).alloc (.cells (encPv.c pv0).toArray 85)) w.heap.size x ∧ InB encPv 85 ((w.alloc (.cells (encPv.c x).toArray 85)).alloc (.cells (encPv.c pv0).toArray 85)) (w.heap.size + 1) pv0 ∧ Below w.heap.size w ((w.alloc (.cells (encPv.c x).toArray 85)).alloc (.cells (encPv.c pv0).toArray 85))) := ⟨hI, hJ, hB⟩
  have HX20 : Hid (X.ks.length ≤ 20) := (show _ ≤ _ by
    unfold rightN at hr
    split at hr
    · cases hr
    · split at hr
      · simp only [Bool.and_eq_true, decide_eq_true_eq] at hr; omega
      · simp only [okKids, Bool.and_eq_true, decide_eq_true_eq] at hr; omega)
  clear hI hJ hB hread hg hr hlv hb hrg hR
  have HXH : Hid (x.k.length = 24) := x.h
  go_enter Tryz.func93, Tryz.ntmps93
  go_upto_region 1 with fail
  change Code.wp _ _ _ _ ((w.alloc (.cells (encPv.c x).toArray 85)).alloc (.cells (encPv.c pv0).toArray 85))
  generalize (w.alloc (.cells (encPv.c x).toArray 85)).alloc (.cells (encPv.c pv0).toArray 85) = W at *
  have c24 := (range_vV HH.out.1.range).1
  rw [Nat.zero_add] at c24
  have hWs : w.heap.size + 1 < W.heap.size := HH.out.2.1.lt
  generalize hq : w.heap.size = q at *
  have HQ : Hid (w.heap.size = q) := hq
  clear hq
  go_wp2_with fail
  refine HRD.mono ?_
  rintro e w1 ⟨pv, qv, rfl, P1, b1, ⟨nl1, nl2⟩, lm1, lm2⟩
  clear HRD c24
  obtain ⟨ap, cp, rfl⟩ := els_form P1.p
  obtain ⟨aq, cq, rfl⟩ := els_form P1.q
  simp only [List.length_map] at P1 nl1 nl2 lm1 lm2 ⊢
  have HP1 : Hid (Parts w1 X (.slice ap X.ps.length cp) (.slice aq X.ks.length cq) ∧ NilOk (.slice ap X.ps.length cp) ∧ NilOk (.slice aq X.ks.length cq) ∧ Lim (NB W) (.slice ap X.ps.length cp)) := ⟨P1, nl1, nl2, lm1⟩
  have HI1 : Hid (InB encPv 85 w1 q x ∧ InB encPv 85 w1 (q + 1) pv0 ∧ Below q w w1) := ⟨HH.out.1.below b1 (by omega), HH.out.2.1.below b1 hWs, HH.out.2.2.trans (b1.mono (by omega))⟩
  have hw1s : q + 1 < w1.heap.size := by have := b1.size; omega
  have HWQ : Hid (q + 1 < W.heap.size) := hWs
  clear P1 nl1 nl2 b1 HH hWs lm1 lm2
  obtain ⟨np, hnp⟩ : ∃ np : Nat, np = X.ps.length := ⟨_, rfl⟩
  obtain ⟨M, hM⟩ : ∃ M : Nat, M = X.ks.length := ⟨_, rfl⟩
  have HM : Hid (M = X.ks.length ∧ np = X.ps.length) := ⟨hM, hnp⟩
  rw [← hnp, ← hM] at HP1 ⊢
  clear hM hnp
  go_upto_region 6 with (first
    | (refine store_node rfl _ _ rfl w1.heap.size rfl X (.slice ap np cp) (.slice aq M cq) rfl rfl rfl nilN (.slice none 0 0) (.slice none 0 0) (HasN.new w1 nilN (.slice none 0 0) (.slice none 0 0) _ rfl rfl rfl) ?_; intro x2 hu2 tx2 sx2))
  have BS := step_below (Below.refl _ w1) _ tx2
  have HI2 : Hid (InB encPv 85 x2 q x ∧ InB encPv 85 x2 (q + 1) pv0 ∧ Below q w x2 ∧ Parts x2 X (.slice ap np cp) (.slice aq M cq)) := ⟨HI1.out.1.below BS (by omega), HI1.out.2.1.below BS (by omega), HI1.out.2.2.trans (BS.mono (by omega)), HP1.out.1.below BS⟩
  obtain ⟨d0, d1, d2⟩ := hu2.cells
  have hx2s : q + 1 < x2.heap.size := by have := BS.size; omega
  have hdq : q + 1 < w1.heap.size := hw1s
  have HU2 : Hid (HasN x2 w1.heap.size X (.slice ap np cp) (.slice aq M cq)) := hu2
  have hdx : w1.heap.size < x2.heap.size := hu2.lt
  have HBS : Hid (Below w1.heap.size w1 x2) := BS
  clear hu2 tx2 sx2 BS HI1 hw1s
  generalize hdn : w1.heap.size = dn at *
  have HDN : Hid (w1.heap.size = dn) := hdn
  clear hdn
  go_upto_region 7 with (first
    | (refine load_part _ rfl q 0 rfl rfl _ HXH.out (range_kV HI2.out.1.range) ?_)
    | (refine build_leaf rfl _ _ rfl x.k HXH.out (ap, np, cp) rfl rfl ?_)
    | (refine store_el elPv rfl _ _ rfl x2.heap.size rfl ⟨x.k, HXH.out, 0, (ap, np, cp), nil3⟩ rfl pv0 (InB.new encPv _ x2 pv0 _ rfl) ?_; intro x3 hu3 tx3 sx3))
  have BX : Below x2.heap.size x2 x3 := ((Below.refl _ x2).alloc (Nat.le_refl _) _).trans (tx3.below (by simp) (Nat.le_refl _) (by simp))
  have HI3 : Hid (InB encPv 85 x3 (q + 1) pv0 ∧ Below q w x3 ∧ Parts x3 X (.slice ap np cp) (.slice aq M cq) ∧ InB encPv 85 x3 x2.heap.size ⟨x.k, HXH.out, 0, (ap, np, cp), nil3⟩) := ⟨HI2.out.2.1.below BX (by omega), HI2.out.2.2.1.trans (BX.mono (by omega)), HI2.out.2.2.2.below BX, hu3⟩
  have e2 : x3.cell? ⟨dn, 2, none⟩ = some (.slice aq M cq) := (HU2.out.below BX hdx).cells.2.2
  have hx3s : x2.heap.size < x3.heap.size := hu3.lt
  have HB13 : Hid (Below dn w1 x3) := HBS.out.trans (BX.mono (by omega))
  clear hu3 tx3 sx3 BX HI2 d0 d1 d2 HU2 HBS
  generalize x2.heap.size = q10 at *
  have HKS : Hid (∀ i (hi : i < X.ks.length), ∃ gk off, aq = some ⟨gk, off, none⟩ ∧ gk < dn ∧ x3.rangeAt gk (off + i * 25) (ec (Kd.el X.ks[i])) ∧ (Kd.el X.ks[i]).Ok) := (by
    intro i hi
    have h1 := HP1.out.1.q
    rw [HM.out.1] at h1
    obtain ⟨gk, off, r1, r2, r3, r4⟩ := els_get h1 i hi
    rw [HDN.out] at r2
    exact ⟨gk, off, r1, r2, range_same r3 (HB13.out.block gk r2), r4⟩)
  have HPS : Hid (SlB encQ x3 dn (.slice ap np cp) (X.ps.map toPq)) := (by
    have h1 := HP1.out.1.p
    have h2 := els_slB h1 HP1.out.2.1
    rw [HDN.out] at h2
    exact h2.kept HB13.out.block (Nat.le_refl _))
  have hM20 : M ≤ 20 := by rw [HM.out.1]; exact HX20.out
  go_wp2_with fail
  go_loopg [37] M (fun gg v37 wr => ∃ i : Nat, i + gg = M ∧ v37 = .int .i64 (i : Int) ∧ Hid (∃ s, InB encPv 85 wr q10 ⟨x.k, HXH.out, 0, (ap, np, cp), s⟩ ∧ Own encPv 85 wr (q10 + 1) (slv s) ((X.ks.take i).map kidV) ∧ Below q10 x3 wr))
  case atStart => exact ⟨0, by omega, rfl, nil3, HI3.out.2.2.2, Own.nil _ _ _ _, Below.refl _ _⟩
  case round =>
    obtain ⟨i, hig, rfl, HS0⟩ := hrel
    clear e2
    cases gk with
    | zero =>
      have hiM : i = M := by omega
      have hiI : ¬ (i : Int) < (M : Int) := by omega
      have HFI : Hid (X.ks.take i = X.ks) := List.take_of_length_le (by rw [hiM, HM.out.1]; exact Nat.le_refl _)
      obtain ⟨s, s1, s2, s3⟩ := HS0.out
      have HE : Hid (InB encPv 85 wr q10 ⟨x.k, HXH.out, 0, (ap, np, cp), s⟩ ∧ Own encPv 85 wr (q10 + 1) (slv s) ((X.ks.take i).map kidV) ∧ Below q10 x3 wr ∧ InB encPv 85 wr (q + 1) pv0) := ⟨s1, s2, s3, HI3.out.1.below s3 (by omega)⟩
      clear s1 s2 s3 HS0
      go_wp2_with (first
        | (refine load_el elPv _ rfl q10 0 rfl rfl ⟨x.k, HXH.out, 0, (ap, np, cp), s⟩ HE.out.1.range ?_)
        | (refine store_el elPv rfl _ _ rfl (q + 1) rfl ⟨x.k, HXH.out, 0, (ap, np, cp), s⟩ rfl pv0 HE.out.2.2.2 ?_; intro x5 hu5 tx5 sx5))
      refine ret_el_ok elPv rfl (q + 1) ⟨x.k, HXH.out, 0, (ap, np, cp), s⟩ (.int .i64 0) rfl rfl hu5 rfl ?_
      have hB5 : Below q wr x5 := tx5.below (by have := HE.out.2.2.1.size; omega) (by omega) (by simp)
      have hkeep : ∀ k, k ≠ q + 1 → k < wr.heap.size → x5.heap[k]? = wr.heap[k]? := fun k h1 h2 => tx5.block k h2 h1 (by simp)
      have hws : q10 < wr.heap.size := HE.out.1.lt
      refine ⟨_, rfl, rfl, rfl, ?_, ?_, ?_⟩
      · obtain ⟨ad', cap', r1, r2, r3, r4, r5⟩ := HPS.out
        refine ⟨ad', cap', r1, r2, r3, r4, ?_⟩
        by_cases h0 : np = 0
        · exact .inl (List.eq_nil_of_length_eq_zero (by rw [List.length_map, ← HM.out.2]; exact h0))
        rcases r5 with r5 | ⟨gp, off, t1, t2, t3⟩
        · exact .inl r5
        · have hgp : q + 1 < gp := (by
            have h1 := HP1.out.2.2.2 ⟨gp, off, none⟩ np cp (by injection r1 with q1 q2 q3; rw [q1, t1]) (by omega)
            have h2 : W.heap.size ≤ gp := h1
            have := HWQ.out
            omega)
          refine .inr ⟨gp, off, t1, by have := hkeep; have := tx5.size; omega, fun i hi => ?_⟩
          exact range_same' (t3 i hi) ((hkeep gp (by omega) (by omega)).trans (HE.out.2.2.1.block gp (by omega)))
      · have h1 := HE.out.2.1
        rw [HFI.out] at h1
        have h2 := (h1.same (w' := x5) (fun k hk => hkeep k (by have := (h1.lt k hk).1; omega) (h1.lt k hk).2)).slB
        exact h2
      · rw [HQ.out]
        exact (HI3.out.2.1.trans (HE.out.2.2.1.mono (by omega))).trans hB5
    | succ gg =>
      have hiI : (i : Int) < (M : Int) := by omega
      have hiK : i < X.ks.length := by rw [← HM.out.1]; omega
      obtain ⟨gk, off, rfl, hgk, hat, hok⟩ := HKS.out i hiK
      obtain ⟨s, s1, s2, s3⟩ := HS0.out
      have HRK : Hid (wr.rangeAt gk (off + i * 25) (ec (Kd.el X.ks[i]))) := range_same hat (s3.block gk (by omega))
      have HTK : Hid ((X.ks.take (i + 1)).map kidV = (X.ks.take i).map kidV ++ [kidV X.ks[i]]) := (show _ = _ by rw [List.take_succ_eq_append_getElem hiK, List.map_append]; rfl)
      have HRL : Hid (((X.ks.take i).map kidV).length ≤ 20) := (show _ ≤ _ by rw [List.length_map, List.length_take]; have := HX20.out; omega)
      have HKL0 : Hid (X.ks[i].k.length = 24) := hok.len
      have HKO0 : Hid ((Kd.el X.ks[i]).Ok) := hok
      clear hat hok
      generalize X.ks[i] = kd at HRK HTK HKL0 HKO0
      have HKL := HKL0
      have HKO := HKO0
      generalize hrow : (X.ks.take i).map kidV = row at *
      clear hrow
      obtain ⟨yc, hyc⟩ : ∃ yc : Pv, yc = ⟨x.k, HXH.out, 0, (ap, np, cp), s⟩ := ⟨_, rfl⟩
      have HYC : Hid (yc = ⟨x.k, HXH.out, 0, (ap, np, cp), s⟩) := hyc
      rw [← hyc] at s1
      have hys : s = yc.ks := by rw [hyc]
      rw [hys] at s2
      have HE : Hid (InB encPv 85 wr q10 yc ∧ Own encPv 85 wr (q10 + 1) (slv yc.ks) row ∧ Below q10 x3 wr) := ⟨s1, s2, s3⟩
      have hwq : q10 < wr.heap.size := s1.lt
      clear s1 s2 s3 HS0 hyc hys
      go_upto_region 10 with (first
        | (refine load_K _ rfl gk (off + i * 25) rfl rfl _ HKO.out HRK.out ?_)
        | (refine store_K rfl _ _ rfl wr.heap.size rfl (Kd.el kd) rfl HKO.out nilK (zero_K wr _ rfl) ?_; intro x4 hu4 tx4 sx4))
      have BX4 : Below wr.heap.size wr x4 := ((Below.refl _ wr).alloc (Nat.le_refl _) _).trans (tx4.below (by simp) (Nat.le_refl _) (by simp))
      have HS : Hid (OpS w x4 q10 yc wr.heap.size kd) := ⟨HE.out.1.below BX4 hwq, hu4, by omega, (by
        rw [HQ.out]
        exact (HI3.out.2.1.trans (HE.out.2.2.mono (by omega))).trans (BX4.mono (by omega))), by rw [HQ.out]; omega⟩
      have HO : Hid (Own encPv 85 x4 (q10 + 1) (slv yc.ks) row) := HE.out.2.1.below BX4
      have HB4 : Hid (Below q10 x3 x4) := HE.out.2.2.trans (BX4.mono (by omega))
      have HLT : Hid (∀ k, (slv yc.ks).ownBlock = some k → k < wr.heap.size) := fun k hk => (HE.out.2.1.lt k hk).2
      clear hu4 tx4 sx4 BX4 HE
      generalize wr.heap.size = q12 at *
      refine wp_region_noPanic ?_
      refine wp_region_held_drew (S := (fun y => HasK y q12 kd.el)) (by kernel_rfl) (HS.out.k.same rfl) (fun hHeld => ?_)
      have F0 : OpS w x4.drew q10 yc q12 kd := HS.out.called ⟨rfl, rfl, rfl, Nat.le_refl _, fun _ _ => rfl⟩
      have O0 : Own encPv 85 x4.drew (q10 + 1) (slv yc.ks) row := Own.below (w' := x4.drew) HO.out ⟨rfl, rfl, rfl, Nat.le_refl _, fun _ _ => rfl⟩
      have B0 : Below q10 x3 x4.drew := HB4.out.trans ⟨rfl, rfl, rfl, Nat.le_refl _, fun _ _ => rfl⟩
      refine wpAnyH_take (i := 0) (v := ?_) rfl (by kernel_rfl) (by kernel_rfl) (by kernel_rfl) (fun _ _ _ h => h) (Or.inl ⟨by rfl, ?_⟩) hHeld ?_
      case refine_2 => (intro w hSw; (try dsimp only at hSw); go_simp; try (with_reducible rfl))
      (try simp only [gs])
      refine wpAnyH_take (i := 2) rfl (by kernel_rfl) (by kernel_rfl) (by kernel_rfl) (fun _ _ _ h => h) (yieldsIf_load_mid (by rfl) _ _ rfl _ _ rfl _ _ (fun _ h => h.range) Tryz.underlying93 rfl (by rw [ec_length HKO.out]; kernel_rfl)) hHeld ?_
      (try simp only [gs])
      refine wpAnyH_ready (rs := [1, 3]) (by kernel_rfl) (by simp) (AllReadyH.cons rfl (fun K hK => ?_) (AllReadyH.cons rfl (fun K hK => ?_) AllReadyH.nil))
      · rw [if_pos (by rfl)]
        (try simp only [gs])
        have c26 := F0.c26
        go_simp
        refine hK.out _ _ hHeld (fun hHeld => ?_)
        clear hK K c26
        (try simp only [gs])
        refine wpAnyH_ready (rs := [3]) (by kernel_rfl) (by simp) (AllReadyH.cons rfl (fun K hK => ?_) AllReadyH.nil)
        rw [if_pos (by rfl)]
        (try simp only [gs])
        go_simp
        refine (staying_calls _ kd HKL.out).mono ?_
        rintro e y1 ⟨rfl, b⟩
        have F1 := F0.called b
        have O1 := O0.below b
        have B1 := B0.trans (b.mono (by have := F0.p.lt; omega))
        refine hK.out _ _ F1.k (fun hHeld => ?_)
        clear hK K b
        (try simp only [gs])
        refine wpAnyH_ready (rs := [4]) (by kernel_rfl) (by simp) (AllReadyH.cons rfl (fun K hK => ?_) AllReadyH.nil)
        rw [if_pos (by rfl)]
        (try simp only [gs])
        refine wp_build_el1 rowV _ rfl (stayV kd.k HKL.out kd.n) rfl (by decide) ?_
        intro y2 oB b s2
        have F2 := F1.called b
        have O2 := O1.below b
        have B2 := B1.trans (b.mono (by have := F1.p.lt; omega))
        have SB : SlB encPv y2 y2.heap.size (.slice (some ⟨y1.heap.size, 0, none⟩) 1 1) [stayV kd.k HKL.out kd.n] := oB.slB
        refine hK.out _ _ F2.k (fun hHeld => ?_)
        clear hK K b oB s2
        (try simp only [gs])
        refine wpAnyH_ready (rs := [5]) (by kernel_rfl) (by simp) (AllReadyH.cons rfl (fun K hK => ?_) AllReadyH.nil)
        rw [if_pos (by rfl)]
        (try simp only [gs])
        have OX := O2
        simp only [slv] at OX
        refine wp_append_sl rowV _ _ rfl (q10 + 1) _ row [stayV kd.k HKL.out kd.n] rfl OX _ rfl y2.heap.size SB (by have := HRL.out; simp only [List.length_singleton]; omega) (by decide) (by have := F2.p.lt; omega) ?_
        intro v3 y3 o3 gr3
        have F3 := F2.grown gr3 (fun k hk => ⟨by have := (OX.lt k hk).1; omega, by have := HLT.out k hk; omega, by have := (OX.lt k hk).1; have := F2.ge; omega⟩)
        have B3 : Below q10 x3 y3 := B2.grown gr3 (by have := F2.p.lt; omega) (fun k hk => by have := (OX.lt k hk).1; omega)
        obtain ⟨a3, c3, rfl⟩ := o3.form
        refine hK.out _ _ F3.k (fun hHeld => ?_)
        clear hK K gr3 OX
        (try simp only [gs])
        refine wpAnyH_take (i := 6) (v := ?_) rfl (by kernel_rfl) (by kernel_rfl) (by kernel_rfl) (fun _ _ _ h => h) (Or.inl ⟨by rfl, ?_⟩) hHeld ?_
        case refine_2 => (intro w hSw; (try dsimp only at hSw); go_simp; try (with_reducible rfl))
        (try simp only [gs])
        refine wpAnyH_ready (rs := [7]) (by kernel_rfl) (by simp) (AllReadyH.cons rfl (fun K hK => ?_) AllReadyH.nil)
        rw [if_pos (by rfl)]
        (try simp only [gs])
        have c26 := F3.c26
        have f26 := F3.f26
        go_simp
        have HK7 : HasK (y3.setCell ⟨q10, 26, none⟩ (.slice a3 (row.length + 1) c3)) q12 kd.el := F3.k.same (Below.heap_setCell _ _ _ _ (by simpa using F3.ne))
        refine hK.out _ _ HK7 (fun hHeld => ?_)
        clear hK K c26 f26
        (try simp only [gs])
        refine wpAnyH_done (by kernel_rfl) ?_ _
        refine NoPanic.normal ?_
        have hnew := set_ks F3.p (a3, row.length + 1, c3)
        have hown : Own encPv 85 (y3.setCell ⟨q10, 26, none⟩ (.slice a3 (row.length + 1) c3)) (q10 + 1) (.slice a3 (row.length + 1) c3) (row ++ [stayV kd.k HKL.out kd.n]) := (by
          rw [List.length_append, List.length_singleton] at o3
          exact o3.same (fun k hk => Below.heap_setCell _ _ _ _ (by have := (o3.lt k hk).1; simp; omega)))
        have HN : Hid (InB encPv 85 (y3.setCell ⟨q10, 26, none⟩ (.slice a3 (row.length + 1) c3)) q10 ⟨x.k, HXH.out, 0, (ap, np, cp), (a3, row.length + 1, c3)⟩ ∧ Own encPv 85 (y3.setCell ⟨q10, 26, none⟩ (.slice a3 (row.length + 1) c3)) (q10 + 1) (.slice a3 (row.length + 1) c3) (row ++ [stayV kd.k HKL.out kd.n]) ∧ Below q10 x3 (y3.setCell ⟨q10, 26, none⟩ (.slice a3 (row.length + 1) c3))) := ⟨by rw [HYC.out] at hnew; exact hnew, hown, B3.setCell (by simp) _⟩
        clear hnew hown HK7 o3 hHeld
        generalize y3.setCell ⟨q10, 26, none⟩ (.slice a3 (row.length + 1) c3) = z at *
        go_wp2_with fail
        go_roundg gg
        case measure => omega
        case rel => exact ⟨i + 1, by omega, congrArg (Value.int .i64) (by first | omega | (unfold wrap64; omega)), (a3, row.length + 1, c3), HN.out.1, by rw [HTK.out, kidV_eq HKL.out]; exact HN.out.2.1, HN.out.2.2⟩
      · rw [if_pos (by rfl)]
        (try simp only [gs])
        go_simp
        refine (staying_calls _ kd HKL.out).mono ?_
        rintro e y1 ⟨rfl, b⟩
        have F1 := F0.called b
        have O1 := O0.below b
        have B1 := B0.trans (b.mono (by have := F0.p.lt; omega))
        refine hK.out _ _ F1.k (fun hHeld => ?_)
        clear hK K b
        (try simp only [gs])
        refine wpAnyH_ready (rs := [1, 4]) (by kernel_rfl) (by simp) (AllReadyH.cons rfl (fun K hK => ?_) (AllReadyH.cons rfl (fun K hK => ?_) AllReadyH.nil))
        · rw [if_pos (by rfl)]
          (try simp only [gs])
          have c26 := F1.c26
          go_simp
          refine hK.out _ _ hHeld (fun hHeld => ?_)
          clear hK K c26
          (try simp only [gs])
          refine wpAnyH_ready (rs := [4]) (by kernel_rfl) (by simp) (AllReadyH.cons rfl (fun K hK => ?_) AllReadyH.nil)
          rw [if_pos (by rfl)]
          (try simp only [gs])
          refine wp_build_el1 rowV _ rfl (stayV kd.k HKL.out kd.n) rfl (by decide) ?_
          intro y2 oB b s2
          have F2 := F1.called b
          have O2 := O1.below b
          have B2 := B1.trans (b.mono (by have := F1.p.lt; omega))
          have SB : SlB encPv y2 y2.heap.size (.slice (some ⟨y1.heap.size, 0, none⟩) 1 1) [stayV kd.k HKL.out kd.n] := oB.slB
          refine hK.out _ _ F2.k (fun hHeld => ?_)
          clear hK K b oB s2
          (try simp only [gs])
          refine wpAnyH_ready (rs := [5]) (by kernel_rfl) (by simp) (AllReadyH.cons rfl (fun K hK => ?_) AllReadyH.nil)
          rw [if_pos (by rfl)]
          (try simp only [gs])
          have OX := O2
          simp only [slv] at OX
          refine wp_append_sl rowV _ _ rfl (q10 + 1) _ row [stayV kd.k HKL.out kd.n] rfl OX _ rfl y2.heap.size SB (by have := HRL.out; simp only [List.length_singleton]; omega) (by decide) (by have := F2.p.lt; omega) ?_
          intro v3 y3 o3 gr3
          have F3 := F2.grown gr3 (fun k hk => ⟨by have := (OX.lt k hk).1; omega, by have := HLT.out k hk; omega, by have := (OX.lt k hk).1; have := F2.ge; omega⟩)
          have B3 : Below q10 x3 y3 := B2.grown gr3 (by have := F2.p.lt; omega) (fun k hk => by have := (OX.lt k hk).1; omega)
          obtain ⟨a3, c3, rfl⟩ := o3.form
          refine hK.out _ _ F3.k (fun hHeld => ?_)
          clear hK K gr3 OX
          (try simp only [gs])
          refine wpAnyH_take (i := 6) (v := ?_) rfl (by kernel_rfl) (by kernel_rfl) (by kernel_rfl) (fun _ _ _ h => h) (Or.inl ⟨by rfl, ?_⟩) hHeld ?_
          case refine_2 => (intro w hSw; (try dsimp only at hSw); go_simp; try (with_reducible rfl))
          (try simp only [gs])
          refine wpAnyH_ready (rs := [7]) (by kernel_rfl) (by simp) (AllReadyH.cons rfl (fun K hK => ?_) AllReadyH.nil)
          rw [if_pos (by rfl)]
          (try simp only [gs])
          have c26 := F3.c26
          have f26 := F3.f26
          go_simp
          have HK7 : HasK (y3.setCell ⟨q10, 26, none⟩ (.slice a3 (row.length + 1) c3)) q12 kd.el := F3.k.same (Below.heap_setCell _ _ _ _ (by simpa using F3.ne))
          refine hK.out _ _ HK7 (fun hHeld => ?_)
          clear hK K c26 f26
          (try simp only [gs])
          refine wpAnyH_done (by kernel_rfl) ?_ _
          refine NoPanic.normal ?_
          have hnew := set_ks F3.p (a3, row.length + 1, c3)
          have hown : Own encPv 85 (y3.setCell ⟨q10, 26, none⟩ (.slice a3 (row.length + 1) c3)) (q10 + 1) (.slice a3 (row.length + 1) c3) (row ++ [stayV kd.k HKL.out kd.n]) := (by
            rw [List.length_append, List.length_singleton] at o3
            exact o3.same (fun k hk => Below.heap_setCell _ _ _ _ (by have := (o3.lt k hk).1; simp; omega)))
          have HN : Hid (InB encPv 85 (y3.setCell ⟨q10, 26, none⟩ (.slice a3 (row.length + 1) c3)) q10 ⟨x.k, HXH.out, 0, (ap, np, cp), (a3, row.length + 1, c3)⟩ ∧ Own encPv 85 (y3.setCell ⟨q10, 26, none⟩ (.slice a3 (row.length + 1) c3)) (q10 + 1) (.slice a3 (row.length + 1) c3) (row ++ [stayV kd.k HKL.out kd.n]) ∧ Below q10 x3 (y3.setCell ⟨q10, 26, none⟩ (.slice a3 (row.length + 1) c3))) := ⟨by rw [HYC.out] at hnew; exact hnew, hown, B3.setCell (by simp) _⟩
          clear hnew hown HK7 o3 hHeld
          generalize y3.setCell ⟨q10, 26, none⟩ (.slice a3 (row.length + 1) c3) = z at *
          go_wp2_with fail
          go_roundg gg
          case measure => omega
          case rel => exact ⟨i + 1, by omega, congrArg (Value.int .i64) (by first | omega | (unfold wrap64; omega)), (a3, row.length + 1, c3), HN.out.1, by rw [HTK.out, kidV_eq HKL.out]; exact HN.out.2.1, HN.out.2.2⟩
        · rw [if_pos (by rfl)]
          (try simp only [gs])
          refine wp_build_el1 rowV _ rfl (stayV kd.k HKL.out kd.n) rfl (by decide) ?_
          intro y2 oB b s2
          have F2 := F1.called b
          have O2 := O1.below b
          have B2 := B1.trans (b.mono (by have := F1.p.lt; omega))
          have SB : SlB encPv y2 y2.heap.size (.slice (some ⟨y1.heap.size, 0, none⟩) 1 1) [stayV kd.k HKL.out kd.n] := oB.slB
          refine hK.out _ _ F2.k (fun hHeld => ?_)
          clear hK K b oB s2
          (try simp only [gs])
          refine wpAnyH_ready (rs := [1]) (by kernel_rfl) (by simp) (AllReadyH.cons rfl (fun K hK => ?_) AllReadyH.nil)
          rw [if_pos (by rfl)]
          (try simp only [gs])
          have c26 := F2.c26
          go_simp
          refine hK.out _ _ hHeld (fun hHeld => ?_)
          clear hK K c26
          (try simp only [gs])
          refine wpAnyH_ready (rs := [5]) (by kernel_rfl) (by simp) (AllReadyH.cons rfl (fun K hK => ?_) AllReadyH.nil)
          rw [if_pos (by rfl)]
          (try simp only [gs])
          have OX := O2
          simp only [slv] at OX
          refine wp_append_sl rowV _ _ rfl (q10 + 1) _ row [stayV kd.k HKL.out kd.n] rfl OX _ rfl y2.heap.size SB (by have := HRL.out; simp only [List.length_singleton]; omega) (by decide) (by have := F2.p.lt; omega) ?_
          intro v3 y3 o3 gr3
          have F3 := F2.grown gr3 (fun k hk => ⟨by have := (OX.lt k hk).1; omega, by have := HLT.out k hk; omega, by have := (OX.lt k hk).1; have := F2.ge; omega⟩)
          have B3 : Below q10 x3 y3 := B2.grown gr3 (by have := F2.p.lt; omega) (fun k hk => by have := (OX.lt k hk).1; omega)
          obtain ⟨a3, c3, rfl⟩ := o3.form
          refine hK.out _ _ F3.k (fun hHeld => ?_)
          clear hK K gr3 OX
          (try simp only [gs])
          refine wpAnyH_take (i := 6) (v := ?_) rfl (by kernel_rfl) (by kernel_rfl) (by kernel_rfl) (fun _ _ _ h => h) (Or.inl ⟨by rfl, ?_⟩) hHeld ?_
          case refine_2 => (intro w hSw; (try dsimp only at hSw); go_simp; try (with_reducible rfl))
          (try simp only [gs])
          refine wpAnyH_ready (rs := [7]) (by kernel_rfl) (by simp) (AllReadyH.cons rfl (fun K hK => ?_) AllReadyH.nil)
          rw [if_pos (by rfl)]
          (try simp only [gs])
          have c26 := F3.c26
          have f26 := F3.f26
          go_simp
          have HK7 : HasK (y3.setCell ⟨q10, 26, none⟩ (.slice a3 (row.length + 1) c3)) q12 kd.el := F3.k.same (Below.heap_setCell _ _ _ _ (by simpa using F3.ne))
          refine hK.out _ _ HK7 (fun hHeld => ?_)
          clear hK K c26 f26
          (try simp only [gs])
          refine wpAnyH_done (by kernel_rfl) ?_ _
          refine NoPanic.normal ?_
          have hnew := set_ks F3.p (a3, row.length + 1, c3)
          have hown : Own encPv 85 (y3.setCell ⟨q10, 26, none⟩ (.slice a3 (row.length + 1) c3)) (q10 + 1) (.slice a3 (row.length + 1) c3) (row ++ [stayV kd.k HKL.out kd.n]) := (by
            rw [List.length_append, List.length_singleton] at o3
            exact o3.same (fun k hk => Below.heap_setCell _ _ _ _ (by have := (o3.lt k hk).1; simp; omega)))
          have HN : Hid (InB encPv 85 (y3.setCell ⟨q10, 26, none⟩ (.slice a3 (row.length + 1) c3)) q10 ⟨x.k, HXH.out, 0, (ap, np, cp), (a3, row.length + 1, c3)⟩ ∧ Own encPv 85 (y3.setCell ⟨q10, 26, none⟩ (.slice a3 (row.length + 1) c3)) (q10 + 1) (.slice a3 (row.length + 1) c3) (row ++ [stayV kd.k HKL.out kd.n]) ∧ Below q10 x3 (y3.setCell ⟨q10, 26, none⟩ (.slice a3 (row.length + 1) c3))) := ⟨by rw [HYC.out] at hnew; exact hnew, hown, B3.setCell (by simp) _⟩
          clear hnew hown HK7 o3 hHeld
          generalize y3.setCell ⟨q10, 26, none⟩ (.slice a3 (row.length + 1) c3) = z at *
          go_wp2_with fail
          go_roundg gg
          case measure => omega
          case rel => exact ⟨i + 1, by omega, congrArg (Value.int .i64) (by first | omega | (unfold wrap64; omega)), (a3, row.length + 1, c3), HN.out.1, by rw [HTK.out, kidV_eq HKL.out]; exact HN.out.2.1, HN.out.2.2⟩
end Go.Proofs.YtjhdnpplmlddaaaGreat
