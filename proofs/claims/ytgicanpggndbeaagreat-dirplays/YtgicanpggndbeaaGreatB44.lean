import Derived.Test.YtgicanpggndbeaaGreatSi
import Derived.Test.YtgicanpggndbeaaGreatB01
import Derived.Test.YtgicanpggndbeaaGreatB43
import Derived.Test.YtgicanpggndbeaaGreatB42
import Derived.Deep.CutBlock
import Derived.Deep.DeepCutAuto
/- DirPlays. -/
namespace Go.Proofs.YtgicanpggndbeaaGreat
set_option linter.unusedVariables false
set_option maxRecDepth 100000
open Go.RowKit

theorem str_cut45 (v : List UInt8) : (str v).extract 0 (min ((str v).size : Int) 45).toNat = str (v.take 45) := by
 have h : (min ((str v).size : Int) 45).toNat = min v.length 45 := by rw [str_size]; omega
 rw [h]
 apply ByteArray.ext
 apply Array.ext'
 rw [ByteArray.data_extract]
 simp only [Array.toList_extract, str_list, List.extract_eq_take_drop, List.drop_zero, Nat.sub_zero]
 by_cases q : v.length ≤ 45
 · rw [Nat.min_eq_left q, List.take_length, List.take_of_length_le q]
 · rw [Nat.min_eq_right (by omega)]
def do0 : Do := ⟨0, 0, 0, [], zs 24, rfl, []⟩
theorem elD : ElTy Tryz.prog encDo 31 := ⟨⟨_, Tryz.underlying31, rfl, rfl⟩, by kernel_rfl⟩
theorem range_dKey0 {w : World} {g : Nat} {o : Do} (h : w.rangeAt g 0 (encDo.c o)) : w.rangeAt g 4 (bc o.k) := by
 have := range_dKey h
 rwa [Nat.zero_add] at this
theorem PlAt.tight {w0 : World} {lim p : Nat} {pv : Value} {m : List Pa} {base q : Nat} {x : VR} {V : VS} {rp : Nat} {bv cv rv mv : Value} {C : List Ch} {R : List Sp} {l : List SV} {M : List (Value × List Ch)} {y : World} (h : PlAt w0 lim p pv m base q x V rp bv cv rv mv C R l M y) (n : Nat) (hn : V.most n) : PlAt w0 lim p pv m base q { x with n := n } V rp bv cv rv mv C R l M y :=
 ⟨h.a.tight n hn, h.d, h.ml, h.off, h.hp, h.lp⟩
theorem DpSt.box {w0 : World} {d : Dn} {j b : Nat} {o : Do} {y z : World} (h : DpSt w0 d j 100 300 y) (hb : Below y.heap.size y z) (hB : b = y.heap.size) (hr : z.rangeAt b 0 (encDo.c o)) (hl : b < z.heap.size) : DpBx w0 d j b o z := by
 obtain ⟨x, V, cv, rv, C, R, A, B, hn, hR⟩ := h
 subst hB
 exact ⟨x, V, cv, rv, C, R, A.called (Nat.zero_le _) hb, B, hn, hR.elim (fun e => by cases e) id, ⟨hr, hl⟩, fun e => Nat.lt_irrefl _ (A.a.vw.lt e), fun e => Nat.lt_irrefl d.rp (e ▸ A.d.lt)⟩
set_option maxHeartbeats 4000000 in
theorem dp_start {w y1 y2 : World} (n : NV) (hn : n.at_ w y1) (hV : n.V = vs0) (hx : n.x.n = 0) {rp : Nat} {bv : Value} {m : List Pa} (h2 : RvIn y2 rp bv nilV nilV nilV m [] [] []) (nv : NewV y1.heap.size bv) (hm : m.length ≤ 0) (hrp : y1.heap.size ≤ rp) (b : Below y1.heap.size y1 y2) : DpSt w ⟨n.lim, n.p, n.pv, n.base, n.q, rp, bv⟩ 0 100 300 y2 := by
 obtain rfl : m = [] := List.eq_nil_of_length_eq_zero (Nat.le_zero.1 hm)
 have A := NV.called hn b
 have lt : ∀ i, n.x.own n.q i → i < y1.heap.size := fun i e => NV.lt hn (.inl e)
 have A2 : VAt w n.lim (NI n.lim n.p n.pv n.base) 9 (nI n.p) n.q n.x vs0 y2 := by
  have := A
  unfold NV.at_ at this
  rwa [hV] at this
 exact ⟨n.x, vs0, nilV, nilV, [], [], ⟨A2, h2, MvIn.nil _, ⟨fun e => absurd (lt _ e) (Nat.not_lt.2 hrp), fun q => absurd rfl q, fun q => absurd rfl q, fun q => absurd rfl q, fun q => absurd rfl q, fun e he => by cases he⟩, (fun g hg => by cases hg), by have := hn.limy; exact Nat.le_trans this hrp⟩, ⟨List.Pairwise.nil, Nat.zero_le _, MkIs.start, rfl, fun c hc => (by cases hc), fun L hL => (by cases hL), ⟨trivial, fun _ _ => rfl⟩, ⟨Nat.le_refl _, Nat.le_refl _, Nat.le_refl _, fun L hL => (by cases hL)⟩, rfl⟩, by omega, .inr (Nat.zero_le _)⟩
set_option maxRecDepth 100000 in
set_option maxHeartbeats 32000000 in
theorem dirPlays_walk (w : World) (u : Value) (ops : List Do) (h : Sl encDo w u ops) :
    Calls Tryz.prog 3 #[u] w fun e w' => e = .returned (.bool true) ∧ Below w.heap.size w w' := by
 have hsh := shown14_calls w
 obtain ⟨ad, cap, rfl, hcap, hmax, -, -⟩ := id h
 have HI : Hid (∀ i (hi : i < ops.length), ∃ g off, ad = some ⟨g, off, none⟩ ∧ g < w.heap.size ∧ w.rangeAt g (off + i * 29) (encDo.c ops[i])) := fun i hi => SlB.at h i hi
 obtain ⟨N, hN⟩ : ∃ N : Nat, N = ops.length := ⟨_, rfl⟩
 rw [← hN] at hcap hmax ⊢
 have HN : Hid (N = ops.length) := hN
 obtain ⟨M, hM⟩ : ∃ M : Nat, M = min N 60 := ⟨_, rfl⟩
 have HM : Hid (M = min N 60) := hM
 clear h hN hM
 go_enter Tryz.func3, Tryz.ntmps3
 go_upto_region 2 with (go_at_call 7; refine hsh.mono ?_; clear hsh; rintro e y0 ⟨rfl, b1⟩)
 have hN1 := nvNew_calls w y0 b1
 clear b1
 go_upto_region 3 with (go_at_call 8; refine hN1.mono ?_; clear hN1; rintro e y1 ⟨dn, rfl, A1, v1, n1, f1, b1⟩)
 have HV1 : Hid (dn.at_ w y1 ∧ dn.V = vs0 ∧ dn.x.n = 0) := ⟨A1, v1, n1⟩
 have hN2 := rvnew_calls y1 (.slice none 0 0) [] (SlB.nil _ _ _) (Nat.zero_le _)
 clear A1 v1 n1 f1 b1
 go_upto_region 4 with (go_at_call 9; refine hN2.mono ?_; clear hN2; rintro e y2 ⟨rp, bv, m, rfl, d2, nv2, mi2, ml2, hrp, b2⟩)
 obtain ⟨d, hd⟩ : ∃ d : Dn, d = ⟨dn.lim, dn.p, dn.pv, dn.base, dn.q, rp, bv⟩ := ⟨_, rfl⟩
 have HS0 : Hid (DpSt w d 0 100 300 y2) := by rw [hd]; exact dp_start dn HV1.out.1 HV1.out.2.1 HV1.out.2.2 d2 nv2 ml2 hrp b2
 have hq : dn.q = d.q := by rw [hd]
 have hr : rp = d.rp := by rw [hd]
 rw [hq, hr]
 clear d2 nv2 mi2 ml2 hrp b2 hd hq hr HV1
 go_wp2_with fail
 go_loopg [6] M (fun gg i wr => ∃ j : Nat, j + gg = M ∧ i = .int .i64 (j : Int) ∧ Hid (DpSt w d j 100 300 wr))
 case atStart => exact ⟨0, by omega, rfl, HS0.out⟩
 case round =>
  clear HS0
  obtain ⟨j, hjg, rfl, HE⟩ := hrel
  cases gk with
  | zero =>
   have hjM : j = M := by omega
   by_cases hjN : j < N
   · have hjI : (j : Int) < (N : Int) := by omega
     have hj60 : ¬ (j : Int) < 60 := by have := HM.out; omega
     clear hjM hjN
     go_wp2_with fail
     go_ret
     exact ⟨rfl, HE.out.bel⟩
   · have hjI : ¬ (j : Int) < (N : Int) := by omega
     clear hjM hjN
     go_wp2_with fail
     go_ret
     exact ⟨rfl, HE.out.bel⟩
  | succ gg =>
   have hjI : (j : Int) < (N : Int) := by have := HM.out; omega
   have hj60 : (j : Int) < 60 := by have := HM.out; omega
   have hj0 : (0 : Int) ≤ (j : Int) := by omega
   have hjl : j < ops.length := by have := HN.out; omega
   have HJ : Hid (j ≤ 60) := (show _ ≤ _ by omega)
   obtain ⟨g, off, rfl, hg, hat⟩ := HI.out j hjl
   generalize ops[j] = o at *
   have hr : wr.rangeAt g (off + j * 29) (encDo.c o) := range_same' hat (HE.out.bel.block g hg)
   clear hat hg hjl
   go_upto_region 10 with (first
    | (refine load_el elD _ rfl g (off + j * 29) rfl rfl o hr ?_)
    | (refine store_el elD rfl _ _ rfl wr.heap.size rfl o rfl do0 (InB.new encDo _ wr do0 _ rfl) ?_; intro x1 hu1 tx1 sx1))
   have BX : Below wr.heap.size wr x1 := ((Below.refl _ wr).alloc (Nat.le_refl _) _).trans (tx1.below (by simp) (Nat.le_refl _) (by simp))
   have HBX : Hid (DpBx w d j wr.heap.size o x1) := HE.out.box BX rfl hu1.range (by rw [sx1]; simp)
   clear hr BX hu1 tx1 sx1 HE
   generalize wr.heap.size = b at *
   have HCD : Hid (∀ yy : World, yy.rangeAt b 0 (encDo.c o) → yy.cell? ⟨b, 1, none⟩ = some (.int .i64 o.dir)) := fun yy hh => by have := range_dDir hh; simpa using this
   have HCI : Hid (∀ yy : World, yy.rangeAt b 0 (encDo.c o) → yy.cell? ⟨b, 2, none⟩ = some (.int .i64 o.ino)) := fun yy hh => by have := range_dIno hh; simpa using this
   have HCV : Hid (∀ yy : World, yy.rangeAt b 0 (encDo.c o) → yy.cell? ⟨b, 28, none⟩ = some (.string (str o.v))) := fun yy hh => by have := range_dVal hh; simpa using this
   have hInfo : (Tryz.prog.info? 29).map (·.size) = some (bc o.k).length := by rw [bc_length, o.h]; exact Tryz.key_info
   have hck : x1.cell? ⟨b, 0, none⟩ = some (.int .i64 o.kind) := by have := range_dKind HBX.out.bx.rg; simpa using this
   have hcs : x1.cell? ⟨b, 3, none⟩ = some (.string (str o.s)) := by have := range_dStr HBX.out.bx.rg; simpa using this
   have hcut := str_cut40 o.s
   have hm0 : (0 : Int) ≤ min ((str o.s).size : Int) 40 := by omega
   have hm1 : min ((str o.s).size : Int) 40 ≤ ((str o.s).size : Int) := by omega
   go_upto_block 2 with fail
   clear hck hcs hcut hm0 hm1
   generalize o.s.take 40 = s at *
   obtain ⟨wr2, rfl⟩ : ∃ z, z = x1 := ⟨_, rfl⟩
   go_cut [9] (fun s9 wc => s9 = .bool true ∧ Hid (DpSt w d (j + 1) 104 0 wc))
   case first =>
    cases hk1 : (o.kind == 1) with
    | true =>
     go_upto_region 17 with fail
     have HBD : Hid (DpBx w d j b o wr2.drew) := HBX.out.called ⟨rfl, rfl, rfl, Nat.le_refl _, fun _ _ => rfl⟩
     refine wp_region_noPanic ?_
     refine wp_region_held_drew (S := (fun yy => yy.rangeAt b 0 (encDo.c o))) (by kernel_rfl) HBD.out.bx.rg (fun hHeld => ?_)
     refine tk (v := ?_) 0 rfl hHeld (Or.inl ⟨by rfl, ?_⟩) ?_
     case refine_2 => (intro w hSw; (try dsimp only at hSw); go_simp; try (with_reducible rfl))
     (try simp only [gs])
     refine tk (v := ?_) 1 rfl hHeld (Or.inl ⟨by rfl, ?_⟩) ?_
     case refine_2 => (intro w hSw; (try dsimp only at hSw); go_simp; try (with_reducible rfl))
     (try simp only [gs])
     refine tk (v := ?_) 2 rfl hHeld (Or.inl ⟨by rfl, ?_⟩) ?_
     case refine_2 => (intro w hSw; (try dsimp only at hSw); have hc := HCD.out _ hSw; go_simp; try (with_reducible rfl))
     (try simp only [gs])
     refine tk (v := ?_) 3 rfl hHeld (Or.inl ⟨by rfl, ?_⟩) ?_
     case refine_2 => (intro w hSw; (try dsimp only at hSw); go_simp; try (with_reducible rfl))
     (try simp only [gs])
     refine tk (v := ?_) 4 rfl hHeld (Or.inl ⟨by rfl, ?_⟩) ?_
     case refine_2 => (intro w hSw; (try dsimp only at hSw); go_simp; try (with_reducible rfl))
     (try simp only [gs])
     refine tk (v := ?_) 5 rfl hHeld (Or.inl ⟨by rfl, ?_⟩) ?_
     case refine_2 => (intro w hSw; (try dsimp only at hSw); have hc := HCI.out _ hSw; go_simp; try (with_reducible rfl))
     (try simp only [gs])
     refine tk (v := ?_) 7 rfl hHeld (Or.inl ⟨by rfl, ?_⟩) ?_
     case refine_2 => (intro w hSw; (try dsimp only at hSw); go_simp; try (with_reducible rfl))
     (try simp only [gs])
     refine tk (v := ?_) 8 rfl hHeld (Or.inl ⟨by rfl, ?_⟩) ?_
     case refine_2 => (intro w hSw; (try dsimp only at hSw); go_simp; try (with_reducible rfl))
     (try simp only [gs])
     refine tk (v := ?_) 9 rfl hHeld (Or.inl ⟨by rfl, ?_⟩) ?_
     case refine_2 => (intro w hSw; (try dsimp only at hSw); have hc := HCD.out _ hSw; go_simp; try (with_reducible rfl))
     (try simp only [gs])
     refine tk (v := ?_) 10 rfl hHeld (Or.inl ⟨by rfl, ?_⟩) ?_
     case refine_2 => (intro w hSw; (try dsimp only at hSw); go_simp; try (with_reducible rfl))
     (try simp only [gs])
     refine tk (v := ?_) 11 rfl hHeld (Or.inl ⟨by rfl, ?_⟩) ?_
     case refine_2 => (intro w hSw; (try dsimp only at hSw); go_simp; try (with_reducible rfl))
     (try simp only [gs])
     refine tk (v := ?_) 12 rfl hHeld (Or.inl ⟨by rfl, ?_⟩) ?_
     case refine_2 => (intro w hSw; (try dsimp only at hSw); have hc := HCI.out _ hSw; go_simp; try (with_reducible rfl))
     (try simp only [gs])
     have hP := dp_put HBD.out HJ.out o.dir s o.ino
     generalize wr2.drew = z0 at *
     refine wpAnyH_ready (rs := [6]) (by kernel_rfl) (by simp) (AllReadyH.cons rfl (fun K0 hK => ?_) AllReadyH.nil)
     rw [if_pos (by rfl)]
     (try simp only [gs])
     go_simp
     refine hP.mono ?_
     clear hP
     rintro e z1 ⟨r, rfl, PH⟩
     have hG := PH.go z1 (Below.refl _ _)
     refine hK.out _ _ PH.bx.rg (fun hHeld => ?_)
     clear hK K0 PH
     (try simp only [gs])
     refine wpAnyH_ready (rs := [13]) (by kernel_rfl) (by simp) (AllReadyH.cons rfl (fun K0 hK => ?_) AllReadyH.nil)
     rw [if_pos (by rfl)]
     (try simp only [gs])
     go_simp
     refine hG.mono ?_
     clear hG
     rintro e z2 ⟨rfl, HS, HX⟩
     have HS2 : Hid (DpSt w d (j + 1) 104 0 z2) := HS
     refine hK.out _ _ HX.rg (fun hHeld => ?_)
     clear hK K0 HS HX
     (try simp only [gs])
     refine tk (v := ?_) 14 rfl hHeld (Or.inl ⟨by rfl, ?_⟩) ?_
     case refine_2 => (intro w hSw; (try dsimp only at hSw); go_simp; try (with_reducible rfl))
     (try simp only [gs])
     refine tk (v := ?_) 15 rfl hHeld (Or.inl ⟨by rfl, ?_⟩) ?_
     case refine_2 => (intro w hSw; (try dsimp only at hSw); go_simp; try (with_reducible rfl))
     (try simp only [gs])
     refine wpAnyH_done (by kernel_rfl) ?_ _
     refine NoPanic.normal ?_
     clear hHeld
     go_wp2_with fail
     go_meet
     case rel => exact ⟨rfl, HS2.out⟩
    | false =>
    cases hk2 : (o.kind == 2) with
    | true =>
     go_upto_region 19 with fail
     have HBD : Hid (DpBx w d j b o wr2.drew) := HBX.out.called ⟨rfl, rfl, rfl, Nat.le_refl _, fun _ _ => rfl⟩
     refine wp_region_noPanic ?_
     refine wp_region_held_drew (S := (fun yy => yy.rangeAt b 0 (encDo.c o))) (by kernel_rfl) HBD.out.bx.rg (fun hHeld => ?_)
     refine tk (v := ?_) 0 rfl hHeld (Or.inl ⟨by rfl, ?_⟩) ?_
     case refine_2 => (intro w hSw; (try dsimp only at hSw); go_simp; try (with_reducible rfl))
     (try simp only [gs])
     refine tk (v := ?_) 1 rfl hHeld (Or.inl ⟨by rfl, ?_⟩) ?_
     case refine_2 => (intro w hSw; (try dsimp only at hSw); go_simp; try (with_reducible rfl))
     (try simp only [gs])
     refine tk (v := ?_) 2 rfl hHeld (Or.inl ⟨by rfl, ?_⟩) ?_
     case refine_2 => (intro w hSw; (try dsimp only at hSw); have hc := HCD.out _ hSw; go_simp; try (with_reducible rfl))
     (try simp only [gs])
     refine tk (v := ?_) 3 rfl hHeld (Or.inl ⟨by rfl, ?_⟩) ?_
     case refine_2 => (intro w hSw; (try dsimp only at hSw); go_simp; try (with_reducible rfl))
     (try simp only [gs])
     refine tk (v := ?_) 5 rfl hHeld (Or.inl ⟨by rfl, ?_⟩) ?_
     case refine_2 => (intro w hSw; (try dsimp only at hSw); go_simp; try (with_reducible rfl))
     (try simp only [gs])
     refine tk (v := ?_) 6 rfl hHeld (Or.inl ⟨by rfl, ?_⟩) ?_
     case refine_2 => (intro w hSw; (try dsimp only at hSw); go_simp; try (with_reducible rfl))
     (try simp only [gs])
     refine tk (v := ?_) 7 rfl hHeld (Or.inl ⟨by rfl, ?_⟩) ?_
     case refine_2 => (intro w hSw; (try dsimp only at hSw); have hc := HCD.out _ hSw; go_simp; try (with_reducible rfl))
     (try simp only [gs])
     refine tk (v := ?_) 8 rfl hHeld (Or.inl ⟨by rfl, ?_⟩) ?_
     case refine_2 => (intro w hSw; (try dsimp only at hSw); go_simp; try (with_reducible rfl))
     (try simp only [gs])
     have hP := dp_drop HBD.out HJ.out o.dir s
     generalize wr2.drew = z0 at *
     refine wpAnyH_ready (rs := [4]) (by kernel_rfl) (by simp) (AllReadyH.cons rfl (fun K0 hK => ?_) AllReadyH.nil)
     rw [if_pos (by rfl)]
     (try simp only [gs])
     go_simp
     refine hP.mono ?_
     clear hP
     rintro e z1 ⟨r, rfl, PH⟩
     have hG := PH.go z1 (Below.refl _ _)
     refine hK.out _ _ PH.bx.rg (fun hHeld => ?_)
     clear hK K0 PH
     (try simp only [gs])
     refine wpAnyH_ready (rs := [9]) (by kernel_rfl) (by simp) (AllReadyH.cons rfl (fun K0 hK => ?_) AllReadyH.nil)
     rw [if_pos (by rfl)]
     (try simp only [gs])
     go_simp
     refine hG.mono ?_
     clear hG
     rintro e z2 ⟨rfl, HS, HX⟩
     have HS2 : Hid (DpSt w d (j + 1) 104 0 z2) := HS
     refine hK.out _ _ HX.rg (fun hHeld => ?_)
     clear hK K0 HS HX
     (try simp only [gs])
     refine tk (v := ?_) 10 rfl hHeld (Or.inl ⟨by rfl, ?_⟩) ?_
     case refine_2 => (intro w hSw; (try dsimp only at hSw); go_simp; try (with_reducible rfl))
     (try simp only [gs])
     refine tk (v := ?_) 11 rfl hHeld (Or.inl ⟨by rfl, ?_⟩) ?_
     case refine_2 => (intro w hSw; (try dsimp only at hSw); go_simp; try (with_reducible rfl))
     (try simp only [gs])
     refine wpAnyH_done (by kernel_rfl) ?_ _
     refine NoPanic.normal ?_
     clear hHeld
     go_wp2_with fail
     go_meet
     case rel => exact ⟨rfl, HS2.out⟩
    | false =>
    cases hk3 : (o.kind == 3) with
    | true =>
     have hcd := HCD.out _ HBX.out.bx.rg
     have h1 := dp_list HBX.out HJ.out o.dir
     go_upto_region 22 with (go_at_call 14; refine h1.mono ?_; clear h1; rintro e z1 ⟨v1, er, rfl, PH⟩)
     have HG : Hid (PhL w d j b o o.dir v1 er z1) := PH
     have hcd1 := HCD.out _ PH.bx.rg
     have h2 := PH.go z1 (Below.refl _ _)
     clear PH hcd
     go_upto_region 23 with (go_at_call 15; refine h2.mono ?_; clear h2; rintro e z2 ⟨v2, ll, rfl, sl1, sl2, hl5, HS, HX⟩)
     have HS2 : Hid (DpSt w d (j + 1) 104 0 z2) := HS
     have h3 := dsame_calls z2 v1 v2 ll sl1 sl2 (by omega)
     clear hcd1 sl1 sl2 hl5 HS HX HG
     go_wp2_with (go_at_call 16; refine h3.mono ?_; clear h3; rintro e z3 ⟨rfl, b3⟩)
     have HS3 : Hid (DpSt w d (j + 1) 104 0 z3) := HS2.out.called b3
     go_meet
     case rel => exact ⟨by simp, HS3.out⟩
    | false =>
    cases hk4 : (o.kind == 4) with
    | true =>
     have hcd := HCD.out _ HBX.out.bx.rg
     have h1 := dp_empty HBX.out HJ.out o.dir
     go_upto_region 26 with (go_at_call 17; refine h1.mono ?_; clear h1; rintro e z1 ⟨r1, er, rfl, PH⟩)
     have hcd1 := HCD.out _ PH.bx.rg
     have h2 := PH.go z1 (Below.refl _ _)
     clear PH hcd
     go_upto_region 27 with (go_at_call 18; refine h2.mono ?_; clear h2; rintro e z2 ⟨rfl, HS, HX⟩)
     have HS2 : Hid (DpSt w d (j + 1) 104 0 z2) := HS
     clear hcd1 HS HX
     go_wp2_with fail
     go_meet
     case rel => exact ⟨by simp, HS2.out⟩
    | false =>
    cases hk5 : (o.kind == 5) with
    | true =>
     have hcv := HCV.out _ HBX.out.bx.rg
     have hcut := str_cut45 o.v
     have hm0 : (0 : Int) ≤ min ((str o.v).size : Int) 45 := by omega
     have hm1 : min ((str o.v).size : Int) 45 ≤ ((str o.v).size : Int) := by omega
     go_upto_region 30 with fail
     clear hcv hcut hm0 hm1
     generalize o.v.take 45 = v at *
     go_upto_region 30 with fail
     have HBD : Hid (DpBx w d j b o wr2.drew) := HBX.out.called ⟨rfl, rfl, rfl, Nat.le_refl _, fun _ _ => rfl⟩
     refine wp_region_noPanic ?_
     refine wp_region_held_drew (S := (fun yy => yy.rangeAt b 0 (encDo.c o))) (by kernel_rfl) HBD.out.bx.rg (fun hHeld => ?_)
     refine tk (v := ?_) 0 rfl hHeld (Or.inl ⟨by rfl, ?_⟩) ?_
     case refine_2 => (intro w hSw; (try dsimp only at hSw); go_simp; try (with_reducible rfl))
     (try simp only [gs])
     refine tk (v := ?_) 1 rfl hHeld (Or.inl ⟨by rfl, ?_⟩) ?_
     case refine_2 => (intro w hSw; (try dsimp only at hSw); go_simp; try (with_reducible rfl))
     (try simp only [gs])
     refine tk 2 rfl hHeld (yieldsIf_load_mid (by rfl) _ _ rfl _ _ rfl _ _ (fun _ h => range_dKey0 h) Tryz.underlying29 rfl hInfo) ?_
     (try simp only [gs])
     refine tk (v := ?_) 3 rfl hHeld (Or.inl ⟨by rfl, ?_⟩) ?_
     case refine_2 => (intro w hSw; (try dsimp only at hSw); go_simp; try (with_reducible rfl))
     (try simp only [gs])
     refine tk (v := ?_) 5 rfl hHeld (Or.inl ⟨by rfl, ?_⟩) ?_
     case refine_2 => (intro w hSw; (try dsimp only at hSw); go_simp; try (with_reducible rfl))
     (try simp only [gs])
     refine tk (v := ?_) 6 rfl hHeld (Or.inl ⟨by rfl, ?_⟩) ?_
     case refine_2 => (intro w hSw; (try dsimp only at hSw); go_simp; try (with_reducible rfl))
     (try simp only [gs])
     refine tk 7 rfl hHeld (yieldsIf_load_mid (by rfl) _ _ rfl _ _ rfl _ _ (fun _ h => range_dKey0 h) Tryz.underlying29 rfl hInfo) ?_
     (try simp only [gs])
     refine tk (v := ?_) 8 rfl hHeld (Or.inl ⟨by rfl, ?_⟩) ?_
     case refine_2 => (intro w hSw; (try dsimp only at hSw); go_simp; try (with_reducible rfl))
     (try simp only [gs])
     have hP := dp_raw HBD.out HJ.out o.kz v
     generalize wr2.drew = z0 at *
     refine wpAnyH_ready (rs := [4]) (by kernel_rfl) (by simp) (AllReadyH.cons rfl (fun K0 hK => ?_) AllReadyH.nil)
     rw [if_pos (by rfl)]
     (try simp only [gs])
     go_simp
     refine hP.mono ?_
     clear hP
     rintro e z1 ⟨r, rfl, PH⟩
     have hG := PH.go z1 (Below.refl _ _)
     refine hK.out _ _ PH.bx.rg (fun hHeld => ?_)
     clear hK K0 PH
     (try simp only [gs])
     refine wpAnyH_ready (rs := [9]) (by kernel_rfl) (by simp) (AllReadyH.cons rfl (fun K0 hK => ?_) AllReadyH.nil)
     rw [if_pos (by rfl)]
     (try simp only [gs])
     go_simp
     refine hG.mono ?_
     clear hG
     rintro e z2 ⟨rfl, HS, HX⟩
     have HS2 : Hid (DpSt w d (j + 1) 104 0 z2) := HS
     refine hK.out _ _ HX.rg (fun hHeld => ?_)
     clear hK K0 HS HX
     (try simp only [gs])
     refine tk (v := ?_) 10 rfl hHeld (Or.inl ⟨by rfl, ?_⟩) ?_
     case refine_2 => (intro w hSw; (try dsimp only at hSw); go_simp; try (with_reducible rfl))
     (try simp only [gs])
     refine tk (v := ?_) 11 rfl hHeld (Or.inl ⟨by rfl, ?_⟩) ?_
     case refine_2 => (intro w hSw; (try dsimp only at hSw); go_simp; try (with_reducible rfl))
     (try simp only [gs])
     refine wpAnyH_done (by kernel_rfl) ?_ _
     refine NoPanic.normal ?_
     clear hHeld
     go_wp2_with fail
     go_meet
     case rel => exact ⟨rfl, HS2.out⟩
    | false =>
     have hcd := HCD.out _ HBX.out.bx.rg
     have h1 := dp_find HBX.out HJ.out o.dir s
     go_upto_region 14 with (go_at_call 21; refine h1.mono ?_; clear h1; rintro e z1 ⟨r1, r2, er, rfl, PH⟩)
     have hcd1 := HCD.out _ PH.bx.rg
     have h2 := PH.go z1 (Below.refl _ _)
     clear PH hcd
     go_upto_region 15 with (go_at_call 22; refine h2.mono ?_; clear h2; rintro e z2 ⟨rfl, HS, HX⟩)
     have HS2 : Hid (DpSt w d (j + 1) 104 0 z2) := HS
     clear hcd1 HS HX
     go_wp2_with fail
     go_meet
     case rel => exact ⟨by simp, HS2.out⟩
   case rest =>
    obtain ⟨rfl, HS1⟩ := hcut
    clear HBX HCD HCI HCV hInfo
    go_upto_region 31 with fail
    obtain ⟨x, V, cv, rv, C, R, A, B, hxn, -⟩ := HS1.out.called (z := wc.drew) ⟨rfl, rfl, rfl, Nat.le_refl _, fun _ _ => rfl⟩
    have HA : Hid (PlAt w d.lim d.p d.pv [] d.base d.q x V d.rp d.bv cv rv nilV C R [] [] wc.drew) := A
    have HOK : Hid (PlOk [] V C R [] [] (j + 1) ∧ x.n ≤ 104) := ⟨B, hxn⟩
    have hCh := vchanges_calls wc.drew d.q _ x V A.a.vw (by omega)
    have hCC : V.C.map Ch.plain = C := B.c.symm
    have hCl : V.C.length = C.length := by rw [← hCC, List.length_map]
    rw [hCC, hCl] at hCh
    obtain ⟨adc, capc, hcv, -, -, -, -⟩ := id A.d.c
    obtain ⟨adr, capr, hrv, -, -, -, -⟩ := id A.d.r
    obtain ⟨NC, hNC⟩ : ∃ n, n = C.length := ⟨_, rfl⟩
    obtain ⟨NR, hNR⟩ : ∃ n, n = R.length := ⟨_, rfl⟩
    have HN : Hid (NC = C.length ∧ NR = R.length) := ⟨hNC, hNR⟩
    rw [← hNC] at hcv hCh
    rw [← hNR] at hrv
    subst hcv
    subst hrv
    have HRC : Hid (RvC wc.drew d.rp d.bv (.slice adc NC capc) (.slice adr NR capr) nilV) := ⟨A.d.blk⟩
    have HKR : Hid (∀ yy, Below wc.drew.heap.size wc.drew yy → RvC yy d.rp d.bv (.slice adc NC capc) (.slice adr NR capr) nilV) := fun yy h => ⟨(h.block d.rp A.d.lt).trans A.d.blk⟩
    clear A B hxn hCC hCl hNC hNR
    refine wp_region_noPanic ?_
    refine wp_region_held_drew (S := (fun yy => RvC yy d.rp d.bv (.slice adc NC capc) (.slice adr NR capr) nilV)) (by kernel_rfl) HRC.out (fun hHeld => ?_)
    refine tk (v := ?_) 0 rfl hHeld (Or.inl ⟨by rfl, ?_⟩) ?_
    case refine_2 => (intro w hSw; (try dsimp only at hSw); go_simp; try (with_reducible rfl))
    (try simp only [gs])
    refine tk (v := ?_) 1 rfl hHeld (Or.inl ⟨by rfl, ?_⟩) ?_
    case refine_2 => (intro w hSw; (try dsimp only at hSw); go_simp; try (with_reducible rfl))
    (try simp only [gs])
    refine tk (v := ?_) 2 rfl hHeld (Or.inl ⟨by rfl, ?_⟩) ?_
    case refine_2 => (intro w hSw; (try dsimp only at hSw); go_simp; try (with_reducible rfl))
    (try simp only [gs])
    refine tk (v := ?_) 3 rfl hHeld (Or.inl ⟨by rfl, ?_⟩) ?_
    case refine_2 => (intro w hSw; (try dsimp only at hSw); go_simp; try (with_reducible rfl))
    (try simp only [gs])
    refine tk (v := ?_) 5 rfl hHeld (Or.inl ⟨by rfl, ?_⟩) ?_
    case refine_2 => (intro w hSw; (try dsimp only at hSw); go_simp; try (with_reducible rfl))
    (try simp only [gs])
    refine tk (v := ?_) 6 rfl hHeld (Or.inl ⟨by rfl, ?_⟩) ?_
    case refine_2 => (intro w hSw; (try dsimp only at hSw); go_simp; try (with_reducible rfl))
    (try simp only [gs])
    refine tk (v := ?_) 7 rfl hHeld (Or.inl ⟨by rfl, ?_⟩) ?_
    case refine_2 => (intro w hSw; (try dsimp only at hSw); go_simp; try (with_reducible rfl))
    (try simp only [gs])
    refine tk (v := ?_) 8 rfl hHeld (Or.inl ⟨by rfl, ?_⟩) ?_
    case refine_2 => (intro w hSw; (try dsimp only at hSw); have hc := hSw.c1; go_simp; try (with_reducible rfl))
    (try simp only [gs])
    generalize wc.drew = z0 at *
    refine wpAnyH_ready (rs := [4]) (by kernel_rfl) (by simp) (AllReadyH.cons rfl (fun K0 hK => ?_) AllReadyH.nil)
    rw [if_pos (by rfl)]
    (try simp only [gs])
    go_simp
    refine hCh.mono ?_
    clear hCh
    rintro e z1 ⟨adC, capC, rfl, o1, b1⟩
    have HB1 : Hid (Below z0.heap.size z0 z1) := b1
    have hSC := sameC_calls z1 (.slice adC NC capC) (.slice adc NC capc) C C o1.slB ((HA.out.called (Nat.zero_le _) b1).d.c) (by have := HOK.out.1.lenC; have := HJ.out; omega)
    rw [decide_eq_true rfl] at hSC
    refine hK.out _ _ (HKR.out z1 b1) (fun hHeld => ?_)
    clear hK K0 o1 b1
    (try simp only [gs])
    refine wpAnyH_ready (rs := [9]) (by kernel_rfl) (by simp) (AllReadyH.cons rfl (fun K0 hK => ?_) AllReadyH.nil)
    rw [if_pos (by rfl)]
    (try simp only [gs])
    go_simp
    refine hSC.mono ?_
    clear hSC
    rintro e z2 ⟨rfl, b2⟩
    have HB2 : Hid (Below z0.heap.size z0 z2) := HB1.out.trans (b2.mono HB1.out.size)
    refine hK.out _ _ (HKR.out z2 HB2.out) (fun hHeld => ?_)
    clear hK K0 b2 HB1
    (try simp only [gs])
    refine tk (v := ?_) 10 rfl hHeld (Or.inl ⟨by rfl, ?_⟩) ?_
    case refine_2 => (intro w hSw; (try dsimp only at hSw); go_simp; try (with_reducible rfl))
    (try simp only [gs])
    refine tk (v := ?_) 11 rfl hHeld (Or.inl ⟨by rfl, ?_⟩) ?_
    case refine_2 => (intro w hSw; (try dsimp only at hSw); go_simp; try (with_reducible rfl))
    (try simp only [gs])
    refine tk (v := ?_) 12 rfl hHeld (Or.inl ⟨by rfl, ?_⟩) ?_
    case refine_2 => (intro w hSw; (try dsimp only at hSw); go_simp; try (with_reducible rfl))
    (try simp only [gs])
    refine tk (v := ?_) 13 rfl hHeld (Or.inl ⟨by rfl, ?_⟩) ?_
    case refine_2 => (intro w hSw; (try dsimp only at hSw); go_simp; try (with_reducible rfl))
    (try simp only [gs])
    refine tk (v := ?_) 15 rfl hHeld (Or.inl ⟨by rfl, ?_⟩) ?_
    case refine_2 => (intro w hSw; (try dsimp only at hSw); go_simp; try (with_reducible rfl))
    (try simp only [gs])
    refine tk (v := ?_) 16 rfl hHeld (Or.inl ⟨by rfl, ?_⟩) ?_
    case refine_2 => (intro w hSw; (try dsimp only at hSw); go_simp; try (with_reducible rfl))
    (try simp only [gs])
    refine tk (v := ?_) 17 rfl hHeld (Or.inl ⟨by rfl, ?_⟩) ?_
    case refine_2 => (intro w hSw; (try dsimp only at hSw); go_simp; try (with_reducible rfl))
    (try simp only [gs])
    refine tk (v := ?_) 18 rfl hHeld (Or.inl ⟨by rfl, ?_⟩) ?_
    case refine_2 => (intro w hSw; (try dsimp only at hSw); have hc := hSw.c2; go_simp; try (with_reducible rfl))
    (try simp only [gs])
    have hRe := vreads_at (HA.out.called (Nat.zero_le _) HB2.out).a (by have := HOK.out.2; omega)
    refine wpAnyH_ready (rs := [14]) (by kernel_rfl) (by simp) (AllReadyH.cons rfl (fun K0 hK => ?_) AllReadyH.nil)
    rw [if_pos (by rfl)]
    (try simp only [gs])
    go_simp
    refine hRe.mono ?_
    clear hRe
    rintro e z3 ⟨vR, RR, rfl, o3, b3, i3, l3⟩
    obtain rfl : RR = R := Is.unique i3 HOK.out.1.rd (fun _ _ => rfl)
    have HB3 : Hid (Below z0.heap.size z0 z3) := HB2.out.trans (b3.mono HB2.out.size)
    have HRR : Hid (RR.length ≤ 300) := (show _ ≤ _ by have := HOK.out.2; omega)
    have hSR := same_calls z3 vR (.slice adr NR capr) RR RR o3.slB ((HA.out.called (Nat.zero_le _) HB3.out).d.r)
    rw [decide_eq_true rfl] at hSR
    refine hK.out _ _ (HKR.out z3 HB3.out) (fun hHeld => ?_)
    clear hK K0 o3 b3 i3 l3 HB2
    (try simp only [gs])
    refine wpAnyH_ready (rs := [19]) (by kernel_rfl) (by simp) (AllReadyH.cons rfl (fun K0 hK => ?_) AllReadyH.nil)
    rw [if_pos (by rfl)]
    (try simp only [gs])
    go_simp
    refine hSR.mono ?_
    clear hSR
    rintro e z4 ⟨rfl, b4⟩
    have HB4 : Hid (Below z0.heap.size z0 z4) := HB3.out.trans (b4.mono HB3.out.size)
    refine hK.out _ _ (HKR.out z4 HB4.out) (fun hHeld => ?_)
    clear hK K0 b4 HB3
    (try simp only [gs])
    refine tk (v := ?_) 20 rfl hHeld (Or.inl ⟨by rfl, ?_⟩) ?_
    case refine_2 => (intro w hSw; (try dsimp only at hSw); go_simp; try (with_reducible rfl))
    (try simp only [gs])
    refine tk (v := ?_) 21 rfl hHeld (Or.inl ⟨by rfl, ?_⟩) ?_
    case refine_2 => (intro w hSw; (try dsimp only at hSw); go_simp; try (with_reducible rfl))
    (try simp only [gs])
    refine wpAnyH_done (by kernel_rfl) ?_ _
    refine NoPanic.normal ?_
    clear hHeld
    have HE : Hid (DpSt w d (j + 1) 100 300 z4) := by
     have hmo := HOK.out.1.most
     exact ⟨_, V, _, _, C, RR, (HA.out.called (Nat.zero_le _) HB4.out).tight (j + 1) hmo, HOK.out.1, by have := HJ.out; show j + 1 ≤ 100; omega, .inr HRR.out⟩
    clear HRC HKR HA HOK HN HRR HB4
    go_wp2_with fail
    go_roundg gg
    case measure => omega
    exact ⟨j + 1, by omega, by simp, HE.out⟩
end Go.Proofs.YtgicanpggndbeaaGreat
