import Derived.Test.YtbbelhkdpmcoeaaGreatSi
import Derived.Test.YtbbelhkdpmcoeaaGreatB45
import Derived.Test.YtbbelhkdpmcoeaaGreatB46
/- ViewPlays: a step on both tells the same (all but Scan). -/
namespace Go.Proofs.YtbbelhkdpmcoeaaGreat
set_option linter.unusedVariables false
set_option maxRecDepth 100000
open Go.RowKit

/-- Both, behind j steps. -/
def PlSt (w0 : World) (lim p : Nat) (pv : Value) (m : List Pa) (base q rp : Nat) (bv : Value) (j nx : Nat) (y : World) : Prop :=
  ∃ (x : VR) (V : VS) (cv rv mv : Value) (C : List Ch) (R : List Sp) (l : List SV) (M : List (Value × List Ch)) (D : List (List Ch)), PlAt w0 lim p pv m base q x V rp bv cv rv mv C R l M y ∧ PlOk m V C R M D j ∧ x.n ≤ nx
set_option maxRecDepth 100000 in
set_option maxHeartbeats 8000000 in
theorem psame_put (w0 : World) (lim p : Nat) (pv : Value) (m : List Pa) (base q : Nat) (x : VR) (V : VS) (rp : Nat) (bv cv rv mv : Value) (C : List Ch) (R : List Sp) (l : List SV) (M : List (Value × List Ch)) (D : List (List Ch)) (j : Nat) (y : World) (h : PlAt w0 lim p pv m base q x V rp bv cv rv mv C R l M y) (ok : PlOk m V C R M D j) (hj : j ≤ 60) (hx : x.n ≤ 100) (hR : R.length ≤ 300) (o : Vo) (hk1 : o.kind = 1) :
    Calls Tryz.prog 10 #[.pointer (some ⟨q, 0, none⟩), .pointer (some ⟨rp, 0, none⟩), .agg (encO.c o).toArray] y fun e y' => e = .returned (.bool true) ∧ PlSt w0 lim p pv m base q rp bv (j + 1) 104 y' := by
  have b1 : Below y.heap.size y (y.alloc (.cells (encO.c o).toArray 46)) := (Below.refl _ y).alloc (Nat.le_refl _) _
  have hm5 : m.length ≤ 5000 := by have := ok.len; omega
  have HM5 : Hid (m.length ≤ 5000) := hm5
  have HA : Hid (PlAt w0 lim p pv m base q x V rp bv cv rv mv C R l M (y.alloc (.cells (encO.c o).toArray 46))) := h.called hm5 b1
  have HX : Hid (¬ x.own q y.heap.size ∧ rp < y.heap.size ∧ y.heap.size < (y.alloc (.cells (encO.c o).toArray 46)).heap.size) := ⟨fun e => Nat.lt_irrefl _ (h.a.vw.lt e), h.d.lt, by simp⟩
  have HBR : Hid ((y.alloc (.cells (encO.c o).toArray 46)).rangeAt y.heap.size 0 (encO.c o)) := (InB.mk (heap_alloc_new _ _) : InB encO 46 (y.alloc (.cells (encO.c o).toArray 46)) y.heap.size o).range
  have HOK : Hid (PlOk m V C R M D j) := ok
  have HN : Hid (j ≤ 60 ∧ x.n ≤ 100 ∧ R.length ≤ 300) := ⟨hj, hx, hR⟩
  have hInfoO : (Tryz.prog.info? 29).map (·.size) = some (bc o.k).length := by rw [bc_length, o.h]; exact Tryz.key_info
  have hInfoS : (Tryz.prog.info? 44).map (·.size) = some (encS.c o.sp).length := by rw [encS.len]; exact Tryz.span_info
  clear b1 h ok hj hx hR hm5
  go_enter Tryz.func10, Tryz.ntmps10
  go_upto_region 1 with fail
  generalize y.alloc (.cells (encO.c o).toArray 46) = Y at *
  generalize y.heap.size = b at *
  have hcs : Y.cell? ⟨b, 26, none⟩ = some (.string (str o.s)) := by have := range_oStr HBR.out; simpa using this
  have hck : Y.cell? ⟨b, 0, none⟩ = some (.int .i64 o.kind) := by have := range_oKind HBR.out; simpa using this
  have hcut := str_take50 o.s
  have hm0 : (0 : Int) ≤ min ((str o.s).size : Int) 50 := by omega
  have hm1 : min ((str o.s).size : Int) 50 ≤ ((str o.s).size : Int) := by omega
  rw [hk1] at hck
  go_upto_region 3 with fail
  clear hcs hck hcut hm0 hm1
  go_upto_region 4 with fail
  have HAD : Hid (PlAt w0 lim p pv m base q x V rp bv cv rv mv C R l M Y.drew) := HA.out.called HM5.out ⟨rfl, rfl, rfl, Nat.le_refl _, fun _ _ => rfl⟩
  refine wp_region_noPanic ?_
  refine wp_region_held_drew (S := (fun yy => yy.rangeAt b 0 (encO.c o))) (by kernel_rfl) (HBR.out) (fun hHeld => ?_)
  refine wpAnyH_take (i := 0) (v := ?_) rfl (by kernel_rfl) (by kernel_rfl) (by kernel_rfl) (fun _ _ _ h => h) (Or.inl ⟨by rfl, ?_⟩) hHeld ?_
  case refine_2 => (intro w hSw; (try dsimp only at hSw); go_simp; try (with_reducible rfl))
  (try simp only [gs])
  refine wpAnyH_take (i := 1) (v := ?_) rfl (by kernel_rfl) (by kernel_rfl) (by kernel_rfl) (fun _ _ _ h => h) (Or.inl ⟨by rfl, ?_⟩) hHeld ?_
  case refine_2 => (intro w hSw; (try dsimp only at hSw); go_simp; try (with_reducible rfl))
  (try simp only [gs])
  refine wpAnyH_take (i := 2) rfl (by kernel_rfl) (by kernel_rfl) (by kernel_rfl) (fun _ _ _ h => h) (yieldsIf_load_mid (by rfl) _ _ rfl _ _ rfl _ _ (fun _ h => range_oKey h) Tryz.underlying29 rfl hInfoO) hHeld ?_
  (try simp only [gs])
  refine wpAnyH_take (i := 3) (v := ?_) rfl (by kernel_rfl) (by kernel_rfl) (by kernel_rfl) (fun _ _ _ h => h) (Or.inl ⟨by rfl, ?_⟩) hHeld ?_
  case refine_2 => (intro w hSw; (try dsimp only at hSw); go_simp; try (with_reducible rfl))
  (try simp only [gs])
  refine wpAnyH_take (i := 5) (v := ?_) rfl (by kernel_rfl) (by kernel_rfl) (by kernel_rfl) (fun _ _ _ h => h) (Or.inl ⟨by rfl, ?_⟩) hHeld ?_
  case refine_2 => (intro w hSw; (try dsimp only at hSw); go_simp; try (with_reducible rfl))
  (try simp only [gs])
  refine wpAnyH_take (i := 6) (v := ?_) rfl (by kernel_rfl) (by kernel_rfl) (by kernel_rfl) (fun _ _ _ h => h) (Or.inl ⟨by rfl, ?_⟩) hHeld ?_
  case refine_2 => (intro w hSw; (try dsimp only at hSw); go_simp; try (with_reducible rfl))
  (try simp only [gs])
  refine wpAnyH_take (i := 7) rfl (by kernel_rfl) (by kernel_rfl) (by kernel_rfl) (fun _ _ _ h => h) (yieldsIf_load_mid (by rfl) _ _ rfl _ _ rfl _ _ (fun _ h => range_oKey h) Tryz.underlying29 rfl hInfoO) hHeld ?_
  (try simp only [gs])
  refine wpAnyH_take (i := 8) (v := ?_) rfl (by kernel_rfl) (by kernel_rfl) (by kernel_rfl) (fun _ _ _ h => h) (Or.inl ⟨by rfl, ?_⟩) hHeld ?_
  case refine_2 => (intro w hSw; (try dsimp only at hSw); go_simp; try (with_reducible rfl))
  (try simp only [gs])
  have HB0 : Hid (Y.drew.rangeAt b 0 (encO.c o) ∧ b < Y.drew.heap.size) := ⟨HBR.out, HX.out.2.2⟩
  generalize Y.drew = Y0 at *
  cases hov : okV (o.s.take 50) with
  | true =>
    have HOV : Hid (okV (o.s.take 50) = true) := hov
    have hPu := HAD.out.a.put (plainC_base lim p pv m base HM5.out) (fun i hi => hi.elim) (by have := HN.out; omega) o.ch rfl hov
    clear hov
    refine wpAnyH_ready (rs := [4]) (by kernel_rfl) (by simp) (AllReadyH.cons rfl (fun K0 hK => ?_) AllReadyH.nil)
    rw [if_pos (by rfl)]
    (try simp only [gs])
    go_simp
    refine hPu.mono ?_
    clear hPu
    rintro e y2 ⟨rfl, x9, T9⟩
    have HR9 : Hid (VRan noB w0 lim (fun _ w => PlC lim w p pv m base) 9 (.iface 26 (.pointer (some ⟨p, 0, none⟩))) q x 104 (V.change o.ch) Y0 x9 y2) := T9.ran (by have := HN.out; omega)
    have HP2 : Hid (PlAt w0 lim p pv m base q x9 (V.change o.ch) rp bv cv rv mv C R l M y2) := HAD.out.fst HR9.out
    have HB2 : Hid (y2.rangeAt b 0 (encO.c o) ∧ b < y2.heap.size) := ⟨range_same' HB0.out.1 (HR9.out.fr.block b HB0.out.2 (fun e => e.elim HX.out.1 (fun e => e))), Nat.lt_of_lt_of_le HB0.out.2 HR9.out.fr.size⟩
    have hPw := rvput_calls y2 rp bv cv rv mv m C R M HP2.out.d (fun g off n cap e => HP2.out.hp g (by rw [e]; rfl)) (by have := HOK.out.lenC; have := HN.out; omega) o.ch rfl HOV.out
    clear T9
    refine hK.out _ _ HB2.out.1 (fun hHeld => ?_)
    clear hK K0
    (try simp only [gs])
    refine wpAnyH_ready (rs := [9]) (by kernel_rfl) (by simp) (AllReadyH.cons rfl (fun K0 hK => ?_) AllReadyH.nil)
    rw [if_pos (by rfl)]
    (try simp only [gs])
    go_simp
    refine hPw.mono ?_
    clear hPw
    rintro e y3 ⟨rfl, F3, cv', C', d3, n3, i3, -⟩
    have HF3 : Hid (FrV (fun i => i = rp) y2 y3) := F3
    have HQ : Hid (PlAt w0 lim p pv m base q x9 (V.change o.ch) rp bv cv' rv mv C' R l M y3) := HP2.out.snd F3 d3 (HP2.out.ml.past HP2.out.d F3 HP2.out.hp) ⟨HP2.out.off.p, HP2.out.off.b, fun _ => HP2.out.new n3, HP2.out.off.r, HP2.out.off.m, HP2.out.off.e⟩ HP2.out.hp
    have HE : Hid (PlSt w0 lim p pv m base q rp bv (j + 1) 104 y3) := ⟨x9, V.change o.ch, cv', rv, mv, C', R, l, M, D, HQ.out, HOK.out.change o.ch (fun e => by cases e) i3, HR9.out.n⟩
    have hb3 : y3.rangeAt b 0 (encO.c o) := range_same' HB2.out.1 (HF3.out.block b HB2.out.2 (Nat.ne_of_gt HX.out.2.1))
    clear F3 d3 n3 i3
    refine hK.out _ _ hb3 (fun hHeld => ?_)
    clear hK K0 hb3
    (try simp only [gs])
    refine wpAnyH_take (i := 10) (v := ?_) rfl (by kernel_rfl) (by kernel_rfl) (by kernel_rfl) (fun _ _ _ h => h) (Or.inl ⟨by rfl, ?_⟩) hHeld ?_
    case refine_2 => (intro w hSw; (try dsimp only at hSw); go_simp; try (with_reducible rfl))
    (try simp only [gs])
    refine wpAnyH_take (i := 11) (v := ?_) rfl (by kernel_rfl) (by kernel_rfl) (by kernel_rfl) (fun _ _ _ h => h) (Or.inl ⟨by rfl, ?_⟩) hHeld ?_
    case refine_2 => (intro w hSw; (try dsimp only at hSw); go_simp; try (with_reducible rfl))
    (try simp only [gs])
    refine wpAnyH_done (by kernel_rfl) ?_ _
    refine NoPanic.normal ?_
    clear hHeld
    go_wp2_with fail
    go_ret
    exact ⟨rfl, HE.out⟩
  | false =>
    have HOV : Hid (okV (o.s.take 50) = false) := hov
    have hPu := vput_bad Y0 q o.kz (o.s.take 50) hov
    clear hov
    refine wpAnyH_ready (rs := [4]) (by kernel_rfl) (by simp) (AllReadyH.cons rfl (fun K0 hK => ?_) AllReadyH.nil)
    rw [if_pos (by rfl)]
    (try simp only [gs])
    go_simp
    refine hPu.mono ?_
    clear hPu
    rintro e y2 ⟨rfl, b9⟩
    have HR9 : Hid (Below Y0.heap.size Y0 y2) := b9
    have HP2 : Hid (PlAt w0 lim p pv m base q x V rp bv cv rv mv C R l M y2) := HAD.out.called HM5.out HR9.out
    have HB2 : Hid (y2.rangeAt b 0 (encO.c o) ∧ b < y2.heap.size) := ⟨range_same' HB0.out.1 (HR9.out.block b HB0.out.2), Nat.lt_of_lt_of_le HB0.out.2 HR9.out.size⟩
    have hPw := rvput_bad y2 rp o.kz (o.s.take 50) HOV.out
    clear b9
    refine hK.out _ _ HB2.out.1 (fun hHeld => ?_)
    clear hK K0
    (try simp only [gs])
    refine wpAnyH_ready (rs := [9]) (by kernel_rfl) (by simp) (AllReadyH.cons rfl (fun K0 hK => ?_) AllReadyH.nil)
    rw [if_pos (by rfl)]
    (try simp only [gs])
    go_simp
    refine hPw.mono ?_
    clear hPw
    rintro e y3 ⟨rfl, b3⟩
    have HQ : Hid (PlAt w0 lim p pv m base q x V rp bv cv rv mv C R l M y3) := HP2.out.called HM5.out b3
    have HE : Hid (PlSt w0 lim p pv m base q rp bv (j + 1) 104 y3) := ⟨x, V, cv, rv, mv, C, R, l, M, D, HQ.out, HOK.out.up, by have := HN.out; omega⟩
    have hb3 : y3.rangeAt b 0 (encO.c o) := range_same' HB2.out.1 (b3.block b HB2.out.2)
    clear b3
    refine hK.out _ _ hb3 (fun hHeld => ?_)
    clear hK K0 hb3
    (try simp only [gs])
    refine wpAnyH_take (i := 10) (v := ?_) rfl (by kernel_rfl) (by kernel_rfl) (by kernel_rfl) (fun _ _ _ h => h) (Or.inl ⟨by rfl, ?_⟩) hHeld ?_
    case refine_2 => (intro w hSw; (try dsimp only at hSw); go_simp; try (with_reducible rfl))
    (try simp only [gs])
    refine wpAnyH_take (i := 11) (v := ?_) rfl (by kernel_rfl) (by kernel_rfl) (by kernel_rfl) (fun _ _ _ h => h) (Or.inl ⟨by rfl, ?_⟩) hHeld ?_
    case refine_2 => (intro w hSw; (try dsimp only at hSw); go_simp; try (with_reducible rfl))
    (try simp only [gs])
    refine wpAnyH_done (by kernel_rfl) ?_ _
    refine NoPanic.normal ?_
    clear hHeld
    go_wp2_with fail
    go_ret
    exact ⟨rfl, HE.out⟩
set_option maxRecDepth 100000 in
set_option maxHeartbeats 8000000 in
theorem psame_delete (w0 : World) (lim p : Nat) (pv : Value) (m : List Pa) (base q : Nat) (x : VR) (V : VS) (rp : Nat) (bv cv rv mv : Value) (C : List Ch) (R : List Sp) (l : List SV) (M : List (Value × List Ch)) (D : List (List Ch)) (j : Nat) (y : World) (h : PlAt w0 lim p pv m base q x V rp bv cv rv mv C R l M y) (ok : PlOk m V C R M D j) (hj : j ≤ 60) (hx : x.n ≤ 100) (hR : R.length ≤ 300) (o : Vo) (hk2 : o.kind = 2) :
    Calls Tryz.prog 10 #[.pointer (some ⟨q, 0, none⟩), .pointer (some ⟨rp, 0, none⟩), .agg (encO.c o).toArray] y fun e y' => e = .returned (.bool true) ∧ PlSt w0 lim p pv m base q rp bv (j + 1) 104 y' := by
  have b1 : Below y.heap.size y (y.alloc (.cells (encO.c o).toArray 46)) := (Below.refl _ y).alloc (Nat.le_refl _) _
  have hm5 : m.length ≤ 5000 := by have := ok.len; omega
  have HM5 : Hid (m.length ≤ 5000) := hm5
  have HA : Hid (PlAt w0 lim p pv m base q x V rp bv cv rv mv C R l M (y.alloc (.cells (encO.c o).toArray 46))) := h.called hm5 b1
  have HX : Hid (¬ x.own q y.heap.size ∧ rp < y.heap.size ∧ y.heap.size < (y.alloc (.cells (encO.c o).toArray 46)).heap.size) := ⟨fun e => Nat.lt_irrefl _ (h.a.vw.lt e), h.d.lt, by simp⟩
  have HBR : Hid ((y.alloc (.cells (encO.c o).toArray 46)).rangeAt y.heap.size 0 (encO.c o)) := (InB.mk (heap_alloc_new _ _) : InB encO 46 (y.alloc (.cells (encO.c o).toArray 46)) y.heap.size o).range
  have HOK : Hid (PlOk m V C R M D j) := ok
  have HN : Hid (j ≤ 60 ∧ x.n ≤ 100 ∧ R.length ≤ 300) := ⟨hj, hx, hR⟩
  have hInfoO : (Tryz.prog.info? 29).map (·.size) = some (bc o.k).length := by rw [bc_length, o.h]; exact Tryz.key_info
  have hInfoS : (Tryz.prog.info? 44).map (·.size) = some (encS.c o.sp).length := by rw [encS.len]; exact Tryz.span_info
  clear b1 h ok hj hx hR hm5
  go_enter Tryz.func10, Tryz.ntmps10
  go_upto_region 1 with fail
  generalize y.alloc (.cells (encO.c o).toArray 46) = Y at *
  generalize y.heap.size = b at *
  have hcs : Y.cell? ⟨b, 26, none⟩ = some (.string (str o.s)) := by have := range_oStr HBR.out; simpa using this
  have hck : Y.cell? ⟨b, 0, none⟩ = some (.int .i64 o.kind) := by have := range_oKind HBR.out; simpa using this
  have hcut := str_take50 o.s
  have hm0 : (0 : Int) ≤ min ((str o.s).size : Int) 50 := by omega
  have hm1 : min ((str o.s).size : Int) 50 ≤ ((str o.s).size : Int) := by omega
  rw [hk2] at hck
  go_upto_region 3 with fail
  clear hcs hck hcut hm0 hm1
  have hkk : Y.rangeAt b 2 (bc o.k) := by have := range_oKey HBR.out; simpa using this
  have hDw := rvdelete_calls Y rp bv cv rv mv m C R M HA.out.d (fun g off n cap e => HA.out.hp g (by rw [e]; rfl)) (by have := HOK.out.lenC; have := HN.out; omega) o.kz
  go_upto_region 7 with (first
    | (refine load_part _ rfl b 2 rfl rfl _ o.h hkk ?_)
    | (go_at_call 25; refine hDw.mono ?_; clear hDw; rintro e y2 ⟨⟨xx, rfl⟩, F3, cv', C', d3, n3, i3, -⟩))
  have HQ2 : Hid (PlAt w0 lim p pv m base q x V rp bv cv' rv mv C' R l M y2 ∧ FrV (fun i => i = rp) Y y2) := ⟨HA.out.snd F3 d3 (HA.out.ml.past HA.out.d F3 HA.out.hp) ⟨HA.out.off.p, HA.out.off.b, fun _ => HA.out.new n3, HA.out.off.r, HA.out.off.m, HA.out.off.e⟩ HA.out.hp, F3⟩
  have HJ : Hid (JoinIs (C ++ [goneC o.kz]) C') := i3
  have hk2 : y2.rangeAt b 2 (bc o.k) := range_same' hkk (HQ2.out.2.block b HX.out.2.2 (Nat.ne_of_gt HX.out.2.1))
  have hDe := HQ2.out.1.a.delete (plainC_base lim p pv m base HM5.out) (fun i hi => hi.elim) (by have := HN.out; omega) o.kz
  clear F3 d3 n3 i3 hkk
  go_wp2_with (first
    | (refine load_part _ rfl b 2 rfl rfl _ o.h hk2 ?_)
    | (go_at_call 17; refine hDe.mono ?_; clear hDe; rintro e y3 ⟨rfl, x9, T9⟩))
  have HR9 : Hid (VRan noB w0 lim (fun _ w => PlC lim w p pv m base) 9 (.iface 26 (.pointer (some ⟨p, 0, none⟩))) q x 104 (V.change (goneC o.kz)) y2 x9 y3) := T9.ran (by have := HN.out; omega)
  have HQ : Hid (PlAt w0 lim p pv m base q x9 (V.change (goneC o.kz)) rp bv cv' rv mv C' R l M y3) := HQ2.out.1.fst HR9.out
  have HE : Hid (PlSt w0 lim p pv m base q rp bv (j + 1) 104 y3) := ⟨x9, V.change (goneC o.kz), cv', rv, mv, C', R, l, M, D, HQ.out, HOK.out.change (goneC o.kz) (fun _ => rfl) HJ.out, HR9.out.n⟩
  go_ret
  exact ⟨rfl, HE.out⟩
set_option maxRecDepth 100000 in
set_option maxHeartbeats 8000000 in
theorem psame_mark (w0 : World) (lim p : Nat) (pv : Value) (m : List Pa) (base q : Nat) (x : VR) (V : VS) (rp : Nat) (bv cv rv mv : Value) (C : List Ch) (R : List Sp) (l : List SV) (M : List (Value × List Ch)) (D : List (List Ch)) (j : Nat) (y : World) (h : PlAt w0 lim p pv m base q x V rp bv cv rv mv C R l M y) (ok : PlOk m V C R M D j) (hj : j ≤ 60) (hx : x.n ≤ 100) (hR : R.length ≤ 300) (o : Vo) (hk4 : o.kind = 4) :
    Calls Tryz.prog 10 #[.pointer (some ⟨q, 0, none⟩), .pointer (some ⟨rp, 0, none⟩), .agg (encO.c o).toArray] y fun e y' => e = .returned (.bool true) ∧ PlSt w0 lim p pv m base q rp bv (j + 1) 104 y' := by
  have b1 : Below y.heap.size y (y.alloc (.cells (encO.c o).toArray 46)) := (Below.refl _ y).alloc (Nat.le_refl _) _
  have hm5 : m.length ≤ 5000 := by have := ok.len; omega
  have HM5 : Hid (m.length ≤ 5000) := hm5
  have HA : Hid (PlAt w0 lim p pv m base q x V rp bv cv rv mv C R l M (y.alloc (.cells (encO.c o).toArray 46))) := h.called hm5 b1
  have HX : Hid (¬ x.own q y.heap.size ∧ rp < y.heap.size ∧ y.heap.size < (y.alloc (.cells (encO.c o).toArray 46)).heap.size) := ⟨fun e => Nat.lt_irrefl _ (h.a.vw.lt e), h.d.lt, by simp⟩
  have HBR : Hid ((y.alloc (.cells (encO.c o).toArray 46)).rangeAt y.heap.size 0 (encO.c o)) := (InB.mk (heap_alloc_new _ _) : InB encO 46 (y.alloc (.cells (encO.c o).toArray 46)) y.heap.size o).range
  have HOK : Hid (PlOk m V C R M D j) := ok
  have HN : Hid (j ≤ 60 ∧ x.n ≤ 100 ∧ R.length ≤ 300) := ⟨hj, hx, hR⟩
  have hInfoO : (Tryz.prog.info? 29).map (·.size) = some (bc o.k).length := by rw [bc_length, o.h]; exact Tryz.key_info
  have hInfoS : (Tryz.prog.info? 44).map (·.size) = some (encS.c o.sp).length := by rw [encS.len]; exact Tryz.span_info
  clear b1 h ok hj hx hR hm5
  go_enter Tryz.func10, Tryz.ntmps10
  go_upto_region 1 with fail
  generalize y.alloc (.cells (encO.c o).toArray 46) = Y at *
  generalize y.heap.size = b at *
  have hcs : Y.cell? ⟨b, 26, none⟩ = some (.string (str o.s)) := by have := range_oStr HBR.out; simpa using this
  have hck : Y.cell? ⟨b, 0, none⟩ = some (.int .i64 o.kind) := by have := range_oKind HBR.out; simpa using this
  have hcut := str_take50 o.s
  have hm0 : (0 : Int) ≤ min ((str o.s).size : Int) 50 := by omega
  have hm1 : min ((str o.s).size : Int) 50 ≤ ((str o.s).size : Int) := by omega
  rw [hk4] at hck
  go_upto_region 3 with fail
  clear hcs hck hcut hm0 hm1
  have hMk := HA.out.a.mark (plainC_base lim p pv m base HM5.out) (fun i hi => hi.elim) (by have := HN.out; omega)
  go_wp2_with (first
    | (go_at_call 15; refine hMk.mono ?_; clear hMk; rintro e y2 ⟨rfl, x9, T9⟩
       have HR9 : Hid (VRan noB w0 lim (fun _ w => PlC lim w p pv m base) 9 (.iface 26 (.pointer (some ⟨p, 0, none⟩))) q x 104 V.mark Y x9 y2) := T9.ran (by have := HN.out; omega)
       have HP2 : Hid (PlAt w0 lim p pv m base q x9 V.mark rp bv cv rv mv C R l M y2) := HA.out.fst HR9.out
       have hMw := rvmark_calls y2 rp bv cv rv mv m C R l M HP2.out.d HP2.out.ml (by have := HOK.out.lenM; have := HN.out; omega)
       rw [HOK.out.lenM.1] at hMw)
    | (go_at_call 28; refine hMw.mono ?_; clear hMw; rintro e y3 ⟨rfl, F3, mv', l', d3, m3, n3⟩))
  have hne : ∀ g, mv'.ownBlock = some g → g ≠ rp := fun g hg e => by
    have h1 := n3 g hg
    have h2 := HP2.out.d.lt
    omega
  have HQ : Hid (PlAt w0 lim p pv m base q x9 V.mark rp bv cv rv mv' C R l' (M ++ [(cv, C)]) y3) := HP2.out.snd F3 d3 m3 ⟨HP2.out.off.p, HP2.out.off.b, HP2.out.off.c, HP2.out.off.r, fun _ => HP2.out.new n3, fun e he hne g hg => by
    rcases List.mem_append.1 he with he | he
    · exact HP2.out.off.e e he hne g hg
    · rw [List.mem_singleton] at he; subst he; exact HP2.out.off.c hne g hg⟩ hne
  have HE : Hid (PlSt w0 lim p pv m base q rp bv (j + 1) 104 y3) := ⟨x9, V.mark, cv, rv, mv', C, R, l', M ++ [(cv, C)], D ++ [V.C], HQ.out, HOK.out.mark cv, HR9.out.n⟩
  go_ret
  exact ⟨by simp, HE.out⟩
set_option maxRecDepth 100000 in
set_option maxHeartbeats 8000000 in
theorem psame_back (w0 : World) (lim p : Nat) (pv : Value) (m : List Pa) (base q : Nat) (x : VR) (V : VS) (rp : Nat) (bv cv rv mv : Value) (C : List Ch) (R : List Sp) (l : List SV) (M : List (Value × List Ch)) (D : List (List Ch)) (j : Nat) (y : World) (h : PlAt w0 lim p pv m base q x V rp bv cv rv mv C R l M y) (ok : PlOk m V C R M D j) (hj : j ≤ 60) (hx : x.n ≤ 100) (hR : R.length ≤ 300) (o : Vo) (hk5 : o.kind = 5) :
    Calls Tryz.prog 10 #[.pointer (some ⟨q, 0, none⟩), .pointer (some ⟨rp, 0, none⟩), .agg (encO.c o).toArray] y fun e y' => e = .returned (.bool true) ∧ PlSt w0 lim p pv m base q rp bv (j + 1) 104 y' := by
  have b1 : Below y.heap.size y (y.alloc (.cells (encO.c o).toArray 46)) := (Below.refl _ y).alloc (Nat.le_refl _) _
  have hm5 : m.length ≤ 5000 := by have := ok.len; omega
  have HM5 : Hid (m.length ≤ 5000) := hm5
  have HA : Hid (PlAt w0 lim p pv m base q x V rp bv cv rv mv C R l M (y.alloc (.cells (encO.c o).toArray 46))) := h.called hm5 b1
  have HX : Hid (¬ x.own q y.heap.size ∧ rp < y.heap.size ∧ y.heap.size < (y.alloc (.cells (encO.c o).toArray 46)).heap.size) := ⟨fun e => Nat.lt_irrefl _ (h.a.vw.lt e), h.d.lt, by simp⟩
  have HBR : Hid ((y.alloc (.cells (encO.c o).toArray 46)).rangeAt y.heap.size 0 (encO.c o)) := (InB.mk (heap_alloc_new _ _) : InB encO 46 (y.alloc (.cells (encO.c o).toArray 46)) y.heap.size o).range
  have HOK : Hid (PlOk m V C R M D j) := ok
  have HN : Hid (j ≤ 60 ∧ x.n ≤ 100 ∧ R.length ≤ 300) := ⟨hj, hx, hR⟩
  have hInfoO : (Tryz.prog.info? 29).map (·.size) = some (bc o.k).length := by rw [bc_length, o.h]; exact Tryz.key_info
  have hInfoS : (Tryz.prog.info? 44).map (·.size) = some (encS.c o.sp).length := by rw [encS.len]; exact Tryz.span_info
  clear b1 h ok hj hx hR hm5
  go_enter Tryz.func10, Tryz.ntmps10
  go_upto_region 1 with fail
  generalize y.alloc (.cells (encO.c o).toArray 46) = Y at *
  generalize y.heap.size = b at *
  have hcs : Y.cell? ⟨b, 26, none⟩ = some (.string (str o.s)) := by have := range_oStr HBR.out; simpa using this
  have hck : Y.cell? ⟨b, 0, none⟩ = some (.int .i64 o.kind) := by have := range_oKind HBR.out; simpa using this
  have hcut := str_take50 o.s
  have hm0 : (0 : Int) ≤ min ((str o.s).size : Int) 50 := by omega
  have hm1 : min ((str o.s).size : Int) 50 ≤ ((str o.s).size : Int) := by omega
  rw [hk5] at hck
  go_upto_region 3 with fail
  clear hcs hck hcut hm0 hm1
  go_upto_region 19 with fail
  have HAD : Hid (PlAt w0 lim p pv m base q x V rp bv cv rv mv C R l M Y.drew) := HA.out.called HM5.out ⟨rfl, rfl, rfl, Nat.le_refl _, fun _ _ => rfl⟩
  refine wp_region_noPanic ?_
  refine wp_region_held_drew (S := (fun yy => yy.rangeAt b 0 (encO.c o))) (by kernel_rfl) (HBR.out) (fun hHeld => ?_)
  refine wpAnyH_take (i := 0) (v := ?_) rfl (by kernel_rfl) (by kernel_rfl) (by kernel_rfl) (fun _ _ _ h => h) (Or.inl ⟨by rfl, ?_⟩) hHeld ?_
  case refine_2 => (intro w hSw; (try dsimp only at hSw); go_simp; try (with_reducible rfl))
  (try simp only [gs])
  refine wpAnyH_take (i := 1) (v := ?_) rfl (by kernel_rfl) (by kernel_rfl) (by kernel_rfl) (fun _ _ _ h => h) (Or.inl ⟨by rfl, ?_⟩) hHeld ?_
  case refine_2 => (intro w hSw; (try dsimp only at hSw); go_simp; try (with_reducible rfl))
  (try simp only [gs])
  refine wpAnyH_take (i := 2) (v := ?_) rfl (by kernel_rfl) (by kernel_rfl) (by kernel_rfl) (fun _ _ _ h => h) (Or.inl ⟨by rfl, ?_⟩) hHeld ?_
  case refine_2 => (intro w hSw; (try dsimp only at hSw); have hc := range_oNum hSw; simp only [Nat.zero_add] at hc; go_simp; try (with_reducible rfl))
  (try simp only [gs])
  refine wpAnyH_take (i := 4) (v := ?_) rfl (by kernel_rfl) (by kernel_rfl) (by kernel_rfl) (fun _ _ _ h => h) (Or.inl ⟨by rfl, ?_⟩) hHeld ?_
  case refine_2 => (intro w hSw; (try dsimp only at hSw); go_simp; try (with_reducible rfl))
  (try simp only [gs])
  refine wpAnyH_take (i := 5) (v := ?_) rfl (by kernel_rfl) (by kernel_rfl) (by kernel_rfl) (fun _ _ _ h => h) (Or.inl ⟨by rfl, ?_⟩) hHeld ?_
  case refine_2 => (intro w hSw; (try dsimp only at hSw); go_simp; try (with_reducible rfl))
  (try simp only [gs])
  refine wpAnyH_take (i := 6) (v := ?_) rfl (by kernel_rfl) (by kernel_rfl) (by kernel_rfl) (fun _ _ _ h => h) (Or.inl ⟨by rfl, ?_⟩) hHeld ?_
  case refine_2 => (intro w hSw; (try dsimp only at hSw); have hc := range_oNum hSw; simp only [Nat.zero_add] at hc; go_simp; try (with_reducible rfl))
  (try simp only [gs])
  have HB0 : Hid (Y.drew.rangeAt b 0 (encO.c o) ∧ b < Y.drew.heap.size) := ⟨HBR.out, HX.out.2.2⟩
  generalize Y.drew = Y0 at *
  by_cases hbad : o.num < 0 ∨ (M.length : Int) ≤ o.num
  · have hBk := vback_bad Y0 q _ x V o.num HAD.out.a.vw (by rw [← HOK.out.lenM.1]; exact hbad)
    refine wpAnyH_ready (rs := [3]) (by kernel_rfl) (by simp) (AllReadyH.cons rfl (fun K0 hK => ?_) AllReadyH.nil)
    rw [if_pos (by rfl)]
    (try simp only [gs])
    go_simp
    refine hBk.mono ?_
    clear hBk
    rintro e y2 ⟨rfl, b9⟩
    have HR9 : Hid (Below Y0.heap.size Y0 y2) := b9
    have HP2 : Hid (PlAt w0 lim p pv m base q x V rp bv cv rv mv C R l M y2) := HAD.out.called HM5.out HR9.out
    have HB2 : Hid (y2.rangeAt b 0 (encO.c o) ∧ b < y2.heap.size) := ⟨range_same' HB0.out.1 (HR9.out.block b HB0.out.2), Nat.lt_of_lt_of_le HB0.out.2 HR9.out.size⟩
    have hBw := rvback_bad y2 rp bv cv rv mv m C R M HP2.out.d o.num hbad
    clear b9
    refine hK.out _ _ HB2.out.1 (fun hHeld => ?_)
    clear hK K0
    (try simp only [gs])
    refine wpAnyH_ready (rs := [7]) (by kernel_rfl) (by simp) (AllReadyH.cons rfl (fun K0 hK => ?_) AllReadyH.nil)
    rw [if_pos (by rfl)]
    (try simp only [gs])
    go_simp
    refine hBw.mono ?_
    clear hBw
    rintro e y3 ⟨rfl, b3⟩
    have HQ : Hid (PlAt w0 lim p pv m base q x V rp bv cv rv mv C R l M y3) := HP2.out.called HM5.out b3
    have HE : Hid (PlSt w0 lim p pv m base q rp bv (j + 1) 104 y3) := ⟨x, V, cv, rv, mv, C, R, l, M, D, HQ.out, HOK.out.up, by have := HN.out; omega⟩
    have hb3 : y3.rangeAt b 0 (encO.c o) := range_same' HB2.out.1 (b3.block b HB2.out.2)
    clear b3
    refine hK.out _ _ hb3 (fun hHeld => ?_)
    clear hK K0 hb3
    (try simp only [gs])
    refine wpAnyH_take (i := 8) (v := ?_) rfl (by kernel_rfl) (by kernel_rfl) (by kernel_rfl) (fun _ _ _ h => h) (Or.inl ⟨by rfl, ?_⟩) hHeld ?_
    case refine_2 => (intro w hSw; (try dsimp only at hSw); go_simp; try (with_reducible rfl))
    (try simp only [gs])
    refine wpAnyH_take (i := 9) (v := ?_) rfl (by kernel_rfl) (by kernel_rfl) (by kernel_rfl) (fun _ _ _ h => h) (Or.inl ⟨by rfl, ?_⟩) hHeld ?_
    case refine_2 => (intro w hSw; (try dsimp only at hSw); go_simp; try (with_reducible rfl))
    (try simp only [gs])
    refine wpAnyH_done (by kernel_rfl) ?_ _
    refine NoPanic.normal ?_
    clear hHeld
    go_wp2_with fail
    go_ret
    exact ⟨rfl, HE.out⟩
  · obtain ⟨k, hkn⟩ : ∃ k : Nat, o.num = (k : Int) := ⟨o.num.toNat, by omega⟩
    have hkM : k < M.length := by omega
    clear hbad
    have hBk := HAD.out.a.backR (plainC_base lim p pv m base HM5.out) (by have := HN.out; omega) k o.num hkn (by have := HOK.out.lenM; omega) (HOK.out.back hkM).2 104 ((fun (h : (V.back k).most (j + 1)) => (⟨by have := h.1; have := HN.out; omega, by have := h.2.1; have := HN.out; omega, by have := h.2.2.1; have := HN.out; omega, fun L hL => by have := h.2.2.2 L hL; have := HN.out; omega⟩ : (V.back k).most 104)) (HOK.out.back hkM).1.most)
    obtain ⟨Vk, hVk⟩ := HOK.out.at_ hkM
    have HKN : Hid (o.num = (k : Int) ∧ k < M.length ∧ M[k]? = some (Vk, (D.getD k []).map Ch.plain)) := ⟨hkn, hkM, hVk⟩
    clear hkn hkM hVk
    refine wpAnyH_ready (rs := [3]) (by kernel_rfl) (by simp) (AllReadyH.cons rfl (fun K0 hK => ?_) AllReadyH.nil)
    rw [if_pos (by rfl)]
    (try simp only [gs])
    go_simp
    refine hBk.mono ?_
    clear hBk
    rintro e y2 ⟨rfl, x9, R9⟩
    have HR9 : Hid (VRan noB w0 lim (fun _ w => PlC lim w p pv m base) 9 (.iface 26 (.pointer (some ⟨p, 0, none⟩))) q x 104 (V.back k) Y0 x9 y2) := R9
    have HP2 : Hid (PlAt w0 lim p pv m base q x9 (V.back k) rp bv cv rv mv C R l M y2) := HAD.out.fst HR9.out
    have HB2 : Hid (y2.rangeAt b 0 (encO.c o) ∧ b < y2.heap.size) := ⟨range_same' HB0.out.1 (HR9.out.fr.block b HB0.out.2 (fun e => e.elim HX.out.1 (fun e => e))), Nat.lt_of_lt_of_le HB0.out.2 HR9.out.fr.size⟩
    have hBw := rvback_calls y2 rp bv cv rv mv m C R l M HP2.out.d HP2.out.ml HP2.out.hp k Vk ((D.getD k []).map Ch.plain) HKN.out.2.2 o.num HKN.out.1 (by have := HOK.out.lenM; have := HN.out; omega)
    clear R9
    refine hK.out _ _ HB2.out.1 (fun hHeld => ?_)
    clear hK K0
    (try simp only [gs])
    refine wpAnyH_ready (rs := [7]) (by kernel_rfl) (by simp) (AllReadyH.cons rfl (fun K0 hK => ?_) AllReadyH.nil)
    rw [if_pos (by rfl)]
    (try simp only [gs])
    go_simp
    refine hBw.mono ?_
    clear hBw
    rintro e y3 ⟨rfl, F3, mv', d3, m3, o3⟩
    have HF3 : Hid (FrV (fun i => i = rp) y2 y3) := F3
    have hmem : (Vk, (D.getD k []).map Ch.plain) ∈ M := List.mem_of_getElem? HKN.out.2.2
    have hMne : M ≠ [] := fun e => by rw [e] at hmem; cases hmem
    have HQ : Hid (PlAt w0 lim p pv m base q x9 (V.back k) rp bv Vk rv mv' ((D.getD k []).map Ch.plain) R (l.take (k + 1)) (M.take (k + 1)) y3) := HP2.out.snd F3 d3 m3 ⟨HP2.out.off.p, HP2.out.off.b, fun hn => HP2.out.off.e _ hmem hn, HP2.out.off.r, fun _ g hg => HP2.out.off.m hMne g (by rw [← o3]; exact hg), fun e he => HP2.out.off.e e (List.mem_of_mem_take he)⟩ (fun g hg => HP2.out.hp g (by rw [← o3]; exact hg))
    have HE : Hid (PlSt w0 lim p pv m base q rp bv (j + 1) 104 y3) := ⟨x9, V.back k, Vk, rv, mv', (D.getD k []).map Ch.plain, R, l.take (k + 1), M.take (k + 1), D.take (k + 1), HQ.out, (HOK.out.back HKN.out.2.1).1, HR9.out.n⟩
    have hb3 : y3.rangeAt b 0 (encO.c o) := range_same' HB2.out.1 (HF3.out.block b HB2.out.2 (Nat.ne_of_gt HX.out.2.1))
    clear F3 d3 m3 o3 hmem hMne
    refine hK.out _ _ hb3 (fun hHeld => ?_)
    clear hK K0 hb3
    (try simp only [gs])
    refine wpAnyH_take (i := 8) (v := ?_) rfl (by kernel_rfl) (by kernel_rfl) (by kernel_rfl) (fun _ _ _ h => h) (Or.inl ⟨by rfl, ?_⟩) hHeld ?_
    case refine_2 => (intro w hSw; (try dsimp only at hSw); go_simp; try (with_reducible rfl))
    (try simp only [gs])
    refine wpAnyH_take (i := 9) (v := ?_) rfl (by kernel_rfl) (by kernel_rfl) (by kernel_rfl) (fun _ _ _ h => h) (Or.inl ⟨by rfl, ?_⟩) hHeld ?_
    case refine_2 => (intro w hSw; (try dsimp only at hSw); go_simp; try (with_reducible rfl))
    (try simp only [gs])
    refine wpAnyH_done (by kernel_rfl) ?_ _
    refine NoPanic.normal ?_
    clear hHeld
    go_wp2_with fail
    go_ret
    exact ⟨rfl, HE.out⟩
set_option maxRecDepth 100000 in
set_option maxHeartbeats 8000000 in
theorem psame_get (w0 : World) (lim p : Nat) (pv : Value) (m : List Pa) (base q : Nat) (x : VR) (V : VS) (rp : Nat) (bv cv rv mv : Value) (C : List Ch) (R : List Sp) (l : List SV) (M : List (Value × List Ch)) (D : List (List Ch)) (j : Nat) (y : World) (h : PlAt w0 lim p pv m base q x V rp bv cv rv mv C R l M y) (ok : PlOk m V C R M D j) (hj : j ≤ 60) (hx : x.n ≤ 100) (hR : R.length ≤ 300) (o : Vo) (hn1 : (o.kind == 1) = false) (hn2 : (o.kind == 2) = false) (hn3 : (o.kind == 3) = false) (hn4 : (o.kind == 4) = false) (hn5 : (o.kind == 5) = false) :
    Calls Tryz.prog 10 #[.pointer (some ⟨q, 0, none⟩), .pointer (some ⟨rp, 0, none⟩), .agg (encO.c o).toArray] y fun e y' => e = .returned (.bool true) ∧ PlSt w0 lim p pv m base q rp bv (j + 1) 104 y' := by
  have b1 : Below y.heap.size y (y.alloc (.cells (encO.c o).toArray 46)) := (Below.refl _ y).alloc (Nat.le_refl _) _
  have hm5 : m.length ≤ 5000 := by have := ok.len; omega
  have HM5 : Hid (m.length ≤ 5000) := hm5
  have HA : Hid (PlAt w0 lim p pv m base q x V rp bv cv rv mv C R l M (y.alloc (.cells (encO.c o).toArray 46))) := h.called hm5 b1
  have HX : Hid (¬ x.own q y.heap.size ∧ rp < y.heap.size ∧ y.heap.size < (y.alloc (.cells (encO.c o).toArray 46)).heap.size) := ⟨fun e => Nat.lt_irrefl _ (h.a.vw.lt e), h.d.lt, by simp⟩
  have HBR : Hid ((y.alloc (.cells (encO.c o).toArray 46)).rangeAt y.heap.size 0 (encO.c o)) := (InB.mk (heap_alloc_new _ _) : InB encO 46 (y.alloc (.cells (encO.c o).toArray 46)) y.heap.size o).range
  have HOK : Hid (PlOk m V C R M D j) := ok
  have HN : Hid (j ≤ 60 ∧ x.n ≤ 100 ∧ R.length ≤ 300) := ⟨hj, hx, hR⟩
  have hInfoO : (Tryz.prog.info? 29).map (·.size) = some (bc o.k).length := by rw [bc_length, o.h]; exact Tryz.key_info
  have hInfoS : (Tryz.prog.info? 44).map (·.size) = some (encS.c o.sp).length := by rw [encS.len]; exact Tryz.span_info
  clear b1 h ok hj hx hR hm5
  go_enter Tryz.func10, Tryz.ntmps10
  go_upto_region 1 with fail
  generalize y.alloc (.cells (encO.c o).toArray 46) = Y at *
  generalize y.heap.size = b at *
  have hcs : Y.cell? ⟨b, 26, none⟩ = some (.string (str o.s)) := by have := range_oStr HBR.out; simpa using this
  have hck : Y.cell? ⟨b, 0, none⟩ = some (.int .i64 o.kind) := by have := range_oKind HBR.out; simpa using this
  have hcut := str_take50 o.s
  have hm0 : (0 : Int) ≤ min ((str o.s).size : Int) 50 := by omega
  have hm1 : min ((str o.s).size : Int) 50 ≤ ((str o.s).size : Int) := by omega
  skip
  go_upto_region 3 with fail
  clear hcs hck hcut hm0 hm1
  have hkk : Y.rangeAt b 2 (bc o.k) := by have := range_oKey HBR.out; simpa using this
  have hGe := VAt.get (k := 8) (plainC_base lim p pv m base HM5.out) (⟨HA.out.a.vw, HA.out.a.base, HA.out.a.own, HA.out.a.bel, HA.out.a.le, HA.out.a.limy⟩) (fun i hi => hi.elim) (by have := HN.out; omega) o.kz
  unfold gv at hGe
  go_upto_region 21 with (first
    | (refine load_part _ rfl b 2 rfl rfl _ o.h hkk ?_)
    | (go_at_call 20; refine hGe.mono ?_; clear hGe; rintro e y2 ⟨rfl, T9⟩))
  have HR9 : Hid (VRan noB w0 lim (fun _ w => PlC lim w p pv m base) 8 (.iface 26 (.pointer (some ⟨p, 0, none⟩))) q x 104 (getW V o.kz) Y { x with n := x.n + 1 } y2) := ⟨T9.at_, T9.fr, T9.own, by have := HN.out; show x.n + 1 ≤ 104; omega⟩
  have HP2 : Hid (PlAt w0 lim p pv m base q { x with n := x.n + 1 } (getW V o.kz) rp bv cv rv mv C R l M y2) := HA.out.fst HR9.out
  have hk2 : y2.rangeAt b 2 (bc o.k) := range_same' hkk (HR9.out.fr.block b HX.out.2.2 (fun e => e.elim HX.out.1 (fun e => e)))
  have hGw := rvget_calls y2 rp bv cv rv mv m C R M HP2.out.d (fun g off n cap e => HP2.out.hp g (by rw [e]; rfl)) (by have := HN.out; omega) (by have := HOK.out.len; omega) (by have := HOK.out.lenC; have := HN.out; omega) o.kz
  clear T9 hkk
  go_upto_region 22 with (first
    | (refine load_part _ rfl b 2 rfl rfl _ o.h hk2 ?_)
    | (go_at_call 30; refine hGw.mono ?_; clear hGw; rintro e y3 ⟨mm, i3, rfl, F3, rv', R', d3, hT, hF⟩))
  have hgd : getV V.C (plGe m) o.kz = match look Pa.n mm o.kz.n with
      | none => ([], false, 0)
      | some p => (p.v, true, 0) := get_doc HOK.out.asc HOK.out.mi.asc HOK.out.g (by rw [← HOK.out.c]; exact i3) o.kz
  have hlk : (look Ch.n C o.kz.n).isSome = (look Ch.n V.C o.kz.n).isSome := by rw [HOK.out.c, plains_look]; cases look Ch.n V.C o.kz.n <;> rfl
  have HE : Hid (PlSt w0 lim p pv m base q rp bv (j + 1) 104 y3) := by
    cases hq : (look Ch.n V.C o.kz.n).isSome with
    | true =>
      obtain ⟨e1, e2⟩ := hT (by rw [hlk]; exact hq)
      subst e1
      subst e2
      have hV : getW V o.kz = V := by unfold getW; rw [if_pos hq]
      have HP3 := HP2.out
      rw [hV] at HP3
      exact ⟨{ x with n := x.n + 1 }, V, cv, _, mv, C, _, l, M, D, HP3.snd F3 d3 (HP3.ml.past HP3.d F3 HP3.hp) HP3.off HP3.hp, HOK.out.up, HR9.out.n⟩
    | false =>
      obtain ⟨n3, r3⟩ := hF (by rw [hlk]; exact hq)
      have hV : getW V o.kz = { V with R := V.R ++ [oneSp o.kz] } := by unfold getW; rw [if_neg (by rw [hq]; decide)]
      have HP3 := HP2.out
      rw [hV] at HP3
      exact ⟨{ x with n := x.n + 1 }, { V with R := V.R ++ [oneSp o.kz] }, cv, rv', mv, C, R', l, M, D, HP3.snd F3 d3 (HP3.ml.past HP3.d F3 HP3.hp) ⟨HP3.off.p, HP3.off.b, HP3.off.c, fun _ => HP3.new n3, HP3.off.m, HP3.off.e⟩ HP3.hp, HOK.out.read (oneSp o.kz) r3, HR9.out.n⟩
  have hg9 : gotV9 mm o.kz = (getV V.C (plGe m) o.kz).1 ∧ gotB mm o.kz = (getV V.C (plGe m) o.kz).2.1 ∧ (getV V.C (plGe m) o.kz).2.2 = 0 := by
    rw [hgd, gotV9, gotB]
    cases look Pa.n mm o.kz.n <;> exact ⟨rfl, rfl, rfl⟩
  rw [hg9.1, hg9.2.1]
  have hz := hg9.2.2
  generalize getV V.C (plGe m) o.kz = gg at *
  clear hgd hlk hT hF i3 F3 d3 hg9
  obtain ⟨g1, g2, g3⟩ := gg
  have hz3 : g3 = 0 := hz
  subst hz3
  go_wp2_with fail
  go_ret
  exact ⟨by simp, HE.out⟩
end Go.Proofs.YtbbelhkdpmcoeaaGreat
