import Derived.Test.YtbbelhkdpmcoeaaGreatB47
import Derived.Test.YtbbelhkdpmcoeaaGreatB27
/- A row of one's own whose elements are written over, one by one (generic); both views beside it. -/
namespace Go.Proofs.YtbbelhkdpmcoeaaGreat
set_option linter.unusedVariables false
set_option maxRecDepth 100000
open Go.RowKit

/-- The row v held l at w0; its first n elements may have been written over. -/
structure Scr {α : Type} {k : Nat} (E : Enc α k) (w0 : World) (v : Value) (l : List α) (n : Nat) (w : World) : Prop where
  fr : FrV (fun i => v.ownBlock = some i) w0 w
  at_ : ∀ i (hi : i < l.length), n ≤ i → ∃ g cap ty cur, v = .slice (some ⟨g, 0, none⟩) l.length cap ∧ w.heap[g]? = some (.cells cur ty (0, 0)) ∧ w.rangeAt g (i * k) (E.c l[i])
section
variable {α : Type} {k : Nat} {E : Enc α k} {w0 w : World} {v : Value} {l : List α} {n : Nat}
theorem Scr.of {ty : TypeId} {base : Nat} (h : Own E ty w base v l) : Scr E w v l 0 w := by
  refine ⟨FrV.refl _ _, fun i hi _ => ?_⟩
  rcases h.2 with ⟨rfl, h0⟩ | ⟨g, cap, cur, rfl, hb, hg, hn, hm, _⟩
  · omega
  · refine ⟨g, cap, ty, cur, rfl, hg, ?_⟩
    obtain ⟨g', off, e, -, hr⟩ := SlB.at h.slB i hi
    cases e
    simpa using hr
theorem Scr.put (h : Scr E w0 v l n w) {g cap : Nat} {ty : TypeId} {cur : Array Value} (hv : v = .slice (some ⟨g, 0, none⟩) l.length cap) (hb : w.heap[g]? = some (.cells cur ty (0, 0))) (off : Nat) (ho : off < k) (u : Value) : Scr E w0 v l (n + 1) (w.setCell ⟨g, n * k + off, none⟩ u) := by
  have hg : v.ownBlock = some g := by rw [hv]; rfl
  refine ⟨h.fr.trans (S' := fun i => v.ownBlock = some i) ⟨⟨rfl, rfl, rfl, by simp, fun j hj => absurd hj (Nat.not_lt_zero j)⟩, fun i _ hn => heap_setCell_other _ _ _ _ (fun e => hn (by subst e; exact hg))⟩ (fun i e => .inl e), fun i hi hin => ?_⟩
  obtain ⟨g', cap', ty', cur', hv', hb', hr⟩ := h.at_ i hi (by omega)
  have e1 : g' = g := by
    rw [hv'] at hg
    cases hg
    rfl
  subst e1
  have hc2 : (w.setCell ⟨g', n * k + off, none⟩ u).heap[g']? = some (.cells (cur.setIfInBounds (n * k + off) u) ty (0, 0)) := by
    rw [setCell_eq_setRow w g' _ _ _ _ _ hb]
    exact setRow_heap w g' _ _ _ _ hb
  refine ⟨g', cap', ty, _, hv', hc2, fun j z hz => ?_⟩
  · have hj : j < k := by have := (List.getElem?_eq_some_iff.1 hz).1; rwa [E.len] at this
    have hne : (⟨g', i * k + j, none⟩ : Addr) ≠ ⟨g', n * k + off, none⟩ := fun e => by
      have h1 : i * k + j = n * k + off := congrArg Addr.off e
      have h2 : (n + 1) * k ≤ i * k := Nat.mul_le_mul_right k hin
      rw [Nat.add_mul, Nat.one_mul] at h2
      omega
    rw [World.cell?_setCell_other _ _ _ _ (fun e => hne e.symm)]
    exact hr j z hz
end
section
variable {w0 : World} {lim p : Nat} {pv : Value} {m : List Pa} {base q : Nat} {x : VR} {V : VS} {rp : Nat} {bv cv rv mv : Value} {C : List Ch} {R : List Sp} {l : List SV} {M : List (Value × List Ch)} {y y' : World} {S : Nat → Prop}
theorem PlAt.aside (h : PlAt w0 lim p pv m base q x V rp bv cv rv mv C R l M y) (f : FrV S y y') (hx : ∀ i, S i → ¬ x.own q i) (hl : ∀ i, S i → lim ≤ i) (ho : RvOff S rp bv cv rv mv m C R M) : PlAt w0 lim p pv m base q x V rp bv cv rv mv C R l M y' := by
  have hb : PlC lim y p pv m base := h.a.base
  refine ⟨h.a.aside f (fun i hi => ⟨Nat.le_trans h.a.le (hl i hi), hx i hi⟩) (hb.kept f.size fun i hi => ?_), h.d.aside f ho, h.ml.aside f ho.m ho.e, h.off, h.hp, h.lp⟩
  have hlt : i < lim := by
    rcases hi with rfl | hi
    · exact hb.lo
    · exact hb.lov i hi
  exact f.block i (Nat.lt_of_lt_of_le hlt hb.le) (fun e => by have := hl i e; omega)
end
end Go.Proofs.YtbbelhkdpmcoeaaGreat
/- ViewPlays: a step of Scan on both; a step. -/
namespace Go.Proofs.YtbbelhkdpmcoeaaGreat
set_option linter.unusedVariables false
set_option maxRecDepth 100000
open Go.RowKit

set_option maxRecDepth 100000 in
set_option maxHeartbeats 8000000 in
theorem psame_scan (w0 : World) (lim p : Nat) (pv : Value) (m : List Pa) (base q : Nat) (x : VR) (V : VS) (rp : Nat) (bv cv rv mv : Value) (C : List Ch) (R : List Sp) (l : List SV) (M : List (Value × List Ch)) (D : List (List Ch)) (j : Nat) (y : World) (h : PlAt w0 lim p pv m base q x V rp bv cv rv mv C R l M y) (ok : PlOk m V C R M D j) (hj : j ≤ 60) (hx : x.n ≤ 100) (hR : R.length ≤ 300) (o : Vo) (hk3 : o.kind = 3) :
    Calls Tryz.prog 10 #[.pointer (some ⟨q, 0, none⟩), .pointer (some ⟨rp, 0, none⟩), .agg (encO.c o).toArray] y fun e y' => e = .returned (.bool true) ∧ PlSt w0 lim p pv m base q rp bv (j + 1) 104 y' := by
  have b1 : Below y.heap.size y (y.alloc (.cells (encO.c o).toArray 46)) := (Below.refl _ y).alloc (Nat.le_refl _) _
  have hm5 : m.length ≤ 5000 := by have := ok.len; omega
  have HM5 : Hid (m.length ≤ 5000) := hm5
  have HA : Hid (PlAt w0 lim p pv m base q x V rp bv cv rv mv C R l M (y.alloc (.cells (encO.c o).toArray 46))) := h.called hm5 b1
  have HX : Hid (¬ x.own q y.heap.size ∧ rp < y.heap.size ∧ y.heap.size < (y.alloc (.cells (encO.c o).toArray 46)).heap.size) := ⟨fun e => Nat.lt_irrefl _ (h.a.vw.lt e), h.d.lt, by simp⟩
  have HBR : Hid ((y.alloc (.cells (encO.c o).toArray 46)).rangeAt y.heap.size 0 (encO.c o)) := (InB.mk (heap_alloc_new _ _) : InB encO 46 (y.alloc (.cells (encO.c o).toArray 46)) y.heap.size o).range
  have HOK : Hid (PlOk m V C R M D j) := ok
  have HN : Hid (j ≤ 60 ∧ x.n ≤ 100 ∧ R.length ≤ 300) := ⟨hj, hx, hR⟩
  have hInfoO : (Tryz.prog.info? 29).map (·.size) = some (bc o.k).length := by rw [bc_length, o.h]; exact Tryz.key_info
  have hInfoS : (Tryz.prog.info? 44).map (·.size) = some (encS.c o.sp).length := by rw [encS.len]; exact Tryz.span_info
  clear b1 h ok hj hx hR hm5
  go_enter Tryz.func10, Tryz.ntmps10
  go_upto_region 1 with fail
  generalize y.alloc (.cells (encO.c o).toArray 46) = Y at *
  generalize y.heap.size = b at *
  have hcs : Y.cell? ⟨b, 26, none⟩ = some (.string (str o.s)) := by have := range_oStr HBR.out; simpa using this
  have hck : Y.cell? ⟨b, 0, none⟩ = some (.int .i64 o.kind) := by have := range_oKind HBR.out; simpa using this
  have hcut := str_take50 o.s
  have hm0 : (0 : Int) ≤ min ((str o.s).size : Int) 50 := by omega
  have hm1 : min ((str o.s).size : Int) 50 ≤ ((str o.s).size : Int) := by omega
  rw [hk3] at hck
  go_upto_region 3 with fail
  clear hcs hck hcut hm0 hm1
  have hsp : Y.rangeAt b 27 (encS.c o.sp) := by have := range_oSp HBR.out; rw [Nat.zero_add] at this; exact this
  have hSc := VAt.scan (k := 8) (plainC_base lim p pv m base HM5.out) (⟨HA.out.a.vw, HA.out.a.base, HA.out.a.own, HA.out.a.bel, HA.out.a.le, HA.out.a.limy⟩) (fun i hi => hi.elim) (by have := HN.out; omega) o.sp
  have e0 : scanV V.C (fun s => (scanL s m, 0)) o.sp = (applyL (scanL o.sp m) (inL V.C o.sp), 0) := rfl
  rw [e0] at hSc
  have HSV : Hid (scanV V.C (fun s => (scanL s m, 0)) o.sp = (applyL (scanL o.sp m) (inL V.C o.sp), 0)) := e0
  have hLl := scanV_len V.C m (by have := HOK.out.len; omega) (by have := HOK.out.most.1; have := HN.out; omega) o.sp
  rw [e0] at hLl
  dsimp only at hSc hLl
  obtain ⟨L, hL⟩ : ∃ L, L = applyL (scanL o.sp m) (inL V.C o.sp) := ⟨_, rfl⟩
  rw [← hL] at hSc HSV hLl
  obtain ⟨N, hN⟩ : ∃ N, N = L.length := ⟨_, rfl⟩
  rw [← hN] at hSc hLl
  have HLN : Hid (N = L.length ∧ N ≤ 5000) := ⟨hN, by omega⟩
  clear hL e0 hN
  go_upto_region 10 with (first
    | (refine load_el elS _ rfl b 27 rfl rfl o.sp hsp ?_)
    | (go_at_call 18; refine hSc.mono ?_; clear hSc; rintro e y2 ⟨adL, capL, rfl, oL, T9⟩))
  have HR9 : Hid (VRan noB w0 lim (fun _ w => PlC lim w p pv m base) 8 (.iface 26 (.pointer (some ⟨p, 0, none⟩))) q x 104 { V with R := V.R ++ [o.sp] } Y { x with n := x.n + 1 } y2) := ⟨T9.at_, T9.fr, T9.own, by have := HN.out; show x.n + 1 ≤ 104; omega⟩
  have HP2 : Hid (PlAt w0 lim p pv m base q { x with n := x.n + 1 } { V with R := V.R ++ [o.sp] } rp bv cv rv mv C R l M y2) := HA.out.fst HR9.out
  have hs2 : y2.rangeAt b 27 (encS.c o.sp) := range_same' hsp (HR9.out.fr.block b HX.out.2.2 (fun e => e.elim HX.out.1 (fun e => e)))
  have hSw := rvscan_calls y2 rp bv cv rv mv m C R M HP2.out.d (fun g off n cap e => HP2.out.hp g (by rw [e]; rfl)) (by have := HN.out; omega) (by have := HOK.out.len; omega) (by have := HOK.out.lenC; have := HN.out; omega) o.sp
  have HOL : Hid (Own encP 31 y2 Y.heap.size (.slice adL N capL) L) := oL
  clear T9 hsp oL
  go_upto_region 11 with (first
    | (refine load_el elS _ rfl b 27 rfl rfl o.sp hs2 ?_)
    | (go_at_call 27; refine hSw.mono ?_; clear hSw; rintro e y3 ⟨v3, mm, rfl, o3, i3, -, F3, rv', R', d3, n3, r3⟩
       obtain ⟨ad3, cap3, rfl, -, -, -, -⟩ := id o3.slB
       have hne : ∀ g, Value.ownBlock (.slice adL N capL) = some g → g ≠ rp := fun g hg e => by
         have h1 := (HOL.out.lt g hg).1
         have h2 := HA.out.d.lt
         omega
       have oL3 : Own encP 31 y3 Y.heap.size (.slice adL N capL) L := HOL.out.same fun g hg => F3.block g (HOL.out.lt g hg).2 (hne g hg)
       have hsd : (L, (0 : Int)) = (scanL o.sp mm, 0) := HSV.out.symm.trans (scan_doc HOK.out.asc HOK.out.mi.asc (by rw [← HOK.out.c]; exact i3) o.sp)
       have hLs : L = scanL o.sp mm := congrArg Prod.fst hsd
       have hSm := sameP_calls y3 (.slice adL N capL) (.slice ad3 (scanL o.sp mm).length cap3) L (scanL o.sp mm) oL3.slB o3.slB (by have := HLN.out; omega)
       rw [decide_eq_true hLs] at hSm
       have HP3 : Hid (PlAt w0 lim p pv m base q { x with n := x.n + 1 } { V with R := V.R ++ [o.sp] } rp bv cv rv' mv C R' l M y3 ∧ NewV y2.heap.size rv' ∧ Is R' (mem (R ++ [o.sp]))) := ⟨HP2.out.snd F3 d3 (HP2.out.ml.past HP2.out.d F3 HP2.out.hp) ⟨HP2.out.off.p, HP2.out.off.b, HP2.out.off.c, fun _ => HP2.out.new n3, HP2.out.off.m, HP2.out.off.e⟩ HP2.out.hp, n3, r3⟩
       have HO3 : Hid (Own encP 31 y3 Y.heap.size (.slice adL N capL) L) := oL3
       clear hne oL3 hsd hLs F3 d3 n3 r3 i3 o3)
    | (go_at_call 26; refine hSm.mono ?_; clear hSm; rintro e y4 ⟨rfl, b4⟩))
  have HP4 : Hid (PlAt w0 lim p pv m base q { x with n := x.n + 1 } { V with R := V.R ++ [o.sp] } rp bv cv rv' mv C R' l M y4) := HP3.out.1.called HM5.out b4
  have HS4 : Hid (Scr encP y4 (.slice adL N capL) L 0 y4) := Scr.of (HO3.out.below b4)
  have HOF : Hid (∀ i, Value.ownBlock (.slice adL N capL) = some i → Y.heap.size ≤ i ∧ i < y2.heap.size) := fun i hi => HOL.out.lt i hi
  clear hs2 b4
  go_upto_region 12 with fail
  go_loopg [11] N (fun gg i wr => ∃ k : Nat, k + gg = N ∧ i = .int .i64 (k : Int) ∧ Hid (Scr encP y4 (.slice adL N capL) L k wr))
  case atStart => exact ⟨0, by omega, rfl, HS4.out⟩
  case round =>
    clear HS4
    obtain ⟨k, hkg, rfl, HK⟩ := hrel
    cases gk with
    | zero =>
      have hkN : k = N := by omega
      subst hkN
      have HE : Hid (PlSt w0 lim p pv m base q rp bv (j + 1) 104 wr) := by
        have off := (HA.out.d.lts HA.out.ml)
        have P := HP4.out.aside HK.out.fr (fun i hi e => by
            have h1 := (HOF.out i hi).1
            have e2 : x.own q i := e
            have h2 := HA.out.a.vw.lt e2
            omega) (fun i hi => by have := HA.out.a.limy; have := (HOF.out i hi).1; omega)
          ⟨fun e => off.p (HOF.out _ e).1, fun hn g hg e => off.b hn g hg (HOF.out _ e).1, fun hn g hg e => off.c hn g hg (HOF.out _ e).1, fun hn g hg e => by
            have h1 := HP3.out.2.1 g hg
            have h2 := (HOF.out _ e).2
            omega, fun hn g hg e => off.m hn g hg (HOF.out _ e).1, fun x hx hn g hg e => off.e x hx hn g hg (HOF.out _ e).1⟩
        exact ⟨{ x with n := x.n + 1 }, { V with R := V.R ++ [o.sp] }, cv, rv', mv, C, R', l, M, D, P, HOK.out.read o.sp HP3.out.2.2, HR9.out.n⟩
      go_wp2_with fail
      go_ret
      exact ⟨rfl, HE.out⟩
    | succ gg =>
      have hkI : (k : Int) < (N : Int) := by omega
      have hk0 : (0 : Int) ≤ (k : Int) := by omega
      have hkb : (k : Int) ≤ 5000 := by have := HLN.out; omega
      obtain ⟨g, cap, ty, cur, hv, hb, hr⟩ := HK.out.at_ k (by have := HLN.out; omega) (Nat.le_refl _)
      have hN2 := HLN.out.1
      rw [← hN2] at hv
      cases hv
      obtain ⟨u1, hc⟩ : ∃ u1, wr.cell? ⟨g, k * 25 + 24, none⟩ = some (.string u1) := by
        have := hr 24 (.string (str (L[k]'(by omega)).v)) (by
          have hk24 : (bc (L[k]'(by omega)).k).length = 24 := by rw [bc_length, (L[k]'(by omega)).h]
          show (bc (L[k]'(by omega)).k ++ [Value.string (str (L[k]'(by omega)).v)])[24]? = _
          rw [List.getElem?_append_right (by omega), hk24]
          rfl)
        exact ⟨_, this⟩
      have hf := frozen_of_row wr g (k * 25 + 24) _ _ hb
      have HNX : Hid (Scr encP y4 (.slice (some ⟨g, 0, none⟩) N capL) L (k + 1) (wr.setCell ⟨g, k * 25 + 24, none⟩ (.string ⟨#[63]⟩))) := HK.out.put (by rw [hN2]) hb 24 (by decide) _
      clear hN2 hb hr
      go_wp2_with fail
      go_roundg gg
      case measure => omega
      case rel => exact ⟨k + 1, by omega, congrArg (Value.int .i64) (by omega), HNX.out⟩
/-- A step on both tells the same. -/
theorem psame_calls (w0 : World) (lim p : Nat) (pv : Value) (m : List Pa) (base q rp : Nat) (bv : Value) (j : Nat) (y : World) (o : Vo) (x : VR) (V : VS) (cv rv mv : Value) (C : List Ch) (R : List Sp) (l : List SV) (M : List (Value × List Ch)) (D : List (List Ch)) (h : PlAt w0 lim p pv m base q x V rp bv cv rv mv C R l M y) (ok : PlOk m V C R M D j) (hj : j ≤ 60) (hx : x.n ≤ 100) (hR : R.length ≤ 300) :
    Calls Tryz.prog 10 #[.pointer (some ⟨q, 0, none⟩), .pointer (some ⟨rp, 0, none⟩), .agg (encO.c o).toArray] y fun e y' => e = .returned (.bool true) ∧ PlSt w0 lim p pv m base q rp bv (j + 1) 104 y' := by
  have A := h
  by_cases h1 : o.kind = 1
  · exact psame_put _ _ _ _ _ _ _ _ _ _ _ _ _ _ _ _ _ _ D _ _ A ok hj hx hR o h1
  by_cases h2 : o.kind = 2
  · exact psame_delete _ _ _ _ _ _ _ _ _ _ _ _ _ _ _ _ _ _ D _ _ A ok hj hx hR o h2
  by_cases h3 : o.kind = 3
  · exact psame_scan _ _ _ _ _ _ _ _ _ _ _ _ _ _ _ _ _ _ D _ _ A ok hj hx hR o h3
  by_cases h4 : o.kind = 4
  · exact psame_mark _ _ _ _ _ _ _ _ _ _ _ _ _ _ _ _ _ _ D _ _ A ok hj hx hR o h4
  by_cases h5 : o.kind = 5
  · exact psame_back _ _ _ _ _ _ _ _ _ _ _ _ _ _ _ _ _ _ D _ _ A ok hj hx hR o h5
  exact psame_get _ _ _ _ _ _ _ _ _ _ _ _ _ _ _ _ _ _ D _ _ A ok hj hx hR o (by simpa using h1) (by simpa using h2) (by simpa using h3) (by simpa using h4) (by simpa using h5)
end Go.Proofs.YtbbelhkdpmcoeaaGreat
/- What must be in any case: shown. -/
namespace Go.Proofs.YtbbelhkdpmcoeaaGreat
set_option linter.unusedVariables false
set_option maxRecDepth 100000
open Go.RowKit

/-- The key of a number. -/
def vk (n : UInt8) : Kz := ⟨n :: zs 23, rfl⟩
def vp (n : UInt8) (v : List UInt8) : Pa := ⟨(vk n).k, (vk n).h, v⟩
def vc (n : UInt8) (v : List UInt8) : Ch := ⟨(vk n).k, (vk n).h, v, false⟩
def allV : Sp := ⟨zs 24, zs 24, true, rfl, rfl⟩
theorem vk1 : Tryz.prog.built 29 [(0, .int .u8 1)] = some (bc (1 :: zs 23)).toArray := by kernel_rfl
theorem vk2 : Tryz.prog.built 29 [(0, .int .u8 2)] = some (bc (2 :: zs 23)).toArray := by kernel_rfl
theorem vall : Tryz.prog.built 44 [(2, .bool true)] = some (sc (zs 24) (zs 24) true).toArray := by kernel_rfl
theorem vn12 : (vk 1).n < (vk 2).n := by decide
theorem vmap1 {m : List Pa} (h : MapIs [vp 1 [97]] m) : m = [vp 1 [97]] := h.unique (map_is _)
/-- The states that shown goes through. -/
def sv1 : VS := ⟨[], [], [[]]⟩
def sv2 : VS := ⟨[vc 2 [98]], [], [ [⟨vk 2, ch0, false⟩] ]⟩
def sv3 : VS := ⟨[goneC (vk 1), vc 2 [98]], [], [ [⟨vk 1, ch0, false⟩, ⟨vk 2, ch0, false⟩] ]⟩
def sv4 : VS := ⟨[goneC (vk 1), vc 2 [98]], [allV], [ [⟨vk 1, ch0, false⟩, ⟨vk 2, ch0, false⟩] ]⟩
def sv5 : VS := ⟨[], [allV], [[]]⟩
def sv6 : VS := ⟨[], [allV, oneSp (vk 1)], [[]]⟩
theorem st1 : vs0.mark = sv1 := rfl
theorem st2 : sv1.change (vc 2 [98]) = sv2 := by kernel_rfl
theorem st3 : sv2.change (goneC (vk 1)) = sv3 := by kernel_rfl
theorem st5 : sv4.back 0 = sv5 := by kernel_rfl
theorem st6 : getW sv5 (vk 1) = sv6 := by kernel_rfl
theorem sc4 : scanV sv3.C (fun s => (scanL s [vp 1 [97]], 0)) allV = ([vp 2 [98]], 0) := by kernel_rfl
theorem gt6 : getV sv5.C (plGe [vp 1 [97]]) (vk 1) = ([97], true, 0) := by kernel_rfl
theorem ok4 : ∀ L ∈ sv4.U, FoOk L := by
  intro L hL
  simp only [sv4, List.mem_singleton] at hL
  subst hL
  intro f hf hw
  simp only [List.mem_cons, List.not_mem_nil, or_false] at hf
  rcases hf with rfl | rfl <;> cases hw
theorem mo5 : sv5.most 4 := ⟨by decide, by decide, by decide, by intro L hL; simp only [sv5, List.mem_singleton] at hL; subst hL; decide⟩
theorem rd6 {R : List Sp} (h : Is R (mem sv6.R)) : R.length = 1 := by
  have e : R = [allV] := Is.unique h (h := mem [allV]) ⟨⟨by decide, .inl ⟨rfl, rfl, rfl⟩⟩, fun _ _ => rfl⟩ (fun K _ => by
    have h1 : allV.inb (num K) = true := by
      unfold Sp.inb
      have h2 : num allV.F = 0 := by decide
      have h3 : allV.e = true := rfl
      rw [h2, h3]
      simp
    simp [sv6, mem_cons, h1])
  rw [e]
  rfl
/-- Where the one pair of a row lies. -/
theorem own_one {w : World} {base : Nat} {ad : Option Addr} {cap : Nat} {a : Pa} (h : Own encP 31 w base (.slice ad 1 cap) [a]) : ∃ g, ad = some ⟨g, 0, none⟩ ∧ base ≤ g ∧ g < w.heap.size ∧ w.cell? ⟨g, 24, none⟩ = some (.string (str a.v)) := by
  have hl := h.lt
  have hs := h.slB
  rcases h.2 with ⟨e, _⟩ | ⟨g, cap', cur, e, q⟩
  · cases e
  · cases e
    obtain ⟨g', off, e2, _, hr⟩ := SlB.at hs 0 (show 0 < [a].length from Nat.zero_lt_succ _)
    cases e2
    refine ⟨g, rfl, (hl g rfl).1, (hl g rfl).2, ?_⟩
    have := range_vP hr
    simpa using this
set_option maxRecDepth 100000 in
set_option maxHeartbeats 8000000 in
theorem shown12_calls (w : World) : Calls Tryz.prog 4 #[] w fun e w' => e = .returned (.bool true) ∧ Below w.heap.size w w' := by
  go_enter Tryz.func4, Tryz.ntmps4
  go_wp2_with (first
    | (refine build_at rfl rfl (cells := (bc (1 :: zs 23)).toArray) (by simp only [List.map_toArray, List.map_cons, List.map_nil]; exact vk1) ?_)
    | (refine build_p rfl _ _ rfl (vp 1 [97]) rfl rfl ?_)
    | (refine build_el1 rowP rfl _ rfl (vp 1 [97]) rfl (by decide) ?_; intro x0 o0 b0 s0 hb0
       have hN := newPlain_calls x0 _ [vp 1 [97]] o0.slB (by decide)
       have HB0 : Hid (Below w.heap.size w x0) := b0
       clear o0 b0 s0 hb0)
    | (go_at_call 6; refine hN.mono ?_; clear hN; rintro e x1 ⟨p, pv, m, rfl, hp, hm, -, hpl, b1⟩
       obtain rfl := vmap1 hm
       have HP : Hid (PlIn x1 p pv [vp 1 [97]] ∧ Below w.heap.size w x1) := ⟨hp, HB0.out.trans (b1.mono HB0.out.size)⟩
       have HD : Hid (Baser x1.heap.size noB (fun _ w => PlB x1.heap.size w p pv [vp 1 [97]]) (.iface 26 (.pointer (some ⟨p, 0, none⟩))) (plGe [vp 1 [97]]) (fun s => (scanL s [vp 1 [97]], 0))) := plain_base _ p pv _ (by decide)
       clear hm hp hpl b1 HB0
       have hV := VAt.new HD.out w x1 2 (PlB.of HP.out.1) HP.out.2.size HP.out.2)
    | (go_at_call 7; refine hV.mono ?_; clear hV; rintro e x2 ⟨q, x, rfl, A, hn, -, -⟩
       have hn0 : x.n = 0 := hn
       have HN : Hid (x.n ≤ 0) := Nat.le_of_eq hn
       clear hn hn0
       have HA : Hid (VAt w x1.heap.size (fun _ w => PlB x1.heap.size w p pv [vp 1 [97]]) 2 (.iface 26 (.pointer (some ⟨p, 0, none⟩))) q x vs0 x2) := A
       clear A
       have hM := HA.out.mark HD.out (fun i h => h.elim) (by have := HN.out; omega)
       rw [show ((vs0.U.length : Nat) : Int) = 0 from rfl] at hM)
    | (go_at_call 15; refine hM.mono ?_; clear hM; rintro e x3 ⟨rfl, r3, T3⟩
       have HA3 : Hid (VAt w x1.heap.size (fun _ w => PlB x1.heap.size w p pv [vp 1 [97]]) 2 (.iface 26 (.pointer (some ⟨p, 0, none⟩))) q r3 sv1 x3 ∧ r3.n ≤ 4) := ⟨T3.at_, by have := T3.n; have := HN.out; omega⟩
       clear T3 HA HN)
    | (refine build_at rfl rfl (cells := (bc (2 :: zs 23)).toArray) (by simp only [List.map_toArray, List.map_cons, List.map_nil]; exact vk2) ?_
       have hPu := HA3.out.1.put HD.out (fun i h => h.elim) (by have := HA3.out.2; omega) (vc 2 [98]) rfl (by decide))
    | (go_at_call 16; refine hPu.mono ?_; clear hPu; rintro e x4 ⟨rfl, r4, T4⟩
       have HA4 : Hid (VAt w x1.heap.size (fun _ w => PlB x1.heap.size w p pv [vp 1 [97]]) 2 (.iface 26 (.pointer (some ⟨p, 0, none⟩))) q r4 sv2 x4 ∧ r4.n ≤ 8) := ⟨by rw [← st2]; exact T4.at_, by have := T4.n; have := HA3.out.2; omega⟩
       clear T4 HA3
       have hDe := HA4.out.1.delete HD.out (fun i h => h.elim) (by have := HA4.out.2; omega) (vk 1))
    | (go_at_call 17; refine hDe.mono ?_; clear hDe; rintro e x5 ⟨rfl, r5, T5⟩
       have HA5 : Hid (VAt w x1.heap.size (fun _ w => PlB x1.heap.size w p pv [vp 1 [97]]) 2 (.iface 26 (.pointer (some ⟨p, 0, none⟩))) q r5 sv3 x5 ∧ r5.n ≤ 12) := ⟨by rw [← st3]; exact T5.at_, by have := T5.n; have := HA4.out.2; omega⟩
       clear T5 HA4
       have hSc := HA5.out.1.scan HD.out (fun i h => h.elim) (by have := HA5.out.2; omega) allV
       rw [sc4] at hSc)
    | (refine build_at rfl rfl (cells := (sc (zs 24) (zs 24) true).toArray) (by simp only [List.map_toArray, List.map_cons, List.map_nil]; exact vall) ?_)
    | (go_at_call 18; refine hSc.mono ?_; clear hSc; rintro e x6 ⟨ad, cap, rfl, o6, T6⟩
       obtain ⟨g, rfl, hg1, hg2, hg3⟩ := own_one o6
       have HA6 : Hid (VAt w x1.heap.size (fun _ w => PlB x1.heap.size w p pv [vp 1 [97]]) 1 (.iface 26 (.pointer (some ⟨p, 0, none⟩))) q { r5 with n := r5.n + 1 } sv4 x6 ∧ r5.n + 1 ≤ 13 ∧ g < x6.heap.size ∧ x6.cell? ⟨g, 24, none⟩ = some (.string (str [98])) ∧ ¬ r5.own q g) := ⟨T6.at_, by have := HA5.out.2; omega, hg2, hg3, fun e => by have := HA5.out.1.vw.lt e; omega⟩
       have hBa := HA6.out.1.back HD.out (show r5.n + 1 ≤ 1000 by have := HA6.out.2.1; omega) 0 (by decide) ok4 4 (by rw [st5]; exact mo5) (Nat.le_add_left _ _)
       rw [st5, show ((0 : Nat) : Int) = 0 from rfl] at hBa
       clear T6 HA5 o6 hg1 hg2 hg3)
    | (go_at_call 19; refine hBa.mono ?_; clear hBa; rintro e x7 ⟨rfl, r7, T7⟩
       have HA7 : Hid (VAt w x1.heap.size (fun _ w => PlB x1.heap.size w p pv [vp 1 [97]]) 1 (.iface 26 (.pointer (some ⟨p, 0, none⟩))) q r7 sv5 x7 ∧ r7.n ≤ 18 ∧ g < x7.heap.size ∧ x7.cell? ⟨g, 24, none⟩ = some (.string (str [98])) ∧ ¬ r7.own q g) := by
         have h6 := HA6.out
         refine ⟨T7.at_, by have h : r7.n ≤ r5.n + 1 + 4 := T7.n; omega, Nat.lt_of_lt_of_le h6.2.2.1 T7.fr.size, (World.cell?_of_block (T7.fr.block g h6.2.2.1 (fun e => e.elim h6.2.2.2.2 (fun q => q.elim)))).trans h6.2.2.2.1, fun e => (T7.own g e).elim h6.2.2.2.2 (fun q => by have := h6.2.2.1; omega)⟩
       clear T7 HA6
       have hGe := HA7.out.1.get HD.out (fun i h => h.elim) (by have := HA7.out.2.1; omega) (vk 1)
       rw [gt6, st6] at hGe
       simp only [gv] at hGe
       rw [show str [97] = (⟨#[97]⟩ : ByteArray) from rfl] at hGe)
    | (go_at_call 20; refine hGe.mono ?_; clear hGe; rintro e x8 ⟨rfl, T8⟩
       have HA8 : Hid (VAt w x1.heap.size (fun _ w => PlB x1.heap.size w p pv [vp 1 [97]]) 0 (.iface 26 (.pointer (some ⟨p, 0, none⟩))) q { r7 with n := r7.n + 1 } sv6 x8 ∧ r7.n + 1 ≤ 19) := ⟨T8.at_, by have := HA7.out.2.1; omega⟩
       have hg8 : x8.cell? ⟨g, 24, none⟩ = some (.string (str [98])) := by
         have h7 := HA7.out
         exact (World.cell?_of_block (T8.fr.block g h7.2.2.1 (fun e => e.elim h7.2.2.2.2 (fun q => q.elim)))).trans h7.2.2.2.1
       rw [show str [98] = (⟨#[98]⟩ : ByteArray) from rfl] at hg8
       clear T8 HA7
       have hSi := size_plain x8 p pv [vp 1 [97]] HA8.out.1.base.inn
       rw [show (([vp 1 [97]].length : Nat) : Int) = 1 from rfl] at hSi
       have hRe := vreads_at HA8.out.1 (show r7.n + 1 ≤ 50000 by have := HA8.out.2; omega))
    | (go_at_call 21; refine hSi.mono ?_; clear hSi; rintro e x9 ⟨rfl, hw9⟩; rw [hw9]; clear hw9)
    | (go_at_call 11; refine hRe.mono ?_; clear hRe; rintro e x10 ⟨vr, RR, rfl, o10, b10, i10, -⟩
       have hlR := rd6 i10
       obtain ⟨ad, cap2, rfl, -, -, -, -⟩ := id o10.slB
       rw [hlR]
       clear hlR o10 i10))
  go_ret
  exact ⟨rfl, HA8.out.1.bel.trans (b10.mono HA8.out.1.bel.size)⟩
end Go.Proofs.YtbbelhkdpmcoeaaGreat
/- The statements' own cuts. -/
namespace Go.Proofs.YtbbelhkdpmcoeaaGreat
set_option linter.unusedVariables false
set_option maxRecDepth 100000
open Go.RowKit

theorem str_take40 (v : List UInt8) : (str v).extract 0 (min ((str v).size : Int) 40).toNat = str (v.take 40) := by
  have h : (min ((str v).size : Int) 40).toNat = min v.length 40 := by rw [str_size]; omega
  rw [h]
  apply ByteArray.ext
  apply Array.ext'
  rw [ByteArray.data_extract]
  simp only [Array.toList_extract, str_list, List.extract_eq_take_drop, List.drop_zero, Nat.sub_zero]
  by_cases q : v.length ≤ 40
  · rw [Nat.min_eq_left q, List.take_length, List.take_of_length_le q]
  · rw [Nat.min_eq_right (by omega)]
/-- A value cut, as the statements cut it. -/
def cutP1 (p : Pa) : Pa := ⟨p.k, p.h, p.v.take 40⟩
def cutP (l : List Pa) : List Pa := (l.take 40).map cutP1
theorem cutP_len (l : List Pa) : (cutP l).length ≤ 40 := by simp [cutP]; omega
theorem cutP_take (l : List Pa) (k : Nat) (h : k < l.length) : (l.take (k + 1)).map cutP1 = (l.take k).map cutP1 ++ [cutP1 l[k]] := by
  rw [List.take_succ_eq_append_getElem h, List.map_append]
  rfl
theorem Pa.set_cut {w : World} {q : Nat} {c : Pa} (h : InB encP 31 w q c) : InB encP 31 (w.setCell ⟨q, 24, none⟩ (.string (str (c.v.take 40)))) q (cutP1 c) := by
  constructor
  rw [setCell_eq_setRow w q 24 _ _ _ _ h.blk, setRow_heap w q _ _ _ _ h.blk]
  have hk : (bc c.k).length = 24 := by rw [bc_length, c.h]
  congr 2
  show (pcd c).toArray.setIfInBounds 24 _ = (pcd (cutP1 c)).toArray
  simp only [pcd, List.setIfInBounds_toArray]
  rw [List.set_append_right _ _ (by omega), hk]
  rfl
set_option maxRecDepth 100000 in
set_option maxHeartbeats 4000000 in
theorem cutP_calls (w : World) (u : Value) (l : List Pa) (h : Sl encP w u l) :
    Calls Tryz.prog 5 #[u] w fun e w' => ∃ v, e = .returned v ∧ Own encP 31 w' w.heap.size v (cutP l) ∧ Below w.heap.size w w' := by
  have hl' := h
  obtain ⟨ad, cap, rfl, hcap, hmax, _, _⟩ := hl'
  have HI : Hid (∀ i (hi : i < l.length), ∃ g off, ad = some ⟨g, off, none⟩ ∧ g < w.heap.size ∧ w.rangeAt g (off + i * 25) (encP.c l[i])) := fun i hi => SlB.at h i hi
  obtain ⟨N, hN⟩ : ∃ N : Nat, N = l.length := ⟨_, rfl⟩
  rw [← hN] at hcap hmax ⊢
  have HN : Hid (N = l.length) := hN
  have HST : Hid (Below w.heap.size w w ∧ Own encP 31 w w.heap.size (.slice none 0 0) ((l.take 0).map cutP1)) := ⟨Below.refl _ _, Own.nil _ _ _ _⟩
  obtain ⟨M, hM⟩ : ∃ M : Nat, M = min N 40 := ⟨_, rfl⟩
  have HM : Hid (M = min N 40) := hM
  have hMN : M ≤ N := by omega
  have hM40 : M ≤ 40 := by omega
  clear hN h hM
  go_enter Tryz.func5, Tryz.ntmps5
  go_wp2
  go_loopg [3, 4] M (fun gg s3 i wr => ∃ k : Nat, k + gg = M ∧ i = .int .i64 (k : Int) ∧ Hid (Below w.heap.size w wr ∧ Own encP 31 wr w.heap.size s3 ((l.take k).map cutP1)))
  case atStart => exact ⟨0, by omega, rfl, HST.out⟩
  case round =>
    obtain ⟨k, hkg, rfl, HE⟩ := hrel
    clear HST
    cases gk with
    | zero =>
      have hkM : k = M := by omega
      subst hkM
      have hfin : cutP l = (l.take k).map cutP1 := by
        unfold cutP
        have h1 := HN.out
        have h2 := HM.out
        rcases Nat.le_total N 40 with q | q
        · rw [List.take_of_length_le (by omega), List.take_of_length_le (by omega)]
        · rw [show k = 40 by omega]
      have HF : Hid (cutP l = (l.take k).map cutP1) := hfin
      clear hfin
      rcases Nat.lt_or_ge k N with q | q
      · have hk40 : (k : Int) = 40 := by have := HM.out; omega
        have h1 : (k : Int) < (N : Int) := by omega
        have h2 : ¬ (k : Int) < 40 := by omega
        clear hk40
        go_wp2_with fail
        go_ret
        exact ⟨_, rfl, by rw [HF.out]; exact HE.out.2, HE.out.1⟩
      · have h1 : ¬ (k : Int) < (N : Int) := by omega
        go_wp2_with fail
        go_ret
        exact ⟨_, rfl, by rw [HF.out]; exact HE.out.2, HE.out.1⟩
    | succ gg =>
      have hlt : k < M := by omega
      have hltI : (k : Int) < (N : Int) := by omega
      have hlt40 : (k : Int) < 40 := by omega
      have hkl : k < l.length := by rw [← HN.out]; omega
      obtain ⟨g0, off, rfl, hg0, hat⟩ := HI.out k hkl
      have HR : Hid (wr.rangeAt g0 (off + k * 25) (encP.c l[k])) := range_same' hat (HE.out.1.block g0 hg0)
      have HTK : Hid ((l.take (k + 1)).map cutP1 = (l.take k).map cutP1 ++ [cutP1 l[k]]) := cutP_take l k hkl
      have hlen : ((l.take k).map cutP1).length = k := by simp; omega
      generalize l[k] = p at *
      generalize (l.take k).map cutP1 = L1 at *
      clear hat hkl
      go_upto_region 6 with (first
        | (refine load_el elP _ rfl g0 (off + k * 25) rfl rfl p HR.out ?_)
        | (refine store_el elP rfl _ _ rfl wr.heap.size rfl p rfl pa0 (InB.new encP _ wr pa0 _ rfl) ?_; intro x1 hu1 tx1 sx1))
      have BX : Below wr.heap.size wr x1 := ((Below.refl _ wr).alloc (Nat.le_refl _) _).trans (tx1.below (by simp) (Nat.le_refl _) (by simp))
      have hb1 : Below w.heap.size w x1 := HE.out.1.trans (BX.mono HE.out.1.size)
      have ho1 := HE.out.2.below BX
      have hlu := HE.out.2.lt
      have hqw := HE.out.1.size
      have cv := range_vP hu1.range
      simp only [Nat.zero_add] at cv
      have ff : x1.frozen? ⟨wr.heap.size, 24, none⟩ = false := by simp [World.frozen?, hu1.blk]
      have hu2 := Pa.set_cut hu1
      rw [← str_take40] at hu2
      have hb2 : Below w.heap.size w (x1.setCell ⟨wr.heap.size, 24, none⟩ (.string ((str p.v).extract 0 (min ((str p.v).size : Int) 40).toNat))) := hb1.setCell (by simp; omega) _
      have ho2 : Own encP 31 (x1.setCell ⟨wr.heap.size, 24, none⟩ (.string ((str p.v).extract 0 (min ((str p.v).size : Int) 40).toNat))) w.heap.size u3 L1 := ho1.same fun g hg => Below.heap_setCell _ _ _ _ (by have := (hlu g hg).2; simp; omega)
      clear HE HR tx1 sx1 BX
      generalize wr.heap.size = q at *
      go_upto_region 7 with fail
      generalize x1.setCell ⟨q, 24, none⟩ (.string ((str p.v).extract 0 (min ((str p.v).size : Int) 40).toNat)) = x2 at *
      clear cv ff hu1 hb1 ho1
      go_wp2_with (first
        | (refine load_el elP _ rfl q 0 rfl rfl (cutP1 p) hu2.range ?_)
        | (refine build_el1 rowP rfl _ rfl (cutP1 p) rfl (by decide) ?_; intro x3 ho3 b3 s3 h3
           have hb3 : Below w.heap.size w x3 := hb2.trans (b3.mono hb2.size)
           have hs3 := ho2.below b3)
        | (at_builtin; refine append_one rowP rfl _ _ rfl w.heap.size _ L1 rfl hs3 x2.heap.size (cutP1 p) rfl (0, 0) _ h3 (by omega) (by decide) (by have := hb3.size; omega) ?_
           intro g cap x4 ho4 gr4 nr4 lt4))
      go_roundg gg
      case measure => omega
      case rel => exact ⟨k + 1, by omega, congrArg (Value.int .i64) (by omega), (show Below w.heap.size w x4 ∧ Own encP 31 x4 w.heap.size _ ((l.take (k + 1)).map cutP1) from ⟨hb3.grown gr4 hb3.size (fun i hi => (hlu i hi).1), by rw [HTK.out]; rw [hlen] at ho4; exact ho4⟩)⟩
end Go.Proofs.YtbbelhkdpmcoeaaGreat
