import Derived.Test.YtbbelhkdpmcoeaaGreatSi
import Derived.Test.YtbbelhkdpmcoeaaGreatB48
import Derived.Test.YtbbelhkdpmcoeaaGreatB01
import Derived.Test.YtbbelhkdpmcoeaaGreatB06
import Derived.Test.YtbbelhkdpmcoeaaGreatB29
/- ViewPlays. -/
namespace Go.Proofs.YtbbelhkdpmcoeaaGreat
set_option linter.unusedVariables false
set_option maxRecDepth 100000
open Go.RowKit

theorem elO : ElTy Tryz.prog encO 46 := ⟨⟨_, Tryz.underlying46, rfl, rfl⟩, by kernel_rfl⟩
/-- What the loop carries. -/
def PlLp (w0 : World) (lim p : Nat) (pv : Value) (m : List Pa) (base q rp : Nat) (bv : Value) (j : Nat) (y : World) : Prop :=
  ∃ (x : VR) (V : VS) (cv rv mv : Value) (C : List Ch) (R : List Sp) (l : List SV) (M : List (Value × List Ch)) (D : List (List Ch)), PlAt w0 lim p pv m base q x V rp bv cv rv mv C R l M y ∧ PlOk m V C R M D j ∧ x.n ≤ 100 ∧ R.length ≤ 300
theorem PlAt.tight {w0 : World} {lim p : Nat} {pv : Value} {m : List Pa} {base q : Nat} {x : VR} {V : VS} {rp : Nat} {bv cv rv mv : Value} {C : List Ch} {R : List Sp} {l : List SV} {M : List (Value × List Ch)} {y : World} (h : PlAt w0 lim p pv m base q x V rp bv cv rv mv C R l M y) (n : Nat) (hn : V.most n) : PlAt w0 lim p pv m base q { x with n := n } V rp bv cv rv mv C R l M y :=
  ⟨h.a.tight n hn, h.d, h.ml, h.off, h.hp, h.lp⟩
/-- A flag in an element that is written over. -/
theorem Scr.cell {α : Type} {k : Nat} {E : Enc α k} {w0 w : World} {v : Value} {l : List α} {n : Nat} (h : Scr E w0 v l n w) (hn : n < l.length) (off : Nat) (hf : ∀ x : α, ∃ b, (E.c x)[off]? = some (.bool b)) : ∃ g cap ty cur b, v = .slice (some ⟨g, 0, none⟩) l.length cap ∧ w.heap[g]? = some (.cells cur ty (0, 0)) ∧ w.cell? ⟨g, n * k + off, none⟩ = some (.bool b) := by
  obtain ⟨g, cap, ty, cur, hv, hb, hr⟩ := h.at_ n hn (Nat.le_refl _)
  obtain ⟨b, hb'⟩ := hf l[n]
  exact ⟨g, cap, ty, cur, b, hv, hb, hr off _ hb'⟩
theorem flagS (x : Sp) : ∃ b, (encS.c x)[48]? = some (.bool b) := by
  refine ⟨x.e, ?_⟩
  have h1 : (bc x.F).length = 24 := by rw [bc_length, x.hF]
  have h2 : (bc x.T).length = 24 := by rw [bc_length, x.hT]
  show (sc x.F x.T x.e)[48]? = _
  unfold sc
  rw [List.getElem?_append_right (by simp; omega)]
  simp [h1, h2]
theorem flagC (x : Ch) : ∃ b, (encC.c x)[25]? = some (.bool b) := by
  refine ⟨x.g, ?_⟩
  have h1 : (bc x.k).length = 24 := by rw [bc_length, x.h]
  show (bc x.k ++ [Value.string (str x.v), .bool x.g])[25]? = _
  rw [List.getElem?_append_right (by omega), h1]
  rfl
set_option maxRecDepth 100000 in
set_option maxHeartbeats 16000000 in
theorem viewPlays_walk (w : World) (u : Value) (l : List Pa) (h : Sl encP w u l) (u1 : Value) (ops : List Vo) (h1 : Sl encO w u1 ops) :
    Calls Tryz.prog 3 #[u, u1] w fun e w' => e = .returned (.bool true) ∧ Below w.heap.size w w' := by
  have hsh := shown12_calls w
  have HU : Hid (Sl encP w u l ∧ Sl encO w u1 ops) := ⟨h, h1⟩
  obtain ⟨ad, cap, rfl, hcap, hmax, -, -⟩ := id h1
  have HI : Hid (∀ i (hi : i < ops.length), ∃ g off, ad = some ⟨g, off, none⟩ ∧ g < w.heap.size ∧ w.rangeAt g (off + i * 76) (encO.c ops[i])) := fun i hi => SlB.at h1 i hi
  obtain ⟨N, hN⟩ : ∃ N : Nat, N = ops.length := ⟨_, rfl⟩
  rw [← hN] at hcap hmax ⊢
  have HN : Hid (N = ops.length) := hN
  obtain ⟨T, hT⟩ : ∃ T : Nat, T = min N 60 := ⟨_, rfl⟩
  have HT : Hid (T = min N 60) := hT
  clear h h1 hN hT
  go_enter Tryz.func3, Tryz.ntmps3
  go_upto_region 2 with (go_at_call 4; refine hsh.mono ?_; clear hsh; rintro e x1 ⟨rfl, b1⟩)
  have hC := cutP_calls x1 u l (HU.out.1.called b1)
  have HB1 : Hid (Below w.heap.size w x1) := b1
  clear b1
  go_upto_region 4 with (first
    | (go_at_call 6; refine hN.mono ?_; clear hN; rintro e x3 ⟨p, pv, m, rfl, hp, hov, hmi, hml, hpl, b3⟩)
    | (go_at_call 5; refine hC.mono ?_; clear hC; rintro e x2 ⟨uv, rfl, o2, b2⟩
       have hN := newPlainO_calls x2 uv (cutP l) o2.slB (by have := cutP_len l; omega)
       have HO2 : Hid (Own encP 31 x2 x1.heap.size uv (cutP l) ∧ Below w.heap.size w x2 ∧ Below x1.heap.size x1 x2) := ⟨o2, HB1.out.trans (b2.mono HB1.out.size), b2⟩
       obtain ⟨adu, capu, rfl, -, -, -, -⟩ := id o2.slB
       clear b2 o2))
  have hm40 : m.length ≤ 40 := Nat.le_trans hml (cutP_len l)
  have HX3 : Hid (Below w.heap.size w x3 ∧ m.length ≤ 40 ∧ MapIs (cutP l) m ∧ PlC x3.heap.size x3 p pv m x2.heap.size ∧ Own encP 31 x3 x1.heap.size (.slice adu (cutP l).length capu) (cutP l) ∧ x2.heap.size ≤ p ∧ Below x2.heap.size x2 x3) :=
    ⟨HO2.out.2.1.trans (b3.mono HO2.out.2.1.size), hm40, hmi, PlC.of hp hov hmi.1, HO2.out.1.below b3, hpl, b3⟩
  have HS3 : Hid (Scr encP x3 (.slice adu (cutP l).length capu) (cutP l) 0 x3) := Scr.of HX3.out.2.2.2.2.1
  have HOU : Hid (∀ i, Value.ownBlock (.slice adu (cutP l).length capu) = some i → x1.heap.size ≤ i ∧ i < x2.heap.size) := fun i hi => HO2.out.1.lt i hi
  obtain ⟨CP, hCP⟩ : ∃ CP, CP = cutP l := ⟨_, rfl⟩
  have HCP : Hid (CP = cutP l ∧ CP.length ≤ 40) := ⟨hCP, by rw [hCP]; exact cutP_len l⟩
  rw [← hCP] at HX3 HS3 HOU ⊢
  obtain ⟨K, hK⟩ : ∃ K, K = CP.length := ⟨_, rfl⟩
  rw [← hK] at HX3 HS3 HOU ⊢
  have HK : Hid (K = CP.length ∧ K ≤ 40) := ⟨hK, by have := HCP.out.2; omega⟩
  clear hm40 hmi hml hp hov hpl b3 hCP hK HO2
  go_upto_region 7 with fail
  go_loopg [8] K (fun gg i wr => ∃ k : Nat, k + gg = K ∧ i = .int .i64 (k : Int) ∧ Hid (Scr encP x3 (.slice adu K capu) CP k wr))
  case atStart => exact ⟨0, by omega, rfl, HS3.out⟩
  case round =>
    clear HS3
    obtain ⟨k, hkg, rfl, HSK⟩ := hrel
    cases gk with
    | succ gg =>
      have hkI : (k : Int) < (K : Int) := by omega
      have hk0 : (0 : Int) ≤ (k : Int) := by omega
      have hkb : (k : Int) ≤ 40 := by have := HK.out; omega
      obtain ⟨g, cap, ty, cur, hv, hb, hr⟩ := HSK.out.at_ k (by have := HK.out; omega) (Nat.le_refl _)
      have hN2 := HK.out.1
      rw [← hN2] at hv
      cases hv
      obtain ⟨u1, hc⟩ : ∃ u1, wr.cell? ⟨g, k * 25 + 24, none⟩ = some (.string u1) := by
        have := hr 24 (.string (str (CP[k]'(by omega)).v)) (by
          have hk24 : (bc (CP[k]'(by omega)).k).length = 24 := by rw [bc_length, (CP[k]'(by omega)).h]
          show (bc (CP[k]'(by omega)).k ++ [Value.string (str (CP[k]'(by omega)).v)])[24]? = _
          rw [List.getElem?_append_right (by omega), hk24]
          rfl)
        exact ⟨_, this⟩
      have hf := frozen_of_row wr g (k * 25 + 24) _ _ hb
      have HNX : Hid (Scr encP x3 (.slice (some ⟨g, 0, none⟩) K capu) CP (k + 1) (wr.setCell ⟨g, k * 25 + 24, none⟩ (.string ⟨#[63]⟩))) := HSK.out.put (by rw [hN2]) hb 24 (by decide) _
      clear hN2 hb hr
      go_wp2_with fail
      go_roundg gg
      case measure => omega
      case rel => exact ⟨k + 1, by omega, congrArg (Value.int .i64) (by omega), HNX.out⟩
    | zero =>
      have hkK : k = K := by omega
      subst hkK
      have HP3 : Hid (PlC x3.heap.size wr p pv m x2.heap.size ∧ Below w.heap.size w wr ∧ x3.heap.size ≤ wr.heap.size) := by
        refine ⟨HX3.out.2.2.2.1.kept HSK.out.fr.size fun i hi => HSK.out.fr.block i (Nat.lt_of_lt_of_le ?_ HX3.out.2.2.2.1.le) (fun e => ?_), HX3.out.1.trans (HSK.out.fr.below (fun i hi => Nat.le_trans HB1.out.size (HOU.out i hi).1) HX3.out.1.size), HSK.out.fr.size⟩
        · rcases hi with rfl | hi
          · exact HX3.out.2.2.2.1.lo
          · exact HX3.out.2.2.2.1.lov i hi
        · have h2 := (HOU.out i e).2
          rcases hi with rfl | hi
          · have := HX3.out.2.2.2.2.2.1
            omega
          · have := (HX3.out.2.2.2.1.own.lt i hi).1
            omega
      have hV := VAt.new (plainC_base x3.heap.size p pv m x2.heap.size (by have := HX3.out.2.1; omega)) w wr 9 HP3.out.1 HX3.out.1.size HP3.out.2.1
      have HMM : Hid (m.length ≤ 40 ∧ MapIs (cutP l) m) := ⟨HX3.out.2.1, by rw [← HCP.out.1]; exact HX3.out.2.2.1⟩
      have HLW : Hid (w.heap.size ≤ x3.heap.size) := HX3.out.1.size
      clear HSK HX3 HOU HK
      generalize x3.heap.size = lim at *
      generalize x2.heap.size = base at *
      go_upto_region 11 with (go_at_call 7; refine hV.mono ?_; clear hV; rintro e x4 ⟨q, x, rfl, Av, hn, -, b4⟩)
      have HA4 : Hid (VAt w lim (fun _ w => PlC lim w p pv m base) 9 (.iface 26 (.pointer (some ⟨p, 0, none⟩))) q x vs0 x4 ∧ x.n = 0) := ⟨Av, hn⟩
      have hC := cutP_calls x4 u l (HU.out.1.called Av.bel)
      clear Av hn b4
      go_upto_region 12 with (first
        | (go_at_call 8; refine hW.mono ?_; clear hW; rintro e x6 ⟨rp, bv, m2, rfl, d6, n6, i6, -, hrp, b6⟩)
        | (go_at_call 5; refine hC.mono ?_; clear hC; rintro e x5 ⟨uw, rfl, o5, b5⟩
           have hW := rvnew_calls x5 uw (cutP l) o5.slB (by have := cutP_len l; omega)
           have HB5 : Hid (Below x4.heap.size x4 x5) := b5
           clear b5 o5))
      obtain rfl := MapIs.unique HMM.out.2 i6
      have HL6 : Hid (PlLp w lim p pv m base q rp bv 0 x6 ∧ RvC x6 rp bv (.slice none 0 0) (.slice none 0 0) (.slice none 0 0) ∧ PlIn x6 p pv m ∧ ∃ adB capB, bv = .slice adB m.length capB) := by
        have b46 : Below x4.heap.size x4 x6 := HB5.out.trans (b6.mono HB5.out.size)
        have A6 := HA4.out.1.called (plainC_base lim p pv m base (by have := HMM.out.1; omega)) b46
        have lt : ∀ i, x.own q i → i < x4.heap.size := fun i e => HA4.out.1.vw.lt e
        have hx5 := HB5.out.size
        obtain ⟨adB, capB, hbv, -, -, -, -⟩ := id d6.b
        have hPC : PlC lim x6 p pv m base := A6.base
        refine ⟨⟨x, vs0, .slice none 0 0, .slice none 0 0, .slice none 0 0, [], [], [], [], [], ⟨A6, d6, MvIn.nil _, ⟨fun e => by have := lt _ e; omega, fun _ g hg e => by have := lt _ e; have := n6 g hg; omega, fun q => absurd rfl q, fun q => absurd rfl q, fun q => absurd rfl q, fun e he => by cases he⟩, (fun g hg => by cases hg), by have := HA4.out.1.limy; omega⟩, ⟨HMM.out.2.1, HMM.out.1, MkIs.start, rfl, fun c hc => (by cases hc), fun L hL => (by cases hL), ⟨trivial, fun _ _ => rfl⟩, ⟨Nat.le_refl _, Nat.le_refl _, Nat.le_refl _, fun L hL => (by cases hL)⟩, rfl⟩, by have := HA4.out.2; omega, Nat.zero_le _⟩, ⟨d6.blk⟩, hPC.inn, adB, capB, hbv⟩
      obtain ⟨adB, capB, rfl⟩ := HL6.out.2.2.2
      clear d6 n6 i6 hrp b6 HA4 HB5 HP3
      have hPlen := plen_calls x6.drew p pv m (HL6.out.2.2.1.called ⟨rfl, rfl, rfl, Nat.le_refl _, fun _ _ => rfl⟩)
      have HRC : Hid (RvC x6.drew rp (.slice adB m.length capB) (.slice none 0 0) (.slice none 0 0) (.slice none 0 0)) := ⟨HL6.out.2.1.blk⟩
      have HLD : Hid (PlLp w lim p pv m base q rp (.slice adB m.length capB) 0 x6.drew) := by
        obtain ⟨x, V, cv, rv, mv, C, R, l, M, D, A, B⟩ := HL6.out.1
        exact ⟨x, V, cv, rv, mv, C, R, l, M, D, A.called (by have := HMM.out.1; omega) ⟨rfl, rfl, rfl, Nat.le_refl _, fun _ _ => rfl⟩, B⟩
      refine wp_region_noPanic ?_
      refine wp_region_held_drew (S := (fun yy => RvC yy rp (.slice adB m.length capB) (.slice none 0 0) (.slice none 0 0) (.slice none 0 0))) (by kernel_rfl) HRC.out (fun hHeld => ?_)
      refine wpAnyH_take (i := 0) (v := ?_) rfl (by kernel_rfl) (by kernel_rfl) (by kernel_rfl) (fun _ _ _ h => h) (Or.inl ⟨by rfl, ?_⟩) hHeld ?_
      case refine_2 => (intro w hSw; (try dsimp only at hSw); go_simp; try (with_reducible rfl))
      (try simp only [gs])
      refine wpAnyH_take (i := 1) (v := ?_) rfl (by kernel_rfl) (by kernel_rfl) (by kernel_rfl) (fun _ _ _ h => h) (Or.inl ⟨by rfl, ?_⟩) hHeld ?_
      case refine_2 => (intro w hSw; (try dsimp only at hSw); go_simp; try (with_reducible rfl))
      (try simp only [gs])
      refine wpAnyH_take (i := 2) (v := ?_) rfl (by kernel_rfl) (by kernel_rfl) (by kernel_rfl) (fun _ _ _ h => h) (Or.inl ⟨by rfl, ?_⟩) hHeld ?_
      case refine_2 => (intro w hSw; (try dsimp only at hSw); go_simp; try (with_reducible rfl))
      (try simp only [gs])
      refine wpAnyH_take (i := 3) (v := ?_) rfl (by kernel_rfl) (by kernel_rfl) (by kernel_rfl) (fun _ _ _ h => h) (Or.inl ⟨by rfl, ?_⟩) hHeld ?_
      case refine_2 => (intro w hSw; (try dsimp only at hSw); go_simp; try (with_reducible rfl))
      (try simp only [gs])
      refine wpAnyH_take (i := 5) (v := ?_) rfl (by kernel_rfl) (by kernel_rfl) (by kernel_rfl) (fun _ _ _ h => h) (Or.inl ⟨by rfl, ?_⟩) hHeld ?_
      case refine_2 => (intro w hSw; (try dsimp only at hSw); go_simp; try (with_reducible rfl))
      (try simp only [gs])
      refine wpAnyH_take (i := 6) (v := ?_) rfl (by kernel_rfl) (by kernel_rfl) (by kernel_rfl) (fun _ _ _ h => h) (Or.inl ⟨by rfl, ?_⟩) hHeld ?_
      case refine_2 => (intro w hSw; (try dsimp only at hSw); go_simp; try (with_reducible rfl))
      (try simp only [gs])
      refine wpAnyH_take (i := 7) (v := ?_) rfl (by kernel_rfl) (by kernel_rfl) (by kernel_rfl) (fun _ _ _ h => h) (Or.inl ⟨by rfl, ?_⟩) hHeld ?_
      case refine_2 => (intro w hSw; (try dsimp only at hSw); go_simp; try (with_reducible rfl))
      (try simp only [gs])
      refine wpAnyH_take (i := 8) (v := ?_) rfl (by kernel_rfl) (by kernel_rfl) (by kernel_rfl) (fun _ _ _ h => h) (Or.inl ⟨by rfl, ?_⟩) hHeld ?_
      case refine_2 => (intro w hSw; (try dsimp only at hSw); have hc := hSw.c0; go_simp; try (with_reducible rfl))
      (try simp only [gs])
      refine wpAnyH_take (i := 9) (v := ?_) rfl (by kernel_rfl) (by kernel_rfl) (by kernel_rfl) (fun _ _ _ h => h) (Or.inl ⟨by rfl, ?_⟩) hHeld ?_
      case refine_2 => (intro w hSw; (try dsimp only at hSw); go_simp; try (with_reducible rfl))
      (try simp only [gs])
      clear HL6 HRC
      generalize x6.drew = x7 at *
      refine wpAnyH_ready (rs := [4]) (by kernel_rfl) (by simp) (AllReadyH.cons rfl (fun K0 hK => ?_) AllReadyH.nil)
      rw [if_pos (by rfl)]
      (try simp only [gs])
      go_simp
      refine hPlen.mono ?_
      clear hPlen
      rintro e x8 ⟨rfl, rfl⟩
      refine hK.out _ _ hHeld (fun hHeld => ?_)
      clear hK K0
      (try simp only [gs])
      refine wpAnyH_take (i := 10) (v := ?_) rfl (by kernel_rfl) (by kernel_rfl) (by kernel_rfl) (fun _ _ _ h => h) (Or.inl ⟨by rfl, ?_⟩) hHeld ?_
      case refine_2 => (intro w hSw; (try dsimp only at hSw); go_simp; try (with_reducible rfl))
      (try simp only [gs])
      refine wpAnyH_take (i := 11) (v := ?_) rfl (by kernel_rfl) (by kernel_rfl) (by kernel_rfl) (fun _ _ _ h => h) (Or.inl ⟨by rfl, ?_⟩) hHeld ?_
      case refine_2 => (intro w hSw; (try dsimp only at hSw); go_simp; try (with_reducible rfl))
      (try simp only [gs])
      refine wpAnyH_done (by kernel_rfl) ?_ _
      refine NoPanic.normal ?_
      go_upto_region 15 with fail
      obtain ⟨bv, hbv⟩ : ∃ bv, bv = Value.slice adB m.length capB := ⟨_, rfl⟩
      rw [← hbv] at HLD
      clear hbv hHeld
      go_loopg [11] T (fun gg i wr => ∃ j : Nat, j + gg = T ∧ i = .int .i64 (j : Int) ∧ Hid (PlLp w lim p pv m base q rp bv j wr))
      case atStart => exact ⟨0, by omega, rfl, HLD.out⟩
      case round =>
        clear HLD
        obtain ⟨j, hjg, rfl, HE⟩ := hrel
        cases gk with
        | zero =>
          have hjT : j = T := by omega
          have HBL : Hid (Below w.heap.size w wr) := by
            obtain ⟨x, V, cv, rv, mv, C, R, l, M, D, A, B⟩ := HE.out
            exact A.a.bel
          by_cases hjN : j < N
          · have hjI : (j : Int) < (N : Int) := by omega
            have hjM : ¬ (j : Int) < 60 := by have := HT.out; omega
            go_wp2_with fail
            go_ret
            exact ⟨rfl, HBL.out⟩
          · have hjI : ¬ (j : Int) < (N : Int) := by omega
            go_wp2_with fail
            go_ret
            exact ⟨rfl, HBL.out⟩
        | succ gg =>
          have hjI : (j : Int) < (N : Int) := by have := HT.out; omega
          have hjM : (j : Int) < 60 := by have := HT.out; omega
          have hj0 : (0 : Int) ≤ (j : Int) := by omega
          have hj60 : j ≤ 60 := by omega
          have hjl : j < ops.length := by have := HN.out; omega
          obtain ⟨g, off, rfl, hg, hat⟩ := HI.out j hjl
          obtain ⟨x, V, cv, rv, mv, C, R, lv, M, D, A, B, hxn, hRl⟩ := HE.out
          have hr : wr.rangeAt g (off + j * 76) (encO.c ops[j]) := range_same' hat (A.a.bel.block g hg)
          have hSa := psame_calls w lim p pv m base q rp bv j wr ops[j] x V cv rv mv C R lv M D A B hj60 hxn hRl
          generalize ops[j] = o at *
          clear hjl hat hg A B hxn hRl HE
          go_upto_region 18 with (first
            | (refine load_el elO _ rfl g (off + j * 76) rfl rfl o hr ?_)
            | (go_at_call 10; refine hSa.mono ?_; clear hSa; rintro e y2 ⟨rfl, hS2⟩))
          have HS2 : Hid (PlSt w lim p pv m base q rp bv (j + 1) 104 y2) := hS2
          clear hS2 hr cv rv mv C R lv M D x V
          obtain ⟨x, V, cv, rv, mv, C, R, lv, M, D, A, B, hxn⟩ := HS2.out
          have HA : Hid (PlAt w lim p pv m base q x V rp bv cv rv mv C R lv M y2) := A
          have HOK : Hid (PlOk m V C R M D (j + 1) ∧ x.n ≤ 104 ∧ j ≤ 60) := ⟨B, hxn, hj60⟩
          have hRe := vreads_at HA.out.a (by have := HOK.out.2.1; omega)
          have HM5 : Hid (m.length ≤ 5000) := (show _ ≤ _ by have := HMM.out.1; omega)
          clear A B hxn HS2
          go_upto_region 19 with (go_at_call 11; refine hRe.mono ?_; clear hRe; rintro e y3 ⟨vR, RR, rfl, o3, b3, i3, l3⟩)
          obtain rfl : RR = R := Is.unique i3 HOK.out.1.rd (fun _ _ => rfl)
          have HRR : Hid (RR.length ≤ 300) := (show _ ≤ _ by have := HOK.out.2.1; omega)
          obtain ⟨adR, capR, rfl, -, -, -, -⟩ := id o3.slB
          have HA3 : Hid (PlAt w lim p pv m base q x V rp bv cv rv mv C RR lv M y3) := HA.out.called HM5.out b3
          have HO3 : Hid (Own encS 44 y3 y2.heap.size (.slice adR RR.length capR) RR) := o3
          have HB3 : Hid (Below y2.heap.size y2 y3) := b3
          have hCh := vchanges_calls y3 q _ x V HA3.out.a.vw (by have := HOK.out.2.1; omega)
          clear o3 b3 i3 l3
          go_upto_region 20 with (go_at_call 12; refine hCh.mono ?_; clear hCh; rintro e y4 ⟨adC, capC, rfl, o4, b4⟩)
          have HA4 : Hid (PlAt w lim p pv m base q x V rp bv cv rv mv C RR lv M y4) := HA3.out.called HM5.out b4
          have hCC : V.C.map Ch.plain = C := HOK.out.1.c.symm
          have hCl : V.C.length = C.length := by rw [← hCC, List.length_map]
          rw [hCC, hCl] at o4
          rw [hCl]
          have HO4 : Hid (Own encC 52 y4 y3.heap.size (.slice adC C.length capC) C ∧ Own encS 44 y4 y2.heap.size (.slice adR RR.length capR) RR) := ⟨o4, HO3.out.below b4⟩
          have HB4 : Hid (Below y2.heap.size y2 y4) := HB3.out.trans (b4.mono HB3.out.size)
          obtain ⟨adr, capr, hrv, -, -, -, -⟩ := id HA4.out.d.r
          obtain ⟨adc, capc, hcv, -, -, -, -⟩ := id HA4.out.d.c
          have hc2 : y4.cell? ⟨rp, 2, none⟩ = some (.slice adr RR.length capr) := by rw [← hrv]; exact (RvC.mk HA4.out.d.blk).c2
          have hSR := same_calls y4 (.slice adR RR.length capR) (.slice adr RR.length capr) RR RR HO4.out.2.slB (by rw [← hrv]; exact HA4.out.d.r)
          rw [decide_eq_true rfl] at hSR
          have HCV : Hid (cv = .slice adc C.length capc) := hcv
          have HLT : Hid (∀ i, Value.ownBlock (.slice adR RR.length capR) = some i → y2.heap.size ≤ i ∧ i < y3.heap.size) := fun i hi => HO3.out.lt i hi
          have HLC : Hid (∀ i, Value.ownBlock (.slice adC C.length capC) = some i → y3.heap.size ≤ i ∧ i < y4.heap.size) := fun i hi => HO4.out.1.lt i hi
          have HB34 : Hid (y3.heap.size ≤ y4.heap.size ∧ y2.heap.size ≤ y3.heap.size) := ⟨b4.size, HB3.out.size⟩
          clear o4 b4 hCC hCl hrv hcv HA3 HO3 HB3
          go_upto_region 21 with (first
            | (go_at_call 13; refine hSR.mono ?_; clear hSR; rintro e y5 ⟨rfl, b5⟩
               have HA5 : Hid (PlAt w lim p pv m base q x V rp bv cv rv mv C RR lv M y5 ∧ Below y4.heap.size y4 y5) := ⟨HA4.out.called HM5.out b5, b5⟩
               have hc1 : y5.cell? ⟨rp, 1, none⟩ = some (.slice adc C.length capc) := by rw [← HCV.out]; exact (RvC.mk HA5.out.1.d.blk).c1
               have hSC := sameC_calls y5 (.slice adC C.length capC) (.slice adc C.length capc) C C (HO4.out.1.below b5).slB (by rw [← HCV.out]; exact HA5.out.1.d.c) (by have := HOK.out.1.lenC; have := HOK.out.2.2; omega)
               rw [decide_eq_true rfl] at hSC
               clear b5)
            | (go_at_call 14; refine hSC.mono ?_; clear hSC; rintro e y6 ⟨rfl, b6⟩))
          have HA6 : Hid (PlAt w lim p pv m base q x V rp bv cv rv mv C RR lv M y6 ∧ Below y2.heap.size y2 y6) := ⟨HA5.out.1.called HM5.out b6, (HB4.out.trans (HA5.out.2.mono HB4.out.size)).trans (b6.mono (Nat.le_trans HB4.out.size HA5.out.2.size))⟩
          have HR6 : Hid (Scr encS y6 (.slice adR RR.length capR) RR 0 y6 ∧ Own encC 52 y6 y3.heap.size (.slice adC C.length capC) C) := ⟨Scr.of ((HO4.out.2.below HA5.out.2).below b6), (HO4.out.1.below HA5.out.2).below b6⟩
          have HCB : Hid (RR.length ≤ 300 ∧ C.length ≤ 61) := ⟨HRR.out, by have := HOK.out.1.lenC; have := HOK.out.2.2; omega⟩
          obtain ⟨NR, hNR⟩ : ∃ n, n = RR.length := ⟨_, rfl⟩
          obtain ⟨NC, hNC⟩ : ∃ n, n = C.length := ⟨_, rfl⟩
          have HNN : Hid (NR = RR.length ∧ NC = C.length) := ⟨hNR, hNC⟩
          rw [← hNR, ← hNC] at HR6 HCB
          rw [← hNR] at HLT
          rw [← hNC] at HLC
          rw [← hNR, ← hNC]
          clear b6 HO4 HA5 HB4 hNR hNC HRR HCV
          go_upto_region 22 with fail
          go_loopg [16] NR (fun gg i wr => ∃ k : Nat, k + gg = NR ∧ i = .int .i64 (k : Int) ∧ Hid (Scr encS y6 (.slice adR NR capR) RR k wr))
          case atStart => exact ⟨0, by omega, rfl, HR6.out.1⟩
          case round =>
            obtain ⟨k, hkg, rfl, HSK⟩ := hrel
            cases gk with
            | succ g3 =>
              have hkI : (k : Int) < (NR : Int) := by omega
              have hk0 : (0 : Int) ≤ (k : Int) := by omega
              have hkb : (k : Int) ≤ 300 := by have := HCB.out.1; omega
              obtain ⟨gb, cap3, ty, cur, fl, hv, hb, hc⟩ := HSK.out.cell (by have := HNN.out; omega) 48 flagS
              have hN2 := HNN.out.1
              rw [← hN2] at hv
              cases hv
              have hf := frozen_of_row wr gb (k * 49 + 48) _ _ hb
              have HNX : ∀ u, Hid (Scr encS y6 (.slice (some ⟨gb, 0, none⟩) NR capR) RR (k + 1) (wr.setCell ⟨gb, k * 49 + 48, none⟩ u)) := fun u => HSK.out.put (by rw [hN2]) hb 48 (by decide) u
              clear hN2 hb
              go_wp2_with fail
              go_roundg g3
              case measure => omega
              case rel => exact ⟨k + 1, by omega, congrArg (Value.int .i64) (by omega), (HNX _).out⟩
            | zero =>
              have hkK : k = NR := by omega
              subst hkK
              have HC7 : Hid (Scr encC wr (.slice adC NC capC) C 0 wr ∧ Scr encS y6 (.slice adR k capR) RR k wr) := ⟨Scr.of (HR6.out.2.same fun g hg => HSK.out.fr.block g (HR6.out.2.lt g hg).2 (fun e => by
                have h1 := (HLC.out g hg).1
                have h2 := (HLT.out g e).2
                omega)), HSK.out⟩
              have HW7 : Hid (FrV (fun i => Value.ownBlock (.slice adR k capR) = some i) y6 wr) := HSK.out.fr
              clear HSK
              obtain ⟨w7, rfl⟩ : ∃ z, z = wr := ⟨_, rfl⟩
              go_upto_region 26 with fail
              go_loopg [17] NC (fun gg i wr2 => ∃ k2 : Nat, k2 + gg = NC ∧ i = .int .i64 (k2 : Int) ∧ Hid (Scr encC w7 (.slice adC NC capC) C k2 wr2))
              case atStart => exact ⟨0, by omega, rfl, HC7.out.1⟩
              case round =>
                obtain ⟨k2, hkg2, rfl, HSC⟩ := hrel
                cases gk with
                | succ g4 =>
                  have hkI : (k2 : Int) < (NC : Int) := by omega
                  have hk0 : (0 : Int) ≤ (k2 : Int) := by omega
                  have hkb : (k2 : Int) ≤ 61 := by have := HCB.out.2; omega
                  obtain ⟨gb, cap3, ty, cur, fl, hv, hb, hc⟩ := HSC.out.cell (by have := HNN.out; omega) 25 flagC
                  have hN2 := HNN.out.2
                  rw [← hN2] at hv
                  cases hv
                  have hf := frozen_of_row wr gb (k2 * 26 + 25) _ _ hb
                  have HNX : ∀ u, Hid (Scr encC w7 (.slice (some ⟨gb, 0, none⟩) NC capC) C (k2 + 1) (wr.setCell ⟨gb, k2 * 26 + 25, none⟩ u)) := fun u => HSC.out.put (by rw [hN2]) hb 25 (by decide) u
                  clear hN2 hb
                  go_wp2_with fail
                  go_roundg g4
                  case measure => omega
                  case rel => exact ⟨k2 + 1, by omega, congrArg (Value.int .i64) (by omega), (HNX _).out⟩
                | zero =>
                  have HE : Hid (PlLp w lim p pv m base q rp bv (j + 1) wr) := by
                    have fr2 : FrV (fun i => y2.heap.size ≤ i) y6 wr := ⟨HW7.out.bel.trans HSC.out.fr.bel, fun i hi hn => (HSC.out.fr.block i (Nat.lt_of_lt_of_le hi HW7.out.size) (fun e => hn (by have := (HLC.out i e).1; have := HB34.out; omega))).trans (HW7.out.block i hi (fun e => hn (HLT.out i e).1))⟩
                    have P := HA6.out.1.aside fr2 (fun i hi e => by have := HA.out.a.vw.lt e; omega) (fun i hi => Nat.le_trans HA.out.a.limy hi) (HA.out.d.lts HA.out.ml)
                    have hmo : V.most 61 := by
                      have h := HOK.out.1.most
                      have := HOK.out.2.2
                      exact ⟨Nat.le_trans h.1 (by omega), Nat.le_trans h.2.1 (by omega), Nat.le_trans h.2.2.1 (by omega), fun L hL => Nat.le_trans (h.2.2.2 L hL) (by omega)⟩
                    exact ⟨_, V, cv, rv, mv, C, RR, lv, M, D, P.tight 61 hmo, HOK.out.1, (by decide : 61 ≤ 100), by have := HCB.out.1; have := HNN.out.1; omega⟩
                  clear HSC HC7 HW7
                  go_wp2_with fail
                  go_roundg gg
                  case measure => omega
                  case rel => exact ⟨j + 1, by omega, congrArg (Value.int .i64) (by omega), HE.out⟩
end Go.Proofs.YtbbelhkdpmcoeaaGreat
/- ViewPlays answers true at every list of pairs and every list of steps and turns nothing that was there: a view answers what the document says. No condition. -/
namespace Go.Proofs.YtbbelhkdpmcoeaaGreat
set_option linter.unusedVariables false
set_option maxRecDepth 100000
open Go.ChangeShapes Go.WideShapes Go.ChangeAt Go.RowKit
open Go.ChangeMaps (open_string shut_string)

set_option maxRecDepth 100000 in
theorem viewPlays_lifted (os : Os) (started : os.Started) (H : Type) (enc : TypeId × Value → H) :
    ReturnsInHanded {} Tryz.checked os 3 .any (Rows.viewPlaysSpec.pre6 enc Tryz.prog Tryz.f3 Rows.viewPlaysRow.domain false) (Rows.viewPlaysSpec.post enc Tryz.prog Tryz.f3 false true false false) := by
  refine returnsInHanded_of_change (C := Tryz.checked) Tryz.own started (by kernel_rfl) Tryz.func3
    (ChangeSpec.witness6 (enc := enc) (C := Tryz.checked) false ⟨#[], #[.slice none 0 0, .slice none 0 0], []⟩ 8 (by kernel_rfl) (by kernel_rfl) (by kernel_rfl) (by kernel_rfl)) ?_
  intro W base args ds gs before hval0 hW hcnd _
  have hval : ∀ (j : Nat) t v, Tryz.f3.params[j]? = some t → args[j]? = some v → Value.okWide Tryz.prog W .any base t v := hval0
  have hW' := hW
  obtain ⟨p, q, hA0, hV, rfl, hfz, hnd⟩ := hW
  have hA : DataW.TrodAll enc Tryz.prog W 0 (fun _ => true) true Tryz.f3.params.toList args.toList ds p := hA0
  rw [Tryz.params3] at hA hval
  obtain ⟨v0, vs0, d0, ds0, p0, q0, hargs, rfl, rfl, h0, r0⟩ := trodAll_cons hA
  obtain ⟨v1, vs1, d1, ds1, p1, q1, rfl, rfl, rfl, h1, r1⟩ := trodAll_cons r0
  obtain ⟨rfl, rfl, rfl⟩ := trodAll_nil r1
  obtain rfl : args = #[v0, v1] := by cases args; simp_all
  obtain ⟨rfl, rfl⟩ := trodVars_none hV
  obtain ⟨a0, len0, cap0, rfl⟩ := okWide_slice Tryz.underlying22 (hval 0 22 v0 rfl rfl)
  have k0 := h0
  have lt0 : ∀ x ∈ p0, x.block < W.heap.size := by obtain ⟨m, hm⟩ := k0; exact DataW.trod_lt m _ _ _ hm
  obtain ⟨z0, w0⟩ := open_pairs h0
  obtain ⟨a1, len1, cap1, rfl⟩ := okWide_slice Tryz.underlying23 (hval 1 23 v1 rfl rfl)
  have k1 := h1
  have lt1 : ∀ x ∈ p1, x.block < W.heap.size := by obtain ⟨m, hm⟩ := k1; exact DataW.trod_lt m _ _ _ hm
  obtain ⟨z1, w1⟩ := open_vops h1
  clear hA0 hval0
  refine (viewPlays_walk W (.slice a0 len0 cap0) z0 w0 (.slice a1 len1 cap1) z1 w1).mono fun e W' ⟨he, bel⟩ => ?_
  subst he
  exact ⟨_, rfl, _, _, _, [], _, [], hW', trodAll_mk1 (shut_bool Tryz.underlying4 _), (trodAll_cons_mk (Below.trod Tryz.laidOut (by kernel_rfl) (of_decide_eq_true (by kernel_rfl)) k0 bel lt0) (trodAll_cons_mk (Below.trod Tryz.laidOut (by kernel_rfl) (of_decide_eq_true (by kernel_rfl)) k1 bel lt1) trodAll_mk0)), rfl, bel.frame _, fun h => by cases h⟩

set_option maxRecDepth 100000 in
/-- The statement. -/
theorem viewPlays_holds : Rows.ViewPlaysSaid :=
  OpenClaim.holds_of_wide 3 Tryz.f3 rfl rfl rfl rfl rfl rfl rfl ⟨rfl, rfl, rfl, rfl, rfl⟩ rfl rfl rfl rfl rfl (by kernel_rfl) Tryz.func3 (by kernel_rfl)
    (of_decide_eq_true (by kernel_rfl)) (by unfold Func.isWrapper; first | (rw [if_pos (by decide +kernel)]; kernel_rfl) | (rw [if_neg (by decide +kernel)]; exact ⟨rfl, rfl⟩))
    (fun os started H enc _ => viewPlays_lifted os started H enc)
end Go.Proofs.YtbbelhkdpmcoeaaGreat
