import Derived.Test.YtkmeilenocjhaaaGreatB31
import Derived.Test.YtkmeilenocjhaaaGreatB30
import Derived.Test.YtkmeilenocjhaaaGreatB01
import Derived.Test.YtkmeilenocjhaaaGreatB06
import Derived.Test.YtkmeilenocjhaaaGreatB29
/- ViewOver. -/
namespace Go.Proofs.YtkmeilenocjhaaaGreat
set_option linter.unusedVariables false
set_option maxRecDepth 100000
open Go.RowKit

/-- A base of pairs as a value. -/
def plI (p : Nat) : Value := .iface 26 (.pointer (some ⟨p, 0, none⟩))
def viI (q : Nat) : Value := .iface 32 (.pointer (some ⟨q, 0, none⟩))
def plK (lim p : Nat) (v : Value) (m : List Pa) (base : Nat) (_ : Nat) (w : World) : Prop := PlC lim w p v m base
section
variable {lim : Nat} {S : Nat → Prop} {I : Nat → World → Prop} {iv : Value} {w0 y y' : World} {k q nb : Nat} {x x' : VR} {V : VS} {α : Type} {n : Nat} {E : Enc α n} {ty : TypeId} {base : Nat} {v : Value} {l : List α}
/-- A row that is not the view's stands. -/
theorem VRan.keepS (t : VRan S w0 lim I k iv q x nb V y x' y') (ho : Own E ty y base v l) (hg : ∀ g, v.ownBlock = some g → ¬ x.own q g ∧ ¬ S g) : Own E ty y' base v l ∧ ∀ g, v.ownBlock = some g → ¬ x'.own q g ∧ ¬ S g :=
  ⟨ho.same fun g e => t.fr.block g (ho.lt g e).2 (fun r => r.elim (hg g e).1 (hg g e).2), fun g e => ⟨fun r => (t.own g r).elim (hg g e).1 (fun s => by have := (ho.lt g e).2; omega), (hg g e).2⟩⟩
end
/-- Two views, each over pairs of its own. -/
structure Two (w0 y : World) (m : List Pa) (lim1 p1 : Nat) (v1 : Value) (b1 q1 : Nat) (x1 : VR) (V1 : VS) (lim2 p2 : Nat) (v2 : Value) (b2 q2 : Nat) (x2 : VR) (V2 : VS) : Prop where
  a : VAt w0 lim1 (plK lim1 p1 v1 m b1) 9 (plI p1) q1 x1 V1 y
  b : VAt w0 lim2 (plK lim2 p2 v2 m b2) 9 (plI p2) q2 x2 V2 y
  ap : ∀ i, x2.own q2 i → ¬ x1.own q1 i
  pa : ∀ i, i = p2 ∨ v2.ownBlock = some i → ¬ x1.own q1 i
  le : lim1 ≤ lim2
section
variable {w0 y y' : World} {m : List Pa} {lim1 p1 : Nat} {v1 : Value} {b1 q1 : Nat} {x1 x1' : VR} {V1 V1' : VS} {lim2 p2 : Nat} {v2 : Value} {b2 q2 : Nat} {x2 x2' : VR} {V2 V2' : VS} {nb : Nat}
theorem PlC.under {lim : Nat} {p : Nat} {v : Value} {L : List Pa} {base i : Nat} (h : PlC lim y p v L base) (hi : i = p ∨ v.ownBlock = some i) : i < lim := hi.elim (fun e => e ▸ h.lo) (h.lov i)
theorem Two.fst (h : Two w0 y m lim1 p1 v1 b1 q1 x1 V1 lim2 p2 v2 b2 q2 x2 V2) (t : VRan noB w0 lim1 (plK lim1 p1 v1 m b1) 9 (plI p1) q1 x1 nb V1' y x1' y') : Two w0 y' m lim1 p1 v1 b1 q1 x1' V1' lim2 p2 v2 b2 q2 x2 V2 := by
  have hp : PlC lim2 y p2 v2 m b2 := h.b.base
  refine ⟨t.at_, h.b.aside t.fr (fun i e => e.elim (fun e => ⟨Nat.le_trans h.a.le (h.a.own i e), fun e2 => h.ap i e2 e⟩) (fun e => e.elim)) (hp.kept t.fr.size fun i hi => t.fr.block i (Nat.lt_of_lt_of_le (hp.under hi) hp.le) (fun e => e.elim (h.pa i hi) (fun e => e))), ?_, ?_, h.le⟩
  · intro i e2 e1
    rcases t.own i e1 with e | e
    · exact h.ap i e2 e
    · have := h.b.vw.lt e2
      omega
  · intro i hi e1
    rcases t.own i e1 with e | e
    · exact h.pa i hi e
    · have := hp.under hi
      have := hp.le
      omega
theorem Two.snd (h : Two w0 y m lim1 p1 v1 b1 q1 x1 V1 lim2 p2 v2 b2 q2 x2 V2) (t : VRan noB w0 lim2 (plK lim2 p2 v2 m b2) 9 (plI p2) q2 x2 nb V2' y x2' y') : Two w0 y' m lim1 p1 v1 b1 q1 x1 V1 lim2 p2 v2 b2 q2 x2' V2' := by
  have hp : PlC lim1 y p1 v1 m b1 := h.a.base
  refine ⟨h.a.aside t.fr (fun i e => e.elim (fun e => ⟨Nat.le_trans h.b.le (h.b.own i e), h.ap i e⟩) (fun e => e.elim)) (hp.kept t.fr.size fun i hi => t.fr.block i (Nat.lt_of_lt_of_le (hp.under hi) hp.le) (fun e => e.elim (fun e => by have := h.b.own i e; have := hp.under hi; have := h.le; omega) (fun e => e))), t.at_, ?_, h.pa, h.le⟩
  intro i e2 e1
  rcases t.own i e2 with e | e
  · exact h.ap i e e1
  · have := h.a.vw.lt e1
    omega
end
theorem plK_base (lim p : Nat) (v : Value) (L : List Pa) (base : Nat) (hl : L.length ≤ 5000) : Baser lim noB (plK lim p v L base) (plI p) (plGe L) (fun s => (scanL s L, 0)) := plainC_base lim p v L base hl
theorem Two.called {w0 y y' : World} {m : List Pa} {lim1 p1 : Nat} {v1 : Value} {b1 q1 : Nat} {x1 : VR} {V1 : VS} {lim2 p2 : Nat} {v2 : Value} {b2 q2 : Nat} {x2 : VR} {V2 : VS} (hm : m.length ≤ 5000) (h : Two w0 y m lim1 p1 v1 b1 q1 x1 V1 lim2 p2 v2 b2 q2 x2 V2) (b : Below y.heap.size y y') : Two w0 y' m lim1 p1 v1 b1 q1 x1 V1 lim2 p2 v2 b2 q2 x2 V2 :=
  ⟨h.a.called (plK_base _ _ _ _ _ hm) b, h.b.called (plK_base _ _ _ _ _ hm) b, h.ap, h.pa, h.le⟩
/-- A view over the first of two, and the second beside it. -/
structure Tri (w0 y : World) (m : List Pa) (lim1 p1 : Nat) (v1 : Value) (b1 q1 : Nat) (x1 : VR) (V1 : VS) (lim2 p2 : Nat) (v2 : Value) (b2 q2 : Nat) (x2 : VR) (V2 : VS) (lim3 k q3 : Nat) (x3 : VR) (V3 : VS) : Prop where
  c : VAt w0 lim3 (ViI w0 lim1 (plK lim1 p1 v1 m b1) (plI p1) q1 x1 V1 9 lim3) k (viI q1) q3 x3 V3 y
  b : VAt w0 lim2 (plK lim2 p2 v2 m b2) 9 (plI p2) q2 x2 V2 y
  ap : ∀ i, x2.own q2 i → ¬ x1.own q1 i ∧ ¬ x3.own q3 i
  pa : ∀ i, i = p2 ∨ v2.ownBlock = some i → ¬ x1.own q1 i
  le : lim1 ≤ lim2
  le3 : lim2 ≤ lim3
  lo : ∀ i, x1.own q1 i → lim1 ≤ i ∧ i < lim3
  w1 : w0.heap.size ≤ lim1
section
variable {w0 y y' : World} {m : List Pa} {lim1 p1 : Nat} {v1 : Value} {b1 q1 : Nat} {x1 : VR} {V1 : VS} {lim2 p2 : Nat} {v2 : Value} {b2 q2 : Nat} {x2 x2' : VR} {V2 V2' : VS} {lim3 k k' q3 : Nat} {x3 x3' : VR} {V3 V3' : VS} {nb : Nat}
theorem Tri.top (h : Tri w0 y m lim1 p1 v1 b1 q1 x1 V1 lim2 p2 v2 b2 q2 x2 V2 lim3 k q3 x3 V3) (t : VRan (fun i => x1.own q1 i ∨ noB i) w0 lim3 (ViI w0 lim1 (plK lim1 p1 v1 m b1) (plI p1) q1 x1 V1 9 lim3) k' (viI q1) q3 x3 nb V3' y x3' y') : Tri w0 y' m lim1 p1 v1 b1 q1 x1 V1 lim2 p2 v2 b2 q2 x2 V2 lim3 k' q3 x3' V3' := by
  have hp : PlC lim2 y p2 v2 m b2 := h.b.base
  refine ⟨t.at_, h.b.aside t.fr (fun i e => ?_) (hp.kept t.fr.size fun i hi => t.fr.block i (Nat.lt_of_lt_of_le (hp.under hi) hp.le) (fun e => ?_)), ?_, h.pa, h.le, h.le3, h.lo, h.w1⟩
  · rcases e with e | e | e
    · exact ⟨Nat.le_trans h.c.le (h.c.own i e), fun e2 => (h.ap i e2).2 e⟩
    · exact ⟨Nat.le_trans h.w1 (h.lo i e).1, fun e2 => (h.ap i e2).1 e⟩
    · exact e.elim
  · rcases e with e | e | e
    · have := h.c.own i e
      have := hp.under hi
      have := h.le3
      omega
    · exact h.pa i hi e
    · exact e
  · intro i e2
    refine ⟨(h.ap i e2).1, fun e3 => ?_⟩
    rcases t.own i e3 with e | e
    · exact (h.ap i e2).2 e
    · have := h.b.vw.lt e2
      omega
theorem Tri.snd (h : Tri w0 y m lim1 p1 v1 b1 q1 x1 V1 lim2 p2 v2 b2 q2 x2 V2 lim3 k q3 x3 V3) (t : VRan noB w0 lim2 (plK lim2 p2 v2 m b2) 9 (plI p2) q2 x2 nb V2' y x2' y') : Tri w0 y' m lim1 p1 v1 b1 q1 x1 V1 lim2 p2 v2 b2 q2 x2' V2' lim3 k q3 x3 V3 := by
  refine ⟨h.c.aside t.fr (fun i e => ?_) (h.c.base.aside t.fr (fun i e => ?_) (fun hp => ?_)), t.at_, ?_, h.pa, h.le, h.le3, h.lo, h.w1⟩
  · rcases e with e | e
    · exact ⟨Nat.le_trans h.b.le (h.b.own i e), (h.ap i e).2⟩
    · exact e.elim
  · rcases e with e | e
    · exact ⟨Nat.le_trans h.b.le (h.b.own i e), (h.ap i e).1⟩
    · exact e.elim
  · have hp' : PlC lim1 y p1 v1 m b1 := hp
    exact hp'.kept t.fr.size fun i hi => t.fr.block i (Nat.lt_of_lt_of_le (hp'.under hi) hp'.le) (fun e => e.elim (fun e => by have := h.b.own i e; have := hp'.under hi; have := h.le; omega) (fun e => e))
  · intro i e2
    have hlt := (h.c.base.2.1)
    rcases t.own i e2 with e | e
    · exact h.ap i e
    · refine ⟨fun e1 => ?_, fun e3 => ?_⟩
      · have := (h.lo i e1).2
        omega
      · have := h.c.vw.lt e3
        omega
end
set_option maxRecDepth 100000 in
set_option maxHeartbeats 8000000 in
theorem viewOver_walk (w : World) (u : Value) (l : List Pa) (h : Sl encP w u l) (u1 : Value) (ops : List Vo) (h1 : Sl encO w u1 ops) (u2 : Value) (more : List Vo) (h2 : Sl encO w u2 more) :
    Calls Tryz.prog 6 #[u, u1, u2] w fun e w' => e = .returned (.bool true) ∧ Below w.heap.size w w' := by
  have hsh := shown12_calls w
  have HU : Hid (Sl encP w u l ∧ Sl encO w u1 ops ∧ Sl encO w u2 more) := ⟨h, h1, h2⟩
  obtain ⟨ad1, cap1, rfl, -, -, -, -⟩ := id h1
  obtain ⟨ad2, cap2, rfl, -, -, -, -⟩ := id h2
  clear h h1 h2
  go_enter Tryz.func6, Tryz.ntmps6
  go_upto_region 2 with (go_at_call 7; refine hsh.mono ?_; clear hsh; rintro e x1 ⟨rfl, b1⟩)
  have hC := cutP_calls x1 u l (HU.out.1.called b1)
  have HB1 : Hid (Below w.heap.size w x1) := b1
  clear b1
  go_upto_region 3 with (go_at_call 8; refine hC.mono ?_; clear hC; rintro e x2 ⟨uv, rfl, o2, b2⟩
                         have hN := newPlainO_calls x2 uv (cutP l) o2.slB (by have := cutP_len l; omega)
                         have HB2 : Hid (Below w.heap.size w x2 ∧ Sl encP x2 uv (cutP l)) := ⟨HB1.out.trans (b2.mono HB1.out.size), o2.slB⟩
                         clear b2 o2 HB1)
  go_upto_region 4 with (first
    | (go_at_call 10; refine hV.mono ?_; clear hV; rintro e x4 ⟨q1, xl, rfl, Al, hnl, hol, b4⟩)
    | (go_at_call 9; refine hN.mono ?_; clear hN; rintro e x3 ⟨p1, v1, m, rfl, hp, hov, hmi, hml, -, b3⟩
       have hm40 : m.length ≤ 40 := Nat.le_trans hml (cutP_len l)
       have HX3 : Hid (Below w.heap.size w x3 ∧ m.length ≤ 40 ∧ MapIs (cutP l) m) := ⟨HB2.out.1.trans (b3.mono HB2.out.1.size), hm40, hmi⟩
       have hV := VAt.new (plK_base x3.heap.size p1 v1 m x2.heap.size (by omega)) w x3 9 (PlC.of hp hov hmi.1) HX3.out.1.size HX3.out.1
       have HS3 : Hid (Sl encP x3 uv (cutP l)) := HB2.out.2.called b3
       clear hp hml b3 hm40 hov hmi))
  have HL4 : Hid (VAt w x3.heap.size (plK x3.heap.size p1 v1 m x2.heap.size) 9 (plI p1) q1 xl vs0 x4 ∧ xl.n = 0 ∧ Below x3.heap.size x3 x4) := ⟨Al, hnl, b4⟩
  have hN := newPlainO_calls x4 uv (cutP l) (HS3.out.called b4) (by have := cutP_len l; omega)
  clear Al hnl hol b4
  go_upto_region 5 with (first
    | (go_at_call 10; refine hV.mono ?_; clear hV; rintro e x6 ⟨q2, xa, rfl, Aa, hna, hoa, b6⟩)
    | (go_at_call 9; refine hN.mono ?_; clear hN; rintro e x5 ⟨p2, v2, m2, rfl, hp, hov, hmi, hml, hpl, b5⟩
       obtain rfl := MapIs.unique HX3.out.2.2 hmi
       have HX5 : Hid (Below w.heap.size w x5 ∧ Below x4.heap.size x4 x5 ∧ PlC x5.heap.size x5 p2 v2 m x4.heap.size ∧ x4.heap.size ≤ p2) := ⟨HL4.out.1.bel.trans (b5.mono HL4.out.1.bel.size), b5, PlC.of hp hov hmi.1, hpl⟩
       have hV := VAt.new (plK_base x5.heap.size p2 v2 m x4.heap.size (by have := HX3.out.2.1; omega)) w x5 9 HX5.out.2.2.1 HX5.out.1.size HX5.out.1
       clear hp hov hmi hml hpl b5))
  have HT : Hid (Two w x6 m x3.heap.size p1 v1 x2.heap.size q1 xl vs0 x5.heap.size p2 v2 x4.heap.size q2 xa vs0 ∧ xl.n = 0 ∧ xa.n = 0) := by
    have hD := plK_base x3.heap.size p1 v1 m x2.heap.size (by have := HX3.out.2.1; omega)
    have hx4 := HX5.out.2.1.size
    refine ⟨⟨(HL4.out.1.called hD HX5.out.2.1).called hD b6, Aa, fun i e2 e1 => ?_, fun i hi e1 => ?_, Nat.le_trans HL4.out.2.2.size hx4⟩, HL4.out.2.1, hna⟩
    · have := Aa.own i e2
      have := HL4.out.1.vw.lt e1
      omega
    · have := HL4.out.1.vw.lt e1
      rcases hi with rfl | hi
      · have := HX5.out.2.2.2
        omega
      · have := (HX5.out.2.2.1.own.lt i hi).1
        omega
  have HM : Hid (m.length ≤ 40) := HX3.out.2.1
  clear Aa hna hoa b6 HL4 HX3 HX5 HS3 HB2
  generalize x3.heap.size = lim1 at *
  generalize x2.heap.size = bs1 at *
  generalize x5.heap.size = lim2 at *
  generalize x4.heap.size = bs2 at *
  have HD1 : Hid (Baser lim1 noB (plK lim1 p1 v1 m bs1) (plI p1) (plGe m) (fun s => (scanL s m, 0))) := plK_base _ _ _ _ _ (by have := HM.out; omega)
  have HD2 : Hid (Baser lim2 noB (plK lim2 p2 v2 m bs2) (plI p2) (plGe m) (fun s => (scanL s m, 0))) := plK_base _ _ _ _ _ (by have := HM.out; omega)
  have HNB : Hid (∀ i, noB i → w.heap.size ≤ i) := fun i hi => hi.elim
  have hDo := does_calls HD1.out w x6 9 q1 xl vs0 HT.out.1.a HNB.out _ ops HU.out.2.1 30 30 rfl (by decide) (by have := HT.out.2.1; omega)
  have HFL : Hid (Asc Ch.n ((ops.take 30).foldl doV vs0).C ∧ ((ops.take 30).foldl doV vs0).C.length ≤ 30 ∧ OverIs ((ops.take 30).foldl doV vs0).C ((more.take 30).foldl doV vs0).C ((more.take 30).foldl doV ((ops.take 30).foldl doV vs0)).C ∧ ((more.take 30).foldl doV ((ops.take 30).foldl doV vs0)).C.length ≤ 60) := by
    obtain ⟨a, b, c, d⟩ := steps_flat (ops.take 30) vs0 rfl List.Pairwise.nil
    have h30 : (ops.take 30).length ≤ 30 := by rw [List.length_take]; exact Nat.min_le_left _ _
    have h0 : vs0.C.length = 0 := rfl
    have h31 : (more.take 30).length ≤ 30 := by rw [List.length_take]; exact Nat.min_le_left _ _
    have d2 := (steps_flat (more.take 30) _ a b).2.2.2
    exact ⟨b, by omega, OverIs.steps (V2 := vs0) _ (OverIs.start b), by omega⟩
  obtain ⟨V1, hV1⟩ : ∃ V, V = (ops.take 30).foldl doV vs0 := ⟨_, rfl⟩
  rw [← hV1] at hDo HFL
  have HE1 : Hid (V1 = (ops.take 30).foldl doV vs0) := hV1
  clear hV1
  go_upto_region 8 with (go_at_call 23; refine hDo.mono ?_; clear hDo; rintro e x7 ⟨⟨rv7, rfl⟩, r7, R7⟩)
  have HT7 : Hid (Two w x7 m lim1 p1 v1 bs1 q1 r7 V1 lim2 p2 v2 bs2 q2 xa vs0 ∧ r7.n ≤ 120 ∧ xa.n = 0) := ⟨HT.out.1.fst R7, by have := R7.n; have := HT.out.2.1; omega, HT.out.2.2⟩
  clear R7 HT
  have hDo := does_calls HD2.out w x7 9 q2 xa vs0 HT7.out.1.b HNB.out _ ops HU.out.2.1 30 30 rfl (by decide) (by have := HT7.out.2.2; omega)
  rw [← HE1.out] at hDo
  go_upto_region 9 with (go_at_call 23; refine hDo.mono ?_; clear hDo; rintro e x8 ⟨⟨rv8, rfl⟩, r8, R8⟩)
  have HT8 : Hid (Two w x8 m lim1 p1 v1 bs1 q1 r7 V1 lim2 p2 v2 bs2 q2 r8 V1 ∧ r7.n ≤ 120 ∧ r8.n ≤ 120) := ⟨HT7.out.1.snd R8, HT7.out.2.1, by have := R8.n; have := HT7.out.2.2; omega⟩
  clear R8 HT7 HE1
  have hCh := vchanges_calls x8 q1 _ r7 V1 HT8.out.1.a.vw (by have := HT8.out.2.1; omega)
  go_upto_region 10 with (go_at_call 15; refine hCh.mono ?_; clear hCh; rintro e x9 ⟨ad9, cap9, rfl, o9, b9⟩)
  have HT9 : Hid (Two w x9 m lim1 p1 v1 bs1 q1 r7 V1 lim2 p2 v2 bs2 q2 r8 V1 ∧ r7.n ≤ 120 ∧ r8.n ≤ 120) := ⟨HT8.out.1.called (by have := HM.out; omega) b9, HT8.out.2⟩
  have HW9 : Hid (Own encC 52 x9 x8.heap.size (.slice ad9 V1.C.length cap9) (V1.C.map Ch.plain) ∧ ∀ g, Value.ownBlock (.slice ad9 V1.C.length cap9) = some g → ¬ r7.own q1 g ∧ ¬ r8.own q2 g) := ⟨o9, fun g hg => ⟨fun e => by have := HT8.out.1.a.vw.lt e; have := (o9.lt g hg).1; omega, fun e => by have := HT8.out.1.b.vw.lt e; have := (o9.lt g hg).1; omega⟩⟩
  clear o9 b9 HT8
  have HLN : Hid (∀ s, (scanV V1.C (fun s => (scanL s m, 0)) s).1.length ≤ 5000) := fun s => scanV_len _ _ (by have := HM.out; omega) (by have := HFL.out.2.1; omega) s
  have HL1 : Hid (lim1 ≤ x9.heap.size) := HT9.out.1.a.limy
  have HD3 : Hid (Baser x9.heap.size (fun i => r7.own q1 i ∨ noB i) (ViI w lim1 (plK lim1 p1 v1 m bs1) (plI p1) q1 r7 V1 9 x9.heap.size) (viI q1) (getV V1.C (plGe m)) (scanV V1.C (fun s => (scanL s m, 0)))) :=
    view_base HD1.out w q1 r7 V1 9 x9.heap.size (by have := HT9.out.2.1; omega) HNB.out HL1.out (fun i hi => HT9.out.1.a.vw.lt hi) HLN.out
  have hV := VAt.new HD3.out w x9 9 (ViI.start HT9.out.1.a (Nat.le_refl _)) HT9.out.1.a.bel.size HT9.out.1.a.bel
  go_upto_region 13 with (go_at_call 10; refine hV.mono ?_; clear hV; rintro e x10 ⟨q3, xt, rfl, At, hnt, hot, b10⟩)
  have HR : Hid (Tri w x10 m lim1 p1 v1 bs1 q1 r7 V1 lim2 p2 v2 bs2 q2 r8 V1 x9.heap.size 9 q3 xt vs0 ∧ r8.n ≤ 120 ∧ xt.n = 0 ∧ r7.n ≤ 120) := by
    have h9 := HT9.out.1
    refine ⟨⟨At, h9.b.called HD2.out b10, fun i e2 => ⟨h9.ap i e2, fun e3 => ?_⟩, h9.pa, h9.le, h9.b.limy, fun i e1 => ⟨h9.a.own i e1, h9.a.vw.lt e1⟩, h9.a.le⟩, HT9.out.2.2, hnt, HT9.out.2.1⟩
    have := h9.b.vw.lt e2
    have := hot i e3
    omega
  have HW10 : Hid (Own encC 52 x10 x8.heap.size (.slice ad9 V1.C.length cap9) (V1.C.map Ch.plain) ∧ ∀ g, Value.ownBlock (.slice ad9 V1.C.length cap9) = some g → ¬ r7.own q1 g ∧ ¬ r8.own q2 g ∧ ¬ xt.own q3 g) :=
    ⟨HW9.out.1.below b10, fun g hg => ⟨(HW9.out.2 g hg).1, (HW9.out.2 g hg).2, fun e => by have := hot g e; have := (HW9.out.1.lt g hg).2; omega⟩⟩
  clear At hnt hot b10 HT9 HW9 HL1
  generalize x9.heap.size = lim3 at *
  generalize x8.heap.size = bs3 at *
  have HS3 : Hid (∀ i, r7.own q1 i ∨ noB i → w.heap.size ≤ i) := fun i hi => hi.elim (fun e => Nat.le_trans HR.out.1.w1 (HR.out.1.lo i e).1) (fun e => e.elim)
  have hDo := does_calls HD3.out w x10 9 q3 xt vs0 HR.out.1.c HS3.out _ more HU.out.2.2 30 30 rfl (by decide) (by have := HR.out.2.2.1; omega)
  generalize (more.take 30).foldl doV vs0 = V3 at *
  go_upto_region 14 with (go_at_call 23; refine hDo.mono ?_; clear hDo; rintro e x11 ⟨⟨rv11, rfl⟩, r11, R11⟩)
  have HR11 : Hid (Tri w x11 m lim1 p1 v1 bs1 q1 r7 V1 lim2 p2 v2 bs2 q2 r8 V1 lim3 9 q3 r11 V3 ∧ r8.n ≤ 120 ∧ r11.n ≤ 120 ∧ r7.n ≤ 120) := ⟨HR.out.1.top R11, HR.out.2.1, by have := R11.n; have := HR.out.2.2.1; omega, HR.out.2.2.2⟩
  have HW11 : Hid (Own encC 52 x11 bs3 (.slice ad9 V1.C.length cap9) (V1.C.map Ch.plain) ∧ ∀ g, Value.ownBlock (.slice ad9 V1.C.length cap9) = some g → ¬ r7.own q1 g ∧ ¬ r8.own q2 g ∧ ¬ r11.own q3 g) := by
    obtain ⟨a, b⟩ := R11.keepS HW10.out.1 (fun g hg => ⟨(HW10.out.2 g hg).2.2, fun e => e.elim (HW10.out.2 g hg).1 (fun e => e)⟩)
    exact ⟨a, fun g hg => ⟨(HW10.out.2 g hg).1, (HW10.out.2 g hg).2.1, (b g hg).1⟩⟩
  clear R11 HR HW10
  have hDo := does_calls HD2.out w x11 9 q2 r8 V1 HR11.out.1.b HNB.out _ more HU.out.2.2 30 30 rfl (by decide) (by have := HR11.out.2.1; omega)
  generalize (more.take 30).foldl doV V1 = V2 at *
  go_upto_region 15 with (go_at_call 23; refine hDo.mono ?_; clear hDo; rintro e x12 ⟨⟨rv12, rfl⟩, r12, R12⟩)
  have HR12 : Hid (Tri w x12 m lim1 p1 v1 bs1 q1 r7 V1 lim2 p2 v2 bs2 q2 r12 V2 lim3 9 q3 r11 V3 ∧ r12.n ≤ 240 ∧ r11.n ≤ 120 ∧ r7.n ≤ 120) := ⟨HR11.out.1.snd R12, by have := R12.n; have := HR11.out.2.1; omega, HR11.out.2.2⟩
  have HW12 : Hid (Own encC 52 x12 bs3 (.slice ad9 V1.C.length cap9) (V1.C.map Ch.plain) ∧ ∀ g, Value.ownBlock (.slice ad9 V1.C.length cap9) = some g → ¬ r7.own q1 g ∧ ¬ r12.own q2 g ∧ ¬ r11.own q3 g) := by
    obtain ⟨a, b⟩ := R12.keepS HW11.out.1 (fun g hg => ⟨(HW11.out.2 g hg).2.1, fun e => e⟩)
    exact ⟨a, fun g hg => ⟨(HW11.out.2 g hg).1, (b g hg).1, (HW11.out.2 g hg).2.2⟩⟩
  clear R12 HR11 HW11
  have HEQ : Hid (scanV V3.C (scanV V1.C (fun s => (scanL s m, 0))) allV = scanV V2.C (fun s => (scanL s m, 0)) allV ∧ (scanV V2.C (fun s => (scanL s m, 0)) allV).2 = 0) := ⟨scan_over HFL.out.2.2.1 m allV, rfl⟩
  have hSc := HR12.out.1.c.scan HD3.out HS3.out (by have := HR12.out.2.2.1; omega) allV
  rw [HEQ.out.1, HEQ.out.2] at hSc
  have HSL : Hid ((scanV V2.C (fun s => (scanL s m, 0)) allV).1.length ≤ 5000) := scanV_len _ _ (by have := HM.out; omega) (by have := HFL.out.2.2.2; omega) allV
  go_upto_region 16 with (first
    | (refine build_at rfl rfl (cells := (sc (zs 24) (zs 24) true).toArray) (by simp only [List.map_toArray, List.map_cons, List.map_nil]; exact vall) ?_)
    | (go_at_call 18; refine hSc.mono ?_; clear hSc; rintro e x13 ⟨ad13, cap13, rfl, o13, T13⟩))
  have R13 := T13.ran (nb := 124) (by have := HR12.out.2.2.1; omega)
  have HR13 : Hid (Tri w x13 m lim1 p1 v1 bs1 q1 r7 V1 lim2 p2 v2 bs2 q2 r12 V2 lim3 8 q3 { r11 with n := r11.n + 1 } { V3 with R := V3.R ++ [allV] } ∧ r12.n ≤ 240 ∧ r7.n ≤ 120) := ⟨HR12.out.1.top R13, HR12.out.2.1, HR12.out.2.2.2⟩
  have HW13 : Hid (Own encC 52 x13 bs3 (.slice ad9 V1.C.length cap9) (V1.C.map Ch.plain) ∧ ∀ g, Value.ownBlock (.slice ad9 V1.C.length cap9) = some g → ¬ r12.own q2 g) := by
    obtain ⟨a, b⟩ := R13.keepS HW12.out.1 (fun g hg => ⟨(HW12.out.2 g hg).2.2, fun e => e.elim (HW12.out.2 g hg).1 (fun e => e)⟩)
    exact ⟨a, fun g hg => (HW12.out.2 g hg).2.1⟩
  have HA13 : Hid (Own encP 31 x13 x12.heap.size (.slice ad13 (scanV V2.C (fun s => (scanL s m, 0)) allV).1.length cap13) (scanV V2.C (fun s => (scanL s m, 0)) allV).1 ∧ ∀ g, Value.ownBlock (.slice ad13 (scanV V2.C (fun s => (scanL s m, 0)) allV).1.length cap13) = some g → ¬ r12.own q2 g) :=
    ⟨o13, fun g hg e => by have := HR12.out.1.b.vw.lt e; have := (o13.lt g hg).1; omega⟩
  clear R13 T13 o13 HR12 HW12
  have hSc := HR13.out.1.b.scan HD2.out HNB.out (by have := HR13.out.2.1; omega) allV
  rw [HEQ.out.2] at hSc
  generalize (scanV V2.C (fun s => (scanL s m, 0)) allV).1 = RES at *
  go_upto_region 17 with (first
    | (refine build_at rfl rfl (cells := (sc (zs 24) (zs 24) true).toArray) (by simp only [List.map_toArray, List.map_cons, List.map_nil]; exact vall) ?_)
    | (go_at_call 18; refine hSc.mono ?_; clear hSc; rintro e x14 ⟨ad14, cap14, rfl, o14, T14⟩))
  have R14' := T14.ran (nb := 244) (by have := HR13.out.2.1; omega)
  have R14 : VRan noB w lim2 (plK lim2 p2 v2 m bs2) 9 (plI p2) q2 r12 244 { V2 with R := V2.R ++ [allV] } x13 { r12 with n := r12.n + 1 } x14 := ⟨⟨R14'.at_.vw, R14'.at_.base, R14'.at_.own, R14'.at_.bel, R14'.at_.le, R14'.at_.limy⟩, R14'.fr, R14'.own, R14'.n⟩
  clear R14'
  have HR14 : Hid (Tri w x14 m lim1 p1 v1 bs1 q1 r7 V1 lim2 p2 v2 bs2 q2 { r12 with n := r12.n + 1 } { V2 with R := V2.R ++ [allV] } lim3 8 q3 { r11 with n := r11.n + 1 } { V3 with R := V3.R ++ [allV] } ∧ r7.n ≤ 120) := ⟨HR13.out.1.snd R14, HR13.out.2.2⟩
  have HW14 : Hid (Own encC 52 x14 bs3 (.slice ad9 V1.C.length cap9) (V1.C.map Ch.plain)) := (R14.keepS HW13.out.1 (fun g hg => ⟨HW13.out.2 g hg, fun e => e⟩)).1
  have HA14 : Hid (Own encP 31 x14 x12.heap.size (.slice ad13 RES.length cap13) RES) := (R14.keepS HA13.out.1 (fun g hg => ⟨HA13.out.2 g hg, fun e => e⟩)).1
  have hSm := sameP_calls x14 _ _ RES RES HA14.out.slB o14.slB (by have := HSL.out; omega)
  rw [show decide (RES = RES) = true from decide_eq_true rfl] at hSm
  clear R14 T14 o14 HR13 HW13 HA13
  go_wp2_with (first
    | (go_at_call 17; refine hSd.mono ?_; clear hSd; rintro e x17 ⟨rfl, b17⟩)
    | (go_at_call 15; refine hCh.mono ?_; clear hCh; rintro e x16 ⟨ad16, cap16, rfl, o16, b16⟩
       have hSd := sameC_calls x16 _ _ _ _ o16.slB ((HW15.out.below b16).slB) (by rw [List.length_map]; have := HFL.out.2.1; omega)
       rw [show decide (V1.C.map Ch.plain = V1.C.map Ch.plain) = true from decide_eq_true rfl] at hSd
       have HB16 : Hid (Below x15.heap.size x15 x16) := b16
       clear o16 b16)
    | (go_at_call 19; refine hSm.mono ?_; clear hSm; rintro e x15 ⟨rfl, b15⟩
       have HC15 : Hid (VAt w lim3 (ViI w lim1 (plK lim1 p1 v1 m bs1) (plI p1) q1 r7 V1 9 lim3) 8 (viI q1) q3 { r11 with n := r11.n + 1 } { V3 with R := V3.R ++ [allV] } x15) := HR14.out.1.c.called HD3.out b15
       have HW15 : Hid (Own encC 52 x15 bs3 (.slice ad9 V1.C.length cap9) (V1.C.map Ch.plain)) := HW14.out.below b15
       obtain ⟨-, -, Rl, AL⟩ := HC15.out.base
       have hCh := vchanges_calls x15 q1 _ _ _ AL.vw (show r7.n + (9 - 8) ≤ 5000 by have := HR14.out.2; omega)
       rw [show ({ V1 with R := Rl } : VS).C = V1.C from rfl] at hCh
       clear AL b15))
  go_ret
  exact ⟨rfl, HC15.out.bel.trans ((HB16.out.trans (b17.mono HB16.out.size)).mono HC15.out.bel.size)⟩
end Go.Proofs.YtkmeilenocjhaaaGreat
/- ViewOver answers true at every list of pairs and every two lists of steps and turns nothing that was there: a view over a view sees what one view with all steps sees, and the view below is as it was. No condition. -/
namespace Go.Proofs.YtkmeilenocjhaaaGreat
set_option linter.unusedVariables false
set_option maxRecDepth 100000
open Go.ChangeShapes Go.WideShapes Go.ChangeAt Go.RowKit
open Go.ChangeMaps (open_string shut_string)

set_option maxRecDepth 100000 in
theorem viewOver_lifted (os : Os) (started : os.Started) (H : Type) (enc : TypeId × Value → H) :
    ReturnsInHanded {} Tryz.checked os 6 .any (Rows.viewOverSpec.pre6 enc Tryz.prog Tryz.f6 Rows.viewOverRow.domain false) (Rows.viewOverSpec.post enc Tryz.prog Tryz.f6 false true false false) := by
  refine returnsInHanded_of_change (C := Tryz.checked) Tryz.own started (by kernel_rfl) Tryz.func6
    (ChangeSpec.witness6 (enc := enc) (C := Tryz.checked) false ⟨#[], #[.slice none 0 0, .slice none 0 0, .slice none 0 0], []⟩ 8 (by kernel_rfl) (by kernel_rfl) (by kernel_rfl) (by kernel_rfl)) ?_
  intro W base args ds gs before hval0 hW hcnd _
  have hval : ∀ (j : Nat) t v, Tryz.f6.params[j]? = some t → args[j]? = some v → Value.okWide Tryz.prog W .any base t v := hval0
  have hW' := hW
  obtain ⟨p, q, hA0, hV, rfl, hfz, hnd⟩ := hW
  have hA : DataW.TrodAll enc Tryz.prog W 0 (fun _ => true) true Tryz.f6.params.toList args.toList ds p := hA0
  rw [Tryz.params6] at hA hval
  obtain ⟨v0, vs0, d0, ds0, p0, q0, hargs, rfl, rfl, h0, r0⟩ := trodAll_cons hA
  obtain ⟨v1, vs1, d1, ds1, p1, q1, rfl, rfl, rfl, h1, r1⟩ := trodAll_cons r0
  obtain ⟨v2, vs2, d2, ds2, p2, q2, rfl, rfl, rfl, h2, r2⟩ := trodAll_cons r1
  obtain ⟨rfl, rfl, rfl⟩ := trodAll_nil r2
  obtain rfl : args = #[v0, v1, v2] := by cases args; simp_all
  obtain ⟨rfl, rfl⟩ := trodVars_none hV
  obtain ⟨a0, len0, cap0, rfl⟩ := okWide_slice Tryz.underlying22 (hval 0 22 v0 rfl rfl)
  have k0 := h0
  have lt0 : ∀ x ∈ p0, x.block < W.heap.size := by obtain ⟨m, hm⟩ := k0; exact DataW.trod_lt m _ _ _ hm
  obtain ⟨z0, w0⟩ := open_pairs h0
  obtain ⟨a1, len1, cap1, rfl⟩ := okWide_slice Tryz.underlying23 (hval 1 23 v1 rfl rfl)
  have k1 := h1
  have lt1 : ∀ x ∈ p1, x.block < W.heap.size := by obtain ⟨m, hm⟩ := k1; exact DataW.trod_lt m _ _ _ hm
  obtain ⟨z1, w1⟩ := open_vops h1
  obtain ⟨a2, len2, cap2, rfl⟩ := okWide_slice Tryz.underlying23 (hval 2 23 v2 rfl rfl)
  have k2 := h2
  have lt2 : ∀ x ∈ p2, x.block < W.heap.size := by obtain ⟨m, hm⟩ := k2; exact DataW.trod_lt m _ _ _ hm
  obtain ⟨z2, w2⟩ := open_vops h2
  clear hA0 hval0
  refine (viewOver_walk W (.slice a0 len0 cap0) z0 w0 (.slice a1 len1 cap1) z1 w1 (.slice a2 len2 cap2) z2 w2).mono fun e W' ⟨he, bel⟩ => ?_
  subst he
  exact ⟨_, rfl, _, _, _, [], _, [], hW', trodAll_mk1 (shut_bool Tryz.underlying4 _), (trodAll_cons_mk (Below.trod Tryz.laidOut (by kernel_rfl) (of_decide_eq_true (by kernel_rfl)) k0 bel lt0) (trodAll_cons_mk (Below.trod Tryz.laidOut (by kernel_rfl) (of_decide_eq_true (by kernel_rfl)) k1 bel lt1) (trodAll_cons_mk (Below.trod Tryz.laidOut (by kernel_rfl) (of_decide_eq_true (by kernel_rfl)) k2 bel lt2) trodAll_mk0))), rfl, bel.frame _, fun h => by cases h⟩

set_option maxRecDepth 100000 in
/-- The statement. -/
theorem viewOver_holds : Rows.ViewOverSaid :=
  OpenClaim.holds_of_wide 6 Tryz.f6 rfl rfl rfl rfl rfl rfl rfl ⟨rfl, rfl, rfl, rfl, rfl⟩ rfl rfl rfl rfl rfl (by kernel_rfl) Tryz.func6 (by kernel_rfl)
    (of_decide_eq_true (by kernel_rfl)) (by unfold Func.isWrapper; first | (rw [if_pos (by decide +kernel)]; kernel_rfl) | (rw [if_neg (by decide +kernel)]; exact ⟨rfl, rfl⟩))
    (fun os started H enc _ => viewOver_lifted os started H enc)
end Go.Proofs.YtkmeilenocjhaaaGreat
