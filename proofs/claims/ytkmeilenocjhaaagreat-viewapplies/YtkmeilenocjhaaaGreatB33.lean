import Derived.Test.YtkmeilenocjhaaaGreatB32
/- ViewApplies: the mathematics; two views whose second is made anew. -/
namespace Go.Proofs.YtkmeilenocjhaaaGreat
set_option linter.unusedVariables false
set_option maxRecDepth 100000
open Go.RowKit

theorem allV_inb {x : Int} (h : 0 ≤ x) : allV.inb x = true := by
  unfold Sp.inb
  have h2 : num allV.F = 0 := by decide
  have h3 : allV.e = true := rfl
  rw [h2, h3]
  simpa using h
theorem scanL_all (m : List Pa) : scanL allV m = m := by
  unfold scanL
  rw [List.filter_eq_self]
  intro a _
  exact allV_inb (show (0 : Int) ≤ a.n from Int.natCast_nonneg _)
theorem inL_all (C : List Ch) : inL C allV = C := by
  unfold inL
  rw [List.filter_eq_self]
  intro a _
  exact allV_inb (show (0 : Int) ≤ a.n from Int.natCast_nonneg _)
/-- Scan of all is Apply of Changes. -/
theorem scan_apply {cl m r : List Pa} {C : List Ch} (hm : MapIs cl m) (hC : Asc Ch.n C) (hr : ApplyIs cl (C.map Ch.plain) r) : scanV C (fun s => (scanL s m, 0)) allV = (r, 0) := by
  have e1 : scanV C (fun s => (scanL s m, 0)) allV = (applyL (scanL allV m) (inL C allV), 0) := rfl
  rw [e1, scanL_all, inL_all]
  refine congrArg (·, (0 : Int)) (asc_ext Pa.n (applyL_is _ _).1 hr.1 fun x => ?_)
  rw [(applyL_is _ _).2, hr.2, hm.last, lastA_asc Ch.n (plains_asc hC), plains_look, doneA_plain, lastA_asc Ch.n hC]
theorem scan_none {m : List Pa} (hm : Asc Pa.n m) : scanV [] (fun s => (scanL s m, 0)) allV = (m, 0) := by
  have e1 : scanV [] (fun s => (scanL s m, 0)) allV = (applyL (scanL allV m) (inL [] allV), 0) := rfl
  rw [e1, scanL_all, inL_all]
  refine congrArg (·, (0 : Int)) (asc_ext Pa.n (applyL_is _ _).1 hm fun x => ?_)
  rw [(applyL_is _ _).2, lastA_asc Pa.n hm]
  rfl
/-- The second view's map is the first's, with the changes that the first had when it was made. -/
theorem scan_two {C0 C1 C2 : List Ch} {m m2 : List Pa} (h : OverIs C0 C2 C1) (hm : scanV C0 (fun s => (scanL s m, 0)) allV = (m2, 0)) : scanV C1 (fun s => (scanL s m, 0)) allV = scanV C2 (fun s => (scanL s m2, 0)) allV := by
  rw [← scan_over h m allV]
  have e1 : scanV C2 (scanV C0 (fun s => (scanL s m, 0))) allV = (applyL (scanV C0 (fun s => (scanL s m, 0)) allV).1 (inL C2 allV), 0) := rfl
  have e2 : scanV C2 (fun s => (scanL s m2, 0)) allV = (applyL (scanL allV m2) (inL C2 allV), 0) := rfl
  rw [e1, e2, hm, scanL_all]
theorem over_same {C1 C2 : List Ch} (h : OverIs [] C2 C1) : C2 = C1 := asc_ext Ch.n h.a2 h.a3 fun x => by
  rw [h.is x]
  cases look Ch.n C2 x <;> rfl

/-- Two views, each over pairs of its own; a list that was there ahead of both. -/
structure Duo (w0 y : World) (uv : Value) (cl : List Pa) (m1 : List Pa) (lim1 p1 : Nat) (v1 : Value) (b1 q1 : Nat) (x1 : VR) (V1 : VS) (m2 : List Pa) (lim2 p2 : Nat) (v2 : Value) (b2 q2 : Nat) (x2 : VR) (V2 : VS) : Prop where
  a : VAt w0 lim1 (plK lim1 p1 v1 m1 b1) 9 (plI p1) q1 x1 V1 y
  b : VAt w0 lim2 (plK lim2 p2 v2 m2 b2) 9 (plI p2) q2 x2 V2 y
  ap : ∀ i, x2.own q2 i → ¬ x1.own q1 i
  pa : ∀ i, i = p2 ∨ v2.ownBlock = some i → ¬ x1.own q1 i
  le : lim1 ≤ lim2
  u : SlB encP y lim1 uv cl
section
variable {w0 y y' : World} {uv : Value} {cl m1 m2 : List Pa} {lim1 p1 : Nat} {v1 : Value} {b1 q1 : Nat} {x1 x1' : VR} {V1 V1' : VS} {lim2 p2 : Nat} {v2 : Value} {b2 q2 : Nat} {x2 x2' : VR} {V2 V2' : VS} {nb : Nat}
theorem Duo.sl (h : Duo w0 y uv cl m1 lim1 p1 v1 b1 q1 x1 V1 m2 lim2 p2 v2 b2 q2 x2 V2) : Sl encP y uv cl := h.u.wide h.a.limy
theorem Duo.fst {k : Nat} (h : Duo w0 y uv cl m1 lim1 p1 v1 b1 q1 x1 V1 m2 lim2 p2 v2 b2 q2 x2 V2) (t : VRan noB w0 lim1 (plK lim1 p1 v1 m1 b1) k (plI p1) q1 x1 nb V1' y x1' y') : Duo w0 y' uv cl m1 lim1 p1 v1 b1 q1 x1' V1' m2 lim2 p2 v2 b2 q2 x2 V2 := by
  have hp : PlC lim2 y p2 v2 m2 b2 := h.b.base
  refine ⟨⟨t.at_.vw, t.at_.base, t.at_.own, t.at_.bel, t.at_.le, t.at_.limy⟩, h.b.aside t.fr (fun i e => e.elim (fun e => ⟨Nat.le_trans h.a.le (h.a.own i e), fun e2 => h.ap i e2 e⟩) (fun e => e.elim)) (hp.kept t.fr.size fun i hi => t.fr.block i (Nat.lt_of_lt_of_le (hp.under hi) hp.le) (fun e => e.elim (h.pa i hi) (fun e => e))), ?_, ?_, h.le, ?_⟩
  · intro i e2 e1
    rcases t.own i e1 with e | e
    · exact h.ap i e2 e
    · have := h.b.vw.lt e2
      omega
  · intro i hi e1
    rcases t.own i e1 with e | e
    · exact h.pa i hi e
    · have := hp.under hi
      have := hp.le
      omega
  · refine h.u.kept (fun g hg => t.fr.block g (Nat.lt_of_lt_of_le hg h.a.limy) (fun e => e.elim (fun e => ?_) (fun e => e))) (Nat.le_refl _)
    have := h.a.own g e
    omega
theorem Duo.snd {k : Nat} (h : Duo w0 y uv cl m1 lim1 p1 v1 b1 q1 x1 V1 m2 lim2 p2 v2 b2 q2 x2 V2) (t : VRan noB w0 lim2 (plK lim2 p2 v2 m2 b2) k (plI p2) q2 x2 nb V2' y x2' y') : Duo w0 y' uv cl m1 lim1 p1 v1 b1 q1 x1 V1 m2 lim2 p2 v2 b2 q2 x2' V2' := by
  have hp : PlC lim1 y p1 v1 m1 b1 := h.a.base
  refine ⟨h.a.aside t.fr (fun i e => e.elim (fun e => ⟨Nat.le_trans h.b.le (h.b.own i e), h.ap i e⟩) (fun e => e.elim)) (hp.kept t.fr.size fun i hi => t.fr.block i (Nat.lt_of_lt_of_le (hp.under hi) hp.le) (fun e => e.elim (fun e => by have := h.b.own i e; have := hp.under hi; have := h.le; omega) (fun e => e))), ⟨t.at_.vw, t.at_.base, t.at_.own, t.at_.bel, t.at_.le, t.at_.limy⟩, ?_, h.pa, h.le, ?_⟩
  · intro i e2 e1
    rcases t.own i e2 with e | e
    · exact h.ap i e e1
    · have := h.a.vw.lt e1
      omega
  · refine h.u.kept (fun g hg => t.fr.block g (Nat.lt_of_lt_of_le hg h.a.limy) (fun e => e.elim (fun e => ?_) (fun e => e))) (Nat.le_refl _)
    have := h.b.own g e
    have := h.le
    omega
theorem Duo.called (h : Duo w0 y uv cl m1 lim1 p1 v1 b1 q1 x1 V1 m2 lim2 p2 v2 b2 q2 x2 V2) (hm1 : m1.length ≤ 5000) (hm2 : m2.length ≤ 5000) (b : Below y.heap.size y y') : Duo w0 y' uv cl m1 lim1 p1 v1 b1 q1 x1 V1 m2 lim2 p2 v2 b2 q2 x2 V2 :=
  ⟨h.a.called (plK_base _ _ _ _ _ hm1) b, h.b.called (plK_base _ _ _ _ _ hm2) b, h.ap, h.pa, h.le, h.u.below (b.mono h.a.limy)⟩
/-- The second view made anew. -/
theorem Duo.anew {m3 : List Pa} {p3 : Nat} {v3 : Value} {q3 : Nat} {x3 : VR} {y2 : World} (h : Duo w0 y uv cl m1 lim1 p1 v1 b1 q1 x1 V1 m2 lim2 p2 v2 b2 q2 x2 V2) (hm1 : m1.length ≤ 5000) (bP : Below y.heap.size y y') (bN : Below y'.heap.size y' y2) (hP : PlC y'.heap.size y' p3 v3 m3 y.heap.size) (hp3 : y.heap.size ≤ p3) (A : VAt w0 y'.heap.size (plK y'.heap.size p3 v3 m3 y.heap.size) 9 (plI p3) q3 x3 vs0 y2) :
    Duo w0 y2 uv cl m1 lim1 p1 v1 b1 q1 x1 V1 m3 y'.heap.size p3 v3 y.heap.size q3 x3 vs0 := by
  have bb : Below y.heap.size y y2 := bP.trans (bN.mono bP.size)
  have hy := h.a.limy
  have hy' := bP.size
  refine ⟨h.a.called (plK_base _ _ _ _ _ hm1) bb, A, fun i e3 e1 => ?_, fun i hi e1 => ?_, by omega, h.u.below (bb.mono hy)⟩
  · have := A.own i e3
    have := h.a.vw.lt e1
    omega
  · have := h.a.vw.lt e1
    rcases hi with rfl | hi
    · omega
    · have := (hP.own.lt i hi).1
      omega
/-- Out of two views as they were made. -/
theorem Two.duo {m : List Pa} (h : Two w0 y m lim1 p1 v1 b1 q1 x1 V1 lim2 p2 v2 b2 q2 x2 V2) (u : SlB encP y lim1 uv cl) : Duo w0 y uv cl m lim1 p1 v1 b1 q1 x1 V1 m lim2 p2 v2 b2 q2 x2 V2 := ⟨h.a, h.b, h.ap, h.pa, h.le, u⟩
end
/-- What ViewApplies' loop knows, as plain data. -/
structure ApIs (m m2 : List Pa) (V1 V2 : VS) (j : Nat) (K : Int) : Prop where
  ex : ∃ C0, scanV C0 (fun s => (scanL s m, 0)) allV = (m2, 0) ∧ OverIs C0 V2.C V1.C ∧ (C0 = [] ∧ m2 = m ∨ K < (j : Int))
  l1 : V1.C.length ≤ j
  l2 : m2.length ≤ 40 + j
  l3 : V2.C.length ≤ j
theorem ApIs.start {m : List Pa} (hm : Asc Pa.n m) (hl : m.length ≤ 40) (K : Int) : ApIs m m vs0 vs0 0 K :=
  ⟨⟨[], scan_none hm, OverIs.start List.Pairwise.nil, .inl ⟨rfl, rfl⟩⟩, Nat.le_refl _, hl, Nat.le_refl _⟩
theorem doV_len (V : VS) (o : Vo) : (doV V o).C.length ≤ V.C.length + 1 := by
  unfold doV
  split
  · split
    · exact putA_len Ch.n V.C _
    · exact Nat.le_succ _
  · exact putA_len Ch.n V.C _
theorem ApIs.step {m m2 : List Pa} {V1 V2 : VS} {j : Nat} {K : Int} (h : ApIs m m2 V1 V2 j K) (o : Vo) : ApIs m m2 (doV V1 o) (doV V2 o) (j + 1) K := by
  obtain ⟨C0, h1, h2, h3⟩ := h.ex
  refine ⟨⟨C0, h1, h2.doV o, h3.imp id (fun e => by omega)⟩, ?_, ?_, ?_⟩
  · have := doV_len V1 o
    have := h.l1
    omega
  · have := h.l2
    omega
  · have := doV_len V2 o
    have := h.l3
    omega
theorem ApIs.pre {m m2 : List Pa} {V1 V2 : VS} {j : Nat} (h : ApIs m m2 V1 V2 j (j : Int)) : m2 = m ∧ V2.C = V1.C ∧ Asc Ch.n V2.C := by
  obtain ⟨C0, h1, h2, h3⟩ := h.ex
  rcases h3 with ⟨rfl, e⟩ | h3
  · exact ⟨e, over_same h2, h2.a2⟩
  · exact absurd h3 (by omega)
theorem ApIs.anew {m m2 m3 : List Pa} {V1 V2 : VS} {j : Nat} (h : ApIs m m2 V1 V2 j (j : Int)) (hm : m.length ≤ 40) (h3 : scanV V2.C (fun s => (scanL s m2, 0)) allV = (m3, 0)) (o : Vo) : ApIs m m3 (doV V1 o) (doV vs0 o) (j + 1) (j : Int) := by
  obtain ⟨rfl, e2, ha⟩ := h.pre
  have e3 : m3 = applyL (scanL allV m2) (inL V2.C allV) := (congrArg (·.1) h3).symm
  have h0 : OverIs V1.C vs0.C V1.C := by rw [← e2]; exact OverIs.start ha
  refine ⟨⟨V1.C, by rw [← e2]; exact h3, h0.doV o, .inr (by omega)⟩, ?_, ?_, ?_⟩
  · have := doV_len V1 o
    have := h.l1
    omega
  · rw [e3]
    have := applyL_len (scanL allV m2) (inL V2.C allV)
    have := scanL_len allV m2
    have : (inL V2.C allV).length ≤ V2.C.length := List.length_filter_le _ _
    have := h.l3
    omega
  · have := doV_len vs0 o
    have h0 : vs0.C.length = 0 := rfl
    omega
end Go.Proofs.YtkmeilenocjhaaaGreat
