import Derived.Test.YtkmeilenocjhaaaGreatSi
import Derived.Test.YtkmeilenocjhaaaGreatB33
/- ViewApplies. -/
namespace Go.Proofs.YtkmeilenocjhaaaGreat
set_option linter.unusedVariables false
set_option maxRecDepth 100000
open Go.RowKit

/-- What a round holds of the two views. -/
structure VpAt (w0 : World) (uv : Value) (cl m : List Pa) (lim1 p1 : Nat) (v1 : Value) (b1 q1 q2 : Nat) (V1 V2 : VS) (m2 : List Pa) (n : Nat) (y : World) : Prop where
  ex : ∃ (lim2 p2 : Nat) (v2 : Value) (b2 : Nat) (x1 x2 : VR), Duo w0 y uv cl m lim1 p1 v1 b1 q1 x1 V1 m2 lim2 p2 v2 b2 q2 x2 V2 ∧ x1.n ≤ n ∧ x2.n ≤ n
/-- What ViewApplies' loop carries. -/
structure VpLp (w0 : World) (uv : Value) (cl m : List Pa) (lim1 p1 : Nat) (v1 : Value) (b1 q1 q2 j : Nat) (K : Int) (y : World) : Prop where
  ex : ∃ V1 V2 m2, ApIs m m2 V1 V2 j K ∧ VpAt w0 uv cl m lim1 p1 v1 b1 q1 q2 V1 V2 m2 (12 * j) y
section
variable {w0 y y' : World} {uv : Value} {cl m m2 : List Pa} {lim1 p1 : Nat} {v1 : Value} {b1 q1 q2 n : Nat} {V1 V2 : VS}
theorem VpAt.called (h : VpAt w0 uv cl m lim1 p1 v1 b1 q1 q2 V1 V2 m2 n y) (hm : m.length ≤ 5000) (hm2 : m2.length ≤ 5000) (b : Below y.heap.size y y') : VpAt w0 uv cl m lim1 p1 v1 b1 q1 q2 V1 V2 m2 n y' := by
  obtain ⟨lim2, p2, v2, b2, x1, x2, D, h1, h2⟩ := h.ex
  exact ⟨lim2, p2, v2, b2, x1, x2, D.called hm hm2 b, h1, h2⟩
theorem VpAt.bel (h : VpAt w0 uv cl m lim1 p1 v1 b1 q1 q2 V1 V2 m2 n y) : Below w0.heap.size w0 y := by
  obtain ⟨lim2, p2, v2, b2, x1, x2, D, h1, h2⟩ := h.ex
  exact D.a.bel
/-- A call on the first view. -/
theorem VpAt.fst {F : FuncId} {args : Array Value} {V1' : VS} {R : Ending → Prop} (h : VpAt w0 uv cl m lim1 p1 v1 b1 q1 q2 V1 V2 m2 n y) (hm : m.length ≤ 5000) (hn : n ≤ 2000)
    (hc : ∀ x, VAt w0 lim1 (plK lim1 p1 v1 m b1) 9 (plI p1) q1 x V1 y → x.n ≤ 2000 → Calls Tryz.prog F args y fun e y' => R e ∧ ∃ x', VRan noB w0 lim1 (plK lim1 p1 v1 m b1) 9 (plI p1) q1 x (x.n + 4) V1' y x' y') :
    Calls Tryz.prog F args y fun e y' => R e ∧ VpAt w0 uv cl m lim1 p1 v1 b1 q1 q2 V1' V2 m2 (n + 4) y' := by
  obtain ⟨lim2, p2, v2, b2, x1, x2, D, h1, h2⟩ := h.ex
  refine (hc x1 D.a (by omega)).mono fun e y' t => ⟨t.1, ?_⟩
  obtain ⟨x', t⟩ := t.2
  exact ⟨lim2, p2, v2, b2, x', x2, D.fst t, Nat.le_trans t.n (by omega), by omega⟩
/-- A call on the second. -/
theorem VpAt.snd {F : FuncId} {args : Array Value} {V2' : VS} {R : Ending → Prop} {c : Nat} (h : VpAt w0 uv cl m lim1 p1 v1 b1 q1 q2 V1 V2 m2 n y) (hm : m2.length ≤ 5000) (hn : n ≤ 2000) (hcn : c ≤ n + 4)
    (hc : ∀ (lim2 p2 : Nat) (v2 : Value) (b2 : Nat) (x : VR), Baser lim2 noB (plK lim2 p2 v2 m2 b2) (plI p2) (plGe m2) (fun s => (scanL s m2, 0)) → VAt w0 lim2 (plK lim2 p2 v2 m2 b2) 9 (plI p2) q2 x V2 y → x.n ≤ 2000 → Calls Tryz.prog F args y fun e y' => R e ∧ ∃ x' k, VRan noB w0 lim2 (plK lim2 p2 v2 m2 b2) k (plI p2) q2 x (x.n + 4) V2' y x' y') :
    Calls Tryz.prog F args y fun e y' => R e ∧ VpAt w0 uv cl m lim1 p1 v1 b1 q1 q2 V1 V2' m2 (n + 4) y' := by
  obtain ⟨lim2, p2, v2, b2, x1, x2, D, h1, h2⟩ := h.ex
  refine (hc lim2 p2 v2 b2 x2 (plK_base _ _ _ _ _ hm) D.b (by omega)).mono fun e y' t => ⟨t.1, ?_⟩
  obtain ⟨x', k, t⟩ := t.2
  exact ⟨lim2, p2, v2, b2, x1, x', D.snd t, by omega, Nat.le_trans t.n (by omega)⟩
/-- Put of a step, whatever its value. -/
def putE (o : Vo) : Int := if okV (o.s.take 50) = true then 0 else 1
theorem VAt.putV {lim : Nat} {S : Nat → Prop} {I : Nat → World → Prop} {iv : Value} {ge : Kz → List UInt8 × Bool × Int} {sn : Sp → List Pa × Int} {k q : Nat} {x : VR} {V : VS} (D : Baser lim S I iv ge sn) (h : VAt w0 lim I k iv q x V y) (hS : ∀ i, S i → w0.heap.size ≤ i) (hn : x.n ≤ 100000) (o : Vo) (hk : o.kind = 1) :
    Calls Tryz.prog 21 #[.pointer (some ⟨q, 0, none⟩), kv o.k, .string (str (o.s.take 50))] y fun e y' => e = .returned (.int .i64 (putE o)) ∧ ∃ x', VRan S w0 lim I k iv q x (x.n + 4) (doV V o) y x' y' := by
  have hd : doV V o = if okV (o.s.take 50) = true then V.change o.ch else V := by unfold doV; rw [if_pos hk]
  unfold putE
  rw [hd]
  by_cases hov : okV (o.s.take 50) = true
  · rw [if_pos hov, if_pos hov]
    refine (h.put D hS hn o.ch rfl hov).mono fun e y' t => ⟨t.1, ?_⟩
    obtain ⟨x', t⟩ := t.2
    exact ⟨x', t.ran (Nat.le_refl _)⟩
  · rw [if_neg hov, if_neg hov]
    refine (vput_bad y q o.kz (o.s.take 50) (by simpa using hov)).mono fun e y' t => ⟨t.1, x, ?_⟩
    exact (h.ran (nb := x.n + 4) (by omega)).called D t.2
theorem VAt.delV {lim : Nat} {S : Nat → Prop} {I : Nat → World → Prop} {iv : Value} {ge : Kz → List UInt8 × Bool × Int} {sn : Sp → List Pa × Int} {k q : Nat} {x : VR} {V : VS} (D : Baser lim S I iv ge sn) (h : VAt w0 lim I k iv q x V y) (hS : ∀ i, S i → w0.heap.size ≤ i) (hn : x.n ≤ 100000) (o : Vo) (hk : ¬ o.kind = 1) :
    Calls Tryz.prog 22 #[.pointer (some ⟨q, 0, none⟩), kv o.k] y fun e y' => e = .returned (.int .i64 0) ∧ ∃ x', VRan S w0 lim I k iv q x (x.n + 4) (doV V o) y x' y' := by
  have hd : doV V o = V.change (goneC o.kz) := by unfold doV; rw [if_neg hk]
  rw [hd]
  refine (h.delete D hS hn o.kz).mono fun e y' t => ⟨t.1, ?_⟩
  obtain ⟨x', t⟩ := t.2
  exact ⟨x', t.ran (Nat.le_refl _)⟩
theorem noB_low (w0 : World) : ∀ i, noB i → w0.heap.size ≤ i := fun i hi => hi.elim
theorem VpAt.put1 (h : VpAt w0 uv cl m lim1 p1 v1 b1 q1 q2 V1 V2 m2 n y) (hm : m.length ≤ 5000) (hn : n ≤ 2000) (o : Vo) (hk : o.kind = 1) :
    Calls Tryz.prog 21 #[.pointer (some ⟨q1, 0, none⟩), kv o.k, .string (str (o.s.take 50))] y fun e y' => e = .returned (.int .i64 (putE o)) ∧ VpAt w0 uv cl m lim1 p1 v1 b1 q1 q2 (doV V1 o) V2 m2 (n + 4) y' :=
  h.fst (R := fun e => e = .returned (.int .i64 (putE o))) hm hn fun x A hx => A.putV (plK_base _ _ _ _ _ hm) (noB_low _) (by omega) o hk
theorem VpAt.del1 (h : VpAt w0 uv cl m lim1 p1 v1 b1 q1 q2 V1 V2 m2 n y) (hm : m.length ≤ 5000) (hn : n ≤ 2000) (o : Vo) (hk : ¬ o.kind = 1) :
    Calls Tryz.prog 22 #[.pointer (some ⟨q1, 0, none⟩), kv o.k] y fun e y' => e = .returned (.int .i64 0) ∧ VpAt w0 uv cl m lim1 p1 v1 b1 q1 q2 (doV V1 o) V2 m2 (n + 4) y' :=
  h.fst (R := fun e => e = .returned (.int .i64 0)) hm hn fun x A hx => A.delV (plK_base _ _ _ _ _ hm) (noB_low _) (by omega) o hk
/-- Bounds of the two apart: the second's is raised alone. -/
theorem VpAt.put2 (h : VpAt w0 uv cl m lim1 p1 v1 b1 q1 q2 V1 V2 m2 n y) (hm : m2.length ≤ 5000) (hn : n ≤ 2000) (o : Vo) (hk : o.kind = 1) :
    Calls Tryz.prog 21 #[.pointer (some ⟨q2, 0, none⟩), kv o.k, .string (str (o.s.take 50))] y fun e y' => e = .returned (.int .i64 (putE o)) ∧ VpAt w0 uv cl m lim1 p1 v1 b1 q1 q2 V1 (doV V2 o) m2 (n + 4) y' :=
  h.snd (R := fun e => e = .returned (.int .i64 (putE o))) (c := 0) hm hn (Nat.zero_le _) fun lim2 p2 v2 b2 x D A hx => (A.putV D (noB_low _) (by omega) o hk).mono fun e y' t => ⟨t.1, by obtain ⟨x', t⟩ := t.2; exact ⟨x', _, t⟩⟩
theorem VpAt.del2 (h : VpAt w0 uv cl m lim1 p1 v1 b1 q1 q2 V1 V2 m2 n y) (hm : m2.length ≤ 5000) (hn : n ≤ 2000) (o : Vo) (hk : ¬ o.kind = 1) :
    Calls Tryz.prog 22 #[.pointer (some ⟨q2, 0, none⟩), kv o.k] y fun e y' => e = .returned (.int .i64 0) ∧ VpAt w0 uv cl m lim1 p1 v1 b1 q1 q2 V1 (doV V2 o) m2 (n + 4) y' :=
  h.snd (R := fun e => e = .returned (.int .i64 0)) (c := 0) hm hn (Nat.zero_le _) fun lim2 p2 v2 b2 x D A hx => (A.delV D (noB_low _) (by omega) o hk).mono fun e y' t => ⟨t.1, by obtain ⟨x', t⟩ := t.2; exact ⟨x', _, t⟩⟩
/-- Scan of all on the second; the answer is nobody else's. -/
theorem VpAt.scan2 (h : VpAt w0 uv cl m lim1 p1 v1 b1 q1 q2 V1 V2 m2 n y) (hm : m2.length ≤ 5000) (hn : n ≤ 2000) :
    Calls Tryz.prog 18 #[.pointer (some ⟨q2, 0, none⟩), spv allV] y fun e y' => (∃ ad cap, e = .returned (.tuple #[.slice ad (scanV V2.C (fun s => (scanL s m2, 0)) allV).1.length cap, .int .i64 0]) ∧ Own encP 31 y' y.heap.size (.slice ad (scanV V2.C (fun s => (scanL s m2, 0)) allV).1.length cap) (scanV V2.C (fun s => (scanL s m2, 0)) allV).1) ∧ ∃ R, VpAt w0 uv cl m lim1 p1 v1 b1 q1 q2 V1 { V2 with R := R } m2 (n + 4) y' := by
  obtain ⟨lim2, p2, v2, b2, x1, x2, D, h1, h2⟩ := h.ex
  refine ((D.b).scan (k := 8) (plK_base _ _ _ _ _ hm) (noB_low _) (by omega) allV).mono fun e y' t => ?_
  obtain ⟨ad, cap, e1, o1, t⟩ := t
  exact ⟨⟨ad, cap, e1, o1⟩, _, lim2, p2, v2, b2, x1, _, D.snd (t.ran (Nat.le_refl _)), by omega, (show x2.n + 1 ≤ n + 4 by omega)⟩
/-- Scan of all on the first, then on the second: both answers stand. -/
theorem VpAt.scan12 (h : VpAt w0 uv cl m lim1 p1 v1 b1 q1 q2 V1 V2 m2 n y) (hm : m.length ≤ 5000) (hm2 : m2.length ≤ 5000) (hn : n ≤ 2000) :
    Calls Tryz.prog 18 #[.pointer (some ⟨q1, 0, none⟩), spv allV] y fun e y1 => ∃ ad cap, e = .returned (.tuple #[.slice ad (scanV V1.C (fun s => (scanL s m, 0)) allV).1.length cap, .int .i64 0]) ∧
      Calls Tryz.prog 18 #[.pointer (some ⟨q2, 0, none⟩), spv allV] y1 fun e y2 => ∃ ad2 cap2, e = .returned (.tuple #[.slice ad2 (scanV V2.C (fun s => (scanL s m2, 0)) allV).1.length cap2, .int .i64 0]) ∧
        Own encP 31 y2 y.heap.size (.slice ad (scanV V1.C (fun s => (scanL s m, 0)) allV).1.length cap) (scanV V1.C (fun s => (scanL s m, 0)) allV).1 ∧
        Own encP 31 y2 y1.heap.size (.slice ad2 (scanV V2.C (fun s => (scanL s m2, 0)) allV).1.length cap2) (scanV V2.C (fun s => (scanL s m2, 0)) allV).1 ∧
        ∃ R R', VpAt w0 uv cl m lim1 p1 v1 b1 q1 q2 { V1 with R := R } { V2 with R := R' } m2 (n + 4) y2 := by
  obtain ⟨lim2, p2, v2, b2, x1, x2, D, h1, h2⟩ := h.ex
  refine ((D.a).scan (k := 8) (plK_base _ _ _ _ _ hm) (noB_low _) (by omega) allV).mono fun e y1 t => ?_
  obtain ⟨ad, cap, e1, o1, t⟩ := t
  refine ⟨ad, cap, e1, ?_⟩
  have D1 := D.fst (t.ran (Nat.le_refl _))
  refine ((D1.b).scan (k := 8) (plK_base _ _ _ _ _ hm2) (noB_low _) (by omega) allV).mono fun e y2 t2 => ?_
  obtain ⟨ad2, cap2, e2, o2, t2⟩ := t2
  have r2 := t2.ran (nb := x2.n + 4) (Nat.le_refl _)
  refine ⟨ad2, cap2, e2, (r2.keepS o1 fun g hg => ⟨fun q => ?_, fun q => q⟩).1, o2, _, _, lim2, p2, v2, b2, _, _, D1.snd r2, (show x1.n + 1 ≤ n + 4 by omega), (show x2.n + 1 ≤ n + 4 by omega)⟩
  have := D.b.vw.lt q
  have := (o1.lt g hg).1
  omega
theorem VpAt.changes1 (h : VpAt w0 uv cl m lim1 p1 v1 b1 q1 q2 V1 V2 m2 n y) (hn : n ≤ 2000) :
    Calls Tryz.prog 15 #[.pointer (some ⟨q1, 0, none⟩)] y fun e y' => ∃ ad cap, e = .returned (.slice ad V1.C.length cap) ∧ Own encC 52 y' y.heap.size (.slice ad V1.C.length cap) (V1.C.map Ch.plain) ∧ Below y.heap.size y y' := by
  obtain ⟨lim2, p2, v2, b2, x1, x2, D, h1, h2⟩ := h.ex
  exact vchanges_calls y q1 _ x1 V1 D.a.vw (by omega)
theorem VpAt.changes2 (h : VpAt w0 uv cl m lim1 p1 v1 b1 q1 q2 V1 V2 m2 n y) (hn : n ≤ 2000) :
    Calls Tryz.prog 15 #[.pointer (some ⟨q2, 0, none⟩)] y fun e y' => ∃ ad cap, e = .returned (.slice ad V2.C.length cap) ∧ Own encC 52 y' y.heap.size (.slice ad V2.C.length cap) (V2.C.map Ch.plain) ∧ Below y.heap.size y y' := by
  obtain ⟨lim2, p2, v2, b2, x1, x2, D, h1, h2⟩ := h.ex
  exact vchanges_calls y q2 _ x2 V2 D.b.vw (by omega)
theorem VpAt.sl (h : VpAt w0 uv cl m lim1 p1 v1 b1 q1 q2 V1 V2 m2 n y) : Sl encP y uv cl := by
  obtain ⟨lim2, p2, v2, b2, x1, x2, D, h1, h2⟩ := h.ex
  exact D.sl
theorem VpAt.mono {n' : Nat} (h : VpAt w0 uv cl m lim1 p1 v1 b1 q1 q2 V1 V2 m2 n y) (hn : n ≤ n') : VpAt w0 uv cl m lim1 p1 v1 b1 q1 q2 V1 V2 m2 n' y := by
  obtain ⟨lim2, p2, v2, b2, x1, x2, D, h1, h2⟩ := h.ex
  exact ⟨lim2, p2, v2, b2, x1, x2, D, by omega, by omega⟩
/-- The second made anew: NewPlain and New behind one another. -/
theorem VpAt.anew {u3 : Value} {m3 : List Pa} (h : VpAt w0 uv cl m lim1 p1 v1 b1 q1 q2 V1 V2 m2 n y) (hm : m.length ≤ 5000) (hu : Sl encP y u3 m3) (hm3 : m3.length ≤ 5000) (ha : Asc Pa.n m3) :
    Calls Tryz.prog 9 #[u3] y fun e y' => ∃ p3 : Nat, e = .returned (.pointer (some ⟨p3, 0, none⟩)) ∧ Calls Tryz.prog 10 #[plI p3] y' fun e y2 => ∃ q3 : Nat, e = .returned (.pointer (some ⟨q3, 0, none⟩)) ∧ VpAt w0 uv cl m lim1 p1 v1 b1 q1 q3 V1 vs0 m3 n y2 := by
  obtain ⟨lim2, p2, v2, b2, x1, x2, D, h1, h2⟩ := h.ex
  refine (newPlainO_calls y u3 m3 hu (by omega)).mono fun e y' t => ?_
  obtain ⟨p3, v3, m4, e1, hp, hov, hmi, hml, hpl, b3⟩ := t
  obtain rfl : m4 = m3 := asc_ext Pa.n hmi.1 ha fun x => by rw [hmi.2, lastA_asc Pa.n ha]
  refine ⟨p3, e1, ?_⟩
  have hP : PlC y'.heap.size y' p3 v3 m4 y.heap.size := PlC.of hp hov hmi.1
  refine (VAt.new (plK_base y'.heap.size p3 v3 m4 y.heap.size hm3) w0 y' 9 hP (Nat.le_trans D.a.bel.size b3.size) (D.a.bel.trans (b3.mono D.a.bel.size))).mono fun e y2 t => ?_
  obtain ⟨q3, x3, e2, A, hn0, -, bN⟩ := t
  exact ⟨q3, e2, y'.heap.size, p3, v3, y.heap.size, x1, x3, D.anew hm b3 bN hP hpl A, h1, by omega⟩
end
set_option maxRecDepth 100000 in
set_option maxHeartbeats 16000000 in
theorem viewApplies_walk (w : World) (u : Value) (l : List Pa) (h : Sl encP w u l) (u1 : Value) (ops : List Vo) (h1 : Sl encO w u1 ops) (at_ : Int) :
    Calls Tryz.prog 4 #[u, u1, .int .i64 at_] w fun e w' => e = .returned (.bool true) ∧ Below w.heap.size w w' := by
  have hsh := shown12_calls w
  have HU : Hid (Sl encP w u l ∧ Sl encO w u1 ops) := ⟨h, h1⟩
  obtain ⟨ad, cap, rfl, hcap, hmax, -, -⟩ := id h1
  have HI : Hid (∀ i (hi : i < ops.length), ∃ g off, ad = some ⟨g, off, none⟩ ∧ g < w.heap.size ∧ w.rangeAt g (off + i * 76) (encO.c ops[i])) := fun i hi => SlB.at h1 i hi
  obtain ⟨N, hN⟩ : ∃ N : Nat, N = ops.length := ⟨_, rfl⟩
  rw [← hN] at hcap hmax ⊢
  have HN : Hid (N = ops.length) := hN
  obtain ⟨T, hT⟩ : ∃ T : Nat, T = min N 40 := ⟨_, rfl⟩
  have HT : Hid (T = min N 40) := hT
  clear h h1 hN hT
  go_enter Tryz.func4, Tryz.ntmps4
  go_upto_region 2 with (go_at_call 7; refine hsh.mono ?_; clear hsh; rintro e x1 ⟨rfl, b1⟩)
  have hC := cutP_calls x1 u l (HU.out.1.called b1)
  have HB1 : Hid (Below w.heap.size w x1) := b1
  clear b1
  go_upto_region 3 with (go_at_call 8; refine hC.mono ?_; clear hC; rintro e x2 ⟨uv, rfl, o2, b2⟩
                         have hN := newPlainO_calls x2 uv (cutP l) o2.slB (by have := cutP_len l; omega)
                         have HB2 : Hid (Below w.heap.size w x2 ∧ Sl encP x2 uv (cutP l)) := ⟨HB1.out.trans (b2.mono HB1.out.size), o2.slB⟩
                         clear b2 o2 HB1)
  go_upto_region 4 with (first
    | (go_at_call 10; refine hV.mono ?_; clear hV; rintro e x4 ⟨q1, xl, rfl, Al, hnl, hol, b4⟩)
    | (go_at_call 9; refine hN.mono ?_; clear hN; rintro e x3 ⟨p1, v1, m, rfl, hp, hov, hmi, hml, -, b3⟩
       have hm40 : m.length ≤ 40 := Nat.le_trans hml (cutP_len l)
       have HX3 : Hid (Below w.heap.size w x3 ∧ m.length ≤ 40 ∧ MapIs (cutP l) m) := ⟨HB2.out.1.trans (b3.mono HB2.out.1.size), hm40, hmi⟩
       have hV := VAt.new (plK_base x3.heap.size p1 v1 m x2.heap.size (by omega)) w x3 9 (PlC.of hp hov hmi.1) HX3.out.1.size HX3.out.1
       have HS3 : Hid (Sl encP x3 uv (cutP l)) := HB2.out.2.called b3
       clear hp hml b3 hm40 hov hmi))
  have HL4 : Hid (VAt w x3.heap.size (plK x3.heap.size p1 v1 m x2.heap.size) 9 (plI p1) q1 xl vs0 x4 ∧ xl.n = 0 ∧ Below x3.heap.size x3 x4) := ⟨Al, hnl, b4⟩
  have hN := newPlainO_calls x4 uv (cutP l) (HS3.out.called b4) (by have := cutP_len l; omega)
  clear Al hnl hol b4
  go_upto_region 5 with (first
    | (go_at_call 10; refine hV.mono ?_; clear hV; rintro e x6 ⟨q2, xa, rfl, Aa, hna, hoa, b6⟩)
    | (go_at_call 9; refine hN.mono ?_; clear hN; rintro e x5 ⟨p2, v2, m2, rfl, hp, hov, hmi, hml, hpl, b5⟩
       obtain rfl := MapIs.unique HX3.out.2.2 hmi
       have HX5 : Hid (Below w.heap.size w x5 ∧ Below x4.heap.size x4 x5 ∧ PlC x5.heap.size x5 p2 v2 m x4.heap.size ∧ x4.heap.size ≤ p2) := ⟨HL4.out.1.bel.trans (b5.mono HL4.out.1.bel.size), b5, PlC.of hp hov hmi.1, hpl⟩
       have hV := VAt.new (plK_base x5.heap.size p2 v2 m x4.heap.size (by have := HX3.out.2.1; omega)) w x5 9 HX5.out.2.2.1 HX5.out.1.size HX5.out.1
       clear hp hov hmi hml hpl b5))
  have HT6 : Hid (VpAt w uv (cutP l) m x3.heap.size p1 v1 x2.heap.size q1 q2 vs0 vs0 m 0 x6) := by
    have hD := plK_base x3.heap.size p1 v1 m x2.heap.size (by have := HX3.out.2.1; omega)
    have hx4 := HX5.out.2.1.size
    have b36 : Below x3.heap.size x3 x6 := (HL4.out.2.2.trans (HX5.out.2.1.mono HL4.out.2.2.size)).trans (b6.mono (Nat.le_trans HL4.out.2.2.size hx4))
    refine ⟨_, _, _, _, xl, xa, Two.duo ⟨(HL4.out.1.called hD HX5.out.2.1).called hD b6, Aa, fun i e2 e1 => ?_, fun i hi e1 => ?_, Nat.le_trans HL4.out.2.2.size hx4⟩ (HS3.out.below b36), by have := HL4.out.2.1; omega, by omega⟩
    · have := Aa.own i e2
      have := HL4.out.1.vw.lt e1
      omega
    · have := HL4.out.1.vw.lt e1
      rcases hi with rfl | hi
      · have := HX5.out.2.2.2
        omega
      · have := (HX5.out.2.2.1.own.lt i hi).1
        omega
  have HM : Hid (m.length ≤ 40 ∧ MapIs (cutP l) m) := HX3.out.2
  clear Aa hna hoa b6 HL4 HX3 HX5 HS3 HB2
  generalize x3.heap.size = lim1 at *
  generalize x2.heap.size = bs1 at *
  go_upto_region 9 with fail
  generalize bits BinOp.and IntKind.i64 at_ 63 = K at *
  have HLP : Hid (VpLp w uv (cutP l) m lim1 p1 v1 bs1 q1 q2 0 K x6) := ⟨vs0, vs0, m, ApIs.start HM.out.2.1 HM.out.1 K, HT6.out⟩
  have HB6 : Hid (Below w.heap.size w x6) := HT6.out.bel
  clear HT6
  go_wp2
  go_loopg [9, 11, 12] T (fun gg s9 s11 i wr => ∃ (j : Nat) (q2 : Nat), j + gg = T ∧ i = .int .i64 (j : Int) ∧ s11 = .int .i64 (j : Int) ∧ s9 = .pointer (some ⟨q2, 0, none⟩) ∧ Hid (VpLp w uv (cutP l) m lim1 p1 v1 bs1 q1 q2 j K wr))
  case atStart => exact ⟨0, q2, by omega, rfl, rfl, rfl, HLP.out⟩
  case round =>
    clear HLP
    obtain ⟨j, q2, hjg, rfl, rfl, rfl, HE⟩ := hrel
    obtain ⟨V1, V2, m2, IS, E⟩ := HE.out.ex
    have HIS : Hid (ApIs m m2 V1 V2 j K) := IS
    have HV : Hid (VpAt w uv (cutP l) m lim1 p1 v1 bs1 q1 q2 V1 V2 m2 (12 * j) wr) := E
    clear IS E HE
    cases gk with
    | zero =>
      have hjT : j = T := by omega
      have HJ4 : Hid (j ≤ 40) := (show _ ≤ _ by have := HT.out; omega)
      have hS1 := HV.out.scan12 (by have := HM.out.1; omega) (by have := HIS.out.l2; have := HJ4.out; omega) (by have := HJ4.out; omega)
      by_cases hjN : j < N
      · have hjI : (j : Int) < (N : Int) := by omega
        have hjM : ¬ (j : Int) < 40 := by have := HT.out; omega
        go_upto_region 28 with (first
          | (refine build_at rfl rfl (cells := (sc (zs 24) (zs 24) true).toArray) (by simp only [List.map_toArray, List.map_cons, List.map_nil]; exact vall) ?_)
          | (go_at_call 18; first
              | (refine hS1.mono ?_; clear hS1; rintro e y1 ⟨ad1, cap1, rfl, hS2⟩)
              | (refine hS2.mono ?_; clear hS2; rintro e y2 ⟨ad2, cap2, rfl, oA, oB, R, R', V9⟩)))
        have HV9 : Hid (VpAt w uv (cutP l) m lim1 p1 v1 bs1 q1 q2 { V1 with R := R } { V2 with R := R' } m2 (12 * j + 4) y2) := V9
        have HOA : Hid (Own encP 31 y2 wr.heap.size (.slice ad1 (scanV V1.C (fun s => (scanL s m, 0)) allV).1.length cap1) (scanV V1.C (fun s => (scanL s m, 0)) allV).1) := oA
        have HA1 : Hid (Asc Ch.n V1.C) := by
          obtain ⟨C0, e1, e2, -⟩ := HIS.out.ex
          exact e2.a3
        have HEQ : Hid (scanV V1.C (fun s => (scanL s m, 0)) allV = scanV V2.C (fun s => (scanL s m2, 0)) allV) := by
          obtain ⟨C0, e1, e2, -⟩ := HIS.out.ex
          exact scan_two e2 e1
        rw [← HEQ.out] at oB
        have hl5 : (scanV V1.C (fun s => (scanL s m, 0)) allV).1.length ≤ 5000 := scanV_len _ _ (by have := HM.out.1; omega) (by have := HIS.out.l1; have := HJ4.out; omega) allV
        have hSm := sameP_calls y2 _ _ _ _ oA.slB oB.slB (by omega)
        rw [show decide ((scanV V1.C (fun s => (scanL s m, 0)) allV).1 = (scanV V1.C (fun s => (scanL s m, 0)) allV).1) = true from decide_eq_true rfl] at hSm
        rw [← HEQ.out]
        have HL5 : Hid ((scanV V1.C (fun s => (scanL s m, 0)) allV).1.length ≤ 5000) := hl5
        have HM5 : Hid (m.length ≤ 5000 ∧ m2.length ≤ 5000) := ⟨by have := HM.out.1; omega, by have := HIS.out.l2; have := HJ4.out; omega⟩
        clear oA oB V9 hl5
        go_wp2_with (first
          | (go_at_call 20; refine hAp.mono ?_; clear hAp; rintro e y5 ⟨v5, r5, rfl, o5, i5, -, b5⟩
             have hr5 := scan_apply HM.out.2 HA1.out i5
             have HA5 : Hid (Own encP 31 y5 wr.heap.size (.slice ad1 (scanV V1.C (fun s => (scanL s m, 0)) allV).1.length cap1) (scanV V1.C (fun s => (scanL s m, 0)) allV).1) := HA4.out.below b5
             have hSp := sameP_calls y5 _ _ _ _ HA5.out.slB o5.slB (by have := HL5.out; omega)
             rw [hr5, show decide (r5 = r5) = true from decide_eq_true rfl] at hSp
             rw [hr5]
             have HB5 : Hid (Below y2.heap.size y2 y5) := HB4.out.trans (b5.mono HB4.out.size)
             clear o5 i5 b5 hr5)
          | (go_at_call 15; refine hCh.mono ?_; clear hCh; rintro e y4 ⟨ad4, cap4, rfl, o4, b4⟩
             have HA4 : Hid (Own encP 31 y4 wr.heap.size (.slice ad1 (scanV V1.C (fun s => (scanL s m, 0)) allV).1.length cap1) (scanV V1.C (fun s => (scanL s m, 0)) allV).1) := HA3.out.below b4
             have HB4 : Hid (Below y2.heap.size y2 y4) := HB3.out.trans (b4.mono HB3.out.size)
             have hAp := apply_calls y4 uv _ (cutP l) (V1.C.map Ch.plain) ((HV9.out.called HM5.out.1 HM5.out.2 HB4.out).sl) o4.slB (by have := cutP_len l; omega) (by rw [List.length_map]; have := HIS.out.l1; have := HJ4.out; omega)
             clear o4 b4)
          | (go_at_call 19; first
              | (refine hSm.mono ?_; clear hSm; rintro e y3 ⟨rfl, b3⟩
                 have HB3 : Hid (Below y2.heap.size y2 y3) := b3
                 have HA3 : Hid (Own encP 31 y3 wr.heap.size (.slice ad1 (scanV V1.C (fun s => (scanL s m, 0)) allV).1.length cap1) (scanV V1.C (fun s => (scanL s m, 0)) allV).1) := HOA.out.below b3
                 have hCh := (HV9.out.called HM5.out.1 HM5.out.2 b3).changes1 (by have := HJ4.out; omega)
                 rw [show ({ V1 with R := R } : VS).C = V1.C from rfl] at hCh
                 clear b3)
              | (refine hSp.mono ?_; clear hSp; rintro e y6 ⟨rfl, b6⟩)))
        go_ret
        exact ⟨rfl, HV9.out.bel.trans ((HB5.out.trans (b6.mono HB5.out.size)).mono HV9.out.bel.size)⟩
      · have hjI : ¬ (j : Int) < (N : Int) := by omega
        go_upto_region 28 with (first
          | (refine build_at rfl rfl (cells := (sc (zs 24) (zs 24) true).toArray) (by simp only [List.map_toArray, List.map_cons, List.map_nil]; exact vall) ?_)
          | (go_at_call 18; first
              | (refine hS1.mono ?_; clear hS1; rintro e y1 ⟨ad1, cap1, rfl, hS2⟩)
              | (refine hS2.mono ?_; clear hS2; rintro e y2 ⟨ad2, cap2, rfl, oA, oB, R, R', V9⟩)))
        have HV9 : Hid (VpAt w uv (cutP l) m lim1 p1 v1 bs1 q1 q2 { V1 with R := R } { V2 with R := R' } m2 (12 * j + 4) y2) := V9
        have HOA : Hid (Own encP 31 y2 wr.heap.size (.slice ad1 (scanV V1.C (fun s => (scanL s m, 0)) allV).1.length cap1) (scanV V1.C (fun s => (scanL s m, 0)) allV).1) := oA
        have HA1 : Hid (Asc Ch.n V1.C) := by
          obtain ⟨C0, e1, e2, -⟩ := HIS.out.ex
          exact e2.a3
        have HEQ : Hid (scanV V1.C (fun s => (scanL s m, 0)) allV = scanV V2.C (fun s => (scanL s m2, 0)) allV) := by
          obtain ⟨C0, e1, e2, -⟩ := HIS.out.ex
          exact scan_two e2 e1
        rw [← HEQ.out] at oB
        have hl5 : (scanV V1.C (fun s => (scanL s m, 0)) allV).1.length ≤ 5000 := scanV_len _ _ (by have := HM.out.1; omega) (by have := HIS.out.l1; have := HJ4.out; omega) allV
        have hSm := sameP_calls y2 _ _ _ _ oA.slB oB.slB (by omega)
        rw [show decide ((scanV V1.C (fun s => (scanL s m, 0)) allV).1 = (scanV V1.C (fun s => (scanL s m, 0)) allV).1) = true from decide_eq_true rfl] at hSm
        rw [← HEQ.out]
        have HL5 : Hid ((scanV V1.C (fun s => (scanL s m, 0)) allV).1.length ≤ 5000) := hl5
        have HM5 : Hid (m.length ≤ 5000 ∧ m2.length ≤ 5000) := ⟨by have := HM.out.1; omega, by have := HIS.out.l2; have := HJ4.out; omega⟩
        clear oA oB V9 hl5
        go_wp2_with (first
          | (go_at_call 20; refine hAp.mono ?_; clear hAp; rintro e y5 ⟨v5, r5, rfl, o5, i5, -, b5⟩
             have hr5 := scan_apply HM.out.2 HA1.out i5
             have HA5 : Hid (Own encP 31 y5 wr.heap.size (.slice ad1 (scanV V1.C (fun s => (scanL s m, 0)) allV).1.length cap1) (scanV V1.C (fun s => (scanL s m, 0)) allV).1) := HA4.out.below b5
             have hSp := sameP_calls y5 _ _ _ _ HA5.out.slB o5.slB (by have := HL5.out; omega)
             rw [hr5, show decide (r5 = r5) = true from decide_eq_true rfl] at hSp
             rw [hr5]
             have HB5 : Hid (Below y2.heap.size y2 y5) := HB4.out.trans (b5.mono HB4.out.size)
             clear o5 i5 b5 hr5)
          | (go_at_call 15; refine hCh.mono ?_; clear hCh; rintro e y4 ⟨ad4, cap4, rfl, o4, b4⟩
             have HA4 : Hid (Own encP 31 y4 wr.heap.size (.slice ad1 (scanV V1.C (fun s => (scanL s m, 0)) allV).1.length cap1) (scanV V1.C (fun s => (scanL s m, 0)) allV).1) := HA3.out.below b4
             have HB4 : Hid (Below y2.heap.size y2 y4) := HB3.out.trans (b4.mono HB3.out.size)
             have hAp := apply_calls y4 uv _ (cutP l) (V1.C.map Ch.plain) ((HV9.out.called HM5.out.1 HM5.out.2 HB4.out).sl) o4.slB (by have := cutP_len l; omega) (by rw [List.length_map]; have := HIS.out.l1; have := HJ4.out; omega)
             clear o4 b4)
          | (go_at_call 19; first
              | (refine hSm.mono ?_; clear hSm; rintro e y3 ⟨rfl, b3⟩
                 have HB3 : Hid (Below y2.heap.size y2 y3) := b3
                 have HA3 : Hid (Own encP 31 y3 wr.heap.size (.slice ad1 (scanV V1.C (fun s => (scanL s m, 0)) allV).1.length cap1) (scanV V1.C (fun s => (scanL s m, 0)) allV).1) := HOA.out.below b3
                 have hCh := (HV9.out.called HM5.out.1 HM5.out.2 b3).changes1 (by have := HJ4.out; omega)
                 rw [show ({ V1 with R := R } : VS).C = V1.C from rfl] at hCh
                 clear b3)
              | (refine hSp.mono ?_; clear hSp; rintro e y6 ⟨rfl, b6⟩)))
        go_ret
        exact ⟨rfl, HV9.out.bel.trans ((HB5.out.trans (b6.mono HB5.out.size)).mono HV9.out.bel.size)⟩
    | succ gg =>
      have hjI : (j : Int) < (N : Int) := by have := HT.out; omega
      have hjM : (j : Int) < 40 := by have := HT.out; omega
      have hj0 : (0 : Int) ≤ (j : Int) := by omega
      have hjb : (j : Int) ≤ 100 := by have := HT.out; omega
      have hjl : j < ops.length := by have := HN.out; omega
      have HJ4 : Hid (j ≤ 40) := (show _ ≤ _ by have := HT.out; omega)
      have HM5 : Hid (m.length ≤ 5000 ∧ m2.length ≤ 5000) := ⟨by have := HM.out.1; omega, by have := HIS.out.l2; have := HJ4.out; omega⟩
      obtain ⟨g, off, rfl, hg, hat⟩ := HI.out j hjl
      generalize ops[j] = o at *
      have HAT : Hid (∀ yy : World, Below w.heap.size w yy → yy.rangeAt g (off + j * 76) (encO.c o)) := fun yy hb => range_same' hat (hb.block g hg)
      have HCS : Hid (∀ yy : World, yy.rangeAt g (off + j * 76) (encO.c o) → yy.cell? ⟨g, off + j * 76 + 26, none⟩ = some (.string (str o.s))) := fun yy hh => range_oStr hh
      have hcut := str_take50 o.s
      have hm0 : (0 : Int) ≤ min ((str o.s).size : Int) 50 := by omega
      have hm1 : min ((str o.s).size : Int) 50 ≤ ((str o.s).size : Int) := by omega
      clear hat hg hjl HI
      go_upto_region 12 with fail
      have HVD : Hid (VpAt w uv (cutP l) m lim1 p1 v1 bs1 q1 q2 V1 V2 m2 (12 * j) wr.drew) := HV.out.called HM5.out.1 HM5.out.2 ⟨rfl, rfl, rfl, Nat.le_refl _, fun _ _ => rfl⟩
      have HRG : Hid (wr.drew.rangeAt g (off + j * 76) (encO.c o)) := HAT.out _ HVD.out.bel
      refine wp_region_noPanic ?_
      refine wp_region_held_drew (S := (fun yy => yy.rangeAt g (off + j * 76) (encO.c o))) (by kernel_rfl) (HRG.out) (fun hHeld => ?_)
      refine wpAnyH_take (i := 0) (v := ?_) rfl (by kernel_rfl) (by kernel_rfl) (by kernel_rfl) (fun _ _ _ h => h) (Or.inl ⟨by rfl, ?_⟩) hHeld ?_
      case refine_2 => (intro w hSw; (try dsimp only at hSw); go_simp; try (with_reducible rfl))
      (try simp only [gs])
      refine wpAnyH_take (i := 1) (v := ?_) rfl (by kernel_rfl) (by kernel_rfl) (by kernel_rfl) (fun _ _ _ h => h) (Or.inl ⟨by rfl, ?_⟩) hHeld ?_
      case refine_2 => (intro w hSw; (try dsimp only at hSw); go_simp; try (with_reducible rfl))
      (try simp only [gs])
      refine wpAnyH_take (i := 2) (v := ?_) rfl (by kernel_rfl) (by kernel_rfl) (by kernel_rfl) (fun _ _ _ h => h) (Or.inl ⟨by rfl, ?_⟩) hHeld ?_
      case refine_2 => (intro w hSw; (try dsimp only at hSw); go_simp; try (with_reducible rfl))
      (try simp only [gs])
      refine wpAnyH_take (i := 3) (v := ?_) rfl (by kernel_rfl) (by kernel_rfl) (by kernel_rfl) (fun _ _ _ h => h) (Or.inl ⟨by rfl, ?_⟩) hHeld ?_
      case refine_2 => (intro w hSw; (try dsimp only at hSw); go_simp; try (with_reducible rfl))
      (try simp only [gs])
      refine wpAnyH_take (i := 4) (v := ?_) rfl (by kernel_rfl) (by kernel_rfl) (by kernel_rfl) (fun _ _ _ h => h) (Or.inl ⟨by rfl, ?_⟩) hHeld ?_
      case refine_2 => (intro w hSw; (try dsimp only at hSw); have hc := HCS.out _ hSw; go_simp; try (with_reducible rfl))
      (try simp only [gs])
      refine wpAnyH_take (i := 5) (v := ?_) rfl (by kernel_rfl) (by kernel_rfl) (by kernel_rfl) (fun _ _ _ h => h) (Or.inl ⟨by rfl, ?_⟩) hHeld ?_
      case refine_2 => (intro w hSw; (try dsimp only at hSw); go_simp; try (with_reducible rfl))
      (try simp only [gs])
      refine wpAnyH_take (i := 6) (v := ?_) rfl (by kernel_rfl) (by kernel_rfl) (by kernel_rfl) (fun _ _ _ h => h) (Or.inl ⟨by rfl, ?_⟩) hHeld ?_
      case refine_2 => (intro w hSw; (try dsimp only at hSw); go_simp; try (with_reducible rfl))
      (try simp only [gs])
      refine wpAnyH_take (i := 7) (v := ?_) rfl (by kernel_rfl) (by kernel_rfl) (by kernel_rfl) (fun _ _ _ h => h) (Or.inl ⟨by rfl, ?_⟩) hHeld ?_
      case refine_2 => (intro w hSw; (try dsimp only at hSw); go_simp; try (with_reducible rfl))
      (try simp only [gs])
      refine wpAnyH_take (i := 8) (v := ?_) rfl (by kernel_rfl) (by kernel_rfl) (by kernel_rfl) (fun _ _ _ h => h) (Or.inl ⟨by rfl, ?_⟩) hHeld ?_
      case refine_2 => (intro w hSw; (try dsimp only at hSw); go_simp; try (with_reducible rfl))
      (try simp only [gs])
      refine wpAnyH_take (i := 9) (v := ?_) rfl (by kernel_rfl) (by kernel_rfl) (by kernel_rfl) (fun _ _ _ h => h) (Or.inl ⟨by rfl, ?_⟩) hHeld ?_
      case refine_2 => (intro w hSw; (try dsimp only at hSw); have hc := HCS.out _ hSw; go_simp; try (with_reducible rfl))
      (try simp only [gs])
      refine wpAnyH_take (i := 10) (v := ?_) rfl (by kernel_rfl) (by kernel_rfl) (by kernel_rfl) (fun _ _ _ h => h) (Or.inl ⟨by rfl, ?_⟩) hHeld ?_
      case refine_2 => (intro w hSw; (try dsimp only at hSw); go_simp; try (with_reducible rfl))
      (try simp only [gs])
      refine wpAnyH_take (i := 11) (v := ?_) rfl (by kernel_rfl) (by kernel_rfl) (by kernel_rfl) (fun _ _ _ h => h) (Or.inl ⟨by rfl, ?_⟩) hHeld ?_
      case refine_2 => (intro w hSw; (try dsimp only at hSw); go_simp; try (with_reducible rfl))
      (try simp only [gs])
      refine wpAnyH_take (i := 12) (v := ?_) rfl (by kernel_rfl) (by kernel_rfl) (by kernel_rfl) (fun _ _ _ h => h) (Or.inl ⟨by rfl, ?_⟩) hHeld ?_
      case refine_2 => (intro w hSw; (try dsimp only at hSw); go_simp; try (with_reducible rfl))
      (try simp only [gs])
      refine wpAnyH_take (i := 13) (v := ?_) rfl (by kernel_rfl) (by kernel_rfl) (by kernel_rfl) (fun _ _ _ h => h) (Or.inl ⟨by rfl, ?_⟩) hHeld ?_
      case refine_2 => (intro w hSw; (try dsimp only at hSw); go_simp; try (with_reducible rfl))
      (try simp only [gs])
      refine wpAnyH_done (by kernel_rfl) ?_ _
      refine NoPanic.normal ?_
      clear hHeld HRG HV
      generalize wr.drew = y1 at *
      by_cases hjk : (j : Int) = K
      · subst hjk
        have hS := HVD.out.scan2 HM5.out.2 (by have := HJ4.out; omega)
        obtain ⟨m3, hm3⟩ : ∃ m3, scanV V2.C (fun s => (scanL s m2, 0)) allV = (m3, 0) := ⟨applyL (scanL allV m2) (inL V2.C allV), rfl⟩
        have hlen3 := scanV_len V2.C m2 (by have := HIS.out.l2; have := HJ4.out; omega) (by have := HIS.out.l3; have := HJ4.out; omega) allV
        have hasc3 : Asc Pa.n (scanV V2.C (fun s => (scanL s m2, 0)) allV).1 := (applyL_is (scanL allV m2) (inL V2.C allV)).1
        have HM3 : Hid (scanV V2.C (fun s => (scanL s m2, 0)) allV = (m3, 0)) := hm3
        rw [hm3] at hS hlen3 hasc3
        have H3 : Hid (m3.length ≤ 5000 ∧ Asc Pa.n m3) := ⟨hlen3, hasc3⟩
        have HPR : Hid (m2 = m ∧ V2.C = V1.C ∧ Asc Ch.n V2.C) := HIS.out.pre
        clear hm3 hlen3 hasc3
        go_upto_region 15 with (first
          | (refine build_at rfl rfl (cells := (sc (zs 24) (zs 24) true).toArray) (by simp only [List.map_toArray, List.map_cons, List.map_nil]; exact vall) ?_)
          | (go_at_call 18; refine hS.mono ?_; clear hS; rintro e y2 ⟨⟨ad2, cap2, rfl, oA⟩, R, V9⟩))
        have HOA : Hid (Own encP 31 y2 y1.heap.size (.slice ad2 m3.length cap2) m3) := oA
        have HV9 : Hid (VpAt w uv (cutP l) m lim1 p1 v1 bs1 q1 q2 V1 { V2 with R := R } m2 (12 * j + 4) y2) := V9
        have hCh := V9.changes2 (by have := HJ4.out; omega)
        rw [show ({ V2 with R := R } : VS).C = V2.C from rfl] at hCh
        clear oA V9
        go_upto_region 17 with (first
          | (go_at_call 19; refine hSp.mono ?_; clear hSp; rintro e y5 ⟨rfl, b5⟩)
          | (go_at_call 20; refine hAp.mono ?_; clear hAp; rintro e y4 ⟨v4, r4, rfl, o4, i4, -, b4⟩
             have hr4 := scan_apply HM.out.2 HPR.out.2.2 i4
             have hr5 : m3 = r4 := by
               have h9 := HM3.out
               rw [HPR.out.1, hr4] at h9
               exact (congrArg (·.1) h9).symm
             have HA4 : Hid (Own encP 31 y4 y1.heap.size (.slice ad2 m3.length cap2) m3 ∧ Below y2.heap.size y2 y4) := ⟨HA3.out.1.below b4, HA3.out.2.trans (b4.mono HA3.out.2.size)⟩
             have hSp := sameP_calls y4 _ _ _ _ HA4.out.1.slB o4.slB (by have := H3.out.1; omega)
             rw [← hr5, show decide (m3 = m3) = true from decide_eq_true rfl] at hSp
             clear o4 i4 b4 hr4 hr5)
          | (go_at_call 15; refine hCh.mono ?_; clear hCh; rintro e y3 ⟨ad3, cap3, rfl, o3, b3⟩
             have HA3 : Hid (Own encP 31 y3 y1.heap.size (.slice ad2 m3.length cap2) m3 ∧ Below y2.heap.size y2 y3) := ⟨HOA.out.below b3, b3⟩
             have hAp := apply_calls y3 uv _ (cutP l) (V2.C.map Ch.plain) ((HV9.out.called HM5.out.1 HM5.out.2 b3).sl) o3.slB (by have := cutP_len l; omega) (by rw [List.length_map]; have := HIS.out.l3; have := HJ4.out; omega)
             clear o3 b3))
        have HV5 : Hid (VpAt w uv (cutP l) m lim1 p1 v1 bs1 q1 q2 V1 { V2 with R := R } m2 (12 * j + 4) y5) := HV9.out.called HM5.out.1 HM5.out.2 (HA4.out.2.trans (b5.mono HA4.out.2.size))
        have hNP := HV5.out.anew HM5.out.1 (HA4.out.1.below b5).slB H3.out.1 H3.out.2
        clear b5 HA4 HV9 HOA HVD
        go_upto_region 18 with (first
          | (go_at_call 9; refine hNP.mono ?_; clear hNP; rintro e y6 ⟨p3, rfl, hNw⟩)
          | (go_at_call 10; refine hNw.mono ?_; clear hNw; rintro e y7 ⟨q3, rfl, V7⟩))
        have HVA : Hid (VpAt w uv (cutP l) m lim1 p1 v1 bs1 q1 q3 V1 vs0 m3 (12 * j + 4) y7) := V7
        have HIN : Hid (ApIs m m3 (doV V1 o) (doV vs0 o) (j + 1) (j : Int)) := HIS.out.anew HM.out.1 HM3.out o
        clear V7 HV5
        -- the world is y7, the second view's pointer q3, its state vs0 over m3; the bound is 12 * j + 4
        have hr := HAT.out y7 HVA.out.bel
        have hkind := range_oKind hr
        go_upto_region 21 with fail
        by_cases hk1 : o.kind = 1
        · rw [hk1] at hkind
          have HKL : Hid ((bc o.k).length = 24) := (show _ = _ by rw [bc_length, o.h])
          have HCK : Hid ((Tryz.prog.info? 29).map (·.size) = some 24) := Tryz.key_info
          have HRG2 : Hid (y7.drew.rangeAt g (off + j * 76) (encO.c o)) := hr
          have HVB : Hid (VpAt w uv (cutP l) m lim1 p1 v1 bs1 q1 q3 V1 vs0 m3 (12 * j + 4) y7.drew) := HVA.out.called HM5.out.1 H3.out.1 ⟨rfl, rfl, rfl, Nat.le_refl _, fun _ _ => rfl⟩
          have hP1 := HVB.out.put1 HM5.out.1 (by have := HJ4.out; omega) o hk1
          have HK1 : Hid (o.kind = 1) := hk1
          clear hr hk1
          go_upto_region 22 with fail
          refine wp_region_noPanic ?_
          refine wp_region_held_drew (S := (fun yy => yy.rangeAt g (off + j * 76) (encO.c o))) (by kernel_rfl) (HRG2.out) (fun hHeld => ?_)
          refine wpAnyH_take (i := 0) (v := ?_) rfl (by kernel_rfl) (by kernel_rfl) (by kernel_rfl) (fun _ _ _ h => h) (Or.inl ⟨by rfl, ?_⟩) hHeld ?_
          case refine_2 => (intro w hSw; (try dsimp only at hSw); go_simp; try (with_reducible rfl))
          (try simp only [gs])
          refine wpAnyH_take (i := 1) (v := ?_) rfl (by kernel_rfl) (by kernel_rfl) (by kernel_rfl) (fun _ _ _ h => h) (Or.inl ⟨by rfl, ?_⟩) hHeld ?_
          case refine_2 => (intro w hSw; (try dsimp only at hSw); go_simp; try (with_reducible rfl))
          (try simp only [gs])
          refine wpAnyH_take (i := 2) (v := ?_) rfl (by kernel_rfl) (by kernel_rfl) (by kernel_rfl) (fun _ _ _ h => h) (Or.inl ⟨by rfl, ?_⟩) hHeld ?_
          case refine_2 => (intro w hSw; (try dsimp only at hSw); go_simp; try (with_reducible rfl))
          (try simp only [gs])
          refine wpAnyH_take (i := 3) (v := ?_) rfl (by kernel_rfl) (by kernel_rfl) (by kernel_rfl) (fun _ _ _ h => h) (Or.inl ⟨by rfl, ?_⟩) hHeld ?_
          case refine_2 => (intro w hSw; (try dsimp only at hSw); go_simp; try (with_reducible rfl))
          (try simp only [gs])
          refine wpAnyH_take (i := 4) (v := ?_) rfl (by kernel_rfl) (by kernel_rfl) (by kernel_rfl) (fun _ _ _ h => h) (Or.inl ⟨by rfl, ?_⟩) hHeld ?_
          case refine_2 => (intro w hSw; (try dsimp only at hSw); go_simp; try (with_reducible rfl))
          (try simp only [gs])
          refine wpAnyH_take (i := 5) rfl (by kernel_rfl) (by kernel_rfl) (by kernel_rfl) (fun _ _ _ h => h) (yieldsIf_load_mid (by rfl) _ _ rfl _ _ rfl _ _ (fun y h => range_oKey h) Tryz.underlying29 rfl (by rw [HKL.out]; exact HCK.out)) hHeld ?_
          (try simp only [gs])
          refine wpAnyH_take (i := 6) (v := ?_) rfl (by kernel_rfl) (by kernel_rfl) (by kernel_rfl) (fun _ _ _ h => h) (Or.inl ⟨by rfl, ?_⟩) hHeld ?_
          case refine_2 => (intro w hSw; (try dsimp only at hSw); go_simp; try (with_reducible rfl))
          (try simp only [gs])
          refine wpAnyH_take (i := 8) (v := ?_) rfl (by kernel_rfl) (by kernel_rfl) (by kernel_rfl) (fun _ _ _ h => h) (Or.inl ⟨by rfl, ?_⟩) hHeld ?_
          case refine_2 => (intro w hSw; (try dsimp only at hSw); go_simp; try (with_reducible rfl))
          (try simp only [gs])
          refine wpAnyH_take (i := 9) (v := ?_) rfl (by kernel_rfl) (by kernel_rfl) (by kernel_rfl) (fun _ _ _ h => h) (Or.inl ⟨by rfl, ?_⟩) hHeld ?_
          case refine_2 => (intro w hSw; (try dsimp only at hSw); go_simp; try (with_reducible rfl))
          (try simp only [gs])
          refine wpAnyH_take (i := 10) (v := ?_) rfl (by kernel_rfl) (by kernel_rfl) (by kernel_rfl) (fun _ _ _ h => h) (Or.inl ⟨by rfl, ?_⟩) hHeld ?_
          case refine_2 => (intro w hSw; (try dsimp only at hSw); go_simp; try (with_reducible rfl))
          (try simp only [gs])
          refine wpAnyH_take (i := 11) (v := ?_) rfl (by kernel_rfl) (by kernel_rfl) (by kernel_rfl) (fun _ _ _ h => h) (Or.inl ⟨by rfl, ?_⟩) hHeld ?_
          case refine_2 => (intro w hSw; (try dsimp only at hSw); go_simp; try (with_reducible rfl))
          (try simp only [gs])
          refine wpAnyH_take (i := 12) (v := ?_) rfl (by kernel_rfl) (by kernel_rfl) (by kernel_rfl) (fun _ _ _ h => h) (Or.inl ⟨by rfl, ?_⟩) hHeld ?_
          case refine_2 => (intro w hSw; (try dsimp only at hSw); go_simp; try (with_reducible rfl))
          (try simp only [gs])
          refine wpAnyH_take (i := 13) rfl (by kernel_rfl) (by kernel_rfl) (by kernel_rfl) (fun _ _ _ h => h) (yieldsIf_load_mid (by rfl) _ _ rfl _ _ rfl _ _ (fun y h => range_oKey h) Tryz.underlying29 rfl (by rw [HKL.out]; exact HCK.out)) hHeld ?_
          (try simp only [gs])
          refine wpAnyH_take (i := 14) (v := ?_) rfl (by kernel_rfl) (by kernel_rfl) (by kernel_rfl) (fun _ _ _ h => h) (Or.inl ⟨by rfl, ?_⟩) hHeld ?_
          case refine_2 => (intro w hSw; (try dsimp only at hSw); go_simp; try (with_reducible rfl))
          (try simp only [gs])
          generalize y7.drew = z1 at *
          refine wpAnyH_ready (rs := [7]) (by kernel_rfl) (by simp) (AllReadyH.cons rfl (fun K0 hK => ?_) AllReadyH.nil)
          rw [if_pos (by rfl)]
          (try simp only [gs])
          go_simp
          refine hP1.mono ?_
          clear hP1
          rintro e z2 ⟨rfl, VB2⟩
          have HVB2 : Hid (VpAt w uv (cutP l) m lim1 p1 v1 bs1 q1 q3 (doV V1 o) vs0 m3 (12 * j + 4 + 4) z2) := VB2
          refine hK.out _ _ (HAT.out z2 HVB2.out.bel) (fun g1 => ?_)
          clear hK K0
          (try simp only [gs])
          have hP2 := HVB2.out.put2 H3.out.1 (by have := HJ4.out; omega) o HK1.out
          clear VB2
          refine wpAnyH_ready (rs := [15]) (by kernel_rfl) (by simp) (AllReadyH.cons rfl (fun K0 hK => ?_) AllReadyH.nil)
          rw [if_pos (by rfl)]
          (try simp only [gs])
          go_simp
          refine hP2.mono ?_
          clear hP2
          rintro e z3 ⟨rfl, VB3⟩
          have HVB3 : Hid (VpAt w uv (cutP l) m lim1 p1 v1 bs1 q1 q3 (doV V1 o) (doV vs0 o) m3 (12 * j + 4 + 4 + 4) z3) := VB3
          refine hK.out _ _ (HAT.out z3 HVB3.out.bel) (fun g2 => ?_)
          clear hK K0 VB3 hHeld
          have hHeld := HAT.out z3 HVB3.out.bel
          (try simp only [gs])
          refine wpAnyH_take (i := 16) (v := ?_) rfl (by kernel_rfl) (by kernel_rfl) (by kernel_rfl) (fun _ _ _ h => h) (Or.inl ⟨by rfl, ?_⟩) hHeld ?_
          case refine_2 => (intro w hSw; (try dsimp only at hSw); go_simp; try (with_reducible rfl))
          (try simp only [gs])
          refine wpAnyH_done (by kernel_rfl) ?_ _
          refine NoPanic.normal ?_
          clear g1 g2 hHeld
          go_wp2_with fail
          go_roundg gg
          case measure => omega
          case rel => exact ⟨j + 1, q3, by omega, congrArg (Value.int .i64) (by omega), congrArg (Value.int .i64) (by omega), rfl, (show VpLp _ _ _ _ _ _ _ _ _ _ _ _ _ from ⟨doV V1 o, doV vs0 o, m3, HIN.out, HVB3.out.mono (by omega)⟩)⟩
        · have hkn : (o.kind == 1) = false := by simpa using hk1
          have HK1 : Hid (¬ o.kind = 1) := hk1
          have hkk := range_oKey hr
          have hD1 := HVA.out.del1 HM5.out.1 (by have := HJ4.out; omega) o hk1
          clear hr hk1
          go_wp2_with (first
            | (go_at_call 22; first
                | (refine hD1.mono ?_; clear hD1; rintro e z2 ⟨rfl, VB2⟩
                   have HVB2 : Hid (VpAt w uv (cutP l) m lim1 p1 v1 bs1 q1 q3 (doV V1 o) vs0 m3 (12 * j + 4 + 4) z2) := VB2
                   have hD2 := HVB2.out.del2 H3.out.1 (by have := HJ4.out; omega) o HK1.out
                   have hkk2 := range_oKey (HAT.out z2 HVB2.out.bel)
                   clear VB2 hkk)
                | (refine hD2.mono ?_; clear hD2; rintro e z3 ⟨rfl, VB3⟩
                   have HVB3 : Hid (VpAt w uv (cutP l) m lim1 p1 v1 bs1 q1 q3 (doV V1 o) (doV vs0 o) m3 (12 * j + 4 + 4 + 4) z3) := VB3
                   clear VB3 hkk2))
            | (refine load_part _ rfl g (off + j * 76 + 2) rfl rfl _ o.h hkk ?_)
            | (refine load_part _ rfl g (off + j * 76 + 2) rfl rfl _ o.h hkk2 ?_))
          go_roundg gg
          case measure => omega
          case rel => exact ⟨j + 1, q3, by omega, congrArg (Value.int .i64) (by omega), congrArg (Value.int .i64) (by omega), rfl, (show VpLp _ _ _ _ _ _ _ _ _ _ _ _ _ from ⟨doV V1 o, doV vs0 o, m3, HIN.out, HVB3.out.mono (by omega)⟩)⟩
      · have hkb : ((j : Int) == K) = false := by simpa using hjk
        have HVA : Hid (VpAt w uv (cutP l) m lim1 p1 v1 bs1 q1 q2 V1 V2 m2 (12 * j) y1) := HVD.out
        clear HVD
        -- the world is y1, the second view's pointer q2, its state V2 over m2; the bound is 12 * j
        have hr := HAT.out y1 HVA.out.bel
        have hkind := range_oKind hr
        go_upto_region 21 with fail
        by_cases hk1 : o.kind = 1
        · rw [hk1] at hkind
          have HKL : Hid ((bc o.k).length = 24) := (show _ = _ by rw [bc_length, o.h])
          have HCK : Hid ((Tryz.prog.info? 29).map (·.size) = some 24) := Tryz.key_info
          have HRG2 : Hid (y1.drew.rangeAt g (off + j * 76) (encO.c o)) := hr
          have HVB : Hid (VpAt w uv (cutP l) m lim1 p1 v1 bs1 q1 q2 V1 V2 m2 (12 * j) y1.drew) := HVA.out.called HM5.out.1 HM5.out.2 ⟨rfl, rfl, rfl, Nat.le_refl _, fun _ _ => rfl⟩
          have hP1 := HVB.out.put1 HM5.out.1 (by have := HJ4.out; omega) o hk1
          have HK1 : Hid (o.kind = 1) := hk1
          clear hr hk1
          go_upto_region 22 with fail
          refine wp_region_noPanic ?_
          refine wp_region_held_drew (S := (fun yy => yy.rangeAt g (off + j * 76) (encO.c o))) (by kernel_rfl) (HRG2.out) (fun hHeld => ?_)
          refine wpAnyH_take (i := 0) (v := ?_) rfl (by kernel_rfl) (by kernel_rfl) (by kernel_rfl) (fun _ _ _ h => h) (Or.inl ⟨by rfl, ?_⟩) hHeld ?_
          case refine_2 => (intro w hSw; (try dsimp only at hSw); go_simp; try (with_reducible rfl))
          (try simp only [gs])
          refine wpAnyH_take (i := 1) (v := ?_) rfl (by kernel_rfl) (by kernel_rfl) (by kernel_rfl) (fun _ _ _ h => h) (Or.inl ⟨by rfl, ?_⟩) hHeld ?_
          case refine_2 => (intro w hSw; (try dsimp only at hSw); go_simp; try (with_reducible rfl))
          (try simp only [gs])
          refine wpAnyH_take (i := 2) (v := ?_) rfl (by kernel_rfl) (by kernel_rfl) (by kernel_rfl) (fun _ _ _ h => h) (Or.inl ⟨by rfl, ?_⟩) hHeld ?_
          case refine_2 => (intro w hSw; (try dsimp only at hSw); go_simp; try (with_reducible rfl))
          (try simp only [gs])
          refine wpAnyH_take (i := 3) (v := ?_) rfl (by kernel_rfl) (by kernel_rfl) (by kernel_rfl) (fun _ _ _ h => h) (Or.inl ⟨by rfl, ?_⟩) hHeld ?_
          case refine_2 => (intro w hSw; (try dsimp only at hSw); go_simp; try (with_reducible rfl))
          (try simp only [gs])
          refine wpAnyH_take (i := 4) (v := ?_) rfl (by kernel_rfl) (by kernel_rfl) (by kernel_rfl) (fun _ _ _ h => h) (Or.inl ⟨by rfl, ?_⟩) hHeld ?_
          case refine_2 => (intro w hSw; (try dsimp only at hSw); go_simp; try (with_reducible rfl))
          (try simp only [gs])
          refine wpAnyH_take (i := 5) rfl (by kernel_rfl) (by kernel_rfl) (by kernel_rfl) (fun _ _ _ h => h) (yieldsIf_load_mid (by rfl) _ _ rfl _ _ rfl _ _ (fun y h => range_oKey h) Tryz.underlying29 rfl (by rw [HKL.out]; exact HCK.out)) hHeld ?_
          (try simp only [gs])
          refine wpAnyH_take (i := 6) (v := ?_) rfl (by kernel_rfl) (by kernel_rfl) (by kernel_rfl) (fun _ _ _ h => h) (Or.inl ⟨by rfl, ?_⟩) hHeld ?_
          case refine_2 => (intro w hSw; (try dsimp only at hSw); go_simp; try (with_reducible rfl))
          (try simp only [gs])
          refine wpAnyH_take (i := 8) (v := ?_) rfl (by kernel_rfl) (by kernel_rfl) (by kernel_rfl) (fun _ _ _ h => h) (Or.inl ⟨by rfl, ?_⟩) hHeld ?_
          case refine_2 => (intro w hSw; (try dsimp only at hSw); go_simp; try (with_reducible rfl))
          (try simp only [gs])
          refine wpAnyH_take (i := 9) (v := ?_) rfl (by kernel_rfl) (by kernel_rfl) (by kernel_rfl) (fun _ _ _ h => h) (Or.inl ⟨by rfl, ?_⟩) hHeld ?_
          case refine_2 => (intro w hSw; (try dsimp only at hSw); go_simp; try (with_reducible rfl))
          (try simp only [gs])
          refine wpAnyH_take (i := 10) (v := ?_) rfl (by kernel_rfl) (by kernel_rfl) (by kernel_rfl) (fun _ _ _ h => h) (Or.inl ⟨by rfl, ?_⟩) hHeld ?_
          case refine_2 => (intro w hSw; (try dsimp only at hSw); go_simp; try (with_reducible rfl))
          (try simp only [gs])
          refine wpAnyH_take (i := 11) (v := ?_) rfl (by kernel_rfl) (by kernel_rfl) (by kernel_rfl) (fun _ _ _ h => h) (Or.inl ⟨by rfl, ?_⟩) hHeld ?_
          case refine_2 => (intro w hSw; (try dsimp only at hSw); go_simp; try (with_reducible rfl))
          (try simp only [gs])
          refine wpAnyH_take (i := 12) (v := ?_) rfl (by kernel_rfl) (by kernel_rfl) (by kernel_rfl) (fun _ _ _ h => h) (Or.inl ⟨by rfl, ?_⟩) hHeld ?_
          case refine_2 => (intro w hSw; (try dsimp only at hSw); go_simp; try (with_reducible rfl))
          (try simp only [gs])
          refine wpAnyH_take (i := 13) rfl (by kernel_rfl) (by kernel_rfl) (by kernel_rfl) (fun _ _ _ h => h) (yieldsIf_load_mid (by rfl) _ _ rfl _ _ rfl _ _ (fun y h => range_oKey h) Tryz.underlying29 rfl (by rw [HKL.out]; exact HCK.out)) hHeld ?_
          (try simp only [gs])
          refine wpAnyH_take (i := 14) (v := ?_) rfl (by kernel_rfl) (by kernel_rfl) (by kernel_rfl) (fun _ _ _ h => h) (Or.inl ⟨by rfl, ?_⟩) hHeld ?_
          case refine_2 => (intro w hSw; (try dsimp only at hSw); go_simp; try (with_reducible rfl))
          (try simp only [gs])
          generalize y1.drew = z1 at *
          refine wpAnyH_ready (rs := [7]) (by kernel_rfl) (by simp) (AllReadyH.cons rfl (fun K0 hK => ?_) AllReadyH.nil)
          rw [if_pos (by rfl)]
          (try simp only [gs])
          go_simp
          refine hP1.mono ?_
          clear hP1
          rintro e z2 ⟨rfl, VB2⟩
          have HVB2 : Hid (VpAt w uv (cutP l) m lim1 p1 v1 bs1 q1 q2 (doV V1 o) V2 m2 (12 * j + 4) z2) := VB2
          refine hK.out _ _ (HAT.out z2 HVB2.out.bel) (fun g1 => ?_)
          clear hK K0
          (try simp only [gs])
          have hP2 := HVB2.out.put2 HM5.out.2 (by have := HJ4.out; omega) o HK1.out
          clear VB2
          refine wpAnyH_ready (rs := [15]) (by kernel_rfl) (by simp) (AllReadyH.cons rfl (fun K0 hK => ?_) AllReadyH.nil)
          rw [if_pos (by rfl)]
          (try simp only [gs])
          go_simp
          refine hP2.mono ?_
          clear hP2
          rintro e z3 ⟨rfl, VB3⟩
          have HVB3 : Hid (VpAt w uv (cutP l) m lim1 p1 v1 bs1 q1 q2 (doV V1 o) (doV V2 o) m2 (12 * j + 4 + 4) z3) := VB3
          refine hK.out _ _ (HAT.out z3 HVB3.out.bel) (fun g2 => ?_)
          clear hK K0 VB3 hHeld
          have hHeld := HAT.out z3 HVB3.out.bel
          (try simp only [gs])
          refine wpAnyH_take (i := 16) (v := ?_) rfl (by kernel_rfl) (by kernel_rfl) (by kernel_rfl) (fun _ _ _ h => h) (Or.inl ⟨by rfl, ?_⟩) hHeld ?_
          case refine_2 => (intro w hSw; (try dsimp only at hSw); go_simp; try (with_reducible rfl))
          (try simp only [gs])
          refine wpAnyH_done (by kernel_rfl) ?_ _
          refine NoPanic.normal ?_
          clear g1 g2 hHeld
          go_wp2_with fail
          go_roundg gg
          case measure => omega
          case rel => exact ⟨j + 1, q2, by omega, congrArg (Value.int .i64) (by omega), congrArg (Value.int .i64) (by omega), rfl, (show VpLp _ _ _ _ _ _ _ _ _ _ _ _ _ from ⟨doV V1 o, doV V2 o, m2, HIS.out.step o, HVB3.out.mono (by omega)⟩)⟩
        · have hkn : (o.kind == 1) = false := by simpa using hk1
          have HK1 : Hid (¬ o.kind = 1) := hk1
          have hkk := range_oKey hr
          have hD1 := HVA.out.del1 HM5.out.1 (by have := HJ4.out; omega) o hk1
          clear hr hk1
          go_wp2_with (first
            | (go_at_call 22; first
                | (refine hD1.mono ?_; clear hD1; rintro e z2 ⟨rfl, VB2⟩
                   have HVB2 : Hid (VpAt w uv (cutP l) m lim1 p1 v1 bs1 q1 q2 (doV V1 o) V2 m2 (12 * j + 4) z2) := VB2
                   have hD2 := HVB2.out.del2 HM5.out.2 (by have := HJ4.out; omega) o HK1.out
                   have hkk2 := range_oKey (HAT.out z2 HVB2.out.bel)
                   clear VB2 hkk)
                | (refine hD2.mono ?_; clear hD2; rintro e z3 ⟨rfl, VB3⟩
                   have HVB3 : Hid (VpAt w uv (cutP l) m lim1 p1 v1 bs1 q1 q2 (doV V1 o) (doV V2 o) m2 (12 * j + 4 + 4) z3) := VB3
                   clear VB3 hkk2))
            | (refine load_part _ rfl g (off + j * 76 + 2) rfl rfl _ o.h hkk ?_)
            | (refine load_part _ rfl g (off + j * 76 + 2) rfl rfl _ o.h hkk2 ?_))
          go_roundg gg
          case measure => omega
          case rel => exact ⟨j + 1, q2, by omega, congrArg (Value.int .i64) (by omega), congrArg (Value.int .i64) (by omega), rfl, (show VpLp _ _ _ _ _ _ _ _ _ _ _ _ _ from ⟨doV V1 o, doV V2 o, m2, HIS.out.step o, HVB3.out.mono (by omega)⟩)⟩
end Go.Proofs.YtkmeilenocjhaaaGreat
