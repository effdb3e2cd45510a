import Derived.Test.YtjhdnpplmlddaaaGreatSi
import Derived.Test.YtjhdnpplmlddaaaGreatB10
import Derived.Test.YtjhdnpplmlddaaaGreatB06
import Derived.Test.YtjhdnpplmlddaaaGreatB27
/- TreeChecks, walked, where shown() answers true, Check and the document's Right as they do. -/
namespace Go.Proofs.YtjhdnpplmlddaaaGreat
set_option linter.unusedVariables false
open Go.RowKit

/-- A bag: one slice. -/
def encG : Enc (Option Addr × Nat × Nat) 1 := ⟨fun a => [.slice a.1 a.2.1 a.2.2], fun _ => rfl, fun e v hv => by
  simp only [List.mem_cons, List.not_mem_nil, or_false] at hv
  subst hv
  rfl⟩
theorem elG : ElTy Tryz.prog encG 57 := ⟨⟨_, Tryz.underlying57, rfl, rfl⟩, by kernel_rfl⟩
theorem Tryz.bag0 : Tryz.prog.built 57 [] = some #[.slice none 0 0] := by kernel_rfl
def ent0 : Ent := ⟨0, nilN, none, 0, none, 0⟩
theorem rowT : RowTy Tryz.prog encT 55 62 64 := ⟨Tryz.underlying55, ⟨.agg (encT.c ent0).toArray, by kernel_rfl, by simp [Value.cells, encT]⟩, by decide⟩
def cutE (e : Ent) : Ent := { e with x := cutN e.x }
theorem els_take {w : World} {ad : Option Addr} {n cap : Nat} {l : List El} (h : Els w (.slice ad n cap) l) (m : Nat) (hm : m ≤ n) : Els w (.slice ad m cap) (l.take m) := by
  obtain ⟨r, ⟨ad', cap', e, hcap, hmax, hok, hin⟩, hr⟩ := h
  cases e
  refine ⟨r, ⟨ad, cap, by rw [List.length_take, Nat.min_eq_left hm], by rw [List.length_take]; omega, by rw [List.length_take]; omega, fun i hi => by rw [List.getElem_take]; exact hok i (by rw [List.length_take] at hi; omega), ?_⟩, hr⟩
  rcases hin with h | ⟨g, off, e1, e2, hg, hat⟩
  · left
    rw [h]
    simp
  · right
    exact ⟨g, off, e1, e2, hg, fun i hi => by rw [List.getElem_take]; exact hat i (by rw [List.length_take] at hi; omega)⟩
theorem cutE_parts {w : World} {e : Ent} {B : Nat} (h : Parts w e.x e.pv e.qv ∧ Lim (· < B) e.pv ∧ Lim (· < B) e.qv) : Parts w (cutE e).x (cutE e).pv (cutE e).qv ∧ Lim (· < B) (cutE e).pv ∧ Lim (· < B) (cutE e).qv := by
  have e1 : (cutE e).x.ps.length = min e.x.ps.length 20 := by show (e.x.ps.take 20).length = _; rw [List.length_take]; omega
  have e2 : (cutE e).x.ks.length = min e.x.ks.length 20 := by show (e.x.ks.take 20).length = _; rw [List.length_take]; omega
  refine ⟨⟨?_, ?_⟩, ?_, ?_⟩
  · have := els_take h.1.p (min e.x.ps.length 20) (by omega)
    rw [← List.map_take, ← take_20] at this
    show Els w (.slice e.pa (cutE e).x.ps.length e.pc) ((e.x.ps.take 20).map Pr.el)
    rw [e1]
    exact this
  · have := els_take h.1.q (min e.x.ks.length 20) (by omega)
    rw [← List.map_take, ← take_20] at this
    show Els w (.slice e.qa (cutE e).x.ks.length e.qc) ((e.x.ks.take 20).map Kd.el)
    rw [e2]
    exact this
  · intro a n c q h0
    simp only [Ent.pv, Value.slice.injEq] at q
    exact h.2.1 a e.x.ps.length e.pc (by rw [Ent.pv, ← q.1]; rfl) (by omega)
  · intro a n c q h0
    simp only [Ent.qv, Value.slice.injEq] at q
    exact h.2.2 a e.x.ks.length e.qc (by rw [Ent.qv, ← q.1]; rfl) (by omega)
/-- What the loop holds: the bag and its row. -/
structure BW (w1 y : World) (a : Option Addr × Nat × Nat) (es : List Ent) : Prop where
  b : InB encG 57 y w1.heap.size a
  o : Own encT 62 y (w1.heap.size + 1) (.slice a.1 a.2.1 a.2.2) es
  bel : Below w1.heap.size w1 y
theorem BW.called {w1 y z : World} {a : Option Addr × Nat × Nat} {es : List Ent} (h : BW w1 y a es) (b : Below y.heap.size y z) : BW w1 z a es := ⟨h.b.below b h.b.lt, h.o.below b, h.bel.trans (b.mono h.bel.size)⟩
theorem BW.cell {w1 y : World} {a : Option Addr × Nat × Nat} {es : List Ent} (h : BW w1 y a es) : y.cell? ⟨w1.heap.size, 0, none⟩ = some (.slice a.1 a.2.1 a.2.2) := by simpa using h.b.range 0 _ rfl
theorem Tryz.ent_built (n lv : Int) (pa : Option Addr) (mp pc : Nat) (qa : Option Addr) (mq qc : Nat) : Tryz.prog.built 62 [(0, .int .i64 n), (1, .agg #[.int .i64 lv, .slice pa mp pc, .slice qa mq qc])] = some #[.int .i64 n, .int .i64 lv, .slice pa mp pc, .slice qa mq qc] := by kernel_rfl
theorem own_sliceW {w : World} {base : Nat} {v : Value} {l : List Ent} (h : Own encT 62 w base v l) : ∃ a n c, v = .slice a n c := by
  obtain ⟨ad, cap, e, _⟩ := h.slB
  exact ⟨ad, l.length, cap, e⟩
theorem BW.drew {w1 y : World} {a : Option Addr × Nat × Nat} {es : List Ent} (h : BW w1 y a es) : BW w1 y.drew a es := h.called ⟨rfl, rfl, rfl, Nat.le_refl _, fun _ _ => rfl⟩
set_option maxHeartbeats 16000000 in
set_option maxRecDepth 100000 in
theorem checks_walk (D : List Ent → Int → Bool) (hS : ∀ w, Calls Tryz.prog 6 #[] w fun e w' => e = .returned (.bool true) ∧ Below w.heap.size w w')
    (hC : ∀ w lim v l root, BagIn w lim v l → Rng root → Calls Tryz.prog 18 #[.iface 57 (.agg #[v]), .int .i64 root] w fun e w' => e = .returned (.int .i64 (if D l root then 0 else 12)) ∧ Below w.heap.size w w')
    (hR : ∀ w lim v l root, BagIn w lim v l → Calls Tryz.prog 19 #[v, .int .i64 root] w fun e w' => e = .returned (.bool (D l root)) ∧ Below w.heap.size w w')
    (w : World) (v : Value) (l : List Ent) (root : Int) (h : BagIn w w.heap.size v l) (hn : Rng root) :
    Calls Tryz.prog 5 #[v, .int .i64 root] w fun e w' => e = .returned (.bool true) ∧ Below w.heap.size w w' := by
  have hl' := h.sl
  obtain ⟨ad, cap, rfl, hcap, hmax, _, _⟩ := hl'
  have HI : Hid (∀ i (hi : i < l.length), ∃ g off, ad = some ⟨g, off, none⟩ ∧ g < w.heap.size ∧ w.rangeAt g (off + i * 4) (encT.c l[i])) := fun i hi => SlB.at h.sl i hi
  have HPT : Hid (∀ e ∈ l, Parts w e.x e.pv e.qv ∧ Lim (· < w.heap.size) e.pv ∧ Lim (· < w.heap.size) e.qv) := h.pt
  obtain ⟨N, hN⟩ : ∃ N : Nat, N = l.length := ⟨_, rfl⟩
  rw [← hN] at hcap hmax ⊢
  have HN : Hid (N = l.length) := hN
  have hmN : (N : Int) ≤ 9223372036854775807 := by unfold maxLen at hmax; omega
  have HS : Hid (∀ w, Calls Tryz.prog 6 #[] w fun e w' => e = .returned (.bool true) ∧ Below w.heap.size w w') := hS
  have HC : Hid (∀ w lim v l root, BagIn w lim v l → Rng root → Calls Tryz.prog 18 #[.iface 57 (.agg #[v]), .int .i64 root] w fun e w' => e = .returned (.int .i64 (if D l root then 0 else 12)) ∧ Below w.heap.size w w') := hC
  have HR : Hid (∀ w lim v l root, BagIn w lim v l → Calls Tryz.prog 19 #[v, .int .i64 root] w fun e w' => e = .returned (.bool (D l root)) ∧ Below w.heap.size w w') := hR
  have HRN : Hid (Rng root) := hn
  obtain ⟨M, hM⟩ : ∃ M : Nat, M = min N 60 := ⟨_, rfl⟩
  have HM : Hid (M = min N 60) := hM
  clear hN h hS hC hR hn hcap hmax hM
  go_enter Tryz.func5, Tryz.ntmps5
  go_upto_region 2 with (go_at_call 6; refine (HS.out _).mono ?_; rintro e w1 ⟨rfl, b1⟩)
  go_upto_region 3 with (first
    | (refine build_any rfl 57 _ rfl [] rfl _ Tryz.bag0 ?_)
    | (refine store_el elG rfl _ _ rfl w1.heap.size rfl (none, 0, 0) rfl (none, 0, 0) (InB.new encG _ w1 (none, 0, 0) _ rfl) ?_; intro x1 h1 t1 s1))
  have W0 : BW w1 x1 (none, 0, 0) [] := ⟨h1, Own.nil _ _ _ _, step_below (Below.refl _ w1) _ t1⟩
  have HW0 : Hid (BW w1 x1 (none, 0, 0) []) := W0
  have HB1 : Hid (Below w.heap.size w w1) := b1
  clear h1 t1 s1 W0 b1
  go_wp2_with fail
  go_loopg [7] M (fun g i wr => ∃ k : Nat, k + g = M ∧ i = .int .i64 (k : Int) ∧ ∃ a, Hid (BW w1 wr a ((l.take k).map cutE)))
  case atStart => exact ⟨0, by omega, rfl, _, HW0.out⟩
  case round =>
    clear HW0
    obtain ⟨k, hkM, rfl, ⟨a0, an, ac⟩, HB⟩ := hrel
    cases gk with
    | zero =>
      obtain rfl : k = M := by omega
      have hbel : Below w.heap.size w wr := HB1.out.trans (HB.out.bel.mono HB1.out.size)
      have BG : BagIn wr wr.heap.size (.slice a0 an ac) ((l.take k).map cutE) := ⟨Nat.le_refl _, HB.out.o.slB, fun e he => by
        obtain ⟨e0, h0, rfl⟩ := List.mem_map.1 he
        obtain ⟨p1, p2, p3⟩ := cutE_parts (HPT.out e0 (List.mem_of_mem_take h0))
        exact ⟨p1.below hbel, p2.mono (fun q hq => Nat.lt_of_lt_of_le hq hbel.size), p3.mono (fun q hq => Nat.lt_of_lt_of_le hq hbel.size)⟩⟩
      have hc : Calls Tryz.prog 18 #[.iface 57 (.agg (encG.c (a0, an, ac)).toArray), .int .i64 root] wr fun e w' => e = .returned (.int .i64 (if D ((l.take k).map cutE) root then 0 else 12)) ∧ Below wr.heap.size wr w' := HC.out wr wr.heap.size _ _ root BG HRN.out
      have HRR : Hid (∀ y, Below wr.heap.size wr y → Calls Tryz.prog 19 #[.slice a0 an ac, .int .i64 root] y fun e w' => e = .returned (.bool (D ((l.take k).map cutE) root)) ∧ Below y.heap.size y w') := fun y hy => HR.out y _ _ _ root (BG.below hy)
      have HBEL : Hid (Below w.heap.size w wr) := hbel
      generalize D ((l.take k).map cutE) root = DD at *
      have hend : k = N ∨ (k < N ∧ k = 60) := by have := HM.out; omega
      clear BG hbel HC HR HPT HI HS
      have c0 := HB.out.cell
      have hends : (¬ (k : Int) < (N : Int)) ∨ ((k : Int) < (N : Int) ∧ ¬ (k : Int) < 60) := by omega
      clear hend
      rcases hends with q1 | ⟨q1, q2⟩
      all_goals
        go_upto_region 11 with (first
          | (refine load_el elG _ rfl w1.heap.size 0 rfl rfl (a0, an, ac) HB.out.b.range ?_)
          | (go_at_call 18; refine hc.mono ?_; rintro e w3 ⟨rfl, b3⟩))
        have c3 := (HB.out.called b3).cell
        have hr := HRR.out w3 b3
        go_upto_region 12 with (go_at_call 19; refine hr.mono ?_; rintro e w4 ⟨rfl, b4⟩)
        have HFB : Hid (Below w.heap.size w w4) := (HBEL.out.trans (b3.mono HBEL.out.size)).trans (b4.mono (Nat.le_trans HBEL.out.size b3.size))
        clear c3 hr b3 b4 c0
        cases DD
        all_goals
          go_wp2_with fail
          go_ret
          exact ⟨rfl, HFB.out⟩
    | succ m =>
      have hlt : k < N := by have := HM.out; omega
      have hk60 : (k : Int) < 60 := by have := HM.out; omega
      have hltI : (k : Int) < (N : Int) := by omega
      have hk0 : (0 : Int) ≤ (k : Int) := by omega
      have hkl : k < l.length := by rw [← HN.out]; exact hlt
      obtain ⟨g0, off, rfl, hg0, hat⟩ := HI.out k hkl
      have HRG : Hid (∀ y, Below w1.heap.size w1 y → y.rangeAt g0 (off + k * 4) (encT.c l[k])) := fun y hy => range_same' hat ((HB1.out.trans (hy.mono HB1.out.size)).block g0 hg0)
      have HX := HPT.out _ (List.getElem_mem hkl)
      have HTK : Hid ((l.take (k + 1)).map cutE = (l.take k).map cutE ++ [cutE l[k]]) := (show _ = _ by rw [List.take_succ_eq_append_getElem hkl, List.map_append]; rfl)
      obtain ⟨e, he⟩ : ∃ e, e = l[k] := ⟨_, rfl⟩
      rw [← he] at HRG HX HTK
      have cp1 : e.x.ps.length ≤ e.pc := by obtain ⟨r, ⟨_, c2, q, h1, _⟩, _⟩ := HX.1.p; simp only [Value.slice.injEq] at q; rw [List.length_map] at h1; omega
      have cq1 : e.x.ks.length ≤ e.qc := by obtain ⟨r, ⟨_, c2, q, h1, _⟩, _⟩ := HX.1.q; simp only [Value.slice.injEq] at q; rw [List.length_map] at h1; omega
      clear HX hat he hg0
      obtain ⟨n0, X, pa, pc, qa, qc⟩ := e
      obtain ⟨mp, hmp⟩ : ∃ mp : Nat, mp = min X.ps.length 20 := ⟨_, rfl⟩
      obtain ⟨mq, hmq⟩ : ∃ mq : Nat, mq = min X.ks.length 20 := ⟨_, rfl⟩
      have imp : min (X.ps.length : Int) 20 = (mp : Int) := by rw [hmp]; exact min_20 _
      have imq : min (X.ks.length : Int) 20 = (mq : Int) := by rw [hmq]; exact min_20 _
      simp only at cp1 cq1
      have kmp : (mp : Int) ≤ (pc : Int) := by omega
      have kmq : (mq : Int) ≤ (qc : Int) := by omega
      have HLE : Hid ((X.ps.take 20).length = mp ∧ (X.ks.take 20).length = mq) := ⟨by rw [List.length_take]; omega, by rw [List.length_take]; omega⟩
      clear hmp hmq cp1 cq1
      have c0 := HB.out.cell
      go_upto_region 7 with (first
        | (refine load_el elV _ rfl g0 (off + k * 4 + 1) rfl rfl ⟨n0, X, pa, pc, qa, qc⟩ (bag_at (HRG.out _ HB.out.bel)).2 ?_)
        | (refine store_node rfl _ _ rfl wr.heap.size rfl X (.slice pa X.ps.length pc) (.slice qa X.ks.length qc) rfl rfl rfl nilN (.slice none 0 0) (.slice none 0 0) (HasN.new wr nilN (.slice none 0 0) (.slice none 0 0) _ rfl rfl rfl) ?_; intro x2 hu2 tx2 sx2))
      have B2 := step_below (Below.refl _ wr) _ tx2
      have f1 := hu2.free 1
      obtain ⟨d0, d1, d2⟩ := hu2.cells
      go_upto_region 8 with fail
      have N3 := hu2.set1 (X.ps.take 20) (.slice pa mp pc) rfl
      have B3 : Below wr.heap.size wr (x2.setCell ⟨wr.heap.size, 1, none⟩ (.slice pa mp pc)) := B2.setCell (Nat.le_refl _) _
      clear hu2 tx2 sx2 B2 f1 d0 d1 d2
      generalize x2.setCell ⟨wr.heap.size, 1, none⟩ (.slice pa mp pc) = y3 at *
      have f2 := N3.free 2
      obtain ⟨d0, d1, d2⟩ := N3.cells
      go_upto_region 9 with fail
      have N4 := N3.set2 (X.ks.take 20) (.slice qa mq qc) rfl
      have B4 : Below wr.heap.size wr (y3.setCell ⟨wr.heap.size, 2, none⟩ (.slice qa mq qc)) := B3.setCell (Nat.le_refl _) _
      clear N3 B3 f2 d0 d1 d2
      generalize y3.setCell ⟨wr.heap.size, 2, none⟩ (.slice qa mq qc) = y4 at *
      have W4 := (HB.out.called B4).drew
      have N5 : HasN y4.drew wr.heap.size ⟨X.lv, X.ps.take 20, X.ks.take 20⟩ (.slice pa mp pc) (.slice qa mq qc) := N4
      have hsz : wr.heap.size < y4.drew.heap.size := N5.lt
      have HOL : Hid (∀ q, (Value.slice a0 an ac).ownBlock = some q → q < wr.heap.size) := fun q hq => (HB.out.o.lt q hq).2
      have HIN : Hid (∀ y, Below w1.heap.size w1 y → y.cell? ⟨g0, off + k * 4, none⟩ = some (.int .i64 n0)) := fun y hy => (bag_at (HRG.out y hy)).1
      have HZ : Hid (w1.heap.size + 1 ≤ wr.heap.size) := HB.out.b.lt
      clear c0 N4 B4 HB imp imq kmp kmq HRG
      generalize wr.heap.size = d at *
      refine wp_region_noPanic ?_
      refine wp_region_held_drew (S := (fun y => Below w1.heap.size w1 y ∧ HasN y d ⟨X.lv, X.ps.take 20, X.ks.take 20⟩ (.slice pa mp pc) (.slice qa mq qc))) (by kernel_rfl) ⟨W4.bel, N5⟩ (fun hHeld => ?_)
      refine wpAnyH_take (i := 0) (v := ?_) rfl (by kernel_rfl) (by kernel_rfl) (by kernel_rfl) (fun _ _ _ h => h) (Or.inl ⟨by rfl, ?_⟩) hHeld ?_
      case refine_2 => (intro w hSw; (try dsimp only at hSw); go_simp; try (with_reducible rfl))
      (try simp only [gs])
      refine wpAnyH_take (i := 2) (v := ?_) rfl (by kernel_rfl) (by kernel_rfl) (by kernel_rfl) (fun _ _ _ h => h) (Or.inl ⟨by rfl, ?_⟩) hHeld ?_
      case refine_2 => (intro w hSw; (try dsimp only at hSw); go_simp; try (with_reducible rfl))
      (try simp only [gs])
      refine wpAnyH_take (i := 3) (v := ?_) rfl (by kernel_rfl) (by kernel_rfl) (by kernel_rfl) (fun _ _ _ h => h) (Or.inl ⟨by rfl, ?_⟩) hHeld ?_
      case refine_2 => (intro w hSw; (try dsimp only at hSw); go_simp; try (with_reducible rfl))
      (try simp only [gs])
      refine wpAnyH_take (i := 4) (v := ?_) rfl (by kernel_rfl) (by kernel_rfl) (by kernel_rfl) (fun _ _ _ h => h) (Or.inl ⟨by rfl, ?_⟩) hHeld ?_
      case refine_2 => (intro w hSw; (try dsimp only at hSw); go_simp; try (with_reducible rfl))
      (try simp only [gs])
      refine wpAnyH_take (i := 5) (v := ?_) rfl (by kernel_rfl) (by kernel_rfl) (by kernel_rfl) (fun _ _ _ h => h) (Or.inl ⟨by rfl, ?_⟩) hHeld ?_
      case refine_2 => (intro w hSw; (try dsimp only at hSw); go_simp; try (with_reducible rfl))
      (try simp only [gs])
      refine wpAnyH_take (i := 6) (v := ?_) rfl (by kernel_rfl) (by kernel_rfl) (by kernel_rfl) (fun _ _ _ h => h) (Or.inl ⟨by rfl, ?_⟩) hHeld ?_
      case refine_2 => (intro w hSw; (try dsimp only at hSw); have l0 := HIN.out _ hSw.1; go_simp; try (with_reducible rfl))
      (try simp only [gs])
      refine wpAnyH_take (i := 7) rfl (by kernel_rfl) (by kernel_rfl) (by kernel_rfl) (fun _ _ _ h => h) (yieldsIf_load_mid (by rfl) _ _ rfl _ _ rfl _ _ (fun _ h => h.2.range) Tryz.underlying60 rfl Tryz.node_info) hHeld ?_
      (try simp only [gs])
      refine wpAnyH_take (i := 8) (v := .agg #[.int .i64 n0, .int .i64 X.lv, .slice pa mp pc, .slice qa mq qc]) rfl (by kernel_rfl) (by kernel_rfl) (by kernel_rfl) (fun _ _ _ h => h) (Or.inl ⟨by rfl, fun w hSw => build_run 62 _ rfl [(0, .int .i64 n0), (1, .agg #[.int .i64 X.lv, .slice pa mp pc, .slice qa mq qc])] (by simp only [List.map_toArray, List.map_cons, List.map_nil]; rfl) _ (Tryz.ent_built _ _ _ _ _ _ _ _)⟩) hHeld ?_
      (try simp only [gs])
      generalize y4.drew = y0 at *
      have HEC : Hid ((encT.c (cutE ⟨n0, X, pa, pc, qa, qc⟩)).toArray = #[.int .i64 n0, .int .i64 X.lv, .slice pa mp pc, .slice qa mq qc]) := (show _ = _ by
        show #[Value.int .i64 n0, .int .i64 X.lv, .slice pa (X.ps.take 20).length pc, .slice qa (X.ks.take 20).length qc] = _
        rw [HLE.out.1, HLE.out.2])
      refine wpAnyH_ready (rs := [1, 9]) (by kernel_rfl) (by simp) (AllReadyH.cons rfl (fun K hK => ?_) (AllReadyH.cons rfl (fun K hK => ?_) AllReadyH.nil))
      · skip
        rw [if_pos (by rfl)]
        (try simp only [gs])
        have c4 := W4.cell
        go_simp
        refine hK.out _ _ hHeld (fun hHelda => ?_)
        clear hK K c4
        (try simp only [gs])
        refine wpAnyH_ready (rs := [9]) (by kernel_rfl) (by simp) (AllReadyH.cons rfl (fun K hK => ?_) AllReadyH.nil)
        rw [if_pos (by rfl)]
        (try simp only [gs])
        refine wp_build_el1 rowT _ rfl (cutE ⟨n0, X, pa, pc, qa, qc⟩) (by rw [HEC.out]; rfl) (by decide) ?_
        intro y1 o1 b1 s1
        have W5 := W4.called b1
        have N6 := N5.below b1 N5.lt
        refine hK.out _ _ ⟨W5.bel, N6⟩ (fun h2 => ?_)
        clear hK K
        (try simp only [gs])
        refine wpAnyH_ready (rs := [10]) (by kernel_rfl) (by simp) (AllReadyH.cons rfl (fun K hK => ?_) AllReadyH.nil)
        rw [if_pos (by rfl)]
        (try simp only [gs])
        refine wp_append_sl rowT _ _ rfl (w1.heap.size + 1) (.slice a0 an ac) ((l.take k).map cutE) [cutE ⟨n0, X, pa, pc, qa, qc⟩] rfl W5.o _ rfl _ o1.slB (by rw [List.length_map, List.length_take]; simp only [List.length_cons, List.length_nil]; omega) (by decide) (by have := HZ.out; have := N6.lt; omega) ?_
        intro v' y2 o2 gr
        rw [← HTK.out] at o2
        obtain ⟨a2, n2, c2, rfl⟩ := own_sliceW o2
        have I2 : InB encG 57 y2 w1.heap.size (a0, an, ac) := W5.b.same (gr.block _ W5.b.lt (fun q => by have := (W5.o.lt _ q.symm).1; omega))
        have N7 : HasN y2 d _ _ _ := N6.same (gr.block _ N6.lt (fun q => by have := HOL.out _ q.symm; omega))
        have L2 : Below w1.heap.size w1 y2 := W5.bel.grown gr W5.bel.size (fun j hj => by have := (W5.o.lt j hj).1; omega)
        refine hK.out _ _ ⟨L2, N7⟩ (fun h3 => ?_)
        clear hK K
        (try simp only [gs])
        refine wpAnyH_take (i := 11) (v := ?_) rfl (by kernel_rfl) (by kernel_rfl) (by kernel_rfl) (fun _ _ _ h => h) (Or.inl ⟨by rfl, ?_⟩) h3 ?_
        case refine_2 => (intro w hSw; (try dsimp only at hSw); go_simp; try (with_reducible rfl))
        (try simp only [gs])
        refine wpAnyH_ready (rs := [12]) (by kernel_rfl) (by simp) (AllReadyH.cons rfl (fun K hK => ?_) AllReadyH.nil)
        rw [if_pos (by rfl)]
        (try simp only [gs])
        have c4 : y2.cell? ⟨w1.heap.size, 0, none⟩ = some (.slice a0 an ac) := by simpa using I2.range 0 _ rfl
        have f4 : y2.frozen? ⟨w1.heap.size, 0, none⟩ = false := by simp [World.frozen?, I2.blk]
        have T5 : Touch w1.heap.size none y2 (y2.setCell ⟨w1.heap.size, 0, none⟩ (.slice a2 n2 c2)) := touch_set _ _ _ _
        have NEW : BW w1 (y2.setCell ⟨w1.heap.size, 0, none⟩ (.slice a2 n2 c2)) (a2, n2, c2) ((l.take (k + 1)).map cutE) := ⟨⟨by rw [setCell_eq_setRow y2 _ 0 _ _ _ _ I2.blk, setRow_heap y2 _ _ _ _ _ I2.blk]; rfl⟩, o2.same (fun j hj => T5.block j (o2.lt j hj).2 (by have := (o2.lt j hj).1; omega) (by simp)), L2.setCell (Nat.le_refl _) _⟩
        have N8 := N7.touch T5 (by have := HZ.out; omega)
        go_simp
        refine hK.out _ _ ⟨NEW.bel, N8⟩ (fun h4 => ?_)
        clear hK K
        (try simp only [gs])
        refine wpAnyH_done (by kernel_rfl) ?_ _
        refine NoPanic.normal ?_
        have HNEW : Hid (BW w1 _ (a2, n2, c2) ((l.take (k + 1)).map cutE)) := NEW
        clear NEW N8 T5 c4 f4 L2 N7 I2 gr o2 W5 N6 o1 b1 s1 h3 h4 hHeld W4 N5
        have hws : wrap64 ((k : Int) + 1) = ((k + 1 : Nat) : Int) := by unfold wrap64; omega
        go_wp2_with fail
        go_roundg m
        case measure => omega
        case rel => exact ⟨k + 1, by omega, by simp, _, HNEW.out⟩
      · skip
        rw [if_pos (by rfl)]
        (try simp only [gs])
        refine wp_build_el1 rowT _ rfl (cutE ⟨n0, X, pa, pc, qa, qc⟩) (by rw [HEC.out]; rfl) (by decide) ?_
        intro y1 o1 b1 s1
        have W5 := W4.called b1
        have N6 := N5.below b1 N5.lt
        refine hK.out _ _ ⟨W5.bel, N6⟩ (fun h2 => ?_)
        clear hK K
        (try simp only [gs])
        refine wpAnyH_ready (rs := [1]) (by kernel_rfl) (by simp) (AllReadyH.cons rfl (fun K hK => ?_) AllReadyH.nil)
        rw [if_pos (by rfl)]
        (try simp only [gs])
        have c4 := W5.cell
        go_simp
        refine hK.out _ _ h2 (fun h2a => ?_)
        clear hK K c4
        (try simp only [gs])
        refine wpAnyH_ready (rs := [10]) (by kernel_rfl) (by simp) (AllReadyH.cons rfl (fun K hK => ?_) AllReadyH.nil)
        rw [if_pos (by rfl)]
        (try simp only [gs])
        refine wp_append_sl rowT _ _ rfl (w1.heap.size + 1) (.slice a0 an ac) ((l.take k).map cutE) [cutE ⟨n0, X, pa, pc, qa, qc⟩] rfl W5.o _ rfl _ o1.slB (by rw [List.length_map, List.length_take]; simp only [List.length_cons, List.length_nil]; omega) (by decide) (by have := HZ.out; have := N6.lt; omega) ?_
        intro v' y2 o2 gr
        rw [← HTK.out] at o2
        obtain ⟨a2, n2, c2, rfl⟩ := own_sliceW o2
        have I2 : InB encG 57 y2 w1.heap.size (a0, an, ac) := W5.b.same (gr.block _ W5.b.lt (fun q => by have := (W5.o.lt _ q.symm).1; omega))
        have N7 : HasN y2 d _ _ _ := N6.same (gr.block _ N6.lt (fun q => by have := HOL.out _ q.symm; omega))
        have L2 : Below w1.heap.size w1 y2 := W5.bel.grown gr W5.bel.size (fun j hj => by have := (W5.o.lt j hj).1; omega)
        refine hK.out _ _ ⟨L2, N7⟩ (fun h3 => ?_)
        clear hK K
        (try simp only [gs])
        refine wpAnyH_take (i := 11) (v := ?_) rfl (by kernel_rfl) (by kernel_rfl) (by kernel_rfl) (fun _ _ _ h => h) (Or.inl ⟨by rfl, ?_⟩) h3 ?_
        case refine_2 => (intro w hSw; (try dsimp only at hSw); go_simp; try (with_reducible rfl))
        (try simp only [gs])
        refine wpAnyH_ready (rs := [12]) (by kernel_rfl) (by simp) (AllReadyH.cons rfl (fun K hK => ?_) AllReadyH.nil)
        rw [if_pos (by rfl)]
        (try simp only [gs])
        have c4 : y2.cell? ⟨w1.heap.size, 0, none⟩ = some (.slice a0 an ac) := by simpa using I2.range 0 _ rfl
        have f4 : y2.frozen? ⟨w1.heap.size, 0, none⟩ = false := by simp [World.frozen?, I2.blk]
        have T5 : Touch w1.heap.size none y2 (y2.setCell ⟨w1.heap.size, 0, none⟩ (.slice a2 n2 c2)) := touch_set _ _ _ _
        have NEW : BW w1 (y2.setCell ⟨w1.heap.size, 0, none⟩ (.slice a2 n2 c2)) (a2, n2, c2) ((l.take (k + 1)).map cutE) := ⟨⟨by rw [setCell_eq_setRow y2 _ 0 _ _ _ _ I2.blk, setRow_heap y2 _ _ _ _ _ I2.blk]; rfl⟩, o2.same (fun j hj => T5.block j (o2.lt j hj).2 (by have := (o2.lt j hj).1; omega) (by simp)), L2.setCell (Nat.le_refl _) _⟩
        have N8 := N7.touch T5 (by have := HZ.out; omega)
        go_simp
        refine hK.out _ _ ⟨NEW.bel, N8⟩ (fun h4 => ?_)
        clear hK K
        (try simp only [gs])
        refine wpAnyH_done (by kernel_rfl) ?_ _
        refine NoPanic.normal ?_
        have HNEW : Hid (BW w1 _ (a2, n2, c2) ((l.take (k + 1)).map cutE)) := NEW
        clear NEW N8 T5 c4 f4 L2 N7 I2 gr o2 W5 N6 o1 b1 s1 h3 h4 hHeld W4 N5
        have hws : wrap64 ((k : Int) + 1) = ((k + 1 : Nat) : Int) := by unfold wrap64; omega
        go_wp2_with fail
        go_roundg m
        case measure => omega
        case rel => exact ⟨k + 1, by omega, by simp, _, HNEW.out⟩
end Go.Proofs.YtjhdnpplmlddaaaGreat
