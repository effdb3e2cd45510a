import Derived.Test.YtbbelhkdpmcoeaaGreatSi
import Derived.Test.YtbbelhkdpmcoeaaGreatB25
import Derived.RangeFuncCalls
/- Back of a view. -/
namespace Go.Proofs.YtbbelhkdpmcoeaaGreat
set_option linter.unusedVariables false
set_option maxRecDepth 100000
open Go.RowKit

attribute [local go_sem] Oper.semAt_some
/-- Between two rounds of Back. -/
def BkAt (w2 : World) (c n : Nat) (C : List Ch) (Us : Nat → List Fo) (pre : List Nat) (W : World) : Prop :=
  (∃ k, k ≤ n + pre.length * n ∧ MapA encC Ch.n W c k (pre.foldl (fun D j => takeL D (Us j)) C)) ∧ FrV (fun i => i = c) w2 W
theorem bkAt_own (w2 : World) (c n B : Nat) (C : List Ch) (Us : Nat → List Fo) (hB : w2.heap.size ≤ B) (hc : c < w2.heap.size) : OwnFrom B (BkAt w2 c n C Us) := fun s W W' row h hg hr => by
  obtain ⟨⟨k, h1, h2⟩, h3⟩ := h
  have hne : row ≠ some c := fun e => by
    have := (hr c e).1
    omega
  exact ⟨⟨k, h1, h2.grown hg hne⟩, h3.trans (FrV.of_grown (S := fun i => row = some i) hg (fun i e => e)) (fun i e => .inr (by have := (hr i e).1; omega))⟩
theorem back_fold (C : List Ch) (U : List (List Fo)) (Us : Nat → List Fo) (h : ∀ j (hj : j < U.length), Us j = U[j]) : (List.range U.length).reverse.foldl (fun D j => takeL D (Us j)) C = backC C U := by
  unfold backC
  have e : U = (List.range U.length).map Us := by
    apply List.ext_getElem
    · simp
    · intro i h1 h2
      simp [h i h1]
  conv => rhs; rw [e]
  rw [← List.map_reverse, List.foldl_map]
theorem KeepsFrom.of_frv {B c : Nat} {W W' : World} (h : FrV (fun i => i = c) W W') (hc : c < B) : KeepsFrom B W W' := ⟨h.size, fun k o hB hk _ => (h.block k (lt_of_block hk) (fun e => by omega)).trans hk⟩
theorem KpB.of_frv {B c : Nat} {W W' : World} (h : FrV (fun i => i = c) W W') (hB : B ≤ W.heap.size) : KpB B c W W' := fun b hb hne => h.block b (by omega) hne
/-- Behind the marks are cut and the new slice is stored. -/
theorem VwIn.cut {w y2 : World} {p : Nat} {iv : Value} {x : VR} {V : VS} (h : VwIn w p iv x V) (m g cap N k : Nat) (C' : List Ch) (hmm : x.m = .slice (some ⟨g, 0, none⟩) N cap) (hN : N = x.u.length) (hm : m < N) (hold : ∀ b, b < w.heap.size → b ≠ x.c → b ≠ g → y2.heap[b]? = w.heap[b]?) (hC : MapA encC Ch.n y2 x.c k C') (hk : x.n ≤ k) (hrow : Own encM 90 y2 0 (.slice (some ⟨g, 0, none⟩) m cap) (x.u.take m)) (hg : g < w.heap.size ∧ g ≠ x.c ∧ g ≠ p ∧ g ≠ x.r ∧ ∀ j (hj : j < x.u.length), g ≠ x.u[j]) :
    VwIn (y2.setCell ⟨p, 3, none⟩ (.slice (some ⟨g, 0, none⟩) m cap)) p iv { x with m := .slice (some ⟨g, 0, none⟩) m cap, u := x.u.take m, n := k } { C := C', R := V.R, U := V.U.take m } := by
  have hpc : p ≠ x.c := h.ne_map h.mapC.isMap
  have hpr : p ≠ x.r := h.ne_map h.setR.isMap
  have hnd := h.apart
  rw [List.nodup_cons, List.nodup_cons, List.mem_cons] at hnd
  have hpb : y2.heap[p]? = some (.cells #[iv, .map (some x.c), .map (some x.r), x.m] 72 (0, 0)) := (hold p (lt_of_block h.blk) hpc (fun e => hg.2.2.1 e.symm)).trans h.blk
  have hoth : ∀ b, b ≠ p → (y2.setCell ⟨p, 3, none⟩ (.slice (some ⟨g, 0, none⟩) m cap)).heap[b]? = y2.heap[b]? := fun b hb => heap_setCell_other _ _ _ _ hb
  refine ⟨heap_setCell_same _ _ _ _ _ _ hpb, hC.kept (hoth _ hpc.symm), (h.setR.kept ((hoth _ hpr.symm).trans (hold _ h.setR.lt (fun e => hnd.1 (.inl e.symm)) (fun e => hg.2.2.2.1 e.symm)))).mono hk, Own.same hrow (fun g' hg' => by cases hg'; exact hoth _ hg.2.2.1), fun i hi => ?_, ?_, ?_, ?_⟩
  · have hi' : i < m := by have : (x.u.take m).length = m := by rw [List.length_take]; omega
                           have hi2 : i < (x.u.take m).length := hi
                           omega
    have hiu : i < x.u.length := by omega
    obtain ⟨L, q1, q2⟩ := h.maps i hiu
    have hmem : x.u[i] ∈ x.u := List.getElem_mem hiu
    refine ⟨L, ?_, ?_⟩
    · show (V.U.take m)[i]? = some L
      rw [List.getElem?_take, if_pos hi']
      exact q1
    · show MapA encF Fo.n _ (x.u.take m)[i] k L
      rw [List.getElem_take]
      exact (q2.kept ((hoth _ (fun e => h.ne_map q2.isMap e.symm)).trans (hold _ q2.lt (fun e => hnd.1 (.inr (e ▸ hmem))) (fun e => hg.2.2.2.2 i hiu e.symm)))).mono hk
  · show (V.U.take m).length = (x.u.take m).length
    rw [List.length_take, List.length_take, h.len]
  · show (x.u.take m).length ≤ k
    have := h.most
    rw [List.length_take]
    omega
  · show (x.c :: x.r :: x.u.take m).Nodup
    exact List.Pairwise.sublist (List.Sublist.cons_cons _ (List.Sublist.cons_cons _ (List.take_sublist m x.u))) h.apart
set_option maxRecDepth 100000 in
set_option maxHeartbeats 8000000 in
theorem vback_calls (w : World) (p : Nat) (iv : Value) (x : VR) (V : VS) (m : Nat) (h : VwIn w p iv x V) (hok : ∀ L ∈ V.U, FoOk L) (hm : m < V.U.length) (hn : x.n ≤ 1000) :
    Calls Tryz.prog 19 #[.pointer (some ⟨p, 0, none⟩), .int .i64 (m : Int)] w fun e w' => e = .returned (.int .i64 0) ∧ ∃ x', VwIn w' p iv x' (V.back m) ∧ x'.n ≤ 1100000 ∧ FrV (x.own p) w w' ∧ ∀ i, x'.own p i → x.own p i ∨ w.heap.size ≤ i := by
  refine (callsIn_wide (n := 6)).1 ?_
  have hlen := h.len
  have hmu : m < x.u.length := by omega
  obtain ⟨g, cap, hmm, hcap, hcm, hown, hcells⟩ : ∃ g cap, x.m = .slice (some ⟨g, 0, none⟩) x.u.length cap ∧ x.u.length ≤ cap ∧ cap ≤ maxLen ∧ x.m.ownBlock = some g ∧ ∀ j (hj : j < x.u.length), w.cell? ⟨g, j, none⟩ = some (.map (some x.u[j])) := by
    rcases h.row.2 with ⟨_, q⟩ | ⟨g, cap, cur, q1, q2, q3, q4, q5, q6, q7⟩
    · omega
    · refine ⟨g, cap, q1, q4, q5, by rw [q1]; rfl, fun j hj => ?_⟩
      rw [cell_of_row _ _ _ _ _ _ q3]
      rw [flatM] at q7
      have : (cur.toList.take (x.u.length * 1))[j]? = some (.map (some x.u[j])) := by rw [q7]; simp [hj]
      rw [List.getElem?_take] at this
      rw [Nat.mul_one, if_pos hj] at this
      simpa using this
  have HG : Hid (g < w.heap.size ∧ g ≠ x.c ∧ g ≠ p ∧ g ≠ x.r ∧ ∀ j (hj : j < x.u.length), g ≠ x.u[j]) := by
    have hgl := (h.row.lt g hown).2
    have hnm : ∀ b, (∃ es c, w.heap[b]? = some (Obj.map es c)) → g ≠ b := fun b hb e => h.row_ne hb (by rw [hown, e])
    refine ⟨hgl, hnm _ h.mapC.isMap, fun e => ?_, hnm _ h.setR.isMap, fun j hj => ?_⟩
    · rcases ownsRow_ne_a h.row h.blk (fun cur q => absurd (Obj.cells.inj q).2.1 (by decide)) with q | q
      · rw [q] at hown; cases hown
      · exact q (by rw [hown, e])
    · obtain ⟨L, _, h2⟩ := h.maps j hj
      exact hnm _ h2.isMap
  obtain ⟨N, hN⟩ : ∃ N, N = x.u.length := ⟨_, rfl⟩
  have HN : Hid (N = x.u.length) := hN
  have HM : Hid (m < N ∧ N ≤ cap ∧ cap ≤ maxLen ∧ N ≤ x.n ∧ x.n ≤ 1000) := ⟨by omega, by omega, hcm, by rw [hN]; exact h.most, hn⟩
  have HMM : Hid (x.m = .slice (some ⟨g, 0, none⟩) N cap) := (show _ = _ by rw [hmm, hN])
  -- the marks' maps, by any number
  obtain ⟨f, hf⟩ : ∃ f : Nat → Nat, ∀ j, f j = x.u.getD (m + min j (N - m - 1)) 0 := ⟨_, fun _ => rfl⟩
  obtain ⟨Us, hUs⟩ : ∃ Us : Nat → List Fo, ∀ j, Us j = V.U.getD (m + min j (N - m - 1)) [] := ⟨_, fun _ => rfl⟩
  have HFL : Hid (∀ j (W : World), (∀ b, b < w.heap.size → b ≠ x.c → W.heap[b]? = w.heap[b]?) → MapA encF Fo.n W (f j) x.n (Us j) ∧ f j ≠ x.c ∧ FoOk (Us j)) := fun j W hW => by
    have hj : m + min j (N - m - 1) < x.u.length := by omega
    obtain ⟨L, q1, q2⟩ := h.maps _ hj
    have e1 : f j = x.u[m + min j (N - m - 1)] := by rw [hf, List.getD_eq_getElem?_getD, List.getElem?_eq_getElem hj]; rfl
    have e2 : Us j = L := by rw [hUs, List.getD_eq_getElem?_getD, q1]; rfl
    have hnd := h.apart
    rw [List.nodup_cons] at hnd
    have hne : f j ≠ x.c := fun e => hnd.1 (by rw [← e, e1]; exact List.mem_cons_of_mem _ (List.getElem_mem hj))
    exact ⟨by rw [e2, e1]; rw [e1] at hne; exact q2.kept (hW _ q2.lt hne), hne, by rw [e2]; exact hok L (List.mem_of_getElem? q1)⟩
  have HFC : Hid (∀ j, j < N - m → w.cell? ⟨g, m + j, none⟩ = some (.map (some (f j)))) := fun j hj => by
    rw [hcells (m + j) (by omega), hf, show min j (N - m - 1) = j by omega, List.getD_eq_getElem?_getD, List.getElem?_eq_getElem (by omega)]
    rfl
  have HUB : Hid ((List.range (N - m)).reverse.foldl (fun D j => takeL D (Us j)) V.C = backC V.C (V.U.drop m)) := by
    have := back_fold V.C (V.U.drop m) Us (fun j hj => by
      rw [List.length_drop] at hj
      rw [hUs, show min j (N - m - 1) = j by omega, List.getD_eq_getElem?_getD, List.getElem?_eq_getElem (by omega), List.getElem_drop]
      rfl)
    rw [List.length_drop, hlen, ← hN] at this
    exact this
  have HH : Hid (VwIn w p iv x V) := h
  have hcl := h.cell.2.2.2
  rw [HMM.out] at hcl
  have HBL : Hid (w.heap[p]? = some (.cells #[iv, .map (some x.c), .map (some x.r), x.m] 72 (0, 0))) := h.blk
  have h0I : (0 : Int) ≤ (m : Int) := by omega
  have hltI : (m : Int) < (N : Int) := by have := HM.out.1; omega
  have hmcI : (m : Int) ≤ (cap : Int) := by have := HM.out; omega
  have hmn : ¬ cap = m := by have := HM.out; omega
  have hpl : p < w.heap.size := lt_of_block h.blk
  clear h hlen hmu hmm hcap hcm hown hcells hN hf hUs hm hn hok
  refine callsIn_of_wp_marks Tryz.func19 rfl trivial ?_ rfl
  simp only [Tryz.ntmps19, List.size_toArray, List.length_cons, List.length_nil, Nat.reduceAdd, Nat.reduceSub, Array.replicate_succ, Array.replicate_zero, List.push_toArray, List.append_toArray, List.nil_append, List.cons_append]
  refine wpIn_wide.2 ?_
  go_wp2_with (first
    | (go_at_call 41; refine (bwd_calls _ _ _ _).mono ?_; rintro e w2 ⟨rfl, hw2⟩))
  have hb2 : Below w.heap.size w w2 := by rw [hw2]; exact ((Below.refl _ w).alloc (Nat.le_refl _) _).alloc (by simp) _
  have hs2 : w2.heap.size = w.heap.size + 2 := by rw [hw2]; simp
  have hq2 : w2.heap[w.heap.size]? = some (.cells #[.pointer (some ⟨p, 0, none⟩)] 32 (0, 0)) := by rw [hw2]; exact (Below.heap_alloc _ _ _ (by simp)).trans (heap_alloc_new _ _)
  have hr2 : w2.heap[w.heap.size + 1]? = some (.cells #[.slice (some ⟨g, m, none⟩) (N - m) (cap - m)] 70 (0, 0)) := by
    rw [hw2]
    have := heap_alloc_new (w.alloc (.cells #[.pointer (some ⟨p, 0, none⟩)] 32)) (.cells #[.slice (some ⟨g, m, none⟩) (N - m) (cap - m)] 70)
    rwa [World.size_alloc] at this
  rw [← hw2]
  have HC0 : Hid (MapA encC Ch.n w2 x.c x.n V.C) := HH.out.mapC.below hb2 (Nat.le_refl _)
  have HB2 : Hid (Below w.heap.size w w2 ∧ w2.heap.size = w.heap.size + 2 ∧ w2.heap[w.heap.size]? = some (.cells #[.pointer (some ⟨p, 0, none⟩)] 32 (0, 0))) := ⟨hb2, hs2, hq2⟩
  have hxc := HH.out.mapC.lt
  clear hw2
  refine (wpIn_wide (n := 6)).1 ?_
  refine wpIn_rangeFunc_ownG rfl (by decide) (gf := 65) (lb := #[.pointer (some ⟨w.heap.size + 1, 0, none⟩)]) rfl trivial (enters_of Tryz.func65 (by kernel_rfl) rfl)
    (bwd_stops 5 (by decide) (w.heap.size + 1) w2.heap.size x.c g m (N - m) (cap - m) f (by have := HM.out; omega) (by omega) (by have := HG.out; omega) w2 (Nat.le_refl _) hr2 (fun j hj => (hb2.cell (p := ⟨g, m + j, none⟩) HG.out.1).trans (HFC.out j hj)))
    kpB_t (kpB_b (Nat.le_refl _)) (Below.refl _ _) (fun _ => rfl)
    (BkAt w2 x.c x.n V.C Us) (fun _ _ _ => False) (bkAt_own w2 x.c x.n _ V.C Us (Nat.le_refl _) (by omega)) (fun _ _ _ _ _ hs _ _ => hs)
    ⟨⟨x.n, by simp, HC0.out⟩, FrV.refl _ _⟩
    (fun y => { tmps := #[.pointer (some ⟨p, 0, none⟩), .int .i64 (m : Int), .pointer (some ⟨w.heap.size, 0, none⟩), undef, .int .i64 0, undef, .map (some (f y)), .int .i64 (m : Int), .bool (decide ((m : Int) < 0)), .bool (decide ((m : Int) < 0)), .int .i64 (m : Int), .pointer (some ⟨p, 0, none⟩), .pointer (some ⟨p, 0, none⟩), .pointer (some ⟨p, 3, none⟩), .slice (some ⟨g, 0, none⟩) N cap, .int .i64 (N : Int), .bool false, .bool (decide ((m : Int) < 0)), .pointer (some ⟨p, 0, none⟩), .pointer (some ⟨p, 0, none⟩), .pointer (some ⟨p, 3, none⟩), .slice (some ⟨g, 0, none⟩) N cap, .int .i64 (m : Int), .slice (some ⟨g, m, none⟩) (N - m) (cap - m), .func (.func 65) #[] #[.pointer (some ⟨w.heap.size + 1, 0, none⟩)], .int .i64 (y : Int), .map (some (f y)), undef, undef, undef, undef, undef, undef, undef, undef, undef, undef, undef, undef, undef, undef, undef, undef, undef, undef, undef], defers := [] }) ?assign ?body ?done ?stop
  case assign =>
    intro l y W K hK
    gi_wp2
    exact hK
  case body =>
    rintro l pre y W ⟨⟨k, hk, hM⟩, hF⟩ hlen
    have HF : Hid (FrV (fun i => i = x.c) w2 W) := hF
    have hfl := HFL.out y W (fun b hb hne => (hF.block b (by omega) hne).trans (hb2.block b hb))
    have hpb : W.heap[p]? = some (.cells #[iv, .map (some x.c), .map (some x.r), x.m] 72 (0, 0)) := (hF.block p (by omega) (fun e => by have := HH.out.ne_map HH.out.mapC.isMap; exact this e)).trans ((hb2.block p hpl).trans HBL.out)
    have hqb : W.heap[w.heap.size]? = some (.cells #[.pointer (some ⟨p, 0, none⟩)] 32 (0, 0)) := (hF.block _ (by omega) (by omega)).trans hq2
    have hkk : k ≤ 100000000 := by
      have h1 : pre.length * x.n ≤ 1000 * 1000 := Nat.mul_le_mul (by have := HM.out; omega) HM.out.2.2.2.2
      have := HM.out
      omega
    have ht := take_calls W p iv (.map (some x.r)) x.m x.c (f y) x.n k _ (Us y) hpb hM hfl.1 hfl.2.1 hfl.2.2 hkk (by have := HM.out; omega)
    have hqc : W.cell? ⟨w.heap.size, 0, none⟩ = some (.pointer (some ⟨p, 0, none⟩)) := by rw [cell_of_row _ _ _ _ _ _ hqb]; rfl
    have HK : Hid (k ≤ x.n + pre.length * x.n) := hk
    clear hfl hpb hqb hkk hM hF hk hb2 hq2 hr2
    gi_wp2
    refine ⟨trivial, (CallsIn.inRound l (callsIn_wide.2 ht)).mono ?_⟩
    clear ht
    rintro e W' ⟨⟨rv, rfl⟩, m1, f1⟩
    gi_wp2
    exact ⟨KeepsFrom.of_frv f1 (by omega), KpB.of_frv f1 HF.out.size, ⟨⟨k + x.n, by rw [List.length_append, List.length_singleton, Nat.add_mul, Nat.one_mul]; have := HK.out; omega, by rw [List.foldl_append]; exact m1⟩, HF.out.trans f1 (fun i e => .inl e)⟩⟩
  case stop =>
    rintro D c pre W _ _ h _
    exact h.elim
  case done =>
    rintro D xs W hD rfl ⟨⟨k, hk, hM⟩, hF⟩ hK
    rw [HUB.out] at hM
    have HF : Hid (FrV (fun i => i = x.c) w2 W ∧ w2.heap.size ≤ D ∧ W.heap[D]? = some (.deferred (some []))) := ⟨hF, hD, hK⟩
    have hkk : k ≤ 1001000 := by
      have h1 : (List.range (N - m)).reverse.length * x.n ≤ 1000 * 1000 := Nat.mul_le_mul (by simp; have := HM.out; omega) HM.out.2.2.2.2
      have := HM.out
      omega
    have HK : Hid (k ≤ 1001000 ∧ MapA encC Ch.n W x.c k (backC V.C (V.U.drop m))) := ⟨hkk, hM⟩
    have hold : ∀ b, b < w.heap.size → b ≠ x.c → W.heap[b]? = w.heap[b]? := fun b hb hne => (hF.block b (by omega) hne).trans (hb2.block b hb)
    have hqb : W.heap[w.heap.size]? = some (.cells #[.pointer (some ⟨p, 0, none⟩)] 32 (0, 0)) := (hF.block _ (by omega) (by omega)).trans hq2
    have HO : Hid (∀ b, b < w.heap.size → b ≠ x.c → W.heap[b]? = w.heap[b]?) := hold
    have HSZ : Hid (w.heap.size + 2 ≤ W.heap.size ∧ w.heap.size ≤ W.heap.size) := (show _ ∧ _ by have := hF.size; omega)
    have hpc : p ≠ x.c := HH.out.ne_map HH.out.mapC.isMap
    have hpb : W.heap[p]? = some (.cells #[iv, .map (some x.c), .map (some x.r), x.m] 72 (0, 0)) := (hold p hpl hpc).trans HBL.out
    have hrow : Own encM 90 W 0 (.slice (some ⟨g, 0, none⟩) N cap) x.u := by
      have := HH.out.row
      rw [HMM.out] at this
      exact Own.same this (fun g' hg' => by cases hg'; exact hold g HG.out.1 HG.out.2.1)
    have HQB : Hid (W.heap[w.heap.size]? = some (.cells #[.pointer (some ⟨p, 0, none⟩)] 32 (0, 0)) ∧ W.heap[p]? = some (.cells #[iv, .map (some x.c), .map (some x.r), x.m] 72 (0, 0)) ∧ Own encM 90 W 0 (.slice (some ⟨g, 0, none⟩) N cap) x.u) := ⟨hqb, hpb, hrow⟩
    have HDM : Hid (∀ y : World, y.heap[w.heap.size]? = some (.cells #[.pointer (some ⟨p, 0, none⟩)] 32 (0, 0)) → y.cell? ⟨w.heap.size, 0, none⟩ = some (.pointer (some ⟨p, 0, none⟩))) := fun y hy => by rw [cell_of_row _ _ _ _ _ _ hy]; rfl
    have HCELL : Hid (∀ y : World, y.heap[p]? = some (.cells #[iv, .map (some x.c), .map (some x.r), x.m] 72 (0, 0)) → y.cell? ⟨p, 3, none⟩ = some (.slice (some ⟨g, 0, none⟩) N cap)) := fun y hy => by rw [cell_of_row _ _ _ _ _ _ hy]; show some x.m = _; rw [HMM.out]
    have HDEL : Hid (∀ y, Own encM 90 y 0 (.slice (some ⟨g, 0, none⟩) N cap) x.u → Calls Tryz.prog 43 #[.slice (some ⟨g, 0, none⟩) N cap, .int .i64 (m : Int), .int .i64 (N : Int)] y fun e w' => e = .returned (.slice (some ⟨g, 0, none⟩) m cap) ∧ Own encM 90 w' 0 (.slice (some ⟨g, 0, none⟩) m cap) (x.u.take m) ∧ y.grownBy w' (some g)) := fun y hy => delM_calls y g cap N m x.u hy HN.out.symm HM.out.1
    have HGQ : Hid (g ≠ w.heap.size ∧ p ≠ w.heap.size ∧ g ≠ p ∧ p ≠ g) := (show _ ∧ _ ∧ _ ∧ _ by have := HG.out; omega)
    clear hM hF hkk hk hold hqb hpb hrow hpc hb2 hq2 hr2
    dsimp only
    go_upto_region 6 with fail
    refine wp_region_noPanic ?_
    refine wp_region_held_drew (S := (fun y => y.heap[w.heap.size]? = some (.cells #[.pointer (some ⟨p, 0, none⟩)] 32 (0, 0)))) (by kernel_rfl) (HQB.out.1) (fun hHeld => ?_)
    refine wpAnyH_take (i := 0) (v := ?_) rfl (by kernel_rfl) (by kernel_rfl) (by kernel_rfl) (fun _ _ _ h => h) (Or.inl ⟨by rfl, ?_⟩) hHeld ?_
    case refine_2 => (intro w hSw; (try dsimp only at hSw); have hc := HDM.out _ hSw; go_simp; try (with_reducible rfl))
    (try simp only [gs])
    refine wpAnyH_take (i := 1) (v := ?_) rfl (by kernel_rfl) (by kernel_rfl) (by kernel_rfl) (fun _ _ _ h => h) (Or.inl ⟨by rfl, ?_⟩) hHeld ?_
    case refine_2 => (intro w hSw; (try dsimp only at hSw); have hc := HDM.out _ hSw; go_simp; try (with_reducible rfl))
    (try simp only [gs])
    refine wpAnyH_take (i := 2) (v := ?_) rfl (by kernel_rfl) (by kernel_rfl) (by kernel_rfl) (fun _ _ _ h => h) (Or.inl ⟨by rfl, ?_⟩) hHeld ?_
    case refine_2 => (intro w hSw; (try dsimp only at hSw); go_simp; try (with_reducible rfl))
    (try simp only [gs])
    refine wpAnyH_take (i := 3) (v := ?_) rfl (by kernel_rfl) (by kernel_rfl) (by kernel_rfl) (fun _ _ _ h => h) (Or.inl ⟨by rfl, ?_⟩) hHeld ?_
    case refine_2 => (intro w hSw; (try dsimp only at hSw); go_simp; try (with_reducible rfl))
    (try simp only [gs])
    refine wpAnyH_take (i := 5) (v := ?_) rfl (by kernel_rfl) (by kernel_rfl) (by kernel_rfl) (fun _ _ _ h => h) (Or.inl ⟨by rfl, ?_⟩) hHeld ?_
    case refine_2 => (intro w hSw; (try dsimp only at hSw); go_simp; try (with_reducible rfl))
    (try simp only [gs])
    refine wpAnyH_take (i := 6) (v := ?_) rfl (by kernel_rfl) (by kernel_rfl) (by kernel_rfl) (fun _ _ _ h => h) (Or.inl ⟨by rfl, ?_⟩) hHeld ?_
    case refine_2 => (intro w hSw; (try dsimp only at hSw); have hc := HDM.out _ hSw; go_simp; try (with_reducible rfl))
    (try simp only [gs])
    refine wpAnyH_take (i := 7) (v := ?_) rfl (by kernel_rfl) (by kernel_rfl) (by kernel_rfl) (fun _ _ _ h => h) (Or.inl ⟨by rfl, ?_⟩) hHeld ?_
    case refine_2 => (intro w hSw; (try dsimp only at hSw); go_simp; try (with_reducible rfl))
    (try simp only [gs])
    refine wpAnyH_take (i := 8) (v := ?_) rfl (by kernel_rfl) (by kernel_rfl) (by kernel_rfl) (fun _ _ _ h => h) (Or.inl ⟨by rfl, ?_⟩) hHeld ?_
    case refine_2 => (intro w hSw; (try dsimp only at hSw); go_simp; try (with_reducible rfl))
    (try simp only [gs])
    generalize hy1 : W.drew = y1 at *
    have hp1 : y1.heap[p]? = some (.cells #[iv, .map (some x.c), .map (some x.r), x.m] 72 (0, 0)) := by rw [← hy1]; exact HQB.out.2.1
    have ho1 : Own encM 90 y1 0 (.slice (some ⟨g, 0, none⟩) N cap) x.u := by rw [← hy1]; exact HQB.out.2.2
    have hc1 := HCELL.out y1 hp1
    refine wpAnyH_ready (rs := [4, 9]) (by kernel_rfl) (by simp) (AllReadyH.cons rfl (fun K0 hK0 => ?_) (AllReadyH.cons rfl (fun K0 hK0 => ?_) AllReadyH.nil))
    · rw [if_pos (by rfl)]
      (try simp only [gs])
      go_simp
      refine hK0.out _ _ hHeld (fun g1 => ?_)
      clear hK0 K0
      (try simp only [gs])
      refine wpAnyH_ready (rs := [9]) (by kernel_rfl) (by simp) (AllReadyH.cons rfl (fun K0 hK0 => ?_) AllReadyH.nil)
      rw [if_pos (by rfl)]
      (try simp only [gs])
      go_simp
      refine hK0.out _ _ hHeld (fun g1 => ?_)
      clear hK0 K0
      (try simp only [gs])
      refine wpAnyH_take (i := 10) (v := ?_) rfl (by kernel_rfl) (by kernel_rfl) (by kernel_rfl) (fun _ _ _ h => h) (Or.inl ⟨by rfl, ?_⟩) hHeld ?_
      case refine_2 => (intro w hSw; (try dsimp only at hSw); go_simp; try (with_reducible rfl))
      (try simp only [gs])
      refine wpAnyH_ready (rs := [11]) (by kernel_rfl) (by simp) (AllReadyH.cons rfl (fun K0 hK => ?_) AllReadyH.nil)
      rw [if_pos (by rfl)]
      (try simp only [gs])
      go_simp
      refine (HDEL.out y1 ho1).mono ?_
      rintro e y2 ⟨rfl, ho2, hg2⟩
      have hq2 : y2.heap[w.heap.size]? = y1.heap[w.heap.size]? := hg2.block _ (lt_of_block hHeld) (fun e => HGQ.out.1 (by cases e; rfl))
      have hp2 : y2.heap[p]? = y1.heap[p]? := hg2.block _ (lt_of_block hp1) (fun e => HGQ.out.2.2.1 (by cases e; rfl))
      refine hK.out _ _ (hq2.trans hHeld) (fun g3 => ?_)
      clear hK K0
      (try simp only [gs])
      have hb3 := hp2.trans hp1
      have hc3 := HCELL.out y2 hb3
      have hf3 := frozen_of_row y2 p 3 _ _ hb3
      refine wpAnyH_take (i := 12) (v := ?_) rfl (by kernel_rfl) (by kernel_rfl) (by kernel_rfl) (fun _ _ _ h => h) (Or.inl ⟨by rfl, ?_⟩) g3 ?_
      case refine_2 => (intro w hSw; (try dsimp only at hSw); go_simp; try (with_reducible rfl))
      (try simp only [gs])
      refine wpAnyH_take (i := 13) (v := ?_) rfl (by kernel_rfl) (by kernel_rfl) (by kernel_rfl) (fun _ _ _ h => h) (Or.inl ⟨by rfl, ?_⟩) g3 ?_
      case refine_2 => (intro w hSw; (try dsimp only at hSw); go_simp; try (with_reducible rfl))
      (try simp only [gs])
      refine wpAnyH_ready (rs := [14]) (by kernel_rfl) (by simp) (AllReadyH.cons rfl (fun K0 hK => ?_) AllReadyH.nil)
      rw [if_pos (by rfl)]
      (try simp only [gs])
      go_simp
      have hq4 : (y2.setCell ⟨p, 3, none⟩ (.slice (some ⟨g, 0, none⟩) m cap)).heap[w.heap.size]? = y2.heap[w.heap.size]? := heap_setCell_other _ _ _ _ HGQ.out.2.1.symm
      refine hK.out _ _ (hq4.trans g3) (fun g4 => ?_)
      clear hK K0
      (try simp only [gs])
      refine wpAnyH_done (by kernel_rfl) ?_ _
      refine NoPanic.normal ?_
      have hold2 : ∀ b, b < w.heap.size → b ≠ x.c → b ≠ g → y2.heap[b]? = w.heap[b]? := fun b hb h1 h2 => (hg2.block b (by rw [← hy1]; have := HSZ.out; show b < W.heap.size; omega) (fun e => h2 (by cases e; rfl))).trans ((by rw [← hy1]; rfl : y1.heap[b]? = W.heap[b]?).trans (HO.out b hb h1))
      have hmc2 : MapA encC Ch.n y2 x.c k (backC V.C (V.U.drop m)) := (show MapA encC Ch.n y1 x.c k _ by rw [← hy1]; exact HK.out.2.kept rfl).kept (hg2.block _ (by rw [← hy1]; have := HSZ.out; show x.c < W.heap.size; omega) (fun e => HG.out.2.1 (by cases e; rfl)))
      have h3 := VwIn.cut HH.out m g cap N 1001000 _ HMM.out HN.out HM.out.1 hold2 (hmc2.mono HK.out.1) (by have := HM.out; omega) ho2 HG.out
      have HFR : Hid (FrV (x.own p) w (y2.setCell ⟨p, 3, none⟩ (.slice (some ⟨g, 0, none⟩) m cap))) := by
        have f1 : FrV (x.own p) w w2 := FrV.of_below HB2.out.1
        have f2 := f1.trans HF.out.1 (fun i e => .inl (.inr (.inl e)))
        have f3 := f2.trans (show FrV noB W y1 by rw [← hy1]; exact FrV.of_below ⟨rfl, rfl, rfl, Nat.le_refl _, fun _ _ => rfl⟩) (fun i e => e.elim)
        have f4 := f3.trans (FrV.of_grown (S := fun i => i = g) hg2 (fun i e => by cases e; rfl)) (fun i e => .inl (.inr (.inr (.inr (.inr (by rw [e, HMM.out]; rfl))))))
        exact f4.trans (S' := fun i => i = p) ⟨⟨rfl, rfl, rfl, by simp, fun k hk => absurd hk (Nat.not_lt_zero k)⟩, fun i _ hn => heap_setCell_other _ _ _ _ hn⟩ (fun i e => .inl (.inl e))
      have hKD : (y2.setCell ⟨p, 3, none⟩ (.slice (some ⟨g, 0, none⟩) m cap)).heap[D]? = some (.deferred (some [])) := by
        have h1 := HF.out.2
        have h2 := HG.out.1
        have h3 := HB2.out.2.1
        refine (heap_setCell_other _ _ _ _ (show D ≠ p by omega)).trans ((hg2.block D (by rw [← hy1]; exact lt_of_block h1.2) (fun e => by cases e; omega)).trans ((by rw [← hy1]; rfl : y1.heap[D]? = W.heap[D]?).trans h1.2))
      have HKD : Hid ((y2.setCell ⟨p, 3, none⟩ (.slice (some ⟨g, 0, none⟩) m cap)).heap[D]? = some (.deferred (some []))) := hKD
      have hqq : (y2.setCell ⟨p, 3, none⟩ (.slice (some ⟨g, 0, none⟩) m cap)).cell? ⟨w.heap.size, 0, none⟩ = some (.pointer (some ⟨p, 0, none⟩)) := HDM.out _ g4
      have hMk := vmark_calls _ p iv _ _ h3 (show (x.u.take m).length ≤ 100000 by rw [List.length_take]; have := HM.out; omega)
      have H3 : Hid (VwIn (y2.setCell ⟨p, 3, none⟩ (.slice (some ⟨g, 0, none⟩) m cap)) p iv { x with m := .slice (some ⟨g, 0, none⟩) m cap, u := x.u.take m, n := 1001000 } { C := backC V.C (V.U.drop m), R := V.R, U := V.U.take m }) := h3
      clear h3 hold2 hmc2 g4 hq4 g3 hb3 hc3 hf3 hp2 hq2 ho2 hg2 hc1 hp1 ho1 g1 hHeld HO HK HDEL HCELL HQB hKD
      generalize y2.setCell ⟨p, 3, none⟩ (.slice (some ⟨g, 0, none⟩) m cap) = y3 at *
      go_wp2_with (first
        | (go_at_call 15; refine hMk.mono ?_; clear hMk; rintro e y4 ⟨rfl, x', E4⟩))
      have hown3 : ∀ i, VR.own p { x with m := .slice (some ⟨g, 0, none⟩) m cap, u := x.u.take m, n := 1001000 } i → x.own p i := fun i hi => by
        rcases hi with q | q | q | q | q
        · exact .inl q
        · exact .inr (.inl q)
        · exact .inr (.inr (.inl q))
        · exact .inr (.inr (.inr (.inl (List.mem_of_mem_take q))))
        · exact .inr (.inr (.inr (.inr (by rw [HMM.out]; exact q))))
      have hDn : ∀ i, x.own p i → i ≠ D := fun i hi e => by have := HH.out.lt hi; have := HF.out.2.1; have := HB2.out.2.1; omega
      have hK4 : y4.heap[D]? = some (.deferred (some [])) := (E4.fr.block D (lt_of_block HKD.out) (fun q => hDn D (hown3 D q) rfl)).trans HKD.out
      refine ⟨by simp, .inl ⟨_, _, rfl, run_takeDeferred hK4, ?_⟩⟩
      have hD4 : ∀ i, x'.own p i → i ≠ D := fun i hi e => by
        rcases E4.own i hi with q | q
        · exact hDn i (hown3 i q) e
        · have := lt_of_block HKD.out
          omega
      refine ⟨_, results_tmp rfl _ _ _, rfl, x', E4.vw.kept (fun i hi => World.putObj_heap_other (hD4 i hi)), by have : x'.n ≤ 1001000 + 4 := E4.more; omega, (HFR.out.trans E4.fr (fun i q => .inl (hown3 i q))).trans (FrV.of_grown (S := fun i => i = D) (grownBy_putObj_a _ _ _) (fun i e => by cases e; rfl)) (fun i e => .inr (by rw [e]; have := HF.out.2.1; have := HB2.out.2.1; omega)), fun i hi => ?_⟩
      rcases E4.own i hi with q | q
      · exact .inl (hown3 i q)
      · exact .inr (Nat.le_trans HFR.out.size q)
    · rw [if_pos (by rfl)]
      (try simp only [gs])
      go_simp
      refine hK0.out _ _ hHeld (fun g1 => ?_)
      clear hK0 K0
      (try simp only [gs])
      refine wpAnyH_take (i := 10) (v := ?_) rfl (by kernel_rfl) (by kernel_rfl) (by kernel_rfl) (fun _ _ _ h => h) (Or.inl ⟨by rfl, ?_⟩) hHeld ?_
      case refine_2 => (intro w hSw; (try dsimp only at hSw); go_simp; try (with_reducible rfl))
      (try simp only [gs])
      refine wpAnyH_ready (rs := [4]) (by kernel_rfl) (by simp) (AllReadyH.cons rfl (fun K0 hK0 => ?_) AllReadyH.nil)
      rw [if_pos (by rfl)]
      (try simp only [gs])
      go_simp
      refine hK0.out _ _ hHeld (fun g1 => ?_)
      clear hK0 K0
      (try simp only [gs])
      refine wpAnyH_ready (rs := [11]) (by kernel_rfl) (by simp) (AllReadyH.cons rfl (fun K0 hK => ?_) AllReadyH.nil)
      rw [if_pos (by rfl)]
      (try simp only [gs])
      go_simp
      refine (HDEL.out y1 ho1).mono ?_
      rintro e y2 ⟨rfl, ho2, hg2⟩
      have hq2 : y2.heap[w.heap.size]? = y1.heap[w.heap.size]? := hg2.block _ (lt_of_block hHeld) (fun e => HGQ.out.1 (by cases e; rfl))
      have hp2 : y2.heap[p]? = y1.heap[p]? := hg2.block _ (lt_of_block hp1) (fun e => HGQ.out.2.2.1 (by cases e; rfl))
      refine hK.out _ _ (hq2.trans hHeld) (fun g3 => ?_)
      clear hK K0
      (try simp only [gs])
      have hb3 := hp2.trans hp1
      have hc3 := HCELL.out y2 hb3
      have hf3 := frozen_of_row y2 p 3 _ _ hb3
      refine wpAnyH_take (i := 12) (v := ?_) rfl (by kernel_rfl) (by kernel_rfl) (by kernel_rfl) (fun _ _ _ h => h) (Or.inl ⟨by rfl, ?_⟩) g3 ?_
      case refine_2 => (intro w hSw; (try dsimp only at hSw); go_simp; try (with_reducible rfl))
      (try simp only [gs])
      refine wpAnyH_take (i := 13) (v := ?_) rfl (by kernel_rfl) (by kernel_rfl) (by kernel_rfl) (fun _ _ _ h => h) (Or.inl ⟨by rfl, ?_⟩) g3 ?_
      case refine_2 => (intro w hSw; (try dsimp only at hSw); go_simp; try (with_reducible rfl))
      (try simp only [gs])
      refine wpAnyH_ready (rs := [14]) (by kernel_rfl) (by simp) (AllReadyH.cons rfl (fun K0 hK => ?_) AllReadyH.nil)
      rw [if_pos (by rfl)]
      (try simp only [gs])
      go_simp
      have hq4 : (y2.setCell ⟨p, 3, none⟩ (.slice (some ⟨g, 0, none⟩) m cap)).heap[w.heap.size]? = y2.heap[w.heap.size]? := heap_setCell_other _ _ _ _ HGQ.out.2.1.symm
      refine hK.out _ _ (hq4.trans g3) (fun g4 => ?_)
      clear hK K0
      (try simp only [gs])
      refine wpAnyH_done (by kernel_rfl) ?_ _
      refine NoPanic.normal ?_
      have hold2 : ∀ b, b < w.heap.size → b ≠ x.c → b ≠ g → y2.heap[b]? = w.heap[b]? := fun b hb h1 h2 => (hg2.block b (by rw [← hy1]; have := HSZ.out; show b < W.heap.size; omega) (fun e => h2 (by cases e; rfl))).trans ((by rw [← hy1]; rfl : y1.heap[b]? = W.heap[b]?).trans (HO.out b hb h1))
      have hmc2 : MapA encC Ch.n y2 x.c k (backC V.C (V.U.drop m)) := (show MapA encC Ch.n y1 x.c k _ by rw [← hy1]; exact HK.out.2.kept rfl).kept (hg2.block _ (by rw [← hy1]; have := HSZ.out; show x.c < W.heap.size; omega) (fun e => HG.out.2.1 (by cases e; rfl)))
      have h3 := VwIn.cut HH.out m g cap N 1001000 _ HMM.out HN.out HM.out.1 hold2 (hmc2.mono HK.out.1) (by have := HM.out; omega) ho2 HG.out
      have HFR : Hid (FrV (x.own p) w (y2.setCell ⟨p, 3, none⟩ (.slice (some ⟨g, 0, none⟩) m cap))) := by
        have f1 : FrV (x.own p) w w2 := FrV.of_below HB2.out.1
        have f2 := f1.trans HF.out.1 (fun i e => .inl (.inr (.inl e)))
        have f3 := f2.trans (show FrV noB W y1 by rw [← hy1]; exact FrV.of_below ⟨rfl, rfl, rfl, Nat.le_refl _, fun _ _ => rfl⟩) (fun i e => e.elim)
        have f4 := f3.trans (FrV.of_grown (S := fun i => i = g) hg2 (fun i e => by cases e; rfl)) (fun i e => .inl (.inr (.inr (.inr (.inr (by rw [e, HMM.out]; rfl))))))
        exact f4.trans (S' := fun i => i = p) ⟨⟨rfl, rfl, rfl, by simp, fun k hk => absurd hk (Nat.not_lt_zero k)⟩, fun i _ hn => heap_setCell_other _ _ _ _ hn⟩ (fun i e => .inl (.inl e))
      have hKD : (y2.setCell ⟨p, 3, none⟩ (.slice (some ⟨g, 0, none⟩) m cap)).heap[D]? = some (.deferred (some [])) := by
        have h1 := HF.out.2
        have h2 := HG.out.1
        have h3 := HB2.out.2.1
        refine (heap_setCell_other _ _ _ _ (show D ≠ p by omega)).trans ((hg2.block D (by rw [← hy1]; exact lt_of_block h1.2) (fun e => by cases e; omega)).trans ((by rw [← hy1]; rfl : y1.heap[D]? = W.heap[D]?).trans h1.2))
      have HKD : Hid ((y2.setCell ⟨p, 3, none⟩ (.slice (some ⟨g, 0, none⟩) m cap)).heap[D]? = some (.deferred (some []))) := hKD
      have hqq : (y2.setCell ⟨p, 3, none⟩ (.slice (some ⟨g, 0, none⟩) m cap)).cell? ⟨w.heap.size, 0, none⟩ = some (.pointer (some ⟨p, 0, none⟩)) := HDM.out _ g4
      have hMk := vmark_calls _ p iv _ _ h3 (show (x.u.take m).length ≤ 100000 by rw [List.length_take]; have := HM.out; omega)
      have H3 : Hid (VwIn (y2.setCell ⟨p, 3, none⟩ (.slice (some ⟨g, 0, none⟩) m cap)) p iv { x with m := .slice (some ⟨g, 0, none⟩) m cap, u := x.u.take m, n := 1001000 } { C := backC V.C (V.U.drop m), R := V.R, U := V.U.take m }) := h3
      clear h3 hold2 hmc2 g4 hq4 g3 hb3 hc3 hf3 hp2 hq2 ho2 hg2 hc1 hp1 ho1 g1 hHeld HO HK HDEL HCELL HQB hKD
      generalize y2.setCell ⟨p, 3, none⟩ (.slice (some ⟨g, 0, none⟩) m cap) = y3 at *
      go_wp2_with (first
        | (go_at_call 15; refine hMk.mono ?_; clear hMk; rintro e y4 ⟨rfl, x', E4⟩))
      have hown3 : ∀ i, VR.own p { x with m := .slice (some ⟨g, 0, none⟩) m cap, u := x.u.take m, n := 1001000 } i → x.own p i := fun i hi => by
        rcases hi with q | q | q | q | q
        · exact .inl q
        · exact .inr (.inl q)
        · exact .inr (.inr (.inl q))
        · exact .inr (.inr (.inr (.inl (List.mem_of_mem_take q))))
        · exact .inr (.inr (.inr (.inr (by rw [HMM.out]; exact q))))
      have hDn : ∀ i, x.own p i → i ≠ D := fun i hi e => by have := HH.out.lt hi; have := HF.out.2.1; have := HB2.out.2.1; omega
      have hK4 : y4.heap[D]? = some (.deferred (some [])) := (E4.fr.block D (lt_of_block HKD.out) (fun q => hDn D (hown3 D q) rfl)).trans HKD.out
      refine ⟨by simp, .inl ⟨_, _, rfl, run_takeDeferred hK4, ?_⟩⟩
      have hD4 : ∀ i, x'.own p i → i ≠ D := fun i hi e => by
        rcases E4.own i hi with q | q
        · exact hDn i (hown3 i q) e
        · have := lt_of_block HKD.out
          omega
      refine ⟨_, results_tmp rfl _ _ _, rfl, x', E4.vw.kept (fun i hi => World.putObj_heap_other (hD4 i hi)), by have : x'.n ≤ 1001000 + 4 := E4.more; omega, (HFR.out.trans E4.fr (fun i q => .inl (hown3 i q))).trans (FrV.of_grown (S := fun i => i = D) (grownBy_putObj_a _ _ _) (fun i e => by cases e; rfl)) (fun i e => .inr (by rw [e]; have := HF.out.2.1; have := HB2.out.2.1; omega)), fun i hi => ?_⟩
      rcases E4.own i hi with q | q
      · exact .inl (hown3 i q)
      · exact .inr (Nat.le_trans HFR.out.size q)
end Go.Proofs.YtbbelhkdpmcoeaaGreat
