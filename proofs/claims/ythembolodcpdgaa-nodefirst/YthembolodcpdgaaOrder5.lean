/- NodeOrder, walked. -/
import Derived.Test.YthembolodcpdgaaNodY
namespace Go.Proofs.Ythembolodcpdgaa
set_option linter.unusedVariables false
open Go.RowKit

theorem cutN_cutN (x : Nod) : cutN (cutN x) = cutN x := by simp [cutN, List.take_take]
/-- A slice of a cut node's, with what it takes to store into it. -/
theorem elsN_row {w : World} {sv : Value} {l : List El} {B : Nat} (h : ElsN w sv l B) (h0 : 0 < l.length) : ∃ g off c, sv = .slice (some ⟨g, off, none⟩) l.length c ∧ RowAt w g off l.length l ∧ B ≤ g ∧ g < w.heap.size ∧ l.length ≤ c ∧ l.length ≤ maxLen := by
  obtain ⟨⟨r, ⟨ad, cap, rfl, hcap, hmax, hok, hin⟩, h2, h4⟩, _⟩ := h
  rcases hin with q | ⟨g, off, rfl, rfl, hg, hat⟩
  · rw [q] at h0; simp at h0
  · rcases h4 g off cap rfl with q | ⟨_, q⟩
    · rw [q] at h0; simp at h0
    · exact ⟨g, off, cap, rfl, ⟨rfl, hok, hat, q, hg⟩, (h2 g rfl).1, hg, hcap, hmax⟩
theorem elsN_lt {w : World} {sv : Value} {l : List El} {B : Nat} (h : ElsN w sv l B) (h0 : 0 < l.length) {g off n c : Nat} (e : sv = .slice (some ⟨g, off, none⟩) n c) : B ≤ g ∧ g < w.heap.size := by
  obtain ⟨g', off', c', e', _, h1, h2, _⟩ := elsN_row h h0
  rw [e] at e'
  cases e'
  exact ⟨h1, h2⟩
set_option maxHeartbeats 16000000 in
set_option maxRecDepth 100000 in
theorem order5_walk (w : World) (X : Nod) (pv qv : Value) (at_ : Int) (hs : Parts w X pv qv) (hn1 : NilOk pv) (hn2 : NilOk qv) : Calls Try.prog 7 #[nv X pv qv, .int .i64 at_] w fun e w' => e = .returned (.bool true) ∧ Below w.heap.size w w' := by
  have HU0 : Hid (HasN (w.alloc (.cells (nc X pv qv) 25)) w.heap.size X pv qv) := HasN.new w X pv qv _ rfl hs.p.one hs.q.one
  have B0 : Below w.heap.size w (w.alloc (.cells (nc X pv qv) 25)) := (Below.refl _ w).alloc (Nat.le_refl _) _
  have HS : Hid (Parts w X pv qv) := hs
  have HNI : Hid (NilOk pv ∧ NilOk qv) := ⟨hn1, hn2⟩
  clear hs hn1 hn2
  go_enter Try.func7, Try.ntmps7
  go_upto_region 2 with (go_at_call 9; refine (shown_calls _).mono ?_; rintro e w1 ⟨rfl, b1⟩)
  have U1 := HU0.out.below b1 (by simp)
  have B1 : Below w.heap.size w w1 := B0.trans (b1.mono (by simp))
  have s1 := b1.size
  simp at s1
  have S1 : Parts w1 X pv qv := HS.out.below B1
  have HU1 : Hid (HasN w1 w.heap.size X pv qv) := U1
  have HC : Hid (Calls Try.prog 10 #[nv X pv qv] w1 (CutTo w1 X)) := cut_calls w1 X pv qv S1 HNI.out.1 HNI.out.2
  clear b1 U1 HU0 B0 HS S1
  go_upto_region 3 with (first
    | (refine load_node _ rfl w.heap.size rfl rfl _ _ _ HU1.out ?_)
    | (go_at_call 10; refine HC.out.mono ?_; rintro e w2 ⟨tp, tq, rfl, ep2, eq2, b2⟩)
    | (refine store_node rfl _ _ rfl w.heap.size rfl (cutN X) tp tq rfl ep2.els.one eq2.els.one X pv qv (HU1.out.below b2 HU1.out.lt) ?_; intro x2 hu2 tx2 sx2))
  have B2 : Below w.heap.size w x2 := below_touched (B1.trans (b2.mono B1.size)) tx2 (Nat.le_refl _) (Nat.le_refl _)
  have hsz2 := tx2.size
  have P2 : Parts x2 (cutN X) tp tq := ⟨(ep2.kept (y := x2) (fun k hk hl => tx2.block k hl (by omega) (by simp)) hsz2).els, (eq2.kept (y := x2) (fun k hk hl => tx2.block k hl (by omega) (by simp)) hsz2).els⟩
  have H2 : Held w x2 [(w.heap.size, cutN X, tp, tq)] [] [(cutN X, tp, tq)] := ⟨B2, (fun e he => by rcases List.mem_singleton.1 he with rfl; exact hu2), (fun e he => by cases he), (fun e he => by rcases List.mem_singleton.1 he with rfl; exact P2)⟩
  have CT : Hid (∀ y, Parts y (cutN X) tp tq → Calls Try.prog 10 #[nv (cutN X) tp tq] y fun e w' => ∃ p q, e = .returned (nv (cutN X) p q) ∧ ElsN w' p ((cutN X).ps.map Pr.el) y.heap.size ∧ ElsN w' q ((cutN X).ks.map Kd.el) y.heap.size ∧ Below y.heap.size y w') := fun y hy => by
    have := cut_calls y (cutN X) tp tq hy ep2.2 eq2.2
    unfold CutTo at this
    rw [cutN_cutN] at this
    exact this
  clear HU1 B1 s1 b2 ep2 eq2 hu2 tx2 sx2 B2 HC P2 hsz2 HNI
  generalize cutN X = T at *
  have u2 := H2.u (w.heap.size, T, tp, tq) (by simp)
  have hR := right_calls x2 T tp tq (H2.s (T, tp, tq) (by simp))
  cases hr : rightN T with
  | false =>
    rw [hr] at hR
    go_wp2_with (first
      | (refine load_node _ rfl w.heap.size rfl rfl _ _ _ u2 ?_)
      | (go_at_call 19; refine hR.mono ?_; rintro e w4 ⟨rfl, b4⟩))
    go_ret
    exact ⟨rfl, (H2.called b4).bel⟩
  | true =>
    rw [hr] at hR
    have HF : Hid (Fits T) := fits hr
    have HRR : Hid (rightN T = true) := hr
    go_upto_region 5 with (first
      | (refine load_node _ rfl w.heap.size rfl rfl _ _ _ u2 ?_)
      | (go_at_call 19; refine hR.mono ?_; rintro e w3 ⟨rfl, b3⟩))
    have H3 := H2.called b3
    clear H2 b3 u2 hR hr
    have u3 := H3.u (w.heap.size, T, tp, tq) (by simp)
    have hC := CT.out w3 (H3.s (T, tp, tq) (by simp))
    go_upto_region 6 with (first
      | (refine load_node _ rfl w.heap.size rfl rfl _ _ _ u3 ?_)
      | (go_at_call 10; refine hC.mono ?_; rintro e w4 ⟨p4, q4, rfl, ep4, eq4, b4⟩)
      | (refine store_node rfl _ _ rfl w4.heap.size rfl T p4 q4 rfl ep4.els.one eq4.els.one nilN (.slice none 0 0) (.slice none 0 0) (HasN.new w4 nilN _ _ _ rfl rfl rfl) ?_; intro x4 hu4 tx4 sx4))
    have H4 := (H3.called b4).stored hu4 tx4
    have sb4 := step_below (Below.refl _ w4) _ tx4
    have EP4 : Hid (ElsN x4 p4 (T.ps.map Pr.el) w3.heap.size) := ep4.kept (fun k hk hl => sb4.block k hl) sb4.size
    have EQ4 : Hid (ElsN x4 q4 (T.ks.map Kd.el) w3.heap.size) := eq4.kept (fun k hk hl => sb4.block k hl) sb4.size
    have g34 : w3.heap.size ≤ w4.heap.size := b4.size
    have g4x : w4.heap.size < x4.heap.size := hu4.lt
    have HG0 : Hid (Els w3 tp (T.ps.map Pr.el) ∧ Els w3 tq (T.ks.map Kd.el) ∧ Below w3.heap.size w3 x4 ∧ w.heap.size < w3.heap.size) := ⟨(H3.s (T, tp, tq) (by simp)).p, (H3.s (T, tp, tq) (by simp)).q, b4.trans (sb4.mono b4.size), (H3.u (w.heap.size, T, tp, tq) (by simp)).lt⟩
    have HE4 : Hid (ElsN w4 p4 (T.ps.map Pr.el) w3.heap.size ∧ ElsN w4 q4 (T.ks.map Kd.el) w3.heap.size) := ⟨ep4, eq4⟩
    clear H3 u3 hC ep4 eq4 b4 hu4 tx4 sx4 sb4
    have hC := CT.out x4 (H4.s (T, tp, tq) (by simp))
    have u4 := H4.u (w.heap.size, T, tp, tq) (by simp)
    go_upto_region 7 with (first
      | (refine load_node _ rfl w.heap.size rfl rfl _ _ _ u4 ?_)
      | (go_at_call 10; refine hC.mono ?_; rintro e w5 ⟨p5, q5, rfl, ep5, eq5, b5⟩)
      | (refine store_node rfl _ _ rfl w5.heap.size rfl T p5 q5 rfl ep5.els.one eq5.els.one nilN (.slice none 0 0) (.slice none 0 0) (HasN.new w5 nilN _ _ _ rfl rfl rfl) ?_; intro x5 hu5 tx5 sx5))
    have H5 := (H4.called b5).stored hu5 tx5
    have sb5 := step_below (Below.refl _ w5) _ tx5
    have b45 : Below x4.heap.size x4 x5 := b5.trans (sb5.mono b5.size)
    have EP5 : Hid (ElsN x5 p5 (T.ps.map Pr.el) x4.heap.size) := ep5.kept (fun k hk hl => sb5.block k hl) sb5.size
    have EQ5 : Hid (ElsN x5 q5 (T.ks.map Kd.el) x4.heap.size) := eq5.kept (fun k hk hl => sb5.block k hl) sb5.size
    have FP4 : Hid (ElsN x5 p4 (T.ps.map Pr.el) w3.heap.size) := EP4.out.kept (fun k hk hl => b45.block k hl) b45.size
    have FQ4 : Hid (ElsN x5 q4 (T.ks.map Kd.el) w3.heap.size) := EQ4.out.kept (fun k hk hl => b45.block k hl) b45.size
    have g45 : x4.heap.size ≤ w5.heap.size := b5.size
    have g5x : w5.heap.size < x5.heap.size := hu5.lt
    have HG1 : Hid (Els w3 tp (T.ps.map Pr.el) ∧ Els w3 tq (T.ks.map Kd.el) ∧ Below w3.heap.size w3 x5 ∧ w.heap.size < w3.heap.size) := ⟨HG0.out.1, HG0.out.2.1, HG0.out.2.2.1.trans (b45.mono (by omega)), HG0.out.2.2.2⟩
    have HE5 : Hid (ElsN w5 p5 (T.ps.map Pr.el) x4.heap.size ∧ ElsN w5 q5 (T.ks.map Kd.el) x4.heap.size) := ⟨ep5, eq5⟩
    clear H4 u4 hC ep5 eq5 b5 hu5 tx5 sx5 sb5 EP4 EQ4 HG0 b45 CT
    have gw3 := HG1.out.2.2.2
    have N0 := H5.u (w.heap.size, T, tp, tq) (by simp)
    have N4 := H5.u (w4.heap.size, T, p4, q4) (by simp)
    have N5 := H5.u (w5.heap.size, T, p5, q5) (by simp)
    have P0 : Parts x5 T tp tq := H5.s (T, tp, tq) (by simp)
    have BB := H5.bel
    have hl0 := HF.out.l0
    rcases HF.out.one with ⟨hz, hks, hps⟩ | ⟨hz, hps, hks⟩
    · obtain ⟨ap, cp, rfl⟩ := P0.lenP
      obtain ⟨aq, cq, rfl⟩ := P0.lenQ
      obtain ⟨k0, k1, k2⟩ := N0.cells
      obtain ⟨l0, ps, ks⟩ := T
      simp only at hz hks hps k0 k1 k2 hl0
      subst hz hks
      simp only [List.length_nil] at k1 k2 N0 P0 H5 HG1
      obtain ⟨n, hn⟩ : ∃ n : Nat, ps.length = n := ⟨_, rfl⟩
      have HNL : Hid (ps.length = n) := hn
      have hn18 : n ≤ 18 := by have := HF.out.np; simp only at this; omega
      rw [hn] at k1 N0 P0 H5 HG1 hps
      
      by_cases h2 : n < 2
      · have hn1 : n = 1 := by omega
        subst hn1
        clear hn
        go_wp2_with fail
        go_ret
        exact ⟨rfl, BB⟩
      have h2I : ¬ (n : Int) < 2 := by omega
      obtain ⟨D, hD⟩ : ∃ D : Nat, (n : Int) - 1 = (D : Int) := ⟨n - 1, by omega⟩
      have hD0 : ((D : Int) == 0) = false := by simp; omega
      have hD1 : ¬ (D : Int) = 0 := by omega
      obtain ⟨k, hk⟩ : ∃ k : Nat, (at_ % 65536) % (D : Int) = (k : Int) := ⟨((at_ % 65536) % (D : Int)).toNat, by have := Int.emod_nonneg (at_ % 65536) hD1; omega⟩
      have hkD : k < D := by have := Int.emod_lt_of_pos (at_ % 65536) (show (0 : Int) < (D : Int) by omega); omega
      have m1 := and65535 at_
      have m2 : Int.tmod (at_ % 65536) (D : Int) = (k : Int) := by rw [Int.tmod_eq_emod_of_nonneg (by omega)]; exact hk
      have hkn : k + 1 < n := by omega
      have HKL : Hid (k + 1 < ps.length) := (show _ < _ by omega)
      clear hk hn
      go_upto_region 12 with fail
      obtain ⟨ga, oa, ea, gla, hat0, ok0⟩ := els_get HG1.out.1 k (by have := HKL.out; omega)
      obtain ⟨ga', oa', ea', _, hat1, ok1⟩ := els_get HG1.out.1 (k + 1) HKL.out
      cases ea
      cases ea'
      obtain ⟨g4, o4, c4, e4, R4, r4a, r4b, r4c, r4d⟩ := elsN_row FP4.out (by simp; have := HNL.out; omega)
      obtain ⟨g5, o5, c5, e5, R5, r5a, r5b, r5c, r5d⟩ := elsN_row EP5.out (by simp; have := HNL.out; omega)
      obtain ⟨r4e, r4f⟩ := elsN_lt HE4.out.1 (by simp; have := HNL.out; omega) e4
      obtain ⟨r5e, r5f⟩ := elsN_lt HE5.out.1 (by simp; have := HNL.out; omega) e5
      simp only [List.length_map, HNL.out] at e4 e5 R4 R5 r4c r4d r5c r5d
      subst e4 e5
      have rA0 : ∀ z : World, z.heap[ga]? = x5.heap[ga]? → z.rangeAt ga (oa + k * 25) (ec (ps[k]'(by have := HKL.out; omega)).el) := fun z hz' => range_same hat0 (hz'.trans (HG1.out.2.2.1.block ga gla))
      have rA1 : ∀ z : World, z.heap[ga]? = x5.heap[ga]? → z.rangeAt ga (oa + (k + 1) * 25) (ec (ps[k + 1]'HKL.out).el) := fun z hz' => range_same hat1 (hz'.trans (HG1.out.2.2.1.block ga gla))
      have HSN : Hid (rightN ⟨0, (ps.set k (ps[k + 1]'(HKL.out))).set (k + 1) (ps[k]'(by have := HKL.out; omega)), []⟩ = false) := right_pairs (by
        have := swap_no (ps.map Pr.k) k (by have := HKL.out; simpa using this) ((rises_of_right HRR.out).1 rfl)
        simpa [List.map_set] using this) rfl
      have HTN : Hid (rightN ⟨0, ps.set (k + 1) (ps[k]'(by have := HKL.out; omega)), []⟩ = false) := right_pairs (by have := twice_no (ps.map Pr.k) k (by have := HKL.out; simpa using this); simpa [List.map_set] using this) rfl
      obtain ⟨K, hK⟩ : ∃ K : Nat, K = k + 1 := ⟨_, rfl⟩
      have HK : Hid (K = k + 1) := hK
      have rA1' : ∀ z : World, z.heap[ga]? = x5.heap[ga]? → z.rangeAt ga (oa + K * 25) (ec (ps[k + 1]'HKL.out).el) := fun z hz' => by rw [HK.out]; exact rA1 z hz'
      have hKn : (K : Int) < (n : Int) := by omega
      have hK0 : (0 : Int) ≤ (K : Int) := by omega
      have hkn' : (k : Int) < (n : Int) := by omega
      have hk0 : (0 : Int) ≤ (k : Int) := by omega
      have HKN : Hid (k < n ∧ K < n) := ⟨by omega, by omega⟩
      have HKW : Hid (IntKind.i64.wrap ((k : Int) + 1) = (K : Int)) := (show _ = _ by rw [IntKind.wrap_i64]; omega)
      have HKW2 : Hid (wrap64 ((k : Int) + 1) = (K : Int)) := (show _ = _ by unfold wrap64; omega)
      clear hK rA1 hkn
      have okk0 : (ps[k]'(by have := HKL.out; omega)).el.Ok := ok0
      have okk1 : (ps[k + 1]'HKL.out).el.Ok := ok1
      clear ok0 ok1 hat0 hat1
      generalize ps[k]'(by have := HKL.out; omega) = E0 at *
      generalize ps[k + 1]'HKL.out = E1 at *
      have hq4x := N4.cells.2.1
      have hq5x := N5.cells.2.1
      have hiA : (Try.prog.info? 46).map (·.size) = some (ec E0.el).length := by rw [ec_length okk0]; exact Try.info_P
      have hiB : (Try.prog.info? 46).map (·.size) = some (ec E1.el).length := by rw [ec_length okk1]; exact Try.info_P
      have BLK : Hid (∀ z : World, z.heap[w4.heap.size]? = x5.heap[w4.heap.size]? → z.heap[w.heap.size]? = x5.heap[w.heap.size]? → z.heap[ga]? = x5.heap[ga]? → (z.cell? ⟨w4.heap.size, 1, none⟩ = some (.slice (some ⟨g4, o4, none⟩) n c4) ∧ z.cell? ⟨w.heap.size, 1, none⟩ = some (.slice (some ⟨ga, oa, none⟩) n cp)) ∧ z.rangeAt ga (oa + k * 25) (ec E0.el) ∧ z.rangeAt ga (oa + K * 25) (ec E1.el)) := fun z h1 h2 h3 => ⟨⟨(World.cell?_of_block h1).trans hq4x, (World.cell?_of_block h2).trans k1⟩, rA0 z h3, rA1' z h3⟩
      have BLK5 : Hid (∀ z : World, z.heap[w5.heap.size]? = x5.heap[w5.heap.size]? → z.heap[w.heap.size]? = x5.heap[w.heap.size]? → z.heap[ga]? = x5.heap[ga]? → (z.cell? ⟨w5.heap.size, 1, none⟩ = some (.slice (some ⟨g5, o5, none⟩) n c5) ∧ z.cell? ⟨w.heap.size, 1, none⟩ = some (.slice (some ⟨ga, oa, none⟩) n cp)) ∧ z.rangeAt ga (oa + k * 25) (ec E0.el)) := fun z h1 h2 h3 => ⟨⟨(World.cell?_of_block h1).trans hq5x, (World.cell?_of_block h2).trans k1⟩, rA0 z h3⟩
      clear rA0 rA1' hq4x hq5x k0 k1 k2 N0
      refine wp_region_noPanic ?_
      refine wp_region_held_drew (S := (fun yy => (yy.cell? ⟨w4.heap.size, 1, none⟩ = some (.slice (some ⟨g4, o4, none⟩) n c4) ∧ yy.cell? ⟨w.heap.size, 1, none⟩ = some (.slice (some ⟨ga, oa, none⟩) n cp)) ∧ yy.rangeAt ga (oa + k * 25) (ec E0.el) ∧ yy.rangeAt ga (oa + K * 25) (ec E1.el))) (by kernel_rfl) (BLK.out x5.drew rfl rfl rfl) (fun hHeld => ?_)
      refine wpAnyH_take (i := 0) (v := ?_) rfl (by kernel_rfl) (by kernel_rfl) (by kernel_rfl) (fun _ _ _ h => h) (Or.inl ⟨by rfl, ?_⟩) hHeld ?_
      case refine_2 => (intro w hSw; (try dsimp only at hSw); obtain ⟨⟨z1, z2⟩, z3, z4⟩ := hSw; go_simp; try (with_reducible rfl))
      ((try simp only); (try simp only [List.getElem_toArray]); (try simp only [List.getElem_cons_succ]); (try simp only [List.getElem_cons_zero]); (try simp only [Act.put]); (try simp only [List.setIfInBounds_toArray]); (try simp only [List.set_cons_succ]); (try simp only [List.set_cons_zero]))
      refine wpAnyH_take (i := 1) (v := ?_) rfl (by kernel_rfl) (by kernel_rfl) (by kernel_rfl) (fun _ _ _ h => h) (Or.inl ⟨by rfl, ?_⟩) hHeld ?_
      case refine_2 => (intro w hSw; (try dsimp only at hSw); obtain ⟨⟨z1, z2⟩, z3, z4⟩ := hSw; go_simp; try (with_reducible rfl))
      ((try simp only); (try simp only [List.getElem_toArray]); (try simp only [List.getElem_cons_succ]); (try simp only [List.getElem_cons_zero]); (try simp only [Act.put]); (try simp only [List.setIfInBounds_toArray]); (try simp only [List.set_cons_succ]); (try simp only [List.set_cons_zero]))
      refine wpAnyH_take (i := 2) (v := ?_) rfl (by kernel_rfl) (by kernel_rfl) (by kernel_rfl) (fun _ _ _ h => h) (Or.inl ⟨by rfl, ?_⟩) hHeld ?_
      case refine_2 => (intro w hSw; (try dsimp only at hSw); obtain ⟨⟨z1, z2⟩, z3, z4⟩ := hSw; go_simp; try (with_reducible rfl))
      ((try simp only); (try simp only [List.getElem_toArray]); (try simp only [List.getElem_cons_succ]); (try simp only [List.getElem_cons_zero]); (try simp only [Act.put]); (try simp only [List.setIfInBounds_toArray]); (try simp only [List.set_cons_succ]); (try simp only [List.set_cons_zero]))
      refine wpAnyH_take (i := 3) (v := ?_) rfl (by kernel_rfl) (by kernel_rfl) (by kernel_rfl) (fun _ _ _ h => h) (Or.inl ⟨by rfl, ?_⟩) hHeld ?_
      case refine_2 => (intro w hSw; (try dsimp only at hSw); obtain ⟨⟨z1, z2⟩, z3, z4⟩ := hSw; go_simp; try (with_reducible rfl))
      ((try simp only); (try simp only [List.getElem_toArray]); (try simp only [List.getElem_cons_succ]); (try simp only [List.getElem_cons_zero]); (try simp only [Act.put]); (try simp only [List.setIfInBounds_toArray]); (try simp only [List.set_cons_succ]); (try simp only [List.set_cons_zero]))
      refine wpAnyH_take (i := 4) (v := ?_) rfl (by kernel_rfl) (by kernel_rfl) (by kernel_rfl) (fun _ _ _ h => h) (Or.inl ⟨by rfl, ?_⟩) hHeld ?_
      case refine_2 => (intro w hSw; (try dsimp only at hSw); obtain ⟨⟨z1, z2⟩, z3, z4⟩ := hSw; go_simp; try (with_reducible rfl))
      ((try simp only); (try simp only [List.getElem_toArray]); (try simp only [List.getElem_cons_succ]); (try simp only [List.getElem_cons_zero]); (try simp only [Act.put]); (try simp only [List.setIfInBounds_toArray]); (try simp only [List.set_cons_succ]); (try simp only [List.set_cons_zero]))
      refine wpAnyH_take (i := 5) (v := ?_) rfl (by kernel_rfl) (by kernel_rfl) (by kernel_rfl) (fun _ _ _ h => h) (Or.inl ⟨by rfl, ?_⟩) hHeld ?_
      case refine_2 => (intro w hSw; (try dsimp only at hSw); obtain ⟨⟨z1, z2⟩, z3, z4⟩ := hSw; go_simp; try (with_reducible rfl))
      ((try simp only); (try simp only [List.getElem_toArray]); (try simp only [List.getElem_cons_succ]); (try simp only [List.getElem_cons_zero]); (try simp only [Act.put]); (try simp only [List.setIfInBounds_toArray]); (try simp only [List.set_cons_succ]); (try simp only [List.set_cons_zero]))
      refine wpAnyH_take (i := 6) (v := .int .i64 (K : Int)) rfl (by kernel_rfl) (by kernel_rfl) (by kernel_rfl) (fun _ _ _ h => h) (Or.inl ⟨by rfl, ?_⟩) hHeld ?_
      case refine_1 => (intro w hSw; go_simp; first | rw [HKW.out] | rw [HKW2.out])
      ((try simp only); (try simp only [List.getElem_toArray]); (try simp only [List.getElem_cons_succ]); (try simp only [List.getElem_cons_zero]); (try simp only [Act.put]); (try simp only [List.setIfInBounds_toArray]); (try simp only [List.set_cons_succ]); (try simp only [List.set_cons_zero]))
      refine wpAnyH_take (i := 7) (v := ?_) rfl (by kernel_rfl) (by kernel_rfl) (by kernel_rfl) (fun _ _ _ h => h) (Or.inl ⟨by rfl, ?_⟩) hHeld ?_
      case refine_2 => (intro w hSw; (try dsimp only at hSw); obtain ⟨⟨z1, z2⟩, z3, z4⟩ := hSw; go_simp; try (with_reducible rfl))
      ((try simp only); (try simp only [List.getElem_toArray]); (try simp only [List.getElem_cons_succ]); (try simp only [List.getElem_cons_zero]); (try simp only [Act.put]); (try simp only [List.setIfInBounds_toArray]); (try simp only [List.set_cons_succ]); (try simp only [List.set_cons_zero]))
      refine wpAnyH_take (i := 8) (v := ?_) rfl (by kernel_rfl) (by kernel_rfl) (by kernel_rfl) (fun _ _ _ h => h) (Or.inl ⟨by rfl, ?_⟩) hHeld ?_
      case refine_2 => (intro w hSw; (try dsimp only at hSw); obtain ⟨⟨z1, z2⟩, z3, z4⟩ := hSw; go_simp; try (with_reducible rfl))
      ((try simp only); (try simp only [List.getElem_toArray]); (try simp only [List.getElem_cons_succ]); (try simp only [List.getElem_cons_zero]); (try simp only [Act.put]); (try simp only [List.setIfInBounds_toArray]); (try simp only [List.set_cons_succ]); (try simp only [List.set_cons_zero]))
      refine wpAnyH_take (i := 9) (v := ?_) rfl (by kernel_rfl) (by kernel_rfl) (by kernel_rfl) (fun _ _ _ h => h) (Or.inl ⟨by rfl, ?_⟩) hHeld ?_
      case refine_2 => (intro w hSw; (try dsimp only at hSw); obtain ⟨⟨z1, z2⟩, z3, z4⟩ := hSw; go_simp; try (with_reducible rfl))
      ((try simp only); (try simp only [List.getElem_toArray]); (try simp only [List.getElem_cons_succ]); (try simp only [List.getElem_cons_zero]); (try simp only [Act.put]); (try simp only [List.setIfInBounds_toArray]); (try simp only [List.set_cons_succ]); (try simp only [List.set_cons_zero]))
      refine wpAnyH_take (i := 10) (v := .int .i64 (K : Int)) rfl (by kernel_rfl) (by kernel_rfl) (by kernel_rfl) (fun _ _ _ h => h) (Or.inl ⟨by rfl, ?_⟩) hHeld ?_
      case refine_1 => (intro w hSw; go_simp; first | rw [HKW.out] | rw [HKW2.out])
      ((try simp only); (try simp only [List.getElem_toArray]); (try simp only [List.getElem_cons_succ]); (try simp only [List.getElem_cons_zero]); (try simp only [Act.put]); (try simp only [List.setIfInBounds_toArray]); (try simp only [List.set_cons_succ]); (try simp only [List.set_cons_zero]))
      refine wpAnyH_take (i := 11) (v := ?_) rfl (by kernel_rfl) (by kernel_rfl) (by kernel_rfl) (fun _ _ _ h => h) (Or.inl ⟨by rfl, ?_⟩) hHeld ?_
      case refine_2 => (intro w hSw; (try dsimp only at hSw); obtain ⟨⟨z1, z2⟩, z3, z4⟩ := hSw; go_simp; try (with_reducible rfl))
      ((try simp only); (try simp only [List.getElem_toArray]); (try simp only [List.getElem_cons_succ]); (try simp only [List.getElem_cons_zero]); (try simp only [Act.put]); (try simp only [List.setIfInBounds_toArray]); (try simp only [List.set_cons_succ]); (try simp only [List.set_cons_zero]))
      refine wpAnyH_take (i := 12) rfl (by kernel_rfl) (by kernel_rfl) (by kernel_rfl) (fun _ _ _ h => h) (yieldsIf_load_mid (by rfl) _ _ rfl ga (oa + K * 25) rfl _ _ (fun _ h => h.2.2) Try.underlying46 rfl hiB) hHeld ?_
      ((try simp only); (try simp only [List.getElem_toArray]); (try simp only [List.getElem_cons_succ]); (try simp only [List.getElem_cons_zero]); (try simp only [Act.put]); (try simp only [List.setIfInBounds_toArray]); (try simp only [List.set_cons_succ]); (try simp only [List.set_cons_zero]))
      refine wpAnyH_take (i := 13) (v := ?_) rfl (by kernel_rfl) (by kernel_rfl) (by kernel_rfl) (fun _ _ _ h => h) (Or.inl ⟨by rfl, ?_⟩) hHeld ?_
      case refine_2 => (intro w hSw; (try dsimp only at hSw); obtain ⟨⟨z1, z2⟩, z3, z4⟩ := hSw; go_simp; try (with_reducible rfl))
      ((try simp only); (try simp only [List.getElem_toArray]); (try simp only [List.getElem_cons_succ]); (try simp only [List.getElem_cons_zero]); (try simp only [Act.put]); (try simp only [List.setIfInBounds_toArray]); (try simp only [List.set_cons_succ]); (try simp only [List.set_cons_zero]))
      refine wpAnyH_take (i := 14) (v := ?_) rfl (by kernel_rfl) (by kernel_rfl) (by kernel_rfl) (fun _ _ _ h => h) (Or.inl ⟨by rfl, ?_⟩) hHeld ?_
      case refine_2 => (intro w hSw; (try dsimp only at hSw); obtain ⟨⟨z1, z2⟩, z3, z4⟩ := hSw; go_simp; try (with_reducible rfl))
      ((try simp only); (try simp only [List.getElem_toArray]); (try simp only [List.getElem_cons_succ]); (try simp only [List.getElem_cons_zero]); (try simp only [Act.put]); (try simp only [List.setIfInBounds_toArray]); (try simp only [List.set_cons_succ]); (try simp only [List.set_cons_zero]))
      refine wpAnyH_take (i := 15) (v := ?_) rfl (by kernel_rfl) (by kernel_rfl) (by kernel_rfl) (fun _ _ _ h => h) (Or.inl ⟨by rfl, ?_⟩) hHeld ?_
      case refine_2 => (intro w hSw; (try dsimp only at hSw); obtain ⟨⟨z1, z2⟩, z3, z4⟩ := hSw; go_simp; try (with_reducible rfl))
      ((try simp only); (try simp only [List.getElem_toArray]); (try simp only [List.getElem_cons_succ]); (try simp only [List.getElem_cons_zero]); (try simp only [Act.put]); (try simp only [List.setIfInBounds_toArray]); (try simp only [List.set_cons_succ]); (try simp only [List.set_cons_zero]))
      refine wpAnyH_take (i := 16) (v := ?_) rfl (by kernel_rfl) (by kernel_rfl) (by kernel_rfl) (fun _ _ _ h => h) (Or.inl ⟨by rfl, ?_⟩) hHeld ?_
      case refine_2 => (intro w hSw; (try dsimp only at hSw); obtain ⟨⟨z1, z2⟩, z3, z4⟩ := hSw; go_simp; try (with_reducible rfl))
      ((try simp only); (try simp only [List.getElem_toArray]); (try simp only [List.getElem_cons_succ]); (try simp only [List.getElem_cons_zero]); (try simp only [Act.put]); (try simp only [List.setIfInBounds_toArray]); (try simp only [List.set_cons_succ]); (try simp only [List.set_cons_zero]))
      refine wpAnyH_take (i := 17) rfl (by kernel_rfl) (by kernel_rfl) (by kernel_rfl) (fun _ _ _ h => h) (yieldsIf_load_mid (by rfl) _ _ rfl ga (oa + k * 25) rfl _ _ (fun _ h => h.2.1) Try.underlying46 rfl hiA) hHeld ?_
      ((try simp only); (try simp only [List.getElem_toArray]); (try simp only [List.getElem_cons_succ]); (try simp only [List.getElem_cons_zero]); (try simp only [Act.put]); (try simp only [List.setIfInBounds_toArray]); (try simp only [List.set_cons_succ]); (try simp only [List.set_cons_zero]))
      refine wpAnyH_take (i := 18) (v := ?_) rfl (by kernel_rfl) (by kernel_rfl) (by kernel_rfl) (fun _ _ _ h => h) (Or.inl ⟨by rfl, ?_⟩) hHeld ?_
      case refine_2 => (intro w hSw; (try dsimp only at hSw); obtain ⟨⟨z1, z2⟩, z3, z4⟩ := hSw; go_simp; try (with_reducible rfl))
      ((try simp only); (try simp only [List.getElem_toArray]); (try simp only [List.getElem_cons_succ]); (try simp only [List.getElem_cons_zero]); (try simp only [Act.put]); (try simp only [List.setIfInBounds_toArray]); (try simp only [List.set_cons_succ]); (try simp only [List.set_cons_zero]))
      have RD : RowAt x5.drew g4 o4 n (ps.map Pr.el) := R4.same rfl (Nat.le_refl _)
      refine wpAnyH_ready (rs := [19]) (by kernel_rfl) (by simp) (AllReadyH.cons rfl (fun KK hK => ?_) AllReadyH.nil)
      rw [if_pos (by rfl)]
      ((try simp only); (try simp only [List.getElem_toArray]); (try simp only [List.getElem_cons_succ]); (try simp only [List.getElem_cons_zero]); (try simp only [Act.put]); (try simp only [List.setIfInBounds_toArray]); (try simp only [List.set_cons_succ]); (try simp only [List.set_cons_zero]))
      refine wp_store_mid 46 _ _ rfl g4 (o4 + k * 25) (ec E1.el).toArray rfl rfl (RD.at_ _ HKN.out.1 okk1) (by rw [ec_size okk1]; exact Try.info_P) (ec_all okk1) ?_
      have RE := RD.set k HKN.out.1 E1.el okk1
      have TE : Touch g4 none x5 (x5.drew.setCells g4 (o4 + k * 25) (ec E1.el)) := (Touch.refl _ _ x5).drew.trans (touch_setCells _ _ _) (Near.none _ _)
      refine hK.out _ _ (BLK.out _ (TE.block _ (by omega) (by omega) (by simp)) (TE.block _ (by omega) (by omega) (by simp)) (TE.block _ (by omega) (by omega) (by simp))) (fun g1 => ?_)
      clear hK KK
      ((try simp only); (try simp only [List.getElem_toArray]); (try simp only [List.getElem_cons_succ]); (try simp only [List.getElem_cons_zero]); (try simp only [Act.put]); (try simp only [List.setIfInBounds_toArray]); (try simp only [List.set_cons_succ]); (try simp only [List.set_cons_zero]))
      generalize x5.drew.setCells g4 (o4 + k * 25) (ec E1.el) = y1 at *
      refine wpAnyH_take (i := 20) (v := ?_) rfl (by kernel_rfl) (by kernel_rfl) (by kernel_rfl) (fun _ _ _ h => h) (Or.inl ⟨by rfl, ?_⟩) g1 ?_
      case refine_2 => (intro w hSw; (try dsimp only at hSw); obtain ⟨⟨z1, z2⟩, z3, z4⟩ := hSw; go_simp; try (with_reducible rfl))
      ((try simp only); (try simp only [List.getElem_toArray]); (try simp only [List.getElem_cons_succ]); (try simp only [List.getElem_cons_zero]); (try simp only [Act.put]); (try simp only [List.setIfInBounds_toArray]); (try simp only [List.set_cons_succ]); (try simp only [List.set_cons_zero]))
      refine wpAnyH_ready (rs := [21]) (by kernel_rfl) (by simp) (AllReadyH.cons rfl (fun KK hK => ?_) AllReadyH.nil)
      rw [if_pos (by rfl)]
      ((try simp only); (try simp only [List.getElem_toArray]); (try simp only [List.getElem_cons_succ]); (try simp only [List.getElem_cons_zero]); (try simp only [Act.put]); (try simp only [List.setIfInBounds_toArray]); (try simp only [List.set_cons_succ]); (try simp only [List.set_cons_zero]))
      refine wp_store_mid 46 _ _ rfl g4 (o4 + K * 25) (ec E0.el).toArray rfl rfl (RE.at_ _ HKN.out.2 okk0) (by rw [ec_size okk0]; exact Try.info_P) (ec_all okk0) ?_
      have RF := RE.set K HKN.out.2 E0.el okk0
      have TF : Touch g4 none x5 (y1.setCells g4 (o4 + K * 25) (ec E0.el)) := TE.trans (touch_setCells _ _ _) (Near.none _ _)
      refine hK.out _ _ (BLK.out _ (TF.block _ (by omega) (by omega) (by simp)) (TF.block _ (by omega) (by omega) (by simp)) (TF.block _ (by omega) (by omega) (by simp))) (fun g2 => ?_)
      clear hK KK
      ((try simp only); (try simp only [List.getElem_toArray]); (try simp only [List.getElem_cons_succ]); (try simp only [List.getElem_cons_zero]); (try simp only [Act.put]); (try simp only [List.setIfInBounds_toArray]); (try simp only [List.set_cons_succ]); (try simp only [List.set_cons_zero]))
      generalize y1.setCells g4 (o4 + K * 25) (ec E0.el) = y2 at *
      refine wpAnyH_done (by kernel_rfl) ?_ _
      refine NoPanic.normal ?_
      clear g1 g2 hHeld RE TE RD R4
      have HRF : Hid (RowAt y2 g4 o4 n (((ps.map Pr.el).set k E1.el).set K E0.el)) := RF
      have HTF : Hid (Touch g4 none x5 y2) := TF
      clear RF TF
      go_upto_region 13 with fail
      refine wp_region_noPanic ?_
      refine wp_region_held_drew (S := (fun yy => (yy.cell? ⟨w5.heap.size, 1, none⟩ = some (.slice (some ⟨g5, o5, none⟩) n c5) ∧ yy.cell? ⟨w.heap.size, 1, none⟩ = some (.slice (some ⟨ga, oa, none⟩) n cp)) ∧ yy.rangeAt ga (oa + k * 25) (ec E0.el))) (by kernel_rfl) (BLK5.out y2.drew (HTF.out.block _ (by omega) (by omega) (by simp)) (HTF.out.block _ (by omega) (by omega) (by simp)) (HTF.out.block _ (by omega) (by omega) (by simp))) (fun hHeld => ?_)
      refine wpAnyH_take (i := 0) (v := ?_) rfl (by kernel_rfl) (by kernel_rfl) (by kernel_rfl) (fun _ _ _ h => h) (Or.inl ⟨by rfl, ?_⟩) hHeld ?_
      case refine_2 => (intro w hSw; (try dsimp only at hSw); obtain ⟨⟨z1, z2⟩, z3⟩ := hSw; go_simp; try (with_reducible rfl))
      ((try simp only); (try simp only [List.getElem_toArray]); (try simp only [List.getElem_cons_succ]); (try simp only [List.getElem_cons_zero]); (try simp only [Act.put]); (try simp only [List.setIfInBounds_toArray]); (try simp only [List.set_cons_succ]); (try simp only [List.set_cons_zero]))
      refine wpAnyH_take (i := 1) (v := ?_) rfl (by kernel_rfl) (by kernel_rfl) (by kernel_rfl) (fun _ _ _ h => h) (Or.inl ⟨by rfl, ?_⟩) hHeld ?_
      case refine_2 => (intro w hSw; (try dsimp only at hSw); obtain ⟨⟨z1, z2⟩, z3⟩ := hSw; go_simp; try (with_reducible rfl))
      ((try simp only); (try simp only [List.getElem_toArray]); (try simp only [List.getElem_cons_succ]); (try simp only [List.getElem_cons_zero]); (try simp only [Act.put]); (try simp only [List.setIfInBounds_toArray]); (try simp only [List.set_cons_succ]); (try simp only [List.set_cons_zero]))
      refine wpAnyH_take (i := 2) (v := ?_) rfl (by kernel_rfl) (by kernel_rfl) (by kernel_rfl) (fun _ _ _ h => h) (Or.inl ⟨by rfl, ?_⟩) hHeld ?_
      case refine_2 => (intro w hSw; (try dsimp only at hSw); obtain ⟨⟨z1, z2⟩, z3⟩ := hSw; go_simp; try (with_reducible rfl))
      ((try simp only); (try simp only [List.getElem_toArray]); (try simp only [List.getElem_cons_succ]); (try simp only [List.getElem_cons_zero]); (try simp only [Act.put]); (try simp only [List.setIfInBounds_toArray]); (try simp only [List.set_cons_succ]); (try simp only [List.set_cons_zero]))
      refine wpAnyH_take (i := 3) (v := .int .i64 (K : Int)) rfl (by kernel_rfl) (by kernel_rfl) (by kernel_rfl) (fun _ _ _ h => h) (Or.inl ⟨by rfl, ?_⟩) hHeld ?_
      case refine_1 => (intro w hSw; go_simp; first | rw [HKW.out] | rw [HKW2.out])
      ((try simp only); (try simp only [List.getElem_toArray]); (try simp only [List.getElem_cons_succ]); (try simp only [List.getElem_cons_zero]); (try simp only [Act.put]); (try simp only [List.setIfInBounds_toArray]); (try simp only [List.set_cons_succ]); (try simp only [List.set_cons_zero]))
      refine wpAnyH_take (i := 4) (v := ?_) rfl (by kernel_rfl) (by kernel_rfl) (by kernel_rfl) (fun _ _ _ h => h) (Or.inl ⟨by rfl, ?_⟩) hHeld ?_
      case refine_2 => (intro w hSw; (try dsimp only at hSw); obtain ⟨⟨z1, z2⟩, z3⟩ := hSw; go_simp; try (with_reducible rfl))
      ((try simp only); (try simp only [List.getElem_toArray]); (try simp only [List.getElem_cons_succ]); (try simp only [List.getElem_cons_zero]); (try simp only [Act.put]); (try simp only [List.setIfInBounds_toArray]); (try simp only [List.set_cons_succ]); (try simp only [List.set_cons_zero]))
      refine wpAnyH_take (i := 5) (v := ?_) rfl (by kernel_rfl) (by kernel_rfl) (by kernel_rfl) (fun _ _ _ h => h) (Or.inl ⟨by rfl, ?_⟩) hHeld ?_
      case refine_2 => (intro w hSw; (try dsimp only at hSw); obtain ⟨⟨z1, z2⟩, z3⟩ := hSw; go_simp; try (with_reducible rfl))
      ((try simp only); (try simp only [List.getElem_toArray]); (try simp only [List.getElem_cons_succ]); (try simp only [List.getElem_cons_zero]); (try simp only [Act.put]); (try simp only [List.setIfInBounds_toArray]); (try simp only [List.set_cons_succ]); (try simp only [List.set_cons_zero]))
      refine wpAnyH_take (i := 6) (v := ?_) rfl (by kernel_rfl) (by kernel_rfl) (by kernel_rfl) (fun _ _ _ h => h) (Or.inl ⟨by rfl, ?_⟩) hHeld ?_
      case refine_2 => (intro w hSw; (try dsimp only at hSw); obtain ⟨⟨z1, z2⟩, z3⟩ := hSw; go_simp; try (with_reducible rfl))
      ((try simp only); (try simp only [List.getElem_toArray]); (try simp only [List.getElem_cons_succ]); (try simp only [List.getElem_cons_zero]); (try simp only [Act.put]); (try simp only [List.setIfInBounds_toArray]); (try simp only [List.set_cons_succ]); (try simp only [List.set_cons_zero]))
      refine wpAnyH_take (i := 7) (v := ?_) rfl (by kernel_rfl) (by kernel_rfl) (by kernel_rfl) (fun _ _ _ h => h) (Or.inl ⟨by rfl, ?_⟩) hHeld ?_
      case refine_2 => (intro w hSw; (try dsimp only at hSw); obtain ⟨⟨z1, z2⟩, z3⟩ := hSw; go_simp; try (with_reducible rfl))
      ((try simp only); (try simp only [List.getElem_toArray]); (try simp only [List.getElem_cons_succ]); (try simp only [List.getElem_cons_zero]); (try simp only [Act.put]); (try simp only [List.setIfInBounds_toArray]); (try simp only [List.set_cons_succ]); (try simp only [List.set_cons_zero]))
      refine wpAnyH_take (i := 8) rfl (by kernel_rfl) (by kernel_rfl) (by kernel_rfl) (fun _ _ _ h => h) (yieldsIf_load_mid (by rfl) _ _ rfl ga (oa + k * 25) rfl _ _ (fun _ h => h.2) Try.underlying46 rfl hiA) hHeld ?_
      ((try simp only); (try simp only [List.getElem_toArray]); (try simp only [List.getElem_cons_succ]); (try simp only [List.getElem_cons_zero]); (try simp only [Act.put]); (try simp only [List.setIfInBounds_toArray]); (try simp only [List.set_cons_succ]); (try simp only [List.set_cons_zero]))
      refine wpAnyH_take (i := 9) (v := ?_) rfl (by kernel_rfl) (by kernel_rfl) (by kernel_rfl) (fun _ _ _ h => h) (Or.inl ⟨by rfl, ?_⟩) hHeld ?_
      case refine_2 => (intro w hSw; (try dsimp only at hSw); obtain ⟨⟨z1, z2⟩, z3⟩ := hSw; go_simp; try (with_reducible rfl))
      ((try simp only); (try simp only [List.getElem_toArray]); (try simp only [List.getElem_cons_succ]); (try simp only [List.getElem_cons_zero]); (try simp only [Act.put]); (try simp only [List.setIfInBounds_toArray]); (try simp only [List.set_cons_succ]); (try simp only [List.set_cons_zero]))
      have RD : RowAt y2.drew g5 o5 n (ps.map Pr.el) := R5.same (HTF.out.block g5 (by omega) (by omega) (by simp)) (by have := HTF.out.size; exact this)
      refine wpAnyH_ready (rs := [10]) (by kernel_rfl) (by simp) (AllReadyH.cons rfl (fun KK hK => ?_) AllReadyH.nil)
      rw [if_pos (by rfl)]
      ((try simp only); (try simp only [List.getElem_toArray]); (try simp only [List.getElem_cons_succ]); (try simp only [List.getElem_cons_zero]); (try simp only [Act.put]); (try simp only [List.setIfInBounds_toArray]); (try simp only [List.set_cons_succ]); (try simp only [List.set_cons_zero]))
      refine wp_store_mid 46 _ _ rfl g5 (o5 + K * 25) (ec E0.el).toArray rfl rfl (RD.at_ _ HKN.out.2 okk0) (by rw [ec_size okk0]; exact Try.info_P) (ec_all okk0) ?_
      have RE := RD.set K HKN.out.2 E0.el okk0
      have TE : Touch g5 none y2 (y2.drew.setCells g5 (o5 + K * 25) (ec E0.el)) := (Touch.refl _ _ y2).drew.trans (touch_setCells _ _ _) (Near.none _ _)
      have hs2 := HTF.out.size
      refine hK.out _ _ (BLK5.out _ ((TE.block _ (by omega) (by omega) (by simp)).trans (HTF.out.block _ (by omega) (by omega) (by simp))) ((TE.block _ (by omega) (by omega) (by simp)).trans (HTF.out.block _ (by omega) (by omega) (by simp))) ((TE.block _ (by omega) (by omega) (by simp)).trans (HTF.out.block _ (by omega) (by omega) (by simp)))) (fun g1 => ?_)
      clear hK KK
      ((try simp only); (try simp only [List.getElem_toArray]); (try simp only [List.getElem_cons_succ]); (try simp only [List.getElem_cons_zero]); (try simp only [Act.put]); (try simp only [List.setIfInBounds_toArray]); (try simp only [List.set_cons_succ]); (try simp only [List.set_cons_zero]))
      generalize y2.drew.setCells g5 (o5 + K * 25) (ec E0.el) = y3 at *
      refine wpAnyH_done (by kernel_rfl) ?_ _
      refine NoPanic.normal ?_
      have RF3 := HRF.out.same (TE.block g4 (by omega) (by omega) (by simp)) TE.size
      have hKe := HK.out
      subst hKe
      have hs3 := TE.size
      have eS : ((ps.map Pr.el).set k E1.el).set (k + 1) E0.el = ((ps.set k E1).set (k + 1) E0).map Pr.el := by simp [List.map_set]
      rw [eS] at RF3
      have eT : (ps.map Pr.el).set (k + 1) E0.el = (ps.set (k + 1) E0).map Pr.el := by simp [List.map_set]
      rw [eT] at RE
      have PS : Parts y3 ⟨0, ((ps.set k E1).set (k + 1) E0), []⟩ (.slice (some ⟨g4, o4, none⟩) n c4) q4 := ⟨RF3.els r4c r4d, els_empty FQ4.out (by rfl)⟩
      have PT : Parts y3 ⟨0, (ps.set (k + 1) E0), []⟩ (.slice (some ⟨g5, o5, none⟩) n c5) q5 := ⟨RE.els r5c r5d, els_empty EQ5.out (by rfl)⟩
      have M4 : HasN y3 w4.heap.size ⟨0, ((ps.set k E1).set (k + 1) E0), []⟩ (.slice (some ⟨g4, o4, none⟩) n c4) q4 := (N4.same ((TE.block _ (by omega) (by omega) (by simp)).trans (HTF.out.block _ (by omega) (by omega) (by simp)))).re _ rfl
      have M5 : HasN y3 w5.heap.size ⟨0, (ps.set (k + 1) E0), []⟩ (.slice (some ⟨g5, o5, none⟩) n c5) q5 := (N5.same ((TE.block _ (by omega) (by omega) (by simp)).trans (HTF.out.block _ (by omega) (by omega) (by simp)))).re _ rfl
      have BY : Below w.heap.size w y3 := (BB.trans (HTF.out.below BB.size (by omega) (by simp))).trans (TE.below (by have := BB.size; omega) (by omega) (by simp))
      have hR1 := right_calls y3 _ _ _ PS
      rw [HSN.out] at hR1
      have hR2 : ∀ z, Below y3.heap.size y3 z → Calls Try.prog 19 #[nv ⟨0, (ps.set (k + 1) E0), []⟩ (.slice (some ⟨g5, o5, none⟩) n c5) q5] z fun e w' => e = .returned (.bool false) ∧ Below z.heap.size z w' := fun z hz' => by
        have := right_calls z _ _ _ (PT.below hz')
        rw [HTN.out] at this
        exact this
      have HR2 : Hid (∀ z, Below y3.heap.size y3 z → Calls Try.prog 19 #[nv ⟨0, (ps.set (k + 1) E0), []⟩ (.slice (some ⟨g5, o5, none⟩) n c5) q5] z fun e w' => e = .returned (.bool false) ∧ Below z.heap.size z w') := hR2
      clear hR2 PS PT RE RF3 TE HTF HRF R5 BLK BLK5 HSN HTN g1 hHeld eS eT
      go_wp2_with (first
        | (have _q := b6; first
          | (refine load_node _ rfl w5.heap.size rfl rfl _ _ _ (M5.below b6 M5.lt) ?_)
          | (go_at_call 19; refine (HR2.out _ b6).mono ?_; rintro e w7 ⟨rfl, b7⟩))
        | (refine load_node _ rfl w4.heap.size rfl rfl _ _ _ M4 ?_)
        | (go_at_call 19; refine hR1.mono ?_; rintro e w6 ⟨rfl, b6⟩))
      go_ret
      exact ⟨rfl, (BY.trans (b6.mono BY.size)).trans (b7.mono (by have := BY.size; have := b6.size; omega))⟩
    · obtain ⟨ap, cp, rfl⟩ := P0.lenP
      obtain ⟨aq, cq, rfl⟩ := P0.lenQ
      obtain ⟨k0, k1, k2⟩ := N0.cells
      obtain ⟨l0, ps, ks⟩ := T
      simp only at hz hks hps k0 k1 k2 hl0
      subst hps
      simp only [List.length_nil] at k1 k2 N0 P0 H5 HG1
      obtain ⟨n, hn⟩ : ∃ n : Nat, ks.length = n := ⟨_, rfl⟩
      have HNL : Hid (ks.length = n) := hn
      have hn18 : n ≤ 18 := by have := HF.out.nk; simp only at this; omega
      rw [hn] at k2 N0 P0 H5 HG1 hks
      have hlz : (l0 == 0) = false := by simpa using hz
      by_cases h2 : n < 2
      · omega
      have h2I : ¬ (n : Int) < 2 := by omega
      obtain ⟨D, hD⟩ : ∃ D : Nat, (n : Int) - 1 = (D : Int) := ⟨n - 1, by omega⟩
      have hD0 : ((D : Int) == 0) = false := by simp; omega
      have hD1 : ¬ (D : Int) = 0 := by omega
      obtain ⟨k, hk⟩ : ∃ k : Nat, (at_ % 65536) % (D : Int) = (k : Int) := ⟨((at_ % 65536) % (D : Int)).toNat, by have := Int.emod_nonneg (at_ % 65536) hD1; omega⟩
      have hkD : k < D := by have := Int.emod_lt_of_pos (at_ % 65536) (show (0 : Int) < (D : Int) by omega); omega
      have m1 := and65535 at_
      have m2 : Int.tmod (at_ % 65536) (D : Int) = (k : Int) := by rw [Int.tmod_eq_emod_of_nonneg (by omega)]; exact hk
      have hkn : k + 1 < n := by omega
      have HKL : Hid (k + 1 < ks.length) := (show _ < _ by omega)
      clear hk hn
      go_upto_region 14 with fail
      obtain ⟨ga, oa, ea, gla, hat0, ok0⟩ := els_get HG1.out.2.1 k (by have := HKL.out; omega)
      obtain ⟨ga', oa', ea', _, hat1, ok1⟩ := els_get HG1.out.2.1 (k + 1) HKL.out
      cases ea
      cases ea'
      obtain ⟨g4, o4, c4, e4, R4, r4a, r4b, r4c, r4d⟩ := elsN_row FQ4.out (by simp; have := HNL.out; omega)
      obtain ⟨g5, o5, c5, e5, R5, r5a, r5b, r5c, r5d⟩ := elsN_row EQ5.out (by simp; have := HNL.out; omega)
      obtain ⟨r4e, r4f⟩ := elsN_lt HE4.out.2 (by simp; have := HNL.out; omega) e4
      obtain ⟨r5e, r5f⟩ := elsN_lt HE5.out.2 (by simp; have := HNL.out; omega) e5
      simp only [List.length_map, HNL.out] at e4 e5 R4 R5 r4c r4d r5c r5d
      subst e4 e5
      have rA0 : ∀ z : World, z.heap[ga]? = x5.heap[ga]? → z.rangeAt ga (oa + k * 25) (ec (ks[k]'(by have := HKL.out; omega)).el) := fun z hz' => range_same hat0 (hz'.trans (HG1.out.2.2.1.block ga gla))
      have rA1 : ∀ z : World, z.heap[ga]? = x5.heap[ga]? → z.rangeAt ga (oa + (k + 1) * 25) (ec (ks[k + 1]'HKL.out).el) := fun z hz' => range_same hat1 (hz'.trans (HG1.out.2.2.1.block ga gla))
      have HSN : Hid (rightN ⟨l0, [], (ks.set k (ks[k + 1]'(HKL.out))).set (k + 1) (ks[k]'(by have := HKL.out; omega))⟩ = false) := right_kids (.inl (by
        have := swap_no (ks.map Kd.k) k (by have := HKL.out; simpa using this) ((rises_of_right HRR.out).2 hz)
        simpa [List.map_set] using this)) hz
      have HTN : Hid (rightN ⟨l0, [], ks.set (k + 1) ⟨(ks[k + 1]'(HKL.out)).k, (ks[k]'(by have := HKL.out; omega)).n⟩⟩ = false) := right_kids (.inr (apart_twice ks k HKL.out)) hz
      obtain ⟨K, hK⟩ : ∃ K : Nat, K = k + 1 := ⟨_, rfl⟩
      have HK : Hid (K = k + 1) := hK
      have rA1' : ∀ z : World, z.heap[ga]? = x5.heap[ga]? → z.rangeAt ga (oa + K * 25) (ec (ks[k + 1]'HKL.out).el) := fun z hz' => by rw [HK.out]; exact rA1 z hz'
      have hKn : (K : Int) < (n : Int) := by omega
      have hK0 : (0 : Int) ≤ (K : Int) := by omega
      have hkn' : (k : Int) < (n : Int) := by omega
      have hk0 : (0 : Int) ≤ (k : Int) := by omega
      have HKN : Hid (k < n ∧ K < n) := ⟨by omega, by omega⟩
      have HKW : Hid (IntKind.i64.wrap ((k : Int) + 1) = (K : Int)) := (show _ = _ by rw [IntKind.wrap_i64]; omega)
      have HKW2 : Hid (wrap64 ((k : Int) + 1) = (K : Int)) := (show _ = _ by unfold wrap64; omega)
      clear hK rA1 hkn
      have okk0 : (ks[k]'(by have := HKL.out; omega)).el.Ok := ok0
      have okk1 : (ks[k + 1]'HKL.out).el.Ok := ok1
      clear ok0 ok1 hat0 hat1
      generalize ks[k]'(by have := HKL.out; omega) = E0 at *
      obtain ⟨E1', hE1⟩ : ∃ e, e = ks[k + 1]'HKL.out := ⟨_, rfl⟩
      generalize hE1x : ks[k + 1]'HKL.out = E1 at *
      have HE1 : Hid (ks[k + 1]'HKL.out = E1) := hE1x
      clear hE1x hE1
      have hq4x := N4.cells.2.2
      have hq5x := N5.cells.2.2
      have hiA : (Try.prog.info? 48).map (·.size) = some (ec E0.el).length := by rw [ec_length okk0]; exact Try.info_K
      have hiB : (Try.prog.info? 48).map (·.size) = some (ec E1.el).length := by rw [ec_length okk1]; exact Try.info_K
      have BLK : Hid (∀ z : World, z.heap[w4.heap.size]? = x5.heap[w4.heap.size]? → z.heap[w.heap.size]? = x5.heap[w.heap.size]? → z.heap[ga]? = x5.heap[ga]? → (z.cell? ⟨w4.heap.size, 2, none⟩ = some (.slice (some ⟨g4, o4, none⟩) n c4) ∧ z.cell? ⟨w.heap.size, 2, none⟩ = some (.slice (some ⟨ga, oa, none⟩) n cq)) ∧ z.rangeAt ga (oa + k * 25) (ec E0.el) ∧ z.rangeAt ga (oa + K * 25) (ec E1.el)) := fun z h1 h2 h3 => ⟨⟨(World.cell?_of_block h1).trans hq4x, (World.cell?_of_block h2).trans k2⟩, rA0 z h3, rA1' z h3⟩
      have BLK5 : Hid (∀ z : World, z.heap[w5.heap.size]? = x5.heap[w5.heap.size]? → z.heap[w.heap.size]? = x5.heap[w.heap.size]? → z.heap[ga]? = x5.heap[ga]? → (z.cell? ⟨w5.heap.size, 2, none⟩ = some (.slice (some ⟨g5, o5, none⟩) n c5) ∧ z.cell? ⟨w.heap.size, 2, none⟩ = some (.slice (some ⟨ga, oa, none⟩) n cq)) ∧ z.rangeAt ga (oa + k * 25) (ec E0.el)) := fun z h1 h2 h3 => ⟨⟨(World.cell?_of_block h1).trans hq5x, (World.cell?_of_block h2).trans k2⟩, rA0 z h3⟩
      clear rA0 rA1' hq4x hq5x k0 k1 k2 N0
      refine wp_region_noPanic ?_
      refine wp_region_held_drew (S := (fun yy => (yy.cell? ⟨w4.heap.size, 2, none⟩ = some (.slice (some ⟨g4, o4, none⟩) n c4) ∧ yy.cell? ⟨w.heap.size, 2, none⟩ = some (.slice (some ⟨ga, oa, none⟩) n cq)) ∧ yy.rangeAt ga (oa + k * 25) (ec E0.el) ∧ yy.rangeAt ga (oa + K * 25) (ec E1.el))) (by kernel_rfl) (BLK.out x5.drew rfl rfl rfl) (fun hHeld => ?_)
      refine wpAnyH_take (i := 0) (v := ?_) rfl (by kernel_rfl) (by kernel_rfl) (by kernel_rfl) (fun _ _ _ h => h) (Or.inl ⟨by rfl, ?_⟩) hHeld ?_
      case refine_2 => (intro w hSw; (try dsimp only at hSw); obtain ⟨⟨z1, z2⟩, z3, z4⟩ := hSw; go_simp; try (with_reducible rfl))
      ((try simp only); (try simp only [List.getElem_toArray]); (try simp only [List.getElem_cons_succ]); (try simp only [List.getElem_cons_zero]); (try simp only [Act.put]); (try simp only [List.setIfInBounds_toArray]); (try simp only [List.set_cons_succ]); (try simp only [List.set_cons_zero]))
      refine wpAnyH_take (i := 1) (v := ?_) rfl (by kernel_rfl) (by kernel_rfl) (by kernel_rfl) (fun _ _ _ h => h) (Or.inl ⟨by rfl, ?_⟩) hHeld ?_
      case refine_2 => (intro w hSw; (try dsimp only at hSw); obtain ⟨⟨z1, z2⟩, z3, z4⟩ := hSw; go_simp; try (with_reducible rfl))
      ((try simp only); (try simp only [List.getElem_toArray]); (try simp only [List.getElem_cons_succ]); (try simp only [List.getElem_cons_zero]); (try simp only [Act.put]); (try simp only [List.setIfInBounds_toArray]); (try simp only [List.set_cons_succ]); (try simp only [List.set_cons_zero]))
      refine wpAnyH_take (i := 2) (v := ?_) rfl (by kernel_rfl) (by kernel_rfl) (by kernel_rfl) (fun _ _ _ h => h) (Or.inl ⟨by rfl, ?_⟩) hHeld ?_
      case refine_2 => (intro w hSw; (try dsimp only at hSw); obtain ⟨⟨z1, z2⟩, z3, z4⟩ := hSw; go_simp; try (with_reducible rfl))
      ((try simp only); (try simp only [List.getElem_toArray]); (try simp only [List.getElem_cons_succ]); (try simp only [List.getElem_cons_zero]); (try simp only [Act.put]); (try simp only [List.setIfInBounds_toArray]); (try simp only [List.set_cons_succ]); (try simp only [List.set_cons_zero]))
      refine wpAnyH_take (i := 3) (v := ?_) rfl (by kernel_rfl) (by kernel_rfl) (by kernel_rfl) (fun _ _ _ h => h) (Or.inl ⟨by rfl, ?_⟩) hHeld ?_
      case refine_2 => (intro w hSw; (try dsimp only at hSw); obtain ⟨⟨z1, z2⟩, z3, z4⟩ := hSw; go_simp; try (with_reducible rfl))
      ((try simp only); (try simp only [List.getElem_toArray]); (try simp only [List.getElem_cons_succ]); (try simp only [List.getElem_cons_zero]); (try simp only [Act.put]); (try simp only [List.setIfInBounds_toArray]); (try simp only [List.set_cons_succ]); (try simp only [List.set_cons_zero]))
      refine wpAnyH_take (i := 4) (v := ?_) rfl (by kernel_rfl) (by kernel_rfl) (by kernel_rfl) (fun _ _ _ h => h) (Or.inl ⟨by rfl, ?_⟩) hHeld ?_
      case refine_2 => (intro w hSw; (try dsimp only at hSw); obtain ⟨⟨z1, z2⟩, z3, z4⟩ := hSw; go_simp; try (with_reducible rfl))
      ((try simp only); (try simp only [List.getElem_toArray]); (try simp only [List.getElem_cons_succ]); (try simp only [List.getElem_cons_zero]); (try simp only [Act.put]); (try simp only [List.setIfInBounds_toArray]); (try simp only [List.set_cons_succ]); (try simp only [List.set_cons_zero]))
      refine wpAnyH_take (i := 5) (v := ?_) rfl (by kernel_rfl) (by kernel_rfl) (by kernel_rfl) (fun _ _ _ h => h) (Or.inl ⟨by rfl, ?_⟩) hHeld ?_
      case refine_2 => (intro w hSw; (try dsimp only at hSw); obtain ⟨⟨z1, z2⟩, z3, z4⟩ := hSw; go_simp; try (with_reducible rfl))
      ((try simp only); (try simp only [List.getElem_toArray]); (try simp only [List.getElem_cons_succ]); (try simp only [List.getElem_cons_zero]); (try simp only [Act.put]); (try simp only [List.setIfInBounds_toArray]); (try simp only [List.set_cons_succ]); (try simp only [List.set_cons_zero]))
      refine wpAnyH_take (i := 6) (v := .int .i64 (K : Int)) rfl (by kernel_rfl) (by kernel_rfl) (by kernel_rfl) (fun _ _ _ h => h) (Or.inl ⟨by rfl, ?_⟩) hHeld ?_
      case refine_1 => (intro w hSw; go_simp; first | rw [HKW.out] | rw [HKW2.out])
      ((try simp only); (try simp only [List.getElem_toArray]); (try simp only [List.getElem_cons_succ]); (try simp only [List.getElem_cons_zero]); (try simp only [Act.put]); (try simp only [List.setIfInBounds_toArray]); (try simp only [List.set_cons_succ]); (try simp only [List.set_cons_zero]))
      refine wpAnyH_take (i := 7) (v := ?_) rfl (by kernel_rfl) (by kernel_rfl) (by kernel_rfl) (fun _ _ _ h => h) (Or.inl ⟨by rfl, ?_⟩) hHeld ?_
      case refine_2 => (intro w hSw; (try dsimp only at hSw); obtain ⟨⟨z1, z2⟩, z3, z4⟩ := hSw; go_simp; try (with_reducible rfl))
      ((try simp only); (try simp only [List.getElem_toArray]); (try simp only [List.getElem_cons_succ]); (try simp only [List.getElem_cons_zero]); (try simp only [Act.put]); (try simp only [List.setIfInBounds_toArray]); (try simp only [List.set_cons_succ]); (try simp only [List.set_cons_zero]))
      refine wpAnyH_take (i := 8) (v := ?_) rfl (by kernel_rfl) (by kernel_rfl) (by kernel_rfl) (fun _ _ _ h => h) (Or.inl ⟨by rfl, ?_⟩) hHeld ?_
      case refine_2 => (intro w hSw; (try dsimp only at hSw); obtain ⟨⟨z1, z2⟩, z3, z4⟩ := hSw; go_simp; try (with_reducible rfl))
      ((try simp only); (try simp only [List.getElem_toArray]); (try simp only [List.getElem_cons_succ]); (try simp only [List.getElem_cons_zero]); (try simp only [Act.put]); (try simp only [List.setIfInBounds_toArray]); (try simp only [List.set_cons_succ]); (try simp only [List.set_cons_zero]))
      refine wpAnyH_take (i := 9) (v := ?_) rfl (by kernel_rfl) (by kernel_rfl) (by kernel_rfl) (fun _ _ _ h => h) (Or.inl ⟨by rfl, ?_⟩) hHeld ?_
      case refine_2 => (intro w hSw; (try dsimp only at hSw); obtain ⟨⟨z1, z2⟩, z3, z4⟩ := hSw; go_simp; try (with_reducible rfl))
      ((try simp only); (try simp only [List.getElem_toArray]); (try simp only [List.getElem_cons_succ]); (try simp only [List.getElem_cons_zero]); (try simp only [Act.put]); (try simp only [List.setIfInBounds_toArray]); (try simp only [List.set_cons_succ]); (try simp only [List.set_cons_zero]))
      refine wpAnyH_take (i := 10) (v := .int .i64 (K : Int)) rfl (by kernel_rfl) (by kernel_rfl) (by kernel_rfl) (fun _ _ _ h => h) (Or.inl ⟨by rfl, ?_⟩) hHeld ?_
      case refine_1 => (intro w hSw; go_simp; first | rw [HKW.out] | rw [HKW2.out])
      ((try simp only); (try simp only [List.getElem_toArray]); (try simp only [List.getElem_cons_succ]); (try simp only [List.getElem_cons_zero]); (try simp only [Act.put]); (try simp only [List.setIfInBounds_toArray]); (try simp only [List.set_cons_succ]); (try simp only [List.set_cons_zero]))
      refine wpAnyH_take (i := 11) (v := ?_) rfl (by kernel_rfl) (by kernel_rfl) (by kernel_rfl) (fun _ _ _ h => h) (Or.inl ⟨by rfl, ?_⟩) hHeld ?_
      case refine_2 => (intro w hSw; (try dsimp only at hSw); obtain ⟨⟨z1, z2⟩, z3, z4⟩ := hSw; go_simp; try (with_reducible rfl))
      ((try simp only); (try simp only [List.getElem_toArray]); (try simp only [List.getElem_cons_succ]); (try simp only [List.getElem_cons_zero]); (try simp only [Act.put]); (try simp only [List.setIfInBounds_toArray]); (try simp only [List.set_cons_succ]); (try simp only [List.set_cons_zero]))
      refine wpAnyH_take (i := 12) rfl (by kernel_rfl) (by kernel_rfl) (by kernel_rfl) (fun _ _ _ h => h) (yieldsIf_load_mid (by rfl) _ _ rfl ga (oa + K * 25) rfl _ _ (fun _ h => h.2.2) Try.underlying48 rfl hiB) hHeld ?_
      ((try simp only); (try simp only [List.getElem_toArray]); (try simp only [List.getElem_cons_succ]); (try simp only [List.getElem_cons_zero]); (try simp only [Act.put]); (try simp only [List.setIfInBounds_toArray]); (try simp only [List.set_cons_succ]); (try simp only [List.set_cons_zero]))
      refine wpAnyH_take (i := 13) (v := ?_) rfl (by kernel_rfl) (by kernel_rfl) (by kernel_rfl) (fun _ _ _ h => h) (Or.inl ⟨by rfl, ?_⟩) hHeld ?_
      case refine_2 => (intro w hSw; (try dsimp only at hSw); obtain ⟨⟨z1, z2⟩, z3, z4⟩ := hSw; go_simp; try (with_reducible rfl))
      ((try simp only); (try simp only [List.getElem_toArray]); (try simp only [List.getElem_cons_succ]); (try simp only [List.getElem_cons_zero]); (try simp only [Act.put]); (try simp only [List.setIfInBounds_toArray]); (try simp only [List.set_cons_succ]); (try simp only [List.set_cons_zero]))
      refine wpAnyH_take (i := 14) (v := ?_) rfl (by kernel_rfl) (by kernel_rfl) (by kernel_rfl) (fun _ _ _ h => h) (Or.inl ⟨by rfl, ?_⟩) hHeld ?_
      case refine_2 => (intro w hSw; (try dsimp only at hSw); obtain ⟨⟨z1, z2⟩, z3, z4⟩ := hSw; go_simp; try (with_reducible rfl))
      ((try simp only); (try simp only [List.getElem_toArray]); (try simp only [List.getElem_cons_succ]); (try simp only [List.getElem_cons_zero]); (try simp only [Act.put]); (try simp only [List.setIfInBounds_toArray]); (try simp only [List.set_cons_succ]); (try simp only [List.set_cons_zero]))
      refine wpAnyH_take (i := 15) (v := ?_) rfl (by kernel_rfl) (by kernel_rfl) (by kernel_rfl) (fun _ _ _ h => h) (Or.inl ⟨by rfl, ?_⟩) hHeld ?_
      case refine_2 => (intro w hSw; (try dsimp only at hSw); obtain ⟨⟨z1, z2⟩, z3, z4⟩ := hSw; go_simp; try (with_reducible rfl))
      ((try simp only); (try simp only [List.getElem_toArray]); (try simp only [List.getElem_cons_succ]); (try simp only [List.getElem_cons_zero]); (try simp only [Act.put]); (try simp only [List.setIfInBounds_toArray]); (try simp only [List.set_cons_succ]); (try simp only [List.set_cons_zero]))
      refine wpAnyH_take (i := 16) (v := ?_) rfl (by kernel_rfl) (by kernel_rfl) (by kernel_rfl) (fun _ _ _ h => h) (Or.inl ⟨by rfl, ?_⟩) hHeld ?_
      case refine_2 => (intro w hSw; (try dsimp only at hSw); obtain ⟨⟨z1, z2⟩, z3, z4⟩ := hSw; go_simp; try (with_reducible rfl))
      ((try simp only); (try simp only [List.getElem_toArray]); (try simp only [List.getElem_cons_succ]); (try simp only [List.getElem_cons_zero]); (try simp only [Act.put]); (try simp only [List.setIfInBounds_toArray]); (try simp only [List.set_cons_succ]); (try simp only [List.set_cons_zero]))
      refine wpAnyH_take (i := 17) rfl (by kernel_rfl) (by kernel_rfl) (by kernel_rfl) (fun _ _ _ h => h) (yieldsIf_load_mid (by rfl) _ _ rfl ga (oa + k * 25) rfl _ _ (fun _ h => h.2.1) Try.underlying48 rfl hiA) hHeld ?_
      ((try simp only); (try simp only [List.getElem_toArray]); (try simp only [List.getElem_cons_succ]); (try simp only [List.getElem_cons_zero]); (try simp only [Act.put]); (try simp only [List.setIfInBounds_toArray]); (try simp only [List.set_cons_succ]); (try simp only [List.set_cons_zero]))
      refine wpAnyH_take (i := 18) (v := ?_) rfl (by kernel_rfl) (by kernel_rfl) (by kernel_rfl) (fun _ _ _ h => h) (Or.inl ⟨by rfl, ?_⟩) hHeld ?_
      case refine_2 => (intro w hSw; (try dsimp only at hSw); obtain ⟨⟨z1, z2⟩, z3, z4⟩ := hSw; go_simp; try (with_reducible rfl))
      ((try simp only); (try simp only [List.getElem_toArray]); (try simp only [List.getElem_cons_succ]); (try simp only [List.getElem_cons_zero]); (try simp only [Act.put]); (try simp only [List.setIfInBounds_toArray]); (try simp only [List.set_cons_succ]); (try simp only [List.set_cons_zero]))
      have RD : RowAt x5.drew g4 o4 n (ks.map Kd.el) := R4.same rfl (Nat.le_refl _)
      refine wpAnyH_ready (rs := [19]) (by kernel_rfl) (by simp) (AllReadyH.cons rfl (fun KK hK => ?_) AllReadyH.nil)
      rw [if_pos (by rfl)]
      ((try simp only); (try simp only [List.getElem_toArray]); (try simp only [List.getElem_cons_succ]); (try simp only [List.getElem_cons_zero]); (try simp only [Act.put]); (try simp only [List.setIfInBounds_toArray]); (try simp only [List.set_cons_succ]); (try simp only [List.set_cons_zero]))
      refine wp_store_mid 48 _ _ rfl g4 (o4 + k * 25) (ec E1.el).toArray rfl rfl (RD.at_ _ HKN.out.1 okk1) (by rw [ec_size okk1]; exact Try.info_K) (ec_all okk1) ?_
      have RE := RD.set k HKN.out.1 E1.el okk1
      have TE : Touch g4 none x5 (x5.drew.setCells g4 (o4 + k * 25) (ec E1.el)) := (Touch.refl _ _ x5).drew.trans (touch_setCells _ _ _) (Near.none _ _)
      refine hK.out _ _ (BLK.out _ (TE.block _ (by omega) (by omega) (by simp)) (TE.block _ (by omega) (by omega) (by simp)) (TE.block _ (by omega) (by omega) (by simp))) (fun g1 => ?_)
      clear hK KK
      ((try simp only); (try simp only [List.getElem_toArray]); (try simp only [List.getElem_cons_succ]); (try simp only [List.getElem_cons_zero]); (try simp only [Act.put]); (try simp only [List.setIfInBounds_toArray]); (try simp only [List.set_cons_succ]); (try simp only [List.set_cons_zero]))
      generalize x5.drew.setCells g4 (o4 + k * 25) (ec E1.el) = y1 at *
      refine wpAnyH_take (i := 20) (v := ?_) rfl (by kernel_rfl) (by kernel_rfl) (by kernel_rfl) (fun _ _ _ h => h) (Or.inl ⟨by rfl, ?_⟩) g1 ?_
      case refine_2 => (intro w hSw; (try dsimp only at hSw); obtain ⟨⟨z1, z2⟩, z3, z4⟩ := hSw; go_simp; try (with_reducible rfl))
      ((try simp only); (try simp only [List.getElem_toArray]); (try simp only [List.getElem_cons_succ]); (try simp only [List.getElem_cons_zero]); (try simp only [Act.put]); (try simp only [List.setIfInBounds_toArray]); (try simp only [List.set_cons_succ]); (try simp only [List.set_cons_zero]))
      refine wpAnyH_ready (rs := [21]) (by kernel_rfl) (by simp) (AllReadyH.cons rfl (fun KK hK => ?_) AllReadyH.nil)
      rw [if_pos (by rfl)]
      ((try simp only); (try simp only [List.getElem_toArray]); (try simp only [List.getElem_cons_succ]); (try simp only [List.getElem_cons_zero]); (try simp only [Act.put]); (try simp only [List.setIfInBounds_toArray]); (try simp only [List.set_cons_succ]); (try simp only [List.set_cons_zero]))
      refine wp_store_mid 48 _ _ rfl g4 (o4 + K * 25) (ec E0.el).toArray rfl rfl (RE.at_ _ HKN.out.2 okk0) (by rw [ec_size okk0]; exact Try.info_K) (ec_all okk0) ?_
      have RF := RE.set K HKN.out.2 E0.el okk0
      have TF : Touch g4 none x5 (y1.setCells g4 (o4 + K * 25) (ec E0.el)) := TE.trans (touch_setCells _ _ _) (Near.none _ _)
      refine hK.out _ _ (BLK.out _ (TF.block _ (by omega) (by omega) (by simp)) (TF.block _ (by omega) (by omega) (by simp)) (TF.block _ (by omega) (by omega) (by simp))) (fun g2 => ?_)
      clear hK KK
      ((try simp only); (try simp only [List.getElem_toArray]); (try simp only [List.getElem_cons_succ]); (try simp only [List.getElem_cons_zero]); (try simp only [Act.put]); (try simp only [List.setIfInBounds_toArray]); (try simp only [List.set_cons_succ]); (try simp only [List.set_cons_zero]))
      generalize y1.setCells g4 (o4 + K * 25) (ec E0.el) = y2 at *
      refine wpAnyH_done (by kernel_rfl) ?_ _
      refine NoPanic.normal ?_
      clear g1 g2 hHeld RE TE RD R4
      have HRF : Hid (RowAt y2 g4 o4 n (((ks.map Kd.el).set k E1.el).set K E0.el)) := RF
      have HTF : Hid (Touch g4 none x5 y2) := TF
      clear RF TF
      go_upto_region 15 with fail
      refine wp_region_noPanic ?_
      refine wp_region_held_drew (S := (fun yy => (yy.cell? ⟨w5.heap.size, 2, none⟩ = some (.slice (some ⟨g5, o5, none⟩) n c5) ∧ yy.cell? ⟨w.heap.size, 2, none⟩ = some (.slice (some ⟨ga, oa, none⟩) n cq)) ∧ yy.rangeAt ga (oa + k * 25) (ec E0.el))) (by kernel_rfl) (BLK5.out y2.drew (HTF.out.block _ (by omega) (by omega) (by simp)) (HTF.out.block _ (by omega) (by omega) (by simp)) (HTF.out.block _ (by omega) (by omega) (by simp))) (fun hHeld => ?_)
      refine wpAnyH_take (i := 0) (v := ?_) rfl (by kernel_rfl) (by kernel_rfl) (by kernel_rfl) (fun _ _ _ h => h) (Or.inl ⟨by rfl, ?_⟩) hHeld ?_
      case refine_2 => (intro w hSw; (try dsimp only at hSw); obtain ⟨⟨z1, z2⟩, z3⟩ := hSw; go_simp; try (with_reducible rfl))
      ((try simp only); (try simp only [List.getElem_toArray]); (try simp only [List.getElem_cons_succ]); (try simp only [List.getElem_cons_zero]); (try simp only [Act.put]); (try simp only [List.setIfInBounds_toArray]); (try simp only [List.set_cons_succ]); (try simp only [List.set_cons_zero]))
      refine wpAnyH_take (i := 1) (v := ?_) rfl (by kernel_rfl) (by kernel_rfl) (by kernel_rfl) (fun _ _ _ h => h) (Or.inl ⟨by rfl, ?_⟩) hHeld ?_
      case refine_2 => (intro w hSw; (try dsimp only at hSw); obtain ⟨⟨z1, z2⟩, z3⟩ := hSw; go_simp; try (with_reducible rfl))
      ((try simp only); (try simp only [List.getElem_toArray]); (try simp only [List.getElem_cons_succ]); (try simp only [List.getElem_cons_zero]); (try simp only [Act.put]); (try simp only [List.setIfInBounds_toArray]); (try simp only [List.set_cons_succ]); (try simp only [List.set_cons_zero]))
      refine wpAnyH_take (i := 2) (v := ?_) rfl (by kernel_rfl) (by kernel_rfl) (by kernel_rfl) (fun _ _ _ h => h) (Or.inl ⟨by rfl, ?_⟩) hHeld ?_
      case refine_2 => (intro w hSw; (try dsimp only at hSw); obtain ⟨⟨z1, z2⟩, z3⟩ := hSw; go_simp; try (with_reducible rfl))
      ((try simp only); (try simp only [List.getElem_toArray]); (try simp only [List.getElem_cons_succ]); (try simp only [List.getElem_cons_zero]); (try simp only [Act.put]); (try simp only [List.setIfInBounds_toArray]); (try simp only [List.set_cons_succ]); (try simp only [List.set_cons_zero]))
      refine wpAnyH_take (i := 3) (v := .int .i64 (K : Int)) rfl (by kernel_rfl) (by kernel_rfl) (by kernel_rfl) (fun _ _ _ h => h) (Or.inl ⟨by rfl, ?_⟩) hHeld ?_
      case refine_1 => (intro w hSw; go_simp; first | rw [HKW.out] | rw [HKW2.out])
      ((try simp only); (try simp only [List.getElem_toArray]); (try simp only [List.getElem_cons_succ]); (try simp only [List.getElem_cons_zero]); (try simp only [Act.put]); (try simp only [List.setIfInBounds_toArray]); (try simp only [List.set_cons_succ]); (try simp only [List.set_cons_zero]))
      refine wpAnyH_take (i := 4) (v := ?_) rfl (by kernel_rfl) (by kernel_rfl) (by kernel_rfl) (fun _ _ _ h => h) (Or.inl ⟨by rfl, ?_⟩) hHeld ?_
      case refine_2 => (intro w hSw; (try dsimp only at hSw); obtain ⟨⟨z1, z2⟩, z3⟩ := hSw; go_simp; try (with_reducible rfl))
      ((try simp only); (try simp only [List.getElem_toArray]); (try simp only [List.getElem_cons_succ]); (try simp only [List.getElem_cons_zero]); (try simp only [Act.put]); (try simp only [List.setIfInBounds_toArray]); (try simp only [List.set_cons_succ]); (try simp only [List.set_cons_zero]))
      refine wpAnyH_take (i := 5) (v := ?_) rfl (by kernel_rfl) (by kernel_rfl) (by kernel_rfl) (fun _ _ _ h => h) (Or.inl ⟨by rfl, ?_⟩) hHeld ?_
      case refine_2 => (intro w hSw; (try dsimp only at hSw); obtain ⟨⟨z1, z2⟩, z3⟩ := hSw; go_simp; try (with_reducible rfl))
      ((try simp only); (try simp only [List.getElem_toArray]); (try simp only [List.getElem_cons_succ]); (try simp only [List.getElem_cons_zero]); (try simp only [Act.put]); (try simp only [List.setIfInBounds_toArray]); (try simp only [List.set_cons_succ]); (try simp only [List.set_cons_zero]))
      refine wpAnyH_take (i := 6) (v := ?_) rfl (by kernel_rfl) (by kernel_rfl) (by kernel_rfl) (fun _ _ _ h => h) (Or.inl ⟨by rfl, ?_⟩) hHeld ?_
      case refine_2 => (intro w hSw; (try dsimp only at hSw); obtain ⟨⟨z1, z2⟩, z3⟩ := hSw; go_simp; try (with_reducible rfl))
      ((try simp only); (try simp only [List.getElem_toArray]); (try simp only [List.getElem_cons_succ]); (try simp only [List.getElem_cons_zero]); (try simp only [Act.put]); (try simp only [List.setIfInBounds_toArray]); (try simp only [List.set_cons_succ]); (try simp only [List.set_cons_zero]))
      refine wpAnyH_take (i := 7) (v := ?_) rfl (by kernel_rfl) (by kernel_rfl) (by kernel_rfl) (fun _ _ _ h => h) (Or.inl ⟨by rfl, ?_⟩) hHeld ?_
      case refine_2 => (intro w hSw; (try dsimp only at hSw); obtain ⟨⟨z1, z2⟩, z3⟩ := hSw; go_simp; try (with_reducible rfl))
      ((try simp only); (try simp only [List.getElem_toArray]); (try simp only [List.getElem_cons_succ]); (try simp only [List.getElem_cons_zero]); (try simp only [Act.put]); (try simp only [List.setIfInBounds_toArray]); (try simp only [List.set_cons_succ]); (try simp only [List.set_cons_zero]))
      refine wpAnyH_take (i := 8) (v := ?_) rfl (by kernel_rfl) (by kernel_rfl) (by kernel_rfl) (fun _ _ _ h => h) (Or.inl ⟨by rfl, ?_⟩) hHeld ?_
      case refine_2 => (intro w hSw; (try dsimp only at hSw); obtain ⟨⟨z1, z2⟩, z3⟩ := hSw; go_simp; try (with_reducible rfl))
      ((try simp only); (try simp only [List.getElem_toArray]); (try simp only [List.getElem_cons_succ]); (try simp only [List.getElem_cons_zero]); (try simp only [Act.put]); (try simp only [List.setIfInBounds_toArray]); (try simp only [List.set_cons_succ]); (try simp only [List.set_cons_zero]))
      refine wpAnyH_take (i := 9) (v := .int .i64 E0.n) rfl (by kernel_rfl) (by kernel_rfl) (by kernel_rfl) (fun _ _ _ h => h) (Or.inl ⟨by rfl, ?_⟩) hHeld ?_
      case refine_1 => (intro w hSw; have qv := range_val hSw.2 okk0; simp only [Kd.el] at qv; go_simp; try (with_reducible rfl))
      ((try simp only); (try simp only [List.getElem_toArray]); (try simp only [List.getElem_cons_succ]); (try simp only [List.getElem_cons_zero]); (try simp only [Act.put]); (try simp only [List.setIfInBounds_toArray]); (try simp only [List.set_cons_succ]); (try simp only [List.set_cons_zero]))
      refine wpAnyH_take (i := 10) (v := ?_) rfl (by kernel_rfl) (by kernel_rfl) (by kernel_rfl) (fun _ _ _ h => h) (Or.inl ⟨by rfl, ?_⟩) hHeld ?_
      case refine_2 => (intro w hSw; (try dsimp only at hSw); obtain ⟨⟨z1, z2⟩, z3⟩ := hSw; go_simp; try (with_reducible rfl))
      ((try simp only); (try simp only [List.getElem_toArray]); (try simp only [List.getElem_cons_succ]); (try simp only [List.getElem_cons_zero]); (try simp only [Act.put]); (try simp only [List.setIfInBounds_toArray]); (try simp only [List.set_cons_succ]); (try simp only [List.set_cons_zero]))
      refine wpAnyH_take (i := 11) (v := ?_) rfl (by kernel_rfl) (by kernel_rfl) (by kernel_rfl) (fun _ _ _ h => h) (Or.inl ⟨by rfl, ?_⟩) hHeld ?_
      case refine_2 => (intro w hSw; (try dsimp only at hSw); obtain ⟨⟨z1, z2⟩, z3⟩ := hSw; go_simp; try (with_reducible rfl))
      ((try simp only); (try simp only [List.getElem_toArray]); (try simp only [List.getElem_cons_succ]); (try simp only [List.getElem_cons_zero]); (try simp only [Act.put]); (try simp only [List.setIfInBounds_toArray]); (try simp only [List.set_cons_succ]); (try simp only [List.set_cons_zero]))
      have RD : RowAt y2.drew g5 o5 n (ks.map Kd.el) := R5.same (HTF.out.block g5 (by omega) (by omega) (by simp)) (by have := HTF.out.size; exact this)
      have hKl : K < (ks.map Kd.el).length := by rw [RD.len]; exact HKN.out.2
      have hth := RD.th (K * 25 + 24) (by have h1 := HKN.out.2; have : (K + 1) * 25 ≤ n * 25 := Nat.mul_le_mul_right 25 (by omega); omega)
      rw [← Nat.add_assoc] at hth
      obtain ⟨hth1, hth2⟩ := hth
      obtain ⟨vv, hvv⟩ := Option.isSome_iff_exists.1 hth1
      have RE : RowAt (y2.setCell ⟨g5, o5 + K * 25 + 24, none⟩ (.int .i64 E0.n)).drew g5 o5 n ((ks.map Kd.el).set K ⟨((ks.map Kd.el)[K]).k, .int .i64 E0.n⟩) := RD.setv K hKl (.int .i64 E0.n) rfl
      refine wpAnyH_ready (rs := [12]) (by kernel_rfl) (by simp) (AllReadyH.cons rfl (fun KK hK => ?_) AllReadyH.nil)
      rw [if_pos (by rfl)]
      ((try simp only); (try simp only [List.getElem_toArray]); (try simp only [List.getElem_cons_succ]); (try simp only [List.getElem_cons_zero]); (try simp only [Act.put]); (try simp only [List.setIfInBounds_toArray]); (try simp only [List.set_cons_succ]); (try simp only [List.set_cons_zero]))
      go_simp
      have TE : Touch g5 none y2 (y2.setCell ⟨g5, o5 + K * 25 + 24, none⟩ (.int .i64 E0.n)).drew := ((Touch.refl _ _ y2).setCell _ _).drew
      have hs2 := HTF.out.size
      refine hK.out _ _ (BLK5.out _ ((TE.block _ (by omega) (by omega) (by simp)).trans (HTF.out.block _ (by omega) (by omega) (by simp))) ((TE.block _ (by omega) (by omega) (by simp)).trans (HTF.out.block _ (by omega) (by omega) (by simp))) ((TE.block _ (by omega) (by omega) (by simp)).trans (HTF.out.block _ (by omega) (by omega) (by simp)))) (fun g1 => ?_)
      clear hK KK
      ((try simp only); (try simp only [List.getElem_toArray]); (try simp only [List.getElem_cons_succ]); (try simp only [List.getElem_cons_zero]); (try simp only [Act.put]); (try simp only [List.setIfInBounds_toArray]); (try simp only [List.set_cons_succ]); (try simp only [List.set_cons_zero]))
      generalize (y2.setCell ⟨g5, o5 + K * 25 + 24, none⟩ (.int .i64 E0.n)).drew = y3 at *
      refine wpAnyH_done (by kernel_rfl) ?_ _
      refine NoPanic.normal ?_
      have RF3 := HRF.out.same (TE.block g4 (by omega) (by omega) (by simp)) TE.size
      have hKe := HK.out
      subst hKe
      have hs3 := TE.size
      have eS : ((ks.map Kd.el).set k E1.el).set (k + 1) E0.el = ((ks.set k E1).set (k + 1) E0).map Kd.el := by simp [List.map_set]
      rw [eS] at RF3
      have eT : (ks.map Kd.el).set (k + 1) ⟨((ks.map Kd.el)[k + 1]'(by have := HKL.out; simpa using this)).k, .int .i64 E0.n⟩ = (ks.set (k + 1) ⟨E1.k, E0.n⟩).map Kd.el := by
        rw [List.map_set]
        congr 1
        simp only [List.getElem_map, Kd.el]
        rw [HE1.out]
      rw [eT] at RE
      have PS : Parts y3 ⟨l0, [], ((ks.set k E1).set (k + 1) E0)⟩ p4 (.slice (some ⟨g4, o4, none⟩) n c4) := ⟨els_empty FP4.out (by rfl), RF3.els r4c r4d⟩
      have PT : Parts y3 ⟨l0, [], (ks.set (k + 1) ⟨E1.k, E0.n⟩)⟩ p5 (.slice (some ⟨g5, o5, none⟩) n c5) := ⟨els_empty EP5.out (by rfl), RE.els r5c r5d⟩
      have M4 : HasN y3 w4.heap.size ⟨l0, [], ((ks.set k E1).set (k + 1) E0)⟩ p4 (.slice (some ⟨g4, o4, none⟩) n c4) := (N4.same ((TE.block _ (by omega) (by omega) (by simp)).trans (HTF.out.block _ (by omega) (by omega) (by simp)))).re _ rfl
      have M5 : HasN y3 w5.heap.size ⟨l0, [], (ks.set (k + 1) ⟨E1.k, E0.n⟩)⟩ p5 (.slice (some ⟨g5, o5, none⟩) n c5) := (N5.same ((TE.block _ (by omega) (by omega) (by simp)).trans (HTF.out.block _ (by omega) (by omega) (by simp)))).re _ rfl
      have BY : Below w.heap.size w y3 := (BB.trans (HTF.out.below BB.size (by omega) (by simp))).trans (TE.below (by have := BB.size; omega) (by omega) (by simp))
      have hR1 := right_calls y3 _ _ _ PS
      rw [HSN.out] at hR1
      have hR2 : ∀ z, Below y3.heap.size y3 z → Calls Try.prog 19 #[nv ⟨l0, [], (ks.set (k + 1) ⟨E1.k, E0.n⟩)⟩ p5 (.slice (some ⟨g5, o5, none⟩) n c5)] z fun e w' => e = .returned (.bool false) ∧ Below z.heap.size z w' := fun z hz' => by
        have := right_calls z _ _ _ (PT.below hz')
        rw [HTN.out] at this
        exact this
      have HR2 : Hid (∀ z, Below y3.heap.size y3 z → Calls Try.prog 19 #[nv ⟨l0, [], (ks.set (k + 1) ⟨E1.k, E0.n⟩)⟩ p5 (.slice (some ⟨g5, o5, none⟩) n c5)] z fun e w' => e = .returned (.bool false) ∧ Below z.heap.size z w') := hR2
      clear hR2 PS PT RE RF3 TE HTF HRF R5 BLK BLK5 HSN HTN g1 hHeld eS eT
      go_wp2_with (first
        | (have _q := b6; first
          | (refine load_node _ rfl w5.heap.size rfl rfl _ _ _ (M5.below b6 M5.lt) ?_)
          | (go_at_call 19; refine (HR2.out _ b6).mono ?_; rintro e w7 ⟨rfl, b7⟩))
        | (refine load_node _ rfl w4.heap.size rfl rfl _ _ _ M4 ?_)
        | (go_at_call 19; refine hR1.mono ?_; rintro e w6 ⟨rfl, b6⟩))
      go_ret
      exact ⟨rfl, (BY.trans (b6.mono BY.size)).trans (b7.mono (by have := BY.size; have := b6.size; omega))⟩
end Go.Proofs.Ythembolodcpdgaa
