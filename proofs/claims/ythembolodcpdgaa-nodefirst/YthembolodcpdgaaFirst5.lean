/- NodeFirst, walked. -/
import Derived.Test.YthembolodcpdgaaNodF1
import Derived.Test.YthembolodcpdgaaOrder5
namespace Go.Proofs.Ythembolodcpdgaa
set_option linter.unusedVariables false
open Go.RowKit

theorem less_trans : ∀ {a b c : List UInt8}, Op.bytesLess a b = true → Op.bytesLess b c = true → Op.bytesLess a c = true
  | _, [], _, h, _ => by cases ‹List UInt8› <;> simp [Op.bytesLess] at h
  | _, _ :: _, [], _, h => by simp [Op.bytesLess] at h
  | [], _ :: _, _ :: _, _, _ => by simp [Op.bytesLess]
  | x :: a, y :: b, z :: c, h1, h2 => by
    simp only [Op.bytesLess, Bool.or_eq_true, decide_eq_true_eq, Bool.and_eq_true, beq_iff_eq, UInt8.lt_iff_toNat_lt] at h1 h2 ⊢
    rcases h1 with h1 | ⟨rfl, h1⟩
    · rcases h2 with h2 | ⟨rfl, h2⟩
      · exact .inl (by omega)
      · exact .inl h1
    · rcases h2 with h2 | ⟨rfl, h2⟩
      · exact .inl h2
      · exact .inr ⟨rfl, less_trans h1 h2⟩
theorem rises_first : ∀ (l : List (List UInt8)) (i : Nat) (h : i < l.length), rises l = true → 0 < i → Op.bytesLess (l[0]'(by omega)) l[i] = true
  | l, 0, _, _, h0 => by omega
  | l, 1, h, hr, _ => rises_at l 0 h hr
  | l, i + 2, h, hr, _ => less_trans (rises_first l (i + 1) (by omega) hr (by omega)) (rises_at l (i + 1) h hr)
theorem first_least (l : List (List UInt8)) (i : Nat) (h : i < l.length) (hr : rises l = true) : Op.bytesLess l[i] (l[0]'(by omega)) = false := by
  by_cases h0 : i = 0
  · subst h0; exact less_irrefl _
  · exact less_asym (rises_first l i h hr (by omega))
/-- None of a node's keys is below the first. -/
theorem least_keys {T : Nod} (hr : rightN T = true) : (∀ i (hi : i < T.ps.length), Op.bytesLess (T.ps[i]).k (firstN T) = false) ∧ (∀ i (hi : i < T.ks.length), Op.bytesLess (T.ks[i]).k (firstN T) = false) := by
  have F := fits hr
  obtain ⟨r1, r2⟩ := rises_of_right hr
  obtain ⟨lv, ps, ks⟩ := T
  rcases F.one with ⟨z, e, n⟩ | ⟨z, e, n⟩
  · simp only at z e n r1
    subst e
    refine ⟨fun i hi => ?_, (fun i hi => by cases hi)⟩
    have := first_least (ps.map Pr.k) i (by simpa using hi) (r1 z)
    cases ps with
    | nil => cases hi
    | cons p ps =>
      rw [List.getElem_map, List.getElem_map] at this
      exact this
  · simp only at z e n r2
    subst e
    refine ⟨(fun i hi => by cases hi), fun i hi => ?_⟩
    have := first_least (ks.map Kd.k) i (by simpa using hi) (r2 z)
    cases ks with
    | nil => cases hi
    | cons p ks =>
      rw [List.getElem_map, List.getElem_map] at this
      exact this
theorem set_ne {α : Type} (l : List α) (k : Nat) (h : k < l.length) (e : α) (he : ¬ e = l[k]) : ¬ l = l.set k e := fun q => he (by
  have := congrArg (fun m => m[k]?) q
  simp [h] at this
  exact this.symm)
theorem str_more (s : ByteArray) : ¬ s ++ ⟨#[63]⟩ = s := fun e => by
  have := congrArg ByteArray.size e
  rw [ByteArray.size_append] at this
  have h1 : (⟨#[63]⟩ : ByteArray).size = 1 := rfl
  omega
/-- What the walk holds from the first key on. -/
structure FS (w y : World) (dk : Nat) (F : List UInt8) (us : List (Nat × Nod × Value × Value)) (bs : List (Value × List UInt8)) (ss : List (Nod × Value × Value)) : Prop where
  h : Held w y us bs ss
  k : Has y dk F
theorem FS.called {w y z : World} {dk : Nat} {F : List UInt8} {us : List (Nat × Nod × Value × Value)} {bs : List (Value × List UInt8)} {ss : List (Nod × Value × Value)} (h : FS w y dk F us bs ss) (b : Below y.heap.size y z) : FS w z dk F us bs ss := ⟨h.h.called b, h.k.below b h.k.lt⟩
theorem FS.drew {w y : World} {dk : Nat} {F : List UInt8} {us : List (Nat × Nod × Value × Value)} {bs : List (Value × List UInt8)} {ss : List (Nod × Value × Value)} (h : FS w y dk F us bs ss) : FS w y.drew dk F us bs ss := h.called ⟨rfl, rfl, rfl, Nat.le_refl _, fun _ _ => rfl⟩
set_option maxHeartbeats 16000000 in
set_option maxRecDepth 100000 in
theorem first5_walk (w : World) (X : Nod) (pv qv : Value) (at_ : Int) (hs : Parts w X pv qv) (hn1 : NilOk pv) (hn2 : NilOk qv) : Calls Try.prog 8 #[nv X pv qv, .int .i64 at_] w fun e w' => e = .returned (.bool true) ∧ Below w.heap.size w w' := by
  have HU0 : Hid (HasN (w.alloc (.cells (nc X pv qv) 25)) w.heap.size X pv qv) := HasN.new w X pv qv _ rfl hs.p.one hs.q.one
  have B0 : Below w.heap.size w (w.alloc (.cells (nc X pv qv) 25)) := (Below.refl _ w).alloc (Nat.le_refl _) _
  have HS : Hid (Parts w X pv qv) := hs
  have HNI : Hid (NilOk pv ∧ NilOk qv) := ⟨hn1, hn2⟩
  clear hs hn1 hn2
  go_enter Try.func8, Try.ntmps8
  go_upto_region 2 with (go_at_call 9; refine (shown_calls _).mono ?_; rintro e w1 ⟨rfl, b1⟩)
  have U1 := HU0.out.below b1 (by simp)
  have B1 : Below w.heap.size w w1 := B0.trans (b1.mono (by simp))
  have s1 := b1.size
  simp at s1
  have S1 : Parts w1 X pv qv := HS.out.below B1
  have HU1 : Hid (HasN w1 w.heap.size X pv qv) := U1
  have HC : Hid (Calls Try.prog 10 #[nv X pv qv] w1 (CutTo w1 X)) := cut_calls w1 X pv qv S1 HNI.out.1 HNI.out.2
  clear b1 U1 HU0 B0 HS S1
  go_upto_region 3 with (first
    | (refine load_node _ rfl w.heap.size rfl rfl _ _ _ HU1.out ?_)
    | (go_at_call 10; refine HC.out.mono ?_; rintro e w2 ⟨tp, tq, rfl, ep2, eq2, b2⟩)
    | (refine store_node rfl _ _ rfl w.heap.size rfl (cutN X) tp tq rfl ep2.els.one eq2.els.one X pv qv (HU1.out.below b2 HU1.out.lt) ?_; intro x2 hu2 tx2 sx2))
  have B2 : Below w.heap.size w x2 := below_touched (B1.trans (b2.mono B1.size)) tx2 (Nat.le_refl _) (Nat.le_refl _)
  have hsz2 := tx2.size
  have P2 : Parts x2 (cutN X) tp tq := ⟨(ep2.kept (y := x2) (fun k hk hl => tx2.block k hl (by omega) (by simp)) hsz2).els, (eq2.kept (y := x2) (fun k hk hl => tx2.block k hl (by omega) (by simp)) hsz2).els⟩
  have H2 : Held w x2 [(w.heap.size, cutN X, tp, tq)] [] [(cutN X, tp, tq)] := ⟨B2, (fun e he => by rcases List.mem_singleton.1 he with rfl; exact hu2), (fun e he => by cases he), (fun e he => by rcases List.mem_singleton.1 he with rfl; exact P2)⟩
  have CT : Hid (∀ y, Parts y (cutN X) tp tq → Calls Try.prog 10 #[nv (cutN X) tp tq] y fun e w' => ∃ p q, e = .returned (nv (cutN X) p q) ∧ ElsN w' p ((cutN X).ps.map Pr.el) y.heap.size ∧ ElsN w' q ((cutN X).ks.map Kd.el) y.heap.size ∧ Below y.heap.size y w') := fun y hy => by
    have := cut_calls y (cutN X) tp tq hy ep2.2 eq2.2
    unfold CutTo at this
    rw [cutN_cutN] at this
    exact this
  clear HU1 B1 s1 b2 ep2 eq2 hu2 tx2 sx2 B2 HC P2 hsz2 HNI
  generalize cutN X = T at *
  have u2 := H2.u (w.heap.size, T, tp, tq) (by simp)
  have hR := right_calls x2 T tp tq (H2.s (T, tp, tq) (by simp))
  cases hr : rightN T with
  | false =>
    rw [hr] at hR
    go_wp2_with (first
      | (refine load_node _ rfl w.heap.size rfl rfl _ _ _ u2 ?_)
      | (go_at_call 19; refine hR.mono ?_; rintro e w4 ⟨rfl, b4⟩))
    go_ret
    exact ⟨rfl, (H2.called b4).bel⟩
  | true =>
    rw [hr] at hR
    have HF : Hid (Fits T) := fits hr
    have HRR : Hid (rightN T = true) := hr
    go_upto_region 5 with (first
      | (refine load_node _ rfl w.heap.size rfl rfl _ _ _ u2 ?_)
      | (go_at_call 19; refine hR.mono ?_; rintro e w3 ⟨rfl, b3⟩))
    have H3 := H2.called b3
    clear H2 b3 u2 hR hr
    have HLK : Hid ((∀ i (hi : i < T.ps.length), Op.bytesLess (T.ps[i]).k (firstN T) = false) ∧ (∀ i (hi : i < T.ks.length), Op.bytesLess (T.ks[i]).k (firstN T) = false)) := least_keys HRR.out
    have PT : Parts w3 T tp tq := H3.s (T, tp, tq) (by simp)
    have HKT : Hid (Keyed T) := PT.keyed
    have HFL : Hid ((firstN T).length = 24) := firstN_length T HKT.out
    obtain ⟨ap, cp, rfl⟩ := PT.lenP
    obtain ⟨aq, cq, rfl⟩ := PT.lenQ
    have HGP : Hid (∀ i (hi : i < T.ps.length), ∃ g off, ap = some ⟨g, off, none⟩ ∧ g < w3.heap.size ∧ w3.rangeAt g (off + i * 25) (ec (Pr.el T.ps[i])) ∧ (Pr.el T.ps[i]).Ok) := els_get PT.p
    have HGQ : Hid (∀ i (hi : i < T.ks.length), ∃ g off, aq = some ⟨g, off, none⟩ ∧ g < w3.heap.size ∧ w3.rangeAt g (off + i * 25) (ec (Kd.el T.ks[i])) ∧ (Kd.el T.ks[i]).Ok) := els_get PT.q
    have hF := first_calls w3 T _ _ PT
    have u3 := H3.u (w.heap.size, T, .slice ap T.ps.length cp, .slice aq T.ks.length cq) (by simp)
    clear PT
    generalize hFF : firstN T = F at *
    have HFE : Hid (firstN T = F) := hFF
    clear hFF
    go_upto_region 6 with (first
      | (refine load_node _ rfl w.heap.size rfl rfl _ _ _ u3 ?_)
      | (go_at_call 17; refine hF.mono ?_; rintro e w4 ⟨rfl, b4⟩)
      | (refine store_key rfl _ _ rfl w4.heap.size rfl F rfl HFL.out (zs 24) (zero_has w4 _ rfl) ?_; intro x4 hk4 tx4 sx4))
    have b4x := step_below (Below.refl _ w4) _ tx4
    have F4 : FS w x4 w4.heap.size F _ _ _ := ⟨(H3.called b4).called b4x, hk4⟩
    have B34 : Hid (Below w3.heap.size w3 x4) := b4.trans (b4x.mono b4.size)
    clear H3 u3 hF b4 hk4 tx4 sx4 b4x
    generalize w4.heap.size = dk at *
    obtain ⟨N, hN⟩ : ∃ N : Nat, T.ps.length = N := ⟨_, rfl⟩
    obtain ⟨M, hM⟩ : ∃ M : Nat, T.ks.length = M := ⟨_, rfl⟩
    have HNM : Hid (T.ps.length = N ∧ T.ks.length = M) := ⟨hN, hM⟩
    rw [hN, hM] at F4
    rw [hN] at CT
    rw [hM] at CT
    rw [hN, hM]
    have hN18 : N ≤ 18 := by have := HF.out.np; omega
    have hM18 : M ≤ 18 := by have := HF.out.nk; omega
    clear hN hM
    go_wp2_with fail
    go_loopg [7] N (fun g i wr => ∃ k : Nat, k + g = N ∧ i = .int .i64 (k : Int) ∧ Hid (FS w wr dk F [(w.heap.size, T, .slice ap N cp, .slice aq M cq)] [] [(T, .slice ap N cp, .slice aq M cq)] ∧ Below w3.heap.size w3 wr))
    case atStart => exact ⟨0, by omega, rfl, ⟨F4, B34.out⟩⟩
    case round =>
      obtain ⟨k, hkg, rfl, HP⟩ := hrel
      obtain ⟨c0, c1, c2⟩ := (HP.out.1.h.u (w.heap.size, T, .slice ap N cp, .slice aq M cq) (by simp)).cells
      cases gk with
      | succ g =>
        have hlt : k < N := by omega
        have hltI : (k : Int) < (N : Int) := by omega
        have hk0 : (0 : Int) ≤ (k : Int) := by omega
        have hkx : k < T.ps.length := by rw [HNM.out.1]; exact hlt
        obtain ⟨g0, off, rfl, hg0, hat, okA⟩ := HGP.out k hkx
        have hls := HLK.out.1 k hkx
        have HRA : Hid (∀ yy, Below w3.heap.size w3 yy → yy.rangeAt g0 (off + k * 25) (bc (Pr.el T.ps[k]).k)) := fun yy hy => range_key (range_same hat (hy.block g0 hg0))
        have hls' : Op.bytesLess (Pr.el T.ps[k]).k F = false := hls
        clear hat hls
        have hls := hls'
        clear hls'
        generalize Pr.el T.ps[k] = e0 at *
        have hi1 : (Try.prog.info? 39).map (·.size) = some (bc e0.k).length := by rw [bc_length, okA.len]; exact Try.key_info
        have hi2 : (Try.prog.info? 39).map (·.size) = some (bc F).length := by rw [bc_length, HFL.out]; exact Try.key_info
        have HSS : Hid (∀ yy, FS w yy dk F [(w.heap.size, T, .slice (some ⟨g0, off, none⟩) N cp, .slice aq M cq)] [] [(T, .slice (some ⟨g0, off, none⟩) N cp, .slice aq M cq)] → Below w3.heap.size w3 yy → (FS w yy dk F [(w.heap.size, T, .slice (some ⟨g0, off, none⟩) N cp, .slice aq M cq)] [] [(T, .slice (some ⟨g0, off, none⟩) N cp, .slice aq M cq)] ∧ Below w3.heap.size w3 yy) ∧ yy.cell? ⟨w.heap.size, 1, none⟩ = some (.slice (some ⟨g0, off, none⟩) N cp) ∧ yy.rangeAt g0 (off + k * 25) (bc e0.k)) := fun yy h1 h2 => ⟨⟨h1, h2⟩, (h1.h.u (w.heap.size, T, _, _) List.mem_cons_self).cells.2.1, HRA.out yy h2⟩
        go_upto_region 9 with fail
        refine wp_region_noPanic ?_
        refine wp_region_held_drew (S := (fun yy => (FS w yy dk F [(w.heap.size, T, .slice (some ⟨g0, off, none⟩) N cp, .slice aq M cq)] [] [(T, .slice (some ⟨g0, off, none⟩) N cp, .slice aq M cq)] ∧ Below w3.heap.size w3 yy) ∧ yy.cell? ⟨w.heap.size, 1, none⟩ = some (.slice (some ⟨g0, off, none⟩) N cp) ∧ yy.rangeAt g0 (off + k * 25) (bc e0.k))) (by kernel_rfl) (HSS.out wr.drew HP.out.1.drew (below_drewN HP.out.2 1)) (fun hHeld => ?_)
        refine wpAnyH_take (i := 0) (v := ?_) rfl (by kernel_rfl) (by kernel_rfl) (by kernel_rfl) (fun _ _ _ h => h) (Or.inl ⟨by rfl, ?_⟩) hHeld ?_
        case refine_2 => (intro w hSw; (try dsimp only at hSw); obtain ⟨_, z1, z2⟩ := hSw; go_simp; try (with_reducible rfl))
        ((try simp only); (try simp only [List.getElem_toArray]); (try simp only [List.getElem_cons_succ]); (try simp only [List.getElem_cons_zero]); (try simp only [Act.put]); (try simp only [List.setIfInBounds_toArray]); (try simp only [List.set_cons_succ]); (try simp only [List.set_cons_zero]))
        refine wpAnyH_take (i := 1) (v := ?_) rfl (by kernel_rfl) (by kernel_rfl) (by kernel_rfl) (fun _ _ _ h => h) (Or.inl ⟨by rfl, ?_⟩) hHeld ?_
        case refine_2 => (intro w hSw; (try dsimp only at hSw); obtain ⟨_, z1, z2⟩ := hSw; go_simp; try (with_reducible rfl))
        ((try simp only); (try simp only [List.getElem_toArray]); (try simp only [List.getElem_cons_succ]); (try simp only [List.getElem_cons_zero]); (try simp only [Act.put]); (try simp only [List.setIfInBounds_toArray]); (try simp only [List.set_cons_succ]); (try simp only [List.set_cons_zero]))
        refine wpAnyH_take (i := 2) (v := ?_) rfl (by kernel_rfl) (by kernel_rfl) (by kernel_rfl) (fun _ _ _ h => h) (Or.inl ⟨by rfl, ?_⟩) hHeld ?_
        case refine_2 => (intro w hSw; (try dsimp only at hSw); obtain ⟨_, z1, z2⟩ := hSw; go_simp; try (with_reducible rfl))
        ((try simp only); (try simp only [List.getElem_toArray]); (try simp only [List.getElem_cons_succ]); (try simp only [List.getElem_cons_zero]); (try simp only [Act.put]); (try simp only [List.setIfInBounds_toArray]); (try simp only [List.set_cons_succ]); (try simp only [List.set_cons_zero]))
        refine wpAnyH_take (i := 3) (v := ?_) rfl (by kernel_rfl) (by kernel_rfl) (by kernel_rfl) (fun _ _ _ h => h) (Or.inl ⟨by rfl, ?_⟩) hHeld ?_
        case refine_2 => (intro w hSw; (try dsimp only at hSw); obtain ⟨_, z1, z2⟩ := hSw; go_simp; try (with_reducible rfl))
        ((try simp only); (try simp only [List.getElem_toArray]); (try simp only [List.getElem_cons_succ]); (try simp only [List.getElem_cons_zero]); (try simp only [Act.put]); (try simp only [List.setIfInBounds_toArray]); (try simp only [List.set_cons_succ]); (try simp only [List.set_cons_zero]))
        refine wpAnyH_take (i := 4) (v := ?_) rfl (by kernel_rfl) (by kernel_rfl) (by kernel_rfl) (fun _ _ _ h => h) (Or.inl ⟨by rfl, ?_⟩) hHeld ?_
        case refine_2 => (intro w hSw; (try dsimp only at hSw); obtain ⟨_, z1, z2⟩ := hSw; go_simp; try (with_reducible rfl))
        ((try simp only); (try simp only [List.getElem_toArray]); (try simp only [List.getElem_cons_succ]); (try simp only [List.getElem_cons_zero]); (try simp only [Act.put]); (try simp only [List.setIfInBounds_toArray]); (try simp only [List.set_cons_succ]); (try simp only [List.set_cons_zero]))
        refine wpAnyH_take (i := 5) rfl (by kernel_rfl) (by kernel_rfl) (by kernel_rfl) (fun _ _ _ h => h) (yieldsIf_load_mid (by rfl) _ _ rfl g0 (off + k * 25) rfl _ _ (fun _ h => h.2.2) Try.underlying39 rfl hi1) hHeld ?_
        ((try simp only); (try simp only [List.getElem_toArray]); (try simp only [List.getElem_cons_succ]); (try simp only [List.getElem_cons_zero]); (try simp only [Act.put]); (try simp only [List.setIfInBounds_toArray]); (try simp only [List.set_cons_succ]); (try simp only [List.set_cons_zero]))
        refine wpAnyH_take (i := 6) rfl (by kernel_rfl) (by kernel_rfl) (by kernel_rfl) (fun _ _ _ h => h) (yieldsIf_load_mid (by rfl) _ _ rfl dk 0 rfl _ _ (fun _ h => h.1.1.k.range) Try.underlying39 rfl hi2) hHeld ?_
        ((try simp only); (try simp only [List.getElem_toArray]); (try simp only [List.getElem_cons_succ]); (try simp only [List.getElem_cons_zero]); (try simp only [Act.put]); (try simp only [List.setIfInBounds_toArray]); (try simp only [List.set_cons_succ]); (try simp only [List.set_cons_zero]))
        refine wpAnyH_ready (rs := [7]) (by kernel_rfl) (by simp) (AllReadyH.cons rfl (fun K hK => ?_) AllReadyH.nil)
        rw [if_pos (by rfl)]
        ((try simp only); (try simp only [List.getElem_toArray]); (try simp only [List.getElem_cons_succ]); (try simp only [List.getElem_cons_zero]); (try simp only [Act.put]); (try simp only [List.setIfInBounds_toArray]); (try simp only [List.set_cons_succ]); (try simp only [List.set_cons_zero]))
        go_simp
        refine (rless_calls _ e0.k F okA.len HFL.out).mono ?_
        rintro e y7 ⟨rfl, b7⟩
        rw [hls]
        refine hK.out _ _ (HSS.out _ (hHeld.1.1.called b7) (hHeld.1.2.trans (b7.mono hHeld.1.2.size))) (fun g7 => ?_)
        clear hK K
        ((try simp only); (try simp only [List.getElem_toArray]); (try simp only [List.getElem_cons_succ]); (try simp only [List.getElem_cons_zero]); (try simp only [Act.put]); (try simp only [List.setIfInBounds_toArray]); (try simp only [List.set_cons_succ]); (try simp only [List.set_cons_zero]))
        refine wpAnyH_done (by kernel_rfl) ?_ _
        refine NoPanic.normal ?_
        go_wp2_with fail
        go_roundg g
        case measure => omega
        case rel => exact ⟨k + 1, by omega, by go_num, g7.1⟩
      | zero =>
        have hkN : ¬ (k : Int) < (N : Int) := by omega
        clear hkg
        go_wp2_with fail
        go_loopg [8] M (fun g i wr => ∃ k : Nat, k + g = M ∧ i = .int .i64 (k : Int) ∧ Hid (FS w wr dk F [(w.heap.size, T, .slice ap N cp, .slice aq M cq)] [] [(T, .slice ap N cp, .slice aq M cq)] ∧ Below w3.heap.size w3 wr))
        case atStart => exact ⟨0, by omega, rfl, HP⟩
        case round =>
          obtain ⟨k, hkg, rfl, HP⟩ := hrel
          obtain ⟨c0, c1, c2⟩ := (HP.out.1.h.u (w.heap.size, T, .slice ap N cp, .slice aq M cq) (by simp)).cells
          cases gk with
          | succ g =>
            have hlt : k < M := by omega
            have hltI : (k : Int) < (M : Int) := by omega
            have hk0 : (0 : Int) ≤ (k : Int) := by omega
            have hkx : k < T.ks.length := by rw [HNM.out.2]; exact hlt
            obtain ⟨g0, off, rfl, hg0, hat, okA⟩ := HGQ.out k hkx
            have hls := HLK.out.2 k hkx
            have HRA : Hid (∀ yy, Below w3.heap.size w3 yy → yy.rangeAt g0 (off + k * 25) (bc (Kd.el T.ks[k]).k)) := fun yy hy => range_key (range_same hat (hy.block g0 hg0))
            have hls' : Op.bytesLess (Kd.el T.ks[k]).k F = false := hls
            clear hat hls
            have hls := hls'
            clear hls'
            generalize Kd.el T.ks[k] = e0 at *
            have hi1 : (Try.prog.info? 39).map (·.size) = some (bc e0.k).length := by rw [bc_length, okA.len]; exact Try.key_info
            have hi2 : (Try.prog.info? 39).map (·.size) = some (bc F).length := by rw [bc_length, HFL.out]; exact Try.key_info
            have HSS : Hid (∀ yy, FS w yy dk F [(w.heap.size, T, .slice ap N cp, .slice (some ⟨g0, off, none⟩) M cq)] [] [(T, .slice ap N cp, .slice (some ⟨g0, off, none⟩) M cq)] → Below w3.heap.size w3 yy → (FS w yy dk F [(w.heap.size, T, .slice ap N cp, .slice (some ⟨g0, off, none⟩) M cq)] [] [(T, .slice ap N cp, .slice (some ⟨g0, off, none⟩) M cq)] ∧ Below w3.heap.size w3 yy) ∧ yy.cell? ⟨w.heap.size, 2, none⟩ = some (.slice (some ⟨g0, off, none⟩) M cq) ∧ yy.rangeAt g0 (off + k * 25) (bc e0.k)) := fun yy h1 h2 => ⟨⟨h1, h2⟩, (h1.h.u (w.heap.size, T, _, _) List.mem_cons_self).cells.2.2, HRA.out yy h2⟩
            go_upto_region 14 with fail
            refine wp_region_noPanic ?_
            refine wp_region_held_drew (S := (fun yy => (FS w yy dk F [(w.heap.size, T, .slice ap N cp, .slice (some ⟨g0, off, none⟩) M cq)] [] [(T, .slice ap N cp, .slice (some ⟨g0, off, none⟩) M cq)] ∧ Below w3.heap.size w3 yy) ∧ yy.cell? ⟨w.heap.size, 2, none⟩ = some (.slice (some ⟨g0, off, none⟩) M cq) ∧ yy.rangeAt g0 (off + k * 25) (bc e0.k))) (by kernel_rfl) (HSS.out wr.drew HP.out.1.drew (below_drewN HP.out.2 1)) (fun hHeld => ?_)
            refine wpAnyH_take (i := 0) (v := ?_) rfl (by kernel_rfl) (by kernel_rfl) (by kernel_rfl) (fun _ _ _ h => h) (Or.inl ⟨by rfl, ?_⟩) hHeld ?_
            case refine_2 => (intro w hSw; (try dsimp only at hSw); obtain ⟨_, z1, z2⟩ := hSw; go_simp; try (with_reducible rfl))
            ((try simp only); (try simp only [List.getElem_toArray]); (try simp only [List.getElem_cons_succ]); (try simp only [List.getElem_cons_zero]); (try simp only [Act.put]); (try simp only [List.setIfInBounds_toArray]); (try simp only [List.set_cons_succ]); (try simp only [List.set_cons_zero]))
            refine wpAnyH_take (i := 1) (v := ?_) rfl (by kernel_rfl) (by kernel_rfl) (by kernel_rfl) (fun _ _ _ h => h) (Or.inl ⟨by rfl, ?_⟩) hHeld ?_
            case refine_2 => (intro w hSw; (try dsimp only at hSw); obtain ⟨_, z1, z2⟩ := hSw; go_simp; try (with_reducible rfl))
            ((try simp only); (try simp only [List.getElem_toArray]); (try simp only [List.getElem_cons_succ]); (try simp only [List.getElem_cons_zero]); (try simp only [Act.put]); (try simp only [List.setIfInBounds_toArray]); (try simp only [List.set_cons_succ]); (try simp only [List.set_cons_zero]))
            refine wpAnyH_take (i := 2) (v := ?_) rfl (by kernel_rfl) (by kernel_rfl) (by kernel_rfl) (fun _ _ _ h => h) (Or.inl ⟨by rfl, ?_⟩) hHeld ?_
            case refine_2 => (intro w hSw; (try dsimp only at hSw); obtain ⟨_, z1, z2⟩ := hSw; go_simp; try (with_reducible rfl))
            ((try simp only); (try simp only [List.getElem_toArray]); (try simp only [List.getElem_cons_succ]); (try simp only [List.getElem_cons_zero]); (try simp only [Act.put]); (try simp only [List.setIfInBounds_toArray]); (try simp only [List.set_cons_succ]); (try simp only [List.set_cons_zero]))
            refine wpAnyH_take (i := 3) (v := ?_) rfl (by kernel_rfl) (by kernel_rfl) (by kernel_rfl) (fun _ _ _ h => h) (Or.inl ⟨by rfl, ?_⟩) hHeld ?_
            case refine_2 => (intro w hSw; (try dsimp only at hSw); obtain ⟨_, z1, z2⟩ := hSw; go_simp; try (with_reducible rfl))
            ((try simp only); (try simp only [List.getElem_toArray]); (try simp only [List.getElem_cons_succ]); (try simp only [List.getElem_cons_zero]); (try simp only [Act.put]); (try simp only [List.setIfInBounds_toArray]); (try simp only [List.set_cons_succ]); (try simp only [List.set_cons_zero]))
            refine wpAnyH_take (i := 4) (v := ?_) rfl (by kernel_rfl) (by kernel_rfl) (by kernel_rfl) (fun _ _ _ h => h) (Or.inl ⟨by rfl, ?_⟩) hHeld ?_
            case refine_2 => (intro w hSw; (try dsimp only at hSw); obtain ⟨_, z1, z2⟩ := hSw; go_simp; try (with_reducible rfl))
            ((try simp only); (try simp only [List.getElem_toArray]); (try simp only [List.getElem_cons_succ]); (try simp only [List.getElem_cons_zero]); (try simp only [Act.put]); (try simp only [List.setIfInBounds_toArray]); (try simp only [List.set_cons_succ]); (try simp only [List.set_cons_zero]))
            refine wpAnyH_take (i := 5) rfl (by kernel_rfl) (by kernel_rfl) (by kernel_rfl) (fun _ _ _ h => h) (yieldsIf_load_mid (by rfl) _ _ rfl g0 (off + k * 25) rfl _ _ (fun _ h => h.2.2) Try.underlying39 rfl hi1) hHeld ?_
            ((try simp only); (try simp only [List.getElem_toArray]); (try simp only [List.getElem_cons_succ]); (try simp only [List.getElem_cons_zero]); (try simp only [Act.put]); (try simp only [List.setIfInBounds_toArray]); (try simp only [List.set_cons_succ]); (try simp only [List.set_cons_zero]))
            refine wpAnyH_take (i := 6) rfl (by kernel_rfl) (by kernel_rfl) (by kernel_rfl) (fun _ _ _ h => h) (yieldsIf_load_mid (by rfl) _ _ rfl dk 0 rfl _ _ (fun _ h => h.1.1.k.range) Try.underlying39 rfl hi2) hHeld ?_
            ((try simp only); (try simp only [List.getElem_toArray]); (try simp only [List.getElem_cons_succ]); (try simp only [List.getElem_cons_zero]); (try simp only [Act.put]); (try simp only [List.setIfInBounds_toArray]); (try simp only [List.set_cons_succ]); (try simp only [List.set_cons_zero]))
            refine wpAnyH_ready (rs := [7]) (by kernel_rfl) (by simp) (AllReadyH.cons rfl (fun K hK => ?_) AllReadyH.nil)
            rw [if_pos (by rfl)]
            ((try simp only); (try simp only [List.getElem_toArray]); (try simp only [List.getElem_cons_succ]); (try simp only [List.getElem_cons_zero]); (try simp only [Act.put]); (try simp only [List.setIfInBounds_toArray]); (try simp only [List.set_cons_succ]); (try simp only [List.set_cons_zero]))
            go_simp
            refine (rless_calls _ e0.k F okA.len HFL.out).mono ?_
            rintro e y7 ⟨rfl, b7⟩
            rw [hls]
            refine hK.out _ _ (HSS.out _ (hHeld.1.1.called b7) (hHeld.1.2.trans (b7.mono hHeld.1.2.size))) (fun g7 => ?_)
            clear hK K
            ((try simp only); (try simp only [List.getElem_toArray]); (try simp only [List.getElem_cons_succ]); (try simp only [List.getElem_cons_zero]); (try simp only [Act.put]); (try simp only [List.setIfInBounds_toArray]); (try simp only [List.set_cons_succ]); (try simp only [List.set_cons_zero]))
            refine wpAnyH_done (by kernel_rfl) ?_ _
            refine NoPanic.normal ?_
            go_wp2_with fail
            go_roundg g
            case measure => omega
            case rel => exact ⟨k + 1, by omega, by go_num, g7.1⟩
          | zero =>
            have hkN : ¬ (k : Int) < (M : Int) := by omega
            clear hkg
            go_upto_region 16 with fail
            have FF := HP.out.1
            clear HP c0 c1 c2 HGP HGQ HLK
            have u5 := FF.h.u (w.heap.size, T, .slice ap N cp, .slice aq M cq) (by simp)
            have hB := bytes_nod (FF.h.s (T, .slice ap N cp, .slice aq M cq) (by simp))
            rw [HRR.out] at hB
            have HL : Hid ((enc T).length = 512) := HF.out.enc HKT.out
            go_upto_region 17 with (first
              | (refine load_node _ rfl w.heap.size rfl rfl _ _ _ u5 ?_)
              | (go_at_call 11; refine hB.mono ?_; rintro e w5 ⟨b5, ⟨hf, _⟩ | ⟨_, a5, c5, rfl, _, by5⟩⟩; · cases hf))
            have F5 := FF.called b5
            clear FF u5 hB b5
            have hO := of_byt by5 (by rw [HL.out]; decide)
            rw [of_enc T HKT.out HRR.out] at hO
            clear by5
            go_upto_region 18 with (first
              | (go_at_call 13; refine hO.mono ?_; rintro e w6 ⟨pv6, qv6, rfl, pa6, b6⟩)
              | (refine store_node rfl _ _ rfl w6.heap.size rfl T pv6 qv6 rfl pa6.p.one pa6.q.one nilN (.slice none 0 0) (.slice none 0 0) (HasN.new w6 nilN _ _ _ rfl rfl rfl) ?_; intro x6 hu6 tx6 sx6))
            have F6 : FS w x6 dk F [(w6.heap.size, T, pv6, qv6), (w.heap.size, T, .slice ap N cp, .slice aq M cq)] [] [(T, pv6, qv6), (T, .slice ap N cp, .slice aq M cq)] := ⟨((F5.h.called b6).addS pa6).stored hu6 tx6, ((F5.called b6).called (step_below (Below.refl _ w6) _ tx6)).k⟩
            clear F5 hO b6 pa6 hu6 tx6 sx6
            generalize w6.heap.size = d6 at *
            have hC := CT.out x6 (F6.h.s (T, .slice ap N cp, .slice aq M cq) (by simp))
            have u6 := F6.h.u (w.heap.size, T, .slice ap N cp, .slice aq M cq) (by simp)
            go_upto_region 19 with (first
              | (refine load_node _ rfl w.heap.size rfl rfl _ _ _ u6 ?_)
              | (go_at_call 10; refine hC.mono ?_; rintro e w7 ⟨p7, q7, rfl, ep7, eq7, b7⟩)
              | (refine store_node rfl _ _ rfl w7.heap.size rfl T p7 q7 rfl ep7.els.one eq7.els.one nilN (.slice none 0 0) (.slice none 0 0) (HasN.new w7 nilN _ _ _ rfl rfl rfl) ?_; intro x7 hu7 tx7 sx7))
            have sb7 := step_below (Below.refl _ w7) _ tx7
            have b67 : Below x6.heap.size x6 x7 := b7.trans (sb7.mono b7.size)
            have EP7 : Hid (ElsN x7 p7 (T.ps.map Pr.el) x6.heap.size) := ep7.kept (fun k hk hl => sb7.block k hl) sb7.size
            have EQ7 : Hid (ElsN x7 q7 (T.ks.map Kd.el) x6.heap.size) := eq7.kept (fun k hk hl => sb7.block k hl) sb7.size
            have HE7 : Hid (ElsN w7 p7 (T.ps.map Pr.el) x6.heap.size ∧ ElsN w7 q7 (T.ks.map Kd.el) x6.heap.size) := ⟨ep7, eq7⟩
            have g7x : w7.heap.size < x7.heap.size := hu7.lt
            have g67 : x6.heap.size ≤ w7.heap.size := b7.size
            have N7 := hu7
            have hx6 : w.heap.size < x6.heap.size := u6.lt
            clear hC ep7 eq7 b7 hu7 tx7 sx7 sb7 CT
            have m1 := and65535 at_
            have u7 := (F6.called b67).h.u (w.heap.size, T, .slice ap N cp, .slice aq M cq) (by simp)
            obtain ⟨k0, k1, k2⟩ := u7.cells
            simp only at k0 k1 k2
            clear u6 u7
            rcases HF.out.one with ⟨hz, hks, hps⟩ | ⟨hz, hps, hks⟩
            · have hM0 : M = 0 := by have := HNM.out.2; rw [hks] at this; simpa using this.symm
              have hN1 : 1 ≤ N := by have := HNM.out.1; omega
              subst hM0
              have hpos : (0 : Int) < (N : Int) := by omega
              have hD0 : ((N : Int) == 0) = false := by simp; omega
              have hD1 : ¬ (N : Int) = 0 := by omega
              obtain ⟨j, hj⟩ : ∃ j : Nat, (at_ % 65536) % (N : Int) = (j : Int) := ⟨((at_ % 65536) % (N : Int)).toNat, by have := Int.emod_nonneg (at_ % 65536) hD1; omega⟩
              have hjD : j < N := by have := Int.emod_lt_of_pos (at_ % 65536) (show (0 : Int) < (N : Int) by omega); omega
              have m2 : Int.tmod (at_ % 65536) (N : Int) = (j : Int) := by rw [Int.tmod_eq_emod_of_nonneg (by omega)]; exact hj
              have hjI : (j : Int) < (N : Int) := by omega
              have hj0 : (0 : Int) ≤ (j : Int) := by omega
              have HJL : Hid (j < T.ps.length) := (show _ < _ by rw [HNM.out.1]; exact hjD)
              clear hj
              obtain ⟨g7, o7, c7, e7, R7, r7a, r7b, r7c, r7d⟩ := elsN_row EP7.out (by simp; have := HJL.out; omega)
              obtain ⟨r7e, r7f⟩ := elsN_lt HE7.out.1 (by simp; have := HJL.out; omega) e7
              simp only [List.length_map, HNM.out.1] at e7 R7 r7c r7d
              subst e7
              have hjm : j < (T.ps.map Pr.el).length := by simp; exact HJL.out
              have hq7 := N7.cells.2.1
              have hv : x7.cell? ⟨g7, o7 + j * 25 + 24, none⟩ = some ((T.ps.map Pr.el)[j]).v := range_val (R7.el j hjm) (R7.ok j hjm)
              have hv' : x7.cell? ⟨g7, o7 + j * 25 + 24, none⟩ = some (.string (T.ps[j]'HJL.out).s) := by rw [hv, List.getElem_map]; rfl
              have hth := R7.th (j * 25 + 24) (by have : (j + 1) * 25 ≤ N * 25 := Nat.mul_le_mul_right 25 (by omega); omega)
              rw [← Nat.add_assoc] at hth
              have hfz := hth.2
              clear hv hth
              have RE : RowAt (x7.setCell ⟨g7, o7 + j * 25 + 24, none⟩ (.string ((T.ps[j]'HJL.out).s ++ (⟨#[63]⟩ : ByteArray)))).drew g7 o7 N ((T.ps.map Pr.el).set j ⟨((T.ps.map Pr.el)[j]).k, .string ((T.ps[j]'HJL.out).s ++ (⟨#[63]⟩ : ByteArray))⟩) := (R7.setv j hjm (.string ((T.ps[j]'HJL.out).s ++ (⟨#[63]⟩ : ByteArray))) rfl).same rfl (Nat.le_refl _)
              have eO : (T.ps.map Pr.el).set j ⟨((T.ps.map Pr.el)[j]).k, .string ((T.ps[j]'HJL.out).s ++ (⟨#[63]⟩ : ByteArray))⟩ = (T.ps.set j ⟨(T.ps[j]'HJL.out).k, (T.ps[j]'HJL.out).s ++ (⟨#[63]⟩ : ByteArray)⟩).map Pr.el := by
                rw [List.map_set]
                congr 1
                rw [List.getElem_map]
                rfl
              rw [eO] at RE
              have HNE : Hid (¬ T = ⟨T.lv, T.ps.set j ⟨(T.ps[j]'HJL.out).k, (T.ps[j]'HJL.out).s ++ (⟨#[63]⟩ : ByteArray)⟩, T.ks⟩) := (fun e => set_ne T.ps j HJL.out _ (fun q => str_more _ (congrArg Pr.s q)) (congrArg Nod.ps e))
              have NO : HasN (x7.setCell ⟨g7, o7 + j * 25 + 24, none⟩ (.string ((T.ps[j]'HJL.out).s ++ (⟨#[63]⟩ : ByteArray)))).drew w7.heap.size ⟨T.lv, T.ps.set j ⟨(T.ps[j]'HJL.out).k, (T.ps[j]'HJL.out).s ++ (⟨#[63]⟩ : ByteArray)⟩, T.ks⟩ (.slice (some ⟨g7, o7, none⟩) N c7) q7 := (N7.touch (touch_set x7 g7 _ _).drew (by omega)).re _ rfl
              have PO : Parts (x7.setCell ⟨g7, o7 + j * 25 + 24, none⟩ (.string ((T.ps[j]'HJL.out).s ++ (⟨#[63]⟩ : ByteArray)))).drew ⟨T.lv, T.ps.set j ⟨(T.ps[j]'HJL.out).k, (T.ps[j]'HJL.out).s ++ (⟨#[63]⟩ : ByteArray)⟩, T.ks⟩ (.slice (some ⟨g7, o7, none⟩) N c7) q7 := ⟨RE.els r7c r7d, by rw [hks]; exact els_empty EQ7.out (by rw [hks]; rfl)⟩
              have B8 : Below x6.heap.size x6 (x7.setCell ⟨g7, o7 + j * 25 + 24, none⟩ (.string ((T.ps[j]'HJL.out).s ++ (⟨#[63]⟩ : ByteArray)))).drew := below_drewN (b67.setCell (by simp; omega) _) 1
              have F9 := (⟨((F6.called B8).h.addU NO).addS PO, (F6.called B8).k⟩ : FS w _ dk F _ _ _)
              clear RE eO NO PO B8 R7 hz hks hps k0
              generalize (⟨T.lv, T.ps.set j ⟨(T.ps[j]'HJL.out).k, (T.ps[j]'HJL.out).s ++ (⟨#[63]⟩ : ByteArray)⟩, T.ks⟩ : Nod) = O at *
              have HSJ : Hid ((T.ps[j]'HJL.out).s.size ≤ 40) := HF.out.vs _ (List.getElem_mem HJL.out)
              generalize (T.ps[j]'HJL.out).s = sj at *
              go_upto_region 22 with fail
              refine wp_region_noPanic ?_
              refine wp_region_held_drew (S := (fun yy => yy.cell? ⟨w7.heap.size, 1, none⟩ = some (.slice (some ⟨g7, o7, none⟩) N c7))) (by kernel_rfl) hq7 (fun hHeld => ?_)
              refine wpAnyH_take (i := 0) (v := ?_) rfl (by kernel_rfl) (by kernel_rfl) (by kernel_rfl) (fun _ _ _ h => h) (Or.inl ⟨by rfl, ?_⟩) hHeld ?_
              case refine_2 => (intro w hSw; (try dsimp only at hSw); go_simp; try (with_reducible rfl))
              ((try simp only); (try simp only [List.getElem_toArray]); (try simp only [List.getElem_cons_succ]); (try simp only [List.getElem_cons_zero]); (try simp only [Act.put]); (try simp only [List.setIfInBounds_toArray]); (try simp only [List.set_cons_succ]); (try simp only [List.set_cons_zero]))
              refine wpAnyH_take (i := 1) (v := ?_) rfl (by kernel_rfl) (by kernel_rfl) (by kernel_rfl) (fun _ _ _ h => h) (Or.inl ⟨by rfl, ?_⟩) hHeld ?_
              case refine_2 => (intro w hSw; (try dsimp only at hSw); go_simp; try (with_reducible rfl))
              ((try simp only); (try simp only [List.getElem_toArray]); (try simp only [List.getElem_cons_succ]); (try simp only [List.getElem_cons_zero]); (try simp only [Act.put]); (try simp only [List.setIfInBounds_toArray]); (try simp only [List.set_cons_succ]); (try simp only [List.set_cons_zero]))
              refine wpAnyH_take (i := 2) (v := ?_) rfl (by kernel_rfl) (by kernel_rfl) (by kernel_rfl) (fun _ _ _ h => h) (Or.inl ⟨by rfl, ?_⟩) hHeld ?_
              case refine_2 => (intro w hSw; (try dsimp only at hSw); go_simp; try (with_reducible rfl))
              ((try simp only); (try simp only [List.getElem_toArray]); (try simp only [List.getElem_cons_succ]); (try simp only [List.getElem_cons_zero]); (try simp only [Act.put]); (try simp only [List.setIfInBounds_toArray]); (try simp only [List.set_cons_succ]); (try simp only [List.set_cons_zero]))
              refine wpAnyH_take (i := 3) (v := ?_) rfl (by kernel_rfl) (by kernel_rfl) (by kernel_rfl) (fun _ _ _ h => h) (Or.inl ⟨by rfl, ?_⟩) hHeld ?_
              case refine_2 => (intro w hSw; (try dsimp only at hSw); go_simp; try (with_reducible rfl))
              ((try simp only); (try simp only [List.getElem_toArray]); (try simp only [List.getElem_cons_succ]); (try simp only [List.getElem_cons_zero]); (try simp only [Act.put]); (try simp only [List.setIfInBounds_toArray]); (try simp only [List.set_cons_succ]); (try simp only [List.set_cons_zero]))
              refine wpAnyH_take (i := 4) (v := ?_) rfl (by kernel_rfl) (by kernel_rfl) (by kernel_rfl) (fun _ _ _ h => h) (Or.inl ⟨by rfl, ?_⟩) hHeld ?_
              case refine_2 => (intro w hSw; (try dsimp only at hSw); go_simp; try (with_reducible rfl))
              ((try simp only); (try simp only [List.getElem_toArray]); (try simp only [List.getElem_cons_succ]); (try simp only [List.getElem_cons_zero]); (try simp only [Act.put]); (try simp only [List.setIfInBounds_toArray]); (try simp only [List.set_cons_succ]); (try simp only [List.set_cons_zero]))
              refine wpAnyH_take (i := 5) (v := ?_) rfl (by kernel_rfl) (by kernel_rfl) (by kernel_rfl) (fun _ _ _ h => h) (Or.inl ⟨by rfl, ?_⟩) hHeld ?_
              case refine_2 => (intro w hSw; (try dsimp only at hSw); go_simp; try (with_reducible rfl))
              ((try simp only); (try simp only [List.getElem_toArray]); (try simp only [List.getElem_cons_succ]); (try simp only [List.getElem_cons_zero]); (try simp only [Act.put]); (try simp only [List.setIfInBounds_toArray]); (try simp only [List.set_cons_succ]); (try simp only [List.set_cons_zero]))
              refine wpAnyH_take (i := 6) (v := ?_) rfl (by kernel_rfl) (by kernel_rfl) (by kernel_rfl) (fun _ _ _ h => h) (Or.inl ⟨by rfl, ?_⟩) hHeld ?_
              case refine_2 => (intro w hSw; (try dsimp only at hSw); go_simp; try (with_reducible rfl))
              ((try simp only); (try simp only [List.getElem_toArray]); (try simp only [List.getElem_cons_succ]); (try simp only [List.getElem_cons_zero]); (try simp only [Act.put]); (try simp only [List.setIfInBounds_toArray]); (try simp only [List.set_cons_succ]); (try simp only [List.set_cons_zero]))
              refine wpAnyH_take (i := 7) (v := ?_) rfl (by kernel_rfl) (by kernel_rfl) (by kernel_rfl) (fun _ _ _ h => h) (Or.inl ⟨by rfl, ?_⟩) hHeld ?_
              case refine_2 => (intro w hSw; (try dsimp only at hSw); go_simp; try (with_reducible rfl))
              ((try simp only); (try simp only [List.getElem_toArray]); (try simp only [List.getElem_cons_succ]); (try simp only [List.getElem_cons_zero]); (try simp only [Act.put]); (try simp only [List.setIfInBounds_toArray]); (try simp only [List.set_cons_succ]); (try simp only [List.set_cons_zero]))
              have hvd : x7.drew.cell? ⟨g7, o7 + j * 25 + 24, none⟩ = some (.string sj) := hv'
              have hfd : x7.drew.frozen? ⟨g7, o7 + j * 25 + 24, none⟩ = false := hfz
              refine wpAnyH_ready (rs := [8]) (by kernel_rfl) (by simp) (AllReadyH.cons rfl (fun K hK => ?_) AllReadyH.nil)
              rw [if_pos (by rfl)]
              ((try simp only); (try simp only [List.getElem_toArray]); (try simp only [List.getElem_cons_succ]); (try simp only [List.getElem_cons_zero]); (try simp only [Act.put]); (try simp only [List.setIfInBounds_toArray]); (try simp only [List.set_cons_succ]); (try simp only [List.set_cons_zero]))
              go_simp
              refine hK.out _ _ hHeld (fun g8 => ?_)
              clear hK K
              ((try simp only); (try simp only [List.getElem_toArray]); (try simp only [List.getElem_cons_succ]); (try simp only [List.getElem_cons_zero]); (try simp only [Act.put]); (try simp only [List.setIfInBounds_toArray]); (try simp only [List.set_cons_succ]); (try simp only [List.set_cons_zero]))
              refine wpAnyH_take (i := 9) (v := .string (sj ++ (⟨#[63]⟩ : ByteArray))) rfl (by kernel_rfl) (by kernel_rfl) (by kernel_rfl) (fun _ _ _ h => h) (Or.inl ⟨by rfl, ?_⟩) g8 ?_
              case refine_1 => (intro w hSw; go_simp; have hq := HSJ.out; omega)
              ((try simp only); (try simp only [List.getElem_toArray]); (try simp only [List.getElem_cons_succ]); (try simp only [List.getElem_cons_zero]); (try simp only [Act.put]); (try simp only [List.setIfInBounds_toArray]); (try simp only [List.set_cons_succ]); (try simp only [List.set_cons_zero]))
              refine wpAnyH_take (i := 10) (v := ?_) rfl (by kernel_rfl) (by kernel_rfl) (by kernel_rfl) (fun _ _ _ h => h) (Or.inl ⟨by rfl, ?_⟩) g8 ?_
              case refine_2 => (intro w hSw; (try dsimp only at hSw); go_simp; try (with_reducible rfl))
              ((try simp only); (try simp only [List.getElem_toArray]); (try simp only [List.getElem_cons_succ]); (try simp only [List.getElem_cons_zero]); (try simp only [Act.put]); (try simp only [List.setIfInBounds_toArray]); (try simp only [List.set_cons_succ]); (try simp only [List.set_cons_zero]))
              refine wpAnyH_take (i := 11) (v := ?_) rfl (by kernel_rfl) (by kernel_rfl) (by kernel_rfl) (fun _ _ _ h => h) (Or.inl ⟨by rfl, ?_⟩) g8 ?_
              case refine_2 => (intro w hSw; (try dsimp only at hSw); go_simp; try (with_reducible rfl))
              ((try simp only); (try simp only [List.getElem_toArray]); (try simp only [List.getElem_cons_succ]); (try simp only [List.getElem_cons_zero]); (try simp only [Act.put]); (try simp only [List.setIfInBounds_toArray]); (try simp only [List.set_cons_succ]); (try simp only [List.set_cons_zero]))
              refine wpAnyH_ready (rs := [12]) (by kernel_rfl) (by simp) (AllReadyH.cons rfl (fun K hK => ?_) AllReadyH.nil)
              rw [if_pos (by rfl)]
              ((try simp only); (try simp only [List.getElem_toArray]); (try simp only [List.getElem_cons_succ]); (try simp only [List.getElem_cons_zero]); (try simp only [Act.put]); (try simp only [List.setIfInBounds_toArray]); (try simp only [List.set_cons_succ]); (try simp only [List.set_cons_zero]))
              go_simp
              have T9 : Touch g7 none x7 (x7.setCell ⟨g7, o7 + j * 25 + 24, none⟩ (.string (sj ++ (⟨#[63]⟩ : ByteArray)))).drew := (touch_set x7 g7 _ _).drew
              refine hK.out _ _ ((World.cell?_of_block (T9.block w7.heap.size (by omega) (by omega) (by simp))).trans hq7) (fun g9 => ?_)
              clear hK K
              ((try simp only); (try simp only [List.getElem_toArray]); (try simp only [List.getElem_cons_succ]); (try simp only [List.getElem_cons_zero]); (try simp only [Act.put]); (try simp only [List.setIfInBounds_toArray]); (try simp only [List.set_cons_succ]); (try simp only [List.set_cons_zero]))
              generalize (x7.setCell ⟨g7, o7 + j * 25 + 24, none⟩ (.string (sj ++ (⟨#[63]⟩ : ByteArray)))).drew = y8 at *
              refine wpAnyH_done (by kernel_rfl) ?_ _
              refine NoPanic.normal ?_
              clear g8 g9 hHeld T9 hvd hfd
              go_upto_region 26 with fail
              have ec6 : codeN (some T) = 0 := rfl
              have hi2 : (Try.prog.info? 39).map (·.size) = some (bc F).length := by rw [bc_length, HFL.out]; exact Try.key_info
              refine wp_region_noPanic ?_
              refine wp_region_held_drew (S := (fun yy => FS w yy dk F [(w7.heap.size, O, .slice (some ⟨g7, o7, none⟩) N c7, q7), (d6, T, pv6, qv6), (w.heap.size, T, .slice ap N cp, .slice aq 0 cq)] [] [(O, .slice (some ⟨g7, o7, none⟩) N c7, q7), (T, pv6, qv6), (T, .slice ap N cp, .slice aq 0 cq)])) (by kernel_rfl) F9.drew (fun hHeld => ?_)
              refine wpAnyH_take (i := 0) (v := ?_) rfl (by kernel_rfl) (by kernel_rfl) (by kernel_rfl) (fun _ _ _ h => h) (Or.inl ⟨by rfl, ?_⟩) hHeld ?_
              case refine_2 => (intro w hSw; (try dsimp only at hSw); go_simp; try (with_reducible rfl))
              ((try simp only); (try simp only [List.getElem_toArray]); (try simp only [List.getElem_cons_succ]); (try simp only [List.getElem_cons_zero]); (try simp only [Act.put]); (try simp only [List.setIfInBounds_toArray]); (try simp only [List.set_cons_succ]); (try simp only [List.set_cons_zero]))
              refine wpAnyH_take (i := 1) (v := ?_) rfl (by kernel_rfl) (by kernel_rfl) (by kernel_rfl) (fun _ _ _ h => h) (Or.inl ⟨by rfl, ?_⟩) hHeld ?_
              case refine_2 => (intro w hSw; (try dsimp only at hSw); go_simp; try (with_reducible rfl))
              ((try simp only); (try simp only [List.getElem_toArray]); (try simp only [List.getElem_cons_succ]); (try simp only [List.getElem_cons_zero]); (try simp only [Act.put]); (try simp only [List.setIfInBounds_toArray]); (try simp only [List.set_cons_succ]); (try simp only [List.set_cons_zero]))
              refine wpAnyH_take (i := 2) (v := ?_) rfl (by kernel_rfl) (by kernel_rfl) (by kernel_rfl) (fun _ _ _ h => h) (Or.inl ⟨by rfl, ?_⟩) hHeld ?_
              case refine_2 => (intro w hSw; (try dsimp only at hSw); go_simp; try (with_reducible rfl))
              ((try simp only); (try simp only [List.getElem_toArray]); (try simp only [List.getElem_cons_succ]); (try simp only [List.getElem_cons_zero]); (try simp only [Act.put]); (try simp only [List.setIfInBounds_toArray]); (try simp only [List.set_cons_succ]); (try simp only [List.set_cons_zero]))
              refine wpAnyH_take (i := 3) (v := ?_) rfl (by kernel_rfl) (by kernel_rfl) (by kernel_rfl) (fun _ _ _ h => h) (Or.inl ⟨by rfl, ?_⟩) hHeld ?_
              case refine_2 => (intro w hSw; (try dsimp only at hSw); go_simp; try (with_reducible rfl))
              ((try simp only); (try simp only [List.getElem_toArray]); (try simp only [List.getElem_cons_succ]); (try simp only [List.getElem_cons_zero]); (try simp only [Act.put]); (try simp only [List.setIfInBounds_toArray]); (try simp only [List.set_cons_succ]); (try simp only [List.set_cons_zero]))
              refine wpAnyH_take (i := 4) (v := ?_) rfl (by kernel_rfl) (by kernel_rfl) (by kernel_rfl) (fun _ _ _ h => h) (Or.inl ⟨by rfl, ?_⟩) hHeld ?_
              case refine_2 => (intro w hSw; (try dsimp only at hSw); go_simp; try (with_reducible rfl))
              ((try simp only); (try simp only [List.getElem_toArray]); (try simp only [List.getElem_cons_succ]); (try simp only [List.getElem_cons_zero]); (try simp only [Act.put]); (try simp only [List.setIfInBounds_toArray]); (try simp only [List.set_cons_succ]); (try simp only [List.set_cons_zero]))
              refine wpAnyH_take (i := 5) (v := ?_) rfl (by kernel_rfl) (by kernel_rfl) (by kernel_rfl) (fun _ _ _ h => h) (Or.inl ⟨by rfl, ?_⟩) hHeld ?_
              case refine_2 => (intro w hSw; (try dsimp only at hSw); go_simp; try (with_reducible rfl))
              ((try simp only); (try simp only [List.getElem_toArray]); (try simp only [List.getElem_cons_succ]); (try simp only [List.getElem_cons_zero]); (try simp only [Act.put]); (try simp only [List.setIfInBounds_toArray]); (try simp only [List.set_cons_succ]); (try simp only [List.set_cons_zero]))
              refine wpAnyH_take (i := 6) (v := ?_) rfl (by kernel_rfl) (by kernel_rfl) (by kernel_rfl) (fun _ _ _ h => h) (Or.inl ⟨by rfl, ?_⟩) hHeld ?_
              case refine_2 => (intro w hSw; (try dsimp only at hSw); go_simp; try (with_reducible rfl))
              ((try simp only); (try simp only [List.getElem_toArray]); (try simp only [List.getElem_cons_succ]); (try simp only [List.getElem_cons_zero]); (try simp only [Act.put]); (try simp only [List.setIfInBounds_toArray]); (try simp only [List.set_cons_succ]); (try simp only [List.set_cons_zero]))
              refine wpAnyH_take (i := 7) (v := ?_) rfl (by kernel_rfl) (by kernel_rfl) (by kernel_rfl) (fun _ _ _ h => h) (Or.inl ⟨by rfl, ?_⟩) hHeld ?_
              case refine_2 => (intro w hSw; (try dsimp only at hSw); go_simp; try (with_reducible rfl))
              ((try simp only); (try simp only [List.getElem_toArray]); (try simp only [List.getElem_cons_succ]); (try simp only [List.getElem_cons_zero]); (try simp only [Act.put]); (try simp only [List.setIfInBounds_toArray]); (try simp only [List.set_cons_succ]); (try simp only [List.set_cons_zero]))
              refine wpAnyH_take (i := 8) (v := ?_) rfl (by kernel_rfl) (by kernel_rfl) (by kernel_rfl) (fun _ _ _ h => h) (Or.inl ⟨by rfl, ?_⟩) hHeld ?_
              case refine_2 => (intro w hSw; (try dsimp only at hSw); go_simp; try (with_reducible rfl))
              ((try simp only); (try simp only [List.getElem_toArray]); (try simp only [List.getElem_cons_succ]); (try simp only [List.getElem_cons_zero]); (try simp only [Act.put]); (try simp only [List.setIfInBounds_toArray]); (try simp only [List.set_cons_succ]); (try simp only [List.set_cons_zero]))
              refine wpAnyH_take (i := 9) (v := ?_) rfl (by kernel_rfl) (by kernel_rfl) (by kernel_rfl) (fun _ _ _ h => h) (Or.inl ⟨by rfl, ?_⟩) hHeld ?_
              case refine_2 => (intro w hSw; (try dsimp only at hSw); go_simp; try (with_reducible rfl))
              ((try simp only); (try simp only [List.getElem_toArray]); (try simp only [List.getElem_cons_succ]); (try simp only [List.getElem_cons_zero]); (try simp only [Act.put]); (try simp only [List.setIfInBounds_toArray]); (try simp only [List.set_cons_succ]); (try simp only [List.set_cons_zero]))
              refine wpAnyH_take (i := 10) rfl (by kernel_rfl) (by kernel_rfl) (by kernel_rfl) (fun _ _ _ h => h) (yieldsIf_load_mid (by rfl) _ _ rfl _ _ rfl _ _ (fun _ h => (h.h.u (w.heap.size, T, .slice ap N cp, .slice aq 0 cq) (by simp)).range) Try.underlying25 rfl Try.node_info) hHeld ?_
              ((try simp only); (try simp only [List.getElem_toArray]); (try simp only [List.getElem_cons_succ]); (try simp only [List.getElem_cons_zero]); (try simp only [Act.put]); (try simp only [List.setIfInBounds_toArray]); (try simp only [List.set_cons_succ]); (try simp only [List.set_cons_zero]))
              refine wpAnyH_take (i := 11) rfl (by kernel_rfl) (by kernel_rfl) (by kernel_rfl) (fun _ _ _ h => h) (yieldsIf_load_mid (by rfl) _ _ rfl _ _ rfl _ _ (fun _ h => (h.h.u (d6, T, pv6, qv6) (by simp)).range) Try.underlying25 rfl Try.node_info) hHeld ?_
              ((try simp only); (try simp only [List.getElem_toArray]); (try simp only [List.getElem_cons_succ]); (try simp only [List.getElem_cons_zero]); (try simp only [Act.put]); (try simp only [List.setIfInBounds_toArray]); (try simp only [List.set_cons_succ]); (try simp only [List.set_cons_zero]))
              refine wpAnyH_ready (rs := [12]) (by kernel_rfl) (by simp) (AllReadyH.cons rfl (fun K hK => ?_) AllReadyH.nil)
              rw [if_pos (by rfl)]
              ((try simp only); (try simp only [List.getElem_toArray]); (try simp only [List.getElem_cons_succ]); (try simp only [List.getElem_cons_zero]); (try simp only [Act.put]); (try simp only [List.setIfInBounds_toArray]); (try simp only [List.set_cons_succ]); (try simp only [List.set_cons_zero]))
              go_simp
              have hcc := nsame_calls _ _ _ _ _ _ _ (hHeld.h.s (T, .slice ap N cp, .slice aq 0 cq) (by simp)) (hHeld.h.s (T, pv6, qv6) (by simp))
              rw [show decide (T = T) = true from decide_eq_true rfl] at hcc
              refine hcc.mono ?_
              rintro e z1 ⟨rfl, bz1⟩
              refine hK.out _ _ (hHeld.called bz1) (fun gz1 => ?_)
              clear hK K
              ((try simp only); (try simp only [List.getElem_toArray]); (try simp only [List.getElem_cons_succ]); (try simp only [List.getElem_cons_zero]); (try simp only [Act.put]); (try simp only [List.setIfInBounds_toArray]); (try simp only [List.set_cons_succ]); (try simp only [List.set_cons_zero]))
              clear hcc
              refine wpAnyH_take (i := 13) (v := ?_) rfl (by kernel_rfl) (by kernel_rfl) (by kernel_rfl) (fun _ _ _ h => h) (Or.inl ⟨by rfl, ?_⟩) gz1 ?_
              case refine_2 => (intro w hSw; (try dsimp only at hSw); go_simp; try (with_reducible rfl))
              ((try simp only); (try simp only [List.getElem_toArray]); (try simp only [List.getElem_cons_succ]); (try simp only [List.getElem_cons_zero]); (try simp only [Act.put]); (try simp only [List.setIfInBounds_toArray]); (try simp only [List.set_cons_succ]); (try simp only [List.set_cons_zero]))
              refine wpAnyH_take (i := 14) (v := ?_) rfl (by kernel_rfl) (by kernel_rfl) (by kernel_rfl) (fun _ _ _ h => h) (Or.inl ⟨by rfl, ?_⟩) gz1 ?_
              case refine_2 => (intro w hSw; (try dsimp only at hSw); go_simp; try (with_reducible rfl))
              ((try simp only); (try simp only [List.getElem_toArray]); (try simp only [List.getElem_cons_succ]); (try simp only [List.getElem_cons_zero]); (try simp only [Act.put]); (try simp only [List.setIfInBounds_toArray]); (try simp only [List.set_cons_succ]); (try simp only [List.set_cons_zero]))
              refine wpAnyH_take (i := 15) rfl (by kernel_rfl) (by kernel_rfl) (by kernel_rfl) (fun _ _ _ h => h) (yieldsIf_load_mid (by rfl) _ _ rfl _ _ rfl _ _ (fun _ h => (h.h.u (d6, T, pv6, qv6) (by simp)).range) Try.underlying25 rfl Try.node_info) gz1 ?_
              ((try simp only); (try simp only [List.getElem_toArray]); (try simp only [List.getElem_cons_succ]); (try simp only [List.getElem_cons_zero]); (try simp only [Act.put]); (try simp only [List.setIfInBounds_toArray]); (try simp only [List.set_cons_succ]); (try simp only [List.set_cons_zero]))
              refine wpAnyH_take (i := 16) rfl (by kernel_rfl) (by kernel_rfl) (by kernel_rfl) (fun _ _ _ h => h) (yieldsIf_load_mid (by rfl) _ _ rfl _ _ rfl _ _ (fun _ h => (h.h.u (w.heap.size, T, .slice ap N cp, .slice aq 0 cq) (by simp)).range) Try.underlying25 rfl Try.node_info) gz1 ?_
              ((try simp only); (try simp only [List.getElem_toArray]); (try simp only [List.getElem_cons_succ]); (try simp only [List.getElem_cons_zero]); (try simp only [Act.put]); (try simp only [List.setIfInBounds_toArray]); (try simp only [List.set_cons_succ]); (try simp only [List.set_cons_zero]))
              refine wpAnyH_ready (rs := [17]) (by kernel_rfl) (by simp) (AllReadyH.cons rfl (fun K hK => ?_) AllReadyH.nil)
              rw [if_pos (by rfl)]
              ((try simp only); (try simp only [List.getElem_toArray]); (try simp only [List.getElem_cons_succ]); (try simp only [List.getElem_cons_zero]); (try simp only [Act.put]); (try simp only [List.setIfInBounds_toArray]); (try simp only [List.set_cons_succ]); (try simp only [List.set_cons_zero]))
              go_simp
              have hcc := nsame_calls _ _ _ _ _ _ _ (gz1.h.s (T, pv6, qv6) (by simp)) (gz1.h.s (T, .slice ap N cp, .slice aq 0 cq) (by simp))
              rw [show decide (T = T) = true from decide_eq_true rfl] at hcc
              refine hcc.mono ?_
              rintro e z2 ⟨rfl, bz2⟩
              refine hK.out _ _ (gz1.called bz2) (fun gz2 => ?_)
              clear hK K
              ((try simp only); (try simp only [List.getElem_toArray]); (try simp only [List.getElem_cons_succ]); (try simp only [List.getElem_cons_zero]); (try simp only [Act.put]); (try simp only [List.setIfInBounds_toArray]); (try simp only [List.set_cons_succ]); (try simp only [List.set_cons_zero]))
              clear hcc
              refine wpAnyH_take (i := 18) (v := ?_) rfl (by kernel_rfl) (by kernel_rfl) (by kernel_rfl) (fun _ _ _ h => h) (Or.inl ⟨by rfl, ?_⟩) gz2 ?_
              case refine_2 => (intro w hSw; (try dsimp only at hSw); go_simp; try (with_reducible rfl))
              ((try simp only); (try simp only [List.getElem_toArray]); (try simp only [List.getElem_cons_succ]); (try simp only [List.getElem_cons_zero]); (try simp only [Act.put]); (try simp only [List.setIfInBounds_toArray]); (try simp only [List.set_cons_succ]); (try simp only [List.set_cons_zero]))
              refine wpAnyH_take (i := 19) (v := ?_) rfl (by kernel_rfl) (by kernel_rfl) (by kernel_rfl) (fun _ _ _ h => h) (Or.inl ⟨by rfl, ?_⟩) gz2 ?_
              case refine_2 => (intro w hSw; (try dsimp only at hSw); go_simp; try (with_reducible rfl))
              ((try simp only); (try simp only [List.getElem_toArray]); (try simp only [List.getElem_cons_succ]); (try simp only [List.getElem_cons_zero]); (try simp only [Act.put]); (try simp only [List.setIfInBounds_toArray]); (try simp only [List.set_cons_succ]); (try simp only [List.set_cons_zero]))
              refine wpAnyH_take (i := 20) rfl (by kernel_rfl) (by kernel_rfl) (by kernel_rfl) (fun _ _ _ h => h) (yieldsIf_load_mid (by rfl) _ _ rfl _ _ rfl _ _ (fun _ h => (h.h.u (d6, T, pv6, qv6) (by simp)).range) Try.underlying25 rfl Try.node_info) gz2 ?_
              ((try simp only); (try simp only [List.getElem_toArray]); (try simp only [List.getElem_cons_succ]); (try simp only [List.getElem_cons_zero]); (try simp only [Act.put]); (try simp only [List.setIfInBounds_toArray]); (try simp only [List.set_cons_succ]); (try simp only [List.set_cons_zero]))
              refine wpAnyH_take (i := 22) rfl (by kernel_rfl) (by kernel_rfl) (by kernel_rfl) (fun _ _ _ h => h) (yieldsIf_load_mid (by rfl) _ _ rfl dk 0 rfl _ _ (fun _ h => h.k.range) Try.underlying39 rfl hi2) gz2 ?_
              ((try simp only); (try simp only [List.getElem_toArray]); (try simp only [List.getElem_cons_succ]); (try simp only [List.getElem_cons_zero]); (try simp only [Act.put]); (try simp only [List.setIfInBounds_toArray]); (try simp only [List.set_cons_succ]); (try simp only [List.set_cons_zero]))
              refine wpAnyH_ready (rs := [21]) (by kernel_rfl) (by simp) (AllReadyH.cons rfl (fun K hK => ?_) AllReadyH.nil)
              rw [if_pos (by rfl)]
              ((try simp only); (try simp only [List.getElem_toArray]); (try simp only [List.getElem_cons_succ]); (try simp only [List.getElem_cons_zero]); (try simp only [Act.put]); (try simp only [List.setIfInBounds_toArray]); (try simp only [List.set_cons_succ]); (try simp only [List.set_cons_zero]))
              go_simp
              have hcc := first_calls _ _ _ _ (gz2.h.s (T, pv6, qv6) (by simp))
              rw [show firstN T = F from HFE.out] at hcc
              refine hcc.mono ?_
              rintro e z3 ⟨rfl, bz3⟩
              refine hK.out _ _ (gz2.called bz3) (fun gz3 => ?_)
              clear hK K
              ((try simp only); (try simp only [List.getElem_toArray]); (try simp only [List.getElem_cons_succ]); (try simp only [List.getElem_cons_zero]); (try simp only [Act.put]); (try simp only [List.setIfInBounds_toArray]); (try simp only [List.set_cons_succ]); (try simp only [List.set_cons_zero]))
              clear hcc
              refine wpAnyH_take (i := 23) (v := .bool true) rfl (by kernel_rfl) (by kernel_rfl) (by kernel_rfl) (fun _ _ _ h => h) (Or.inl ⟨by rfl, ?_⟩) gz3 ?_
              case refine_1 => (intro w hSw; have q := eq_key w F F HFL.out HFL.out; rw [show (F == F) = true from by simp] at q; go_simp; first | done | rfl | (simp; done))
              ((try simp only); (try simp only [List.getElem_toArray]); (try simp only [List.getElem_cons_succ]); (try simp only [List.getElem_cons_zero]); (try simp only [Act.put]); (try simp only [List.setIfInBounds_toArray]); (try simp only [List.set_cons_succ]); (try simp only [List.set_cons_zero]))
              refine wpAnyH_take (i := 24) (v := ?_) rfl (by kernel_rfl) (by kernel_rfl) (by kernel_rfl) (fun _ _ _ h => h) (Or.inl ⟨by rfl, ?_⟩) gz3 ?_
              case refine_2 => (intro w hSw; (try dsimp only at hSw); go_simp; try (with_reducible rfl))
              ((try simp only); (try simp only [List.getElem_toArray]); (try simp only [List.getElem_cons_succ]); (try simp only [List.getElem_cons_zero]); (try simp only [Act.put]); (try simp only [List.setIfInBounds_toArray]); (try simp only [List.set_cons_succ]); (try simp only [List.set_cons_zero]))
              refine wpAnyH_take (i := 25) (v := ?_) rfl (by kernel_rfl) (by kernel_rfl) (by kernel_rfl) (fun _ _ _ h => h) (Or.inl ⟨by rfl, ?_⟩) gz3 ?_
              case refine_2 => (intro w hSw; (try dsimp only at hSw); go_simp; try (with_reducible rfl))
              ((try simp only); (try simp only [List.getElem_toArray]); (try simp only [List.getElem_cons_succ]); (try simp only [List.getElem_cons_zero]); (try simp only [Act.put]); (try simp only [List.setIfInBounds_toArray]); (try simp only [List.set_cons_succ]); (try simp only [List.set_cons_zero]))
              refine wpAnyH_take (i := 26) rfl (by kernel_rfl) (by kernel_rfl) (by kernel_rfl) (fun _ _ _ h => h) (yieldsIf_load_mid (by rfl) _ _ rfl _ _ rfl _ _ (fun _ h => (h.h.u (w.heap.size, T, .slice ap N cp, .slice aq 0 cq) (by simp)).range) Try.underlying25 rfl Try.node_info) gz3 ?_
              ((try simp only); (try simp only [List.getElem_toArray]); (try simp only [List.getElem_cons_succ]); (try simp only [List.getElem_cons_zero]); (try simp only [Act.put]); (try simp only [List.setIfInBounds_toArray]); (try simp only [List.set_cons_succ]); (try simp only [List.set_cons_zero]))
              refine wpAnyH_take (i := 27) rfl (by kernel_rfl) (by kernel_rfl) (by kernel_rfl) (fun _ _ _ h => h) (yieldsIf_load_mid (by rfl) _ _ rfl _ _ rfl _ _ (fun _ h => (h.h.u (w7.heap.size, O, .slice (some ⟨g7, o7, none⟩) N c7, q7) (by simp)).range) Try.underlying25 rfl Try.node_info) gz3 ?_
              ((try simp only); (try simp only [List.getElem_toArray]); (try simp only [List.getElem_cons_succ]); (try simp only [List.getElem_cons_zero]); (try simp only [Act.put]); (try simp only [List.setIfInBounds_toArray]); (try simp only [List.set_cons_succ]); (try simp only [List.set_cons_zero]))
              refine wpAnyH_ready (rs := [28]) (by kernel_rfl) (by simp) (AllReadyH.cons rfl (fun K hK => ?_) AllReadyH.nil)
              rw [if_pos (by rfl)]
              ((try simp only); (try simp only [List.getElem_toArray]); (try simp only [List.getElem_cons_succ]); (try simp only [List.getElem_cons_zero]); (try simp only [Act.put]); (try simp only [List.setIfInBounds_toArray]); (try simp only [List.set_cons_succ]); (try simp only [List.set_cons_zero]))
              go_simp
              have hcc := nsame_calls _ _ _ _ _ _ _ (gz3.h.s (T, .slice ap N cp, .slice aq 0 cq) (by simp)) (gz3.h.s (O, .slice (some ⟨g7, o7, none⟩) N c7, q7) (by simp))
              rw [decide_eq_false HNE.out] at hcc
              refine hcc.mono ?_
              rintro e z4 ⟨rfl, bz4⟩
              refine hK.out _ _ (gz3.called bz4) (fun gz4 => ?_)
              clear hK K
              ((try simp only); (try simp only [List.getElem_toArray]); (try simp only [List.getElem_cons_succ]); (try simp only [List.getElem_cons_zero]); (try simp only [Act.put]); (try simp only [List.setIfInBounds_toArray]); (try simp only [List.set_cons_succ]); (try simp only [List.set_cons_zero]))
              clear hcc
              refine wpAnyH_take (i := 29) (v := ?_) rfl (by kernel_rfl) (by kernel_rfl) (by kernel_rfl) (fun _ _ _ h => h) (Or.inl ⟨by rfl, ?_⟩) gz4 ?_
              case refine_2 => (intro w hSw; (try dsimp only at hSw); go_simp; try (with_reducible rfl))
              ((try simp only); (try simp only [List.getElem_toArray]); (try simp only [List.getElem_cons_succ]); (try simp only [List.getElem_cons_zero]); (try simp only [Act.put]); (try simp only [List.setIfInBounds_toArray]); (try simp only [List.set_cons_succ]); (try simp only [List.set_cons_zero]))
              refine wpAnyH_take (i := 30) (v := ?_) rfl (by kernel_rfl) (by kernel_rfl) (by kernel_rfl) (fun _ _ _ h => h) (Or.inl ⟨by rfl, ?_⟩) gz4 ?_
              case refine_2 => (intro w hSw; (try dsimp only at hSw); go_simp; try (with_reducible rfl))
              ((try simp only); (try simp only [List.getElem_toArray]); (try simp only [List.getElem_cons_succ]); (try simp only [List.getElem_cons_zero]); (try simp only [Act.put]); (try simp only [List.setIfInBounds_toArray]); (try simp only [List.set_cons_succ]); (try simp only [List.set_cons_zero]))
              refine wpAnyH_take (i := 31) (v := ?_) rfl (by kernel_rfl) (by kernel_rfl) (by kernel_rfl) (fun _ _ _ h => h) (Or.inl ⟨by rfl, ?_⟩) gz4 ?_
              case refine_2 => (intro w hSw; (try dsimp only at hSw); go_simp; try (with_reducible rfl))
              ((try simp only); (try simp only [List.getElem_toArray]); (try simp only [List.getElem_cons_succ]); (try simp only [List.getElem_cons_zero]); (try simp only [Act.put]); (try simp only [List.setIfInBounds_toArray]); (try simp only [List.set_cons_succ]); (try simp only [List.set_cons_zero]))
              refine wpAnyH_take (i := 32) rfl (by kernel_rfl) (by kernel_rfl) (by kernel_rfl) (fun _ _ _ h => h) (yieldsIf_load_mid (by rfl) _ _ rfl _ _ rfl _ _ (fun _ h => (h.h.u (w7.heap.size, O, .slice (some ⟨g7, o7, none⟩) N c7, q7) (by simp)).range) Try.underlying25 rfl Try.node_info) gz4 ?_
              ((try simp only); (try simp only [List.getElem_toArray]); (try simp only [List.getElem_cons_succ]); (try simp only [List.getElem_cons_zero]); (try simp only [Act.put]); (try simp only [List.setIfInBounds_toArray]); (try simp only [List.set_cons_succ]); (try simp only [List.set_cons_zero]))
              refine wpAnyH_take (i := 33) rfl (by kernel_rfl) (by kernel_rfl) (by kernel_rfl) (fun _ _ _ h => h) (yieldsIf_load_mid (by rfl) _ _ rfl _ _ rfl _ _ (fun _ h => (h.h.u (w.heap.size, T, .slice ap N cp, .slice aq 0 cq) (by simp)).range) Try.underlying25 rfl Try.node_info) gz4 ?_
              ((try simp only); (try simp only [List.getElem_toArray]); (try simp only [List.getElem_cons_succ]); (try simp only [List.getElem_cons_zero]); (try simp only [Act.put]); (try simp only [List.setIfInBounds_toArray]); (try simp only [List.set_cons_succ]); (try simp only [List.set_cons_zero]))
              refine wpAnyH_ready (rs := [34]) (by kernel_rfl) (by simp) (AllReadyH.cons rfl (fun K hK => ?_) AllReadyH.nil)
              rw [if_pos (by rfl)]
              ((try simp only); (try simp only [List.getElem_toArray]); (try simp only [List.getElem_cons_succ]); (try simp only [List.getElem_cons_zero]); (try simp only [Act.put]); (try simp only [List.setIfInBounds_toArray]); (try simp only [List.set_cons_succ]); (try simp only [List.set_cons_zero]))
              go_simp
              have hcc := nsame_calls _ _ _ _ _ _ _ (gz4.h.s (O, .slice (some ⟨g7, o7, none⟩) N c7, q7) (by simp)) (gz4.h.s (T, .slice ap N cp, .slice aq 0 cq) (by simp))
              rw [decide_eq_false (fun e : O = T => HNE.out e.symm)] at hcc
              refine hcc.mono ?_
              rintro e z5 ⟨rfl, bz5⟩
              refine hK.out _ _ (gz4.called bz5) (fun gz5 => ?_)
              clear hK K
              ((try simp only); (try simp only [List.getElem_toArray]); (try simp only [List.getElem_cons_succ]); (try simp only [List.getElem_cons_zero]); (try simp only [Act.put]); (try simp only [List.setIfInBounds_toArray]); (try simp only [List.set_cons_succ]); (try simp only [List.set_cons_zero]))
              clear hcc
              refine wpAnyH_take (i := 35) (v := ?_) rfl (by kernel_rfl) (by kernel_rfl) (by kernel_rfl) (fun _ _ _ h => h) (Or.inl ⟨by rfl, ?_⟩) gz5 ?_
              case refine_2 => (intro w hSw; (try dsimp only at hSw); go_simp; try (with_reducible rfl))
              ((try simp only); (try simp only [List.getElem_toArray]); (try simp only [List.getElem_cons_succ]); (try simp only [List.getElem_cons_zero]); (try simp only [Act.put]); (try simp only [List.setIfInBounds_toArray]); (try simp only [List.set_cons_succ]); (try simp only [List.set_cons_zero]))
              refine wpAnyH_take (i := 36) (v := ?_) rfl (by kernel_rfl) (by kernel_rfl) (by kernel_rfl) (fun _ _ _ h => h) (Or.inl ⟨by rfl, ?_⟩) gz5 ?_
              case refine_2 => (intro w hSw; (try dsimp only at hSw); go_simp; try (with_reducible rfl))
              ((try simp only); (try simp only [List.getElem_toArray]); (try simp only [List.getElem_cons_succ]); (try simp only [List.getElem_cons_zero]); (try simp only [Act.put]); (try simp only [List.setIfInBounds_toArray]); (try simp only [List.set_cons_succ]); (try simp only [List.set_cons_zero]))
              refine wpAnyH_take (i := 37) (v := ?_) rfl (by kernel_rfl) (by kernel_rfl) (by kernel_rfl) (fun _ _ _ h => h) (Or.inl ⟨by rfl, ?_⟩) gz5 ?_
              case refine_2 => (intro w hSw; (try dsimp only at hSw); go_simp; try (with_reducible rfl))
              ((try simp only); (try simp only [List.getElem_toArray]); (try simp only [List.getElem_cons_succ]); (try simp only [List.getElem_cons_zero]); (try simp only [Act.put]); (try simp only [List.setIfInBounds_toArray]); (try simp only [List.set_cons_succ]); (try simp only [List.set_cons_zero]))
              refine wpAnyH_done (by kernel_rfl) ?_ _
              refine NoPanic.normal ?_
              go_wp2_with fail
              go_ret
              exact ⟨rfl, gz5.h.bel⟩
            · have hN0 : N = 0 := by have := HNM.out.1; rw [hps] at this; simpa using this.symm
              have hN1 : 1 ≤ M := by have := HNM.out.2; omega
              subst hN0
              have hpos : (0 : Int) < (M : Int) := by omega
              have hD0 : ((M : Int) == 0) = false := by simp; omega
              have hD1 : ¬ (M : Int) = 0 := by omega
              obtain ⟨j, hj⟩ : ∃ j : Nat, (at_ % 65536) % (M : Int) = (j : Int) := ⟨((at_ % 65536) % (M : Int)).toNat, by have := Int.emod_nonneg (at_ % 65536) hD1; omega⟩
              have hjD : j < M := by have := Int.emod_lt_of_pos (at_ % 65536) (show (0 : Int) < (M : Int) by omega); omega
              have m2 : Int.tmod (at_ % 65536) (M : Int) = (j : Int) := by rw [Int.tmod_eq_emod_of_nonneg (by omega)]; exact hj
              have hjI : (j : Int) < (M : Int) := by omega
              have hj0 : (0 : Int) ≤ (j : Int) := by omega
              have HJL : Hid (j < T.ks.length) := (show _ < _ by rw [HNM.out.2]; exact hjD)
              clear hj
              obtain ⟨g7, o7, c7, e7, R7, r7a, r7b, r7c, r7d⟩ := elsN_row EQ7.out (by simp; have := HJL.out; omega)
              obtain ⟨r7e, r7f⟩ := elsN_lt HE7.out.2 (by simp; have := HJL.out; omega) e7
              simp only [List.length_map, HNM.out.2] at e7 R7 r7c r7d
              subst e7
              have hjm : j < (T.ks.map Kd.el).length := by simp; exact HJL.out
              have hq7 := N7.cells.2.2
              have hv : x7.cell? ⟨g7, o7 + j * 25 + 24, none⟩ = some ((T.ks.map Kd.el)[j]).v := range_val (R7.el j hjm) (R7.ok j hjm)
              have hv' : x7.cell? ⟨g7, o7 + j * 25 + 24, none⟩ = some (.int .i64 (T.ks[j]'HJL.out).n) := by rw [hv, List.getElem_map]; rfl
              have hth := R7.th (j * 25 + 24) (by have : (j + 1) * 25 ≤ M * 25 := Nat.mul_le_mul_right 25 (by omega); omega)
              rw [← Nat.add_assoc] at hth
              have hfz := hth.2
              clear hv hth
              have hbn := HF.out.bs _ (List.getElem_mem HJL.out)
              have hwn : wrap64 ((T.ks[j]'HJL.out).n + 1) = (T.ks[j]'HJL.out).n + 1 := by unfold wrap64; omega
              have RE : RowAt (x7.setCell ⟨g7, o7 + j * 25 + 24, none⟩ (.int .i64 ((T.ks[j]'HJL.out).n + 1))) g7 o7 M ((T.ks.map Kd.el).set j ⟨((T.ks.map Kd.el)[j]).k, .int .i64 ((T.ks[j]'HJL.out).n + 1)⟩) := R7.setv j hjm (.int .i64 ((T.ks[j]'HJL.out).n + 1)) rfl
              have eO : (T.ks.map Kd.el).set j ⟨((T.ks.map Kd.el)[j]).k, .int .i64 ((T.ks[j]'HJL.out).n + 1)⟩ = (T.ks.set j ⟨(T.ks[j]'HJL.out).k, (T.ks[j]'HJL.out).n + 1⟩).map Kd.el := by
                rw [List.map_set]
                congr 1
                rw [List.getElem_map]
                rfl
              rw [eO] at RE
              have HNE : Hid (¬ T = ⟨T.lv, T.ps, T.ks.set j ⟨(T.ks[j]'HJL.out).k, (T.ks[j]'HJL.out).n + 1⟩⟩) := (fun e => set_ne T.ks j HJL.out _ (fun q => by have := congrArg Kd.n q; simp only at this; omega) (congrArg Nod.ks e))
              have NO : HasN (x7.setCell ⟨g7, o7 + j * 25 + 24, none⟩ (.int .i64 ((T.ks[j]'HJL.out).n + 1))) w7.heap.size ⟨T.lv, T.ps, T.ks.set j ⟨(T.ks[j]'HJL.out).k, (T.ks[j]'HJL.out).n + 1⟩⟩ p7 (.slice (some ⟨g7, o7, none⟩) M c7) := (N7.touch (touch_set x7 g7 _ _) (by omega)).re _ rfl
              have PO : Parts (x7.setCell ⟨g7, o7 + j * 25 + 24, none⟩ (.int .i64 ((T.ks[j]'HJL.out).n + 1))) ⟨T.lv, T.ps, T.ks.set j ⟨(T.ks[j]'HJL.out).k, (T.ks[j]'HJL.out).n + 1⟩⟩ p7 (.slice (some ⟨g7, o7, none⟩) M c7) := ⟨by rw [hps]; exact els_empty EP7.out (by rw [hps]; rfl), RE.els r7c r7d⟩
              have B8 : Below x6.heap.size x6 (x7.setCell ⟨g7, o7 + j * 25 + 24, none⟩ (.int .i64 ((T.ks[j]'HJL.out).n + 1))) := b67.setCell (by simp; omega) _
              have F9 := (⟨((F6.called B8).h.addU NO).addS PO, (F6.called B8).k⟩ : FS w _ dk F _ _ _)
              clear RE eO NO PO B8 R7 hbn hz hks hps k0
              generalize (⟨T.lv, T.ps, T.ks.set j ⟨(T.ks[j]'HJL.out).k, (T.ks[j]'HJL.out).n + 1⟩⟩ : Nod) = O at *
              generalize (T.ks[j]'HJL.out).n = nj at *
              go_upto_region 26 with fail
              generalize x7.setCell ⟨g7, o7 + j * 25 + 24, none⟩ (.int .i64 (nj + 1)) = y8 at *
              have ec6 : codeN (some T) = 0 := rfl
              have hi2 : (Try.prog.info? 39).map (·.size) = some (bc F).length := by rw [bc_length, HFL.out]; exact Try.key_info
              refine wp_region_noPanic ?_
              refine wp_region_held_drew (S := (fun yy => FS w yy dk F [(w7.heap.size, O, p7, .slice (some ⟨g7, o7, none⟩) M c7), (d6, T, pv6, qv6), (w.heap.size, T, .slice ap 0 cp, .slice aq M cq)] [] [(O, p7, .slice (some ⟨g7, o7, none⟩) M c7), (T, pv6, qv6), (T, .slice ap 0 cp, .slice aq M cq)])) (by kernel_rfl) F9.drew (fun hHeld => ?_)
              refine wpAnyH_take (i := 0) (v := ?_) rfl (by kernel_rfl) (by kernel_rfl) (by kernel_rfl) (fun _ _ _ h => h) (Or.inl ⟨by rfl, ?_⟩) hHeld ?_
              case refine_2 => (intro w hSw; (try dsimp only at hSw); go_simp; try (with_reducible rfl))
              ((try simp only); (try simp only [List.getElem_toArray]); (try simp only [List.getElem_cons_succ]); (try simp only [List.getElem_cons_zero]); (try simp only [Act.put]); (try simp only [List.setIfInBounds_toArray]); (try simp only [List.set_cons_succ]); (try simp only [List.set_cons_zero]))
              refine wpAnyH_take (i := 1) (v := ?_) rfl (by kernel_rfl) (by kernel_rfl) (by kernel_rfl) (fun _ _ _ h => h) (Or.inl ⟨by rfl, ?_⟩) hHeld ?_
              case refine_2 => (intro w hSw; (try dsimp only at hSw); go_simp; try (with_reducible rfl))
              ((try simp only); (try simp only [List.getElem_toArray]); (try simp only [List.getElem_cons_succ]); (try simp only [List.getElem_cons_zero]); (try simp only [Act.put]); (try simp only [List.setIfInBounds_toArray]); (try simp only [List.set_cons_succ]); (try simp only [List.set_cons_zero]))
              refine wpAnyH_take (i := 2) (v := ?_) rfl (by kernel_rfl) (by kernel_rfl) (by kernel_rfl) (fun _ _ _ h => h) (Or.inl ⟨by rfl, ?_⟩) hHeld ?_
              case refine_2 => (intro w hSw; (try dsimp only at hSw); go_simp; try (with_reducible rfl))
              ((try simp only); (try simp only [List.getElem_toArray]); (try simp only [List.getElem_cons_succ]); (try simp only [List.getElem_cons_zero]); (try simp only [Act.put]); (try simp only [List.setIfInBounds_toArray]); (try simp only [List.set_cons_succ]); (try simp only [List.set_cons_zero]))
              refine wpAnyH_take (i := 3) (v := ?_) rfl (by kernel_rfl) (by kernel_rfl) (by kernel_rfl) (fun _ _ _ h => h) (Or.inl ⟨by rfl, ?_⟩) hHeld ?_
              case refine_2 => (intro w hSw; (try dsimp only at hSw); go_simp; try (with_reducible rfl))
              ((try simp only); (try simp only [List.getElem_toArray]); (try simp only [List.getElem_cons_succ]); (try simp only [List.getElem_cons_zero]); (try simp only [Act.put]); (try simp only [List.setIfInBounds_toArray]); (try simp only [List.set_cons_succ]); (try simp only [List.set_cons_zero]))
              refine wpAnyH_take (i := 4) (v := ?_) rfl (by kernel_rfl) (by kernel_rfl) (by kernel_rfl) (fun _ _ _ h => h) (Or.inl ⟨by rfl, ?_⟩) hHeld ?_
              case refine_2 => (intro w hSw; (try dsimp only at hSw); go_simp; try (with_reducible rfl))
              ((try simp only); (try simp only [List.getElem_toArray]); (try simp only [List.getElem_cons_succ]); (try simp only [List.getElem_cons_zero]); (try simp only [Act.put]); (try simp only [List.setIfInBounds_toArray]); (try simp only [List.set_cons_succ]); (try simp only [List.set_cons_zero]))
              refine wpAnyH_take (i := 5) (v := ?_) rfl (by kernel_rfl) (by kernel_rfl) (by kernel_rfl) (fun _ _ _ h => h) (Or.inl ⟨by rfl, ?_⟩) hHeld ?_
              case refine_2 => (intro w hSw; (try dsimp only at hSw); go_simp; try (with_reducible rfl))
              ((try simp only); (try simp only [List.getElem_toArray]); (try simp only [List.getElem_cons_succ]); (try simp only [List.getElem_cons_zero]); (try simp only [Act.put]); (try simp only [List.setIfInBounds_toArray]); (try simp only [List.set_cons_succ]); (try simp only [List.set_cons_zero]))
              refine wpAnyH_take (i := 6) (v := ?_) rfl (by kernel_rfl) (by kernel_rfl) (by kernel_rfl) (fun _ _ _ h => h) (Or.inl ⟨by rfl, ?_⟩) hHeld ?_
              case refine_2 => (intro w hSw; (try dsimp only at hSw); go_simp; try (with_reducible rfl))
              ((try simp only); (try simp only [List.getElem_toArray]); (try simp only [List.getElem_cons_succ]); (try simp only [List.getElem_cons_zero]); (try simp only [Act.put]); (try simp only [List.setIfInBounds_toArray]); (try simp only [List.set_cons_succ]); (try simp only [List.set_cons_zero]))
              refine wpAnyH_take (i := 7) (v := ?_) rfl (by kernel_rfl) (by kernel_rfl) (by kernel_rfl) (fun _ _ _ h => h) (Or.inl ⟨by rfl, ?_⟩) hHeld ?_
              case refine_2 => (intro w hSw; (try dsimp only at hSw); go_simp; try (with_reducible rfl))
              ((try simp only); (try simp only [List.getElem_toArray]); (try simp only [List.getElem_cons_succ]); (try simp only [List.getElem_cons_zero]); (try simp only [Act.put]); (try simp only [List.setIfInBounds_toArray]); (try simp only [List.set_cons_succ]); (try simp only [List.set_cons_zero]))
              refine wpAnyH_take (i := 8) (v := ?_) rfl (by kernel_rfl) (by kernel_rfl) (by kernel_rfl) (fun _ _ _ h => h) (Or.inl ⟨by rfl, ?_⟩) hHeld ?_
              case refine_2 => (intro w hSw; (try dsimp only at hSw); go_simp; try (with_reducible rfl))
              ((try simp only); (try simp only [List.getElem_toArray]); (try simp only [List.getElem_cons_succ]); (try simp only [List.getElem_cons_zero]); (try simp only [Act.put]); (try simp only [List.setIfInBounds_toArray]); (try simp only [List.set_cons_succ]); (try simp only [List.set_cons_zero]))
              refine wpAnyH_take (i := 9) (v := ?_) rfl (by kernel_rfl) (by kernel_rfl) (by kernel_rfl) (fun _ _ _ h => h) (Or.inl ⟨by rfl, ?_⟩) hHeld ?_
              case refine_2 => (intro w hSw; (try dsimp only at hSw); go_simp; try (with_reducible rfl))
              ((try simp only); (try simp only [List.getElem_toArray]); (try simp only [List.getElem_cons_succ]); (try simp only [List.getElem_cons_zero]); (try simp only [Act.put]); (try simp only [List.setIfInBounds_toArray]); (try simp only [List.set_cons_succ]); (try simp only [List.set_cons_zero]))
              refine wpAnyH_take (i := 10) rfl (by kernel_rfl) (by kernel_rfl) (by kernel_rfl) (fun _ _ _ h => h) (yieldsIf_load_mid (by rfl) _ _ rfl _ _ rfl _ _ (fun _ h => (h.h.u (w.heap.size, T, .slice ap 0 cp, .slice aq M cq) (by simp)).range) Try.underlying25 rfl Try.node_info) hHeld ?_
              ((try simp only); (try simp only [List.getElem_toArray]); (try simp only [List.getElem_cons_succ]); (try simp only [List.getElem_cons_zero]); (try simp only [Act.put]); (try simp only [List.setIfInBounds_toArray]); (try simp only [List.set_cons_succ]); (try simp only [List.set_cons_zero]))
              refine wpAnyH_take (i := 11) rfl (by kernel_rfl) (by kernel_rfl) (by kernel_rfl) (fun _ _ _ h => h) (yieldsIf_load_mid (by rfl) _ _ rfl _ _ rfl _ _ (fun _ h => (h.h.u (d6, T, pv6, qv6) (by simp)).range) Try.underlying25 rfl Try.node_info) hHeld ?_
              ((try simp only); (try simp only [List.getElem_toArray]); (try simp only [List.getElem_cons_succ]); (try simp only [List.getElem_cons_zero]); (try simp only [Act.put]); (try simp only [List.setIfInBounds_toArray]); (try simp only [List.set_cons_succ]); (try simp only [List.set_cons_zero]))
              refine wpAnyH_ready (rs := [12]) (by kernel_rfl) (by simp) (AllReadyH.cons rfl (fun K hK => ?_) AllReadyH.nil)
              rw [if_pos (by rfl)]
              ((try simp only); (try simp only [List.getElem_toArray]); (try simp only [List.getElem_cons_succ]); (try simp only [List.getElem_cons_zero]); (try simp only [Act.put]); (try simp only [List.setIfInBounds_toArray]); (try simp only [List.set_cons_succ]); (try simp only [List.set_cons_zero]))
              go_simp
              have hcc := nsame_calls _ _ _ _ _ _ _ (hHeld.h.s (T, .slice ap 0 cp, .slice aq M cq) (by simp)) (hHeld.h.s (T, pv6, qv6) (by simp))
              rw [show decide (T = T) = true from decide_eq_true rfl] at hcc
              refine hcc.mono ?_
              rintro e z1 ⟨rfl, bz1⟩
              refine hK.out _ _ (hHeld.called bz1) (fun gz1 => ?_)
              clear hK K
              ((try simp only); (try simp only [List.getElem_toArray]); (try simp only [List.getElem_cons_succ]); (try simp only [List.getElem_cons_zero]); (try simp only [Act.put]); (try simp only [List.setIfInBounds_toArray]); (try simp only [List.set_cons_succ]); (try simp only [List.set_cons_zero]))
              clear hcc
              refine wpAnyH_take (i := 13) (v := ?_) rfl (by kernel_rfl) (by kernel_rfl) (by kernel_rfl) (fun _ _ _ h => h) (Or.inl ⟨by rfl, ?_⟩) gz1 ?_
              case refine_2 => (intro w hSw; (try dsimp only at hSw); go_simp; try (with_reducible rfl))
              ((try simp only); (try simp only [List.getElem_toArray]); (try simp only [List.getElem_cons_succ]); (try simp only [List.getElem_cons_zero]); (try simp only [Act.put]); (try simp only [List.setIfInBounds_toArray]); (try simp only [List.set_cons_succ]); (try simp only [List.set_cons_zero]))
              refine wpAnyH_take (i := 14) (v := ?_) rfl (by kernel_rfl) (by kernel_rfl) (by kernel_rfl) (fun _ _ _ h => h) (Or.inl ⟨by rfl, ?_⟩) gz1 ?_
              case refine_2 => (intro w hSw; (try dsimp only at hSw); go_simp; try (with_reducible rfl))
              ((try simp only); (try simp only [List.getElem_toArray]); (try simp only [List.getElem_cons_succ]); (try simp only [List.getElem_cons_zero]); (try simp only [Act.put]); (try simp only [List.setIfInBounds_toArray]); (try simp only [List.set_cons_succ]); (try simp only [List.set_cons_zero]))
              refine wpAnyH_take (i := 15) rfl (by kernel_rfl) (by kernel_rfl) (by kernel_rfl) (fun _ _ _ h => h) (yieldsIf_load_mid (by rfl) _ _ rfl _ _ rfl _ _ (fun _ h => (h.h.u (d6, T, pv6, qv6) (by simp)).range) Try.underlying25 rfl Try.node_info) gz1 ?_
              ((try simp only); (try simp only [List.getElem_toArray]); (try simp only [List.getElem_cons_succ]); (try simp only [List.getElem_cons_zero]); (try simp only [Act.put]); (try simp only [List.setIfInBounds_toArray]); (try simp only [List.set_cons_succ]); (try simp only [List.set_cons_zero]))
              refine wpAnyH_take (i := 16) rfl (by kernel_rfl) (by kernel_rfl) (by kernel_rfl) (fun _ _ _ h => h) (yieldsIf_load_mid (by rfl) _ _ rfl _ _ rfl _ _ (fun _ h => (h.h.u (w.heap.size, T, .slice ap 0 cp, .slice aq M cq) (by simp)).range) Try.underlying25 rfl Try.node_info) gz1 ?_
              ((try simp only); (try simp only [List.getElem_toArray]); (try simp only [List.getElem_cons_succ]); (try simp only [List.getElem_cons_zero]); (try simp only [Act.put]); (try simp only [List.setIfInBounds_toArray]); (try simp only [List.set_cons_succ]); (try simp only [List.set_cons_zero]))
              refine wpAnyH_ready (rs := [17]) (by kernel_rfl) (by simp) (AllReadyH.cons rfl (fun K hK => ?_) AllReadyH.nil)
              rw [if_pos (by rfl)]
              ((try simp only); (try simp only [List.getElem_toArray]); (try simp only [List.getElem_cons_succ]); (try simp only [List.getElem_cons_zero]); (try simp only [Act.put]); (try simp only [List.setIfInBounds_toArray]); (try simp only [List.set_cons_succ]); (try simp only [List.set_cons_zero]))
              go_simp
              have hcc := nsame_calls _ _ _ _ _ _ _ (gz1.h.s (T, pv6, qv6) (by simp)) (gz1.h.s (T, .slice ap 0 cp, .slice aq M cq) (by simp))
              rw [show decide (T = T) = true from decide_eq_true rfl] at hcc
              refine hcc.mono ?_
              rintro e z2 ⟨rfl, bz2⟩
              refine hK.out _ _ (gz1.called bz2) (fun gz2 => ?_)
              clear hK K
              ((try simp only); (try simp only [List.getElem_toArray]); (try simp only [List.getElem_cons_succ]); (try simp only [List.getElem_cons_zero]); (try simp only [Act.put]); (try simp only [List.setIfInBounds_toArray]); (try simp only [List.set_cons_succ]); (try simp only [List.set_cons_zero]))
              clear hcc
              refine wpAnyH_take (i := 18) (v := ?_) rfl (by kernel_rfl) (by kernel_rfl) (by kernel_rfl) (fun _ _ _ h => h) (Or.inl ⟨by rfl, ?_⟩) gz2 ?_
              case refine_2 => (intro w hSw; (try dsimp only at hSw); go_simp; try (with_reducible rfl))
              ((try simp only); (try simp only [List.getElem_toArray]); (try simp only [List.getElem_cons_succ]); (try simp only [List.getElem_cons_zero]); (try simp only [Act.put]); (try simp only [List.setIfInBounds_toArray]); (try simp only [List.set_cons_succ]); (try simp only [List.set_cons_zero]))
              refine wpAnyH_take (i := 19) (v := ?_) rfl (by kernel_rfl) (by kernel_rfl) (by kernel_rfl) (fun _ _ _ h => h) (Or.inl ⟨by rfl, ?_⟩) gz2 ?_
              case refine_2 => (intro w hSw; (try dsimp only at hSw); go_simp; try (with_reducible rfl))
              ((try simp only); (try simp only [List.getElem_toArray]); (try simp only [List.getElem_cons_succ]); (try simp only [List.getElem_cons_zero]); (try simp only [Act.put]); (try simp only [List.setIfInBounds_toArray]); (try simp only [List.set_cons_succ]); (try simp only [List.set_cons_zero]))
              refine wpAnyH_take (i := 20) rfl (by kernel_rfl) (by kernel_rfl) (by kernel_rfl) (fun _ _ _ h => h) (yieldsIf_load_mid (by rfl) _ _ rfl _ _ rfl _ _ (fun _ h => (h.h.u (d6, T, pv6, qv6) (by simp)).range) Try.underlying25 rfl Try.node_info) gz2 ?_
              ((try simp only); (try simp only [List.getElem_toArray]); (try simp only [List.getElem_cons_succ]); (try simp only [List.getElem_cons_zero]); (try simp only [Act.put]); (try simp only [List.setIfInBounds_toArray]); (try simp only [List.set_cons_succ]); (try simp only [List.set_cons_zero]))
              refine wpAnyH_take (i := 22) rfl (by kernel_rfl) (by kernel_rfl) (by kernel_rfl) (fun _ _ _ h => h) (yieldsIf_load_mid (by rfl) _ _ rfl dk 0 rfl _ _ (fun _ h => h.k.range) Try.underlying39 rfl hi2) gz2 ?_
              ((try simp only); (try simp only [List.getElem_toArray]); (try simp only [List.getElem_cons_succ]); (try simp only [List.getElem_cons_zero]); (try simp only [Act.put]); (try simp only [List.setIfInBounds_toArray]); (try simp only [List.set_cons_succ]); (try simp only [List.set_cons_zero]))
              refine wpAnyH_ready (rs := [21]) (by kernel_rfl) (by simp) (AllReadyH.cons rfl (fun K hK => ?_) AllReadyH.nil)
              rw [if_pos (by rfl)]
              ((try simp only); (try simp only [List.getElem_toArray]); (try simp only [List.getElem_cons_succ]); (try simp only [List.getElem_cons_zero]); (try simp only [Act.put]); (try simp only [List.setIfInBounds_toArray]); (try simp only [List.set_cons_succ]); (try simp only [List.set_cons_zero]))
              go_simp
              have hcc := first_calls _ _ _ _ (gz2.h.s (T, pv6, qv6) (by simp))
              rw [show firstN T = F from HFE.out] at hcc
              refine hcc.mono ?_
              rintro e z3 ⟨rfl, bz3⟩
              refine hK.out _ _ (gz2.called bz3) (fun gz3 => ?_)
              clear hK K
              ((try simp only); (try simp only [List.getElem_toArray]); (try simp only [List.getElem_cons_succ]); (try simp only [List.getElem_cons_zero]); (try simp only [Act.put]); (try simp only [List.setIfInBounds_toArray]); (try simp only [List.set_cons_succ]); (try simp only [List.set_cons_zero]))
              clear hcc
              refine wpAnyH_take (i := 23) (v := .bool true) rfl (by kernel_rfl) (by kernel_rfl) (by kernel_rfl) (fun _ _ _ h => h) (Or.inl ⟨by rfl, ?_⟩) gz3 ?_
              case refine_1 => (intro w hSw; have q := eq_key w F F HFL.out HFL.out; rw [show (F == F) = true from by simp] at q; go_simp; first | done | rfl | (simp; done))
              ((try simp only); (try simp only [List.getElem_toArray]); (try simp only [List.getElem_cons_succ]); (try simp only [List.getElem_cons_zero]); (try simp only [Act.put]); (try simp only [List.setIfInBounds_toArray]); (try simp only [List.set_cons_succ]); (try simp only [List.set_cons_zero]))
              refine wpAnyH_take (i := 24) (v := ?_) rfl (by kernel_rfl) (by kernel_rfl) (by kernel_rfl) (fun _ _ _ h => h) (Or.inl ⟨by rfl, ?_⟩) gz3 ?_
              case refine_2 => (intro w hSw; (try dsimp only at hSw); go_simp; try (with_reducible rfl))
              ((try simp only); (try simp only [List.getElem_toArray]); (try simp only [List.getElem_cons_succ]); (try simp only [List.getElem_cons_zero]); (try simp only [Act.put]); (try simp only [List.setIfInBounds_toArray]); (try simp only [List.set_cons_succ]); (try simp only [List.set_cons_zero]))
              refine wpAnyH_take (i := 25) (v := ?_) rfl (by kernel_rfl) (by kernel_rfl) (by kernel_rfl) (fun _ _ _ h => h) (Or.inl ⟨by rfl, ?_⟩) gz3 ?_
              case refine_2 => (intro w hSw; (try dsimp only at hSw); go_simp; try (with_reducible rfl))
              ((try simp only); (try simp only [List.getElem_toArray]); (try simp only [List.getElem_cons_succ]); (try simp only [List.getElem_cons_zero]); (try simp only [Act.put]); (try simp only [List.setIfInBounds_toArray]); (try simp only [List.set_cons_succ]); (try simp only [List.set_cons_zero]))
              refine wpAnyH_take (i := 26) rfl (by kernel_rfl) (by kernel_rfl) (by kernel_rfl) (fun _ _ _ h => h) (yieldsIf_load_mid (by rfl) _ _ rfl _ _ rfl _ _ (fun _ h => (h.h.u (w.heap.size, T, .slice ap 0 cp, .slice aq M cq) (by simp)).range) Try.underlying25 rfl Try.node_info) gz3 ?_
              ((try simp only); (try simp only [List.getElem_toArray]); (try simp only [List.getElem_cons_succ]); (try simp only [List.getElem_cons_zero]); (try simp only [Act.put]); (try simp only [List.setIfInBounds_toArray]); (try simp only [List.set_cons_succ]); (try simp only [List.set_cons_zero]))
              refine wpAnyH_take (i := 27) rfl (by kernel_rfl) (by kernel_rfl) (by kernel_rfl) (fun _ _ _ h => h) (yieldsIf_load_mid (by rfl) _ _ rfl _ _ rfl _ _ (fun _ h => (h.h.u (w7.heap.size, O, p7, .slice (some ⟨g7, o7, none⟩) M c7) (by simp)).range) Try.underlying25 rfl Try.node_info) gz3 ?_
              ((try simp only); (try simp only [List.getElem_toArray]); (try simp only [List.getElem_cons_succ]); (try simp only [List.getElem_cons_zero]); (try simp only [Act.put]); (try simp only [List.setIfInBounds_toArray]); (try simp only [List.set_cons_succ]); (try simp only [List.set_cons_zero]))
              refine wpAnyH_ready (rs := [28]) (by kernel_rfl) (by simp) (AllReadyH.cons rfl (fun K hK => ?_) AllReadyH.nil)
              rw [if_pos (by rfl)]
              ((try simp only); (try simp only [List.getElem_toArray]); (try simp only [List.getElem_cons_succ]); (try simp only [List.getElem_cons_zero]); (try simp only [Act.put]); (try simp only [List.setIfInBounds_toArray]); (try simp only [List.set_cons_succ]); (try simp only [List.set_cons_zero]))
              go_simp
              have hcc := nsame_calls _ _ _ _ _ _ _ (gz3.h.s (T, .slice ap 0 cp, .slice aq M cq) (by simp)) (gz3.h.s (O, p7, .slice (some ⟨g7, o7, none⟩) M c7) (by simp))
              rw [decide_eq_false HNE.out] at hcc
              refine hcc.mono ?_
              rintro e z4 ⟨rfl, bz4⟩
              refine hK.out _ _ (gz3.called bz4) (fun gz4 => ?_)
              clear hK K
              ((try simp only); (try simp only [List.getElem_toArray]); (try simp only [List.getElem_cons_succ]); (try simp only [List.getElem_cons_zero]); (try simp only [Act.put]); (try simp only [List.setIfInBounds_toArray]); (try simp only [List.set_cons_succ]); (try simp only [List.set_cons_zero]))
              clear hcc
              refine wpAnyH_take (i := 29) (v := ?_) rfl (by kernel_rfl) (by kernel_rfl) (by kernel_rfl) (fun _ _ _ h => h) (Or.inl ⟨by rfl, ?_⟩) gz4 ?_
              case refine_2 => (intro w hSw; (try dsimp only at hSw); go_simp; try (with_reducible rfl))
              ((try simp only); (try simp only [List.getElem_toArray]); (try simp only [List.getElem_cons_succ]); (try simp only [List.getElem_cons_zero]); (try simp only [Act.put]); (try simp only [List.setIfInBounds_toArray]); (try simp only [List.set_cons_succ]); (try simp only [List.set_cons_zero]))
              refine wpAnyH_take (i := 30) (v := ?_) rfl (by kernel_rfl) (by kernel_rfl) (by kernel_rfl) (fun _ _ _ h => h) (Or.inl ⟨by rfl, ?_⟩) gz4 ?_
              case refine_2 => (intro w hSw; (try dsimp only at hSw); go_simp; try (with_reducible rfl))
              ((try simp only); (try simp only [List.getElem_toArray]); (try simp only [List.getElem_cons_succ]); (try simp only [List.getElem_cons_zero]); (try simp only [Act.put]); (try simp only [List.setIfInBounds_toArray]); (try simp only [List.set_cons_succ]); (try simp only [List.set_cons_zero]))
              refine wpAnyH_take (i := 31) (v := ?_) rfl (by kernel_rfl) (by kernel_rfl) (by kernel_rfl) (fun _ _ _ h => h) (Or.inl ⟨by rfl, ?_⟩) gz4 ?_
              case refine_2 => (intro w hSw; (try dsimp only at hSw); go_simp; try (with_reducible rfl))
              ((try simp only); (try simp only [List.getElem_toArray]); (try simp only [List.getElem_cons_succ]); (try simp only [List.getElem_cons_zero]); (try simp only [Act.put]); (try simp only [List.setIfInBounds_toArray]); (try simp only [List.set_cons_succ]); (try simp only [List.set_cons_zero]))
              refine wpAnyH_take (i := 32) rfl (by kernel_rfl) (by kernel_rfl) (by kernel_rfl) (fun _ _ _ h => h) (yieldsIf_load_mid (by rfl) _ _ rfl _ _ rfl _ _ (fun _ h => (h.h.u (w7.heap.size, O, p7, .slice (some ⟨g7, o7, none⟩) M c7) (by simp)).range) Try.underlying25 rfl Try.node_info) gz4 ?_
              ((try simp only); (try simp only [List.getElem_toArray]); (try simp only [List.getElem_cons_succ]); (try simp only [List.getElem_cons_zero]); (try simp only [Act.put]); (try simp only [List.setIfInBounds_toArray]); (try simp only [List.set_cons_succ]); (try simp only [List.set_cons_zero]))
              refine wpAnyH_take (i := 33) rfl (by kernel_rfl) (by kernel_rfl) (by kernel_rfl) (fun _ _ _ h => h) (yieldsIf_load_mid (by rfl) _ _ rfl _ _ rfl _ _ (fun _ h => (h.h.u (w.heap.size, T, .slice ap 0 cp, .slice aq M cq) (by simp)).range) Try.underlying25 rfl Try.node_info) gz4 ?_
              ((try simp only); (try simp only [List.getElem_toArray]); (try simp only [List.getElem_cons_succ]); (try simp only [List.getElem_cons_zero]); (try simp only [Act.put]); (try simp only [List.setIfInBounds_toArray]); (try simp only [List.set_cons_succ]); (try simp only [List.set_cons_zero]))
              refine wpAnyH_ready (rs := [34]) (by kernel_rfl) (by simp) (AllReadyH.cons rfl (fun K hK => ?_) AllReadyH.nil)
              rw [if_pos (by rfl)]
              ((try simp only); (try simp only [List.getElem_toArray]); (try simp only [List.getElem_cons_succ]); (try simp only [List.getElem_cons_zero]); (try simp only [Act.put]); (try simp only [List.setIfInBounds_toArray]); (try simp only [List.set_cons_succ]); (try simp only [List.set_cons_zero]))
              go_simp
              have hcc := nsame_calls _ _ _ _ _ _ _ (gz4.h.s (O, p7, .slice (some ⟨g7, o7, none⟩) M c7) (by simp)) (gz4.h.s (T, .slice ap 0 cp, .slice aq M cq) (by simp))
              rw [decide_eq_false (fun e : O = T => HNE.out e.symm)] at hcc
              refine hcc.mono ?_
              rintro e z5 ⟨rfl, bz5⟩
              refine hK.out _ _ (gz4.called bz5) (fun gz5 => ?_)
              clear hK K
              ((try simp only); (try simp only [List.getElem_toArray]); (try simp only [List.getElem_cons_succ]); (try simp only [List.getElem_cons_zero]); (try simp only [Act.put]); (try simp only [List.setIfInBounds_toArray]); (try simp only [List.set_cons_succ]); (try simp only [List.set_cons_zero]))
              clear hcc
              refine wpAnyH_take (i := 35) (v := ?_) rfl (by kernel_rfl) (by kernel_rfl) (by kernel_rfl) (fun _ _ _ h => h) (Or.inl ⟨by rfl, ?_⟩) gz5 ?_
              case refine_2 => (intro w hSw; (try dsimp only at hSw); go_simp; try (with_reducible rfl))
              ((try simp only); (try simp only [List.getElem_toArray]); (try simp only [List.getElem_cons_succ]); (try simp only [List.getElem_cons_zero]); (try simp only [Act.put]); (try simp only [List.setIfInBounds_toArray]); (try simp only [List.set_cons_succ]); (try simp only [List.set_cons_zero]))
              refine wpAnyH_take (i := 36) (v := ?_) rfl (by kernel_rfl) (by kernel_rfl) (by kernel_rfl) (fun _ _ _ h => h) (Or.inl ⟨by rfl, ?_⟩) gz5 ?_
              case refine_2 => (intro w hSw; (try dsimp only at hSw); go_simp; try (with_reducible rfl))
              ((try simp only); (try simp only [List.getElem_toArray]); (try simp only [List.getElem_cons_succ]); (try simp only [List.getElem_cons_zero]); (try simp only [Act.put]); (try simp only [List.setIfInBounds_toArray]); (try simp only [List.set_cons_succ]); (try simp only [List.set_cons_zero]))
              refine wpAnyH_take (i := 37) (v := ?_) rfl (by kernel_rfl) (by kernel_rfl) (by kernel_rfl) (fun _ _ _ h => h) (Or.inl ⟨by rfl, ?_⟩) gz5 ?_
              case refine_2 => (intro w hSw; (try dsimp only at hSw); go_simp; try (with_reducible rfl))
              ((try simp only); (try simp only [List.getElem_toArray]); (try simp only [List.getElem_cons_succ]); (try simp only [List.getElem_cons_zero]); (try simp only [Act.put]); (try simp only [List.setIfInBounds_toArray]); (try simp only [List.set_cons_succ]); (try simp only [List.set_cons_zero]))
              refine wpAnyH_done (by kernel_rfl) ?_ _
              refine NoPanic.normal ?_
              go_wp2_with fail
              go_ret
              exact ⟨rfl, gz5.h.bel⟩
end Go.Proofs.Ythembolodcpdgaa
