import Derived.Test.YtjhdnpplmlddaaaGreatSi
import Derived.Test.YtjhdnpplmlddaaaGreatB14
import Derived.Test.YtjhdnpplmlddaaaGreatB12
/- The document's own words on nodes: Right. -/
namespace Go.Proofs.YtjhdnpplmlddaaaGreat
set_option linter.unusedVariables false
open Go.RowKit

theorem rises_all : ∀ (l : List (List UInt8)), (∀ k (h : k + 1 < l.length), Op.bytesLess (l[k]'(by omega)) l[k + 1] = true) → rises l = true
  | [], _ => rfl
  | [_], _ => rfl
  | a :: b :: l, h => by
    have h0 := h 0 (by simp)
    have ih := rises_all (b :: l) fun k hk => h (k + 1) (by simpa using hk)
    rw [rises, ih]
    simpa using h0
/-- What has been seen of the pairs. -/
def seenP (l : List Pr) (k : Nat) : Prop := ∀ i (h : i < l.length), i < k → (l[i]).s.size ≤ 40 ∧ (0 < i → Op.bytesLess (l[i - 1]).k (l[i]).k = true)
theorem seenP_all {l : List Pr} (h : seenP l l.length) (h1 : 1 ≤ l.length) (h7 : l.length ≤ 7) : okPairs l = true := by
  have a : anyP l = false := by
    rw [anyP, List.any_eq_false]
    intro p hp
    obtain ⟨i, hi, rfl⟩ := List.getElem_of_mem hp
    have := (h i hi hi).1
    simp [badP]
    omega
  have r : rises (l.map Pr.k) = true := rises_all _ fun k hk => by
    have hk' : k + 1 < l.length := by simpa using hk
    have := (h (k + 1) hk' hk').2 (by omega)
    simpa using this
  rw [okPairs, a, r, decide_eq_true h1, decide_eq_true h7]
  rfl
theorem seenP_step {l : List Pr} {k : Nat} (h : seenP l k) (hk : k < l.length) (h1 : (l[k]).s.size ≤ 40) (h2 : 0 < k → Op.bytesLess (l[k - 1]).k (l[k]).k = true) : seenP l (k + 1) := fun i hi hik => by
  by_cases e : i = k
  · subst e
    exact ⟨h1, h2⟩
  · exact h i hi (by omega)
theorem bad_pair {l : List Pr} {k : Nat} (hk : k < l.length) (h1 : 40 < (l[k]).s.size) : okPairs l = false := by
  have a : anyP l = true := by
    rw [anyP, List.any_eq_true]
    exact ⟨l[k], List.getElem_mem _, by simp [badP]; omega⟩
  rw [okPairs, a]
  simp
theorem bad_rise {l : List Pr} {J : Nat} (hk : J + 1 < l.length) (h1 : Op.bytesLess (l[J]).k (l[J + 1]).k = false) : okPairs l = false := by
  have r : rises (l.map Pr.k) = false := rises_no _ J (by simpa using hk) (by simpa using h1)
  rw [okPairs, r]
  simp
/-- What has been seen of the kids. -/
def seenK (l : List Kd) (k : Nat) : Prop := ∀ i (h : i < l.length), i < k → badK l[i] = false ∧ (0 < i → Op.bytesLess (l[i - 1]).k (l[i]).k = true) ∧ apartAt l i = true
theorem seenK_all {l : List Kd} (h : seenK l l.length) (h1 : 2 ≤ l.length) (h7 : l.length ≤ 18) : okKids l = true := by
  have a : anyK l = false := by
    rw [anyK, List.any_eq_false]
    intro p hp
    obtain ⟨i, hi, rfl⟩ := List.getElem_of_mem hp
    rw [(h i hi hi).1]
    simp
  have r : rises (l.map Kd.k) = true := rises_all _ fun k hk => by
    have hk' : k + 1 < l.length := by simpa using hk
    have := (h (k + 1) hk' hk').2.1 (by omega)
    simpa using this
  have t : apart l = true := by
    rw [apart, List.all_eq_true]
    intro i hi
    have hi' : i < l.length := by simpa using hi
    exact (h i hi' hi').2.2
  rw [okKids, a, r, t, decide_eq_true h1, decide_eq_true h7]
  rfl
theorem seenK_step {l : List Kd} {k : Nat} (h : seenK l k) (hk : k < l.length) (h1 : badK l[k] = false) (h2 : 0 < k → Op.bytesLess (l[k - 1]).k (l[k]).k = true) (h3 : apartAt l k = true) : seenK l (k + 1) := fun i hi hik => by
  by_cases e : i = k
  · subst e
    exact ⟨h1, h2, h3⟩
  · exact h i hi (by omega)
theorem bad_kid {l : List Kd} {k : Nat} (hk : k < l.length) (h1 : badK l[k] = true) : okKids l = false := by
  have a : anyK l = true := by
    rw [anyK, List.any_eq_true]
    exact ⟨l[k], List.getElem_mem _, h1⟩
  rw [okKids, a]
  simp
theorem bad_riseK {l : List Kd} {J : Nat} (hk : J + 1 < l.length) (h1 : Op.bytesLess (l[J]).k (l[J + 1]).k = false) : okKids l = false := by
  have r : rises (l.map Kd.k) = false := rises_no _ J (by simpa using hk) (by simpa using h1)
  rw [okKids, r]
  simp
theorem bad_apart {l : List Kd} {m k : Nat} (hk : k < l.length) (hm : m < k) (h1 : (l[m]).n = (l[k]).n) : okKids l = false := by
  have t : apart l = false := by
    rw [apart, List.all_eq_false]
    refine ⟨k, by simpa using hk, ?_⟩
    rw [apartAt, nAt_eq l k hk]
    intro hh
    rw [List.all_eq_true] at hh
    have := hh l[m] (by rw [List.mem_take_iff_getElem]; exact ⟨m, by omega, rfl⟩)
    simp [h1] at this
  rw [okKids, t]
  simp
theorem apart_all {l : List Kd} {k : Nat} (hk : k < l.length) (h : ∀ i (hi : i < l.length), i < k → ¬ (l[i]).n = (l[k]).n) : apartAt l k = true := by
  rw [apartAt, nAt_eq l k hk, List.all_eq_true]
  intro p hp
  rw [List.mem_take_iff_getElem] at hp
  obtain ⟨i, hi, rfl⟩ := hp
  simp [h i (by omega) (by omega)]
theorem num_succ {k : Nat} (h : k < 100) : Value.int .i64 (wrap64 ((k : Int) + 1)) = .int .i64 ((k + 1 : Nat) : Int) := congrArg _ (by unfold wrap64; omega)
theorem ec_val {e : El} (h : e.Ok) : (ec e)[24]? = some e.v := by
  unfold ec
  rw [List.getElem?_append_right (by rw [bc_length, h.len]; exact Nat.le_refl _), bc_length, h.len]
  rfl
set_option maxRecDepth 100000 in
set_option maxHeartbeats 16000000 in
theorem rright_calls (w : World) (x : Nod) (pv qv : Value) (h : Parts w x pv qv) : Calls Tryz.prog 66 #[nv x pv qv] w fun e w' => e = .returned (.bool (rightN x)) ∧ Below w.heap.size w w' := by
  obtain ⟨ap, cp, rfl⟩ := h.lenP
  obtain ⟨aq, cq, rfl⟩ := h.lenQ
  have mP := (els_max h.p).2
  have mQ := (els_max h.q).2
  have GP : Hid (∀ i (hi : i < x.ps.length), ∃ g off, ap = some ⟨g, off, none⟩ ∧ g < w.heap.size ∧ w.rangeAt g (off + i * 25) (ec (Pr.el x.ps[i])) ∧ (Pr.el x.ps[i]).Ok) := els_get h.p
  have GQ : Hid (∀ i (hi : i < x.ks.length), ∃ g off, aq = some ⟨g, off, none⟩ ∧ g < w.heap.size ∧ w.rangeAt g (off + i * 25) (ec (Kd.el x.ks[i])) ∧ (Kd.el x.ks[i]).Ok) := els_get h.q
  clear h
  obtain ⟨lv, ps, ks⟩ := x
  simp only at GP GQ mP mQ ⊢
  obtain ⟨P, hP⟩ : ∃ P : Nat, P = ps.length := ⟨_, rfl⟩
  obtain ⟨Q, hQ⟩ : ∃ Q : Nat, Q = ks.length := ⟨_, rfl⟩
  have HP : Hid (P = ps.length) := hP
  have HQ : Hid (Q = ks.length) := hQ
  have N0 : HasN (w.alloc (.cells (nc ⟨lv, ps, ks⟩ (.slice ap ps.length cp) (.slice aq ks.length cq)) 60)) w.heap.size ⟨lv, ps, ks⟩ (.slice ap ps.length cp) (.slice aq ks.length cq) := HasN.new w _ _ _ _ rfl rfl rfl
  have B0 : Below w.heap.size w (w.alloc (.cells (nc ⟨lv, ps, ks⟩ (.slice ap ps.length cp) (.slice aq ks.length cq)) 60)) := (Below.refl _ w).alloc (Nat.le_refl _) _
  have E0 : w.heap.size < (w.alloc (.cells (nc ⟨lv, ps, ks⟩ (.slice ap ps.length cp) (.slice aq ks.length cq)) 60)).heap.size := by simp
  rw [← hP, ← hQ] at N0 B0 E0
  rw [← hP] at mP
  rw [← hQ] at mQ
  rw [← hP, ← hQ]
  clear hP hQ
  obtain ⟨c0, c1, c2⟩ := N0.cells
  have HC : Hid (∀ y, Below (w.alloc (.cells (nc ⟨lv, ps, ks⟩ (.slice ap P cp) (.slice aq Q cq)) 60)).heap.size (w.alloc (.cells (nc ⟨lv, ps, ks⟩ (.slice ap P cp) (.slice aq Q cq)) 60)) y → y.cell? ⟨w.heap.size, 0, none⟩ = some (.int .i64 lv) ∧ y.cell? ⟨w.heap.size, 1, none⟩ = some (.slice ap P cp) ∧ y.cell? ⟨w.heap.size, 2, none⟩ = some (.slice aq Q cq)) := fun y hy => (N0.below hy N0.lt).cells
  have HB0 : Hid (Below w.heap.size w (w.alloc (.cells (nc ⟨lv, ps, ks⟩ (.slice ap P cp) (.slice aq Q cq)) 60))) := B0
  simp only [nc] at c0 c1 c2 HC HB0
  clear N0 B0 E0
  by_cases h1 : lv < 0
  · have HF : Hid (rightN ⟨lv, ps, ks⟩ = false) := (show _ = _ by rw [rightN, if_pos (.inl h1)])
    go_enter Tryz.func66, Tryz.ntmps66
    go_wp2
    go_ret
    exact ⟨by rw [HF.out]; rfl, HB0.out⟩
  by_cases h2 : 11 < lv
  · have HF : Hid (rightN ⟨lv, ps, ks⟩ = false) := (show _ = _ by rw [rightN, if_pos (.inr (show 12 ≤ lv by omega))])
    go_enter Tryz.func66, Tryz.ntmps66
    go_wp2
    go_ret
    exact ⟨by rw [HF.out]; rfl, HB0.out⟩
  by_cases h3 : lv = 0
  · subst h3
    have HRT : Hid (rightN ⟨0, ps, ks⟩ = (decide (ks.length = 0) && okPairs ps)) := (show _ = _ by rw [rightN, if_neg (by simp), if_pos rfl])
    by_cases h4 : P < 1
    · have q1 : (P : Int) < 1 := by omega
      have HF : Hid (rightN ⟨0, ps, ks⟩ = false) := (show _ = _ by rw [HRT.out, okPairs, decide_eq_false (show ¬ 1 ≤ ps.length by rw [← HP.out]; omega)]; simp)
      go_enter Tryz.func66, Tryz.ntmps66
      go_wp2
      go_ret
      exact ⟨by rw [HF.out]; rfl, HB0.out⟩
    by_cases h5 : 7 < P
    · have q1 : ¬ ((P : Int) < 1) := by omega
      have q2 : (7 : Int) < (P : Int) := by omega
      have HF : Hid (rightN ⟨0, ps, ks⟩ = false) := (show _ = _ by rw [HRT.out, okPairs, decide_eq_false (show ¬ ps.length ≤ 7 by rw [← HP.out]; omega)]; simp)
      go_enter Tryz.func66, Tryz.ntmps66
      go_wp2
      go_ret
      exact ⟨by rw [HF.out]; rfl, HB0.out⟩
    by_cases h6 : 0 < Q
    · have q1 : ¬ ((P : Int) < 1) := by omega
      have q2 : ¬ ((7 : Int) < (P : Int)) := by omega
      have q3 : (0 : Int) < (Q : Int) := by omega
      have HF : Hid (rightN ⟨0, ps, ks⟩ = false) := (show _ = _ by rw [HRT.out, decide_eq_false (show ¬ ks.length = 0 by rw [← HQ.out]; omega)]; rfl)
      go_enter Tryz.func66, Tryz.ntmps66
      go_wp2
      go_ret
      exact ⟨by rw [HF.out]; rfl, HB0.out⟩
    have q1 : ¬ ((P : Int) < 1) := by omega
    have q2 : ¬ ((7 : Int) < (P : Int)) := by omega
    have HRT2 : Hid (rightN ⟨0, ps, ks⟩ = okPairs ps) := (show _ = _ by rw [HRT.out, decide_eq_true (show ks.length = 0 by rw [← HQ.out]; omega)]; rfl)
    have HP7 : Hid (1 ≤ P ∧ P ≤ 7) := (show _ ∧ _ by omega)
    obtain rfl : Q = 0 := by omega
    clear HRT h1 h2 h6
    go_enter Tryz.func66, Tryz.ntmps66
    go_upto_region 5 with fail
    generalize w.alloc (.cells #[.int .i64 0, .slice ap P cp, .slice aq 0 cq] 60) = W at *
    clear c0 c1 c2 h4 h5 q1 q2
    go_wp2_with fail
    go_loopg [3] P (fun g i wr => ∃ k : Nat, k + g = P ∧ i = .int .i64 (k : Int) ∧ Hid (Below W.heap.size W wr) ∧ Hid (seenP ps k))
    case atStart => exact ⟨0, by omega, rfl, Below.refl _ _, fun i _ hi => by omega⟩
    case round =>
      obtain ⟨k, hkg, rfl, HBW, HSN⟩ := hrel
      obtain ⟨c0, c1, c2⟩ := HC.out _ HBW.out
      cases gk with
      | zero =>
        obtain rfl : k = P := by omega
        have HF : Hid (rightN ⟨0, ps, ks⟩ = true) := (show _ = _ by rw [HRT2.out]; exact seenP_all (by rw [← HP.out]; exact HSN.out) (by rw [← HP.out]; exact HP7.out.1) (by rw [← HP.out]; exact HP7.out.2))
        have q1 : ¬ ((k : Int) < (k : Int)) := by omega
        go_wp2_with fail
        go_loopg [4] 0 (fun g i wy => i = .int .i64 0 ∧ wy = wr)
        case atStart => exact ⟨rfl, rfl⟩
        case round =>
          obtain ⟨rfl, rfl⟩ := hrel
          go_wp2_with fail
          go_ret
          exact ⟨by rw [HF.out]; rfl, HB0.out.trans (HBW.out.mono HB0.out.size)⟩
      | succ g =>
        have hkP : (k : Int) < (P : Int) := by omega
        have hkl : k < ps.length := by rw [← HP.out]; omega
        obtain ⟨g0, off, rfl, hg0, hat, ok⟩ := GP.out k hkl
        have HR1 : Hid (∀ y, Below W.heap.size W y → y.rangeAt g0 (off + k * 25) (ec (Pr.el ps[k]))) := fun y hy => range_same hat (((HB0.out.trans (hy.mono HB0.out.size))).block g0 hg0)
        have cs : wr.cell? ⟨g0, off + k * 25 + 24, none⟩ = some (.string (ps[k]).s) := HR1.out _ HBW.out 24 _ (ec_val ok)
        have hlk : (ps[k]).k.length = 24 := ok.len
        have HLK : Hid ((ps[k]).k.length = 24) := hlk
        clear hat hlk
        by_cases h4 : 40 < (ps[k]).s.size
        · have q1 : (40 : Int) < ((ps[k]).s.size : Int) := by omega
          have HF : Hid (rightN ⟨0, ps, ks⟩ = false) := (show _ = _ by rw [HRT2.out]; exact bad_pair hkl h4)
          go_wp2_with fail
          go_ret
          exact ⟨by rw [HF.out]; rfl, HB0.out.trans (HBW.out.mono HB0.out.size)⟩
        have q1 : ¬ ((40 : Int) < ((ps[k]).s.size : Int)) := by omega
        have H40 : Hid ((ps[k]).s.size ≤ 40) := (show _ ≤ _ by omega)
        clear h4
        have HKK : Hid (∀ y, Below W.heap.size W y → y.rangeAt g0 (off + k * 25) (bc (ps[k]).k)) := fun y hy j u hu => HR1.out y hy j u (ec_key (e := Pr.el ps[k]) hu)
        clear HR1 ok
        by_cases hk0 : k = 0
        · have q2 : decide ((0 : Int) < (k : Int)) = false := decide_eq_false (by omega)
          have q3 : decide (0 < k) = false := decide_eq_false (by omega)
          have HST : Hid (seenP ps (k + 1)) := seenP_step HSN.out hkl H40.out (fun h => by omega)
          clear hk0
          go_upto_region 10 with fail
          refine wp_region_noPanic ?_
          refine wp_region_held_drew (S := (fun y => Below W.heap.size W y)) (by kernel_rfl) HBW.out.drew (fun hHeld => ?_)
          refine wpAnyH_take (i := 0) (v := ?_) rfl (by kernel_rfl) (by kernel_rfl) (by kernel_rfl) (fun _ _ _ h => h) (Or.inl ⟨by rfl, ?_⟩) hHeld ?_
          case refine_2 => (intro w hSw; (try dsimp only at hSw); go_simp; try (with_reducible rfl))
          (try simp only [gs])
          refine wpAnyH_take (i := 1) (v := ?_) rfl (by kernel_rfl) (by kernel_rfl) (by kernel_rfl) (fun _ _ _ h => h) (Or.inl ⟨by rfl, ?_⟩) hHeld ?_
          case refine_2 => (intro w hSw; (try dsimp only at hSw); go_simp; try (with_reducible rfl))
          (try simp only [gs])
          refine wpAnyH_take (i := 2) (v := ?_) rfl (by kernel_rfl) (by kernel_rfl) (by kernel_rfl) (fun _ _ _ h => h) (Or.inl ⟨by rfl, ?_⟩) hHeld ?_
          case refine_2 => (intro w hSw; (try dsimp only at hSw); go_simp; try (with_reducible rfl))
          (try simp only [gs])
          refine wpAnyH_take (i := 3) (v := undef) rfl (by kernel_rfl) (by kernel_rfl) (by kernel_rfl) (fun _ _ _ h => h) (Or.inr ⟨by rfl, rfl⟩) hHeld ?_
          (try simp only [gs])
          refine wpAnyH_take (i := 4) (v := undef) rfl (by kernel_rfl) (by kernel_rfl) (by kernel_rfl) (fun _ _ _ h => h) (Or.inr ⟨by rfl, rfl⟩) hHeld ?_
          (try simp only [gs])
          refine wpAnyH_take (i := 5) (v := undef) rfl (by kernel_rfl) (by kernel_rfl) (by kernel_rfl) (fun _ _ _ h => h) (Or.inr ⟨by rfl, rfl⟩) hHeld ?_
          (try simp only [gs])
          refine wpAnyH_take (i := 6) (v := undef) rfl (by kernel_rfl) (by kernel_rfl) (by kernel_rfl) (fun _ _ _ h => h) (Or.inr ⟨by rfl, rfl⟩) hHeld ?_
          (try simp only [gs])
          refine wpAnyH_take (i := 7) (v := undef) rfl (by kernel_rfl) (by kernel_rfl) (by kernel_rfl) (fun _ _ _ h => h) (Or.inr ⟨by rfl, rfl⟩) hHeld ?_
          (try simp only [gs])
          refine wpAnyH_take (i := 8) (v := undef) rfl (by kernel_rfl) (by kernel_rfl) (by kernel_rfl) (fun _ _ _ h => h) (Or.inr ⟨by rfl, rfl⟩) hHeld ?_
          (try simp only [gs])
          refine wpAnyH_take (i := 9) (v := undef) rfl (by kernel_rfl) (by kernel_rfl) (by kernel_rfl) (fun _ _ _ h => h) (Or.inr ⟨by rfl, rfl⟩) hHeld ?_
          (try simp only [gs])
          refine wpAnyH_take (i := 10) (v := undef) rfl (by kernel_rfl) (by kernel_rfl) (by kernel_rfl) (fun _ _ _ h => h) (Or.inr ⟨by rfl, rfl⟩) hHeld ?_
          (try simp only [gs])
          refine wpAnyH_take (i := 11) (v := undef) rfl (by kernel_rfl) (by kernel_rfl) (by kernel_rfl) (fun _ _ _ h => h) (Or.inr ⟨by rfl, rfl⟩) hHeld ?_
          (try simp only [gs])
          refine wpAnyH_take (i := 12) (v := undef) rfl (by kernel_rfl) (by kernel_rfl) (by kernel_rfl) (fun _ _ _ h => h) (Or.inr ⟨by rfl, rfl⟩) hHeld ?_
          (try simp only [gs])
          refine wpAnyH_take (i := 13) (v := undef) rfl (by kernel_rfl) (by kernel_rfl) (by kernel_rfl) (fun _ _ _ h => h) (Or.inr ⟨by rfl, rfl⟩) hHeld ?_
          (try simp only [gs])
          refine wpAnyH_take (i := 14) (v := undef) rfl (by kernel_rfl) (by kernel_rfl) (by kernel_rfl) (fun _ _ _ h => h) (Or.inr ⟨by rfl, rfl⟩) hHeld ?_
          (try simp only [gs])
          refine wpAnyH_take (i := 15) (v := undef) rfl (by kernel_rfl) (by kernel_rfl) (by kernel_rfl) (fun _ _ _ h => h) (Or.inr ⟨by rfl, rfl⟩) hHeld ?_
          (try simp only [gs])
          refine wpAnyH_take (i := 16) (v := undef) rfl (by kernel_rfl) (by kernel_rfl) (by kernel_rfl) (fun _ _ _ h => h) (Or.inr ⟨by rfl, rfl⟩) hHeld ?_
          (try simp only [gs])
          refine wpAnyH_take (i := 17) (v := undef) rfl (by kernel_rfl) (by kernel_rfl) (by kernel_rfl) (fun _ _ _ h => h) (Or.inr ⟨by rfl, rfl⟩) hHeld ?_
          (try simp only [gs])
          refine wpAnyH_take (i := 18) (v := ?_) rfl (by kernel_rfl) (by kernel_rfl) (by kernel_rfl) (fun _ _ _ h => h) (Or.inl ⟨by rfl, ?_⟩) hHeld ?_
          case refine_2 => (intro w hSw; (try dsimp only at hSw); go_simp; try (with_reducible rfl))
          (try simp only [gs])
          refine wpAnyH_done (by kernel_rfl) ?_ _
          refine NoPanic.normal ?_
          go_wp2_with fail
          go_roundg g
          case measure => omega
          case rel => exact ⟨k + 1, by omega, num_succ (by have := HP7.out; omega), hHeld, HST.out⟩
        · have q2 : decide ((0 : Int) < (k : Int)) = true := decide_eq_true (by omega)
          have q3 : decide (0 < k) = true := decide_eq_true (by omega)
          have q4 : 0 < k := by omega
          obtain ⟨J, hJ⟩ : ∃ J : Nat, k = J + 1 := ⟨k - 1, by omega⟩
          have hw1 : wrap64 ((k : Int) - 1) = (J : Int) := by rw [hJ]; have := HP7.out; unfold wrap64; omega
          have hw0 : (k : Int) - 1 = (J : Int) := by omega
          have hw2 : IntKind.i64.wrap (J : Int) = (J : Int) := by have hJ7 : J < 100 := (by have := HP7.out; omega); first | (rw [IntKind.wrap_i64]; unfold wrap64; omega) | (rw [IntKind.wrap_i64]; omega) | (unfold IntKind.wrap; simp; omega)
          have hJP : (J : Int) < (P : Int) := by omega
          have hJl : J < ps.length := by omega
          obtain ⟨g1, off1, e1, hg1, hat1, ok1⟩ := GP.out J hJl
          cases e1
          have HJJ : Hid (∀ y, Below W.heap.size W y → y.rangeAt g0 (off + J * 25) (bc (ps[J]).k)) := fun y hy j u hu => range_same hat1 (((HB0.out.trans (hy.mono HB0.out.size))).block g0 hg0) j u (ec_key (e := Pr.el ps[J]) hu)
          have HLJ : Hid ((ps[J]).k.length = 24) := ok1.len
          have HBAD : Hid (Op.bytesLess (ps[J]).k (ps[k]).k = false → rightN ⟨0, ps, ks⟩ = false) := fun hb => by
            rw [HRT2.out]
            subst hJ
            exact bad_rise hkl hb
          have HST : Hid (Op.bytesLess (ps[J]).k (ps[k]).k = true → seenP ps (k + 1)) := fun hb => seenP_step HSN.out hkl H40.out (fun _ => by
            subst hJ
            exact hb)
          have hi1 : (Tryz.prog.info? 25).map (·.size) = some (bc (ps[J]).k).length := by rw [bc_length, HLJ.out]; exact Tryz.key_info
          have hi2 : (Tryz.prog.info? 25).map (·.size) = some (bc (ps[k]).k).length := by rw [bc_length, HLK.out]; exact Tryz.key_info
          have HCL : Hid (∀ y, Calls Tryz.prog 55 #[kv (ps[J]).k, kv (ps[k]).k] y fun e w' => e = .returned (.bool (Op.bytesLess (ps[J]).k (ps[k]).k)) ∧ Below y.heap.size y w') := fun y => rless_calls y _ _ HLJ.out HLK.out
          clear hk0 hat1 ok1 hJ
          generalize (ps[J]).k = KJ at *
          generalize (ps[k]).k = KK at *
          go_upto_region 10 with fail
          refine wp_region_noPanic ?_
          refine wp_region_held_drew (S := (fun y => Below W.heap.size W y)) (by kernel_rfl) HBW.out.drew (fun hHeld => ?_)
          refine wpAnyH_take (i := 0) (v := ?_) rfl (by kernel_rfl) (by kernel_rfl) (by kernel_rfl) (fun _ _ _ h => h) (Or.inl ⟨by rfl, ?_⟩) hHeld ?_
          case refine_2 => (intro w hSw; (try dsimp only at hSw); obtain ⟨d0, d1, d2⟩ := HC.out _ hSw; go_simp; try (with_reducible rfl))
          (try simp only [gs])
          refine wpAnyH_take (i := 1) (v := ?_) rfl (by kernel_rfl) (by kernel_rfl) (by kernel_rfl) (fun _ _ _ h => h) (Or.inl ⟨by rfl, ?_⟩) hHeld ?_
          case refine_2 => (intro w hSw; (try dsimp only at hSw); obtain ⟨d0, d1, d2⟩ := HC.out _ hSw; go_simp; try (with_reducible rfl))
          (try simp only [gs])
          refine wpAnyH_take (i := 2) (v := ?_) rfl (by kernel_rfl) (by kernel_rfl) (by kernel_rfl) (fun _ _ _ h => h) (Or.inl ⟨by rfl, ?_⟩) hHeld ?_
          case refine_2 => (intro w hSw; (try dsimp only at hSw); obtain ⟨d0, d1, d2⟩ := HC.out _ hSw; go_simp; try (with_reducible rfl))
          (try simp only [gs])
          refine wpAnyH_take (i := 3) (v := ?_) rfl (by kernel_rfl) (by kernel_rfl) (by kernel_rfl) (fun _ _ _ h => h) (Or.inl ⟨by rfl, ?_⟩) hHeld ?_
          case refine_2 => (intro w hSw; (try dsimp only at hSw); obtain ⟨d0, d1, d2⟩ := HC.out _ hSw; go_simp; try (with_reducible rfl))
          (try simp only [gs])
          refine wpAnyH_take (i := 4) (v := ?_) rfl (by kernel_rfl) (by kernel_rfl) (by kernel_rfl) (fun _ _ _ h => h) (Or.inl ⟨by rfl, ?_⟩) hHeld ?_
          case refine_2 => (intro w hSw; (try dsimp only at hSw); obtain ⟨d0, d1, d2⟩ := HC.out _ hSw; go_simp; try (with_reducible rfl))
          (try simp only [gs])
          refine wpAnyH_take (i := 5) (v := ?_) rfl (by kernel_rfl) (by kernel_rfl) (by kernel_rfl) (fun _ _ _ h => h) (Or.inl ⟨by rfl, ?_⟩) hHeld ?_
          case refine_2 => (intro w hSw; (try dsimp only at hSw); obtain ⟨d0, d1, d2⟩ := HC.out _ hSw; go_simp; try (with_reducible rfl))
          (try simp only [gs])
          refine wpAnyH_take (i := 6) (v := ?_) rfl (by kernel_rfl) (by kernel_rfl) (by kernel_rfl) (fun _ _ _ h => h) (Or.inl ⟨by rfl, ?_⟩) hHeld ?_
          case refine_2 => (intro w hSw; (try dsimp only at hSw); obtain ⟨d0, d1, d2⟩ := HC.out _ hSw; go_simp; try (with_reducible rfl))
          (try simp only [gs])
          refine wpAnyH_take (i := 7) (v := ?_) rfl (by kernel_rfl) (by kernel_rfl) (by kernel_rfl) (fun _ _ _ h => h) (Or.inl ⟨by rfl, ?_⟩) hHeld ?_
          case refine_2 => (intro w hSw; (try dsimp only at hSw); obtain ⟨d0, d1, d2⟩ := HC.out _ hSw; go_simp; try (with_reducible rfl))
          (try simp only [gs])
          refine wpAnyH_take (i := 8) (v := ?_) rfl (by kernel_rfl) (by kernel_rfl) (by kernel_rfl) (fun _ _ _ h => h) (Or.inl ⟨by rfl, ?_⟩) hHeld ?_
          case refine_2 => (intro w hSw; (try dsimp only at hSw); obtain ⟨d0, d1, d2⟩ := HC.out _ hSw; go_simp; try (with_reducible rfl))
          (try simp only [gs])
          refine wpAnyH_take (i := 9) rfl (by kernel_rfl) (by kernel_rfl) (by kernel_rfl) (fun _ _ _ h => h) (yieldsIf_load_mid (by rfl) _ _ rfl g0 (off + J * 25) rfl _ _ HJJ.out Tryz.underlying25 rfl hi1) hHeld ?_
          (try simp only [gs])
          refine wpAnyH_take (i := 10) (v := ?_) rfl (by kernel_rfl) (by kernel_rfl) (by kernel_rfl) (fun _ _ _ h => h) (Or.inl ⟨by rfl, ?_⟩) hHeld ?_
          case refine_2 => (intro w hSw; (try dsimp only at hSw); obtain ⟨d0, d1, d2⟩ := HC.out _ hSw; go_simp; try (with_reducible rfl))
          (try simp only [gs])
          refine wpAnyH_take (i := 11) (v := ?_) rfl (by kernel_rfl) (by kernel_rfl) (by kernel_rfl) (fun _ _ _ h => h) (Or.inl ⟨by rfl, ?_⟩) hHeld ?_
          case refine_2 => (intro w hSw; (try dsimp only at hSw); obtain ⟨d0, d1, d2⟩ := HC.out _ hSw; go_simp; try (with_reducible rfl))
          (try simp only [gs])
          refine wpAnyH_take (i := 12) (v := ?_) rfl (by kernel_rfl) (by kernel_rfl) (by kernel_rfl) (fun _ _ _ h => h) (Or.inl ⟨by rfl, ?_⟩) hHeld ?_
          case refine_2 => (intro w hSw; (try dsimp only at hSw); obtain ⟨d0, d1, d2⟩ := HC.out _ hSw; go_simp; try (with_reducible rfl))
          (try simp only [gs])
          refine wpAnyH_take (i := 13) (v := ?_) rfl (by kernel_rfl) (by kernel_rfl) (by kernel_rfl) (fun _ _ _ h => h) (Or.inl ⟨by rfl, ?_⟩) hHeld ?_
          case refine_2 => (intro w hSw; (try dsimp only at hSw); obtain ⟨d0, d1, d2⟩ := HC.out _ hSw; go_simp; try (with_reducible rfl))
          (try simp only [gs])
          refine wpAnyH_take (i := 14) (v := ?_) rfl (by kernel_rfl) (by kernel_rfl) (by kernel_rfl) (fun _ _ _ h => h) (Or.inl ⟨by rfl, ?_⟩) hHeld ?_
          case refine_2 => (intro w hSw; (try dsimp only at hSw); obtain ⟨d0, d1, d2⟩ := HC.out _ hSw; go_simp; try (with_reducible rfl))
          (try simp only [gs])
          refine wpAnyH_take (i := 15) rfl (by kernel_rfl) (by kernel_rfl) (by kernel_rfl) (fun _ _ _ h => h) (yieldsIf_load_mid (by rfl) _ _ rfl g0 (off + k * 25) rfl _ _ HKK.out Tryz.underlying25 rfl hi2) hHeld ?_
          (try simp only [gs])
          refine wpAnyH_ready (rs := [16]) (by kernel_rfl) (by simp) (AllReadyH.cons rfl (fun K hK => ?_) AllReadyH.nil)
          rw [if_pos (by rfl)]
          (try simp only [gs])
          go_simp
          refine (HCL.out _).mono ?_
          rintro e y2 ⟨rfl, b2⟩
          have bz : Below W.heap.size W y2 := hHeld.trans (b2.mono hHeld.size)
          refine hK.out _ _ bz (fun h2 => ?_)
          clear hK K
          (try simp only [gs])
          refine wpAnyH_take (i := 17) (v := ?_) rfl (by kernel_rfl) (by kernel_rfl) (by kernel_rfl) (fun _ _ _ h => h) (Or.inl ⟨by rfl, ?_⟩) h2 ?_
          case refine_2 => (intro w hSw; (try dsimp only at hSw); go_simp; try (with_reducible rfl))
          (try simp only [gs])
          refine wpAnyH_take (i := 18) (v := ?_) rfl (by kernel_rfl) (by kernel_rfl) (by kernel_rfl) (fun _ _ _ h => h) (Or.inl ⟨by rfl, ?_⟩) h2 ?_
          case refine_2 => (intro w hSw; (try dsimp only at hSw); go_simp; try (with_reducible rfl))
          (try simp only [gs])
          refine wpAnyH_done (by kernel_rfl) ?_ _
          refine NoPanic.normal ?_
          have HBZ : Hid (Below W.heap.size W y2) := bz
          clear bz h2 b2 hHeld
          cases hb : Op.bytesLess KJ KK with
          | false =>
            have HF := HBAD.out hb
            have HF2 : Hid (rightN ⟨0, ps, ks⟩ = false) := HF
            clear HF
            go_wp2_with fail
            go_ret
            exact ⟨by rw [HF2.out]; rfl, HB0.out.trans (HBZ.out.mono HB0.out.size)⟩
          | true =>
            have HS2 : Hid (seenP ps (k + 1)) := HST.out hb
            go_wp2_with fail
            go_roundg g
            case measure => omega
            case rel => exact ⟨k + 1, by omega, num_succ (by have := HP7.out; omega), HBZ.out, HS2.out⟩
  · have HRT : Hid (rightN ⟨lv, ps, ks⟩ = (decide (ps.length = 0) && okKids ks)) := (show _ = _ by rw [rightN, if_neg (show ¬ (lv < 0 ∨ 12 ≤ lv) by omega), if_neg h3])
    have z0 : (lv == 0) = false := by simpa using h3
    have z1 : 0 < lv := by omega
    by_cases h4 : Q < 2
    · have q1 : (Q : Int) < 2 := by omega
      have HF : Hid (rightN ⟨lv, ps, ks⟩ = false) := (show _ = _ by rw [HRT.out, okKids, decide_eq_false (show ¬ 2 ≤ ks.length by rw [← HQ.out]; omega)]; simp)
      go_enter Tryz.func66, Tryz.ntmps66
      go_wp2
      go_ret
      exact ⟨by rw [HF.out]; rfl, HB0.out⟩
    by_cases h5 : 18 < Q
    · have q1 : ¬ ((Q : Int) < 2) := by omega
      have q2 : (18 : Int) < (Q : Int) := by omega
      have HF : Hid (rightN ⟨lv, ps, ks⟩ = false) := (show _ = _ by rw [HRT.out, okKids, decide_eq_false (show ¬ ks.length ≤ 18 by rw [← HQ.out]; omega)]; simp)
      go_enter Tryz.func66, Tryz.ntmps66
      go_wp2
      go_ret
      exact ⟨by rw [HF.out]; rfl, HB0.out⟩
    by_cases h6 : 0 < P
    · have q1 : ¬ ((Q : Int) < 2) := by omega
      have q2 : ¬ ((18 : Int) < (Q : Int)) := by omega
      have q3 : (0 : Int) < (P : Int) := by omega
      have HF : Hid (rightN ⟨lv, ps, ks⟩ = false) := (show _ = _ by rw [HRT.out, decide_eq_false (show ¬ ps.length = 0 by rw [← HP.out]; omega)]; rfl)
      go_enter Tryz.func66, Tryz.ntmps66
      go_wp2
      go_ret
      exact ⟨by rw [HF.out]; rfl, HB0.out⟩
    have q1 : ¬ ((Q : Int) < 2) := by omega
    have q2 : ¬ ((18 : Int) < (Q : Int)) := by omega
    have HRT2 : Hid (rightN ⟨lv, ps, ks⟩ = okKids ks) := (show _ = _ by rw [HRT.out, decide_eq_true (show ps.length = 0 by rw [← HP.out]; omega)]; rfl)
    have HQ18 : Hid (2 ≤ Q ∧ Q ≤ 18) := (show _ ∧ _ by omega)
    obtain rfl : P = 0 := by omega
    clear HRT h6
    go_enter Tryz.func66, Tryz.ntmps66
    go_upto_region 5 with fail
    generalize w.alloc (.cells #[.int .i64 lv, .slice ap 0 cp, .slice aq Q cq] 60) = W at *
    have C1 := c1
    clear c0 c2 h4 h5 q1 q2 h1 h2 h3 z0 z1
    go_wp2_with fail
    go_loopg [3] 0 (fun g i wy => i = .int .i64 0 ∧ W = wy)
    case atStart => exact ⟨rfl, rfl⟩
    case round =>
      obtain ⟨rfl, rfl⟩ := hrel
      go_wp2_with fail
      go_loopg [4, 5] Q (fun g i _ wr => ∃ k : Nat, k + g = Q ∧ i = .int .i64 (k : Int) ∧ Hid (Below W.heap.size W wr) ∧ Hid (seenK ks k))
      case atStart => exact ⟨0, by omega, rfl, Below.refl _ _, fun i _ hi => by omega⟩
      case round =>
        obtain ⟨k, hkg, rfl, HBW, HSN⟩ := hrel
        obtain ⟨c0, c1, c2⟩ := HC.out _ HBW.out
        cases gk with
        | zero =>
          obtain rfl : k = Q := by omega
          have HF : Hid (rightN ⟨lv, ps, ks⟩ = true) := (show _ = _ by rw [HRT2.out]; exact seenK_all (by rw [← HQ.out]; exact HSN.out) (by rw [← HQ.out]; exact HQ18.out.1) (by rw [← HQ.out]; exact HQ18.out.2))
          have q1 : ¬ ((k : Int) < (k : Int)) := by omega
          go_wp2_with fail
          go_ret
          exact ⟨by rw [HF.out]; rfl, HB0.out.trans (HBW.out.mono HB0.out.size)⟩
        | succ g =>
          have hkQ : (k : Int) < (Q : Int) := by omega
          have hkl : k < ks.length := by rw [← HQ.out]; omega
          obtain ⟨g0, off, rfl, hg0, hat, ok⟩ := GQ.out k hkl
          have HV : Hid (∀ i (hi : i < ks.length) y, Below W.heap.size W y → y.cell? ⟨g0, off + i * 25 + 24, none⟩ = some (.int .i64 (ks[i]).n)) := fun i hi y hy => by
            obtain ⟨g1, off1, e1, _, hat1, ok1⟩ := GQ.out i hi
            cases e1
            exact range_same hat1 (((HB0.out.trans (hy.mono HB0.out.size))).block g0 hg0) 24 _ (ec_val ok1)
          have HKS : Hid (∀ i (hi : i < ks.length) y, Below W.heap.size W y → y.rangeAt g0 (off + i * 25) (bc (ks[i]).k)) := fun i hi y hy j u hu => by
            obtain ⟨g1, off1, e1, _, hat1, ok1⟩ := GQ.out i hi
            cases e1
            exact range_same hat1 (((HB0.out.trans (hy.mono HB0.out.size))).block g0 hg0) j u (ec_key (e := Kd.el ks[i]) hu)
          have HLS : Hid (∀ i (hi : i < ks.length), (ks[i]).k.length = 24) := fun i hi => by
            obtain ⟨g1, off1, e1, _, hat1, ok1⟩ := GQ.out i hi
            exact ok1.len
          have cs := HV.out k hkl _ HBW.out
          clear hat ok
          by_cases h4 : (ks[k]).n < 2
          · have HF : Hid (rightN ⟨lv, ps, ks⟩ = false) := (show _ = _ by rw [HRT2.out]; exact bad_kid hkl (by simp [badK, h4]))
            go_wp2_with fail
            go_ret
            exact ⟨by rw [HF.out]; rfl, HB0.out.trans (HBW.out.mono HB0.out.size)⟩
          by_cases h5 : 4294967295 < (ks[k]).n
          · have HF : Hid (rightN ⟨lv, ps, ks⟩ = false) := (show _ = _ by rw [HRT2.out]; exact bad_kid hkl (by simp [badK, h5]))
            go_wp2_with fail
            go_ret
            exact ⟨by rw [HF.out]; rfl, HB0.out.trans (HBW.out.mono HB0.out.size)⟩
          have HNB : Hid (badK ks[k] = false) := (show _ = _ by simp [badK]; omega)
          by_cases hk0 : k = 0
          · have q2 : decide ((0 : Int) < (k : Int)) = false := decide_eq_false (by omega)
            have q3 : decide (0 < k) = false := decide_eq_false (by omega)
            have HRS : Hid (0 < k → Op.bytesLess (ks[k - 1]'(Nat.lt_of_le_of_lt (Nat.sub_le _ _) hkl)).k (ks[k]).k = true) := fun h => by omega
            clear hk0
            go_upto_region 17 with fail
            clear h4 h5
            refine wp_region_noPanic ?_
            refine wp_region_held_drew (S := (fun y => Below W.heap.size W y)) (by kernel_rfl) HBW.out.drew (fun hHeld => ?_)
            refine wpAnyH_take (i := 0) (v := ?_) rfl (by kernel_rfl) (by kernel_rfl) (by kernel_rfl) (fun _ _ _ h => h) (Or.inl ⟨by rfl, ?_⟩) hHeld ?_
            case refine_2 => (intro w hSw; (try dsimp only at hSw); go_simp; try (with_reducible rfl))
            (try simp only [gs])
            refine wpAnyH_take (i := 1) (v := ?_) rfl (by kernel_rfl) (by kernel_rfl) (by kernel_rfl) (fun _ _ _ h => h) (Or.inl ⟨by rfl, ?_⟩) hHeld ?_
            case refine_2 => (intro w hSw; (try dsimp only at hSw); go_simp; try (with_reducible rfl))
            (try simp only [gs])
            refine wpAnyH_take (i := 2) (v := ?_) rfl (by kernel_rfl) (by kernel_rfl) (by kernel_rfl) (fun _ _ _ h => h) (Or.inl ⟨by rfl, ?_⟩) hHeld ?_
            case refine_2 => (intro w hSw; (try dsimp only at hSw); go_simp; try (with_reducible rfl))
            (try simp only [gs])
            refine wpAnyH_take (i := 3) (v := undef) rfl (by kernel_rfl) (by kernel_rfl) (by kernel_rfl) (fun _ _ _ h => h) (Or.inr ⟨by rfl, rfl⟩) hHeld ?_
            (try simp only [gs])
            refine wpAnyH_take (i := 4) (v := undef) rfl (by kernel_rfl) (by kernel_rfl) (by kernel_rfl) (fun _ _ _ h => h) (Or.inr ⟨by rfl, rfl⟩) hHeld ?_
            (try simp only [gs])
            refine wpAnyH_take (i := 5) (v := undef) rfl (by kernel_rfl) (by kernel_rfl) (by kernel_rfl) (fun _ _ _ h => h) (Or.inr ⟨by rfl, rfl⟩) hHeld ?_
            (try simp only [gs])
            refine wpAnyH_take (i := 6) (v := undef) rfl (by kernel_rfl) (by kernel_rfl) (by kernel_rfl) (fun _ _ _ h => h) (Or.inr ⟨by rfl, rfl⟩) hHeld ?_
            (try simp only [gs])
            refine wpAnyH_take (i := 7) (v := undef) rfl (by kernel_rfl) (by kernel_rfl) (by kernel_rfl) (fun _ _ _ h => h) (Or.inr ⟨by rfl, rfl⟩) hHeld ?_
            (try simp only [gs])
            refine wpAnyH_take (i := 8) (v := undef) rfl (by kernel_rfl) (by kernel_rfl) (by kernel_rfl) (fun _ _ _ h => h) (Or.inr ⟨by rfl, rfl⟩) hHeld ?_
            (try simp only [gs])
            refine wpAnyH_take (i := 9) (v := undef) rfl (by kernel_rfl) (by kernel_rfl) (by kernel_rfl) (fun _ _ _ h => h) (Or.inr ⟨by rfl, rfl⟩) hHeld ?_
            (try simp only [gs])
            refine wpAnyH_take (i := 10) (v := undef) rfl (by kernel_rfl) (by kernel_rfl) (by kernel_rfl) (fun _ _ _ h => h) (Or.inr ⟨by rfl, rfl⟩) hHeld ?_
            (try simp only [gs])
            refine wpAnyH_take (i := 11) (v := undef) rfl (by kernel_rfl) (by kernel_rfl) (by kernel_rfl) (fun _ _ _ h => h) (Or.inr ⟨by rfl, rfl⟩) hHeld ?_
            (try simp only [gs])
            refine wpAnyH_take (i := 12) (v := undef) rfl (by kernel_rfl) (by kernel_rfl) (by kernel_rfl) (fun _ _ _ h => h) (Or.inr ⟨by rfl, rfl⟩) hHeld ?_
            (try simp only [gs])
            refine wpAnyH_take (i := 13) (v := undef) rfl (by kernel_rfl) (by kernel_rfl) (by kernel_rfl) (fun _ _ _ h => h) (Or.inr ⟨by rfl, rfl⟩) hHeld ?_
            (try simp only [gs])
            refine wpAnyH_take (i := 14) (v := undef) rfl (by kernel_rfl) (by kernel_rfl) (by kernel_rfl) (fun _ _ _ h => h) (Or.inr ⟨by rfl, rfl⟩) hHeld ?_
            (try simp only [gs])
            refine wpAnyH_take (i := 15) (v := undef) rfl (by kernel_rfl) (by kernel_rfl) (by kernel_rfl) (fun _ _ _ h => h) (Or.inr ⟨by rfl, rfl⟩) hHeld ?_
            (try simp only [gs])
            refine wpAnyH_take (i := 16) (v := undef) rfl (by kernel_rfl) (by kernel_rfl) (by kernel_rfl) (fun _ _ _ h => h) (Or.inr ⟨by rfl, rfl⟩) hHeld ?_
            (try simp only [gs])
            refine wpAnyH_take (i := 17) (v := undef) rfl (by kernel_rfl) (by kernel_rfl) (by kernel_rfl) (fun _ _ _ h => h) (Or.inr ⟨by rfl, rfl⟩) hHeld ?_
            (try simp only [gs])
            refine wpAnyH_take (i := 18) (v := ?_) rfl (by kernel_rfl) (by kernel_rfl) (by kernel_rfl) (fun _ _ _ h => h) (Or.inl ⟨by rfl, ?_⟩) hHeld ?_
            case refine_2 => (intro w hSw; (try dsimp only at hSw); go_simp; try (with_reducible rfl))
            (try simp only [gs])
            refine wpAnyH_done (by kernel_rfl) ?_ _
            refine NoPanic.normal ?_
            generalize wr.drew = Y at *
            have HBZ : Hid (Below W.heap.size W Y) := hHeld
            clear hHeld
            clear cs c0 c1 c2
            go_wp2_with fail
            go_loopg [5] k (fun g j wy => ∃ m d : Nat, m + g = k ∧ j = .int .i64 (m : Int) ∧ wy = Y.drewN d ∧ Hid (∀ i (hi : i < ks.length), i < m → ¬ (ks[i]).n = (ks[k]).n))
            case atStart => exact ⟨0, 0, by omega, rfl, rfl, fun i _ hi => by omega⟩
            case round =>
              obtain ⟨m, d, hmg, rfl, rfl, HA⟩ := hrel
              have HBD : Hid (Below W.heap.size W (Y.drewN d)) := below_drewN HBZ.out d
              cases gk with
              | zero =>
                obtain rfl : m = k := by omega
                have HS2 : Hid (seenK ks (m + 1)) := seenK_step HSN.out hkl HNB.out HRS.out (apart_all hkl HA.out)
                have q1 : ¬ ((m : Int) < (m : Int)) := by omega
                go_wp2_with fail
                go_roundg g
                case measure => omega
                case rel => exact ⟨m + 1, by omega, num_succ (by have := HQ18.out; omega), HBD.out, HS2.out⟩
              | succ g3 =>
                have hmk : (m : Int) < (k : Int) := by omega
                have hmQ : (m : Int) < (Q : Int) := by omega
                have hml : m < ks.length := by omega
                have v1 := HV.out m hml _ HBZ.out
                have v2 := HV.out k hkl _ HBZ.out
                obtain ⟨c0, c1, c2⟩ := HC.out _ HBZ.out
                by_cases hn : (ks[m]).n = (ks[k]).n
                · have e : ((ks[m]).n == (ks[k]).n) = true := by simpa using hn
                  have HF : Hid (rightN ⟨lv, ps, ks⟩ = false) := (show _ = _ by rw [HRT2.out]; exact bad_apart hkl (by omega) hn)
                  clear hn
                  generalize (ks[m]).n = nm at *
                  generalize (ks[k]).n = nk at *
                  go_upto_region 22 with fail
                  go_quiet (fail)
                  go_wp2_with fail
                  go_ret
                  exact ⟨by rw [HF.out]; rfl, HB0.out.trans ((below_drewN HBD.out _).mono HB0.out.size)⟩
                · have e : ((ks[m]).n == (ks[k]).n) = false := by simpa using hn
                  have HA2 : Hid (∀ i (hi : i < ks.length), i < m + 1 → ¬ (ks[i]).n = (ks[k]).n) := fun i hi him => by
                    by_cases e2 : i = m
                    · subst e2; exact hn
                    · exact HA.out i hi (by omega)
                  clear hn
                  go_upto_region 22 with fail
                  go_quiet (fail)
                  go_wp2_with fail
                  go_roundg g3
                  case measure => omega
                  case rel => exact ⟨m + 1, _, by omega, num_succ (by have := HQ18.out; omega), (by first | rfl | exact World.drewN_drewN ..), HA2.out⟩
          · have q2 : decide ((0 : Int) < (k : Int)) = true := decide_eq_true (by omega)
            have q3 : decide (0 < k) = true := decide_eq_true (by omega)
            have q4 : 0 < k := by omega
            obtain ⟨J, hJ⟩ : ∃ J : Nat, k = J + 1 := ⟨k - 1, by omega⟩
            have hw1 : wrap64 ((k : Int) - 1) = (J : Int) := by rw [hJ]; have := HQ18.out; unfold wrap64; omega
            have hw0 : (k : Int) - 1 = (J : Int) := by omega
            have hw2 : IntKind.i64.wrap (J : Int) = (J : Int) := by have hJ7 : J < 100 := (by have := HQ18.out; omega); first | (rw [IntKind.wrap_i64]; unfold wrap64; omega) | (rw [IntKind.wrap_i64]; omega) | (unfold IntKind.wrap; simp; omega)
            have hJQ : (J : Int) < (Q : Int) := by omega
            have hJl : J < ks.length := by omega
            have HJJ : Hid (∀ y, Below W.heap.size W y → y.rangeAt g0 (off + J * 25) (bc (ks[J]).k)) := HKS.out J hJl
            have HKK : Hid (∀ y, Below W.heap.size W y → y.rangeAt g0 (off + k * 25) (bc (ks[k]).k)) := HKS.out k hkl
            have HLJ : Hid ((ks[J]).k.length = 24) := HLS.out J hJl
            have HLK : Hid ((ks[k]).k.length = 24) := HLS.out k hkl
            have HBAD : Hid (Op.bytesLess (ks[J]).k (ks[k]).k = false → rightN ⟨lv, ps, ks⟩ = false) := fun hb => by
              rw [HRT2.out]
              subst hJ
              exact bad_riseK hkl hb
            have HRS0 : Hid (Op.bytesLess (ks[J]).k (ks[k]).k = true → (0 < k → Op.bytesLess (ks[k - 1]'(Nat.lt_of_le_of_lt (Nat.sub_le _ _) hkl)).k (ks[k]).k = true)) := fun hb _ => by
              subst hJ
              exact hb
            have hi1 : (Tryz.prog.info? 25).map (·.size) = some (bc (ks[J]).k).length := by rw [bc_length, HLJ.out]; exact Tryz.key_info
            have hi2 : (Tryz.prog.info? 25).map (·.size) = some (bc (ks[k]).k).length := by rw [bc_length, HLK.out]; exact Tryz.key_info
            have HCL : Hid (∀ y, Calls Tryz.prog 55 #[kv (ks[J]).k, kv (ks[k]).k] y fun e w' => e = .returned (.bool (Op.bytesLess (ks[J]).k (ks[k]).k)) ∧ Below y.heap.size y w') := fun y => rless_calls y _ _ HLJ.out HLK.out
            clear hk0 hJ
            obtain ⟨KJ, hKJ⟩ : ∃ KJ, KJ = (ks[J]).k := ⟨_, rfl⟩
            obtain ⟨KK, hKK⟩ : ∃ KK, KK = (ks[k]).k := ⟨_, rfl⟩
            rw [← hKJ] at HJJ HBAD HRS0 hi1 HCL
            rw [← hKK] at HKK HBAD hi2 HCL
            have HRS1 : Hid (Op.bytesLess KJ KK = true → (0 < k → Op.bytesLess (ks[k - 1]'(Nat.lt_of_le_of_lt (Nat.sub_le _ _) hkl)).k (ks[k]).k = true)) := fun hb => HRS0.out (by rw [← hKK]; exact hb)
            clear hKJ hKK HLJ HLK HRS0
            go_upto_region 17 with fail
            clear h4 h5
            refine wp_region_noPanic ?_
            refine wp_region_held_drew (S := (fun y => Below W.heap.size W y)) (by kernel_rfl) HBW.out.drew (fun hHeld => ?_)
            refine wpAnyH_take (i := 0) (v := ?_) rfl (by kernel_rfl) (by kernel_rfl) (by kernel_rfl) (fun _ _ _ h => h) (Or.inl ⟨by rfl, ?_⟩) hHeld ?_
            case refine_2 => (intro w hSw; (try dsimp only at hSw); obtain ⟨d0, d1, d2⟩ := HC.out _ hSw; go_simp; try (with_reducible rfl))
            (try simp only [gs])
            refine wpAnyH_take (i := 1) (v := ?_) rfl (by kernel_rfl) (by kernel_rfl) (by kernel_rfl) (fun _ _ _ h => h) (Or.inl ⟨by rfl, ?_⟩) hHeld ?_
            case refine_2 => (intro w hSw; (try dsimp only at hSw); obtain ⟨d0, d1, d2⟩ := HC.out _ hSw; go_simp; try (with_reducible rfl))
            (try simp only [gs])
            refine wpAnyH_take (i := 2) (v := ?_) rfl (by kernel_rfl) (by kernel_rfl) (by kernel_rfl) (fun _ _ _ h => h) (Or.inl ⟨by rfl, ?_⟩) hHeld ?_
            case refine_2 => (intro w hSw; (try dsimp only at hSw); obtain ⟨d0, d1, d2⟩ := HC.out _ hSw; go_simp; try (with_reducible rfl))
            (try simp only [gs])
            refine wpAnyH_take (i := 3) (v := ?_) rfl (by kernel_rfl) (by kernel_rfl) (by kernel_rfl) (fun _ _ _ h => h) (Or.inl ⟨by rfl, ?_⟩) hHeld ?_
            case refine_2 => (intro w hSw; (try dsimp only at hSw); obtain ⟨d0, d1, d2⟩ := HC.out _ hSw; go_simp; try (with_reducible rfl))
            (try simp only [gs])
            refine wpAnyH_take (i := 4) (v := ?_) rfl (by kernel_rfl) (by kernel_rfl) (by kernel_rfl) (fun _ _ _ h => h) (Or.inl ⟨by rfl, ?_⟩) hHeld ?_
            case refine_2 => (intro w hSw; (try dsimp only at hSw); obtain ⟨d0, d1, d2⟩ := HC.out _ hSw; go_simp; try (with_reducible rfl))
            (try simp only [gs])
            refine wpAnyH_take (i := 5) (v := ?_) rfl (by kernel_rfl) (by kernel_rfl) (by kernel_rfl) (fun _ _ _ h => h) (Or.inl ⟨by rfl, ?_⟩) hHeld ?_
            case refine_2 => (intro w hSw; (try dsimp only at hSw); obtain ⟨d0, d1, d2⟩ := HC.out _ hSw; go_simp; try (with_reducible rfl))
            (try simp only [gs])
            refine wpAnyH_take (i := 6) (v := ?_) rfl (by kernel_rfl) (by kernel_rfl) (by kernel_rfl) (fun _ _ _ h => h) (Or.inl ⟨by rfl, ?_⟩) hHeld ?_
            case refine_2 => (intro w hSw; (try dsimp only at hSw); obtain ⟨d0, d1, d2⟩ := HC.out _ hSw; go_simp; try (with_reducible rfl))
            (try simp only [gs])
            refine wpAnyH_take (i := 7) (v := ?_) rfl (by kernel_rfl) (by kernel_rfl) (by kernel_rfl) (fun _ _ _ h => h) (Or.inl ⟨by rfl, ?_⟩) hHeld ?_
            case refine_2 => (intro w hSw; (try dsimp only at hSw); obtain ⟨d0, d1, d2⟩ := HC.out _ hSw; go_simp; try (with_reducible rfl))
            (try simp only [gs])
            refine wpAnyH_take (i := 8) (v := ?_) rfl (by kernel_rfl) (by kernel_rfl) (by kernel_rfl) (fun _ _ _ h => h) (Or.inl ⟨by rfl, ?_⟩) hHeld ?_
            case refine_2 => (intro w hSw; (try dsimp only at hSw); obtain ⟨d0, d1, d2⟩ := HC.out _ hSw; go_simp; try (with_reducible rfl))
            (try simp only [gs])
            refine wpAnyH_take (i := 9) rfl (by kernel_rfl) (by kernel_rfl) (by kernel_rfl) (fun _ _ _ h => h) (yieldsIf_load_mid (by rfl) _ _ rfl g0 (off + J * 25) rfl _ _ HJJ.out Tryz.underlying25 rfl hi1) hHeld ?_
            (try simp only [gs])
            refine wpAnyH_take (i := 10) (v := ?_) rfl (by kernel_rfl) (by kernel_rfl) (by kernel_rfl) (fun _ _ _ h => h) (Or.inl ⟨by rfl, ?_⟩) hHeld ?_
            case refine_2 => (intro w hSw; (try dsimp only at hSw); obtain ⟨d0, d1, d2⟩ := HC.out _ hSw; go_simp; try (with_reducible rfl))
            (try simp only [gs])
            refine wpAnyH_take (i := 11) (v := ?_) rfl (by kernel_rfl) (by kernel_rfl) (by kernel_rfl) (fun _ _ _ h => h) (Or.inl ⟨by rfl, ?_⟩) hHeld ?_
            case refine_2 => (intro w hSw; (try dsimp only at hSw); obtain ⟨d0, d1, d2⟩ := HC.out _ hSw; go_simp; try (with_reducible rfl))
            (try simp only [gs])
            refine wpAnyH_take (i := 12) (v := ?_) rfl (by kernel_rfl) (by kernel_rfl) (by kernel_rfl) (fun _ _ _ h => h) (Or.inl ⟨by rfl, ?_⟩) hHeld ?_
            case refine_2 => (intro w hSw; (try dsimp only at hSw); obtain ⟨d0, d1, d2⟩ := HC.out _ hSw; go_simp; try (with_reducible rfl))
            (try simp only [gs])
            refine wpAnyH_take (i := 13) (v := ?_) rfl (by kernel_rfl) (by kernel_rfl) (by kernel_rfl) (fun _ _ _ h => h) (Or.inl ⟨by rfl, ?_⟩) hHeld ?_
            case refine_2 => (intro w hSw; (try dsimp only at hSw); obtain ⟨d0, d1, d2⟩ := HC.out _ hSw; go_simp; try (with_reducible rfl))
            (try simp only [gs])
            refine wpAnyH_take (i := 14) (v := ?_) rfl (by kernel_rfl) (by kernel_rfl) (by kernel_rfl) (fun _ _ _ h => h) (Or.inl ⟨by rfl, ?_⟩) hHeld ?_
            case refine_2 => (intro w hSw; (try dsimp only at hSw); obtain ⟨d0, d1, d2⟩ := HC.out _ hSw; go_simp; try (with_reducible rfl))
            (try simp only [gs])
            refine wpAnyH_take (i := 15) rfl (by kernel_rfl) (by kernel_rfl) (by kernel_rfl) (fun _ _ _ h => h) (yieldsIf_load_mid (by rfl) _ _ rfl g0 (off + k * 25) rfl _ _ HKK.out Tryz.underlying25 rfl hi2) hHeld ?_
            (try simp only [gs])
            refine wpAnyH_ready (rs := [16]) (by kernel_rfl) (by simp) (AllReadyH.cons rfl (fun K hK => ?_) AllReadyH.nil)
            rw [if_pos (by rfl)]
            (try simp only [gs])
            go_simp
            refine (HCL.out _).mono ?_
            rintro e Y ⟨rfl, b2⟩
            have bz : Below W.heap.size W Y := hHeld.trans (b2.mono hHeld.size)
            refine hK.out _ _ bz (fun h2 => ?_)
            clear hK K
            (try simp only [gs])
            refine wpAnyH_take (i := 17) (v := ?_) rfl (by kernel_rfl) (by kernel_rfl) (by kernel_rfl) (fun _ _ _ h => h) (Or.inl ⟨by rfl, ?_⟩) h2 ?_
            case refine_2 => (intro w hSw; (try dsimp only at hSw); go_simp; try (with_reducible rfl))
            (try simp only [gs])
            refine wpAnyH_take (i := 18) (v := ?_) rfl (by kernel_rfl) (by kernel_rfl) (by kernel_rfl) (fun _ _ _ h => h) (Or.inl ⟨by rfl, ?_⟩) h2 ?_
            case refine_2 => (intro w hSw; (try dsimp only at hSw); go_simp; try (with_reducible rfl))
            (try simp only [gs])
            refine wpAnyH_done (by kernel_rfl) ?_ _
            refine NoPanic.normal ?_
            have HBZ : Hid (Below W.heap.size W Y) := bz
            clear bz h2 b2 hHeld
            cases hb : Op.bytesLess KJ KK with
            | false =>
              have HF2 : Hid (rightN ⟨lv, ps, ks⟩ = false) := HBAD.out hb
              go_wp2_with fail
              go_ret
              exact ⟨by rw [HF2.out]; rfl, HB0.out.trans (HBZ.out.mono HB0.out.size)⟩
            | true =>
              have HRS := HRS1
              have HRS : Hid (0 < k → Op.bytesLess (ks[k - 1]'(Nat.lt_of_le_of_lt (Nat.sub_le _ _) hkl)).k (ks[k]).k = true) := HRS1.out hb
              clear HBAD HRS1 HCL hi1 hi2 hb HJJ HKK
              clear cs c0 c1 c2
              go_wp2_with fail
              go_loopg [5] k (fun g j wy => ∃ m d : Nat, m + g = k ∧ j = .int .i64 (m : Int) ∧ wy = Y.drewN d ∧ Hid (∀ i (hi : i < ks.length), i < m → ¬ (ks[i]).n = (ks[k]).n))
              case atStart => exact ⟨0, 0, by omega, rfl, rfl, fun i _ hi => by omega⟩
              case round =>
                obtain ⟨m, d, hmg, rfl, rfl, HA⟩ := hrel
                have HBD : Hid (Below W.heap.size W (Y.drewN d)) := below_drewN HBZ.out d
                cases gk with
                | zero =>
                  obtain rfl : m = k := by omega
                  have HS2 : Hid (seenK ks (m + 1)) := seenK_step HSN.out hkl HNB.out HRS.out (apart_all hkl HA.out)
                  have q1 : ¬ ((m : Int) < (m : Int)) := by omega
                  go_wp2_with fail
                  go_roundg g
                  case measure => omega
                  case rel => exact ⟨m + 1, by omega, num_succ (by have := HQ18.out; omega), HBD.out, HS2.out⟩
                | succ g3 =>
                  have hmk : (m : Int) < (k : Int) := by omega
                  have hmQ : (m : Int) < (Q : Int) := by omega
                  have hml : m < ks.length := by omega
                  have v1 := HV.out m hml _ HBZ.out
                  have v2 := HV.out k hkl _ HBZ.out
                  obtain ⟨c0, c1, c2⟩ := HC.out _ HBZ.out
                  by_cases hn : (ks[m]).n = (ks[k]).n
                  · have e : ((ks[m]).n == (ks[k]).n) = true := by simpa using hn
                    have HF : Hid (rightN ⟨lv, ps, ks⟩ = false) := (show _ = _ by rw [HRT2.out]; exact bad_apart hkl (by omega) hn)
                    clear hn
                    generalize (ks[m]).n = nm at *
                    generalize (ks[k]).n = nk at *
                    go_upto_region 22 with fail
                    go_quiet (fail)
                    go_wp2_with fail
                    go_ret
                    exact ⟨by rw [HF.out]; rfl, HB0.out.trans ((below_drewN HBD.out _).mono HB0.out.size)⟩
                  · have e : ((ks[m]).n == (ks[k]).n) = false := by simpa using hn
                    have HA2 : Hid (∀ i (hi : i < ks.length), i < m + 1 → ¬ (ks[i]).n = (ks[k]).n) := fun i hi him => by
                      by_cases e2 : i = m
                      · subst e2; exact hn
                      · exact HA.out i hi (by omega)
                    clear hn
                    go_upto_region 22 with fail
                    go_quiet (fail)
                    go_wp2_with fail
                    go_roundg g3
                    case measure => omega
                    case rel => exact ⟨m + 1, _, by omega, num_succ (by have := HQ18.out; omega), (by first | rfl | exact World.drewN_drewN ..), HA2.out⟩
end Go.Proofs.YtjhdnpplmlddaaaGreat
