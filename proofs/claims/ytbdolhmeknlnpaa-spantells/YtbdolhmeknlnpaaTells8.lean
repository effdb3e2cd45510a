/- Sets are what the document says. -/
import Derived.Test.YtbdolhmeknlnpaaTe8H
import Derived.Test.YtbdolhmeknlnpaaSpN
namespace Go.Proofs.Ytbdolhmeknlnpaa
set_option linter.unusedVariables false
open Go.RowKit

theorem any_take {α : Type} (l : List α) (n : Nat) : l.take (min l.length n) = l.take n := by
  by_cases h : l.length ≤ n
  · rw [Nat.min_eq_left h, List.take_length, List.take_of_length_le h]
  · rw [Nat.min_eq_right (by omega)]
set_option maxRecDepth 100000 in
set_option maxHeartbeats 16000000 in
theorem spanTells_walk (w : World) (ua : Value) (a : List Sp) (hua : Sl encS w ua a) (ub : Value) (b : List Sp) (hub : Sl encS w ub b) (uk : Value) (ks : List Ky) (hk : Sl encK w uk ks) :
    Calls Try.prog 3 #[ua, ub, uk] w fun e w' => e = .returned (.bool true) ∧ Below w.heap.size w w' := by
  have H : Hd w w [(ua, a), (ub, b)] := (((Hd.mk (Below.refl _ w) (fun _ h => by cases h) : Hd w w []).add hub).add hua)
  obtain ⟨adua, cpua, rfl, hcua, hmua⟩ := sl_form hua
  obtain ⟨adub, cpub, rfl, hcub, hmub⟩ := sl_form hub
  clear hua hub
  have HCA : Hid (∀ y, Sl encS y (.slice adua a.length cpua) a → Calls Try.prog 10 #[.slice adua a.length cpua] y fun e w' => ∃ v, e = .returned v ∧ Own encS 35 w' y.heap.size v (a.take 30) ∧ Below y.heap.size y w') := fun y h => cut_calls y _ a h
  have hA : (a.take 30).length ≤ 30 := take_len _ _
  generalize a.take 30 = A at *
  have HCB : Hid (∀ y, Sl encS y (.slice adub b.length cpub) b → Calls Try.prog 10 #[.slice adub b.length cpub] y fun e w' => ∃ v, e = .returned v ∧ Own encS 35 w' y.heap.size v (b.take 30) ∧ Below y.heap.size y w') := fun y h => cut_calls y _ b h
  have hB : (b.take 30).length ≤ 30 := take_len _ _
  generalize b.take 30 = B at *
  have hkk := hk
  obtain ⟨adk, cpk, rfl, hck, hmk, _, _⟩ := hkk
  have sk := SlB.take hk (min ks.length 30) (by omega)
  have lk : (ks.take (min ks.length 30)).length = min ks.length 30 := by rw [List.length_take]; omega
  rw [any_take] at sk lk
  have mik : min ((ks.length : Nat) : Int) 30 = ((min ks.length 30 : Nat) : Int) := by omega
  have mjk : min ks.length 30 ≤ cpk ∧ min ks.length 30 ≤ 30 := by omega
  clear hk
  unfold maxLen at hmk
  generalize ks.take 30 = KS at *
  generalize min ks.length 30 = mk at *
  have mkk : ((mk : Nat) : Int) ≤ ((cpk : Nat) : Int) := by omega
  have mlk : (0 : Int) ≤ ((mk : Nat) : Int) := by omega
  have HKK : Hid (Sl encK w (.slice adk mk cpk) KS) := sk
  have HLK : Hid (KS.length = mk) := lk
  clear sk lk
  go_enter Try.func3, Try.ntmps3
  go_wp2_with fail
  refine (shown_calls _).mono ?_
  rintro e x1 ⟨rfl, b1⟩
  replace H := H.called b1
  clear b1
  go_wp2_with fail
  refine (HCA.out _ (H.get (.slice adua a.length cpua) (a) (by simp))).mono ?_
  rintro e x2 ⟨v0, rfl, o2, b2⟩
  replace H := (H.called b2).add o2.slB
  clear o2 b2
  go_wp2_with fail
  refine (HCB.out _ (H.get (.slice adub b.length cpub) (b) (by simp))).mono ?_
  rintro e x3 ⟨v1, rfl, o3, b3⟩
  replace H := (H.called b3).add o3.slB
  clear o3 b3
  go_wp2_with fail
  refine (clean_calls _ _ _ (H.get (v0) (A) (by simp)) (by omega)).mono ?_
  rintro e x4 ⟨vc, Rc, rfl, o4, b4, iRc, lRc⟩
  replace H := (H.called b4).add o4.slB
  clear o4 b4 lRc
  go_wp2_with fail
  refine (HCA.out _ (H.get (.slice adua a.length cpua) (a) (by simp))).mono ?_
  rintro e x5 ⟨v2, rfl, o5, b5⟩
  replace H := (H.called b5).add o5.slB
  clear o5 b5
  go_wp2_with fail
  refine (rclean_calls _ _ _ (H.get (v2) (A) (by simp)) (by omega)).mono ?_
  rintro e x6 ⟨vr, rfl, Rr, s6, iRr, b6⟩
  replace H := (H.called b6).add s6
  clear s6 b6
  go_wp2_with fail
  refine (same_calls _ _ _ _ _ (H.get (vc) (Rc) (by simp)) (H.get (vr) (Rr) (by simp))).mono ?_
  rintro e x7 ⟨rfl, b7⟩
  replace H := H.called b7
  clear b7
  rw [decide_eq_true (show Rc = Rr from iRc.unique iRr (fun K _ => rfl))]
  go_wp2_with fail
  refine (both_calls _ _ _ _ _ (H.get (v0) (A) (by simp)) (H.get (v1) (B) (by simp)) (by omega)).mono ?_
  rintro e x8 ⟨vb, Rb, rfl, o8, b8, iRb, lRb⟩
  replace H := (H.called b8).add o8.slB
  clear o8 b8 lRb
  go_wp2_with fail
  refine (HCA.out _ (H.get (.slice adua a.length cpua) (a) (by simp))).mono ?_
  rintro e x9 ⟨v3, rfl, o9, b9⟩
  replace H := (H.called b9).add o9.slB
  clear o9 b9
  go_wp2_with fail
  refine (HCB.out _ (H.get (.slice adub b.length cpub) (b) (by simp))).mono ?_
  rintro e x10 ⟨v4, rfl, o10, b10⟩
  replace H := (H.called b10).add o10.slB
  clear o10 b10
  go_wp2_with fail
  refine (rboth_calls _ _ _ _ _ (H.get (v3) (A) (by simp)) (H.get (v4) (B) (by simp)) (by omega) (by omega)).mono ?_
  rintro e x11 ⟨vs, rfl, Rs, s11, iRs, b11⟩
  replace H := (H.called b11).add s11
  clear s11 b11
  go_wp2_with fail
  refine (same_calls _ _ _ _ _ (H.get (vb) (Rb) (by simp)) (H.get (vs) (Rs) (by simp))).mono ?_
  rintro e x12 ⟨rfl, b12⟩
  replace H := H.called b12
  clear b12
  rw [decide_eq_true (show Rb = Rs from iRb.unique iRs (fun K _ => rfl))]
  go_wp2_with fail
  refine (lesss_calls _ _ _ _ _ (H.get (v0) (A) (by simp)) (H.get (v1) (B) (by simp)) (by omega)).mono ?_
  rintro e x13 ⟨vl, Rl, rfl, o13, b13, iRl, lRl⟩
  replace H := (H.called b13).add o13.slB
  clear o13 b13 lRl
  go_wp2_with fail
  refine (HCA.out _ (H.get (.slice adua a.length cpua) (a) (by simp))).mono ?_
  rintro e x14 ⟨v5, rfl, o14, b14⟩
  replace H := (H.called b14).add o14.slB
  clear o14 b14
  go_wp2_with fail
  refine (HCB.out _ (H.get (.slice adub b.length cpub) (b) (by simp))).mono ?_
  rintro e x15 ⟨v6, rfl, o15, b15⟩
  replace H := (H.called b15).add o15.slB
  clear o15 b15
  go_wp2_with fail
  refine (rless8_calls _ _ _ _ _ (H.get (v5) (A) (by simp)) (H.get (v6) (B) (by simp)) (by omega) (by omega)).mono ?_
  rintro e x16 ⟨vt, rfl, Rt, s16, iRt, b16⟩
  replace H := (H.called b16).add s16
  clear s16 b16
  go_wp2_with fail
  refine (same_calls _ _ _ _ _ (H.get (vl) (Rl) (by simp)) (H.get (vt) (Rt) (by simp))).mono ?_
  rintro e x17 ⟨rfl, b17⟩
  replace H := H.called b17
  clear b17
  rw [decide_eq_true (show Rl = Rt from iRl.unique iRt (fun K _ => rfl))]
  go_wp2_with fail
  refine (HCA.out _ (H.get (.slice adua a.length cpua) (a) (by simp))).mono ?_
  rintro e x18 ⟨v7, rfl, o18, b18⟩
  replace H := (H.called b18).add o18.slB
  clear o18 b18
  go_wp2_with fail
  refine (HCB.out _ (H.get (.slice adub b.length cpub) (b) (by simp))).mono ?_
  rintro e x19 ⟨v8, rfl, o19, b19⟩
  replace H := (H.called b19).add o19.slB
  clear o19 b19
  go_wp2_with fail
  refine (rboth_calls _ _ _ _ _ (H.get (v7) (A) (by simp)) (H.get (v8) (B) (by simp)) (by omega) (by omega)).mono ?_
  rintro e x20 ⟨vq, rfl, Rq, s20, iRq, b20⟩
  replace H := (H.called b20).add s20
  clear s20 b20
  obtain ⟨advq, cpvq, rfl, hcvq, hmvq⟩ := sl_form (H.get (vq) (Rq) (by simp))
  have H2 : Hd w x20 [(v0, A), (v1, B), (.slice adua a.length cpua, a), (.slice adub b.length cpub, b)] := (((((Hd.mk H.bel (fun _ h => by cases h) : Hd w x20 []).add (H.get (.slice adub b.length cpub) (b) (by simp))).add (H.get (.slice adua a.length cpua) (a) (by simp))).add (H.get (v1) (B) (by simp))).add (H.get (v0) (A) (by simp)))
  clear H
  have H := H2
  clear H2
  generalize x20 = xq at *
  by_cases hq : 0 < Rq.length
  · have hcI : (0 : Int) < (Rq.length : Int) := by omega
    have HQ : Hid (0 < Rq.length) := hq
    clear hq
    go_wp2_with fail
    go_loopg [14] mk (fun gg i wr => ∃ k : Nat, k + gg = mk ∧ i = .int .i64 (k : Int) ∧ Hid (Hd w wr [(v0, A), (v1, B), (.slice adua a.length cpua, a), (.slice adub b.length cpub, b)]))
    case atStart => exact ⟨0, by omega, rfl, H⟩
    case round =>
      obtain ⟨k, hkg, rfl, HL⟩ := hrel
      cases gk with
      | succ gg =>
        have hlt : k < mk := by omega
        have hltI : (k : Int) < (mk : Int) := by omega
        have hk0 : (0 : Int) ≤ (k : Int) := by omega
        have hkl : k < KS.length := by have := HLK.out; omega
        obtain ⟨g, off, rfl, hg, rk⟩ := SlB.at HKK.out k hkl
        have hK := (KS[k]).h
        have HRK : Hid (∀ yy, Below w.heap.size w yy → yy.rangeAt g (off + k * 24) (bc (KS[k]).k)) := fun yy hy => range_same' rk (hy.block g hg)
        have HH1 : Hid (∀ y, Sl encS y v0 A → Calls Try.prog 18 #[v0, kv (KS[k]).k] y fun e w' => e = .returned (.bool (mem A (num (KS[k]).k))) ∧ Below y.heap.size y w') := fun y h => has_calls y v0 A h _ hK
        have HH2 : Hid (∀ y v, Sl encS y v A → Calls Try.prog 19 #[v, kv (KS[k]).k] y fun e w' => e = .returned (.bool (mem A (num (KS[k]).k))) ∧ Below y.heap.size y w') := fun y v h => rhas_calls y v A h _ hK
        clear rk
        have hiK : (Try.prog.info? 30).map (·.size) = some (bc (KS[k]).k).length := by rw [bc_length, hK]; exact Try.key_info
        generalize mem A (num (KS[k]).k) = rs at *
        generalize (KS[k]).k = K0 at *
        go_upto_region 12 with fail
        refine wp_region_noPanic ?_
        refine wp_region_held_drew (S := (fun yy => Hd w yy [(v0, A), (v1, B), (.slice adua a.length cpua, a), (.slice adub b.length cpub, b)])) (by kernel_rfl) HL.out.drew (fun hHeld => ?_)
        refine wpAnyH_take (i := 0) (v := ?_) rfl (by kernel_rfl) (by kernel_rfl) (by kernel_rfl) (fun _ _ _ h => h) (Or.inl ⟨by rfl, ?_⟩) hHeld ?_
        case refine_2 => (intro w hSw; (try dsimp only at hSw); go_simp; try (with_reducible rfl))
        ((try simp only); (try simp only [List.getElem_toArray]); (try simp only [List.getElem_cons_succ]); (try simp only [List.getElem_cons_zero]); (try simp only [Act.put]); (try simp only [List.setIfInBounds_toArray]); (try simp only [List.set_cons_succ]); (try simp only [List.set_cons_zero]))
        refine wpAnyH_take (i := 1) (v := ?_) rfl (by kernel_rfl) (by kernel_rfl) (by kernel_rfl) (fun _ _ _ h => h) (Or.inl ⟨by rfl, ?_⟩) hHeld ?_
        case refine_2 => (intro w hSw; (try dsimp only at hSw); go_simp; try (with_reducible rfl))
        ((try simp only); (try simp only [List.getElem_toArray]); (try simp only [List.getElem_cons_succ]); (try simp only [List.getElem_cons_zero]); (try simp only [Act.put]); (try simp only [List.setIfInBounds_toArray]); (try simp only [List.set_cons_succ]); (try simp only [List.set_cons_zero]))
        refine wpAnyH_take (i := 2) (v := ?_) rfl (by kernel_rfl) (by kernel_rfl) (by kernel_rfl) (fun _ _ _ h => h) (Or.inl ⟨by rfl, ?_⟩) hHeld ?_
        case refine_2 => (intro w hSw; (try dsimp only at hSw); go_simp; try (with_reducible rfl))
        ((try simp only); (try simp only [List.getElem_toArray]); (try simp only [List.getElem_cons_succ]); (try simp only [List.getElem_cons_zero]); (try simp only [Act.put]); (try simp only [List.setIfInBounds_toArray]); (try simp only [List.set_cons_succ]); (try simp only [List.set_cons_zero]))
        refine wpAnyH_take (i := 3) (v := ?_) rfl (by kernel_rfl) (by kernel_rfl) (by kernel_rfl) (fun _ _ _ h => h) (Or.inl ⟨by rfl, ?_⟩) hHeld ?_
        case refine_2 => (intro w hSw; (try dsimp only at hSw); go_simp; try (with_reducible rfl))
        ((try simp only); (try simp only [List.getElem_toArray]); (try simp only [List.getElem_cons_succ]); (try simp only [List.getElem_cons_zero]); (try simp only [Act.put]); (try simp only [List.setIfInBounds_toArray]); (try simp only [List.set_cons_succ]); (try simp only [List.set_cons_zero]))
        refine wpAnyH_take (i := 4) rfl (by kernel_rfl) (by kernel_rfl) (by kernel_rfl) (fun _ _ _ h => h) (yieldsIf_load_mid (by rfl) _ _ rfl _ _ rfl _ _ (fun yy h => HRK.out yy h.bel) Try.underlying30 rfl hiK) hHeld ?_
        ((try simp only); (try simp only [List.getElem_toArray]); (try simp only [List.getElem_cons_succ]); (try simp only [List.getElem_cons_zero]); (try simp only [Act.put]); (try simp only [List.setIfInBounds_toArray]); (try simp only [List.set_cons_succ]); (try simp only [List.set_cons_zero]))
        refine wpAnyH_take (i := 6) (v := ?_) rfl (by kernel_rfl) (by kernel_rfl) (by kernel_rfl) (fun _ _ _ h => h) (Or.inl ⟨by rfl, ?_⟩) hHeld ?_
        case refine_2 => (intro w hSw; (try dsimp only at hSw); go_simp; try (with_reducible rfl))
        ((try simp only); (try simp only [List.getElem_toArray]); (try simp only [List.getElem_cons_succ]); (try simp only [List.getElem_cons_zero]); (try simp only [Act.put]); (try simp only [List.setIfInBounds_toArray]); (try simp only [List.set_cons_succ]); (try simp only [List.set_cons_zero]))
        refine wpAnyH_take (i := 8) (v := ?_) rfl (by kernel_rfl) (by kernel_rfl) (by kernel_rfl) (fun _ _ _ h => h) (Or.inl ⟨by rfl, ?_⟩) hHeld ?_
        case refine_2 => (intro w hSw; (try dsimp only at hSw); go_simp; try (with_reducible rfl))
        ((try simp only); (try simp only [List.getElem_toArray]); (try simp only [List.getElem_cons_succ]); (try simp only [List.getElem_cons_zero]); (try simp only [Act.put]); (try simp only [List.setIfInBounds_toArray]); (try simp only [List.set_cons_succ]); (try simp only [List.set_cons_zero]))
        refine wpAnyH_take (i := 9) (v := ?_) rfl (by kernel_rfl) (by kernel_rfl) (by kernel_rfl) (fun _ _ _ h => h) (Or.inl ⟨by rfl, ?_⟩) hHeld ?_
        case refine_2 => (intro w hSw; (try dsimp only at hSw); go_simp; try (with_reducible rfl))
        ((try simp only); (try simp only [List.getElem_toArray]); (try simp only [List.getElem_cons_succ]); (try simp only [List.getElem_cons_zero]); (try simp only [Act.put]); (try simp only [List.setIfInBounds_toArray]); (try simp only [List.set_cons_succ]); (try simp only [List.set_cons_zero]))
        refine wpAnyH_take (i := 10) (v := ?_) rfl (by kernel_rfl) (by kernel_rfl) (by kernel_rfl) (fun _ _ _ h => h) (Or.inl ⟨by rfl, ?_⟩) hHeld ?_
        case refine_2 => (intro w hSw; (try dsimp only at hSw); go_simp; try (with_reducible rfl))
        ((try simp only); (try simp only [List.getElem_toArray]); (try simp only [List.getElem_cons_succ]); (try simp only [List.getElem_cons_zero]); (try simp only [Act.put]); (try simp only [List.setIfInBounds_toArray]); (try simp only [List.set_cons_succ]); (try simp only [List.set_cons_zero]))
        refine wpAnyH_take (i := 11) rfl (by kernel_rfl) (by kernel_rfl) (by kernel_rfl) (fun _ _ _ h => h) (yieldsIf_load_mid (by rfl) _ _ rfl _ _ rfl _ _ (fun yy h => HRK.out yy h.bel) Try.underlying30 rfl hiK) hHeld ?_
        ((try simp only); (try simp only [List.getElem_toArray]); (try simp only [List.getElem_cons_succ]); (try simp only [List.getElem_cons_zero]); (try simp only [Act.put]); (try simp only [List.setIfInBounds_toArray]); (try simp only [List.set_cons_succ]); (try simp only [List.set_cons_zero]))
        refine wpAnyH_ready (rs := [5]) (by kernel_rfl) (by simp) (AllReadyH.cons rfl (fun K hK => ?_) AllReadyH.nil)
        rw [if_pos (by rfl)]
        ((try simp only); (try simp only [List.getElem_toArray]); (try simp only [List.getElem_cons_succ]); (try simp only [List.getElem_cons_zero]); (try simp only [Act.put]); (try simp only [List.setIfInBounds_toArray]); (try simp only [List.set_cons_succ]); (try simp only [List.set_cons_zero]))
        go_simp
        refine (HH1.out _ (hHeld.get v0 A (by simp))).mono ?_
        rintro e y1 ⟨rfl, b1⟩
        refine hK.out _ _ (hHeld.called b1) (fun hHeld => ?_)
        clear hK K
        ((try simp only); (try simp only [List.getElem_toArray]); (try simp only [List.getElem_cons_succ]); (try simp only [List.getElem_cons_zero]); (try simp only [Act.put]); (try simp only [List.setIfInBounds_toArray]); (try simp only [List.set_cons_succ]); (try simp only [List.set_cons_zero]))
        refine wpAnyH_ready (rs := [7]) (by kernel_rfl) (by simp) (AllReadyH.cons rfl (fun K hK => ?_) AllReadyH.nil)
        rw [if_pos (by rfl)]
        ((try simp only); (try simp only [List.getElem_toArray]); (try simp only [List.getElem_cons_succ]); (try simp only [List.getElem_cons_zero]); (try simp only [Act.put]); (try simp only [List.setIfInBounds_toArray]); (try simp only [List.set_cons_succ]); (try simp only [List.set_cons_zero]))
        go_simp
        refine (HCA.out _ (hHeld.get (.slice adua a.length cpua) a (by simp))).mono ?_
        rintro e y2 ⟨v9, rfl, o2, b2⟩
        refine hK.out _ _ (hHeld.called b2) (fun hHeld => ?_)
        clear hK K
        ((try simp only); (try simp only [List.getElem_toArray]); (try simp only [List.getElem_cons_succ]); (try simp only [List.getElem_cons_zero]); (try simp only [Act.put]); (try simp only [List.setIfInBounds_toArray]); (try simp only [List.set_cons_succ]); (try simp only [List.set_cons_zero]))
        refine wpAnyH_ready (rs := [12]) (by kernel_rfl) (by simp) (AllReadyH.cons rfl (fun K hK => ?_) AllReadyH.nil)
        rw [if_pos (by rfl)]
        ((try simp only); (try simp only [List.getElem_toArray]); (try simp only [List.getElem_cons_succ]); (try simp only [List.getElem_cons_zero]); (try simp only [Act.put]); (try simp only [List.setIfInBounds_toArray]); (try simp only [List.set_cons_succ]); (try simp only [List.set_cons_zero]))
        go_simp
        refine (HH2.out _ v9 o2.slB).mono ?_
        rintro e y3 ⟨rfl, b3⟩
        refine hK.out _ _ (hHeld.called b3) (fun hHeld => ?_)
        clear hK K
        ((try simp only); (try simp only [List.getElem_toArray]); (try simp only [List.getElem_cons_succ]); (try simp only [List.getElem_cons_zero]); (try simp only [Act.put]); (try simp only [List.setIfInBounds_toArray]); (try simp only [List.set_cons_succ]); (try simp only [List.set_cons_zero]))
        refine wpAnyH_take (i := 13) (v := ?_) rfl (by kernel_rfl) (by kernel_rfl) (by kernel_rfl) (fun _ _ _ h => h) (Or.inl ⟨by rfl, ?_⟩) hHeld ?_
        case refine_2 => (intro w hSw; (try dsimp only at hSw); go_simp; try (with_reducible rfl))
        ((try simp only); (try simp only [List.getElem_toArray]); (try simp only [List.getElem_cons_succ]); (try simp only [List.getElem_cons_zero]); (try simp only [Act.put]); (try simp only [List.setIfInBounds_toArray]); (try simp only [List.set_cons_succ]); (try simp only [List.set_cons_zero]))
        refine wpAnyH_done (by kernel_rfl) ?_ _
        refine NoPanic.normal ?_
        go_wp2_with fail
        go_roundg gg
        case measure => omega
        case rel => exact ⟨k + 1, by omega, congrArg (Value.int .i64) (by omega), hHeld⟩
      | zero =>
        have hkN : k = mk := by omega
        subst hkN
        have H : Hd w wr [(v0, A), (v1, B), (.slice adua a.length cpua, a), (.slice adub b.length cpub, b)] := HL.out
        clear HL
        go_wp2_with fail
        refine (HCA.out _ (H.get (.slice adua a.length cpua) (a) (by simp))).mono ?_
        rintro e x21 ⟨va, rfl, o21, b21⟩
        replace H := (H.called b21).add o21.slB
        clear o21 b21
        go_wp2_with fail
        refine (same_calls _ _ _ _ _ (H.get (v0) (A) (by simp)) (H.get (va) (A) (by simp))).mono ?_
        rintro e x22 ⟨rfl, b22⟩
        replace H := H.called b22
        clear b22
        rw [decide_eq_true (show A = A from rfl)]
        go_wp2_with fail
        refine (HCB.out _ (H.get (.slice adub b.length cpub) (b) (by simp))).mono ?_
        rintro e x23 ⟨vx, rfl, o23, b23⟩
        replace H := (H.called b23).add o23.slB
        clear o23 b23
        go_wp2_with fail
        refine (same_calls _ _ _ _ _ (H.get (v1) (B) (by simp)) (H.get (vx) (B) (by simp))).mono ?_
        rintro e x24 ⟨rfl, b24⟩
        replace H := H.called b24
        clear b24
        rw [decide_eq_true (show B = B from rfl)]
        go_wp2_with fail
        refine (touch_calls _ _ _ _ _ (H.get (v0) (A) (by simp)) (H.get (v1) (B) (by simp)) (by omega)).mono ?_
        rintro e x25 ⟨t25, rfl, ht25, b25⟩
        replace H := H.called b25
        have et25 : t25 = true := (by obtain ⟨K, hK, hm⟩ := iRq.some (fun q => by have := HQ.out; rw [q] at this; simp at this); have hm2 := hm; simp only [Bool.and_eq_true] at hm2; exact touch_yes ht25 K hK hm2.1 hm2.2)
        subst et25
        clear b25 ht25
        go_wp2_with fail
        refine (any_calls _ _ _ (H.get (v0) (A) (by simp)) (by omega) _ KS (Sl.called HKK.out H.bel)).mono ?_
        rintro e x26 ⟨rfl, b26⟩
        replace H := H.called b26
        clear b26
        go_wp2_with fail
        refine (HCA.out _ (H.get (.slice adua a.length cpua) (a) (by simp))).mono ?_
        rintro e x27 ⟨vz, rfl, o27, b27⟩
        replace H := (H.called b27).add o27.slB
        clear o27 b27
        go_wp2_with fail
        refine (rany_calls _ _ _ (H.get (vz) (A) (by simp)) _ KS (Sl.called HKK.out H.bel)).mono ?_
        rintro e x28 ⟨rfl, b28⟩
        replace H := H.called b28
        clear b28
        generalize (KS.any fun k => mem A (num k.k)) = ra at *
        go_wp2_with fail
        go_ret
        exact ⟨rfl, H.bel⟩
  · obtain rfl : Rq = [] := by simpa using hq
    simp only [List.length_nil] at *
    go_wp2_with fail
    go_loopg [14] mk (fun gg i wr => ∃ k : Nat, k + gg = mk ∧ i = .int .i64 (k : Int) ∧ Hid (Hd w wr [(v0, A), (v1, B), (.slice adua a.length cpua, a), (.slice adub b.length cpub, b)]))
    case atStart => exact ⟨0, by omega, rfl, H⟩
    case round =>
      obtain ⟨k, hkg, rfl, HL⟩ := hrel
      cases gk with
      | succ gg =>
        have hlt : k < mk := by omega
        have hltI : (k : Int) < (mk : Int) := by omega
        have hk0 : (0 : Int) ≤ (k : Int) := by omega
        have hkl : k < KS.length := by have := HLK.out; omega
        obtain ⟨g, off, rfl, hg, rk⟩ := SlB.at HKK.out k hkl
        have hK := (KS[k]).h
        have HRK : Hid (∀ yy, Below w.heap.size w yy → yy.rangeAt g (off + k * 24) (bc (KS[k]).k)) := fun yy hy => range_same' rk (hy.block g hg)
        have HH1 : Hid (∀ y, Sl encS y v0 A → Calls Try.prog 18 #[v0, kv (KS[k]).k] y fun e w' => e = .returned (.bool (mem A (num (KS[k]).k))) ∧ Below y.heap.size y w') := fun y h => has_calls y v0 A h _ hK
        have HH2 : Hid (∀ y v, Sl encS y v A → Calls Try.prog 19 #[v, kv (KS[k]).k] y fun e w' => e = .returned (.bool (mem A (num (KS[k]).k))) ∧ Below y.heap.size y w') := fun y v h => rhas_calls y v A h _ hK
        clear rk
        have hiK : (Try.prog.info? 30).map (·.size) = some (bc (KS[k]).k).length := by rw [bc_length, hK]; exact Try.key_info
        generalize mem A (num (KS[k]).k) = rs at *
        generalize (KS[k]).k = K0 at *
        go_upto_region 12 with fail
        refine wp_region_noPanic ?_
        refine wp_region_held_drew (S := (fun yy => Hd w yy [(v0, A), (v1, B), (.slice adua a.length cpua, a), (.slice adub b.length cpub, b)])) (by kernel_rfl) HL.out.drew (fun hHeld => ?_)
        refine wpAnyH_take (i := 0) (v := ?_) rfl (by kernel_rfl) (by kernel_rfl) (by kernel_rfl) (fun _ _ _ h => h) (Or.inl ⟨by rfl, ?_⟩) hHeld ?_
        case refine_2 => (intro w hSw; (try dsimp only at hSw); go_simp; try (with_reducible rfl))
        ((try simp only); (try simp only [List.getElem_toArray]); (try simp only [List.getElem_cons_succ]); (try simp only [List.getElem_cons_zero]); (try simp only [Act.put]); (try simp only [List.setIfInBounds_toArray]); (try simp only [List.set_cons_succ]); (try simp only [List.set_cons_zero]))
        refine wpAnyH_take (i := 1) (v := ?_) rfl (by kernel_rfl) (by kernel_rfl) (by kernel_rfl) (fun _ _ _ h => h) (Or.inl ⟨by rfl, ?_⟩) hHeld ?_
        case refine_2 => (intro w hSw; (try dsimp only at hSw); go_simp; try (with_reducible rfl))
        ((try simp only); (try simp only [List.getElem_toArray]); (try simp only [List.getElem_cons_succ]); (try simp only [List.getElem_cons_zero]); (try simp only [Act.put]); (try simp only [List.setIfInBounds_toArray]); (try simp only [List.set_cons_succ]); (try simp only [List.set_cons_zero]))
        refine wpAnyH_take (i := 2) (v := ?_) rfl (by kernel_rfl) (by kernel_rfl) (by kernel_rfl) (fun _ _ _ h => h) (Or.inl ⟨by rfl, ?_⟩) hHeld ?_
        case refine_2 => (intro w hSw; (try dsimp only at hSw); go_simp; try (with_reducible rfl))
        ((try simp only); (try simp only [List.getElem_toArray]); (try simp only [List.getElem_cons_succ]); (try simp only [List.getElem_cons_zero]); (try simp only [Act.put]); (try simp only [List.setIfInBounds_toArray]); (try simp only [List.set_cons_succ]); (try simp only [List.set_cons_zero]))
        refine wpAnyH_take (i := 3) (v := ?_) rfl (by kernel_rfl) (by kernel_rfl) (by kernel_rfl) (fun _ _ _ h => h) (Or.inl ⟨by rfl, ?_⟩) hHeld ?_
        case refine_2 => (intro w hSw; (try dsimp only at hSw); go_simp; try (with_reducible rfl))
        ((try simp only); (try simp only [List.getElem_toArray]); (try simp only [List.getElem_cons_succ]); (try simp only [List.getElem_cons_zero]); (try simp only [Act.put]); (try simp only [List.setIfInBounds_toArray]); (try simp only [List.set_cons_succ]); (try simp only [List.set_cons_zero]))
        refine wpAnyH_take (i := 4) rfl (by kernel_rfl) (by kernel_rfl) (by kernel_rfl) (fun _ _ _ h => h) (yieldsIf_load_mid (by rfl) _ _ rfl _ _ rfl _ _ (fun yy h => HRK.out yy h.bel) Try.underlying30 rfl hiK) hHeld ?_
        ((try simp only); (try simp only [List.getElem_toArray]); (try simp only [List.getElem_cons_succ]); (try simp only [List.getElem_cons_zero]); (try simp only [Act.put]); (try simp only [List.setIfInBounds_toArray]); (try simp only [List.set_cons_succ]); (try simp only [List.set_cons_zero]))
        refine wpAnyH_take (i := 6) (v := ?_) rfl (by kernel_rfl) (by kernel_rfl) (by kernel_rfl) (fun _ _ _ h => h) (Or.inl ⟨by rfl, ?_⟩) hHeld ?_
        case refine_2 => (intro w hSw; (try dsimp only at hSw); go_simp; try (with_reducible rfl))
        ((try simp only); (try simp only [List.getElem_toArray]); (try simp only [List.getElem_cons_succ]); (try simp only [List.getElem_cons_zero]); (try simp only [Act.put]); (try simp only [List.setIfInBounds_toArray]); (try simp only [List.set_cons_succ]); (try simp only [List.set_cons_zero]))
        refine wpAnyH_take (i := 8) (v := ?_) rfl (by kernel_rfl) (by kernel_rfl) (by kernel_rfl) (fun _ _ _ h => h) (Or.inl ⟨by rfl, ?_⟩) hHeld ?_
        case refine_2 => (intro w hSw; (try dsimp only at hSw); go_simp; try (with_reducible rfl))
        ((try simp only); (try simp only [List.getElem_toArray]); (try simp only [List.getElem_cons_succ]); (try simp only [List.getElem_cons_zero]); (try simp only [Act.put]); (try simp only [List.setIfInBounds_toArray]); (try simp only [List.set_cons_succ]); (try simp only [List.set_cons_zero]))
        refine wpAnyH_take (i := 9) (v := ?_) rfl (by kernel_rfl) (by kernel_rfl) (by kernel_rfl) (fun _ _ _ h => h) (Or.inl ⟨by rfl, ?_⟩) hHeld ?_
        case refine_2 => (intro w hSw; (try dsimp only at hSw); go_simp; try (with_reducible rfl))
        ((try simp only); (try simp only [List.getElem_toArray]); (try simp only [List.getElem_cons_succ]); (try simp only [List.getElem_cons_zero]); (try simp only [Act.put]); (try simp only [List.setIfInBounds_toArray]); (try simp only [List.set_cons_succ]); (try simp only [List.set_cons_zero]))
        refine wpAnyH_take (i := 10) (v := ?_) rfl (by kernel_rfl) (by kernel_rfl) (by kernel_rfl) (fun _ _ _ h => h) (Or.inl ⟨by rfl, ?_⟩) hHeld ?_
        case refine_2 => (intro w hSw; (try dsimp only at hSw); go_simp; try (with_reducible rfl))
        ((try simp only); (try simp only [List.getElem_toArray]); (try simp only [List.getElem_cons_succ]); (try simp only [List.getElem_cons_zero]); (try simp only [Act.put]); (try simp only [List.setIfInBounds_toArray]); (try simp only [List.set_cons_succ]); (try simp only [List.set_cons_zero]))
        refine wpAnyH_take (i := 11) rfl (by kernel_rfl) (by kernel_rfl) (by kernel_rfl) (fun _ _ _ h => h) (yieldsIf_load_mid (by rfl) _ _ rfl _ _ rfl _ _ (fun yy h => HRK.out yy h.bel) Try.underlying30 rfl hiK) hHeld ?_
        ((try simp only); (try simp only [List.getElem_toArray]); (try simp only [List.getElem_cons_succ]); (try simp only [List.getElem_cons_zero]); (try simp only [Act.put]); (try simp only [List.setIfInBounds_toArray]); (try simp only [List.set_cons_succ]); (try simp only [List.set_cons_zero]))
        refine wpAnyH_ready (rs := [5]) (by kernel_rfl) (by simp) (AllReadyH.cons rfl (fun K hK => ?_) AllReadyH.nil)
        rw [if_pos (by rfl)]
        ((try simp only); (try simp only [List.getElem_toArray]); (try simp only [List.getElem_cons_succ]); (try simp only [List.getElem_cons_zero]); (try simp only [Act.put]); (try simp only [List.setIfInBounds_toArray]); (try simp only [List.set_cons_succ]); (try simp only [List.set_cons_zero]))
        go_simp
        refine (HH1.out _ (hHeld.get v0 A (by simp))).mono ?_
        rintro e y1 ⟨rfl, b1⟩
        refine hK.out _ _ (hHeld.called b1) (fun hHeld => ?_)
        clear hK K
        ((try simp only); (try simp only [List.getElem_toArray]); (try simp only [List.getElem_cons_succ]); (try simp only [List.getElem_cons_zero]); (try simp only [Act.put]); (try simp only [List.setIfInBounds_toArray]); (try simp only [List.set_cons_succ]); (try simp only [List.set_cons_zero]))
        refine wpAnyH_ready (rs := [7]) (by kernel_rfl) (by simp) (AllReadyH.cons rfl (fun K hK => ?_) AllReadyH.nil)
        rw [if_pos (by rfl)]
        ((try simp only); (try simp only [List.getElem_toArray]); (try simp only [List.getElem_cons_succ]); (try simp only [List.getElem_cons_zero]); (try simp only [Act.put]); (try simp only [List.setIfInBounds_toArray]); (try simp only [List.set_cons_succ]); (try simp only [List.set_cons_zero]))
        go_simp
        refine (HCA.out _ (hHeld.get (.slice adua a.length cpua) a (by simp))).mono ?_
        rintro e y2 ⟨v9, rfl, o2, b2⟩
        refine hK.out _ _ (hHeld.called b2) (fun hHeld => ?_)
        clear hK K
        ((try simp only); (try simp only [List.getElem_toArray]); (try simp only [List.getElem_cons_succ]); (try simp only [List.getElem_cons_zero]); (try simp only [Act.put]); (try simp only [List.setIfInBounds_toArray]); (try simp only [List.set_cons_succ]); (try simp only [List.set_cons_zero]))
        refine wpAnyH_ready (rs := [12]) (by kernel_rfl) (by simp) (AllReadyH.cons rfl (fun K hK => ?_) AllReadyH.nil)
        rw [if_pos (by rfl)]
        ((try simp only); (try simp only [List.getElem_toArray]); (try simp only [List.getElem_cons_succ]); (try simp only [List.getElem_cons_zero]); (try simp only [Act.put]); (try simp only [List.setIfInBounds_toArray]); (try simp only [List.set_cons_succ]); (try simp only [List.set_cons_zero]))
        go_simp
        refine (HH2.out _ v9 o2.slB).mono ?_
        rintro e y3 ⟨rfl, b3⟩
        refine hK.out _ _ (hHeld.called b3) (fun hHeld => ?_)
        clear hK K
        ((try simp only); (try simp only [List.getElem_toArray]); (try simp only [List.getElem_cons_succ]); (try simp only [List.getElem_cons_zero]); (try simp only [Act.put]); (try simp only [List.setIfInBounds_toArray]); (try simp only [List.set_cons_succ]); (try simp only [List.set_cons_zero]))
        refine wpAnyH_take (i := 13) (v := ?_) rfl (by kernel_rfl) (by kernel_rfl) (by kernel_rfl) (fun _ _ _ h => h) (Or.inl ⟨by rfl, ?_⟩) hHeld ?_
        case refine_2 => (intro w hSw; (try dsimp only at hSw); go_simp; try (with_reducible rfl))
        ((try simp only); (try simp only [List.getElem_toArray]); (try simp only [List.getElem_cons_succ]); (try simp only [List.getElem_cons_zero]); (try simp only [Act.put]); (try simp only [List.setIfInBounds_toArray]); (try simp only [List.set_cons_succ]); (try simp only [List.set_cons_zero]))
        refine wpAnyH_done (by kernel_rfl) ?_ _
        refine NoPanic.normal ?_
        go_wp2_with fail
        go_roundg gg
        case measure => omega
        case rel => exact ⟨k + 1, by omega, congrArg (Value.int .i64) (by omega), hHeld⟩
      | zero =>
        have hkN : k = mk := by omega
        subst hkN
        have H : Hd w wr [(v0, A), (v1, B), (.slice adua a.length cpua, a), (.slice adub b.length cpub, b)] := HL.out
        clear HL
        go_wp2_with fail
        refine (HCA.out _ (H.get (.slice adua a.length cpua) (a) (by simp))).mono ?_
        rintro e x21 ⟨va, rfl, o21, b21⟩
        replace H := (H.called b21).add o21.slB
        clear o21 b21
        go_wp2_with fail
        refine (same_calls _ _ _ _ _ (H.get (v0) (A) (by simp)) (H.get (va) (A) (by simp))).mono ?_
        rintro e x22 ⟨rfl, b22⟩
        replace H := H.called b22
        clear b22
        rw [decide_eq_true (show A = A from rfl)]
        go_wp2_with fail
        refine (HCB.out _ (H.get (.slice adub b.length cpub) (b) (by simp))).mono ?_
        rintro e x23 ⟨vx, rfl, o23, b23⟩
        replace H := (H.called b23).add o23.slB
        clear o23 b23
        go_wp2_with fail
        refine (same_calls _ _ _ _ _ (H.get (v1) (B) (by simp)) (H.get (vx) (B) (by simp))).mono ?_
        rintro e x24 ⟨rfl, b24⟩
        replace H := H.called b24
        clear b24
        rw [decide_eq_true (show B = B from rfl)]
        go_wp2_with fail
        refine (touch_calls _ _ _ _ _ (H.get (v0) (A) (by simp)) (H.get (v1) (B) (by simp)) (by omega)).mono ?_
        rintro e x25 ⟨t25, rfl, ht25, b25⟩
        replace H := H.called b25
        have et25 : t25 = false := touch_no ht25 (fun K hK h1 h2 => by have := iRq.2 K hK; rw [mem_nil] at this; simp [h1, h2] at this)
        subst et25
        clear b25 ht25
        go_wp2_with fail
        refine (any_calls _ _ _ (H.get (v0) (A) (by simp)) (by omega) _ KS (Sl.called HKK.out H.bel)).mono ?_
        rintro e x26 ⟨rfl, b26⟩
        replace H := H.called b26
        clear b26
        go_wp2_with fail
        refine (HCA.out _ (H.get (.slice adua a.length cpua) (a) (by simp))).mono ?_
        rintro e x27 ⟨vz, rfl, o27, b27⟩
        replace H := (H.called b27).add o27.slB
        clear o27 b27
        go_wp2_with fail
        refine (rany_calls _ _ _ (H.get (vz) (A) (by simp)) _ KS (Sl.called HKK.out H.bel)).mono ?_
        rintro e x28 ⟨rfl, b28⟩
        replace H := H.called b28
        clear b28
        generalize (KS.any fun k => mem A (num k.k)) = ra at *
        go_wp2_with fail
        go_ret
        exact ⟨rfl, H.bel⟩
end Go.Proofs.Ytbdolhmeknlnpaa
