import Derived.Test.YtdmindhjmjnagaaGreatDoorSi
import Derived.Test.YtdmindhjmjnagaaGreatDoorB01
import Derived.Test.YtdmindhjmjnagaaGreatDoorB32
/- X8C -/
namespace Go.Proofs.YtdmindhjmjnagaaGreatDoor
set_option linter.unusedVariables false
set_option maxRecDepth 1000000
set_option maxHeartbeats 32000000
section
open Go.RowKit
theorem with_calls (w : World) (u : Value) (l : List Bd) (h : Sl encT w u l) (x : Bd) (hl : l.length ≤ 100000) : Calls Tryz.prog 149 #[u, .string (str x.b)] w fun e w' => ∃ v, e = .returned v ∧ Sl encT w' v (withP l x) ∧ Below w.heap.size w w' := by
 have HS : Hid (Sl encT w u l) := h
 obtain ⟨ad, cap, rfl, hcap, hmax, hnil, _⟩ := h
 have HG : Hid (∀ i (hi : i < l.length), ∃ g off, ad = some ⟨g, off, none⟩ ∧ g < w.heap.size ∧ w.rangeAt g (off + i * 1) (encT.c l[i])) := fun i hi => SlB.at HS.out i hi
 obtain ⟨N, hN⟩ : ∃ N : Nat, N = l.length := ⟨_, rfl⟩
 have HN : Hid (N = l.length) := hN
 rw [← hN] at hcap hmax hl ⊢
 clear hN hmax
 go_enter Tryz.func149, Tryz.ntmps149
 go_wp2_with fail
 go_loopg [5] N (fun gg i wr => ∃ k : Nat, k + gg = N ∧ i = .int .i64 (k : Int) ∧ wr = w ∧ Hid (∀ j (hj : j < l.length), j < k → (l[j]).v < x.v))
 case atStart => exact ⟨0, by omega, rfl, rfl, (fun j hj h0 => absurd h0 (Nat.not_lt_zero _))⟩
 case round =>
  obtain ⟨k, hkg, rfl, rfl, HL⟩ := hrel
  cases gk with
  | zero =>
   have hkN : k = N := by omega
   subst hkN
   have HKP : Hid (kP l x = k) := kP_eq l x k HL.out (by have := HN.out; omega) (fun h => by have := HN.out; omega)
   have hm3 : (k : Int) ≤ (cap : Int) := by omega
   have T0 : SlB encT wr wr.heap.size (.slice ad k cap) (l.take k) := HS.out.take k (by have := HN.out; omega)
   have D0 : SlB encT wr wr.heap.size (.slice (if cap = k then ad else Option.map (fun x => x.add k) ad) 0 (cap - k)) (l.drop k) := by
    have := HS.out.drop k (by have := HN.out; omega)
    rw [← HN.out, Nat.sub_self, Nat.mul_one] at this
    exact this
   have HNE : Hid (¬ (l[k]?).map Bd.v = some x.v) := (fun q => by rw [List.getElem?_eq_none (by have := HN.out; omega)] at q; cases q)
   go_upto_region 6 with fail
   refine wp_region_noPanic ?_
   refine wp_region_held_drew (S := (fun yy => Below wr.heap.size wr yy)) (by kernel_rfl) (Below.refl _ _).drew (fun hh => ?_)
   refine tl ?_ 1 rfl hh ⟨by rfl, ?_⟩ ?_
   case refine_2 => (intro w hSw; go_simp; try with_reducible rfl)
   (try simp only [gs])
   refine tl ?_ 2 rfl hh ⟨by rfl, ?_⟩ ?_
   case refine_2 => (intro w hSw; go_simp; try with_reducible rfl)
   (try simp only [gs])
   refine tl ?_ 3 rfl hh ⟨by rfl, ?_⟩ ?_
   case refine_2 => (intro w hSw; go_simp; try with_reducible rfl)
   (try simp only [gs])
   refine tl ?_ 5 rfl hh ⟨by rfl, ?_⟩ ?_
   case refine_2 => (intro w hSw; go_simp; try with_reducible rfl)
   (try simp only [gs])
   refine tl ?_ 8 rfl hh ⟨by rfl, ?_⟩ ?_
   case refine_2 => (intro w hSw; go_simp; try with_reducible rfl)
   (try simp only [gs])
   refine tl ?_ 9 rfl hh ⟨by rfl, ?_⟩ ?_
   case refine_2 => (intro w hSw; go_simp; try with_reducible rfl)
   (try simp only [gs])
   refine tl ?_ 10 rfl hh ⟨by rfl, ?_⟩ ?_
   case refine_2 => (intro w hSw; go_simp; try with_reducible rfl)
   (try simp only [gs])
   generalize wr.drew = y0 at *
   refine wpAnyH_ready (rs := [0, 6]) (by kernel_rfl) (by simp) (AllReadyH.cons rfl (fun K hK => ?_) (AllReadyH.cons rfl (fun K hK => ?_) AllReadyH.nil))
   · rw [if_pos (by rfl)]
     (try simp only [gs])
     go_simp
     have b0 : Below y0.heap.size y0 (y0.alloc (.cells #[] 9)) := (Below.refl _ _).alloc (Nat.le_refl _) _
     have oE : Own encT 9 (y0.alloc (.cells #[] 9)) wr.heap.size (.slice (some ⟨y0.heap.size, 0, none⟩) 0 0) [] := World.ownsRow_made (base := wr.heap.size) (e := 9) (size := 1) y0 #[] 0 hh.size (by unfold maxLen; omega) rfl
     refine hK.out _ _ (hh.trans (b0.mono hh.size)) (fun hh => ?_)
     clear hK K
     (try simp only [gs])
     generalize hg0 : y0.heap.size = gE at *
     clear hg0
     generalize y0.alloc (.cells #[] 9) = y1 at *
     clear b0
     refine wpAnyH_ready (rs := [4, 6]) (by kernel_rfl) (by simp) (AllReadyH.cons rfl (fun K hK => ?_) (AllReadyH.cons rfl (fun K hK => ?_) AllReadyH.nil))
     · rw [if_pos (by rfl)]
       (try simp only [gs])
       refine wp_append_sl rowT _ _ rfl wr.heap.size (.slice (some ⟨gE, 0, none⟩) 0 0) [] (l.take k) rfl oE (.slice ad k cap) rfl wr.heap.size (T0.below hh) (by have := HN.out; simp only [List.length_nil, List.length_take]; omega) (by decide) hh.size ?_
       intro vF y2 oF gF
       rw [List.nil_append] at oF
       have B4 : Below wr.heap.size wr y2 := hh.grown gF hh.size (fun j hj => (oE.lt j hj).1)
       refine hK.out _ _ B4 (fun hh => ?_)
       clear hK K
       (try simp only [gs])
       clear oE gF B4
       refine wpAnyH_ready (rs := [6]) (by kernel_rfl) (by simp) (AllReadyH.cons rfl (fun K hK => ?_) AllReadyH.nil)
       rw [if_pos (by rfl)]
       (try simp only [gs])
       refine wp_build_c1 rowT _ rfl x _ rfl rfl ?_
       intro y3 oS b2 s2
       refine hK.out _ _ (hh.trans (b2.mono hh.size)) (fun hh => ?_)
       clear hK K
       (try simp only [gs])
       replace oF := oF.below b2
       generalize hg2 : y2.heap.size = gS at *
       clear hg2
       clear b2 s2
       refine wpAnyH_ready (rs := [7]) (by kernel_rfl) (by simp) (AllReadyH.cons rfl (fun K hK => ?_) AllReadyH.nil)
       rw [if_pos (by rfl)]
       (try simp only [gs])
       refine wp_append_sl rowT _ _ rfl wr.heap.size vF (l.take k) [x] rfl oF (.slice (some ⟨gS, 0, none⟩) 1 1) rfl _ oS.slB (by have := HN.out; simp only [List.length_cons, List.length_nil, List.length_take]; omega) (by decide) hh.size ?_
       intro vG y4 oG gG
       have B7 : Below wr.heap.size wr y4 := hh.grown gG hh.size (fun j hj => (oF.lt j hj).1)
       refine hK.out _ _ B7 (fun hh => ?_)
       clear hK K
       (try simp only [gs])
       clear oF oS gG B7
       refine wpAnyH_ready (rs := [11]) (by kernel_rfl) (by simp) (AllReadyH.cons rfl (fun K hK => ?_) AllReadyH.nil)
       rw [if_pos (by rfl)]
       (try simp only [gs])
       refine wp_append_sl rowT _ _ rfl wr.heap.size vG (l.take k ++ [x]) (l.drop k) rfl oG (.slice (if cap = k then ad else Option.map (fun x => x.add k) ad) 0 (cap - k)) rfl wr.heap.size (D0.below hh) (by have := HN.out; simp only [List.length_append, List.length_cons, List.length_nil, List.length_take, List.length_drop]; omega) (by decide) hh.size ?_
       intro vH y5 oH gH
       have B11 : Below wr.heap.size wr y5 := hh.grown gH hh.size (fun j hj => (oG.lt j hj).1)
       refine hK.out _ _ B11 (fun hh => ?_)
       clear hK K
       (try simp only [gs])
       refine tl ?_ 12 rfl hh ⟨by rfl, ?_⟩ ?_
       case refine_2 => (intro w hSw; go_simp; try with_reducible rfl)
       (try simp only [gs])
       refine wpAnyH_done (by kernel_rfl) ?_ _
       refine NoPanic.normal ?_
       have HE : Hid (withP l x = l.take k ++ [x] ++ l.drop k) := (by rw [withP, HKP.out, if_neg HNE.out, List.append_assoc]; rfl : _ = _)
       go_wp2_with fail
       all_goals go_ret
       all_goals exact ⟨vH, rfl, by rw [HE.out]; exact oH.slB, hh⟩
     · rw [if_pos (by rfl)]
       (try simp only [gs])
       refine wp_build_c1 rowT _ rfl x _ rfl rfl ?_
       intro y2 oS b1 s1
       refine hK.out _ _ (hh.trans (b1.mono hh.size)) (fun hh => ?_)
       clear hK K
       (try simp only [gs])
       have hne := (oE.lt gE rfl).2
       replace oE := oE.below b1
       generalize hg1 : y1.heap.size = gS at *
       clear hg1
       clear b1 s1
       refine wpAnyH_ready (rs := [4]) (by kernel_rfl) (by simp) (AllReadyH.cons rfl (fun K hK => ?_) AllReadyH.nil)
       rw [if_pos (by rfl)]
       (try simp only [gs])
       refine wp_append_sl rowT _ _ rfl wr.heap.size (.slice (some ⟨gE, 0, none⟩) 0 0) [] (l.take k) rfl oE (.slice ad k cap) rfl wr.heap.size (T0.below hh) (by have := HN.out; simp only [List.length_nil, List.length_take]; omega) (by decide) hh.size ?_
       intro vF y3 oF gF
       rw [List.nil_append] at oF
       have B4 : Below wr.heap.size wr y3 := hh.grown gF hh.size (fun j hj => (oE.lt j hj).1)
       refine hK.out _ _ B4 (fun hh => ?_)
       clear hK K
       (try simp only [gs])
       replace oS := oS.same (fun j hj => gF.block j (oS.lt j hj).2 (fun q => by simp only [Value.ownBlock, Option.some.injEq] at q hj; omega))
       clear oE gF B4
       refine wpAnyH_ready (rs := [7]) (by kernel_rfl) (by simp) (AllReadyH.cons rfl (fun K hK => ?_) AllReadyH.nil)
       rw [if_pos (by rfl)]
       (try simp only [gs])
       refine wp_append_sl rowT _ _ rfl wr.heap.size vF (l.take k) [x] rfl oF (.slice (some ⟨gS, 0, none⟩) 1 1) rfl _ oS.slB (by have := HN.out; simp only [List.length_cons, List.length_nil, List.length_take]; omega) (by decide) hh.size ?_
       intro vG y4 oG gG
       have B7 : Below wr.heap.size wr y4 := hh.grown gG hh.size (fun j hj => (oF.lt j hj).1)
       refine hK.out _ _ B7 (fun hh => ?_)
       clear hK K
       (try simp only [gs])
       clear oF oS gG B7
       refine wpAnyH_ready (rs := [11]) (by kernel_rfl) (by simp) (AllReadyH.cons rfl (fun K hK => ?_) AllReadyH.nil)
       rw [if_pos (by rfl)]
       (try simp only [gs])
       refine wp_append_sl rowT _ _ rfl wr.heap.size vG (l.take k ++ [x]) (l.drop k) rfl oG (.slice (if cap = k then ad else Option.map (fun x => x.add k) ad) 0 (cap - k)) rfl wr.heap.size (D0.below hh) (by have := HN.out; simp only [List.length_append, List.length_cons, List.length_nil, List.length_take, List.length_drop]; omega) (by decide) hh.size ?_
       intro vH y5 oH gH
       have B11 : Below wr.heap.size wr y5 := hh.grown gH hh.size (fun j hj => (oG.lt j hj).1)
       refine hK.out _ _ B11 (fun hh => ?_)
       clear hK K
       (try simp only [gs])
       refine tl ?_ 12 rfl hh ⟨by rfl, ?_⟩ ?_
       case refine_2 => (intro w hSw; go_simp; try with_reducible rfl)
       (try simp only [gs])
       refine wpAnyH_done (by kernel_rfl) ?_ _
       refine NoPanic.normal ?_
       have HE : Hid (withP l x = l.take k ++ [x] ++ l.drop k) := (by rw [withP, HKP.out, if_neg HNE.out, List.append_assoc]; rfl : _ = _)
       go_wp2_with fail
       all_goals go_ret
       all_goals exact ⟨vH, rfl, by rw [HE.out]; exact oH.slB, hh⟩
   · rw [if_pos (by rfl)]
     (try simp only [gs])
     refine wp_build_c1 rowT _ rfl x _ rfl rfl ?_
     intro y1 oS b0 s0
     refine hK.out _ _ (hh.trans (b0.mono hh.size)) (fun hh => ?_)
     clear hK K
     (try simp only [gs])
     generalize hg0 : y0.heap.size = gS at *
     clear hg0
     clear b0 s0
     refine wpAnyH_ready (rs := [0]) (by kernel_rfl) (by simp) (AllReadyH.cons rfl (fun K hK => ?_) AllReadyH.nil)
     rw [if_pos (by rfl)]
     (try simp only [gs])
     go_simp
     have b1 : Below y1.heap.size y1 (y1.alloc (.cells #[] 9)) := (Below.refl _ _).alloc (Nat.le_refl _) _
     have oE : Own encT 9 (y1.alloc (.cells #[] 9)) wr.heap.size (.slice (some ⟨y1.heap.size, 0, none⟩) 0 0) [] := World.ownsRow_made (base := wr.heap.size) (e := 9) (size := 1) y1 #[] 0 hh.size (by unfold maxLen; omega) rfl
     refine hK.out _ _ (hh.trans (b1.mono hh.size)) (fun hh => ?_)
     clear hK K
     (try simp only [gs])
     have hne := (oS.lt gS rfl).2
     replace oS := oS.below b1
     generalize hg1 : y1.heap.size = gE at *
     clear hg1
     generalize y1.alloc (.cells #[] 9) = y2 at *
     clear b1
     refine wpAnyH_ready (rs := [4]) (by kernel_rfl) (by simp) (AllReadyH.cons rfl (fun K hK => ?_) AllReadyH.nil)
     rw [if_pos (by rfl)]
     (try simp only [gs])
     refine wp_append_sl rowT _ _ rfl wr.heap.size (.slice (some ⟨gE, 0, none⟩) 0 0) [] (l.take k) rfl oE (.slice ad k cap) rfl wr.heap.size (T0.below hh) (by have := HN.out; simp only [List.length_nil, List.length_take]; omega) (by decide) hh.size ?_
     intro vF y3 oF gF
     rw [List.nil_append] at oF
     have B4 : Below wr.heap.size wr y3 := hh.grown gF hh.size (fun j hj => (oE.lt j hj).1)
     refine hK.out _ _ B4 (fun hh => ?_)
     clear hK K
     (try simp only [gs])
     replace oS := oS.same (fun j hj => gF.block j (oS.lt j hj).2 (fun q => by simp only [Value.ownBlock, Option.some.injEq] at q hj; omega))
     clear oE gF B4
     refine wpAnyH_ready (rs := [7]) (by kernel_rfl) (by simp) (AllReadyH.cons rfl (fun K hK => ?_) AllReadyH.nil)
     rw [if_pos (by rfl)]
     (try simp only [gs])
     refine wp_append_sl rowT _ _ rfl wr.heap.size vF (l.take k) [x] rfl oF (.slice (some ⟨gS, 0, none⟩) 1 1) rfl _ oS.slB (by have := HN.out; simp only [List.length_cons, List.length_nil, List.length_take]; omega) (by decide) hh.size ?_
     intro vG y4 oG gG
     have B7 : Below wr.heap.size wr y4 := hh.grown gG hh.size (fun j hj => (oF.lt j hj).1)
     refine hK.out _ _ B7 (fun hh => ?_)
     clear hK K
     (try simp only [gs])
     clear oF oS gG B7
     refine wpAnyH_ready (rs := [11]) (by kernel_rfl) (by simp) (AllReadyH.cons rfl (fun K hK => ?_) AllReadyH.nil)
     rw [if_pos (by rfl)]
     (try simp only [gs])
     refine wp_append_sl rowT _ _ rfl wr.heap.size vG (l.take k ++ [x]) (l.drop k) rfl oG (.slice (if cap = k then ad else Option.map (fun x => x.add k) ad) 0 (cap - k)) rfl wr.heap.size (D0.below hh) (by have := HN.out; simp only [List.length_append, List.length_cons, List.length_nil, List.length_take, List.length_drop]; omega) (by decide) hh.size ?_
     intro vH y5 oH gH
     have B11 : Below wr.heap.size wr y5 := hh.grown gH hh.size (fun j hj => (oG.lt j hj).1)
     refine hK.out _ _ B11 (fun hh => ?_)
     clear hK K
     (try simp only [gs])
     refine tl ?_ 12 rfl hh ⟨by rfl, ?_⟩ ?_
     case refine_2 => (intro w hSw; go_simp; try with_reducible rfl)
     (try simp only [gs])
     refine wpAnyH_done (by kernel_rfl) ?_ _
     refine NoPanic.normal ?_
     have HE : Hid (withP l x = l.take k ++ [x] ++ l.drop k) := (by rw [withP, HKP.out, if_neg HNE.out, List.append_assoc]; rfl : _ = _)
     go_wp2_with fail
     all_goals go_ret
     all_goals exact ⟨vH, rfl, by rw [HE.out]; exact oH.slB, hh⟩
  | succ gg =>
   have hlt : k < N := by omega
   have hltI : (k : Int) < (N : Int) := by omega
   have hkle : k ≤ N := by omega
   have hk0 : (0 : Int) ≤ (k : Int) := by omega
   have hkl : k < l.length := by have := HN.out; omega
   have hm3 : (k : Int) ≤ (cap : Int) := by omega
   have T0 : SlB encT wr wr.heap.size (.slice ad k cap) (l.take k) := HS.out.take k (by have := HN.out; omega)
   have D0 : SlB encT wr wr.heap.size (.slice (if cap = k then ad else Option.map (fun x => x.add (k * 1)) ad) (N - k) (cap - k)) (l.drop k) := by
    have := HS.out.drop k (by have := HN.out; omega)
    rw [← HN.out] at this
    exact this
   obtain ⟨g, off, rfl, hg, hr⟩ := HG.out k hkl
   simp only [Option.map_some, Addr.add_mid, Nat.mul_one] at D0
   have HKS : Hid (wrap64 ((k : Int) + 1) = ((k + 1 : Nat) : Int)) := wrap_next hlt (by unfold maxLen; omega)
   have hless : Op.bytesLess (str (l[k]).b).toList (str x.b).toList = decide ((l[k]).v < x.v) := by rw [str_toList, str_toList]; exact Bd.less _ _
   have heq : ((str (l[k]).b).toList == (str x.b).toList) = decide ((l[k]).v = x.v) := by rw [str_toList, str_toList]; exact Bd.eq_iff _ _
   have hc : wr.cell? ⟨g, off + k, none⟩ = some (.string (str (l[k]).b)) := by
    have := hr 0 _ rfl
    rw [Nat.mul_one, Nat.add_zero] at this
    exact this
   clear hr
   by_cases h1 : (l[k]).v < x.v
   · rw [decide_eq_true h1] at hless
     clear heq T0 D0
     have H1 : Hid ((l[k]).v < x.v) := h1
     clear h1
     go_wp2_with fail
     go_roundg gg
     case measure => omega
     case rel => exact ⟨k + 1, by omega, congrArg (Value.int .i64) (by omega), rfl, (fun j hj hjk => by
      rcases Nat.lt_or_eq_of_le (Nat.le_of_lt_succ hjk) with q | rfl
      · exact HL.out j hj q
      · exact H1.out)⟩
   · have HKP : Hid (kP l x = k) := kP_eq l x k HL.out (by have := HN.out; omega) (fun _ => h1)
     rw [decide_eq_false h1] at hless
     clear h1
     by_cases h2 : (l[k]).v = x.v
     · rw [decide_eq_true h2] at heq
       have HE : Hid (withP l x = l) := (by rw [withP, HKP.out, if_pos (by rw [List.getElem?_eq_getElem hkl]; exact congrArg some h2)] : _ = _)
       clear h2 T0 D0
       go_wp2_with fail
       go_ret
       have hz := HS.out
       rw [← HN.out] at hz
       exact ⟨_, rfl, by rw [HE.out]; exact hz, Below.refl _ _⟩
     · rw [decide_eq_false h2] at heq
       have HNE : Hid (¬ (l[k]?).map Bd.v = some x.v) := (fun q => h2 (by rw [List.getElem?_eq_getElem hkl] at q; exact Option.some.inj q))
       clear h2
       go_upto_region 6 with fail
       refine wp_region_noPanic ?_
       refine wp_region_held_drew (S := (fun yy => Below wr.heap.size wr yy)) (by kernel_rfl) (Below.refl _ _).drew (fun hh => ?_)
       refine tl ?_ 1 rfl hh ⟨by rfl, ?_⟩ ?_
       case refine_2 => (intro w hSw; go_simp; try with_reducible rfl)
       (try simp only [gs])
       refine tl ?_ 2 rfl hh ⟨by rfl, ?_⟩ ?_
       case refine_2 => (intro w hSw; go_simp; try with_reducible rfl)
       (try simp only [gs])
       refine tl ?_ 3 rfl hh ⟨by rfl, ?_⟩ ?_
       case refine_2 => (intro w hSw; go_simp; try with_reducible rfl)
       (try simp only [gs])
       refine tl ?_ 5 rfl hh ⟨by rfl, ?_⟩ ?_
       case refine_2 => (intro w hSw; go_simp; try with_reducible rfl)
       (try simp only [gs])
       refine tl ?_ 8 rfl hh ⟨by rfl, ?_⟩ ?_
       case refine_2 => (intro w hSw; go_simp; try with_reducible rfl)
       (try simp only [gs])
       refine tl ?_ 9 rfl hh ⟨by rfl, ?_⟩ ?_
       case refine_2 => (intro w hSw; go_simp; try with_reducible rfl)
       (try simp only [gs])
       refine tl ?_ 10 rfl hh ⟨by rfl, ?_⟩ ?_
       case refine_2 => (intro w hSw; go_simp; try with_reducible rfl)
       (try simp only [gs])
       generalize wr.drew = y0 at *
       refine wpAnyH_ready (rs := [0, 6]) (by kernel_rfl) (by simp) (AllReadyH.cons rfl (fun K hK => ?_) (AllReadyH.cons rfl (fun K hK => ?_) AllReadyH.nil))
       · rw [if_pos (by rfl)]
         (try simp only [gs])
         go_simp
         have b0 : Below y0.heap.size y0 (y0.alloc (.cells #[] 9)) := (Below.refl _ _).alloc (Nat.le_refl _) _
         have oE : Own encT 9 (y0.alloc (.cells #[] 9)) wr.heap.size (.slice (some ⟨y0.heap.size, 0, none⟩) 0 0) [] := World.ownsRow_made (base := wr.heap.size) (e := 9) (size := 1) y0 #[] 0 hh.size (by unfold maxLen; omega) rfl
         refine hK.out _ _ (hh.trans (b0.mono hh.size)) (fun hh => ?_)
         clear hK K
         (try simp only [gs])
         generalize hg0 : y0.heap.size = gE at *
         clear hg0
         generalize y0.alloc (.cells #[] 9) = y1 at *
         clear b0
         refine wpAnyH_ready (rs := [4, 6]) (by kernel_rfl) (by simp) (AllReadyH.cons rfl (fun K hK => ?_) (AllReadyH.cons rfl (fun K hK => ?_) AllReadyH.nil))
         · rw [if_pos (by rfl)]
           (try simp only [gs])
           refine wp_append_sl rowT _ _ rfl wr.heap.size (.slice (some ⟨gE, 0, none⟩) 0 0) [] (l.take k) rfl oE (.slice (some ⟨g, off, none⟩) k cap) rfl wr.heap.size (T0.below hh) (by have := HN.out; simp only [List.length_nil, List.length_take]; omega) (by decide) hh.size ?_
           intro vF y2 oF gF
           rw [List.nil_append] at oF
           have B4 : Below wr.heap.size wr y2 := hh.grown gF hh.size (fun j hj => (oE.lt j hj).1)
           refine hK.out _ _ B4 (fun hh => ?_)
           clear hK K
           (try simp only [gs])
           clear oE gF B4
           refine wpAnyH_ready (rs := [6]) (by kernel_rfl) (by simp) (AllReadyH.cons rfl (fun K hK => ?_) AllReadyH.nil)
           rw [if_pos (by rfl)]
           (try simp only [gs])
           refine wp_build_c1 rowT _ rfl x _ rfl rfl ?_
           intro y3 oS b2 s2
           refine hK.out _ _ (hh.trans (b2.mono hh.size)) (fun hh => ?_)
           clear hK K
           (try simp only [gs])
           replace oF := oF.below b2
           generalize hg2 : y2.heap.size = gS at *
           clear hg2
           clear b2 s2
           refine wpAnyH_ready (rs := [7]) (by kernel_rfl) (by simp) (AllReadyH.cons rfl (fun K hK => ?_) AllReadyH.nil)
           rw [if_pos (by rfl)]
           (try simp only [gs])
           refine wp_append_sl rowT _ _ rfl wr.heap.size vF (l.take k) [x] rfl oF (.slice (some ⟨gS, 0, none⟩) 1 1) rfl _ oS.slB (by have := HN.out; simp only [List.length_cons, List.length_nil, List.length_take]; omega) (by decide) hh.size ?_
           intro vG y4 oG gG
           have B7 : Below wr.heap.size wr y4 := hh.grown gG hh.size (fun j hj => (oF.lt j hj).1)
           refine hK.out _ _ B7 (fun hh => ?_)
           clear hK K
           (try simp only [gs])
           clear oF oS gG B7
           refine wpAnyH_ready (rs := [11]) (by kernel_rfl) (by simp) (AllReadyH.cons rfl (fun K hK => ?_) AllReadyH.nil)
           rw [if_pos (by rfl)]
           (try simp only [gs])
           refine wp_append_sl rowT _ _ rfl wr.heap.size vG (l.take k ++ [x]) (l.drop k) rfl oG (.slice (if cap = k then some (⟨g, off, none⟩ : Addr) else some (⟨g, off + k, none⟩ : Addr)) (N - k) (cap - k)) rfl wr.heap.size (D0.below hh) (by have := HN.out; simp only [List.length_append, List.length_cons, List.length_nil, List.length_take, List.length_drop]; omega) (by decide) hh.size ?_
           intro vH y5 oH gH
           have B11 : Below wr.heap.size wr y5 := hh.grown gH hh.size (fun j hj => (oG.lt j hj).1)
           refine hK.out _ _ B11 (fun hh => ?_)
           clear hK K
           (try simp only [gs])
           refine tl ?_ 12 rfl hh ⟨by rfl, ?_⟩ ?_
           case refine_2 => (intro w hSw; go_simp; try with_reducible rfl)
           (try simp only [gs])
           refine wpAnyH_done (by kernel_rfl) ?_ _
           refine NoPanic.normal ?_
           have HE : Hid (withP l x = l.take k ++ [x] ++ l.drop k) := (by rw [withP, HKP.out, if_neg HNE.out, List.append_assoc]; rfl : _ = _)
           go_wp2_with fail
           all_goals go_ret
           all_goals exact ⟨vH, rfl, by rw [HE.out]; exact oH.slB, hh⟩
         · rw [if_pos (by rfl)]
           (try simp only [gs])
           refine wp_build_c1 rowT _ rfl x _ rfl rfl ?_
           intro y2 oS b1 s1
           refine hK.out _ _ (hh.trans (b1.mono hh.size)) (fun hh => ?_)
           clear hK K
           (try simp only [gs])
           have hne := (oE.lt gE rfl).2
           replace oE := oE.below b1
           generalize hg1 : y1.heap.size = gS at *
           clear hg1
           clear b1 s1
           refine wpAnyH_ready (rs := [4]) (by kernel_rfl) (by simp) (AllReadyH.cons rfl (fun K hK => ?_) AllReadyH.nil)
           rw [if_pos (by rfl)]
           (try simp only [gs])
           refine wp_append_sl rowT _ _ rfl wr.heap.size (.slice (some ⟨gE, 0, none⟩) 0 0) [] (l.take k) rfl oE (.slice (some ⟨g, off, none⟩) k cap) rfl wr.heap.size (T0.below hh) (by have := HN.out; simp only [List.length_nil, List.length_take]; omega) (by decide) hh.size ?_
           intro vF y3 oF gF
           rw [List.nil_append] at oF
           have B4 : Below wr.heap.size wr y3 := hh.grown gF hh.size (fun j hj => (oE.lt j hj).1)
           refine hK.out _ _ B4 (fun hh => ?_)
           clear hK K
           (try simp only [gs])
           replace oS := oS.same (fun j hj => gF.block j (oS.lt j hj).2 (fun q => by simp only [Value.ownBlock, Option.some.injEq] at q hj; omega))
           clear oE gF B4
           refine wpAnyH_ready (rs := [7]) (by kernel_rfl) (by simp) (AllReadyH.cons rfl (fun K hK => ?_) AllReadyH.nil)
           rw [if_pos (by rfl)]
           (try simp only [gs])
           refine wp_append_sl rowT _ _ rfl wr.heap.size vF (l.take k) [x] rfl oF (.slice (some ⟨gS, 0, none⟩) 1 1) rfl _ oS.slB (by have := HN.out; simp only [List.length_cons, List.length_nil, List.length_take]; omega) (by decide) hh.size ?_
           intro vG y4 oG gG
           have B7 : Below wr.heap.size wr y4 := hh.grown gG hh.size (fun j hj => (oF.lt j hj).1)
           refine hK.out _ _ B7 (fun hh => ?_)
           clear hK K
           (try simp only [gs])
           clear oF oS gG B7
           refine wpAnyH_ready (rs := [11]) (by kernel_rfl) (by simp) (AllReadyH.cons rfl (fun K hK => ?_) AllReadyH.nil)
           rw [if_pos (by rfl)]
           (try simp only [gs])
           refine wp_append_sl rowT _ _ rfl wr.heap.size vG (l.take k ++ [x]) (l.drop k) rfl oG (.slice (if cap = k then some (⟨g, off, none⟩ : Addr) else some (⟨g, off + k, none⟩ : Addr)) (N - k) (cap - k)) rfl wr.heap.size (D0.below hh) (by have := HN.out; simp only [List.length_append, List.length_cons, List.length_nil, List.length_take, List.length_drop]; omega) (by decide) hh.size ?_
           intro vH y5 oH gH
           have B11 : Below wr.heap.size wr y5 := hh.grown gH hh.size (fun j hj => (oG.lt j hj).1)
           refine hK.out _ _ B11 (fun hh => ?_)
           clear hK K
           (try simp only [gs])
           refine tl ?_ 12 rfl hh ⟨by rfl, ?_⟩ ?_
           case refine_2 => (intro w hSw; go_simp; try with_reducible rfl)
           (try simp only [gs])
           refine wpAnyH_done (by kernel_rfl) ?_ _
           refine NoPanic.normal ?_
           have HE : Hid (withP l x = l.take k ++ [x] ++ l.drop k) := (by rw [withP, HKP.out, if_neg HNE.out, List.append_assoc]; rfl : _ = _)
           go_wp2_with fail
           all_goals go_ret
           all_goals exact ⟨vH, rfl, by rw [HE.out]; exact oH.slB, hh⟩
       · rw [if_pos (by rfl)]
         (try simp only [gs])
         refine wp_build_c1 rowT _ rfl x _ rfl rfl ?_
         intro y1 oS b0 s0
         refine hK.out _ _ (hh.trans (b0.mono hh.size)) (fun hh => ?_)
         clear hK K
         (try simp only [gs])
         generalize hg0 : y0.heap.size = gS at *
         clear hg0
         clear b0 s0
         refine wpAnyH_ready (rs := [0]) (by kernel_rfl) (by simp) (AllReadyH.cons rfl (fun K hK => ?_) AllReadyH.nil)
         rw [if_pos (by rfl)]
         (try simp only [gs])
         go_simp
         have b1 : Below y1.heap.size y1 (y1.alloc (.cells #[] 9)) := (Below.refl _ _).alloc (Nat.le_refl _) _
         have oE : Own encT 9 (y1.alloc (.cells #[] 9)) wr.heap.size (.slice (some ⟨y1.heap.size, 0, none⟩) 0 0) [] := World.ownsRow_made (base := wr.heap.size) (e := 9) (size := 1) y1 #[] 0 hh.size (by unfold maxLen; omega) rfl
         refine hK.out _ _ (hh.trans (b1.mono hh.size)) (fun hh => ?_)
         clear hK K
         (try simp only [gs])
         have hne := (oS.lt gS rfl).2
         replace oS := oS.below b1
         generalize hg1 : y1.heap.size = gE at *
         clear hg1
         generalize y1.alloc (.cells #[] 9) = y2 at *
         clear b1
         refine wpAnyH_ready (rs := [4]) (by kernel_rfl) (by simp) (AllReadyH.cons rfl (fun K hK => ?_) AllReadyH.nil)
         rw [if_pos (by rfl)]
         (try simp only [gs])
         refine wp_append_sl rowT _ _ rfl wr.heap.size (.slice (some ⟨gE, 0, none⟩) 0 0) [] (l.take k) rfl oE (.slice (some ⟨g, off, none⟩) k cap) rfl wr.heap.size (T0.below hh) (by have := HN.out; simp only [List.length_nil, List.length_take]; omega) (by decide) hh.size ?_
         intro vF y3 oF gF
         rw [List.nil_append] at oF
         have B4 : Below wr.heap.size wr y3 := hh.grown gF hh.size (fun j hj => (oE.lt j hj).1)
         refine hK.out _ _ B4 (fun hh => ?_)
         clear hK K
         (try simp only [gs])
         replace oS := oS.same (fun j hj => gF.block j (oS.lt j hj).2 (fun q => by simp only [Value.ownBlock, Option.some.injEq] at q hj; omega))
         clear oE gF B4
         refine wpAnyH_ready (rs := [7]) (by kernel_rfl) (by simp) (AllReadyH.cons rfl (fun K hK => ?_) AllReadyH.nil)
         rw [if_pos (by rfl)]
         (try simp only [gs])
         refine wp_append_sl rowT _ _ rfl wr.heap.size vF (l.take k) [x] rfl oF (.slice (some ⟨gS, 0, none⟩) 1 1) rfl _ oS.slB (by have := HN.out; simp only [List.length_cons, List.length_nil, List.length_take]; omega) (by decide) hh.size ?_
         intro vG y4 oG gG
         have B7 : Below wr.heap.size wr y4 := hh.grown gG hh.size (fun j hj => (oF.lt j hj).1)
         refine hK.out _ _ B7 (fun hh => ?_)
         clear hK K
         (try simp only [gs])
         clear oF oS gG B7
         refine wpAnyH_ready (rs := [11]) (by kernel_rfl) (by simp) (AllReadyH.cons rfl (fun K hK => ?_) AllReadyH.nil)
         rw [if_pos (by rfl)]
         (try simp only [gs])
         refine wp_append_sl rowT _ _ rfl wr.heap.size vG (l.take k ++ [x]) (l.drop k) rfl oG (.slice (if cap = k then some (⟨g, off, none⟩ : Addr) else some (⟨g, off + k, none⟩ : Addr)) (N - k) (cap - k)) rfl wr.heap.size (D0.below hh) (by have := HN.out; simp only [List.length_append, List.length_cons, List.length_nil, List.length_take, List.length_drop]; omega) (by decide) hh.size ?_
         intro vH y5 oH gH
         have B11 : Below wr.heap.size wr y5 := hh.grown gH hh.size (fun j hj => (oG.lt j hj).1)
         refine hK.out _ _ B11 (fun hh => ?_)
         clear hK K
         (try simp only [gs])
         refine tl ?_ 12 rfl hh ⟨by rfl, ?_⟩ ?_
         case refine_2 => (intro w hSw; go_simp; try with_reducible rfl)
         (try simp only [gs])
         refine wpAnyH_done (by kernel_rfl) ?_ _
         refine NoPanic.normal ?_
         have HE : Hid (withP l x = l.take k ++ [x] ++ l.drop k) := (by rw [withP, HKP.out, if_neg HNE.out, List.append_assoc]; rfl : _ = _)
         go_wp2_with fail
         all_goals go_ret
         all_goals exact ⟨vH, rfl, by rw [HE.out]; exact oH.slB, hh⟩
end
end Go.Proofs.YtdmindhjmjnagaaGreatDoor
