import Derived.Test.YtdmindhjmjnagaaGreatDoorSi
import Derived.Test.YtdmindhjmjnagaaGreatDoorB01
import Derived.Test.YtdmindhjmjnagaaGreatDoorB39
import Derived.Test.YtdmindhjmjnagaaGreatDoorB41
/- Rvsc -/
namespace Go.Proofs.YtdmindhjmjnagaaGreatDoor
set_option linter.unusedVariables false
set_option maxRecDepth 1000000
set_option maxHeartbeats 32000000
section
open Go.RowKit
theorem rvscan_calls (w : World) (p : Nat) (bv cv rv mv : Value) (B : List Pa) (C : List Ch) (R : List Sp) (M : List (Value × List Ch)) (h : RvIn w p bv cv rv mv B C R M) (hp : ∀ g off n cap, mv = .slice (some ⟨g, off, none⟩) n cap → g ≠ p) (hl : R.length ≤ 300) (hB : B.length ≤ 100) (hC : C.length ≤ 900) (s : Sp) :
    Calls Tryz.prog 40 #[.pointer (some ⟨p, 0, none⟩), spv s] w fun e w' => ∃ v mm, e = .returned v ∧ Own encP 62 w' w.heap.size v (scanL s mm) ∧ ApplyIs B C mm ∧ mm.length ≤ B.length + C.length ∧ FrV (fun i => i = p) w w' ∧ ∃ rv' R', RvIn w' p bv cv rv' mv B C R' M ∧ NewV w.heap.size rv' ∧ Is R' (mem (R ++ [s])) := by
 have b1 : Below w.heap.size w (w.alloc (.cells (sc s.F s.T s.e).toArray 56)) := (Below.refl _ w).alloc (Nat.le_refl _) _
 have HK : Hid (HasS (w.alloc (.cells (sc s.F s.T s.e).toArray 56)) w.heap.size s.F s.T s.e) := HasS.new w _ _ _ s.hF s.hT
 have hInfoS : (Tryz.prog.info? 56).map (·.size) = some (encS.c s).length := by rw [encS.len]; exact Tryz.span_info
 obtain ⟨ad, cap, rfl, hcap, hmax, -, -⟩ := id h.r
 obtain ⟨N, hN⟩ : ∃ N : Nat, N = R.length := ⟨_, rfl⟩
 have HN : Hid (N = R.length ∧ N ≤ 300) := ⟨hN, by omega⟩
 have HBC : Hid (B.length ≤ 100 ∧ C.length ≤ 900) := ⟨hB, hC⟩
 rw [← hN] at hcap hmax h
 have HR0 : Hid (RvIn (w.alloc (.cells (sc s.F s.T s.e).toArray 56)) p bv cv (.slice ad N cap) mv B C R M ∧ Below w.heap.size w (w.alloc (.cells (sc s.F s.T s.e).toArray 56)) ∧ p < w.heap.size) := ⟨h.called b1, b1, h.lt⟩
 have HPP : Hid (∀ g off n cap, mv = .slice (some ⟨g, off, none⟩) n cap → g ≠ p) := hp
 clear b1 hN h hl hB hC hp
 go_enter Tryz.func40, Tryz.ntmps40
 go_upto_region 1 with fail
 generalize hW : w.alloc (.cells (sc s.F s.T s.e).toArray 56) = W at *
 have HBW : Hid (w.heap.size < W.drew.heap.size) := HK.out.lt
 have HBX0 : Hid (W.drew.rangeAt w.heap.size 0 (encS.c s)) := (HK.out.below (B := W.heap.size) ⟨rfl, rfl, rfl, Nat.le_refl _, fun _ _ => rfl⟩ HK.out.lt).inB.range
 have HRD : Hid (RvIn W.drew p bv cv (.slice ad N cap) mv B C R M ∧ Below w.heap.size w W.drew) := ⟨HR0.out.1.called ⟨rfl, rfl, rfl, Nat.le_refl _, fun _ _ => rfl⟩, HR0.out.2.1.trans ⟨rfl, rfl, rfl, Nat.le_refl _, fun _ _ => rfl⟩⟩
 refine wp_region_noPanic ?_
 refine wp_region_Z 13 (fun yy => RvC yy p bv cv (.slice ad N cap) mv ∧ yy.rangeAt w.heap.size 0 (encS.c s)) (by kernel_rfl) ⟨RvC.mk HRD.out.1.blk, HBX0.out⟩ (fun hh => ?_)
 refine wpAnyZ_take (i := 0) (v := ?_) [11, 12, 13] rfl (by kernel_rfl) (by kernel_rfl) (by kernel_rfl) (by kernel_rfl) (fun _ _ _ h => h) (Or.inl ⟨by rfl, ?_⟩) hh ?_
 case refine_2 => (intro w hSw; go_simp; try with_reducible rfl)
 (try simp only [gs])
 refine wpAnyZ_take (i := 2) (v := ?_) [3, 4, 5, 6, 9, 10, 13] rfl (by kernel_rfl) (by kernel_rfl) (by kernel_rfl) (by kernel_rfl) (fun _ _ _ h => h) (Or.inl ⟨by rfl, ?_⟩) hh ?_
 case refine_2 => (intro w hSw; go_simp; try with_reducible rfl)
 (try simp only [gs])
 refine wpAnyZ_take (i := 3) (v := ?_) [4, 5, 6, 9, 10, 13] rfl (by kernel_rfl) (by kernel_rfl) (by kernel_rfl) (by kernel_rfl) (fun _ _ _ h => h) (Or.inl ⟨by rfl, ?_⟩) hh ?_
 case refine_2 => (intro w hSw; go_simp; try with_reducible rfl)
 (try simp only [gs])
 refine wpAnyZ_take (i := 4) (v := ?_) [5, 6, 9, 10, 13] rfl (by kernel_rfl) (by kernel_rfl) (by kernel_rfl) (by kernel_rfl) (fun _ _ _ h => h) (Or.inl ⟨by rfl, ?_⟩) hh ?_
 case refine_2 => (intro w hSw; go_simp; try with_reducible rfl)
 (try simp only [gs])
 refine wpAnyZ_take (i := 5) (v := ?_) [6, 9, 10, 13] rfl (by kernel_rfl) (by kernel_rfl) (by kernel_rfl) (by kernel_rfl) (fun _ _ _ h => h) (Or.inl ⟨by rfl, ?_⟩) hh ?_
 case refine_2 => (intro w hSw; have hc := hSw.1.c2; go_simp; try with_reducible rfl)
 (try simp only [gs])
 refine wpAnyZ_take (i := 7) [8, 9, 10, 13] rfl (by kernel_rfl) (by kernel_rfl) (by kernel_rfl) (by kernel_rfl) (fun _ _ _ h => h) (yieldsIf_load_mid (by rfl) _ _ rfl _ _ rfl _ _ (fun _ h => h.2) Tryz.underlying56 rfl hInfoS) hh ?_
 (try simp only [gs])
 have HP : Hid (p < w.heap.size ∧ w.heap.size < W.drew.heap.size) := ⟨HR0.out.2.2, HBW.out⟩
 clear hW HR0 HK HBW
 generalize W.drew = W0 at *
 have HBX : Hid (W0.rangeAt w.heap.size 0 (encS.c s)) := HBX0.out
 have RB : Hid (∀ y, Below W0.heap.size W0 y → RvIn y p bv cv (.slice ad N cap) mv B C R M) := fun y b => HRD.out.1.called b
 have HELD : Hid (∀ y, Below W0.heap.size W0 y → RvC y p bv cv (.slice ad N cap) mv ∧ y.rangeAt w.heap.size 0 (encS.c s)) := fun y b => ⟨RvC.mk (HRD.out.1.called b).blk, range_same' HBX.out (b.block w.heap.size HP.out.2)⟩
 have HB0 : Hid (Below W0.heap.size W0 W0) := Below.refl _ _
 clear HBX0
 refine wpAnyZ_ready (rs := [1, 8]) (by kernel_rfl) (by simp) (AllReadyZ.cons rfl (fun K0 hK => ?_) (AllReadyZ.cons rfl (fun K0 hK => ?_) AllReadyZ.nil))
 · rw [if_pos (by rfl)]
   (try simp only [gs])
   refine wp_build_none rowS rfl ?_
   intro y1 o1 b1 z1
   have HB1 : Hid (Below W0.heap.size W0 y1) := HB0.out.trans (b1.mono HB0.out.size)
   replace o1 : Own encS 56 y1 W0.heap.size (.slice (some ⟨W0.heap.size, 0, none⟩) 0 0) [] := Go.Proofs.ownsRow_base_a o1 HB0.out.size
   have g1 : W0.heap.size ≤ W0.heap.size := HB0.out.size
   refine hK.out _ _ (fun _ => (HELD.out _ HB1.out)) ?_
   clear hK K0 hh
   have hh := (HELD.out _ HB1.out)
   (try simp only [gs])
   clear b1
   refine wpAnyZ_ready (rs := [6, 8]) (by kernel_rfl) (by simp) (AllReadyZ.cons rfl (fun K0 hK => ?_) (AllReadyZ.cons rfl (fun K0 hK => ?_) AllReadyZ.nil))
   · rw [if_pos (by rfl)]
     (try simp only [gs])
     refine wp_append_sl rowS _ _ rfl W0.heap.size (.slice (some ⟨W0.heap.size, 0, none⟩) 0 0) [] R rfl o1 (.slice ad N cap) rfl y1.heap.size (RB.out _ HB1.out).r (by have := HN.out; simp only [List.length_nil]; omega) (by decide) HB1.out.size ?_
     intro v6 y2 o6 gr
     have HB2 : Hid (Below W0.heap.size W0 y2) := HB1.out.grown gr HB1.out.size (fun j hj => (o1.lt j hj).1)
     refine hK.out _ _ (fun _ => (HELD.out _ HB2.out)) ?_
     clear hK K0 hh
     have hh := (HELD.out _ HB2.out)
     (try simp only [gs])
     clear gr o1
     simp only [List.nil_append] at o6
     refine wpAnyZ_ready (rs := [8]) (by kernel_rfl) (by simp) (AllReadyZ.cons rfl (fun K0 hK => ?_) AllReadyZ.nil)
     rw [if_pos (by rfl)]
     (try simp only [gs])
     refine wp_build_el1 rowS _ rfl s rfl (by decide) ?_
     intro y3 o11 b3 z3
     have HB3 : Hid (Below W0.heap.size W0 y3) := HB2.out.trans (b3.mono HB2.out.size)
     replace o11 : Own encS 56 y3 W0.heap.size (.slice (some ⟨y2.heap.size, 0, none⟩) 1 1) [s] := Go.Proofs.ownsRow_base_a o11 HB2.out.size
     replace o6 := Own.below o6 b3
     refine hK.out _ _ (fun _ => (HELD.out _ HB3.out)) ?_
     clear hK K0 hh
     have hh := (HELD.out _ HB3.out)
     (try simp only [gs])
     clear b3
     refine wpAnyZ_ready (rs := [9]) (by kernel_rfl) (by simp) (AllReadyZ.cons rfl (fun K0 hK => ?_) AllReadyZ.nil)
     rw [if_pos (by rfl)]
     (try simp only [gs])
     refine wp_append_sl rowS _ _ rfl W0.heap.size v6 R [s] rfl o6 (.slice (some ⟨y2.heap.size, 0, none⟩) 1 1) rfl y3.heap.size o11.slB (by have := HN.out; simp only [List.length_cons, List.length_nil]; omega) (by decide) HB3.out.size ?_
     intro v12 y4 o12 gr
     have HB4 : Hid (Below W0.heap.size W0 y4) := HB3.out.grown gr HB3.out.size (fun j hj => (o6.lt j hj).1)
     refine hK.out _ _ (fun _ => (HELD.out _ HB4.out)) ?_
     clear hK K0 hh
     have hh := (HELD.out _ HB4.out)
     (try simp only [gs])
     clear gr o6 o11
     have hCl := rclean_calls y4 v12 (R ++ [s]) o12.slB (by have := HN.out; simp; omega)
     refine wpAnyZ_ready (rs := [10]) (by kernel_rfl) (by simp) (AllReadyZ.cons rfl (fun K0 hK => ?_) AllReadyZ.nil)
     rw [if_pos (by rfl)]
     (try simp only [gs])
     go_simp
     refine hCl.mono ?_
     clear hCl
     rintro e y5 ⟨v13, rfl, R', o13, i13, b13⟩
     have HB5 : Hid (Below W0.heap.size W0 y5) := HB4.out.trans (b13.mono HB4.out.size)
     have HR13 : Hid (Sl encS y5 v13 R' ∧ Is R' (mem (R ++ [s])) ∧ NewV W0.heap.size v13) := ⟨o13.slB, i13, fun g hg => Nat.le_trans HB4.out.size (o13.lt g hg).1⟩
     refine hK.out _ _ (fun _ => (HELD.out _ HB5.out)) ?_
     clear hK K0 hh
     have hh := (HELD.out _ HB5.out)
     (try simp only [gs])
     have hb3 := (RB.out _ HB5.out).blk
     have hf3 := frozen_of_row y5 p 2 _ _ hb3
     have hc3 : y5.cell? ⟨p, 2, none⟩ = some (.slice ad N cap) := (RvC.mk (RB.out _ HB5.out).blk).c2
     obtain ⟨ad13, cap13, rfl, -, -, -, -⟩ := id o13.slB
     clear o13 i13 b13 o12
     refine wpAnyZ_take (i := 11) (v := ?_) [12, 13] rfl (by kernel_rfl) (by kernel_rfl) (by kernel_rfl) (by kernel_rfl) (fun _ _ _ h => h) (Or.inl ⟨by rfl, ?_⟩) hh ?_
     case refine_2 => (intro w hSw; go_simp; try with_reducible rfl)
     (try simp only [gs])
     refine wpAnyZ_take (i := 12) (v := ?_) [13] rfl (by kernel_rfl) (by kernel_rfl) (by kernel_rfl) (by kernel_rfl) (fun _ _ _ h => h) (Or.inl ⟨by rfl, ?_⟩) hh ?_
     case refine_2 => (intro w hSw; go_simp; try with_reducible rfl)
     (try simp only [gs])
     refine wpAnyZ_ready (rs := [13]) (by kernel_rfl) (by simp) (AllReadyZ.cons rfl (fun K0 hK => ?_) AllReadyZ.nil)
     rw [if_pos (by rfl)]
     (try simp only [gs])
     go_simp
     refine hK.out _ _ (fun q => absurd q (by decide)) ?_
     clear hK K0
     (try simp only [gs])
     refine wpAnyZ_done (by kernel_rfl) ?_ _
     refine NoPanic.normal ?_
     have hY : (y5.setCell ⟨p, 2, none⟩ (.slice ad13 R'.length cap13)).heap[p]? = some (.cells #[bv, cv, .slice ad13 R'.length cap13, mv] 45 (0, 0)) := by
      rw [setCell_eq_setRow y5 p 2 _ _ _ _ hb3, setRow_heap y5 p _ _ _ _ hb3]
      rfl
     have hFr : FrV (fun i => i = p) y5 (y5.setCell ⟨p, 2, none⟩ (.slice ad13 R'.length cap13)) := ⟨⟨rfl, rfl, rfl, by simp, fun k hk => absurd hk (Nat.not_lt_zero k)⟩, fun i _ hn => heap_setCell_other _ _ _ _ hn⟩
     have HF : Hid (RvIn (y5.setCell ⟨p, 2, none⟩ (.slice ad13 R'.length cap13)) p bv cv (.slice ad13 R'.length cap13) mv B C R' M) :=
      RvIn.stored (RB.out _ HB5.out) hY (fun g _ hne => heap_setCell_other _ _ _ _ hne) hFr.size (RB.out _ HB5.out).c HR13.out.1 (RB.out _ HB5.out).m HPP.out
     have HG : Hid (FrV (fun i => i = p) w (y5.setCell ⟨p, 2, none⟩ (.slice ad13 R'.length cap13)) ∧ NewV w.heap.size (.slice ad13 R'.length cap13) ∧ Is R' (mem (R ++ [s]))) :=
      ⟨(FrV.of_below (S := fun i => i = p) (HRD.out.2.trans (HB5.out.mono HRD.out.2.size))).trans (S' := fun i => i = p) hFr (fun i e => .inl e), fun g hg => Nat.le_trans HRD.out.2.size (HR13.out.2.2 g hg), HR13.out.2.1⟩
     have HSB : Hid ((y5.setCell ⟨p, 2, none⟩ (.slice ad13 R'.length cap13)).heap[w.heap.size]? = W0.heap[w.heap.size]?) := (heap_setCell_other _ _ _ _ (show w.heap.size ≠ p from Nat.ne_of_gt HP.out.1)).trans (HB5.out.block w.heap.size HP.out.2)
     have HZ9 : Hid (W0.heap.size ≤ (y5.setCell ⟨p, 2, none⟩ (.slice ad13 R'.length cap13)).heap.size) := (show _ ≤ _ from Nat.le_trans HB5.out.size hFr.size)
     clear hh hf3 hc3 hb3 hY hFr HR13
     generalize y5.setCell ⟨p, 2, none⟩ (.slice ad13 R'.length cap13) = y99 at *
     have HL9 : Hid (W0.heap.size ≤ y99.drew.heap.size) := (show _ ≤ _ from HZ9.out)
     have HRX : Hid (RvIn y99.drew p bv cv (.slice ad13 R'.length cap13) mv B C R' M ∧ Below y99.heap.size y99 y99.drew) := ⟨HF.out.called ⟨rfl, rfl, rfl, Nat.le_refl _, fun _ _ => rfl⟩, ⟨rfl, rfl, rfl, Nat.le_refl _, fun _ _ => rfl⟩⟩
     have HSX : Hid (∀ y, Below y99.drew.heap.size y99.drew y → y.rangeAt w.heap.size 0 (encS.c s)) := fun y b => range_same' (HBX.out) (((b.block w.heap.size (Nat.lt_of_lt_of_le HP.out.2 HL9.out))).trans HSB.out)
     have hMap := rvmap_calls y99.drew p bv cv (.slice ad13 R'.length cap13) mv B C R' M HRX.out.1 (by have := HBC.out; omega) (by have := HBC.out; omega)
     go_upto_region 2 with fail
     refine wp_region_noPanic ?_
     refine wp_region_held_drew (S := (fun yy => yy.rangeAt w.heap.size 0 (encS.c s))) (by kernel_rfl) (HSX.out _ (Below.refl _ _)) (fun hh => ?_)
     refine tl ?_ 0 rfl hh ⟨by rfl, ?_⟩ ?_
     case refine_2 => (intro w hSw; go_simp; try with_reducible rfl)
     (try simp only [gs])
     refine tk 2 rfl hh (yieldsIf_load_mid (by rfl) _ _ rfl _ _ rfl _ _ (fun _ h => h) Tryz.underlying56 rfl hInfoS) ?_
     (try simp only [gs])
     refine wpAnyH_ready (rs := [1]) (by kernel_rfl) (by simp) (AllReadyH.cons rfl (fun K0 hK => ?_) AllReadyH.nil)
     rw [if_pos (by rfl)]
     (try simp only [gs])
     go_simp
     refine hMap.mono ?_
     clear hMap
     rintro e y101 ⟨v8, mm, rfl, s8, i8, l8, b8⟩
     have hIn := rvin_calls y101 v8 mm s s8 (by have := HBC.out; omega)
     refine hK.out _ _ (HSX.out _ b8) (fun hh => ?_)
     clear hK K0
     (try simp only [gs])
     refine wpAnyH_ready (rs := [3]) (by kernel_rfl) (by simp) (AllReadyH.cons rfl (fun K0 hK => ?_) AllReadyH.nil)
     rw [if_pos (by rfl)]
     (try simp only [gs])
     go_simp
     refine hIn.mono ?_
     clear hIn
     rintro e y102 ⟨v9, rfl, o9, b9⟩
     obtain ⟨ad9, cap9, rfl, -, -, -, -⟩ := id o9.slB
     have HB9 : Hid (Below y99.drew.heap.size y99.drew y102) := b8.trans (b9.mono b8.size)
     refine hK.out _ _ (HSX.out _ HB9.out) (fun hh => ?_)
     clear hK K0
     (try simp only [gs])
     refine tl ?_ 4 rfl hh ⟨by rfl, ?_⟩ ?_
     case refine_2 => (intro w hSw; go_simp; try with_reducible rfl)
     (try simp only [gs])
     refine wpAnyH_done (by kernel_rfl) ?_ _
     refine NoPanic.normal ?_
     clear hh
     go_wp2_with fail
     go_ret
     exact ⟨_, mm, rfl, o9.lower (Nat.le_trans HG.out.1.size (Nat.le_trans HRX.out.2.size b8.size)), i8, l8, HG.out.1.trans (FrV.of_below (S := fun i => i = p) (HRX.out.2.trans (HB9.out.mono HRX.out.2.size))) (fun i e => .inl e), _, R', HF.out.called (HRX.out.2.trans (HB9.out.mono HRX.out.2.size)), HG.out.2.1, HG.out.2.2⟩
   · rw [if_pos (by rfl)]
     (try simp only [gs])
     refine wp_build_el1 rowS _ rfl s rfl (by decide) ?_
     intro y2 o11 b2 z2
     have HB2 : Hid (Below W0.heap.size W0 y2) := HB1.out.trans (b2.mono HB1.out.size)
     replace o11 : Own encS 56 y2 W0.heap.size (.slice (some ⟨y1.heap.size, 0, none⟩) 1 1) [s] := Go.Proofs.ownsRow_base_a o11 HB1.out.size
     replace o1 := Own.below o1 b2
     refine hK.out _ _ (fun _ => (HELD.out _ HB2.out)) ?_
     clear hK K0 hh
     have hh := (HELD.out _ HB2.out)
     (try simp only [gs])
     clear b2
     refine wpAnyZ_ready (rs := [6]) (by kernel_rfl) (by simp) (AllReadyZ.cons rfl (fun K0 hK => ?_) AllReadyZ.nil)
     rw [if_pos (by rfl)]
     (try simp only [gs])
     refine wp_append_sl rowS _ _ rfl W0.heap.size (.slice (some ⟨W0.heap.size, 0, none⟩) 0 0) [] R rfl o1 (.slice ad N cap) rfl y2.heap.size (RB.out _ HB2.out).r (by have := HN.out; simp only [List.length_nil]; omega) (by decide) HB2.out.size ?_
     intro v6 y3 o6 gr
     have HB3 : Hid (Below W0.heap.size W0 y3) := HB2.out.grown gr HB2.out.size (fun j hj => (o1.lt j hj).1)
     replace o11 := Own.same o11 (fun g hg => gr.block g (o11.lt g hg).2 (fun e => by
      have e1 : y1.heap.size = g := by simpa [Value.ownBlock] using hg
      have e2 : g = W0.heap.size := by simpa [Value.ownBlock] using e
      omega))
     refine hK.out _ _ (fun _ => (HELD.out _ HB3.out)) ?_
     clear hK K0 hh
     have hh := (HELD.out _ HB3.out)
     (try simp only [gs])
     clear gr o1
     simp only [List.nil_append] at o6
     refine wpAnyZ_ready (rs := [9]) (by kernel_rfl) (by simp) (AllReadyZ.cons rfl (fun K0 hK => ?_) AllReadyZ.nil)
     rw [if_pos (by rfl)]
     (try simp only [gs])
     refine wp_append_sl rowS _ _ rfl W0.heap.size v6 R [s] rfl o6 (.slice (some ⟨y1.heap.size, 0, none⟩) 1 1) rfl y3.heap.size o11.slB (by have := HN.out; simp only [List.length_cons, List.length_nil]; omega) (by decide) HB3.out.size ?_
     intro v12 y4 o12 gr
     have HB4 : Hid (Below W0.heap.size W0 y4) := HB3.out.grown gr HB3.out.size (fun j hj => (o6.lt j hj).1)
     refine hK.out _ _ (fun _ => (HELD.out _ HB4.out)) ?_
     clear hK K0 hh
     have hh := (HELD.out _ HB4.out)
     (try simp only [gs])
     clear gr o6 o11
     have hCl := rclean_calls y4 v12 (R ++ [s]) o12.slB (by have := HN.out; simp; omega)
     refine wpAnyZ_ready (rs := [10]) (by kernel_rfl) (by simp) (AllReadyZ.cons rfl (fun K0 hK => ?_) AllReadyZ.nil)
     rw [if_pos (by rfl)]
     (try simp only [gs])
     go_simp
     refine hCl.mono ?_
     clear hCl
     rintro e y5 ⟨v13, rfl, R', o13, i13, b13⟩
     have HB5 : Hid (Below W0.heap.size W0 y5) := HB4.out.trans (b13.mono HB4.out.size)
     have HR13 : Hid (Sl encS y5 v13 R' ∧ Is R' (mem (R ++ [s])) ∧ NewV W0.heap.size v13) := ⟨o13.slB, i13, fun g hg => Nat.le_trans HB4.out.size (o13.lt g hg).1⟩
     refine hK.out _ _ (fun _ => (HELD.out _ HB5.out)) ?_
     clear hK K0 hh
     have hh := (HELD.out _ HB5.out)
     (try simp only [gs])
     have hb3 := (RB.out _ HB5.out).blk
     have hf3 := frozen_of_row y5 p 2 _ _ hb3
     have hc3 : y5.cell? ⟨p, 2, none⟩ = some (.slice ad N cap) := (RvC.mk (RB.out _ HB5.out).blk).c2
     obtain ⟨ad13, cap13, rfl, -, -, -, -⟩ := id o13.slB
     clear o13 i13 b13 o12
     refine wpAnyZ_take (i := 11) (v := ?_) [12, 13] rfl (by kernel_rfl) (by kernel_rfl) (by kernel_rfl) (by kernel_rfl) (fun _ _ _ h => h) (Or.inl ⟨by rfl, ?_⟩) hh ?_
     case refine_2 => (intro w hSw; go_simp; try with_reducible rfl)
     (try simp only [gs])
     refine wpAnyZ_take (i := 12) (v := ?_) [13] rfl (by kernel_rfl) (by kernel_rfl) (by kernel_rfl) (by kernel_rfl) (fun _ _ _ h => h) (Or.inl ⟨by rfl, ?_⟩) hh ?_
     case refine_2 => (intro w hSw; go_simp; try with_reducible rfl)
     (try simp only [gs])
     refine wpAnyZ_ready (rs := [13]) (by kernel_rfl) (by simp) (AllReadyZ.cons rfl (fun K0 hK => ?_) AllReadyZ.nil)
     rw [if_pos (by rfl)]
     (try simp only [gs])
     go_simp
     refine hK.out _ _ (fun q => absurd q (by decide)) ?_
     clear hK K0
     (try simp only [gs])
     refine wpAnyZ_done (by kernel_rfl) ?_ _
     refine NoPanic.normal ?_
     have hY : (y5.setCell ⟨p, 2, none⟩ (.slice ad13 R'.length cap13)).heap[p]? = some (.cells #[bv, cv, .slice ad13 R'.length cap13, mv] 45 (0, 0)) := by
      rw [setCell_eq_setRow y5 p 2 _ _ _ _ hb3, setRow_heap y5 p _ _ _ _ hb3]
      rfl
     have hFr : FrV (fun i => i = p) y5 (y5.setCell ⟨p, 2, none⟩ (.slice ad13 R'.length cap13)) := ⟨⟨rfl, rfl, rfl, by simp, fun k hk => absurd hk (Nat.not_lt_zero k)⟩, fun i _ hn => heap_setCell_other _ _ _ _ hn⟩
     have HF : Hid (RvIn (y5.setCell ⟨p, 2, none⟩ (.slice ad13 R'.length cap13)) p bv cv (.slice ad13 R'.length cap13) mv B C R' M) :=
      RvIn.stored (RB.out _ HB5.out) hY (fun g _ hne => heap_setCell_other _ _ _ _ hne) hFr.size (RB.out _ HB5.out).c HR13.out.1 (RB.out _ HB5.out).m HPP.out
     have HG : Hid (FrV (fun i => i = p) w (y5.setCell ⟨p, 2, none⟩ (.slice ad13 R'.length cap13)) ∧ NewV w.heap.size (.slice ad13 R'.length cap13) ∧ Is R' (mem (R ++ [s]))) :=
      ⟨(FrV.of_below (S := fun i => i = p) (HRD.out.2.trans (HB5.out.mono HRD.out.2.size))).trans (S' := fun i => i = p) hFr (fun i e => .inl e), fun g hg => Nat.le_trans HRD.out.2.size (HR13.out.2.2 g hg), HR13.out.2.1⟩
     have HSB : Hid ((y5.setCell ⟨p, 2, none⟩ (.slice ad13 R'.length cap13)).heap[w.heap.size]? = W0.heap[w.heap.size]?) := (heap_setCell_other _ _ _ _ (show w.heap.size ≠ p from Nat.ne_of_gt HP.out.1)).trans (HB5.out.block w.heap.size HP.out.2)
     have HZ9 : Hid (W0.heap.size ≤ (y5.setCell ⟨p, 2, none⟩ (.slice ad13 R'.length cap13)).heap.size) := (show _ ≤ _ from Nat.le_trans HB5.out.size hFr.size)
     clear hh hf3 hc3 hb3 hY hFr HR13
     generalize y5.setCell ⟨p, 2, none⟩ (.slice ad13 R'.length cap13) = y99 at *
     have HL9 : Hid (W0.heap.size ≤ y99.drew.heap.size) := (show _ ≤ _ from HZ9.out)
     have HRX : Hid (RvIn y99.drew p bv cv (.slice ad13 R'.length cap13) mv B C R' M ∧ Below y99.heap.size y99 y99.drew) := ⟨HF.out.called ⟨rfl, rfl, rfl, Nat.le_refl _, fun _ _ => rfl⟩, ⟨rfl, rfl, rfl, Nat.le_refl _, fun _ _ => rfl⟩⟩
     have HSX : Hid (∀ y, Below y99.drew.heap.size y99.drew y → y.rangeAt w.heap.size 0 (encS.c s)) := fun y b => range_same' (HBX.out) (((b.block w.heap.size (Nat.lt_of_lt_of_le HP.out.2 HL9.out))).trans HSB.out)
     have hMap := rvmap_calls y99.drew p bv cv (.slice ad13 R'.length cap13) mv B C R' M HRX.out.1 (by have := HBC.out; omega) (by have := HBC.out; omega)
     go_upto_region 2 with fail
     refine wp_region_noPanic ?_
     refine wp_region_held_drew (S := (fun yy => yy.rangeAt w.heap.size 0 (encS.c s))) (by kernel_rfl) (HSX.out _ (Below.refl _ _)) (fun hh => ?_)
     refine tl ?_ 0 rfl hh ⟨by rfl, ?_⟩ ?_
     case refine_2 => (intro w hSw; go_simp; try with_reducible rfl)
     (try simp only [gs])
     refine tk 2 rfl hh (yieldsIf_load_mid (by rfl) _ _ rfl _ _ rfl _ _ (fun _ h => h) Tryz.underlying56 rfl hInfoS) ?_
     (try simp only [gs])
     refine wpAnyH_ready (rs := [1]) (by kernel_rfl) (by simp) (AllReadyH.cons rfl (fun K0 hK => ?_) AllReadyH.nil)
     rw [if_pos (by rfl)]
     (try simp only [gs])
     go_simp
     refine hMap.mono ?_
     clear hMap
     rintro e y101 ⟨v8, mm, rfl, s8, i8, l8, b8⟩
     have hIn := rvin_calls y101 v8 mm s s8 (by have := HBC.out; omega)
     refine hK.out _ _ (HSX.out _ b8) (fun hh => ?_)
     clear hK K0
     (try simp only [gs])
     refine wpAnyH_ready (rs := [3]) (by kernel_rfl) (by simp) (AllReadyH.cons rfl (fun K0 hK => ?_) AllReadyH.nil)
     rw [if_pos (by rfl)]
     (try simp only [gs])
     go_simp
     refine hIn.mono ?_
     clear hIn
     rintro e y102 ⟨v9, rfl, o9, b9⟩
     obtain ⟨ad9, cap9, rfl, -, -, -, -⟩ := id o9.slB
     have HB9 : Hid (Below y99.drew.heap.size y99.drew y102) := b8.trans (b9.mono b8.size)
     refine hK.out _ _ (HSX.out _ HB9.out) (fun hh => ?_)
     clear hK K0
     (try simp only [gs])
     refine tl ?_ 4 rfl hh ⟨by rfl, ?_⟩ ?_
     case refine_2 => (intro w hSw; go_simp; try with_reducible rfl)
     (try simp only [gs])
     refine wpAnyH_done (by kernel_rfl) ?_ _
     refine NoPanic.normal ?_
     clear hh
     go_wp2_with fail
     go_ret
     exact ⟨_, mm, rfl, o9.lower (Nat.le_trans HG.out.1.size (Nat.le_trans HRX.out.2.size b8.size)), i8, l8, HG.out.1.trans (FrV.of_below (S := fun i => i = p) (HRX.out.2.trans (HB9.out.mono HRX.out.2.size))) (fun i e => .inl e), _, R', HF.out.called (HRX.out.2.trans (HB9.out.mono HRX.out.2.size)), HG.out.2.1, HG.out.2.2⟩
 · rw [if_pos (by rfl)]
   (try simp only [gs])
   refine wp_build_el1 rowS _ rfl s rfl (by decide) ?_
   intro y1 o11 b1 z1
   have HB1 : Hid (Below W0.heap.size W0 y1) := HB0.out.trans (b1.mono HB0.out.size)
   replace o11 : Own encS 56 y1 W0.heap.size (.slice (some ⟨W0.heap.size, 0, none⟩) 1 1) [s] := Go.Proofs.ownsRow_base_a o11 HB0.out.size
   refine hK.out _ _ (fun _ => (HELD.out _ HB1.out)) ?_
   clear hK K0 hh
   have hh := (HELD.out _ HB1.out)
   (try simp only [gs])
   clear b1
   refine wpAnyZ_ready (rs := [1]) (by kernel_rfl) (by simp) (AllReadyZ.cons rfl (fun K0 hK => ?_) AllReadyZ.nil)
   rw [if_pos (by rfl)]
   (try simp only [gs])
   refine wp_build_none rowS rfl ?_
   intro y2 o1 b2 z2
   have HB2 : Hid (Below W0.heap.size W0 y2) := HB1.out.trans (b2.mono HB1.out.size)
   replace o1 : Own encS 56 y2 W0.heap.size (.slice (some ⟨y1.heap.size, 0, none⟩) 0 0) [] := Go.Proofs.ownsRow_base_a o1 HB1.out.size
   have g1 : W0.heap.size ≤ y1.heap.size := HB1.out.size
   replace o11 := Own.below o11 b2
   refine hK.out _ _ (fun _ => (HELD.out _ HB2.out)) ?_
   clear hK K0 hh
   have hh := (HELD.out _ HB2.out)
   (try simp only [gs])
   clear b2
   refine wpAnyZ_ready (rs := [6]) (by kernel_rfl) (by simp) (AllReadyZ.cons rfl (fun K0 hK => ?_) AllReadyZ.nil)
   rw [if_pos (by rfl)]
   (try simp only [gs])
   refine wp_append_sl rowS _ _ rfl W0.heap.size (.slice (some ⟨y1.heap.size, 0, none⟩) 0 0) [] R rfl o1 (.slice ad N cap) rfl y2.heap.size (RB.out _ HB2.out).r (by have := HN.out; simp only [List.length_nil]; omega) (by decide) HB2.out.size ?_
   intro v6 y3 o6 gr
   have HB3 : Hid (Below W0.heap.size W0 y3) := HB2.out.grown gr HB2.out.size (fun j hj => (o1.lt j hj).1)
   replace o11 := Own.same o11 (fun g hg => gr.block g (o11.lt g hg).2 (fun e => by
    have e1 : W0.heap.size = g := by simpa [Value.ownBlock] using hg
    have e2 : g = y1.heap.size := by simpa [Value.ownBlock] using e
    omega))
   refine hK.out _ _ (fun _ => (HELD.out _ HB3.out)) ?_
   clear hK K0 hh
   have hh := (HELD.out _ HB3.out)
   (try simp only [gs])
   clear gr o1
   simp only [List.nil_append] at o6
   refine wpAnyZ_ready (rs := [9]) (by kernel_rfl) (by simp) (AllReadyZ.cons rfl (fun K0 hK => ?_) AllReadyZ.nil)
   rw [if_pos (by rfl)]
   (try simp only [gs])
   refine wp_append_sl rowS _ _ rfl W0.heap.size v6 R [s] rfl o6 (.slice (some ⟨W0.heap.size, 0, none⟩) 1 1) rfl y3.heap.size o11.slB (by have := HN.out; simp only [List.length_cons, List.length_nil]; omega) (by decide) HB3.out.size ?_
   intro v12 y4 o12 gr
   have HB4 : Hid (Below W0.heap.size W0 y4) := HB3.out.grown gr HB3.out.size (fun j hj => (o6.lt j hj).1)
   refine hK.out _ _ (fun _ => (HELD.out _ HB4.out)) ?_
   clear hK K0 hh
   have hh := (HELD.out _ HB4.out)
   (try simp only [gs])
   clear gr o6 o11
   have hCl := rclean_calls y4 v12 (R ++ [s]) o12.slB (by have := HN.out; simp; omega)
   refine wpAnyZ_ready (rs := [10]) (by kernel_rfl) (by simp) (AllReadyZ.cons rfl (fun K0 hK => ?_) AllReadyZ.nil)
   rw [if_pos (by rfl)]
   (try simp only [gs])
   go_simp
   refine hCl.mono ?_
   clear hCl
   rintro e y5 ⟨v13, rfl, R', o13, i13, b13⟩
   have HB5 : Hid (Below W0.heap.size W0 y5) := HB4.out.trans (b13.mono HB4.out.size)
   have HR13 : Hid (Sl encS y5 v13 R' ∧ Is R' (mem (R ++ [s])) ∧ NewV W0.heap.size v13) := ⟨o13.slB, i13, fun g hg => Nat.le_trans HB4.out.size (o13.lt g hg).1⟩
   refine hK.out _ _ (fun _ => (HELD.out _ HB5.out)) ?_
   clear hK K0 hh
   have hh := (HELD.out _ HB5.out)
   (try simp only [gs])
   have hb3 := (RB.out _ HB5.out).blk
   have hf3 := frozen_of_row y5 p 2 _ _ hb3
   have hc3 : y5.cell? ⟨p, 2, none⟩ = some (.slice ad N cap) := (RvC.mk (RB.out _ HB5.out).blk).c2
   obtain ⟨ad13, cap13, rfl, -, -, -, -⟩ := id o13.slB
   clear o13 i13 b13 o12
   refine wpAnyZ_take (i := 11) (v := ?_) [12, 13] rfl (by kernel_rfl) (by kernel_rfl) (by kernel_rfl) (by kernel_rfl) (fun _ _ _ h => h) (Or.inl ⟨by rfl, ?_⟩) hh ?_
   case refine_2 => (intro w hSw; go_simp; try with_reducible rfl)
   (try simp only [gs])
   refine wpAnyZ_take (i := 12) (v := ?_) [13] rfl (by kernel_rfl) (by kernel_rfl) (by kernel_rfl) (by kernel_rfl) (fun _ _ _ h => h) (Or.inl ⟨by rfl, ?_⟩) hh ?_
   case refine_2 => (intro w hSw; go_simp; try with_reducible rfl)
   (try simp only [gs])
   refine wpAnyZ_ready (rs := [13]) (by kernel_rfl) (by simp) (AllReadyZ.cons rfl (fun K0 hK => ?_) AllReadyZ.nil)
   rw [if_pos (by rfl)]
   (try simp only [gs])
   go_simp
   refine hK.out _ _ (fun q => absurd q (by decide)) ?_
   clear hK K0
   (try simp only [gs])
   refine wpAnyZ_done (by kernel_rfl) ?_ _
   refine NoPanic.normal ?_
   have hY : (y5.setCell ⟨p, 2, none⟩ (.slice ad13 R'.length cap13)).heap[p]? = some (.cells #[bv, cv, .slice ad13 R'.length cap13, mv] 45 (0, 0)) := by
    rw [setCell_eq_setRow y5 p 2 _ _ _ _ hb3, setRow_heap y5 p _ _ _ _ hb3]
    rfl
   have hFr : FrV (fun i => i = p) y5 (y5.setCell ⟨p, 2, none⟩ (.slice ad13 R'.length cap13)) := ⟨⟨rfl, rfl, rfl, by simp, fun k hk => absurd hk (Nat.not_lt_zero k)⟩, fun i _ hn => heap_setCell_other _ _ _ _ hn⟩
   have HF : Hid (RvIn (y5.setCell ⟨p, 2, none⟩ (.slice ad13 R'.length cap13)) p bv cv (.slice ad13 R'.length cap13) mv B C R' M) :=
    RvIn.stored (RB.out _ HB5.out) hY (fun g _ hne => heap_setCell_other _ _ _ _ hne) hFr.size (RB.out _ HB5.out).c HR13.out.1 (RB.out _ HB5.out).m HPP.out
   have HG : Hid (FrV (fun i => i = p) w (y5.setCell ⟨p, 2, none⟩ (.slice ad13 R'.length cap13)) ∧ NewV w.heap.size (.slice ad13 R'.length cap13) ∧ Is R' (mem (R ++ [s]))) :=
    ⟨(FrV.of_below (S := fun i => i = p) (HRD.out.2.trans (HB5.out.mono HRD.out.2.size))).trans (S' := fun i => i = p) hFr (fun i e => .inl e), fun g hg => Nat.le_trans HRD.out.2.size (HR13.out.2.2 g hg), HR13.out.2.1⟩
   have HSB : Hid ((y5.setCell ⟨p, 2, none⟩ (.slice ad13 R'.length cap13)).heap[w.heap.size]? = W0.heap[w.heap.size]?) := (heap_setCell_other _ _ _ _ (show w.heap.size ≠ p from Nat.ne_of_gt HP.out.1)).trans (HB5.out.block w.heap.size HP.out.2)
   have HZ9 : Hid (W0.heap.size ≤ (y5.setCell ⟨p, 2, none⟩ (.slice ad13 R'.length cap13)).heap.size) := (show _ ≤ _ from Nat.le_trans HB5.out.size hFr.size)
   clear hh hf3 hc3 hb3 hY hFr HR13
   generalize y5.setCell ⟨p, 2, none⟩ (.slice ad13 R'.length cap13) = y99 at *
   have HL9 : Hid (W0.heap.size ≤ y99.drew.heap.size) := (show _ ≤ _ from HZ9.out)
   have HRX : Hid (RvIn y99.drew p bv cv (.slice ad13 R'.length cap13) mv B C R' M ∧ Below y99.heap.size y99 y99.drew) := ⟨HF.out.called ⟨rfl, rfl, rfl, Nat.le_refl _, fun _ _ => rfl⟩, ⟨rfl, rfl, rfl, Nat.le_refl _, fun _ _ => rfl⟩⟩
   have HSX : Hid (∀ y, Below y99.drew.heap.size y99.drew y → y.rangeAt w.heap.size 0 (encS.c s)) := fun y b => range_same' (HBX.out) (((b.block w.heap.size (Nat.lt_of_lt_of_le HP.out.2 HL9.out))).trans HSB.out)
   have hMap := rvmap_calls y99.drew p bv cv (.slice ad13 R'.length cap13) mv B C R' M HRX.out.1 (by have := HBC.out; omega) (by have := HBC.out; omega)
   go_upto_region 2 with fail
   refine wp_region_noPanic ?_
   refine wp_region_held_drew (S := (fun yy => yy.rangeAt w.heap.size 0 (encS.c s))) (by kernel_rfl) (HSX.out _ (Below.refl _ _)) (fun hh => ?_)
   refine tl ?_ 0 rfl hh ⟨by rfl, ?_⟩ ?_
   case refine_2 => (intro w hSw; go_simp; try with_reducible rfl)
   (try simp only [gs])
   refine tk 2 rfl hh (yieldsIf_load_mid (by rfl) _ _ rfl _ _ rfl _ _ (fun _ h => h) Tryz.underlying56 rfl hInfoS) ?_
   (try simp only [gs])
   refine wpAnyH_ready (rs := [1]) (by kernel_rfl) (by simp) (AllReadyH.cons rfl (fun K0 hK => ?_) AllReadyH.nil)
   rw [if_pos (by rfl)]
   (try simp only [gs])
   go_simp
   refine hMap.mono ?_
   clear hMap
   rintro e y101 ⟨v8, mm, rfl, s8, i8, l8, b8⟩
   have hIn := rvin_calls y101 v8 mm s s8 (by have := HBC.out; omega)
   refine hK.out _ _ (HSX.out _ b8) (fun hh => ?_)
   clear hK K0
   (try simp only [gs])
   refine wpAnyH_ready (rs := [3]) (by kernel_rfl) (by simp) (AllReadyH.cons rfl (fun K0 hK => ?_) AllReadyH.nil)
   rw [if_pos (by rfl)]
   (try simp only [gs])
   go_simp
   refine hIn.mono ?_
   clear hIn
   rintro e y102 ⟨v9, rfl, o9, b9⟩
   obtain ⟨ad9, cap9, rfl, -, -, -, -⟩ := id o9.slB
   have HB9 : Hid (Below y99.drew.heap.size y99.drew y102) := b8.trans (b9.mono b8.size)
   refine hK.out _ _ (HSX.out _ HB9.out) (fun hh => ?_)
   clear hK K0
   (try simp only [gs])
   refine tl ?_ 4 rfl hh ⟨by rfl, ?_⟩ ?_
   case refine_2 => (intro w hSw; go_simp; try with_reducible rfl)
   (try simp only [gs])
   refine wpAnyH_done (by kernel_rfl) ?_ _
   refine NoPanic.normal ?_
   clear hh
   go_wp2_with fail
   go_ret
   exact ⟨_, mm, rfl, o9.lower (Nat.le_trans HG.out.1.size (Nat.le_trans HRX.out.2.size b8.size)), i8, l8, HG.out.1.trans (FrV.of_below (S := fun i => i = p) (HRX.out.2.trans (HB9.out.mono HRX.out.2.size))) (fun i e => .inl e), _, R', HF.out.called (HRX.out.2.trans (HB9.out.mono HRX.out.2.size)), HG.out.2.1, HG.out.2.2⟩
end
end Go.Proofs.YtdmindhjmjnagaaGreatDoor
