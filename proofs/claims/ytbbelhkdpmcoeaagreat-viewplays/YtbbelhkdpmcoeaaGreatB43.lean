import Derived.Test.YtbbelhkdpmcoeaaGreatSi
import Derived.Test.YtbbelhkdpmcoeaaGreatB40
import Derived.Test.YtbbelhkdpmcoeaaGreatB30
import Derived.Test.YtbbelhkdpmcoeaaGreatB23
import Derived.Test.YtbbelhkdpmcoeaaGreatSi
import Derived.Deep.CutBlock
/- The document's View: Mark. -/
namespace Go.Proofs.YtbbelhkdpmcoeaaGreat
set_option linter.unusedVariables false
set_option maxRecDepth 100000
open Go.RowKit

set_option maxHeartbeats 4000000 in
theorem rvmark_calls (w : World) (p : Nat) (bv cv rv mv : Value) (B : List Pa) (C : List Ch) (R : List Sp) (l : List SV) (M : List (Value × List Ch)) (h : RvIn w p bv cv rv mv B C R M) (hm : MvIn w mv l M) (hl : M.length ≤ 1000) :
    Calls Tryz.prog 28 #[.pointer (some ⟨p, 0, none⟩)] w fun e w' => e = .returned (.int .i64 (M.length : Int)) ∧ FrV (fun i => i = p) w w' ∧ ∃ mv' l', RvIn w' p bv cv rv mv' B C R (M ++ [(cv, C)]) ∧ MvIn w' mv' l' (M ++ [(cv, C)]) ∧ NewV w.heap.size mv' := by
  have hlen : l.length = M.length := by have := congrArg List.length hm.eq; simpa using this
  obtain ⟨ad, cap, rfl, hcap, hmax, -, -⟩ := id hm.sl
  obtain ⟨ad1, cap1, rfl, hcap1, hmax1, -, -⟩ := id h.c
  obtain ⟨N, hN⟩ : ∃ N : Nat, N = l.length := ⟨_, rfl⟩
  have HN : Hid (N = l.length ∧ N ≤ 1000) := ⟨hN, by omega⟩
  have HL : Hid (M.length = N) := (show _ = _ by omega)
  rw [← hN] at hcap hmax
  have hNm := hm
  rw [← hN] at hNm h
  have HRD : Hid (RvIn w.drew p bv (.slice ad1 C.length cap1) rv (.slice ad N cap) B C R M ∧ Below w.heap.size w w.drew ∧ MvIn w.drew (.slice ad N cap) l M) := ⟨h.called ⟨rfl, rfl, rfl, Nat.le_refl _, fun _ _ => rfl⟩, ⟨rfl, rfl, rfl, Nat.le_refl _, fun _ _ => rfl⟩, hNm.called ⟨rfl, rfl, rfl, Nat.le_refl _, fun _ _ => rfl⟩⟩
  clear hN hlen h hm hNm hl
  go_enter Tryz.func28, Tryz.ntmps28
  go_upto_region 1 with fail
  refine wp_region_noPanic ?_
  refine wp_region_Z 15 (fun yy => RvC yy p bv (.slice ad1 C.length cap1) rv (.slice ad N cap)) (by kernel_rfl) (RvC.mk HRD.out.1.blk) (fun hHeld => ?_)
  refine wpAnyZ_take (i := 0) (v := ?_) [13, 14, 15] rfl (by kernel_rfl) (by kernel_rfl) (by kernel_rfl) (by kernel_rfl) (fun _ _ _ h => h) (Or.inl ⟨by rfl, ?_⟩) hHeld ?_
  case refine_2 => (intro w hSw; (try dsimp only at hSw); go_simp; try (with_reducible rfl))
  (try simp only [gs])
  refine wpAnyZ_take (i := 2) (v := ?_) [3, 4, 5, 6, 12, 15] rfl (by kernel_rfl) (by kernel_rfl) (by kernel_rfl) (by kernel_rfl) (fun _ _ _ h => h) (Or.inl ⟨by rfl, ?_⟩) hHeld ?_
  case refine_2 => (intro w hSw; (try dsimp only at hSw); go_simp; try (with_reducible rfl))
  (try simp only [gs])
  refine wpAnyZ_take (i := 3) (v := ?_) [4, 5, 6, 12, 15] rfl (by kernel_rfl) (by kernel_rfl) (by kernel_rfl) (by kernel_rfl) (fun _ _ _ h => h) (Or.inl ⟨by rfl, ?_⟩) hHeld ?_
  case refine_2 => (intro w hSw; (try dsimp only at hSw); go_simp; try (with_reducible rfl))
  (try simp only [gs])
  refine wpAnyZ_take (i := 4) (v := ?_) [5, 6, 12, 15] rfl (by kernel_rfl) (by kernel_rfl) (by kernel_rfl) (by kernel_rfl) (fun _ _ _ h => h) (Or.inl ⟨by rfl, ?_⟩) hHeld ?_
  case refine_2 => (intro w hSw; (try dsimp only at hSw); go_simp; try (with_reducible rfl))
  (try simp only [gs])
  refine wpAnyZ_take (i := 5) (v := ?_) [6, 12, 15] rfl (by kernel_rfl) (by kernel_rfl) (by kernel_rfl) (by kernel_rfl) (fun _ _ _ h => h) (Or.inl ⟨by rfl, ?_⟩) hHeld ?_
  case refine_2 => (intro w hSw; (try dsimp only at hSw); have hc := hSw.c3; go_simp; try (with_reducible rfl))
  (try simp only [gs])
  refine wpAnyZ_take (i := 7) (v := ?_) [8, 9, 10, 11, 12, 15] rfl (by kernel_rfl) (by kernel_rfl) (by kernel_rfl) (by kernel_rfl) (fun _ _ _ h => h) (Or.inl ⟨by rfl, ?_⟩) hHeld ?_
  case refine_2 => (intro w hSw; (try dsimp only at hSw); go_simp; try (with_reducible rfl))
  (try simp only [gs])
  refine wpAnyZ_take (i := 8) (v := ?_) [9, 10, 11, 12, 15] rfl (by kernel_rfl) (by kernel_rfl) (by kernel_rfl) (by kernel_rfl) (fun _ _ _ h => h) (Or.inl ⟨by rfl, ?_⟩) hHeld ?_
  case refine_2 => (intro w hSw; (try dsimp only at hSw); go_simp; try (with_reducible rfl))
  (try simp only [gs])
  refine wpAnyZ_take (i := 9) (v := ?_) [10, 11, 12, 15] rfl (by kernel_rfl) (by kernel_rfl) (by kernel_rfl) (by kernel_rfl) (fun _ _ _ h => h) (Or.inl ⟨by rfl, ?_⟩) hHeld ?_
  case refine_2 => (intro w hSw; (try dsimp only at hSw); go_simp; try (with_reducible rfl))
  (try simp only [gs])
  refine wpAnyZ_take (i := 10) (v := ?_) [11, 12, 15] rfl (by kernel_rfl) (by kernel_rfl) (by kernel_rfl) (by kernel_rfl) (fun _ _ _ h => h) (Or.inl ⟨by rfl, ?_⟩) hHeld ?_
  case refine_2 => (intro w hSw; (try dsimp only at hSw); have hc := hSw.c1; go_simp; try (with_reducible rfl))
  (try simp only [gs])
  generalize w.drew = W0 at *
  have RB : Hid (∀ y, Below W0.heap.size W0 y → RvIn y p bv (.slice ad1 C.length cap1) rv (.slice ad N cap) B C R M) := fun y b => HRD.out.1.called b
  have MB : Hid (∀ y, Below W0.heap.size W0 y → MvIn y (.slice ad N cap) l M) := fun y b => HRD.out.2.2.called b
  have HELD : Hid (∀ y, Below W0.heap.size W0 y → RvC y p bv (.slice ad1 C.length cap1) rv (.slice ad N cap)) := fun y b => RvC.mk (HRD.out.1.called b).blk
  have HP : Hid (p < W0.heap.size) := HRD.out.1.lt
  have HB0 : Hid (Below W0.heap.size W0 W0) := Below.refl _ _
  refine wpAnyZ_ready (rs := [1, 11]) (by kernel_rfl) (by simp) (AllReadyZ.cons rfl (fun K0 hK => ?_) (AllReadyZ.cons rfl (fun K0 hK => ?_) AllReadyZ.nil))
  · rw [if_pos (by rfl)]
    (try simp only [gs])
    refine wp_build_none rowY rfl ?_
    intro y1 o1 b1 z1
    have HB1 : Hid (Below W0.heap.size W0 y1) := HB0.out.trans (b1.mono HB0.out.size)
    replace o1 : Own encY 37 y1 W0.heap.size (.slice (some ⟨W0.heap.size, 0, none⟩) 0 0) [] := Go.Proofs.ownsRow_base_a o1 HB0.out.size
    have g1 : W0.heap.size ≤ W0.heap.size := HB0.out.size
    refine hK.out _ _ (fun _ => (HELD.out _ HB1.out)) ?_
    clear hK K0 hHeld
    have hHeld := (HELD.out _ HB1.out)
    (try simp only [gs])
    clear b1
    refine wpAnyZ_ready (rs := [6, 11]) (by kernel_rfl) (by simp) (AllReadyZ.cons rfl (fun K0 hK => ?_) (AllReadyZ.cons rfl (fun K0 hK => ?_) AllReadyZ.nil))
    · rw [if_pos (by rfl)]
      (try simp only [gs])
      refine wp_append_sl rowY _ _ rfl W0.heap.size (.slice (some ⟨W0.heap.size, 0, none⟩) 0 0) [] l rfl o1 (.slice ad N cap) rfl y1.heap.size (MB.out _ HB1.out).sl (by have := HN.out; simp only [List.length_nil]; omega) (by decide) HB1.out.size ?_
      intro v6 y2 o6 gr
      have HB2 : Hid (Below W0.heap.size W0 y2) := HB1.out.grown gr HB1.out.size (fun j hj => (o1.lt j hj).1)
      refine hK.out _ _ (fun _ => (HELD.out _ HB2.out)) ?_
      clear hK K0 hHeld
      have hHeld := (HELD.out _ HB2.out)
      (try simp only [gs])
      clear gr o1
      simp only [List.nil_append] at o6
      refine wpAnyZ_ready (rs := [11]) (by kernel_rfl) (by simp) (AllReadyZ.cons rfl (fun K0 hK => ?_) AllReadyZ.nil)
      rw [if_pos (by rfl)]
      (try simp only [gs])
      refine wp_build_c1 rowY _ rfl (ad1, C.length, cap1) (.slice ad1 C.length cap1) rfl rfl ?_
      intro y3 o11 b3 z3
      have HB3 : Hid (Below W0.heap.size W0 y3) := HB2.out.trans (b3.mono HB2.out.size)
      replace o11 : Own encY 37 y3 W0.heap.size (.slice (some ⟨y2.heap.size, 0, none⟩) 1 1) [(ad1, C.length, cap1)] := Go.Proofs.ownsRow_base_a o11 HB2.out.size
      replace o6 := Own.below o6 b3
      refine hK.out _ _ (fun _ => (HELD.out _ HB3.out)) ?_
      clear hK K0 hHeld
      have hHeld := (HELD.out _ HB3.out)
      (try simp only [gs])
      clear b3
      refine wpAnyZ_ready (rs := [12]) (by kernel_rfl) (by simp) (AllReadyZ.cons rfl (fun K0 hK => ?_) AllReadyZ.nil)
      rw [if_pos (by rfl)]
      (try simp only [gs])
      refine wp_append_sl rowY _ _ rfl W0.heap.size v6 l [(ad1, C.length, cap1)] rfl o6 (.slice (some ⟨y2.heap.size, 0, none⟩) 1 1) rfl y3.heap.size o11.slB (by have := HN.out; simp only [List.length_cons, List.length_nil]; omega) (by decide) HB3.out.size ?_
      intro v12 y4 o12 gr
      have HB4 : Hid (Below W0.heap.size W0 y4) := HB3.out.grown gr HB3.out.size (fun j hj => (o6.lt j hj).1)
      refine hK.out _ _ (fun _ => (HELD.out _ HB4.out)) ?_
      clear hK K0 hHeld
      have hHeld := (HELD.out _ HB4.out)
      (try simp only [gs])
      clear gr o6 o11
      have hb3 := (RB.out _ HB4.out).blk
      have hf3 := frozen_of_row y4 p 3 _ _ hb3
      have hc3 : y4.cell? ⟨p, 3, none⟩ = some (.slice ad N cap) := (RvC.mk (RB.out _ HB4.out).blk).c3
      have HM12 : Hid (MvIn y4 v12 (l ++ [(ad1, C.length, cap1)]) (M ++ [(.slice ad1 C.length cap1, C)]) ∧ NewV W0.heap.size v12) := ⟨⟨o12.slB, by rw [List.map_append, List.map_append, (MB.out _ HB4.out).eq]; rfl, fun e he => by
        rcases List.mem_append.1 he with he | he
        · exact (MB.out _ HB4.out).each e he
        · rw [List.mem_singleton] at he; subst he; exact (RB.out _ HB4.out).c⟩, fun g hg => (o12.lt g hg).1⟩
      obtain ⟨ad12, cap12, rfl, -, -, -, -⟩ := id o12.slB
      obtain ⟨l', hl'⟩ : ∃ l', l' = l ++ [(ad1, C.length, cap1)] := ⟨_, rfl⟩
      have HL' : Hid (l'.length = N + 1) := (show _ = _ by rw [hl', List.length_append]; have := HN.out; simp; omega)
      rw [← hl'] at HM12
      rw [← hl']
      obtain ⟨N1, hN1⟩ : ∃ N1, N1 = l'.length := ⟨_, rfl⟩
      rw [← hN1] at HM12 HL'
      rw [← hN1]
      have hN1a : (1 : Int) ≤ (N1 : Int) := by have := HL'.out; omega
      have hN1b : (N1 : Int) ≤ 1001 := by have := HL'.out; have := HN.out; omega
      clear o12 hl' hN1
      refine wpAnyZ_take (i := 13) (v := ?_) [14, 15] rfl (by kernel_rfl) (by kernel_rfl) (by kernel_rfl) (by kernel_rfl) (fun _ _ _ h => h) (Or.inl ⟨by rfl, ?_⟩) hHeld ?_
      case refine_2 => (intro w hSw; (try dsimp only at hSw); go_simp; try (with_reducible rfl))
      (try simp only [gs])
      refine wpAnyZ_take (i := 14) (v := ?_) [15] rfl (by kernel_rfl) (by kernel_rfl) (by kernel_rfl) (by kernel_rfl) (fun _ _ _ h => h) (Or.inl ⟨by rfl, ?_⟩) hHeld ?_
      case refine_2 => (intro w hSw; (try dsimp only at hSw); go_simp; try (with_reducible rfl))
      (try simp only [gs])
      refine wpAnyZ_ready (rs := [15]) (by kernel_rfl) (by simp) (AllReadyZ.cons rfl (fun K0 hK => ?_) AllReadyZ.nil)
      rw [if_pos (by rfl)]
      (try simp only [gs])
      go_simp
      refine hK.out _ _ (fun q => absurd q (by decide)) ?_
      clear hK K0
      (try simp only [gs])
      refine wpAnyZ_done (by kernel_rfl) ?_ _
      refine NoPanic.normal ?_
      have hpne : ∀ g, Value.ownBlock (.slice ad12 N1 cap12) = some g → g ≠ p := fun g hg => Nat.ne_of_gt (Nat.lt_of_lt_of_le HP.out (HM12.out.2 g hg))
      have hY : (y4.setCell ⟨p, 3, none⟩ (.slice ad12 N1 cap12)).heap[p]? = some (.cells #[bv, .slice ad1 C.length cap1, rv, .slice ad12 N1 cap12] 41 (0, 0)) := by
        rw [setCell_eq_setRow y4 p 3 _ _ _ _ hb3, setRow_heap y4 p _ _ _ _ hb3]
        rfl
      have hFr : FrV (fun i => i = p) y4 (y4.setCell ⟨p, 3, none⟩ (.slice ad12 N1 cap12)) := ⟨⟨rfl, rfl, rfl, by simp, fun k hk => absurd hk (Nat.not_lt_zero k)⟩, fun i _ hn => heap_setCell_other _ _ _ _ hn⟩
      have HF : Hid (RvIn (y4.setCell ⟨p, 3, none⟩ (.slice ad12 N1 cap12)) p bv (.slice ad1 C.length cap1) rv (.slice ad12 N1 cap12) B C R (M ++ [(.slice ad1 C.length cap1, C)])) :=
        RvIn.stored (RB.out _ HB4.out) hY (fun g _ hne => heap_setCell_other _ _ _ _ hne) hFr.size (RB.out _ HB4.out).c (RB.out _ HB4.out).r HM12.out.1.slS (fun g off n cap e => hpne g (by rw [e]; rfl))
      have HFM : Hid (MvIn (y4.setCell ⟨p, 3, none⟩ (.slice ad12 N1 cap12)) (.slice ad12 N1 cap12) l' (M ++ [(.slice ad1 C.length cap1, C)])) :=
        ⟨SlB.aside HM12.out.1.sl hFr (fun _ g hg => hpne g hg), HM12.out.1.eq, fun e he => (SlB.off enc0C (HM12.out.1.each e he) hb3 (RB.out _ HB4.out).slices (fun g _ hne => heap_setCell_other _ _ _ _ hne)).wide hFr.size⟩
      have HG : Hid (FrV (fun i => i = p) w (y4.setCell ⟨p, 3, none⟩ (.slice ad12 N1 cap12)) ∧ NewV w.heap.size (.slice ad12 N1 cap12)) :=
        ⟨(FrV.of_below (S := fun i => i = p) (HRD.out.2.1.trans (HB4.out.mono HRD.out.2.1.size))).trans (S' := fun i => i = p) hFr (fun i e => .inl e), fun g hg => Nat.le_trans HRD.out.2.1.size (HM12.out.2 g hg)⟩
      have hc9 : (y4.setCell ⟨p, 3, none⟩ (.slice ad12 N1 cap12)).cell? ⟨p, 3, none⟩ = some (.slice ad12 N1 cap12) := (RvC.mk hY).c3
      clear hHeld hf3 hc3 hb3 hpne hY hFr
      generalize y4.setCell ⟨p, 3, none⟩ (.slice ad12 N1 cap12) = y99 at *
      go_wp2_with fail
      go_ret
      exact ⟨congrArg (fun z => Ending.returned (Value.int .i64 z)) (by have := HL'.out; have := HL.out; omega), HG.out.1, _, l', HF.out, HFM.out, HG.out.2⟩
    · rw [if_pos (by rfl)]
      (try simp only [gs])
      refine wp_build_c1 rowY _ rfl (ad1, C.length, cap1) (.slice ad1 C.length cap1) rfl rfl ?_
      intro y2 o11 b2 z2
      have HB2 : Hid (Below W0.heap.size W0 y2) := HB1.out.trans (b2.mono HB1.out.size)
      replace o11 : Own encY 37 y2 W0.heap.size (.slice (some ⟨y1.heap.size, 0, none⟩) 1 1) [(ad1, C.length, cap1)] := Go.Proofs.ownsRow_base_a o11 HB1.out.size
      replace o1 := Own.below o1 b2
      refine hK.out _ _ (fun _ => (HELD.out _ HB2.out)) ?_
      clear hK K0 hHeld
      have hHeld := (HELD.out _ HB2.out)
      (try simp only [gs])
      clear b2
      refine wpAnyZ_ready (rs := [6]) (by kernel_rfl) (by simp) (AllReadyZ.cons rfl (fun K0 hK => ?_) AllReadyZ.nil)
      rw [if_pos (by rfl)]
      (try simp only [gs])
      refine wp_append_sl rowY _ _ rfl W0.heap.size (.slice (some ⟨W0.heap.size, 0, none⟩) 0 0) [] l rfl o1 (.slice ad N cap) rfl y2.heap.size (MB.out _ HB2.out).sl (by have := HN.out; simp only [List.length_nil]; omega) (by decide) HB2.out.size ?_
      intro v6 y3 o6 gr
      have HB3 : Hid (Below W0.heap.size W0 y3) := HB2.out.grown gr HB2.out.size (fun j hj => (o1.lt j hj).1)
      replace o11 := Own.same o11 (fun g hg => gr.block g (o11.lt g hg).2 (fun e => by
        have e1 : y1.heap.size = g := by simpa [Value.ownBlock] using hg
        have e2 : g = W0.heap.size := by simpa [Value.ownBlock] using e
        omega))
      refine hK.out _ _ (fun _ => (HELD.out _ HB3.out)) ?_
      clear hK K0 hHeld
      have hHeld := (HELD.out _ HB3.out)
      (try simp only [gs])
      clear gr o1
      simp only [List.nil_append] at o6
      refine wpAnyZ_ready (rs := [12]) (by kernel_rfl) (by simp) (AllReadyZ.cons rfl (fun K0 hK => ?_) AllReadyZ.nil)
      rw [if_pos (by rfl)]
      (try simp only [gs])
      refine wp_append_sl rowY _ _ rfl W0.heap.size v6 l [(ad1, C.length, cap1)] rfl o6 (.slice (some ⟨y1.heap.size, 0, none⟩) 1 1) rfl y3.heap.size o11.slB (by have := HN.out; simp only [List.length_cons, List.length_nil]; omega) (by decide) HB3.out.size ?_
      intro v12 y4 o12 gr
      have HB4 : Hid (Below W0.heap.size W0 y4) := HB3.out.grown gr HB3.out.size (fun j hj => (o6.lt j hj).1)
      refine hK.out _ _ (fun _ => (HELD.out _ HB4.out)) ?_
      clear hK K0 hHeld
      have hHeld := (HELD.out _ HB4.out)
      (try simp only [gs])
      clear gr o6 o11
      have hb3 := (RB.out _ HB4.out).blk
      have hf3 := frozen_of_row y4 p 3 _ _ hb3
      have hc3 : y4.cell? ⟨p, 3, none⟩ = some (.slice ad N cap) := (RvC.mk (RB.out _ HB4.out).blk).c3
      have HM12 : Hid (MvIn y4 v12 (l ++ [(ad1, C.length, cap1)]) (M ++ [(.slice ad1 C.length cap1, C)]) ∧ NewV W0.heap.size v12) := ⟨⟨o12.slB, by rw [List.map_append, List.map_append, (MB.out _ HB4.out).eq]; rfl, fun e he => by
        rcases List.mem_append.1 he with he | he
        · exact (MB.out _ HB4.out).each e he
        · rw [List.mem_singleton] at he; subst he; exact (RB.out _ HB4.out).c⟩, fun g hg => (o12.lt g hg).1⟩
      obtain ⟨ad12, cap12, rfl, -, -, -, -⟩ := id o12.slB
      obtain ⟨l', hl'⟩ : ∃ l', l' = l ++ [(ad1, C.length, cap1)] := ⟨_, rfl⟩
      have HL' : Hid (l'.length = N + 1) := (show _ = _ by rw [hl', List.length_append]; have := HN.out; simp; omega)
      rw [← hl'] at HM12
      rw [← hl']
      obtain ⟨N1, hN1⟩ : ∃ N1, N1 = l'.length := ⟨_, rfl⟩
      rw [← hN1] at HM12 HL'
      rw [← hN1]
      have hN1a : (1 : Int) ≤ (N1 : Int) := by have := HL'.out; omega
      have hN1b : (N1 : Int) ≤ 1001 := by have := HL'.out; have := HN.out; omega
      clear o12 hl' hN1
      refine wpAnyZ_take (i := 13) (v := ?_) [14, 15] rfl (by kernel_rfl) (by kernel_rfl) (by kernel_rfl) (by kernel_rfl) (fun _ _ _ h => h) (Or.inl ⟨by rfl, ?_⟩) hHeld ?_
      case refine_2 => (intro w hSw; (try dsimp only at hSw); go_simp; try (with_reducible rfl))
      (try simp only [gs])
      refine wpAnyZ_take (i := 14) (v := ?_) [15] rfl (by kernel_rfl) (by kernel_rfl) (by kernel_rfl) (by kernel_rfl) (fun _ _ _ h => h) (Or.inl ⟨by rfl, ?_⟩) hHeld ?_
      case refine_2 => (intro w hSw; (try dsimp only at hSw); go_simp; try (with_reducible rfl))
      (try simp only [gs])
      refine wpAnyZ_ready (rs := [15]) (by kernel_rfl) (by simp) (AllReadyZ.cons rfl (fun K0 hK => ?_) AllReadyZ.nil)
      rw [if_pos (by rfl)]
      (try simp only [gs])
      go_simp
      refine hK.out _ _ (fun q => absurd q (by decide)) ?_
      clear hK K0
      (try simp only [gs])
      refine wpAnyZ_done (by kernel_rfl) ?_ _
      refine NoPanic.normal ?_
      have hpne : ∀ g, Value.ownBlock (.slice ad12 N1 cap12) = some g → g ≠ p := fun g hg => Nat.ne_of_gt (Nat.lt_of_lt_of_le HP.out (HM12.out.2 g hg))
      have hY : (y4.setCell ⟨p, 3, none⟩ (.slice ad12 N1 cap12)).heap[p]? = some (.cells #[bv, .slice ad1 C.length cap1, rv, .slice ad12 N1 cap12] 41 (0, 0)) := by
        rw [setCell_eq_setRow y4 p 3 _ _ _ _ hb3, setRow_heap y4 p _ _ _ _ hb3]
        rfl
      have hFr : FrV (fun i => i = p) y4 (y4.setCell ⟨p, 3, none⟩ (.slice ad12 N1 cap12)) := ⟨⟨rfl, rfl, rfl, by simp, fun k hk => absurd hk (Nat.not_lt_zero k)⟩, fun i _ hn => heap_setCell_other _ _ _ _ hn⟩
      have HF : Hid (RvIn (y4.setCell ⟨p, 3, none⟩ (.slice ad12 N1 cap12)) p bv (.slice ad1 C.length cap1) rv (.slice ad12 N1 cap12) B C R (M ++ [(.slice ad1 C.length cap1, C)])) :=
        RvIn.stored (RB.out _ HB4.out) hY (fun g _ hne => heap_setCell_other _ _ _ _ hne) hFr.size (RB.out _ HB4.out).c (RB.out _ HB4.out).r HM12.out.1.slS (fun g off n cap e => hpne g (by rw [e]; rfl))
      have HFM : Hid (MvIn (y4.setCell ⟨p, 3, none⟩ (.slice ad12 N1 cap12)) (.slice ad12 N1 cap12) l' (M ++ [(.slice ad1 C.length cap1, C)])) :=
        ⟨SlB.aside HM12.out.1.sl hFr (fun _ g hg => hpne g hg), HM12.out.1.eq, fun e he => (SlB.off enc0C (HM12.out.1.each e he) hb3 (RB.out _ HB4.out).slices (fun g _ hne => heap_setCell_other _ _ _ _ hne)).wide hFr.size⟩
      have HG : Hid (FrV (fun i => i = p) w (y4.setCell ⟨p, 3, none⟩ (.slice ad12 N1 cap12)) ∧ NewV w.heap.size (.slice ad12 N1 cap12)) :=
        ⟨(FrV.of_below (S := fun i => i = p) (HRD.out.2.1.trans (HB4.out.mono HRD.out.2.1.size))).trans (S' := fun i => i = p) hFr (fun i e => .inl e), fun g hg => Nat.le_trans HRD.out.2.1.size (HM12.out.2 g hg)⟩
      have hc9 : (y4.setCell ⟨p, 3, none⟩ (.slice ad12 N1 cap12)).cell? ⟨p, 3, none⟩ = some (.slice ad12 N1 cap12) := (RvC.mk hY).c3
      clear hHeld hf3 hc3 hb3 hpne hY hFr
      generalize y4.setCell ⟨p, 3, none⟩ (.slice ad12 N1 cap12) = y99 at *
      go_wp2_with fail
      go_ret
      exact ⟨congrArg (fun z => Ending.returned (Value.int .i64 z)) (by have := HL'.out; have := HL.out; omega), HG.out.1, _, l', HF.out, HFM.out, HG.out.2⟩
  · rw [if_pos (by rfl)]
    (try simp only [gs])
    refine wp_build_c1 rowY _ rfl (ad1, C.length, cap1) (.slice ad1 C.length cap1) rfl rfl ?_
    intro y1 o11 b1 z1
    have HB1 : Hid (Below W0.heap.size W0 y1) := HB0.out.trans (b1.mono HB0.out.size)
    replace o11 : Own encY 37 y1 W0.heap.size (.slice (some ⟨W0.heap.size, 0, none⟩) 1 1) [(ad1, C.length, cap1)] := Go.Proofs.ownsRow_base_a o11 HB0.out.size
    refine hK.out _ _ (fun _ => (HELD.out _ HB1.out)) ?_
    clear hK K0 hHeld
    have hHeld := (HELD.out _ HB1.out)
    (try simp only [gs])
    clear b1
    refine wpAnyZ_ready (rs := [1]) (by kernel_rfl) (by simp) (AllReadyZ.cons rfl (fun K0 hK => ?_) AllReadyZ.nil)
    rw [if_pos (by rfl)]
    (try simp only [gs])
    refine wp_build_none rowY rfl ?_
    intro y2 o1 b2 z2
    have HB2 : Hid (Below W0.heap.size W0 y2) := HB1.out.trans (b2.mono HB1.out.size)
    replace o1 : Own encY 37 y2 W0.heap.size (.slice (some ⟨y1.heap.size, 0, none⟩) 0 0) [] := Go.Proofs.ownsRow_base_a o1 HB1.out.size
    have g1 : W0.heap.size ≤ y1.heap.size := HB1.out.size
    replace o11 := Own.below o11 b2
    refine hK.out _ _ (fun _ => (HELD.out _ HB2.out)) ?_
    clear hK K0 hHeld
    have hHeld := (HELD.out _ HB2.out)
    (try simp only [gs])
    clear b2
    refine wpAnyZ_ready (rs := [6]) (by kernel_rfl) (by simp) (AllReadyZ.cons rfl (fun K0 hK => ?_) AllReadyZ.nil)
    rw [if_pos (by rfl)]
    (try simp only [gs])
    refine wp_append_sl rowY _ _ rfl W0.heap.size (.slice (some ⟨y1.heap.size, 0, none⟩) 0 0) [] l rfl o1 (.slice ad N cap) rfl y2.heap.size (MB.out _ HB2.out).sl (by have := HN.out; simp only [List.length_nil]; omega) (by decide) HB2.out.size ?_
    intro v6 y3 o6 gr
    have HB3 : Hid (Below W0.heap.size W0 y3) := HB2.out.grown gr HB2.out.size (fun j hj => (o1.lt j hj).1)
    replace o11 := Own.same o11 (fun g hg => gr.block g (o11.lt g hg).2 (fun e => by
      have e1 : W0.heap.size = g := by simpa [Value.ownBlock] using hg
      have e2 : g = y1.heap.size := by simpa [Value.ownBlock] using e
      omega))
    refine hK.out _ _ (fun _ => (HELD.out _ HB3.out)) ?_
    clear hK K0 hHeld
    have hHeld := (HELD.out _ HB3.out)
    (try simp only [gs])
    clear gr o1
    simp only [List.nil_append] at o6
    refine wpAnyZ_ready (rs := [12]) (by kernel_rfl) (by simp) (AllReadyZ.cons rfl (fun K0 hK => ?_) AllReadyZ.nil)
    rw [if_pos (by rfl)]
    (try simp only [gs])
    refine wp_append_sl rowY _ _ rfl W0.heap.size v6 l [(ad1, C.length, cap1)] rfl o6 (.slice (some ⟨W0.heap.size, 0, none⟩) 1 1) rfl y3.heap.size o11.slB (by have := HN.out; simp only [List.length_cons, List.length_nil]; omega) (by decide) HB3.out.size ?_
    intro v12 y4 o12 gr
    have HB4 : Hid (Below W0.heap.size W0 y4) := HB3.out.grown gr HB3.out.size (fun j hj => (o6.lt j hj).1)
    refine hK.out _ _ (fun _ => (HELD.out _ HB4.out)) ?_
    clear hK K0 hHeld
    have hHeld := (HELD.out _ HB4.out)
    (try simp only [gs])
    clear gr o6 o11
    have hb3 := (RB.out _ HB4.out).blk
    have hf3 := frozen_of_row y4 p 3 _ _ hb3
    have hc3 : y4.cell? ⟨p, 3, none⟩ = some (.slice ad N cap) := (RvC.mk (RB.out _ HB4.out).blk).c3
    have HM12 : Hid (MvIn y4 v12 (l ++ [(ad1, C.length, cap1)]) (M ++ [(.slice ad1 C.length cap1, C)]) ∧ NewV W0.heap.size v12) := ⟨⟨o12.slB, by rw [List.map_append, List.map_append, (MB.out _ HB4.out).eq]; rfl, fun e he => by
      rcases List.mem_append.1 he with he | he
      · exact (MB.out _ HB4.out).each e he
      · rw [List.mem_singleton] at he; subst he; exact (RB.out _ HB4.out).c⟩, fun g hg => (o12.lt g hg).1⟩
    obtain ⟨ad12, cap12, rfl, -, -, -, -⟩ := id o12.slB
    obtain ⟨l', hl'⟩ : ∃ l', l' = l ++ [(ad1, C.length, cap1)] := ⟨_, rfl⟩
    have HL' : Hid (l'.length = N + 1) := (show _ = _ by rw [hl', List.length_append]; have := HN.out; simp; omega)
    rw [← hl'] at HM12
    rw [← hl']
    obtain ⟨N1, hN1⟩ : ∃ N1, N1 = l'.length := ⟨_, rfl⟩
    rw [← hN1] at HM12 HL'
    rw [← hN1]
    have hN1a : (1 : Int) ≤ (N1 : Int) := by have := HL'.out; omega
    have hN1b : (N1 : Int) ≤ 1001 := by have := HL'.out; have := HN.out; omega
    clear o12 hl' hN1
    refine wpAnyZ_take (i := 13) (v := ?_) [14, 15] rfl (by kernel_rfl) (by kernel_rfl) (by kernel_rfl) (by kernel_rfl) (fun _ _ _ h => h) (Or.inl ⟨by rfl, ?_⟩) hHeld ?_
    case refine_2 => (intro w hSw; (try dsimp only at hSw); go_simp; try (with_reducible rfl))
    (try simp only [gs])
    refine wpAnyZ_take (i := 14) (v := ?_) [15] rfl (by kernel_rfl) (by kernel_rfl) (by kernel_rfl) (by kernel_rfl) (fun _ _ _ h => h) (Or.inl ⟨by rfl, ?_⟩) hHeld ?_
    case refine_2 => (intro w hSw; (try dsimp only at hSw); go_simp; try (with_reducible rfl))
    (try simp only [gs])
    refine wpAnyZ_ready (rs := [15]) (by kernel_rfl) (by simp) (AllReadyZ.cons rfl (fun K0 hK => ?_) AllReadyZ.nil)
    rw [if_pos (by rfl)]
    (try simp only [gs])
    go_simp
    refine hK.out _ _ (fun q => absurd q (by decide)) ?_
    clear hK K0
    (try simp only [gs])
    refine wpAnyZ_done (by kernel_rfl) ?_ _
    refine NoPanic.normal ?_
    have hpne : ∀ g, Value.ownBlock (.slice ad12 N1 cap12) = some g → g ≠ p := fun g hg => Nat.ne_of_gt (Nat.lt_of_lt_of_le HP.out (HM12.out.2 g hg))
    have hY : (y4.setCell ⟨p, 3, none⟩ (.slice ad12 N1 cap12)).heap[p]? = some (.cells #[bv, .slice ad1 C.length cap1, rv, .slice ad12 N1 cap12] 41 (0, 0)) := by
      rw [setCell_eq_setRow y4 p 3 _ _ _ _ hb3, setRow_heap y4 p _ _ _ _ hb3]
      rfl
    have hFr : FrV (fun i => i = p) y4 (y4.setCell ⟨p, 3, none⟩ (.slice ad12 N1 cap12)) := ⟨⟨rfl, rfl, rfl, by simp, fun k hk => absurd hk (Nat.not_lt_zero k)⟩, fun i _ hn => heap_setCell_other _ _ _ _ hn⟩
    have HF : Hid (RvIn (y4.setCell ⟨p, 3, none⟩ (.slice ad12 N1 cap12)) p bv (.slice ad1 C.length cap1) rv (.slice ad12 N1 cap12) B C R (M ++ [(.slice ad1 C.length cap1, C)])) :=
      RvIn.stored (RB.out _ HB4.out) hY (fun g _ hne => heap_setCell_other _ _ _ _ hne) hFr.size (RB.out _ HB4.out).c (RB.out _ HB4.out).r HM12.out.1.slS (fun g off n cap e => hpne g (by rw [e]; rfl))
    have HFM : Hid (MvIn (y4.setCell ⟨p, 3, none⟩ (.slice ad12 N1 cap12)) (.slice ad12 N1 cap12) l' (M ++ [(.slice ad1 C.length cap1, C)])) :=
      ⟨SlB.aside HM12.out.1.sl hFr (fun _ g hg => hpne g hg), HM12.out.1.eq, fun e he => (SlB.off enc0C (HM12.out.1.each e he) hb3 (RB.out _ HB4.out).slices (fun g _ hne => heap_setCell_other _ _ _ _ hne)).wide hFr.size⟩
    have HG : Hid (FrV (fun i => i = p) w (y4.setCell ⟨p, 3, none⟩ (.slice ad12 N1 cap12)) ∧ NewV w.heap.size (.slice ad12 N1 cap12)) :=
      ⟨(FrV.of_below (S := fun i => i = p) (HRD.out.2.1.trans (HB4.out.mono HRD.out.2.1.size))).trans (S' := fun i => i = p) hFr (fun i e => .inl e), fun g hg => Nat.le_trans HRD.out.2.1.size (HM12.out.2 g hg)⟩
    have hc9 : (y4.setCell ⟨p, 3, none⟩ (.slice ad12 N1 cap12)).cell? ⟨p, 3, none⟩ = some (.slice ad12 N1 cap12) := (RvC.mk hY).c3
    clear hHeld hf3 hc3 hb3 hpne hY hFr
    generalize y4.setCell ⟨p, 3, none⟩ (.slice ad12 N1 cap12) = y99 at *
    go_wp2_with fail
    go_ret
    exact ⟨congrArg (fun z => Ending.returned (Value.int .i64 z)) (by have := HL'.out; have := HL.out; omega), HG.out.1, _, l', HF.out, HFM.out, HG.out.2⟩
end Go.Proofs.YtbbelhkdpmcoeaaGreat
/- The document's own One and Of. -/
namespace Go.Proofs.YtbbelhkdpmcoeaaGreat
set_option linter.unusedVariables false
set_option maxRecDepth 100000
open Go.RowKit

theorem nxt_over : ∀ (i : Nat) (K : List UInt8), i ≤ K.length → (nxt K i).2 = false → (nxt K i).1 = zs i ++ K.drop i
  | 0, K, _, _ => rfl
  | i + 1, K, hi, h => by
    rw [nxt] at h ⊢
    split at h
    · rename_i hx
      rw [if_pos hx]
      rw [nxt_over i (K.set i 0) (by simp; omega) h, List.set_eq_take_append_cons_drop, if_pos (by omega), List.drop_append_of_le_length (by simp; omega), List.drop_of_length_le (by simp; omega), List.nil_append]
      have e : zs (i + 1) = zs i ++ [0] := by simp [zs, List.replicate_succ']
      rw [e, List.append_assoc]
      rfl
    · cases h

set_option maxRecDepth 100000 in
set_option maxHeartbeats 4000000 in
theorem rone_calls (w : World) (K : List UInt8) (hK : K.length = 24) :
    Calls Tryz.prog 54 #[kv K] w fun e w' => e = .returned (sv K (oneT K) (oneE K)) ∧ Below w.heap.size w w' := by
  have hT := oneT_length K hK
  have h1 : Has ((w.alloc (.cells (bc K).toArray 29)).alloc (.cells (sc (zs 24) (zs 24) false).toArray 44)) w.heap.size K := (Has.new w K hK).alloc _
  have h2 : HasS ((w.alloc (.cells (bc K).toArray 29)).alloc (.cells (sc (zs 24) (zs 24) false).toArray 44)) (w.heap.size + 1) (zs 24) (zs 24) false := by exact zero_hasS _ _ (by simp)
  have B1 : Below w.heap.size w ((w.alloc (.cells (bc K).toArray 29)).alloc (.cells (sc (zs 24) (zs 24) false).toArray 44)) := below_made (below_made (Below.refl _ w) (Nat.le_refl _) _) (Nat.le_refl _) _
  have hz3 : ∀ o, (((w.alloc (.cells (bc K).toArray 29)).alloc (.cells (sc (zs 24) (zs 24) false).toArray 44)).alloc o).heap.size = w.heap.size + 3 := fun o => by simp
  go_enter Tryz.func54, Tryz.ntmps54
  go_wp2_with (first
    | (refine load_key _ rfl w.heap.size rfl rfl _ h1 ?_)
    | (refine store_key rfl _ _ rfl (w.heap.size + 2) rfl _ rfl hK (zs 24) (by exact zero_has _ _ (by simp)) ?_; intro w3 h3 t3 s3))
  have h4 := (h1.alloc (.cells #[.int .u8 0, .int .u8 0, .int .u8 0, .int .u8 0, .int .u8 0, .int .u8 0, .int .u8 0, .int .u8 0, .int .u8 0, .int .u8 0, .int .u8 0, .int .u8 0, .int .u8 0, .int .u8 0, .int .u8 0, .int .u8 0, .int .u8 0, .int .u8 0, .int .u8 0, .int .u8 0, .int .u8 0, .int .u8 0, .int .u8 0, .int .u8 0] 29)).touch t3 (by omega)
  have h5 := (h2.alloc (.cells #[.int .u8 0, .int .u8 0, .int .u8 0, .int .u8 0, .int .u8 0, .int .u8 0, .int .u8 0, .int .u8 0, .int .u8 0, .int .u8 0, .int .u8 0, .int .u8 0, .int .u8 0, .int .u8 0, .int .u8 0, .int .u8 0, .int .u8 0, .int .u8 0, .int .u8 0, .int .u8 0, .int .u8 0, .int .u8 0, .int .u8 0, .int .u8 0] 29)).touch t3 (by omega)
  have B3 : Below w.heap.size w w3 := below_touched (below_made B1 (Nat.le_refl _) _) t3 (by omega) (Nat.le_refl _)
  clear h1 h2 B1 t3 s3 hz3
  go_loopw [4] (fun i w' => ∃ (j : Nat) (L : List UInt8), j ≤ 24 ∧ i = .int .i64 ((j : Int) - 1) ∧ Has w' (w.heap.size + 2) L ∧ Has w' w.heap.size K ∧ HasS w' (w.heap.size + 1) (zs 24) (zs 24) false ∧ Below w.heap.size w w' ∧ nxt L j = nxt K 24) (fun i _ => (intOf i + 1).toNat)
  case atStart => exact ⟨24, K, by omega, rfl, h3, h4, h5, B3, rfl⟩
  case round =>
    clear h3 h4 h5 B3
    obtain ⟨j, L, hj, rfl, h3, h4, h5, B3, hn⟩ := hrel
    have HN : Hid (nxt L j = nxt K 24) := hn
    have HT : Hid (oneT K = (nxt K 24).1) := rfl
    have HE : Hid (oneE K = !(nxt K 24).2) := rfl
    clear hn
    by_cases hj0 : j = 0
    · subst hj0
      have hov : (nxt K 24).2 = false := by rw [← HN.out]; rfl
      have hTz : oneT K = zs 24 := by
        rw [HT.out, nxt_over 24 K (by omega) hov, List.drop_of_length_le (by omega), List.append_nil]
      have HTZ : Hid (oneT K = zs 24) := hTz
      have HEZ : Hid (oneE K = true) := by show _ = _; rw [HE.out, hov]; rfl
      clear hov hTz
      go_wp2_with (first
        | (refine load_key _ rfl w.heap.size rfl rfl _ h4 ?_)
        | (refine buildE rfl _ _ rfl _ _ rfl rfl hK ?_)
        | (refine store_span rfl _ _ rfl _ rfl _ _ _ rfl hK rfl (zs 24) (zs 24) false h5 ?_; intro w7 h7 t7 s7))
      refine ret_span rfl _ _ _ _ rfl h7 rfl ⟨by rw [HTZ.out, HEZ.out], below_touched B3 t7 (by omega) (Nat.le_refl _)⟩
    · obtain ⟨i, rfl⟩ : ∃ i, j = i + 1 := ⟨j - 1, by omega⟩
      have c1 := h3.cell i (by omega)
      have f1 := h3.free i
      have e1 : ((i + 1 : Nat) : Int) - 1 = (i : Int) := by omega
      rw [e1]
      rw [nxt] at HN
      by_cases hx : L.getD i 0 + 1 = 0
      · have hx1 : (L.getD i 0).toNat = 255 := by rw [u8_back hx]; rfl
        rw [if_pos hx] at HN
        rw [hx1] at c1
        have h6 := h3.setCell i 0
        go_wp2
        go_roundw
        case rel => exact ⟨i, L.set i 0, by omega, by go_num, h6, h4.setOther (by omega) _ _, ⟨h5.f, h5.t, by rw [Below.heap_setCell _ _ _ _ (by simp)]; exact h5.blk⟩, B3.setCell (by simp; omega) _, HN.out⟩
        case measure => simp [intOf]
      · rw [if_neg hx] at HN
        have hx1 := u8_less hx
        have h6 := h3.setCell i (L.getD i 0 + 1)
        rw [u8_plus hx] at h6
        have HTT : Hid (oneT K = L.set i (L.getD i 0 + 1)) := by show _ = _; rw [HT.out, ← HN.out]
        have HEE : Hid (oneE K = false) := by show _ = _; rw [HE.out, ← HN.out]; rfl
        clear hx HN
        have hl6 := h6.len
        generalize L.set i (L.getD i 0 + 1) = L5 at h6 HTT hl6
        generalize L.getD i 0 = x at *
        have h7 := h4.setOther (p := w.heap.size + 2) (by omega) i (.int .u8 ((x.toNat : Int) + 1))
        have h8 : HasS (wr.setCell ⟨w.heap.size + 2, i, none⟩ (.int .u8 ((x.toNat : Int) + 1))) (w.heap.size + 1) (zs 24) (zs 24) false := ⟨h5.f, h5.t, by rw [Below.heap_setCell _ _ _ _ (by simp)]; exact h5.blk⟩
        go_upto_region 7 with fail
        go_wp2_with (first
          | (refine load_key _ rfl w.heap.size rfl rfl _ h7 ?_)
          | (refine load_key _ rfl (w.heap.size + 2) rfl rfl _ h6 ?_)
          | (refine build2 rfl _ _ rfl _ _ rfl rfl hK hl6 ?_)
          | (refine store_span rfl _ _ rfl _ rfl _ _ _ rfl hK hl6 (zs 24) (zs 24) false h8 ?_; intro w9 h9 t9 s9))
        refine ret_span rfl _ _ _ _ rfl h9 rfl ⟨by rw [HTT.out, HEE.out], below_touched (B3.setCell (by simp; omega) _) t9 (by omega) (Nat.le_refl _)⟩

theorem sum4 (k0 k1 k2 k3 : UInt8) : (k0.toNat : Int) * 16777216 + (k1.toNat : Int) * 65536 + (k2.toNat : Int) * 256 + (k3.toNat : Int) = (num [k0, k1, k2, k3] : Int) := by
  simp [num]
  omega

end Go.Proofs.YtbbelhkdpmcoeaaGreat
