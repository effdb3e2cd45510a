import Derived.Test.YtgicanpggndbeaaGreatSi
import Derived.Test.YtgicanpggndbeaaGreatB01
import Derived.Test.YtgicanpggndbeaaGreatB39
import Derived.Test.YtgicanpggndbeaaGreatB30
import Derived.Test.YtgicanpggndbeaaGreatB25
import Derived.Test.YtgicanpggndbeaaGreatB40
import Derived.Test.YtgicanpggndbeaaGreatB41
import Derived.Test.YtgicanpggndbeaaGreatB29
import Derived.Test.YtgicanpggndbeaaGreatB03
import Derived.WalkKit
import Derived.Test.YtgicanpggndbeaaGreatB14
import Derived.Test.YtgicanpggndbeaaGreatB11
/- The document's View: Get. -/
namespace Go.Proofs.YtgicanpggndbeaaGreat
set_option linter.unusedVariables false
set_option maxRecDepth 100000
open Go.RowKit

set_option maxHeartbeats 8000000 in
theorem rvget_calls (w : World) (p : Nat) (bv cv rv mv : Value) (B : List Pa) (C : List Ch) (R : List Sp) (M : List (Value × List Ch)) (h : RvIn w p bv cv rv mv B C R M) (hp : ∀ g off n cap, mv = .slice (some ⟨g, off, none⟩) n cap → g ≠ p) (hl : R.length ≤ 300) (hB : B.length ≤ 100) (hC : C.length ≤ 100) (K : Kz) :
    Calls Tryz.prog 50 #[.pointer (some ⟨p, 0, none⟩), kv K.k] w fun e w' => ∃ mm, ApplyIs B C mm ∧ e = .returned (.tuple #[.string (str (gotV9 mm K)), .bool (gotB mm K)]) ∧ FrV (fun i => i = p) w w' ∧ ∃ rv' R', RvIn w' p bv cv rv' mv B C R' M ∧ ((look Ch.n C K.n).isSome = true → rv' = rv ∧ R' = R) ∧ ((look Ch.n C K.n).isSome = false → NewV w.heap.size rv' ∧ Is R' (mem (R ++ [oneSp K]))) := by
 have b1 : Below w.heap.size w (w.alloc (.cells (bc K.k).toArray 29)) := (Below.refl _ w).alloc (Nat.le_refl _) _
 have HK : Hid (Has (w.alloc (.cells (bc K.k).toArray 29)) w.heap.size K.k) := Has.new w K.k K.h
 have hInfo : ∀ J : Kz, (Tryz.prog.info? 29).map (·.size) = some (bc J.k).length := fun J => by rw [bc_length, J.h]; exact Tryz.key_info
 obtain ⟨ad, cap, rfl, hcap, hmax, -, -⟩ := id h.r
 obtain ⟨N, hN⟩ : ∃ N : Nat, N = R.length := ⟨_, rfl⟩
 have HN : Hid (N = R.length ∧ N ≤ 300) := ⟨hN, by omega⟩
 have HBC : Hid (B.length ≤ 100 ∧ C.length ≤ 100) := ⟨hB, hC⟩
 rw [← hN] at hcap hmax h
 have HR0 : Hid (RvIn (w.alloc (.cells (bc K.k).toArray 29)) p bv cv (.slice ad N cap) mv B C R M ∧ Below w.heap.size w (w.alloc (.cells (bc K.k).toArray 29)) ∧ p < w.heap.size) := ⟨h.called b1, b1, h.lt⟩
 have HPP : Hid (∀ g off n cap, mv = .slice (some ⟨g, off, none⟩) n cap → g ≠ p) := hp
 have hOw := rvown_calls (w.alloc (.cells (bc K.k).toArray 29)) p bv cv (.slice ad N cap) mv B C R M HR0.out.1 (by omega) K
 rw [← hN]
 clear b1 hN h hl hB hC hp
 go_enter Tryz.func50, Tryz.ntmps50
 go_upto_region 1 with fail
 have hkk : (w.alloc (.cells (bc K.k).toArray 29)).rangeAt w.heap.size 0 (bc K.k) := range_has HK.out
 generalize hW : w.alloc (.cells (bc K.k).toArray 29) = W at *
 go_upto_region 2 with (first
  | (refine load_part _ rfl w.heap.size 0 rfl rfl _ K.h hkk ?_)
  | (go_at_call 90; refine hOw.mono ?_; clear hOw; rintro e W1 ⟨rfl, b1⟩))
 have HR1 : Hid (RvIn W1 p bv cv (.slice ad N cap) mv B C R M ∧ Below w.heap.size w W1 ∧ Has W1 w.heap.size K.k) := ⟨HR0.out.1.called b1, HR0.out.2.1.trans (b1.mono HR0.out.2.1.size), HK.out.below b1 HK.out.lt⟩
 have HPW : Hid (p < w.heap.size) := HR0.out.2.2
 clear b1 hkk hW HR0 HK
 cases hq : (look Ch.n C K.n).isSome with
 | true =>
  have HLK : Hid ((look Ch.n C K.n).isSome = true) := hq
  clear hq
  have HR99 : Hid (RvIn W1 p bv cv (.slice ad N cap) mv B C R M ∧ Below w.heap.size w W1 ∧ Has W1 w.heap.size K.k) := HR1.out
  obtain ⟨y99, hy99⟩ : ∃ y, y = W1 := ⟨_, rfl⟩
  obtain ⟨W0, hW0⟩ : ∃ y, y = W1 := ⟨_, rfl⟩
  have HF : Hid (RvIn y99 p bv cv (.slice ad N cap) mv B C R M) := by subst hy99; exact HR1.out.1
  have HSB : Hid (y99.heap[w.heap.size]? = W0.heap[w.heap.size]?) := by subst hy99; subst hW0; rfl
  have HG : Hid (FrV (fun i => i = p) w y99) := by subst hy99; exact FrV.of_below (S := fun i => i = p) HR1.out.2.1
  have HBX : Hid (W0.rangeAt w.heap.size 0 (bc K.k)) := by subst hW0; exact range_has HR1.out.2.2
  have HP : Hid (p < w.heap.size ∧ w.heap.size < W0.heap.size) := by subst hW0; exact ⟨HPW.out, HR1.out.2.2.lt⟩
  have HL9 : Hid (W0.heap.size ≤ y99.drew.heap.size) := by subst hy99; subst hW0; exact Nat.le_refl _
  rw [← hy99]
  clear hy99 hW0 HR1 HR99
  have HRX : Hid (RvIn y99.drew p bv cv (.slice ad N cap) mv B C R M ∧ Below y99.heap.size y99 y99.drew) := ⟨HF.out.called ⟨rfl, rfl, rfl, Nat.le_refl _, fun _ _ => rfl⟩, ⟨rfl, rfl, rfl, Nat.le_refl _, fun _ _ => rfl⟩⟩
  have HSX : Hid (∀ y, Below y99.drew.heap.size y99.drew y → y.rangeAt w.heap.size 0 (bc K.k)) := fun y b => range_same' (HBX.out) (((b.block w.heap.size (Nat.lt_of_lt_of_le HP.out.2 HL9.out))).trans HSB.out)
  have hMap := rvmap_calls y99.drew p bv cv (.slice ad N cap) mv B C R M HRX.out.1 (by have := HBC.out; omega) (by have := HBC.out; omega)
  go_upto_region 4 with fail
  refine wp_region_noPanic ?_
  refine wp_region_held_drew (S := (fun yy => yy.rangeAt w.heap.size 0 (bc K.k))) (by kernel_rfl) (HSX.out _ (Below.refl _ _)) (fun hHeld => ?_)
  refine tk (v := ?_) 0 rfl hHeld (Or.inl ⟨by rfl, ?_⟩) ?_
  case refine_2 => (intro w hSw; (try dsimp only at hSw); go_simp; try (with_reducible rfl))
  (try simp only [gs])
  refine tk 2 rfl hHeld (yieldsIf_load_mid (by rfl) _ _ rfl _ _ rfl _ _ (fun _ h => h) Tryz.underlying29 rfl (hInfo K)) ?_
  (try simp only [gs])
  refine wpAnyH_ready (rs := [1]) (by kernel_rfl) (by simp) (AllReadyH.cons rfl (fun K0 hK => ?_) AllReadyH.nil)
  rw [if_pos (by rfl)]
  (try simp only [gs])
  go_simp
  refine hMap.mono ?_
  clear hMap
  rintro e y101 ⟨v8, mm, rfl, s8, i8, l8, b8⟩
  have hIn := get9_calls y101 v8 mm K s8 i8.1 (by have := HBC.out; omega)
  refine hK.out _ _ (HSX.out _ b8) (fun hHeld => ?_)
  clear hK K0
  (try simp only [gs])
  refine wpAnyH_ready (rs := [3]) (by kernel_rfl) (by simp) (AllReadyH.cons rfl (fun K0 hK => ?_) AllReadyH.nil)
  rw [if_pos (by rfl)]
  (try simp only [gs])
  go_simp
  refine hIn.mono ?_
  clear hIn
  rintro e y102 ⟨rfl, b9⟩
  have HB9 : Hid (Below y99.drew.heap.size y99.drew y102) := b8.trans (b9.mono b8.size)
  refine hK.out _ _ (HSX.out _ HB9.out) (fun hHeld => ?_)
  clear hK K0
  (try simp only [gs])
  refine tk (v := ?_) 4 rfl hHeld (Or.inl ⟨by rfl, ?_⟩) ?_
  case refine_2 => (intro w hSw; (try dsimp only at hSw); go_simp; try (with_reducible rfl))
  (try simp only [gs])
  refine tk (v := ?_) 5 rfl hHeld (Or.inl ⟨by rfl, ?_⟩) ?_
  case refine_2 => (intro w hSw; (try dsimp only at hSw); go_simp; try (with_reducible rfl))
  (try simp only [gs])
  refine tk (v := ?_) 6 rfl hHeld (Or.inl ⟨by rfl, ?_⟩) ?_
  case refine_2 => (intro w hSw; (try dsimp only at hSw); go_simp; try (with_reducible rfl))
  (try simp only [gs])
  refine tk (v := ?_) 7 rfl hHeld (Or.inl ⟨by rfl, ?_⟩) ?_
  case refine_2 => (intro w hSw; (try dsimp only at hSw); go_simp; try (with_reducible rfl))
  (try simp only [gs])
  refine wpAnyH_done (by kernel_rfl) ?_ _
  refine NoPanic.normal ?_
  clear hHeld
  go_wp2_with fail
  go_ret2
  exact ⟨mm, i8, rfl, HG.out.trans (FrV.of_below (S := fun i => i = p) (HRX.out.2.trans (HB9.out.mono HRX.out.2.size))) (fun i e => .inl e), _, R, HF.out.called (HRX.out.2.trans (HB9.out.mono HRX.out.2.size)), fun _ => ⟨rfl, rfl⟩, fun q => absurd q (by rw [HLK.out]; decide)⟩
 | false =>
  have HLK : Hid ((look Ch.n C K.n).isSome = false) := hq
  clear hq
  go_upto_region 3 with fail
  have HRD : Hid (RvIn W1.drew p bv cv (.slice ad N cap) mv B C R M ∧ Below w.heap.size w W1.drew ∧ Has W1.drew w.heap.size K.k) := ⟨HR1.out.1.called ⟨rfl, rfl, rfl, Nat.le_refl _, fun _ _ => rfl⟩, HR1.out.2.1.trans ⟨rfl, rfl, rfl, Nat.le_refl _, fun _ _ => rfl⟩, ⟨HR1.out.2.2.len, HR1.out.2.2.blk⟩⟩
  have HBX0 : Hid (W1.drew.rangeAt w.heap.size 0 (bc K.k)) := range_has HRD.out.2.2
  refine wp_region_noPanic ?_
  refine wp_region_Z 14 (fun yy => RvC yy p bv cv (.slice ad N cap) mv ∧ yy.rangeAt w.heap.size 0 (bc K.k)) (by kernel_rfl) ⟨RvC.mk HRD.out.1.blk, HBX0.out⟩ (fun hHeld => ?_)
  refine wpAnyZ_take (i := 0) (v := ?_) [12, 13, 14] rfl (by kernel_rfl) (by kernel_rfl) (by kernel_rfl) (by kernel_rfl) (fun _ _ _ h => h) (Or.inl ⟨by rfl, ?_⟩) hHeld ?_
  case refine_2 => (intro w hSw; (try dsimp only at hSw); go_simp; try (with_reducible rfl))
  (try simp only [gs])
  refine wpAnyZ_take (i := 2) (v := ?_) [3, 4, 5, 6, 10, 11, 14] rfl (by kernel_rfl) (by kernel_rfl) (by kernel_rfl) (by kernel_rfl) (fun _ _ _ h => h) (Or.inl ⟨by rfl, ?_⟩) hHeld ?_
  case refine_2 => (intro w hSw; (try dsimp only at hSw); go_simp; try (with_reducible rfl))
  (try simp only [gs])
  refine wpAnyZ_take (i := 3) (v := ?_) [4, 5, 6, 10, 11, 14] rfl (by kernel_rfl) (by kernel_rfl) (by kernel_rfl) (by kernel_rfl) (fun _ _ _ h => h) (Or.inl ⟨by rfl, ?_⟩) hHeld ?_
  case refine_2 => (intro w hSw; (try dsimp only at hSw); go_simp; try (with_reducible rfl))
  (try simp only [gs])
  refine wpAnyZ_take (i := 4) (v := ?_) [5, 6, 10, 11, 14] rfl (by kernel_rfl) (by kernel_rfl) (by kernel_rfl) (by kernel_rfl) (fun _ _ _ h => h) (Or.inl ⟨by rfl, ?_⟩) hHeld ?_
  case refine_2 => (intro w hSw; (try dsimp only at hSw); go_simp; try (with_reducible rfl))
  (try simp only [gs])
  refine wpAnyZ_take (i := 5) (v := ?_) [6, 10, 11, 14] rfl (by kernel_rfl) (by kernel_rfl) (by kernel_rfl) (by kernel_rfl) (fun _ _ _ h => h) (Or.inl ⟨by rfl, ?_⟩) hHeld ?_
  case refine_2 => (intro w hSw; (try dsimp only at hSw); have hc := hSw.1.c2; go_simp; try (with_reducible rfl))
  (try simp only [gs])
  refine wpAnyZ_take (i := 7) [8, 9, 10, 11, 14] rfl (by kernel_rfl) (by kernel_rfl) (by kernel_rfl) (by kernel_rfl) (fun _ _ _ h => h) (yieldsIf_load_mid (by rfl) _ _ rfl _ _ rfl _ _ (fun _ h => h.2) Tryz.underlying29 rfl (hInfo K)) hHeld ?_
  (try simp only [gs])
  have HP : Hid (p < w.heap.size ∧ w.heap.size < W1.drew.heap.size) := ⟨HPW.out, HRD.out.2.2.lt⟩
  clear HR1
  generalize W1.drew = W0 at *
  have HBX : Hid (W0.rangeAt w.heap.size 0 (bc K.k)) := HBX0.out
  have RB : Hid (∀ y, Below W0.heap.size W0 y → RvIn y p bv cv (.slice ad N cap) mv B C R M) := fun y b => HRD.out.1.called b
  have HELD : Hid (∀ y, Below W0.heap.size W0 y → RvC y p bv cv (.slice ad N cap) mv ∧ y.rangeAt w.heap.size 0 (bc K.k)) := fun y b => ⟨RvC.mk (HRD.out.1.called b).blk, range_same' HBX.out (b.block w.heap.size HP.out.2)⟩
  have HB0 : Hid (Below W0.heap.size W0 W0) := Below.refl _ _
  clear HBX0
  refine wpAnyZ_ready (rs := [1]) (by kernel_rfl) (by simp) (AllReadyZ.cons rfl (fun K0 hK => ?_) AllReadyZ.nil)
  rw [if_pos (by rfl)]
  (try simp only [gs])
  refine wp_build_none rowS rfl ?_
  intro y1 o1 b1 z1
  have HB1 : Hid (Below W0.heap.size W0 y1) := HB0.out.trans (b1.mono HB0.out.size)
  replace o1 : Own encS 96 y1 W0.heap.size (.slice (some ⟨W0.heap.size, 0, none⟩) 0 0) [] := Go.Proofs.ownsRow_base_a o1 HB0.out.size
  have g1 : W0.heap.size ≤ W0.heap.size := HB0.out.size
  refine hK.out _ _ (fun _ => (HELD.out _ HB1.out)) ?_
  clear hK K0 hHeld
  have hHeld := (HELD.out _ HB1.out)
  (try simp only [gs])
  clear b1
  refine wpAnyZ_ready (rs := [6]) (by kernel_rfl) (by simp) (AllReadyZ.cons rfl (fun K0 hK => ?_) AllReadyZ.nil)
  rw [if_pos (by rfl)]
  (try simp only [gs])
  refine wp_append_sl rowS _ _ rfl W0.heap.size (.slice (some ⟨W0.heap.size, 0, none⟩) 0 0) [] R rfl o1 (.slice ad N cap) rfl y1.heap.size (RB.out _ HB1.out).r (by have := HN.out; simp only [List.length_nil]; omega) (by decide) HB1.out.size ?_
  intro v6 y2 o6 gr
  have HB2 : Hid (Below W0.heap.size W0 y2) := HB1.out.grown gr HB1.out.size (fun j hj => (o1.lt j hj).1)
  refine hK.out _ _ (fun _ => (HELD.out _ HB2.out)) ?_
  clear hK K0 hHeld
  have hHeld := (HELD.out _ HB2.out)
  (try simp only [gs])
  clear gr o1
  simp only [List.nil_append] at o6
  refine wpAnyZ_ready (rs := [8]) (by kernel_rfl) (by simp) (AllReadyZ.cons rfl (fun K0 hK => ?_) AllReadyZ.nil)
  rw [if_pos (by rfl)]
  (try simp only [gs])
  go_simp
  refine (rone_calls y2 K.k K.h).mono ?_
  rintro e y3 ⟨rfl, b3⟩
  have z3 := b3.size
  have HB3 : Hid (Below W0.heap.size W0 y3) := HB2.out.trans (b3.mono HB2.out.size)
  replace o6 := Own.below o6 b3
  refine hK.out _ _ (fun _ => (HELD.out _ HB3.out)) ?_
  clear hK K0 hHeld
  have hHeld := (HELD.out _ HB3.out)
  (try simp only [gs])
  clear b3
  refine wpAnyZ_ready (rs := [9]) (by kernel_rfl) (by simp) (AllReadyZ.cons rfl (fun K0 hK => ?_) AllReadyZ.nil)
  rw [if_pos (by rfl)]
  (try simp only [gs])
  refine wp_build_el1 rowS _ rfl (oneSp K) rfl (by decide) ?_
  intro y4 o11 b4 z4
  have HB4 : Hid (Below W0.heap.size W0 y4) := HB3.out.trans (b4.mono HB3.out.size)
  replace o11 : Own encS 96 y4 W0.heap.size (.slice (some ⟨y3.heap.size, 0, none⟩) 1 1) [oneSp K] := Go.Proofs.ownsRow_base_a o11 HB3.out.size
  replace o6 := Own.below o6 b4
  refine hK.out _ _ (fun _ => (HELD.out _ HB4.out)) ?_
  clear hK K0 hHeld
  have hHeld := (HELD.out _ HB4.out)
  (try simp only [gs])
  clear b4
  refine wpAnyZ_ready (rs := [10]) (by kernel_rfl) (by simp) (AllReadyZ.cons rfl (fun K0 hK => ?_) AllReadyZ.nil)
  rw [if_pos (by rfl)]
  (try simp only [gs])
  refine wp_append_sl rowS _ _ rfl W0.heap.size v6 R [oneSp K] rfl o6 (.slice (some ⟨y3.heap.size, 0, none⟩) 1 1) rfl y4.heap.size o11.slB (by have := HN.out; simp only [List.length_cons, List.length_nil]; omega) (by decide) HB4.out.size ?_
  intro v12 y5 o12 gr
  have HB5 : Hid (Below W0.heap.size W0 y5) := HB4.out.grown gr HB4.out.size (fun j hj => (o6.lt j hj).1)
  refine hK.out _ _ (fun _ => (HELD.out _ HB5.out)) ?_
  clear hK K0 hHeld
  have hHeld := (HELD.out _ HB5.out)
  (try simp only [gs])
  clear gr o6 o11
  have hCl := rclean_calls y5 v12 (R ++ [oneSp K]) o12.slB (by have := HN.out; simp; omega)
  refine wpAnyZ_ready (rs := [11]) (by kernel_rfl) (by simp) (AllReadyZ.cons rfl (fun K0 hK => ?_) AllReadyZ.nil)
  rw [if_pos (by rfl)]
  (try simp only [gs])
  go_simp
  refine hCl.mono ?_
  clear hCl
  rintro e y6 ⟨v13, rfl, R', o13, i13, b13⟩
  have HB6 : Hid (Below W0.heap.size W0 y6) := HB5.out.trans (b13.mono HB5.out.size)
  have HR13 : Hid (Sl encS y6 v13 R' ∧ Is R' (mem (R ++ [oneSp K])) ∧ NewV W0.heap.size v13) := ⟨o13.slB, i13, fun g hg => Nat.le_trans HB5.out.size (o13.lt g hg).1⟩
  refine hK.out _ _ (fun _ => (HELD.out _ HB6.out)) ?_
  clear hK K0 hHeld
  have hHeld := (HELD.out _ HB6.out)
  (try simp only [gs])
  have hb3 := (RB.out _ HB6.out).blk
  have hf3 := frozen_of_row y6 p 2 _ _ hb3
  have hc3 : y6.cell? ⟨p, 2, none⟩ = some (.slice ad N cap) := (RvC.mk (RB.out _ HB6.out).blk).c2
  obtain ⟨ad13, cap13, rfl, -, -, -, -⟩ := id o13.slB
  clear o13 i13 b13 o12
  refine wpAnyZ_take (i := 12) (v := ?_) [13, 14] rfl (by kernel_rfl) (by kernel_rfl) (by kernel_rfl) (by kernel_rfl) (fun _ _ _ h => h) (Or.inl ⟨by rfl, ?_⟩) hHeld ?_
  case refine_2 => (intro w hSw; (try dsimp only at hSw); go_simp; try (with_reducible rfl))
  (try simp only [gs])
  refine wpAnyZ_take (i := 13) (v := ?_) [14] rfl (by kernel_rfl) (by kernel_rfl) (by kernel_rfl) (by kernel_rfl) (fun _ _ _ h => h) (Or.inl ⟨by rfl, ?_⟩) hHeld ?_
  case refine_2 => (intro w hSw; (try dsimp only at hSw); go_simp; try (with_reducible rfl))
  (try simp only [gs])
  refine wpAnyZ_ready (rs := [14]) (by kernel_rfl) (by simp) (AllReadyZ.cons rfl (fun K0 hK => ?_) AllReadyZ.nil)
  rw [if_pos (by rfl)]
  (try simp only [gs])
  go_simp
  refine hK.out _ _ (fun q => absurd q (by decide)) ?_
  clear hK K0
  (try simp only [gs])
  refine wpAnyZ_done (by kernel_rfl) ?_ _
  refine NoPanic.normal ?_
  have hY : (y6.setCell ⟨p, 2, none⟩ (.slice ad13 R'.length cap13)).heap[p]? = some (.cells #[bv, cv, .slice ad13 R'.length cap13, mv] 56 (0, 0)) := by
   rw [setCell_eq_setRow y6 p 2 _ _ _ _ hb3, setRow_heap y6 p _ _ _ _ hb3]
   rfl
  have hFr : FrV (fun i => i = p) y6 (y6.setCell ⟨p, 2, none⟩ (.slice ad13 R'.length cap13)) := ⟨⟨rfl, rfl, rfl, by simp, fun k hk => absurd hk (Nat.not_lt_zero k)⟩, fun i _ hn => heap_setCell_other _ _ _ _ hn⟩
  have HF : Hid (RvIn (y6.setCell ⟨p, 2, none⟩ (.slice ad13 R'.length cap13)) p bv cv (.slice ad13 R'.length cap13) mv B C R' M) :=
   RvIn.stored (RB.out _ HB6.out) hY (fun g _ hne => heap_setCell_other _ _ _ _ hne) hFr.size (RB.out _ HB6.out).c HR13.out.1 (RB.out _ HB6.out).m HPP.out
  have HG : Hid (FrV (fun i => i = p) w (y6.setCell ⟨p, 2, none⟩ (.slice ad13 R'.length cap13)) ∧ NewV w.heap.size (.slice ad13 R'.length cap13) ∧ Is R' (mem (R ++ [oneSp K]))) :=
   ⟨(FrV.of_below (S := fun i => i = p) (HRD.out.2.1.trans (HB6.out.mono HRD.out.2.1.size))).trans (S' := fun i => i = p) hFr (fun i e => .inl e), fun g hg => Nat.le_trans HRD.out.2.1.size (HR13.out.2.2 g hg), HR13.out.2.1⟩
  have HSB : Hid ((y6.setCell ⟨p, 2, none⟩ (.slice ad13 R'.length cap13)).heap[w.heap.size]? = W0.heap[w.heap.size]?) := (heap_setCell_other _ _ _ _ (show w.heap.size ≠ p from Nat.ne_of_gt HP.out.1)).trans (HB6.out.block w.heap.size HP.out.2)
  have HZ9 : Hid (W0.heap.size ≤ (y6.setCell ⟨p, 2, none⟩ (.slice ad13 R'.length cap13)).heap.size) := (show _ ≤ _ from Nat.le_trans HB6.out.size hFr.size)
  clear hHeld hf3 hc3 hb3 hY hFr HR13
  generalize y6.setCell ⟨p, 2, none⟩ (.slice ad13 R'.length cap13) = y99 at *
  have HL9 : Hid (W0.heap.size ≤ y99.drew.heap.size) := (show _ ≤ _ from HZ9.out)
  have HRX : Hid (RvIn y99.drew p bv cv (.slice ad13 R'.length cap13) mv B C R' M ∧ Below y99.heap.size y99 y99.drew) := ⟨HF.out.called ⟨rfl, rfl, rfl, Nat.le_refl _, fun _ _ => rfl⟩, ⟨rfl, rfl, rfl, Nat.le_refl _, fun _ _ => rfl⟩⟩
  have HSX : Hid (∀ y, Below y99.drew.heap.size y99.drew y → y.rangeAt w.heap.size 0 (bc K.k)) := fun y b => range_same' (HBX.out) (((b.block w.heap.size (Nat.lt_of_lt_of_le HP.out.2 HL9.out))).trans HSB.out)
  have hMap := rvmap_calls y99.drew p bv cv (.slice ad13 R'.length cap13) mv B C R' M HRX.out.1 (by have := HBC.out; omega) (by have := HBC.out; omega)
  go_upto_region 4 with fail
  refine wp_region_noPanic ?_
  refine wp_region_held_drew (S := (fun yy => yy.rangeAt w.heap.size 0 (bc K.k))) (by kernel_rfl) (HSX.out _ (Below.refl _ _)) (fun hHeld => ?_)
  refine tk (v := ?_) 0 rfl hHeld (Or.inl ⟨by rfl, ?_⟩) ?_
  case refine_2 => (intro w hSw; (try dsimp only at hSw); go_simp; try (with_reducible rfl))
  (try simp only [gs])
  refine tk 2 rfl hHeld (yieldsIf_load_mid (by rfl) _ _ rfl _ _ rfl _ _ (fun _ h => h) Tryz.underlying29 rfl (hInfo K)) ?_
  (try simp only [gs])
  refine wpAnyH_ready (rs := [1]) (by kernel_rfl) (by simp) (AllReadyH.cons rfl (fun K0 hK => ?_) AllReadyH.nil)
  rw [if_pos (by rfl)]
  (try simp only [gs])
  go_simp
  refine hMap.mono ?_
  clear hMap
  rintro e y101 ⟨v8, mm, rfl, s8, i8, l8, b8⟩
  have hIn := get9_calls y101 v8 mm K s8 i8.1 (by have := HBC.out; omega)
  refine hK.out _ _ (HSX.out _ b8) (fun hHeld => ?_)
  clear hK K0
  (try simp only [gs])
  refine wpAnyH_ready (rs := [3]) (by kernel_rfl) (by simp) (AllReadyH.cons rfl (fun K0 hK => ?_) AllReadyH.nil)
  rw [if_pos (by rfl)]
  (try simp only [gs])
  go_simp
  refine hIn.mono ?_
  clear hIn
  rintro e y102 ⟨rfl, b9⟩
  have HB9 : Hid (Below y99.drew.heap.size y99.drew y102) := b8.trans (b9.mono b8.size)
  refine hK.out _ _ (HSX.out _ HB9.out) (fun hHeld => ?_)
  clear hK K0
  (try simp only [gs])
  refine tk (v := ?_) 4 rfl hHeld (Or.inl ⟨by rfl, ?_⟩) ?_
  case refine_2 => (intro w hSw; (try dsimp only at hSw); go_simp; try (with_reducible rfl))
  (try simp only [gs])
  refine tk (v := ?_) 5 rfl hHeld (Or.inl ⟨by rfl, ?_⟩) ?_
  case refine_2 => (intro w hSw; (try dsimp only at hSw); go_simp; try (with_reducible rfl))
  (try simp only [gs])
  refine tk (v := ?_) 6 rfl hHeld (Or.inl ⟨by rfl, ?_⟩) ?_
  case refine_2 => (intro w hSw; (try dsimp only at hSw); go_simp; try (with_reducible rfl))
  (try simp only [gs])
  refine tk (v := ?_) 7 rfl hHeld (Or.inl ⟨by rfl, ?_⟩) ?_
  case refine_2 => (intro w hSw; (try dsimp only at hSw); go_simp; try (with_reducible rfl))
  (try simp only [gs])
  refine wpAnyH_done (by kernel_rfl) ?_ _
  refine NoPanic.normal ?_
  clear hHeld
  go_wp2_with fail
  go_ret2
  exact ⟨mm, i8, rfl, HG.out.1.trans (FrV.of_below (S := fun i => i = p) (HRX.out.2.trans (HB9.out.mono HRX.out.2.size))) (fun i e => .inl e), _, R', HF.out.called (HRX.out.2.trans (HB9.out.mono HRX.out.2.size)), fun q => absurd q (by rw [HLK.out]; decide), fun _ => HG.out.2⟩
end Go.Proofs.YtgicanpggndbeaaGreat
/- ViewPlays: a view and the document's beside it; what they agree on (mathematics). -/
namespace Go.Proofs.YtgicanpggndbeaaGreat
set_option linter.unusedVariables false
set_option maxRecDepth 100000
open Go.RowKit

/-- What both agree on. -/
structure PlOk (m : List Pa) (V : VS) (C : List Ch) (R : List Sp) (M : List (Value × List Ch)) (D : List (List Ch)) (j : Nat) : Prop where
 asc : Asc Pa.n m
 len : m.length ≤ 40
 mi : MkIs V D
 c : C = V.C.map Ch.plain
 g : GoneOk V.C
 d : ∀ L ∈ D, GoneOk L ∧ Asc Ch.n L ∧ L.length ≤ j
 rd : Is R (mem V.R)
 most : V.most j
 me : M.map (·.2) = D.map (List.map Ch.plain)
section
variable {m : List Pa} {V : VS} {C : List Ch} {R : List Sp} {M : List (Value × List Ch)} {D : List (List Ch)} {j : Nat}
theorem PlOk.lenC (h : PlOk m V C R M D j) : C.length ≤ j := by rw [h.c, List.length_map]; exact h.most.1
theorem keepL_len (C : List Ch) (L : List Fo) (J : Kz) : (keepL C L J).length ≤ L.length + 1 := by
 unfold keepL
 split
 · omega
 · exact putA_len Fo.n L _
theorem most_up (h : V.most j) : V.most (j + 1) := ⟨Nat.le_succ_of_le h.1, Nat.le_succ_of_le h.2.1, Nat.le_succ_of_le h.2.2.1, fun L hL => Nat.le_succ_of_le (h.2.2.2 L hL)⟩
theorem most_change (h : V.most j) (c : Ch) : (V.change c).most (j + 1) := by
 refine ⟨?_, Nat.le_succ_of_le h.2.1, ?_, fun L hL => ?_⟩
 · have := putA_len Ch.n V.C c
   have := h.1
   show (putA Ch.n V.C c).length ≤ j + 1
   omega
 · show (keepU V.C V.U c.kz).length ≤ j + 1
   unfold keepU
   rw [List.length_set]
   exact Nat.le_succ_of_le h.2.2.1
 · have hL' : L ∈ keepU V.C V.U c.kz := hL
   unfold keepU at hL'
   rcases List.mem_or_eq_of_mem_set hL' with q | rfl
   · exact Nat.le_succ_of_le (h.2.2.2 L q)
   · have h1 := keepL_len V.C (V.U.getD (V.U.length - 1) []) c.kz
     have h2 : (V.U.getD (V.U.length - 1) []).length ≤ j := by
      rw [List.getD_eq_getElem?_getD]
      cases e : V.U[V.U.length - 1]? with
      | none => exact Nat.zero_le _
      | some L => exact h.2.2.2 L (List.mem_of_getElem? e)
     omega
theorem PlOk.up (h : PlOk m V C R M D j) : PlOk m V C R M D (j + 1) := ⟨h.asc, h.len, h.mi, h.c, h.g, fun L hL => ⟨(h.d L hL).1, (h.d L hL).2.1, Nat.le_succ_of_le (h.d L hL).2.2⟩, h.rd, most_up h.most, h.me⟩
theorem PlOk.change (h : PlOk m V C R M D j) (c : Ch) (hc : c.g = true → c.v = []) {C' : List Ch} (hj : JoinIs (C ++ [c]) C') : PlOk m (V.change c) C' R M D (j + 1) := by
 refine ⟨h.asc, h.len, h.mi.change c, ?_, h.g.put c hc, fun L hL => ⟨(h.d L hL).1, (h.d L hL).2.1, Nat.le_succ_of_le (h.d L hL).2.2⟩, h.rd, most_change h.most c, h.me⟩
 rw [h.c] at hj
 exact join_change h.mi.asc c hj
theorem PlOk.read (h : PlOk m V C R M D j) (s : Sp) {R' : List Sp} (hr : Is R' (mem (R ++ [s]))) : PlOk m { V with R := V.R ++ [s] } C R' M D (j + 1) := by
 have hm := h.most
 refine ⟨h.asc, h.len, ⟨h.mi.len, h.mi.asc, h.mi.ok, h.mi.at_⟩, h.c, h.g, fun L hL => ⟨(h.d L hL).1, (h.d L hL).2.1, Nat.le_succ_of_le (h.d L hL).2.2⟩, ⟨hr.1, fun K hK => ?_⟩, ⟨Nat.le_succ_of_le hm.1, ?_, Nat.le_succ_of_le hm.2.2.1, fun L hL => Nat.le_succ_of_le (hm.2.2.2 L hL)⟩, h.me⟩
 · rw [hr.2 K hK, mem_append, mem_append, h.rd.2 K hK]
 · show (V.R ++ [s]).length ≤ j + 1
   have := hm.2.1
   simp
   omega
end
/-- A view and the document's, side by side. -/
structure PlAt (w0 : World) (lim p : Nat) (pv : Value) (m : List Pa) (base q : Nat) (x : VR) (V : VS) (rp : Nat) (bv cv rv mv : Value) (C : List Ch) (R : List Sp) (l : List SV) (M : List (Value × List Ch)) (y : World) : Prop where
 a : VAt w0 lim (fun _ w => PlC lim w p pv m base) 9 (.iface 69 (.pointer (some ⟨p, 0, none⟩))) q x V y
 d : RvIn y rp bv cv rv mv m C R M
 ml : MvIn y mv l M
 off : RvOff (x.own q) rp bv cv rv mv m C R M
 hp : ∀ g, mv.ownBlock = some g → g ≠ rp
 lp : lim ≤ rp
section
variable {w0 : World} {lim p : Nat} {pv : Value} {m : List Pa} {base q : Nat} {x x' : VR} {V V' : VS} {rp : Nat} {bv cv rv mv cv' rv' mv' : Value} {C C' : List Ch} {R R' : List Sp} {l l' : List SV} {M M' : List (Value × List Ch)} {y y' : World} {nb k : Nat}
/-- Behind a call on the view. -/
theorem PlAt.fst (h : PlAt w0 lim p pv m base q x V rp bv cv rv mv C R l M y) (t : VRan noB w0 lim (fun _ w => PlC lim w p pv m base) k (.iface 69 (.pointer (some ⟨p, 0, none⟩))) q x nb V' y x' y') : PlAt w0 lim p pv m base q x' V' rp bv cv rv mv C R l M y' := by
 have f : FrV (x.own q) y y' := ⟨t.fr.bel, fun i hi hn => t.fr.block i hi (fun e => e.elim hn (fun e => e))⟩
 exact ⟨⟨t.at_.vw, t.at_.base, t.at_.own, t.at_.bel, t.at_.le, t.at_.limy⟩, h.d.aside f h.off, h.ml.aside f h.off.m h.off.e, h.off.both (h.d.lts h.ml) t.own, h.hp, h.lp⟩
/-- Behind a call on the document's. -/
theorem PlAt.snd (h : PlAt w0 lim p pv m base q x V rp bv cv rv mv C R l M y) (f : FrV (fun i => i = rp) y y') (d : RvIn y' rp bv cv' rv' mv' m C' R' M') (ml : MvIn y' mv' l' M') (off : RvOff (x.own q) rp bv cv' rv' mv' m C' R' M') (hp : ∀ g, mv'.ownBlock = some g → g ≠ rp) : PlAt w0 lim p pv m base q x V rp bv cv' rv' mv' C' R' l' M' y' := by
 have hb : PlC lim y p pv m base := h.a.base
 refine ⟨h.a.aside f (fun i e => by cases e; exact ⟨Nat.le_trans h.a.le h.lp, h.off.p⟩) (hb.kept f.size fun i hi => f.block i (Nat.lt_of_lt_of_le ?_ hb.le) (fun e => ?_)), d, ml, off, hp, h.lp⟩
 · rcases hi with rfl | hi
   · exact hb.lo
   · exact hb.lov i hi
 · subst e
   have := h.lp
   rcases hi with hi | hi
   · have := hb.lo
     omega
   · have := hb.lov i hi
     omega
theorem PlAt.called (h : PlAt w0 lim p pv m base q x V rp bv cv rv mv C R l M y) (hm : m.length ≤ 5000) (b : Below y.heap.size y y') : PlAt w0 lim p pv m base q x V rp bv cv rv mv C R l M y' :=
 ⟨h.a.called (plainC_base lim p pv m base hm) b, h.d.called b, h.ml.called b, h.off, h.hp, h.lp⟩
theorem PlAt.new (h : PlAt w0 lim p pv m base q x V rp bv cv rv mv C R l M y) {v : Value} (hv : NewV y.heap.size v) : ∀ g, v.ownBlock = some g → ¬ x.own q g := fun g hg e => by
 have := hv g hg
 have := h.a.vw.lt e
 omega
end
end Go.Proofs.YtgicanpggndbeaaGreat
/- dir: a view over nothing, and dir's calls on it; the statements' shown. -/
namespace Go.Proofs.YtgicanpggndbeaaGreat
set_option linter.unusedVariables false
set_option maxRecDepth 100000
open Go.RowKit

/-- A view over nothing. -/
abbrev NI (lim p : Nat) (pv : Value) (base : Nat) : Nat → World → Prop := fun _ w => PlC lim w p pv [] base
abbrev nI (p : Nat) : Value := .iface 69 (.pointer (some ⟨p, 0, none⟩))
abbrev nSn : Sp → List Pa × Int := fun s => (scanL s [], 0)
theorem ni_base (lim p : Nat) (pv : Value) (base : Nat) : Baser lim noB (NI lim p pv base) (nI p) (plGe []) nSn := plainC_base lim p pv [] base (Nat.zero_le _)
set_option maxHeartbeats 4000000 in
theorem vnewNil_calls (w0 y : World) (hb : Below w0.heap.size w0 y) :
    Calls Tryz.prog 8 #[.nilIface] y fun e y' => ∃ lim p pv base q x, e = .returned (.pointer (some ⟨q, 0, none⟩)) ∧ VAt w0 lim (NI lim p pv base) 9 (nI p) q x vs0 y' ∧ x.n = 0 ∧ (∀ i, x.own q i → y.heap.size ≤ i) ∧ y.heap.size ≤ p ∧ (∀ g, pv.ownBlock = some g → y.heap.size ≤ g) ∧ (∀ i, x.own q i → i ≠ p ∧ pv.ownBlock ≠ some i) ∧ Below y.heap.size y y' := by
 have hN := newPlainO_calls y (.slice none 0 0) [] (SlB.nil _ _ _) (Nat.zero_le _)
 have hmm := @run_makeMap Tryz.prog
 have HB : Hid (Below w0.heap.size w0 y) := hb
 clear hb
 go_enter Tryz.func8, Tryz.ntmps8
 go_upto_region 3 with (go_at_call 29; refine hN.mono ?_; clear hN; rintro e z ⟨p, pv, m, rfl, hp, ho, hm, hl, hpl, b⟩)
 have hm0 : m = [] := List.eq_nil_of_length_eq_zero (Nat.le_zero.1 hl)
 subst hm0
 have HP : Hid (PlC z.heap.size z p pv [] y.heap.size ∧ y.heap.size ≤ p ∧ Below y.heap.size y z) := ⟨PlC.of hp ho hm.1, hpl, b⟩
 have HV := vnew_in z (nI p)
 clear hp ho hm hl hpl b
 go_wp2_with fail
 go_ret
 obtain ⟨q1, q2, q3⟩ := HV _ rfl
 have hz := HP.out.2.2.size
 have hown : ∀ i, (⟨z.heap.size, z.heap.size + 1, .slice none 0 0, [], 0⟩ : VR).own (z.heap.size + 2) i → z.heap.size ≤ i := fun i hi => by
  rcases hi with rfl | rfl | rfl | hi | hi
  · show z.heap.size ≤ z.heap.size + 2
    omega
  · exact Nat.le_refl _
  · show z.heap.size ≤ z.heap.size + 1
    omega
  · cases hi
  · cases hi
 refine ⟨z.heap.size, p, pv, y.heap.size, _, _, rfl, ⟨q1, HP.out.1.mono q2, hown, HB.out.trans ((HP.out.2.2.trans (q2.mono hz)).mono HB.out.size), Nat.le_trans HB.out.size hz, q2.size⟩, rfl, fun i hi => Nat.le_trans hz (hown i hi), HP.out.2.1, fun g hg => (HP.out.1.own.lt g hg).1, fun i hi => ⟨fun e => ?_, fun e => ?_⟩, HP.out.2.2.trans (q2.mono hz)⟩
 · have := hown i hi
   have := HP.out.1.lo
   omega
 · have := hown i hi
   have := HP.out.1.lov i e
   omega
end Go.Proofs.YtgicanpggndbeaaGreat
/- dir: the statements' shown. -/
namespace Go.Proofs.YtgicanpggndbeaaGreat
set_option linter.unusedVariables false
set_option maxRecDepth 100000
open Go.RowKit

theorem VAt.re {w0 y : World} {lim p base k q : Nat} {pv iv : Value} {x : VR} {V : VS} (k' : Nat) (h : VAt w0 lim (NI lim p pv base) k iv q x V y) : VAt w0 lim (NI lim p pv base) k' iv q x V y := ⟨h.vw, h.base, h.own, h.bel, h.le, h.limy⟩
def sh1 : VS := vs0.change (enC 1 [98] 2)
def sh2 : VS := sh1.change (enC 1 [97] 3)
def sh3 : VS := { sh2 with R := sh2.R ++ [entriesS 1] }
def sh4 : VS := getW sh3 (ekz 1 [97])
def sh5 : VS := sh4.change (goneC (ekz 1 [97]))
def shL : List Pa := (scanV sh2.C nSn (entriesS 1)).1
theorem sh_okb : okE 1 [98] = true := by kernel_rfl
theorem sh_oka : okE 1 [97] = true := by kernel_rfl
theorem sh_L : scanV sh2.C nSn (entriesS 1) = (shL, 0) := rfl
theorem sh_len : shL.length = 2 := by kernel_rfl
theorem sh_names : namesL shL = [[97], [98]] := by kernel_rfl
theorem sh_good : shL.all (fun p => goodK p.k) = true := by kernel_rfl
theorem sh_get : getV sh3.C (plGe []) (ekz 1 [97]) = (be 3 4, true, 0) := by kernel_rfl
theorem sh_none : scanV sh5.C nSn (entriesS 2) = ([], 0) := by kernel_rfl
theorem nm_three {o : Option Int} (h : NmIs (be 3 4) o) : o = some 3 := (h 3).2 ⟨rfl, rfl⟩
set_option maxRecDepth 100000 in
set_option maxHeartbeats 8000000 in
theorem shown14_calls (w : World) : Calls Tryz.prog 7 #[] w fun e w' => e = .returned (.bool true) ∧ Below w.heap.size w w' := by
 have hN := vnewNil_calls w w (Below.refl _ _)
 go_enter Tryz.func7, Tryz.ntmps7
 go_upto_region 4 with (go_at_call 8; refine hN.mono ?_; clear hN; rintro e y0 ⟨lim, p, pv, base, q, x0, rfl, A0, hn0, -⟩)
 have HD : Hid (Baser lim noB (NI lim p pv base) (nI p) (plGe []) nSn) := ni_base lim p pv base
 have HN0 : Hid (x0.n = 0) := hn0
 have h1 := dput_ok HD.out w y0 9 q x0 vs0 A0 (by omega) 1 [98] 2 sh_okb rfl
 clear A0 hn0
 go_upto_region 5 with (go_at_call 10; refine h1.mono ?_; clear h1; rintro e y1 ⟨rfl, x1, T1⟩)
 have HN1 : Hid (x1.n ≤ 4) := (show _ ≤ _ by have := T1.n; have := HN0.out; omega)
 have h2 := dput_ok HD.out w y1 9 q x1 sh1 T1.at_ (by have := HN1.out; omega) 1 [97] 3 sh_oka rfl
 clear T1
 go_upto_region 6 with (go_at_call 10; refine h2.mono ?_; clear h2; rintro e y2 ⟨rfl, x2, T2⟩)
 have HN2 : Hid (x2.n ≤ 8) := (show _ ≤ _ by have := T2.n; have := HN1.out; omega)
 have h3 := dlist_ok HD.out w y2 8 q x2 sh2 (T2.at_.re 9) (by have := HN2.out; omega) 1 rfl shL sh_L (by rw [sh_len]; decide)
 rw [sh_len, sh_names] at h3
 clear T2
 go_upto_region 7 with (go_at_call 14; refine h3.mono ?_; clear h3; rintro e y3 ⟨x3, T3, hq3⟩
                        rcases hq3 with ⟨hg3, adn, capn, rfl, o3, no3⟩ | ⟨⟨p1, hp1, hp2⟩, -⟩
                        rotate_left
                        · exfalso
                          have := List.all_eq_true.1 sh_good p1 hp1
                          rw [hp2] at this
                          cases this)
 have HN3 : Hid (x3.n ≤ 12) := (show _ ≤ _ by have := T3.n; have := HN2.out; omega)
 have HO3 : Hid (Own encN 9 y3 y2.heap.size (.slice adn 2 capn) [[97], [98]] ∧ ∀ g, Value.ownBlock (.slice adn 2 capn) = some g → ¬ x3.own q g) := ⟨o3, no3⟩
 have h4 := dfind_ok HD.out w y3 8 q x3 sh3 (T3.at_.re 9) (by have := HN3.out; omega) 1 [97] sh_oka
 rw [sh_get] at h4
 clear T3 hg3 o3 no3
 go_upto_region 8 with (go_at_call 21; refine h4.mono ?_; clear h4; rintro e y4 ⟨⟨o, ho, rfl⟩, x4, T4⟩
                        obtain rfl := nm_three ho)
 have HN4 : Hid (x4.n ≤ 16) := (show _ ≤ _ by have := T4.n; have := HN3.out; omega)
 have HO4 : Hid (Own encN 9 y4 y2.heap.size (.slice adn 2 capn) [[97], [98]] ∧ ∀ g, Value.ownBlock (.slice adn 2 capn) = some g → ¬ x4.own q g) := ⟨HO3.out.1.same fun g hg => T4.kept (HO3.out.1.lt g hg).2 (HO3.out.2 g hg), fun g hg e => (T4.own g e).elim (HO3.out.2 g hg) (fun r => by have := (HO3.out.1.lt g hg).2; omega)⟩
 have h5 := ddrop_ok HD.out w y4 9 q x4 sh4 (T4.at_.re 9) (by have := HN4.out; omega) 1 [97] sh_oka
 clear T4 ho HO3
 go_upto_region 9 with (go_at_call 12; refine h5.mono ?_; clear h5; rintro e y5 ⟨rfl, x5, T5⟩)
 have HN5 : Hid (x5.n ≤ 20) := (show _ ≤ _ by have := T5.n; have := HN4.out; omega)
 have HO5 : Hid (Own encN 9 y5 y2.heap.size (.slice adn 2 capn) [[97], [98]] ∧ ∀ g, Value.ownBlock (.slice adn 2 capn) = some g → ¬ x5.own q g) := ⟨HO4.out.1.same fun g hg => T5.kept (HO4.out.1.lt g hg).2 (HO4.out.2 g hg), fun g hg e => (T5.own g e).elim (HO4.out.2 g hg) (fun r => by have := (HO4.out.1.lt g hg).2; omega)⟩
 have h6 := dempty_ok HD.out w y5 8 q x5 sh5 (T5.at_.re 9) (by have := HN5.out; omega) 2 rfl [] sh_none (Nat.zero_le _)
 clear T5 HO4
 go_upto_region 10 with (go_at_call 17; refine h6.mono ?_; clear h6; rintro e y6 ⟨rfl, x6, T6⟩)
 have HB6 : Hid (Below w.heap.size w y6) := T6.at_.bel
 have o6 : Own encN 9 y6 y2.heap.size (.slice adn 2 capn) [[97], [98]] := HO5.out.1.same fun g hg => T6.kept (HO5.out.1.lt g hg).2 (HO5.out.2 g hg)
 obtain ⟨g, off, rfl, -, ha⟩ := SlB.at o6.slB 0 (by decide)
 obtain ⟨g', off', e2, -, hb⟩ := SlB.at o6.slB 1 (by decide)
 cases e2
 have hc0 : y6.cell? ⟨g, off, none⟩ = some (.string ⟨#[97]⟩) := by have := ha 0 (.string ⟨#[97]⟩) rfl; simpa using this
 have hc1 : y6.cell? ⟨g, off + 1, none⟩ = some (.string ⟨#[98]⟩) := by have := hb 0 (.string ⟨#[98]⟩) rfl; simpa using this
 clear T6 o6 ha hb HO5
 go_wp2_with fail
 go_ret
 exact ⟨rfl, HB6.out⟩
end Go.Proofs.YtgicanpggndbeaaGreat
/- How keys are ordered, and which lie in a span: plain mathematics. -/
namespace Go.Proofs.YtgicanpggndbeaaGreat
set_option linter.unusedVariables false
set_option maxRecDepth 100000
open Go.RowKit

theorem less_app : ∀ (p q x y : List UInt8), p.length = q.length → Op.bytesLess (p ++ x) (q ++ y) = (Op.bytesLess p q || (p == q && Op.bytesLess x y))
 | [], [], x, y, _ => by simp [Op.bytesLess]
 | a :: p, b :: q, x, y, h => by
  have ih := less_app p q x y (by simpa using h)
  rw [List.cons_append, List.cons_append, Op.bytesLess, Op.bytesLess, ih, List.cons_beq_cons]
  cases decide (a < b) <;> cases (a == b) <;> simp
 | [], _ :: _, _, _, h => by simp at h
 | _ :: _, [], _, _, h => by simp at h
theorem less_zs : ∀ (n : Nat) (x : List UInt8), x.length = n → Op.bytesLess x (zs n) = false
 | 0, [], _ => rfl
 | n + 1, a :: x, h => by
  have ih := less_zs n x (by simpa using h)
  have e : zs (n + 1) = 0 :: zs n := rfl
  rw [e, Op.bytesLess, ih]
  simp
 | 0, _ :: _, h => by simp at h
 | _ + 1, [], h => by simp at h
theorem less_be {i d : Nat} (hi : i < 4294967296) (hd : d < 4294967296) (x y : List UInt8) : Op.bytesLess (be i 4 ++ x) (be d 4 ++ y) = (decide (i < d) || (decide (i = d) && Op.bytesLess x y)) := by
 rw [less_app _ _ _ _ (by rw [be_length, be_length]), be_less 4 i d (by rw [p4]; exact hi) (by rw [p4]; exact hd)]
 have : (be i 4 == be d 4) = decide (i = d) := by
  rw [Bool.eq_iff_iff, beq_iff_eq, decide_eq_true_iff]
  exact be_inj (by rw [p4]; exact hi) (by rw [p4]; exact hd)
 rw [this]

end Go.Proofs.YtgicanpggndbeaaGreat
/- dir: names and keys (mathematics); several views beside one another. -/
namespace Go.Proofs.YtgicanpggndbeaaGreat
set_option linter.unusedVariables false
set_option maxRecDepth 100000
open Go.RowKit

theorem less_headE {i d : Nat} (hi : i < 4294967296) (hd : d < 4294967296) (kb c : UInt8) (r : List UInt8) (hr : r.length = 19) : Op.bytesLess (be i 4 ++ kb :: r) (headK d c) = (decide (i < d) || (decide (i = d) && decide (kb < c))) := by
 rw [headK, less_be hi hd, Op.bytesLess, less_zs 19 r hr]
 simp
/-! Views over nothing, beside one another. -/
structure NV where
 lim : Nat
 p : Nat
 pv : Value
 base : Nat
 q : Nat
 x : VR
 V : VS
def NV.at_ (d : NV) (w0 y : World) : Prop := VAt w0 d.lim (NI d.lim d.p d.pv d.base) 9 (nI d.p) d.q d.x d.V y
def NV.foot (d : NV) (i : Nat) : Prop := d.x.own d.q i ∨ i = d.p ∨ d.pv.ownBlock = some i
theorem NV.lt {d : NV} {w0 y : World} (h : d.at_ w0 y) {i : Nat} (hi : d.foot i) : i < y.heap.size := by
 have hb : PlC d.lim y d.p d.pv [] d.base := h.base
 rcases hi with hi | rfl | hi
 · exact h.vw.lt hi
 · exact Nat.lt_of_lt_of_le hb.lo hb.le
 · exact Nat.lt_of_lt_of_le (hb.lov i hi) hb.le
theorem NV.called {d : NV} {w0 y y' : World} (h : d.at_ w0 y) (b : Below y.heap.size y y') : d.at_ w0 y' := VAt.called (ni_base _ _ _ _) h b
theorem nvNew_calls (w0 y : World) (hb : Below w0.heap.size w0 y) :
    Calls Tryz.prog 8 #[.nilIface] y fun e y' => ∃ d : NV, e = .returned (.pointer (some ⟨d.q, 0, none⟩)) ∧ d.at_ w0 y' ∧ d.V = vs0 ∧ d.x.n = 0 ∧ (∀ i, d.foot i → y.heap.size ≤ i) ∧ Below y.heap.size y y' :=
 (vnewNil_calls w0 y hb).mono fun e y' h => by
  obtain ⟨lim, p, pv, base, q, x, h1, h2, h3, h4, h5, h6, -, h8⟩ := h
  refine ⟨⟨lim, p, pv, base, q, x, vs0⟩, h1, h2, rfl, h3, fun i hi => ?_, h8⟩
  rcases hi with hi | rfl | hi
  · exact h4 i hi
  · exact h5
  · exact h6 i hi
end Go.Proofs.YtgicanpggndbeaaGreat
/- Masks and remainders on an int. -/
namespace Go.Proofs.YtgicanpggndbeaaGreat
set_option linter.unusedVariables false
set_option maxRecDepth 100000
open Go.RowKit
end Go.Proofs.YtgicanpggndbeaaGreat
/- dir: the statements' cuts. -/
namespace Go.Proofs.YtgicanpggndbeaaGreat
set_option linter.unusedVariables false
set_option maxRecDepth 100000
open Go.RowKit

theorem str_cut40 (v : List UInt8) : (str v).extract 0 (min ((str v).size : Int) 40).toNat = str (v.take 40) := by
 have h : (min ((str v).size : Int) 40).toNat = min v.length 40 := by rw [str_size]; omega
 rw [h]
 apply ByteArray.ext
 apply Array.ext'
 rw [ByteArray.data_extract]
 simp only [Array.toList_extract, str_list, List.extract_eq_take_drop, List.drop_zero, Nat.sub_zero]
 by_cases q : v.length ≤ 40
 · rw [Nat.min_eq_left q, List.take_length, List.take_of_length_le q]
 · rw [Nat.min_eq_right (by omega)]
end Go.Proofs.YtgicanpggndbeaaGreat
/- Pairs that came in (as DlJ, without its own layer). -/
namespace Go.Proofs.YtgicanpggndbeaaGreat
set_option linter.unusedVariables false
set_option maxRecDepth 100000
open Go.ChangeShapes Go.WideShapes Go.ChangeAt Go.RowKit

theorem str_data2 (s : ByteArray) : str s.data.toList = s := by
 cases s
 simp [str]
end Go.Proofs.YtgicanpggndbeaaGreat
