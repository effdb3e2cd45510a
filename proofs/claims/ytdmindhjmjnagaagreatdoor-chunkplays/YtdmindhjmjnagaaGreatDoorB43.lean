import Derived.Test.YtdmindhjmjnagaaGreatDoorSi
import Derived.Test.YtdmindhjmjnagaaGreatDoorB01
import Derived.Test.YtdmindhjmjnagaaGreatDoorB39
import Derived.Test.YtdmindhjmjnagaaGreatDoorB41
import Derived.Test.YtdmindhjmjnagaaGreatDoorB21
import Derived.Test.YtdmindhjmjnagaaGreatDoorB40
import Derived.Test.YtdmindhjmjnagaaGreatDoorB42
import Derived.Test.YtdmindhjmjnagaaGreatDoorB32
import Derived.Test.YtdmindhjmjnagaaGreatDoorB23
import Derived.Test.YtdmindhjmjnagaaGreatDoorB27
import Derived.Deep.OwnRows
/- Rvg Pls X3C X11G -/
namespace Go.Proofs.YtdmindhjmjnagaaGreatDoor
set_option linter.unusedVariables false
set_option maxRecDepth 1000000
set_option maxHeartbeats 32000000
section
open Go.RowKit
theorem rvget_calls (w : World) (p : Nat) (bv cv rv mv : Value) (B : List Pa) (C : List Ch) (R : List Sp) (M : List (Value × List Ch)) (h : RvIn w p bv cv rv mv B C R M) (hp : ∀ g off n cap, mv = .slice (some ⟨g, off, none⟩) n cap → g ≠ p) (hl : R.length ≤ 300) (hB : B.length ≤ 100) (hC : C.length ≤ 900) (K : Kz) :
    Calls Tryz.prog 35 #[.pointer (some ⟨p, 0, none⟩), kv K.k] w fun e w' => ∃ mm, ApplyIs B C mm ∧ e = .returned (.tuple #[.string (str (gotV9 mm K)), .bool (gotB mm K)]) ∧ FrV (fun i => i = p) w w' ∧ ∃ rv' R', RvIn w' p bv cv rv' mv B C R' M ∧ ((look Ch.n C K.n).isSome = true → rv' = rv ∧ R' = R) ∧ ((look Ch.n C K.n).isSome = false → NewV w.heap.size rv' ∧ Is R' (mem (R ++ [oneSp K]))) := by
 have b1 : Below w.heap.size w (w.alloc (.cells (bc K.k).toArray 54)) := (Below.refl _ w).alloc (Nat.le_refl _) _
 have HK : Hid (Has (w.alloc (.cells (bc K.k).toArray 54)) w.heap.size K.k) := Has.new w K.k K.h
 have hInfo : ∀ J : Kz, (Tryz.prog.info? 54).map (·.size) = some (bc J.k).length := fun J => by rw [bc_length, J.h]; exact Tryz.key_info
 obtain ⟨ad, cap, rfl, hcap, hmax, -, -⟩ := id h.r
 obtain ⟨N, hN⟩ : ∃ N : Nat, N = R.length := ⟨_, rfl⟩
 have HN : Hid (N = R.length ∧ N ≤ 300) := ⟨hN, by omega⟩
 have HBC : Hid (B.length ≤ 100 ∧ C.length ≤ 900) := ⟨hB, hC⟩
 rw [← hN] at hcap hmax h
 have HR0 : Hid (RvIn (w.alloc (.cells (bc K.k).toArray 54)) p bv cv (.slice ad N cap) mv B C R M ∧ Below w.heap.size w (w.alloc (.cells (bc K.k).toArray 54)) ∧ p < w.heap.size) := ⟨h.called b1, b1, h.lt⟩
 have HPP : Hid (∀ g off n cap, mv = .slice (some ⟨g, off, none⟩) n cap → g ≠ p) := hp
 have hOw := rvown_calls (w.alloc (.cells (bc K.k).toArray 54)) p bv cv (.slice ad N cap) mv B C R M HR0.out.1 (by omega) K
 rw [← hN]
 clear b1 hN h hl hB hC hp
 go_enter Tryz.func35, Tryz.ntmps35
 go_upto_region 1 with fail
 have hkk : (w.alloc (.cells (bc K.k).toArray 54)).rangeAt w.heap.size 0 (bc K.k) := range_has HK.out
 generalize hW : w.alloc (.cells (bc K.k).toArray 54) = W at *
 go_upto_region 2 with (first
  | (refine load_part _ rfl w.heap.size 0 rfl rfl _ K.h hkk ?_)
  | (go_at_call 74; refine hOw.mono ?_; clear hOw; rintro e W1 ⟨rfl, b1⟩))
 have HR1 : Hid (RvIn W1 p bv cv (.slice ad N cap) mv B C R M ∧ Below w.heap.size w W1 ∧ Has W1 w.heap.size K.k) := ⟨HR0.out.1.called b1, HR0.out.2.1.trans (b1.mono HR0.out.2.1.size), HK.out.below b1 HK.out.lt⟩
 have HPW : Hid (p < w.heap.size) := HR0.out.2.2
 clear b1 hkk hW HR0 HK
 cases hq : (look Ch.n C K.n).isSome with
 | true =>
  have HLK : Hid ((look Ch.n C K.n).isSome = true) := hq
  clear hq
  have HR99 : Hid (RvIn W1 p bv cv (.slice ad N cap) mv B C R M ∧ Below w.heap.size w W1 ∧ Has W1 w.heap.size K.k) := HR1.out
  obtain ⟨y99, hy99⟩ : ∃ y, y = W1 := ⟨_, rfl⟩
  obtain ⟨W0, hW0⟩ : ∃ y, y = W1 := ⟨_, rfl⟩
  have HF : Hid (RvIn y99 p bv cv (.slice ad N cap) mv B C R M) := by subst hy99; exact HR1.out.1
  have HSB : Hid (y99.heap[w.heap.size]? = W0.heap[w.heap.size]?) := by subst hy99; subst hW0; rfl
  have HG : Hid (FrV (fun i => i = p) w y99) := by subst hy99; exact FrV.of_below (S := fun i => i = p) HR1.out.2.1
  have HBX : Hid (W0.rangeAt w.heap.size 0 (bc K.k)) := by subst hW0; exact range_has HR1.out.2.2
  have HP : Hid (p < w.heap.size ∧ w.heap.size < W0.heap.size) := by subst hW0; exact ⟨HPW.out, HR1.out.2.2.lt⟩
  have HL9 : Hid (W0.heap.size ≤ y99.drew.heap.size) := by subst hy99; subst hW0; exact Nat.le_refl _
  rw [← hy99]
  clear hy99 hW0 HR1 HR99
  have HRX : Hid (RvIn y99.drew p bv cv (.slice ad N cap) mv B C R M ∧ Below y99.heap.size y99 y99.drew) := ⟨HF.out.called ⟨rfl, rfl, rfl, Nat.le_refl _, fun _ _ => rfl⟩, ⟨rfl, rfl, rfl, Nat.le_refl _, fun _ _ => rfl⟩⟩
  have HSX : Hid (∀ y, Below y99.drew.heap.size y99.drew y → y.rangeAt w.heap.size 0 (bc K.k)) := fun y b => range_same' (HBX.out) (((b.block w.heap.size (Nat.lt_of_lt_of_le HP.out.2 HL9.out))).trans HSB.out)
  have hMap := rvmap_calls y99.drew p bv cv (.slice ad N cap) mv B C R M HRX.out.1 (by have := HBC.out; omega) (by have := HBC.out; omega)
  go_upto_region 4 with fail
  refine wp_region_noPanic ?_
  refine wp_region_held_drew (S := (fun yy => yy.rangeAt w.heap.size 0 (bc K.k))) (by kernel_rfl) (HSX.out _ (Below.refl _ _)) (fun hh => ?_)
  refine tl ?_ 0 rfl hh ⟨by rfl, ?_⟩ ?_
  case refine_2 => (intro w hSw; go_simp; try with_reducible rfl)
  (try simp only [gs])
  refine tk 2 rfl hh (yieldsIf_load_mid (by rfl) _ _ rfl _ _ rfl _ _ (fun _ h => h) Tryz.underlying54 rfl (hInfo K)) ?_
  (try simp only [gs])
  refine wpAnyH_ready (rs := [1]) (by kernel_rfl) (by simp) (AllReadyH.cons rfl (fun K0 hK => ?_) AllReadyH.nil)
  rw [if_pos (by rfl)]
  (try simp only [gs])
  go_simp
  refine hMap.mono ?_
  clear hMap
  rintro e y101 ⟨v8, mm, rfl, s8, i8, l8, b8⟩
  have hIn := get9_calls y101 v8 mm K s8 i8.1 (by have := HBC.out; omega)
  refine hK.out _ _ (HSX.out _ b8) (fun hh => ?_)
  clear hK K0
  (try simp only [gs])
  refine wpAnyH_ready (rs := [3]) (by kernel_rfl) (by simp) (AllReadyH.cons rfl (fun K0 hK => ?_) AllReadyH.nil)
  rw [if_pos (by rfl)]
  (try simp only [gs])
  go_simp
  refine hIn.mono ?_
  clear hIn
  rintro e y102 ⟨rfl, b9⟩
  have HB9 : Hid (Below y99.drew.heap.size y99.drew y102) := b8.trans (b9.mono b8.size)
  refine hK.out _ _ (HSX.out _ HB9.out) (fun hh => ?_)
  clear hK K0
  (try simp only [gs])
  refine tl ?_ 4 rfl hh ⟨by rfl, ?_⟩ ?_
  case refine_2 => (intro w hSw; go_simp; try with_reducible rfl)
  (try simp only [gs])
  refine tl ?_ 5 rfl hh ⟨by rfl, ?_⟩ ?_
  case refine_2 => (intro w hSw; go_simp; try with_reducible rfl)
  (try simp only [gs])
  refine tl ?_ 6 rfl hh ⟨by rfl, ?_⟩ ?_
  case refine_2 => (intro w hSw; go_simp; try with_reducible rfl)
  (try simp only [gs])
  refine tl ?_ 7 rfl hh ⟨by rfl, ?_⟩ ?_
  case refine_2 => (intro w hSw; go_simp; try with_reducible rfl)
  (try simp only [gs])
  refine wpAnyH_done (by kernel_rfl) ?_ _
  refine NoPanic.normal ?_
  clear hh
  go_wp2_with fail
  go_ret2
  exact ⟨mm, i8, rfl, HG.out.trans (FrV.of_below (S := fun i => i = p) (HRX.out.2.trans (HB9.out.mono HRX.out.2.size))) (fun i e => .inl e), _, R, HF.out.called (HRX.out.2.trans (HB9.out.mono HRX.out.2.size)), fun _ => ⟨rfl, rfl⟩, fun q => absurd q (by rw [HLK.out]; decide)⟩
 | false =>
  have HLK : Hid ((look Ch.n C K.n).isSome = false) := hq
  clear hq
  go_upto_region 3 with fail
  have HRD : Hid (RvIn W1.drew p bv cv (.slice ad N cap) mv B C R M ∧ Below w.heap.size w W1.drew ∧ Has W1.drew w.heap.size K.k) := ⟨HR1.out.1.called ⟨rfl, rfl, rfl, Nat.le_refl _, fun _ _ => rfl⟩, HR1.out.2.1.trans ⟨rfl, rfl, rfl, Nat.le_refl _, fun _ _ => rfl⟩, ⟨HR1.out.2.2.len, HR1.out.2.2.blk⟩⟩
  have HBX0 : Hid (W1.drew.rangeAt w.heap.size 0 (bc K.k)) := range_has HRD.out.2.2
  refine wp_region_noPanic ?_
  refine wp_region_Z 14 (fun yy => RvC yy p bv cv (.slice ad N cap) mv ∧ yy.rangeAt w.heap.size 0 (bc K.k)) (by kernel_rfl) ⟨RvC.mk HRD.out.1.blk, HBX0.out⟩ (fun hh => ?_)
  refine wpAnyZ_take (i := 0) (v := ?_) [12, 13, 14] rfl (by kernel_rfl) (by kernel_rfl) (by kernel_rfl) (by kernel_rfl) (fun _ _ _ h => h) (Or.inl ⟨by rfl, ?_⟩) hh ?_
  case refine_2 => (intro w hSw; go_simp; try with_reducible rfl)
  (try simp only [gs])
  refine wpAnyZ_take (i := 2) (v := ?_) [3, 4, 5, 6, 10, 11, 14] rfl (by kernel_rfl) (by kernel_rfl) (by kernel_rfl) (by kernel_rfl) (fun _ _ _ h => h) (Or.inl ⟨by rfl, ?_⟩) hh ?_
  case refine_2 => (intro w hSw; go_simp; try with_reducible rfl)
  (try simp only [gs])
  refine wpAnyZ_take (i := 3) (v := ?_) [4, 5, 6, 10, 11, 14] rfl (by kernel_rfl) (by kernel_rfl) (by kernel_rfl) (by kernel_rfl) (fun _ _ _ h => h) (Or.inl ⟨by rfl, ?_⟩) hh ?_
  case refine_2 => (intro w hSw; go_simp; try with_reducible rfl)
  (try simp only [gs])
  refine wpAnyZ_take (i := 4) (v := ?_) [5, 6, 10, 11, 14] rfl (by kernel_rfl) (by kernel_rfl) (by kernel_rfl) (by kernel_rfl) (fun _ _ _ h => h) (Or.inl ⟨by rfl, ?_⟩) hh ?_
  case refine_2 => (intro w hSw; go_simp; try with_reducible rfl)
  (try simp only [gs])
  refine wpAnyZ_take (i := 5) (v := ?_) [6, 10, 11, 14] rfl (by kernel_rfl) (by kernel_rfl) (by kernel_rfl) (by kernel_rfl) (fun _ _ _ h => h) (Or.inl ⟨by rfl, ?_⟩) hh ?_
  case refine_2 => (intro w hSw; have hc := hSw.1.c2; go_simp; try with_reducible rfl)
  (try simp only [gs])
  refine wpAnyZ_take (i := 7) [8, 9, 10, 11, 14] rfl (by kernel_rfl) (by kernel_rfl) (by kernel_rfl) (by kernel_rfl) (fun _ _ _ h => h) (yieldsIf_load_mid (by rfl) _ _ rfl _ _ rfl _ _ (fun _ h => h.2) Tryz.underlying54 rfl (hInfo K)) hh ?_
  (try simp only [gs])
  have HP : Hid (p < w.heap.size ∧ w.heap.size < W1.drew.heap.size) := ⟨HPW.out, HRD.out.2.2.lt⟩
  clear HR1
  generalize W1.drew = W0 at *
  have HBX : Hid (W0.rangeAt w.heap.size 0 (bc K.k)) := HBX0.out
  have RB : Hid (∀ y, Below W0.heap.size W0 y → RvIn y p bv cv (.slice ad N cap) mv B C R M) := fun y b => HRD.out.1.called b
  have HELD : Hid (∀ y, Below W0.heap.size W0 y → RvC y p bv cv (.slice ad N cap) mv ∧ y.rangeAt w.heap.size 0 (bc K.k)) := fun y b => ⟨RvC.mk (HRD.out.1.called b).blk, range_same' HBX.out (b.block w.heap.size HP.out.2)⟩
  have HB0 : Hid (Below W0.heap.size W0 W0) := Below.refl _ _
  clear HBX0
  refine wpAnyZ_ready (rs := [1]) (by kernel_rfl) (by simp) (AllReadyZ.cons rfl (fun K0 hK => ?_) AllReadyZ.nil)
  rw [if_pos (by rfl)]
  (try simp only [gs])
  refine wp_build_none rowS rfl ?_
  intro y1 o1 b1 z1
  have HB1 : Hid (Below W0.heap.size W0 y1) := HB0.out.trans (b1.mono HB0.out.size)
  replace o1 : Own encS 56 y1 W0.heap.size (.slice (some ⟨W0.heap.size, 0, none⟩) 0 0) [] := Go.Proofs.ownsRow_base_a o1 HB0.out.size
  have g1 : W0.heap.size ≤ W0.heap.size := HB0.out.size
  refine hK.out _ _ (fun _ => (HELD.out _ HB1.out)) ?_
  clear hK K0 hh
  have hh := (HELD.out _ HB1.out)
  (try simp only [gs])
  clear b1
  refine wpAnyZ_ready (rs := [6]) (by kernel_rfl) (by simp) (AllReadyZ.cons rfl (fun K0 hK => ?_) AllReadyZ.nil)
  rw [if_pos (by rfl)]
  (try simp only [gs])
  refine wp_append_sl rowS _ _ rfl W0.heap.size (.slice (some ⟨W0.heap.size, 0, none⟩) 0 0) [] R rfl o1 (.slice ad N cap) rfl y1.heap.size (RB.out _ HB1.out).r (by have := HN.out; simp only [List.length_nil]; omega) (by decide) HB1.out.size ?_
  intro v6 y2 o6 gr
  have HB2 : Hid (Below W0.heap.size W0 y2) := HB1.out.grown gr HB1.out.size (fun j hj => (o1.lt j hj).1)
  refine hK.out _ _ (fun _ => (HELD.out _ HB2.out)) ?_
  clear hK K0 hh
  have hh := (HELD.out _ HB2.out)
  (try simp only [gs])
  clear gr o1
  simp only [List.nil_append] at o6
  refine wpAnyZ_ready (rs := [8]) (by kernel_rfl) (by simp) (AllReadyZ.cons rfl (fun K0 hK => ?_) AllReadyZ.nil)
  rw [if_pos (by rfl)]
  (try simp only [gs])
  go_simp
  refine (rone_calls y2 K.k K.h).mono ?_
  rintro e y3 ⟨rfl, b3⟩
  have z3 := b3.size
  have HB3 : Hid (Below W0.heap.size W0 y3) := HB2.out.trans (b3.mono HB2.out.size)
  replace o6 := Own.below o6 b3
  refine hK.out _ _ (fun _ => (HELD.out _ HB3.out)) ?_
  clear hK K0 hh
  have hh := (HELD.out _ HB3.out)
  (try simp only [gs])
  clear b3
  refine wpAnyZ_ready (rs := [9]) (by kernel_rfl) (by simp) (AllReadyZ.cons rfl (fun K0 hK => ?_) AllReadyZ.nil)
  rw [if_pos (by rfl)]
  (try simp only [gs])
  refine wp_build_el1 rowS _ rfl (oneSp K) rfl (by decide) ?_
  intro y4 o11 b4 z4
  have HB4 : Hid (Below W0.heap.size W0 y4) := HB3.out.trans (b4.mono HB3.out.size)
  replace o11 : Own encS 56 y4 W0.heap.size (.slice (some ⟨y3.heap.size, 0, none⟩) 1 1) [oneSp K] := Go.Proofs.ownsRow_base_a o11 HB3.out.size
  replace o6 := Own.below o6 b4
  refine hK.out _ _ (fun _ => (HELD.out _ HB4.out)) ?_
  clear hK K0 hh
  have hh := (HELD.out _ HB4.out)
  (try simp only [gs])
  clear b4
  refine wpAnyZ_ready (rs := [10]) (by kernel_rfl) (by simp) (AllReadyZ.cons rfl (fun K0 hK => ?_) AllReadyZ.nil)
  rw [if_pos (by rfl)]
  (try simp only [gs])
  refine wp_append_sl rowS _ _ rfl W0.heap.size v6 R [oneSp K] rfl o6 (.slice (some ⟨y3.heap.size, 0, none⟩) 1 1) rfl y4.heap.size o11.slB (by have := HN.out; simp only [List.length_cons, List.length_nil]; omega) (by decide) HB4.out.size ?_
  intro v12 y5 o12 gr
  have HB5 : Hid (Below W0.heap.size W0 y5) := HB4.out.grown gr HB4.out.size (fun j hj => (o6.lt j hj).1)
  refine hK.out _ _ (fun _ => (HELD.out _ HB5.out)) ?_
  clear hK K0 hh
  have hh := (HELD.out _ HB5.out)
  (try simp only [gs])
  clear gr o6 o11
  have hCl := rclean_calls y5 v12 (R ++ [oneSp K]) o12.slB (by have := HN.out; simp; omega)
  refine wpAnyZ_ready (rs := [11]) (by kernel_rfl) (by simp) (AllReadyZ.cons rfl (fun K0 hK => ?_) AllReadyZ.nil)
  rw [if_pos (by rfl)]
  (try simp only [gs])
  go_simp
  refine hCl.mono ?_
  clear hCl
  rintro e y6 ⟨v13, rfl, R', o13, i13, b13⟩
  have HB6 : Hid (Below W0.heap.size W0 y6) := HB5.out.trans (b13.mono HB5.out.size)
  have HR13 : Hid (Sl encS y6 v13 R' ∧ Is R' (mem (R ++ [oneSp K])) ∧ NewV W0.heap.size v13) := ⟨o13.slB, i13, fun g hg => Nat.le_trans HB5.out.size (o13.lt g hg).1⟩
  refine hK.out _ _ (fun _ => (HELD.out _ HB6.out)) ?_
  clear hK K0 hh
  have hh := (HELD.out _ HB6.out)
  (try simp only [gs])
  have hb3 := (RB.out _ HB6.out).blk
  have hf3 := frozen_of_row y6 p 2 _ _ hb3
  have hc3 : y6.cell? ⟨p, 2, none⟩ = some (.slice ad N cap) := (RvC.mk (RB.out _ HB6.out).blk).c2
  obtain ⟨ad13, cap13, rfl, -, -, -, -⟩ := id o13.slB
  clear o13 i13 b13 o12
  refine wpAnyZ_take (i := 12) (v := ?_) [13, 14] rfl (by kernel_rfl) (by kernel_rfl) (by kernel_rfl) (by kernel_rfl) (fun _ _ _ h => h) (Or.inl ⟨by rfl, ?_⟩) hh ?_
  case refine_2 => (intro w hSw; go_simp; try with_reducible rfl)
  (try simp only [gs])
  refine wpAnyZ_take (i := 13) (v := ?_) [14] rfl (by kernel_rfl) (by kernel_rfl) (by kernel_rfl) (by kernel_rfl) (fun _ _ _ h => h) (Or.inl ⟨by rfl, ?_⟩) hh ?_
  case refine_2 => (intro w hSw; go_simp; try with_reducible rfl)
  (try simp only [gs])
  refine wpAnyZ_ready (rs := [14]) (by kernel_rfl) (by simp) (AllReadyZ.cons rfl (fun K0 hK => ?_) AllReadyZ.nil)
  rw [if_pos (by rfl)]
  (try simp only [gs])
  go_simp
  refine hK.out _ _ (fun q => absurd q (by decide)) ?_
  clear hK K0
  (try simp only [gs])
  refine wpAnyZ_done (by kernel_rfl) ?_ _
  refine NoPanic.normal ?_
  have hY : (y6.setCell ⟨p, 2, none⟩ (.slice ad13 R'.length cap13)).heap[p]? = some (.cells #[bv, cv, .slice ad13 R'.length cap13, mv] 45 (0, 0)) := by
   rw [setCell_eq_setRow y6 p 2 _ _ _ _ hb3, setRow_heap y6 p _ _ _ _ hb3]
   rfl
  have hFr : FrV (fun i => i = p) y6 (y6.setCell ⟨p, 2, none⟩ (.slice ad13 R'.length cap13)) := ⟨⟨rfl, rfl, rfl, by simp, fun k hk => absurd hk (Nat.not_lt_zero k)⟩, fun i _ hn => heap_setCell_other _ _ _ _ hn⟩
  have HF : Hid (RvIn (y6.setCell ⟨p, 2, none⟩ (.slice ad13 R'.length cap13)) p bv cv (.slice ad13 R'.length cap13) mv B C R' M) :=
   RvIn.stored (RB.out _ HB6.out) hY (fun g _ hne => heap_setCell_other _ _ _ _ hne) hFr.size (RB.out _ HB6.out).c HR13.out.1 (RB.out _ HB6.out).m HPP.out
  have HG : Hid (FrV (fun i => i = p) w (y6.setCell ⟨p, 2, none⟩ (.slice ad13 R'.length cap13)) ∧ NewV w.heap.size (.slice ad13 R'.length cap13) ∧ Is R' (mem (R ++ [oneSp K]))) :=
   ⟨(FrV.of_below (S := fun i => i = p) (HRD.out.2.1.trans (HB6.out.mono HRD.out.2.1.size))).trans (S' := fun i => i = p) hFr (fun i e => .inl e), fun g hg => Nat.le_trans HRD.out.2.1.size (HR13.out.2.2 g hg), HR13.out.2.1⟩
  have HSB : Hid ((y6.setCell ⟨p, 2, none⟩ (.slice ad13 R'.length cap13)).heap[w.heap.size]? = W0.heap[w.heap.size]?) := (heap_setCell_other _ _ _ _ (show w.heap.size ≠ p from Nat.ne_of_gt HP.out.1)).trans (HB6.out.block w.heap.size HP.out.2)
  have HZ9 : Hid (W0.heap.size ≤ (y6.setCell ⟨p, 2, none⟩ (.slice ad13 R'.length cap13)).heap.size) := (show _ ≤ _ from Nat.le_trans HB6.out.size hFr.size)
  clear hh hf3 hc3 hb3 hY hFr HR13
  generalize y6.setCell ⟨p, 2, none⟩ (.slice ad13 R'.length cap13) = y99 at *
  have HL9 : Hid (W0.heap.size ≤ y99.drew.heap.size) := (show _ ≤ _ from HZ9.out)
  have HRX : Hid (RvIn y99.drew p bv cv (.slice ad13 R'.length cap13) mv B C R' M ∧ Below y99.heap.size y99 y99.drew) := ⟨HF.out.called ⟨rfl, rfl, rfl, Nat.le_refl _, fun _ _ => rfl⟩, ⟨rfl, rfl, rfl, Nat.le_refl _, fun _ _ => rfl⟩⟩
  have HSX : Hid (∀ y, Below y99.drew.heap.size y99.drew y → y.rangeAt w.heap.size 0 (bc K.k)) := fun y b => range_same' (HBX.out) (((b.block w.heap.size (Nat.lt_of_lt_of_le HP.out.2 HL9.out))).trans HSB.out)
  have hMap := rvmap_calls y99.drew p bv cv (.slice ad13 R'.length cap13) mv B C R' M HRX.out.1 (by have := HBC.out; omega) (by have := HBC.out; omega)
  go_upto_region 4 with fail
  refine wp_region_noPanic ?_
  refine wp_region_held_drew (S := (fun yy => yy.rangeAt w.heap.size 0 (bc K.k))) (by kernel_rfl) (HSX.out _ (Below.refl _ _)) (fun hh => ?_)
  refine tl ?_ 0 rfl hh ⟨by rfl, ?_⟩ ?_
  case refine_2 => (intro w hSw; go_simp; try with_reducible rfl)
  (try simp only [gs])
  refine tk 2 rfl hh (yieldsIf_load_mid (by rfl) _ _ rfl _ _ rfl _ _ (fun _ h => h) Tryz.underlying54 rfl (hInfo K)) ?_
  (try simp only [gs])
  refine wpAnyH_ready (rs := [1]) (by kernel_rfl) (by simp) (AllReadyH.cons rfl (fun K0 hK => ?_) AllReadyH.nil)
  rw [if_pos (by rfl)]
  (try simp only [gs])
  go_simp
  refine hMap.mono ?_
  clear hMap
  rintro e y101 ⟨v8, mm, rfl, s8, i8, l8, b8⟩
  have hIn := get9_calls y101 v8 mm K s8 i8.1 (by have := HBC.out; omega)
  refine hK.out _ _ (HSX.out _ b8) (fun hh => ?_)
  clear hK K0
  (try simp only [gs])
  refine wpAnyH_ready (rs := [3]) (by kernel_rfl) (by simp) (AllReadyH.cons rfl (fun K0 hK => ?_) AllReadyH.nil)
  rw [if_pos (by rfl)]
  (try simp only [gs])
  go_simp
  refine hIn.mono ?_
  clear hIn
  rintro e y102 ⟨rfl, b9⟩
  have HB9 : Hid (Below y99.drew.heap.size y99.drew y102) := b8.trans (b9.mono b8.size)
  refine hK.out _ _ (HSX.out _ HB9.out) (fun hh => ?_)
  clear hK K0
  (try simp only [gs])
  refine tl ?_ 4 rfl hh ⟨by rfl, ?_⟩ ?_
  case refine_2 => (intro w hSw; go_simp; try with_reducible rfl)
  (try simp only [gs])
  refine tl ?_ 5 rfl hh ⟨by rfl, ?_⟩ ?_
  case refine_2 => (intro w hSw; go_simp; try with_reducible rfl)
  (try simp only [gs])
  refine tl ?_ 6 rfl hh ⟨by rfl, ?_⟩ ?_
  case refine_2 => (intro w hSw; go_simp; try with_reducible rfl)
  (try simp only [gs])
  refine tl ?_ 7 rfl hh ⟨by rfl, ?_⟩ ?_
  case refine_2 => (intro w hSw; go_simp; try with_reducible rfl)
  (try simp only [gs])
  refine wpAnyH_done (by kernel_rfl) ?_ _
  refine NoPanic.normal ?_
  clear hh
  go_wp2_with fail
  go_ret2
  exact ⟨mm, i8, rfl, HG.out.1.trans (FrV.of_below (S := fun i => i = p) (HRX.out.2.trans (HB9.out.mono HRX.out.2.size))) (fun i e => .inl e), _, R', HF.out.called (HRX.out.2.trans (HB9.out.mono HRX.out.2.size)), fun q => absurd q (by rw [HLK.out]; decide), fun _ => HG.out.2⟩
end
section
open Go.RowKit
structure PlOk (m : List Pa) (V : VS) (C : List Ch) (R : List Sp) (M : List (Value × List Ch)) (D : List (List Ch)) (j : Nat) : Prop where
 asc : Asc Pa.n m
 len : m.length ≤ 40
 mi : MkIs V D
 c : C = V.C.map Ch.plain
 g : GoneOk V.C
 d : ∀ L ∈ D, GoneOk L ∧ Asc Ch.n L ∧ L.length ≤ j
 rd : Is R (mem V.R)
 most : V.most j
 me : M.map (·.2) = D.map (List.map Ch.plain)
section
variable {m : List Pa} {V : VS} {C : List Ch} {R : List Sp} {M : List (Value × List Ch)} {D : List (List Ch)} {j : Nat}
theorem keepL_len (C : List Ch) (L : List Fo) (J : Kz) : (keepL C L J).length ≤ L.length + 1 := by
 unfold keepL
 split
 · omega
 · exact putA_len Fo.n L _
theorem most_up (h : V.most j) : V.most (j + 1) := ⟨Nat.le_succ_of_le h.1, Nat.le_succ_of_le h.2.1, Nat.le_succ_of_le h.2.2.1, fun L hL => Nat.le_succ_of_le (h.2.2.2 L hL)⟩
theorem most_change (h : V.most j) (c : Ch) : (V.change c).most (j + 1) := by
 refine ⟨?_, Nat.le_succ_of_le h.2.1, ?_, fun L hL => ?_⟩
 · have := putA_len Ch.n V.C c
   have := h.1
   show (putA Ch.n V.C c).length ≤ j + 1
   omega
 · show (keepU V.C V.U c.kz).length ≤ j + 1
   unfold keepU
   rw [List.length_set]
   exact Nat.le_succ_of_le h.2.2.1
 · have hL' : L ∈ keepU V.C V.U c.kz := hL
   unfold keepU at hL'
   rcases List.mem_or_eq_of_mem_set hL' with q | rfl
   · exact Nat.le_succ_of_le (h.2.2.2 L q)
   · have h1 := keepL_len V.C (V.U.getD (V.U.length - 1) []) c.kz
     have h2 : (V.U.getD (V.U.length - 1) []).length ≤ j := by
      rw [List.getD_eq_getElem?_getD]
      cases e : V.U[V.U.length - 1]? with
      | none => exact Nat.zero_le _
      | some L => exact h.2.2.2 L (List.mem_of_getElem? e)
     omega
theorem PlOk.up (h : PlOk m V C R M D j) : PlOk m V C R M D (j + 1) := ⟨h.asc, h.len, h.mi, h.c, h.g, fun L hL => ⟨(h.d L hL).1, (h.d L hL).2.1, Nat.le_succ_of_le (h.d L hL).2.2⟩, h.rd, most_up h.most, h.me⟩
theorem PlOk.change (h : PlOk m V C R M D j) (c : Ch) (hc : c.g = true → c.v = []) {C' : List Ch} (hj : JoinIs (C ++ [c]) C') : PlOk m (V.change c) C' R M D (j + 1) := by
 refine ⟨h.asc, h.len, h.mi.change c, ?_, h.g.put c hc, fun L hL => ⟨(h.d L hL).1, (h.d L hL).2.1, Nat.le_succ_of_le (h.d L hL).2.2⟩, h.rd, most_change h.most c, h.me⟩
 rw [h.c] at hj
 exact join_change h.mi.asc c hj
theorem PlOk.read (h : PlOk m V C R M D j) (s : Sp) {R' : List Sp} (hr : Is R' (mem (R ++ [s]))) : PlOk m { V with R := V.R ++ [s] } C R' M D (j + 1) := by
 have hm := h.most
 refine ⟨h.asc, h.len, ⟨h.mi.len, h.mi.asc, h.mi.ok, h.mi.at_⟩, h.c, h.g, fun L hL => ⟨(h.d L hL).1, (h.d L hL).2.1, Nat.le_succ_of_le (h.d L hL).2.2⟩, ⟨hr.1, fun K hK => ?_⟩, ⟨Nat.le_succ_of_le hm.1, ?_, Nat.le_succ_of_le hm.2.2.1, fun L hL => Nat.le_succ_of_le (hm.2.2.2 L hL)⟩, h.me⟩
 · rw [hr.2 K hK, mem_append, mem_append, h.rd.2 K hK]
 · show (V.R ++ [s]).length ≤ j + 1
   have := hm.2.1
   simp
   omega
end
structure PlAt (w0 : World) (lim p : Nat) (pv : Value) (m : List Pa) (base q : Nat) (x : VR) (V : VS) (rp : Nat) (bv cv rv mv : Value) (C : List Ch) (R : List Sp) (l : List SV) (M : List (Value × List Ch)) (y : World) : Prop where
 a : VAt w0 lim (fun _ w => PlC lim w p pv m base) 9 (.iface 71 (.pointer (some ⟨p, 0, none⟩))) q x V y
 d : RvIn y rp bv cv rv mv m C R M
 ml : MvIn y mv l M
 off : RvOff (x.own q) rp bv cv rv mv m C R M
 hp : ∀ g, mv.ownBlock = some g → g ≠ rp
 lp : lim ≤ rp
section
variable {w0 : World} {lim p : Nat} {pv : Value} {m : List Pa} {base q : Nat} {x x' : VR} {V V' : VS} {rp : Nat} {bv cv rv mv cv' rv' mv' : Value} {C C' : List Ch} {R R' : List Sp} {l l' : List SV} {M M' : List (Value × List Ch)} {y y' : World} {nb k : Nat}
theorem PlAt.fst (h : PlAt w0 lim p pv m base q x V rp bv cv rv mv C R l M y) (t : VRan noB w0 lim (fun _ w => PlC lim w p pv m base) k (.iface 71 (.pointer (some ⟨p, 0, none⟩))) q x nb V' y x' y') : PlAt w0 lim p pv m base q x' V' rp bv cv rv mv C R l M y' := by
 have f : FrV (x.own q) y y' := ⟨t.fr.bel, fun i hi hn => t.fr.block i hi (fun e => e.elim hn (fun e => e))⟩
 exact ⟨⟨t.at_.vw, t.at_.base, t.at_.own, t.at_.bel, t.at_.le, t.at_.limy⟩, h.d.aside f h.off, h.ml.aside f h.off.m h.off.e, h.off.both (h.d.lts h.ml) t.own, h.hp, h.lp⟩
theorem PlAt.snd (h : PlAt w0 lim p pv m base q x V rp bv cv rv mv C R l M y) (f : FrV (fun i => i = rp) y y') (d : RvIn y' rp bv cv' rv' mv' m C' R' M') (ml : MvIn y' mv' l' M') (off : RvOff (x.own q) rp bv cv' rv' mv' m C' R' M') (hp : ∀ g, mv'.ownBlock = some g → g ≠ rp) : PlAt w0 lim p pv m base q x V rp bv cv' rv' mv' C' R' l' M' y' := by
 have hb : PlC lim y p pv m base := h.a.base
 refine ⟨h.a.aside f (fun i e => by cases e; exact ⟨Nat.le_trans h.a.le h.lp, h.off.p⟩) (hb.kept f.size fun i hi => f.block i (Nat.lt_of_lt_of_le ?_ hb.le) (fun e => ?_)), d, ml, off, hp, h.lp⟩
 · rcases hi with rfl | hi
   · exact hb.lo
   · exact hb.lov i hi
 · subst e
   have := h.lp
   rcases hi with hi | hi
   · have := hb.lo
     omega
   · have := hb.lov i hi
     omega
theorem PlAt.called (h : PlAt w0 lim p pv m base q x V rp bv cv rv mv C R l M y) (hm : m.length ≤ 5000) (b : Below y.heap.size y y') : PlAt w0 lim p pv m base q x V rp bv cv rv mv C R l M y' :=
 ⟨h.a.called (plainC_base lim p pv m base hm) b, h.d.called b, h.ml.called b, h.off, h.hp, h.lp⟩
theorem PlAt.new (h : PlAt w0 lim p pv m base q x V rp bv cv rv mv C R l M y) {v : Value} (hv : NewV y.heap.size v) : ∀ g, v.ownBlock = some g → ¬ x.own q g := fun g hg e => by
 have := hv g hg
 have := h.a.vw.lt e
 omega
end
end
section
open Go.RowKit
theorem rchunks_calls (n p : Int) (w : World) :
    Calls Tryz.prog 41 #[.int .i64 n, .int .i64 p] w fun e w' => e = .returned (sv (chunksF n p) (chunksT n p) false) ∧ Below w.heap.size w w' := by
 by_cases hn : (okN n && okP p) = true
 · have hn1 : okN n = true := by simp at hn; exact hn.1
   have h0 : 1 ≤ n ∧ n < 1073741824 := by simpa [okN] using hn1
   go_enter Tryz.func41, Tryz.ntmps41
   go_wp2_with (first
    | (go_at_call 34; refine (rchunk_calls n p _).mono ?_; rintro e w1 ⟨rfl, b1⟩; rw [hn])
    | (refine store_key rfl _ _ rfl _ rfl _ rfl (chunkR_length _ _) (zs 24) (zero_has w1 w1.heap.size rfl) ?_; intro w2 h2 t2 s2))
   have hsb := b1.size
   simp at hsb
   have h3 := (((zero_hasS w w.heap.size rfl).below b1 (by simp)).alloc (.cells #[.int .u8 0, .int .u8 0, .int .u8 0, .int .u8 0, .int .u8 0, .int .u8 0, .int .u8 0, .int .u8 0, .int .u8 0, .int .u8 0, .int .u8 0, .int .u8 0, .int .u8 0, .int .u8 0, .int .u8 0, .int .u8 0, .int .u8 0, .int .u8 0, .int .u8 0, .int .u8 0, .int .u8 0, .int .u8 0, .int .u8 0, .int .u8 0] 54)).touch t2 (by omega)
   have B2 : Below w.heap.size w w2 := below_touched (below_made (below_called (below_made (Below.refl _ w) (Nat.le_refl _) _) b1 (Nat.le_refl _)) (Nat.le_refl _) _) t2 (by omega) (Nat.le_refl _)
   have hu24 := Tryz.underlying54
   have hi24 : (Tryz.prog.info? 54).map (·.size) = some (bc (chunkR n p)).length := by rw [bc_length, chunkR_length]; exact Tryz.key_info
   have M2 : Mk w w.heap.size w1.heap.size (chunkR n p) w2 := ⟨⟨_, _, _, h3⟩, h2, B2, Nat.le_refl _, by omega⟩
   refine wp_region_held_drew (S := Mk w w.heap.size w1.heap.size (chunkR n p)) (by kernel_rfl) M2.drew (fun hh => ?_)
   refine tk 0 rfl hh (yieldsIf_load_mid (by rfl) _ _ rfl _ _ rfl _ _ (fun _ h => Mk.range h) hu24 rfl hi24) ?_
   (try simp only [gs])
   refine tk (v := .int .i64 n) 1 rfl hh (Or.inl ⟨by rfl, fun _ _ => by go_simp⟩) ?_
   (try simp only [gs])
   refine wpAnyH_ready (rs := [2]) (by kernel_rfl) (by simp) (AllReadyH.cons rfl (fun K hK => ?_) AllReadyH.nil)
   rw [if_pos (by rfl)]
   (try simp only [gs])
   go_simp
   refine (rhead_calls n 4 4 (by decide) _ (by omega)).mono ?_
   rintro e w3 ⟨rfl, b3⟩
   refine hK.out _ _ (hh.called b3) (fun h3 => ?_)
   clear hK K
   refine wpAnyH_ready (rs := [3]) (by kernel_rfl) (by simp) (AllReadyH.cons rfl (fun K hK => ?_) AllReadyH.nil)
   rw [if_pos (by rfl)]
   (try simp only [gs])
   refine wp_build2 _ _ rfl _ _ rfl rfl (chunkR_length n p) (headK_length _ _) ?_
   refine hK.out _ _ h3 (fun _ => ?_)
   clear hK K
   (try simp only [gs])
   refine wpAnyH_ready (rs := [4]) (by kernel_rfl) (by simp) (AllReadyH.cons rfl (fun K hK => ?_) AllReadyH.nil)
   rw [if_pos (by rfl)]
   (try simp only [gs])
   obtain ⟨⟨F0, T0, e0, hs0⟩, _⟩ := id h3
   refine wp_store_span _ _ rfl _ rfl _ _ _ rfl (chunkR_length n p) (headK_length _ _) _ _ _ hs0 ?_
   refine hK.out _ _ (h3.put (chunkR_length n p) (headK_length _ _)) (fun h5 => ?_)
   clear hK K
   refine wpAnyH_done (by kernel_rfl) ?_ _
   have h6 := hs0.row (e' := false) (chunkR_length n p) (headK_length n.toNat 4)
   generalize w3.setRow w.heap.size (sc (chunkR n p) (headK n.toNat 4) false).toArray = w4 at h5 h6 ⊢
   go_wp2_with fail
   refine ret_span rfl _ _ _ _ rfl h6 rfl ⟨by rw [chunksF, chunksT, if_pos hn], h5.2.2.1⟩
 · have hf : (okN n && okP p) = false := by simpa using hn
   go_enter Tryz.func41, Tryz.ntmps41
   go_wp2_with (first
    | (go_at_call 34; refine (rchunk_calls n p _).mono ?_; rintro e w1 ⟨rfl, b1⟩; rw [hf])
    | (refine store_key rfl _ _ rfl _ rfl _ rfl (chunkR_length _ _) (zs 24) (zero_has w1 w1.heap.size rfl) ?_; intro w2 h2 t2 s2; have hsb := b1.size; simp at hsb)
    | (refine build0 rfl rfl ?_)
    | (refine store_span rfl _ _ rfl _ rfl _ _ _ rfl rfl rfl (zs 24) (zs 24) false ((((zero_hasS w w.heap.size rfl).below b1 (by simp)).alloc _).touch t2 (by omega)) ?_; intro w4 h4 t4 s4))
   refine ret_span rfl _ _ _ _ rfl h4 rfl ⟨by rw [chunksF, chunksT, chunkR, hf]; rfl, ?_⟩
   exact below_touched (below_touched (below_made (below_called (below_made (Below.refl _ w) (Nat.le_refl _) _) b1 (Nat.le_refl _)) (Nat.le_refl _) _) t2 (by omega) (Nat.le_refl _)) t4 (Nat.le_refl _) (Nat.le_refl _)
end
section
open Go.RowKit
theorem gidx_at (s : ByteArray) (i : Nat) (b : UInt8) (h : s.data.toList[i]? = some b) (w : World) : (Instr.index 9 (.string s) (.int .i64 (i : Int))).run Tryz.prog w = .ok (.int .u8 (b.toNat : Int)) w := by
 obtain ⟨hl, rfl⟩ := List.getElem?_eq_some_iff.1 h
 have hs : i < s.size := by simpa using hl
 have hi : (0 : Int) ≤ (i : Int) ∧ (i : Int) < (s.size : Int) := by omega
 rw [run_index_string w _ _ _ _ Tryz.underlying9, dif_pos hi]
 have e : (s[(i : Int).toNat]'(by omega)) = s.data.toList[i] := by simp only [Int.toNat_natCast, Array.getElem_toList]; rfl
 rw [e]
theorem gstr_append (l : List UInt8) (x : ByteArray) : str l ++ x = str (l ++ x.data.toList) := by
 apply Go.WideShapes.bytes_inj
 rw [str_list]
 simp [str]
theorem rtrim_of (w : World) (L : List UInt8) (hl : (str L).size ≤ 140737488351232) :
    Calls Tryz.prog 43 #[.string (str L)] w fun e w' => e = .returned (.string (str (trimmed L))) ∧ w' = w := by
 have hsz := str_size L
 obtain ⟨m, hm⟩ : ∃ m : Nat, min ((str L).size : Int) 32 = (m : Int) := ⟨min L.length 32, by rw [hsz]; omega⟩
 have hm2 : m ≤ L.length ∧ m ≤ 32 ∧ (m = L.length ∨ m = 32) := by rw [hsz] at hm; omega
 have hml : (L.take 32).length = m := by rw [List.length_take]; omega
 have Hx : ∀ k, (str L).extract 0 k = str (L.take k) := ext_take L
 have Ht : ∀ k, k ≤ m → L.take k = (L.take 32).take k := fun k hk => by rw [List.take_take, Nat.min_eq_left (by omega)]
 have Hlt : ∀ k : Nat, k ≤ m → (k : Int) ≤ ((str L).size : Int) := fun k hk => by rw [hsz]; omega
 have Hi : ∀ k : Nat, k < m → ∃ b, L[k]? = some b ∧ ∀ y, (Instr.index 9 (.string (str L)) (.int .i64 (k : Int))).run Tryz.prog y = .ok (.int .u8 (b.toNat : Int)) y := fun k hk =>
  ⟨L[k]'(by omega), List.getElem?_eq_getElem _, gidx_at (str L) k _ (by rw [str_list]; exact List.getElem?_eq_getElem _)⟩
 have HT : Hid (trimmed L = Lib.trimRightB (L.take 32) 0) := rfl
 generalize trimmed L = R at HT ⊢
 generalize str L = S at *
 have hm32 : m ≤ 32 := hm2.2.1
 clear hsz hm2
 go_enter Tryz.func43, Tryz.ntmps43
 go_wp2_with fail
 go_loop [3] (fun v => ∃ k : Nat, k ≤ m ∧ v = .int .i64 (k : Int) ∧ ∀ (j : Nat) b, k ≤ j → (L.take 32)[j]? = some b → b = 0) (fun v => (intOf v).toNat)
 case atStart => exact ⟨m, Nat.le_refl _, by first | rfl | simp [hm], fun j b hj hb => absurd (List.getElem?_eq_some_iff.1 hb).1 (by omega)⟩
 case round =>
  obtain ⟨k, hk, rfl, hz⟩ := hrel
  have HZ : Hid (∀ (j : Nat) b, k ≤ j → (L.take 32)[j]? = some b → b = 0) := hz
  clear hz hm
  cases k with
  | zero =>
   have hx := Hx 0
   have h0 : Hid (R = L.take 0) := HT.out.trans ((Lib.trimRightB_take (L.take 32) 0 0 (Nat.zero_le _) HZ.out fun b h _ => absurd h (by omega)).trans (by rw [List.take_zero, List.take_zero]))
   clear HT HZ Hi Hx Ht Hlt
   go_wp2
   go_ret
   exact ⟨by rw [h0.out]; first | rfl | simp, rfl⟩
  | succ g =>
   obtain ⟨b, hb, hidx⟩ := Hi g (by omega)
   have hb32 : (L.take 32)[g]? = some b := by rw [List.getElem?_take_of_lt (by omega)]; exact hb
   have hlt := Hlt (g + 1) hk
   have hlt1 : (g : Int) + 1 ≤ (S.size : Int) := by omega
   have hpos : (0 : Int) < (g : Int) + 1 := by omega
   by_cases h0 : b = 0
   · subst h0
     have hb' : (((0 : UInt8).toNat : Int) == 0) = true := rfl
     have HB : Hid ((L.take 32)[g]? = some (0 : UInt8)) := hb32
     clear hb hb32 Hi Hx Ht Hlt HT hlt
     go_wp2
     go_round
     case rel =>
      refine ⟨g, by omega, by first | rfl | simp | go_num, fun j b hj hbj => ?_⟩
      by_cases e : j = g
      · subst e
        have h1 := HB.out.symm.trans hbj
        exact (Option.some.inj h1).symm
      · exact HZ.out j b (by omega) hbj
     case measure => simp [intOf]
   · have hb' : ((b.toNat : Int) == 0) = false := by
       have : b.toNat ≠ 0 := fun e => h0 (UInt8.toNat_inj.1 e)
       simpa using this
     have hx := Hx (g + 1)
     have hR : Hid (R = L.take (g + 1)) := HT.out.trans ((Lib.trimRightB_take (L.take 32) 0 (g + 1) (by omega) HZ.out (fun c _ hc => by
      rw [Nat.add_sub_cancel] at hc
      have h1 := hb32.symm.trans hc
      rw [← Option.some.inj h1]
      exact h0)).trans (Ht (g + 1) hk).symm)
     have hnn : ((g : Int) + 1).toNat = g + 1 := by omega
     clear hb hb32 Hi Hx Ht Hlt HT hlt HZ h0
     go_wp2
     go_ret
     exact ⟨by rw [hR.out]; first | rfl | simp_all, rfl⟩
theorem rtrim_calls (w : World) (L : List UInt8) (hl : L.length ≤ 140737488351232) :
    Calls Tryz.prog 43 #[.string (str L)] w fun e w' => e = .returned (.string (str (trimmed L))) ∧ w' = w := rtrim_of w L (by rw [str_size]; exact hl)
theorem rfull_of (w : World) (A S : ByteArray) (d : Nat) (hxA : A.extract 0 (min (A.size : Int) 32).toNat = S) (hd : 32 - (S.size : Int) = (d : Int)) :
    Calls Tryz.prog 36 #[.string A] w fun e w' => e = .returned (.string (S ++ str (List.replicate d 0))) ∧ Below w.heap.size w w' := by
 have hd32 : d ≤ 32 := by omega
 have hmk := run_make_row' (P := Tryz.prog) 49 5 (.int .u8 0) 1 Tryz.underlying49 Tryz.info_u8 rfl .i64 .i64 d (by omega) (by omega)
 have hcv : (convert 49 9 (.slice (some ⟨w.heap.size, 0, none⟩) d d)).run Tryz.prog (w.alloc (.cells (madeCells #[.int .u8 0] d) 5)) = .ok (.string (str (List.replicate d 0))) (w.alloc (.cells (madeCells #[.int .u8 0] d) 5)) := by
  refine conv_bytes (r := some w.heap.size) ⟨_, d, by simp, by simp, .inr ⟨w.heap.size, 0, rfl, rfl, by simp, fun j u hu => ?_⟩⟩
  have hj := bc_get hu
  rw [bc_at _ _ hj] at hu
  have hc := cell_of_row (w.alloc (.cells (madeCells #[.int .u8 0] d) 5)) w.heap.size (0 + j) (madeCells #[.int .u8 0] d) 5 (0, 0) (heap_alloc_new _ _)
  refine Eq.trans (show _ = _ from hc) ?_
  rw [← Array.getElem?_toList, toList_madeCells_one]
  simp at hj
  simpa [hj] using hu
 have hsz : (str (List.replicate d 0)).size = d := by rw [str_size]; simp
 have hsum : (S.size : Int) + (d : Int) ≤ 9223372036854775807 := by omega
 go_enter Tryz.func36, Tryz.ntmps36
 go_wp2
 go_ret
 exact ⟨rfl, (Below.refl _ _).alloc (Nat.le_refl _) _⟩
theorem rfull_calls (w : World) (L : List UInt8) :
    Calls Tryz.prog 36 #[.string (str L)] w fun e w' => e = .returned (.string (str (fullP L))) ∧ Below w.heap.size w w' := by
 have hlt : (L.take 32).length ≤ 32 := by rw [List.length_take]; omega
 have h := rfull_of w (str L) (str (L.take 32)) (32 - (L.take 32).length) (by
  rw [ext_take, str_size]
  by_cases hl : L.length ≤ 32
  · rw [List.take_of_length_le (i := 32) hl, List.take_of_length_le (by omega)]
  · congr 2
    omega) (by rw [str_size]; omega)
 rw [gstr_append, str_list] at h
 exact h
end
end Go.Proofs.YtdmindhjmjnagaaGreatDoor
