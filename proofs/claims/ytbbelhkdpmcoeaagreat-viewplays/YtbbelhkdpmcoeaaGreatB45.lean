import Derived.Test.YtbbelhkdpmcoeaaGreatSi
import Derived.Test.YtbbelhkdpmcoeaaGreatB40
import Derived.Test.YtbbelhkdpmcoeaaGreatB39
import Derived.Test.YtbbelhkdpmcoeaaGreatB43
import Derived.Test.YtbbelhkdpmcoeaaGreatB24
import Derived.Test.YtbbelhkdpmcoeaaGreatB41
import Derived.Test.YtbbelhkdpmcoeaaGreatB42
import Derived.Test.YtbbelhkdpmcoeaaGreatB44
/- The document's View: Get. -/
namespace Go.Proofs.YtbbelhkdpmcoeaaGreat
set_option linter.unusedVariables false
set_option maxRecDepth 100000
open Go.RowKit

set_option maxHeartbeats 8000000 in
theorem rvget_calls (w : World) (p : Nat) (bv cv rv mv : Value) (B : List Pa) (C : List Ch) (R : List Sp) (M : List (Value × List Ch)) (h : RvIn w p bv cv rv mv B C R M) (hp : ∀ g off n cap, mv = .slice (some ⟨g, off, none⟩) n cap → g ≠ p) (hl : R.length ≤ 300) (hB : B.length ≤ 100) (hC : C.length ≤ 100) (K : Kz) :
    Calls Tryz.prog 30 #[.pointer (some ⟨p, 0, none⟩), kv K.k] w fun e w' => ∃ mm, ApplyIs B C mm ∧ e = .returned (.tuple #[.string (str (gotV9 mm K)), .bool (gotB mm K)]) ∧ FrV (fun i => i = p) w w' ∧ ∃ rv' R', RvIn w' p bv cv rv' mv B C R' M ∧ ((look Ch.n C K.n).isSome = true → rv' = rv ∧ R' = R) ∧ ((look Ch.n C K.n).isSome = false → NewV w.heap.size rv' ∧ Is R' (mem (R ++ [oneSp K]))) := by
  have b1 : Below w.heap.size w (w.alloc (.cells (bc K.k).toArray 29)) := (Below.refl _ w).alloc (Nat.le_refl _) _
  have HK : Hid (Has (w.alloc (.cells (bc K.k).toArray 29)) w.heap.size K.k) := Has.new w K.k K.h
  have hInfo : ∀ J : Kz, (Tryz.prog.info? 29).map (·.size) = some (bc J.k).length := fun J => by rw [bc_length, J.h]; exact Tryz.key_info
  obtain ⟨ad, cap, rfl, hcap, hmax, -, -⟩ := id h.r
  obtain ⟨N, hN⟩ : ∃ N : Nat, N = R.length := ⟨_, rfl⟩
  have HN : Hid (N = R.length ∧ N ≤ 300) := ⟨hN, by omega⟩
  have HBC : Hid (B.length ≤ 100 ∧ C.length ≤ 100) := ⟨hB, hC⟩
  rw [← hN] at hcap hmax h
  have HR0 : Hid (RvIn (w.alloc (.cells (bc K.k).toArray 29)) p bv cv (.slice ad N cap) mv B C R M ∧ Below w.heap.size w (w.alloc (.cells (bc K.k).toArray 29)) ∧ p < w.heap.size) := ⟨h.called b1, b1, h.lt⟩
  have HPP : Hid (∀ g off n cap, mv = .slice (some ⟨g, off, none⟩) n cap → g ≠ p) := hp
  have hOw := rvown_calls (w.alloc (.cells (bc K.k).toArray 29)) p bv cv (.slice ad N cap) mv B C R M HR0.out.1 (by omega) K
  rw [← hN]
  clear b1 hN h hl hB hC hp
  go_enter Tryz.func30, Tryz.ntmps30
  go_upto_region 1 with fail
  have hkk : (w.alloc (.cells (bc K.k).toArray 29)).rangeAt w.heap.size 0 (bc K.k) := range_has HK.out
  generalize hW : w.alloc (.cells (bc K.k).toArray 29) = W at *
  go_upto_region 2 with (first
    | (refine load_part _ rfl w.heap.size 0 rfl rfl _ K.h hkk ?_)
    | (go_at_call 53; refine hOw.mono ?_; clear hOw; rintro e W1 ⟨rfl, b1⟩))
  have HR1 : Hid (RvIn W1 p bv cv (.slice ad N cap) mv B C R M ∧ Below w.heap.size w W1 ∧ Has W1 w.heap.size K.k) := ⟨HR0.out.1.called b1, HR0.out.2.1.trans (b1.mono HR0.out.2.1.size), HK.out.below b1 HK.out.lt⟩
  have HPW : Hid (p < w.heap.size) := HR0.out.2.2
  clear b1 hkk hW HR0 HK
  cases hq : (look Ch.n C K.n).isSome with
  | true =>
    have HLK : Hid ((look Ch.n C K.n).isSome = true) := hq
    clear hq
    have HR99 : Hid (RvIn W1 p bv cv (.slice ad N cap) mv B C R M ∧ Below w.heap.size w W1 ∧ Has W1 w.heap.size K.k) := HR1.out
    obtain ⟨y99, hy99⟩ : ∃ y, y = W1 := ⟨_, rfl⟩
    obtain ⟨W0, hW0⟩ : ∃ y, y = W1 := ⟨_, rfl⟩
    have HF : Hid (RvIn y99 p bv cv (.slice ad N cap) mv B C R M) := by subst hy99; exact HR1.out.1
    have HSB : Hid (y99.heap[w.heap.size]? = W0.heap[w.heap.size]?) := by subst hy99; subst hW0; rfl
    have HG : Hid (FrV (fun i => i = p) w y99) := by subst hy99; exact FrV.of_below (S := fun i => i = p) HR1.out.2.1
    have HBX : Hid (W0.rangeAt w.heap.size 0 (bc K.k)) := by subst hW0; exact range_has HR1.out.2.2
    have HP : Hid (p < w.heap.size ∧ w.heap.size < W0.heap.size) := by subst hW0; exact ⟨HPW.out, HR1.out.2.2.lt⟩
    have HL9 : Hid (W0.heap.size ≤ y99.drew.heap.size) := by subst hy99; subst hW0; exact Nat.le_refl _
    rw [← hy99]
    clear hy99 hW0 HR1 HR99
    have HRX : Hid (RvIn y99.drew p bv cv (.slice ad N cap) mv B C R M ∧ Below y99.heap.size y99 y99.drew) := ⟨HF.out.called ⟨rfl, rfl, rfl, Nat.le_refl _, fun _ _ => rfl⟩, ⟨rfl, rfl, rfl, Nat.le_refl _, fun _ _ => rfl⟩⟩
    have HSX : Hid (∀ y, Below y99.drew.heap.size y99.drew y → y.rangeAt w.heap.size 0 (bc K.k)) := fun y b => range_same' (HBX.out) (((b.block w.heap.size (Nat.lt_of_lt_of_le HP.out.2 HL9.out))).trans HSB.out)
    have hMap := rvmap_calls y99.drew p bv cv (.slice ad N cap) mv B C R M HRX.out.1 (by have := HBC.out; omega) (by have := HBC.out; omega)
    go_upto_region 4 with fail
    refine wp_region_noPanic ?_
    refine wp_region_held_drew (S := (fun yy => yy.rangeAt w.heap.size 0 (bc K.k))) (by kernel_rfl) (HSX.out _ (Below.refl _ _)) (fun hHeld => ?_)
    refine wpAnyH_take (i := 0) (v := ?_) rfl (by kernel_rfl) (by kernel_rfl) (by kernel_rfl) (fun _ _ _ h => h) (Or.inl ⟨by rfl, ?_⟩) hHeld ?_
    case refine_2 => (intro w hSw; (try dsimp only at hSw); go_simp; try (with_reducible rfl))
    (try simp only [gs])
    refine wpAnyH_take (i := 2) rfl (by kernel_rfl) (by kernel_rfl) (by kernel_rfl) (fun _ _ _ h => h) (yieldsIf_load_mid (by rfl) _ _ rfl _ _ rfl _ _ (fun _ h => h) Tryz.underlying29 rfl (hInfo K)) hHeld ?_
    (try simp only [gs])
    refine wpAnyH_ready (rs := [1]) (by kernel_rfl) (by simp) (AllReadyH.cons rfl (fun K0 hK => ?_) AllReadyH.nil)
    rw [if_pos (by rfl)]
    (try simp only [gs])
    go_simp
    refine hMap.mono ?_
    clear hMap
    rintro e y101 ⟨v8, mm, rfl, s8, i8, l8, b8⟩
    have hIn := get9_calls y101 v8 mm K s8 i8.1 (by have := HBC.out; omega)
    refine hK.out _ _ (HSX.out _ b8) (fun hHeld => ?_)
    clear hK K0
    (try simp only [gs])
    refine wpAnyH_ready (rs := [3]) (by kernel_rfl) (by simp) (AllReadyH.cons rfl (fun K0 hK => ?_) AllReadyH.nil)
    rw [if_pos (by rfl)]
    (try simp only [gs])
    go_simp
    refine hIn.mono ?_
    clear hIn
    rintro e y102 ⟨rfl, b9⟩
    have HB9 : Hid (Below y99.drew.heap.size y99.drew y102) := b8.trans (b9.mono b8.size)
    refine hK.out _ _ (HSX.out _ HB9.out) (fun hHeld => ?_)
    clear hK K0
    (try simp only [gs])
    refine wpAnyH_take (i := 4) (v := ?_) rfl (by kernel_rfl) (by kernel_rfl) (by kernel_rfl) (fun _ _ _ h => h) (Or.inl ⟨by rfl, ?_⟩) hHeld ?_
    case refine_2 => (intro w hSw; (try dsimp only at hSw); go_simp; try (with_reducible rfl))
    (try simp only [gs])
    refine wpAnyH_take (i := 5) (v := ?_) rfl (by kernel_rfl) (by kernel_rfl) (by kernel_rfl) (fun _ _ _ h => h) (Or.inl ⟨by rfl, ?_⟩) hHeld ?_
    case refine_2 => (intro w hSw; (try dsimp only at hSw); go_simp; try (with_reducible rfl))
    (try simp only [gs])
    refine wpAnyH_take (i := 6) (v := ?_) rfl (by kernel_rfl) (by kernel_rfl) (by kernel_rfl) (fun _ _ _ h => h) (Or.inl ⟨by rfl, ?_⟩) hHeld ?_
    case refine_2 => (intro w hSw; (try dsimp only at hSw); go_simp; try (with_reducible rfl))
    (try simp only [gs])
    refine wpAnyH_take (i := 7) (v := ?_) rfl (by kernel_rfl) (by kernel_rfl) (by kernel_rfl) (fun _ _ _ h => h) (Or.inl ⟨by rfl, ?_⟩) hHeld ?_
    case refine_2 => (intro w hSw; (try dsimp only at hSw); go_simp; try (with_reducible rfl))
    (try simp only [gs])
    refine wpAnyH_done (by kernel_rfl) ?_ _
    refine NoPanic.normal ?_
    clear hHeld
    go_wp2_with fail
    go_ret2
    exact ⟨mm, i8, rfl, HG.out.trans (FrV.of_below (S := fun i => i = p) (HRX.out.2.trans (HB9.out.mono HRX.out.2.size))) (fun i e => .inl e), _, R, HF.out.called (HRX.out.2.trans (HB9.out.mono HRX.out.2.size)), fun _ => ⟨rfl, rfl⟩, fun q => absurd q (by rw [HLK.out]; decide)⟩
  | false =>
    have HLK : Hid ((look Ch.n C K.n).isSome = false) := hq
    clear hq
    go_upto_region 3 with fail
    have HRD : Hid (RvIn W1.drew p bv cv (.slice ad N cap) mv B C R M ∧ Below w.heap.size w W1.drew ∧ Has W1.drew w.heap.size K.k) := ⟨HR1.out.1.called ⟨rfl, rfl, rfl, Nat.le_refl _, fun _ _ => rfl⟩, HR1.out.2.1.trans ⟨rfl, rfl, rfl, Nat.le_refl _, fun _ _ => rfl⟩, ⟨HR1.out.2.2.len, HR1.out.2.2.blk⟩⟩
    have HBX0 : Hid (W1.drew.rangeAt w.heap.size 0 (bc K.k)) := range_has HRD.out.2.2
    refine wp_region_noPanic ?_
    refine wp_region_Z 14 (fun yy => RvC yy p bv cv (.slice ad N cap) mv ∧ yy.rangeAt w.heap.size 0 (bc K.k)) (by kernel_rfl) ⟨RvC.mk HRD.out.1.blk, HBX0.out⟩ (fun hHeld => ?_)
    refine wpAnyZ_take (i := 0) (v := ?_) [12, 13, 14] rfl (by kernel_rfl) (by kernel_rfl) (by kernel_rfl) (by kernel_rfl) (fun _ _ _ h => h) (Or.inl ⟨by rfl, ?_⟩) hHeld ?_
    case refine_2 => (intro w hSw; (try dsimp only at hSw); go_simp; try (with_reducible rfl))
    (try simp only [gs])
    refine wpAnyZ_take (i := 2) (v := ?_) [3, 4, 5, 6, 10, 11, 14] rfl (by kernel_rfl) (by kernel_rfl) (by kernel_rfl) (by kernel_rfl) (fun _ _ _ h => h) (Or.inl ⟨by rfl, ?_⟩) hHeld ?_
    case refine_2 => (intro w hSw; (try dsimp only at hSw); go_simp; try (with_reducible rfl))
    (try simp only [gs])
    refine wpAnyZ_take (i := 3) (v := ?_) [4, 5, 6, 10, 11, 14] rfl (by kernel_rfl) (by kernel_rfl) (by kernel_rfl) (by kernel_rfl) (fun _ _ _ h => h) (Or.inl ⟨by rfl, ?_⟩) hHeld ?_
    case refine_2 => (intro w hSw; (try dsimp only at hSw); go_simp; try (with_reducible rfl))
    (try simp only [gs])
    refine wpAnyZ_take (i := 4) (v := ?_) [5, 6, 10, 11, 14] rfl (by kernel_rfl) (by kernel_rfl) (by kernel_rfl) (by kernel_rfl) (fun _ _ _ h => h) (Or.inl ⟨by rfl, ?_⟩) hHeld ?_
    case refine_2 => (intro w hSw; (try dsimp only at hSw); go_simp; try (with_reducible rfl))
    (try simp only [gs])
    refine wpAnyZ_take (i := 5) (v := ?_) [6, 10, 11, 14] rfl (by kernel_rfl) (by kernel_rfl) (by kernel_rfl) (by kernel_rfl) (fun _ _ _ h => h) (Or.inl ⟨by rfl, ?_⟩) hHeld ?_
    case refine_2 => (intro w hSw; (try dsimp only at hSw); have hc := hSw.1.c2; go_simp; try (with_reducible rfl))
    (try simp only [gs])
    refine wpAnyZ_take (i := 7) [8, 9, 10, 11, 14] rfl (by kernel_rfl) (by kernel_rfl) (by kernel_rfl) (by kernel_rfl) (fun _ _ _ h => h) (yieldsIf_load_mid (by rfl) _ _ rfl _ _ rfl _ _ (fun _ h => h.2) Tryz.underlying29 rfl (hInfo K)) hHeld ?_
    (try simp only [gs])
    have HP : Hid (p < w.heap.size ∧ w.heap.size < W1.drew.heap.size) := ⟨HPW.out, HRD.out.2.2.lt⟩
    clear HR1
    generalize W1.drew = W0 at *
    have HBX : Hid (W0.rangeAt w.heap.size 0 (bc K.k)) := HBX0.out
    have RB : Hid (∀ y, Below W0.heap.size W0 y → RvIn y p bv cv (.slice ad N cap) mv B C R M) := fun y b => HRD.out.1.called b
    have HELD : Hid (∀ y, Below W0.heap.size W0 y → RvC y p bv cv (.slice ad N cap) mv ∧ y.rangeAt w.heap.size 0 (bc K.k)) := fun y b => ⟨RvC.mk (HRD.out.1.called b).blk, range_same' HBX.out (b.block w.heap.size HP.out.2)⟩
    have HB0 : Hid (Below W0.heap.size W0 W0) := Below.refl _ _
    clear HBX0
    refine wpAnyZ_ready (rs := [1]) (by kernel_rfl) (by simp) (AllReadyZ.cons rfl (fun K0 hK => ?_) AllReadyZ.nil)
    rw [if_pos (by rfl)]
    (try simp only [gs])
    refine wp_build_none rowS rfl ?_
    intro y1 o1 b1 z1
    have HB1 : Hid (Below W0.heap.size W0 y1) := HB0.out.trans (b1.mono HB0.out.size)
    replace o1 : Own encS 44 y1 W0.heap.size (.slice (some ⟨W0.heap.size, 0, none⟩) 0 0) [] := Go.Proofs.ownsRow_base_a o1 HB0.out.size
    have g1 : W0.heap.size ≤ W0.heap.size := HB0.out.size
    refine hK.out _ _ (fun _ => (HELD.out _ HB1.out)) ?_
    clear hK K0 hHeld
    have hHeld := (HELD.out _ HB1.out)
    (try simp only [gs])
    clear b1
    refine wpAnyZ_ready (rs := [6]) (by kernel_rfl) (by simp) (AllReadyZ.cons rfl (fun K0 hK => ?_) AllReadyZ.nil)
    rw [if_pos (by rfl)]
    (try simp only [gs])
    refine wp_append_sl rowS _ _ rfl W0.heap.size (.slice (some ⟨W0.heap.size, 0, none⟩) 0 0) [] R rfl o1 (.slice ad N cap) rfl y1.heap.size (RB.out _ HB1.out).r (by have := HN.out; simp only [List.length_nil]; omega) (by decide) HB1.out.size ?_
    intro v6 y2 o6 gr
    have HB2 : Hid (Below W0.heap.size W0 y2) := HB1.out.grown gr HB1.out.size (fun j hj => (o1.lt j hj).1)
    refine hK.out _ _ (fun _ => (HELD.out _ HB2.out)) ?_
    clear hK K0 hHeld
    have hHeld := (HELD.out _ HB2.out)
    (try simp only [gs])
    clear gr o1
    simp only [List.nil_append] at o6
    refine wpAnyZ_ready (rs := [8]) (by kernel_rfl) (by simp) (AllReadyZ.cons rfl (fun K0 hK => ?_) AllReadyZ.nil)
    rw [if_pos (by rfl)]
    (try simp only [gs])
    go_simp
    refine (rone_calls y2 K.k K.h).mono ?_
    rintro e y3 ⟨rfl, b3⟩
    have z3 := b3.size
    have HB3 : Hid (Below W0.heap.size W0 y3) := HB2.out.trans (b3.mono HB2.out.size)
    replace o6 := Own.below o6 b3
    refine hK.out _ _ (fun _ => (HELD.out _ HB3.out)) ?_
    clear hK K0 hHeld
    have hHeld := (HELD.out _ HB3.out)
    (try simp only [gs])
    clear b3
    refine wpAnyZ_ready (rs := [9]) (by kernel_rfl) (by simp) (AllReadyZ.cons rfl (fun K0 hK => ?_) AllReadyZ.nil)
    rw [if_pos (by rfl)]
    (try simp only [gs])
    refine wp_build_el1 rowS _ rfl (oneSp K) rfl (by decide) ?_
    intro y4 o11 b4 z4
    have HB4 : Hid (Below W0.heap.size W0 y4) := HB3.out.trans (b4.mono HB3.out.size)
    replace o11 : Own encS 44 y4 W0.heap.size (.slice (some ⟨y3.heap.size, 0, none⟩) 1 1) [oneSp K] := Go.Proofs.ownsRow_base_a o11 HB3.out.size
    replace o6 := Own.below o6 b4
    refine hK.out _ _ (fun _ => (HELD.out _ HB4.out)) ?_
    clear hK K0 hHeld
    have hHeld := (HELD.out _ HB4.out)
    (try simp only [gs])
    clear b4
    refine wpAnyZ_ready (rs := [10]) (by kernel_rfl) (by simp) (AllReadyZ.cons rfl (fun K0 hK => ?_) AllReadyZ.nil)
    rw [if_pos (by rfl)]
    (try simp only [gs])
    refine wp_append_sl rowS _ _ rfl W0.heap.size v6 R [oneSp K] rfl o6 (.slice (some ⟨y3.heap.size, 0, none⟩) 1 1) rfl y4.heap.size o11.slB (by have := HN.out; simp only [List.length_cons, List.length_nil]; omega) (by decide) HB4.out.size ?_
    intro v12 y5 o12 gr
    have HB5 : Hid (Below W0.heap.size W0 y5) := HB4.out.grown gr HB4.out.size (fun j hj => (o6.lt j hj).1)
    refine hK.out _ _ (fun _ => (HELD.out _ HB5.out)) ?_
    clear hK K0 hHeld
    have hHeld := (HELD.out _ HB5.out)
    (try simp only [gs])
    clear gr o6 o11
    have hCl := rclean_calls y5 v12 (R ++ [oneSp K]) o12.slB (by have := HN.out; simp; omega)
    refine wpAnyZ_ready (rs := [11]) (by kernel_rfl) (by simp) (AllReadyZ.cons rfl (fun K0 hK => ?_) AllReadyZ.nil)
    rw [if_pos (by rfl)]
    (try simp only [gs])
    go_simp
    refine hCl.mono ?_
    clear hCl
    rintro e y6 ⟨v13, rfl, R', o13, i13, b13⟩
    have HB6 : Hid (Below W0.heap.size W0 y6) := HB5.out.trans (b13.mono HB5.out.size)
    have HR13 : Hid (Sl encS y6 v13 R' ∧ Is R' (mem (R ++ [oneSp K])) ∧ NewV W0.heap.size v13) := ⟨o13.slB, i13, fun g hg => Nat.le_trans HB5.out.size (o13.lt g hg).1⟩
    refine hK.out _ _ (fun _ => (HELD.out _ HB6.out)) ?_
    clear hK K0 hHeld
    have hHeld := (HELD.out _ HB6.out)
    (try simp only [gs])
    have hb3 := (RB.out _ HB6.out).blk
    have hf3 := frozen_of_row y6 p 2 _ _ hb3
    have hc3 : y6.cell? ⟨p, 2, none⟩ = some (.slice ad N cap) := (RvC.mk (RB.out _ HB6.out).blk).c2
    obtain ⟨ad13, cap13, rfl, -, -, -, -⟩ := id o13.slB
    clear o13 i13 b13 o12
    refine wpAnyZ_take (i := 12) (v := ?_) [13, 14] rfl (by kernel_rfl) (by kernel_rfl) (by kernel_rfl) (by kernel_rfl) (fun _ _ _ h => h) (Or.inl ⟨by rfl, ?_⟩) hHeld ?_
    case refine_2 => (intro w hSw; (try dsimp only at hSw); go_simp; try (with_reducible rfl))
    (try simp only [gs])
    refine wpAnyZ_take (i := 13) (v := ?_) [14] rfl (by kernel_rfl) (by kernel_rfl) (by kernel_rfl) (by kernel_rfl) (fun _ _ _ h => h) (Or.inl ⟨by rfl, ?_⟩) hHeld ?_
    case refine_2 => (intro w hSw; (try dsimp only at hSw); go_simp; try (with_reducible rfl))
    (try simp only [gs])
    refine wpAnyZ_ready (rs := [14]) (by kernel_rfl) (by simp) (AllReadyZ.cons rfl (fun K0 hK => ?_) AllReadyZ.nil)
    rw [if_pos (by rfl)]
    (try simp only [gs])
    go_simp
    refine hK.out _ _ (fun q => absurd q (by decide)) ?_
    clear hK K0
    (try simp only [gs])
    refine wpAnyZ_done (by kernel_rfl) ?_ _
    refine NoPanic.normal ?_
    have hY : (y6.setCell ⟨p, 2, none⟩ (.slice ad13 R'.length cap13)).heap[p]? = some (.cells #[bv, cv, .slice ad13 R'.length cap13, mv] 41 (0, 0)) := by
      rw [setCell_eq_setRow y6 p 2 _ _ _ _ hb3, setRow_heap y6 p _ _ _ _ hb3]
      rfl
    have hFr : FrV (fun i => i = p) y6 (y6.setCell ⟨p, 2, none⟩ (.slice ad13 R'.length cap13)) := ⟨⟨rfl, rfl, rfl, by simp, fun k hk => absurd hk (Nat.not_lt_zero k)⟩, fun i _ hn => heap_setCell_other _ _ _ _ hn⟩
    have HF : Hid (RvIn (y6.setCell ⟨p, 2, none⟩ (.slice ad13 R'.length cap13)) p bv cv (.slice ad13 R'.length cap13) mv B C R' M) :=
      RvIn.stored (RB.out _ HB6.out) hY (fun g _ hne => heap_setCell_other _ _ _ _ hne) hFr.size (RB.out _ HB6.out).c HR13.out.1 (RB.out _ HB6.out).m HPP.out
    have HG : Hid (FrV (fun i => i = p) w (y6.setCell ⟨p, 2, none⟩ (.slice ad13 R'.length cap13)) ∧ NewV w.heap.size (.slice ad13 R'.length cap13) ∧ Is R' (mem (R ++ [oneSp K]))) :=
      ⟨(FrV.of_below (S := fun i => i = p) (HRD.out.2.1.trans (HB6.out.mono HRD.out.2.1.size))).trans (S' := fun i => i = p) hFr (fun i e => .inl e), fun g hg => Nat.le_trans HRD.out.2.1.size (HR13.out.2.2 g hg), HR13.out.2.1⟩
    have HSB : Hid ((y6.setCell ⟨p, 2, none⟩ (.slice ad13 R'.length cap13)).heap[w.heap.size]? = W0.heap[w.heap.size]?) := (heap_setCell_other _ _ _ _ (show w.heap.size ≠ p from Nat.ne_of_gt HP.out.1)).trans (HB6.out.block w.heap.size HP.out.2)
    have HZ9 : Hid (W0.heap.size ≤ (y6.setCell ⟨p, 2, none⟩ (.slice ad13 R'.length cap13)).heap.size) := (show _ ≤ _ from Nat.le_trans HB6.out.size hFr.size)
    clear hHeld hf3 hc3 hb3 hY hFr HR13
    generalize y6.setCell ⟨p, 2, none⟩ (.slice ad13 R'.length cap13) = y99 at *
    have HL9 : Hid (W0.heap.size ≤ y99.drew.heap.size) := (show _ ≤ _ from HZ9.out)
    have HRX : Hid (RvIn y99.drew p bv cv (.slice ad13 R'.length cap13) mv B C R' M ∧ Below y99.heap.size y99 y99.drew) := ⟨HF.out.called ⟨rfl, rfl, rfl, Nat.le_refl _, fun _ _ => rfl⟩, ⟨rfl, rfl, rfl, Nat.le_refl _, fun _ _ => rfl⟩⟩
    have HSX : Hid (∀ y, Below y99.drew.heap.size y99.drew y → y.rangeAt w.heap.size 0 (bc K.k)) := fun y b => range_same' (HBX.out) (((b.block w.heap.size (Nat.lt_of_lt_of_le HP.out.2 HL9.out))).trans HSB.out)
    have hMap := rvmap_calls y99.drew p bv cv (.slice ad13 R'.length cap13) mv B C R' M HRX.out.1 (by have := HBC.out; omega) (by have := HBC.out; omega)
    go_upto_region 4 with fail
    refine wp_region_noPanic ?_
    refine wp_region_held_drew (S := (fun yy => yy.rangeAt w.heap.size 0 (bc K.k))) (by kernel_rfl) (HSX.out _ (Below.refl _ _)) (fun hHeld => ?_)
    refine wpAnyH_take (i := 0) (v := ?_) rfl (by kernel_rfl) (by kernel_rfl) (by kernel_rfl) (fun _ _ _ h => h) (Or.inl ⟨by rfl, ?_⟩) hHeld ?_
    case refine_2 => (intro w hSw; (try dsimp only at hSw); go_simp; try (with_reducible rfl))
    (try simp only [gs])
    refine wpAnyH_take (i := 2) rfl (by kernel_rfl) (by kernel_rfl) (by kernel_rfl) (fun _ _ _ h => h) (yieldsIf_load_mid (by rfl) _ _ rfl _ _ rfl _ _ (fun _ h => h) Tryz.underlying29 rfl (hInfo K)) hHeld ?_
    (try simp only [gs])
    refine wpAnyH_ready (rs := [1]) (by kernel_rfl) (by simp) (AllReadyH.cons rfl (fun K0 hK => ?_) AllReadyH.nil)
    rw [if_pos (by rfl)]
    (try simp only [gs])
    go_simp
    refine hMap.mono ?_
    clear hMap
    rintro e y101 ⟨v8, mm, rfl, s8, i8, l8, b8⟩
    have hIn := get9_calls y101 v8 mm K s8 i8.1 (by have := HBC.out; omega)
    refine hK.out _ _ (HSX.out _ b8) (fun hHeld => ?_)
    clear hK K0
    (try simp only [gs])
    refine wpAnyH_ready (rs := [3]) (by kernel_rfl) (by simp) (AllReadyH.cons rfl (fun K0 hK => ?_) AllReadyH.nil)
    rw [if_pos (by rfl)]
    (try simp only [gs])
    go_simp
    refine hIn.mono ?_
    clear hIn
    rintro e y102 ⟨rfl, b9⟩
    have HB9 : Hid (Below y99.drew.heap.size y99.drew y102) := b8.trans (b9.mono b8.size)
    refine hK.out _ _ (HSX.out _ HB9.out) (fun hHeld => ?_)
    clear hK K0
    (try simp only [gs])
    refine wpAnyH_take (i := 4) (v := ?_) rfl (by kernel_rfl) (by kernel_rfl) (by kernel_rfl) (fun _ _ _ h => h) (Or.inl ⟨by rfl, ?_⟩) hHeld ?_
    case refine_2 => (intro w hSw; (try dsimp only at hSw); go_simp; try (with_reducible rfl))
    (try simp only [gs])
    refine wpAnyH_take (i := 5) (v := ?_) rfl (by kernel_rfl) (by kernel_rfl) (by kernel_rfl) (fun _ _ _ h => h) (Or.inl ⟨by rfl, ?_⟩) hHeld ?_
    case refine_2 => (intro w hSw; (try dsimp only at hSw); go_simp; try (with_reducible rfl))
    (try simp only [gs])
    refine wpAnyH_take (i := 6) (v := ?_) rfl (by kernel_rfl) (by kernel_rfl) (by kernel_rfl) (fun _ _ _ h => h) (Or.inl ⟨by rfl, ?_⟩) hHeld ?_
    case refine_2 => (intro w hSw; (try dsimp only at hSw); go_simp; try (with_reducible rfl))
    (try simp only [gs])
    refine wpAnyH_take (i := 7) (v := ?_) rfl (by kernel_rfl) (by kernel_rfl) (by kernel_rfl) (fun _ _ _ h => h) (Or.inl ⟨by rfl, ?_⟩) hHeld ?_
    case refine_2 => (intro w hSw; (try dsimp only at hSw); go_simp; try (with_reducible rfl))
    (try simp only [gs])
    refine wpAnyH_done (by kernel_rfl) ?_ _
    refine NoPanic.normal ?_
    clear hHeld
    go_wp2_with fail
    go_ret2
    exact ⟨mm, i8, rfl, HG.out.1.trans (FrV.of_below (S := fun i => i = p) (HRX.out.2.trans (HB9.out.mono HRX.out.2.size))) (fun i e => .inl e), _, R', HF.out.called (HRX.out.2.trans (HB9.out.mono HRX.out.2.size)), fun q => absurd q (by rw [HLK.out]; decide), fun _ => HG.out.2⟩
end Go.Proofs.YtbbelhkdpmcoeaaGreat
/- ViewPlays: a view and the document's beside it; what they agree on (mathematics). -/
namespace Go.Proofs.YtbbelhkdpmcoeaaGreat
set_option linter.unusedVariables false
set_option maxRecDepth 100000
open Go.RowKit

/-- What both agree on. -/
structure PlOk (m : List Pa) (V : VS) (C : List Ch) (R : List Sp) (M : List (Value × List Ch)) (D : List (List Ch)) (j : Nat) : Prop where
  asc : Asc Pa.n m
  len : m.length ≤ 40
  mi : MkIs V D
  c : C = V.C.map Ch.plain
  g : GoneOk V.C
  d : ∀ L ∈ D, GoneOk L ∧ Asc Ch.n L ∧ L.length ≤ j
  rd : Is R (mem V.R)
  most : V.most j
  me : M.map (·.2) = D.map (List.map Ch.plain)
section
variable {m : List Pa} {V : VS} {C : List Ch} {R : List Sp} {M : List (Value × List Ch)} {D : List (List Ch)} {j : Nat}
theorem PlOk.lenC (h : PlOk m V C R M D j) : C.length ≤ j := by rw [h.c, List.length_map]; exact h.most.1
theorem PlOk.lenM (h : PlOk m V C R M D j) : M.length = V.U.length ∧ M.length ≤ j := by
  have h1 := congrArg List.length h.me
  rw [List.length_map, List.length_map] at h1
  have h2 := h.mi.len
  have h3 := h.most.2.2.1
  omega
theorem keepL_len (C : List Ch) (L : List Fo) (J : Kz) : (keepL C L J).length ≤ L.length + 1 := by
  unfold keepL
  split
  · omega
  · exact putA_len Fo.n L _
theorem most_up (h : V.most j) : V.most (j + 1) := ⟨Nat.le_succ_of_le h.1, Nat.le_succ_of_le h.2.1, Nat.le_succ_of_le h.2.2.1, fun L hL => Nat.le_succ_of_le (h.2.2.2 L hL)⟩
theorem most_change (h : V.most j) (c : Ch) : (V.change c).most (j + 1) := by
  refine ⟨?_, Nat.le_succ_of_le h.2.1, ?_, fun L hL => ?_⟩
  · have := putA_len Ch.n V.C c
    have := h.1
    show (putA Ch.n V.C c).length ≤ j + 1
    omega
  · show (keepU V.C V.U c.kz).length ≤ j + 1
    unfold keepU
    rw [List.length_set]
    exact Nat.le_succ_of_le h.2.2.1
  · have hL' : L ∈ keepU V.C V.U c.kz := hL
    unfold keepU at hL'
    rcases List.mem_or_eq_of_mem_set hL' with q | rfl
    · exact Nat.le_succ_of_le (h.2.2.2 L q)
    · have h1 := keepL_len V.C (V.U.getD (V.U.length - 1) []) c.kz
      have h2 : (V.U.getD (V.U.length - 1) []).length ≤ j := by
        rw [List.getD_eq_getElem?_getD]
        cases e : V.U[V.U.length - 1]? with
        | none => exact Nat.zero_le _
        | some L => exact h.2.2.2 L (List.mem_of_getElem? e)
      omega
theorem PlOk.up (h : PlOk m V C R M D j) : PlOk m V C R M D (j + 1) := ⟨h.asc, h.len, h.mi, h.c, h.g, fun L hL => ⟨(h.d L hL).1, (h.d L hL).2.1, Nat.le_succ_of_le (h.d L hL).2.2⟩, h.rd, most_up h.most, h.me⟩
theorem PlOk.change (h : PlOk m V C R M D j) (c : Ch) (hc : c.g = true → c.v = []) {C' : List Ch} (hj : JoinIs (C ++ [c]) C') : PlOk m (V.change c) C' R M D (j + 1) := by
  refine ⟨h.asc, h.len, h.mi.change c, ?_, h.g.put c hc, fun L hL => ⟨(h.d L hL).1, (h.d L hL).2.1, Nat.le_succ_of_le (h.d L hL).2.2⟩, h.rd, most_change h.most c, h.me⟩
  rw [h.c] at hj
  exact join_change h.mi.asc c hj
theorem PlOk.mark (h : PlOk m V C R M D j) (v : Value) : PlOk m V.mark C R (M ++ [(v, C)]) (D ++ [V.C]) (j + 1) := by
  have hm := h.most
  refine ⟨h.asc, h.len, h.mi.mark, h.c, h.g, fun L hL => ?_, h.rd, ⟨Nat.le_succ_of_le hm.1, Nat.le_succ_of_le hm.2.1, ?_, fun L hL => ?_⟩, ?_⟩
  · rcases List.mem_append.1 hL with q | q
    · exact ⟨(h.d L q).1, (h.d L q).2.1, Nat.le_succ_of_le (h.d L q).2.2⟩
    · rw [List.mem_singleton] at q
      subst q
      exact ⟨h.g, h.mi.asc, Nat.le_succ_of_le hm.1⟩
  · show (V.U ++ [ [] ]).length ≤ j + 1
    have := hm.2.2.1
    simp
    omega
  · have hL' : L ∈ V.U ++ [ [] ] := hL
    rcases List.mem_append.1 hL' with q | q
    · exact Nat.le_succ_of_le (hm.2.2.2 L q)
    · rw [List.mem_singleton] at q
      subst q
      exact Nat.zero_le _
  · rw [List.map_append, List.map_append, h.me, h.c]
    rfl
theorem PlOk.at_ (h : PlOk m V C R M D j) {k : Nat} (hk : k < M.length) : ∃ Vk, M[k]? = some (Vk, (D.getD k []).map Ch.plain) := by
  have h1 := congrArg (fun z => z[k]?) h.me
  simp only [List.getElem?_map, List.getElem?_eq_getElem hk, Option.map_some] at h1
  have hk' : k < D.length := by have := congrArg List.length h.me; simp at this; omega
  rw [List.getElem?_eq_getElem hk'] at h1
  refine ⟨(M[k]).1, ?_⟩
  rw [List.getElem?_eq_getElem hk, List.getD_eq_getElem?_getD, List.getElem?_eq_getElem hk']
  simp only [Option.map_some, Option.some.injEq] at h1
  simp [← h1]
theorem PlOk.back (h : PlOk m V C R M D j) {k : Nat} (hk : k < M.length) : PlOk m (V.back k) ((D.getD k []).map Ch.plain) R (M.take (k + 1)) (D.take (k + 1)) (j + 1) ∧ ∀ L ∈ V.U, FoOk L := by
  have hm := h.most
  have hl := h.lenM
  have hk' : k < D.length := by rw [h.mi.len]; omega
  obtain ⟨b1, b2⟩ := h.mi.back k hk' (fun L hL => (h.d L hL).2.1)
  have hg : D.getD k [] = D[k] := by rw [List.getD_eq_getElem?_getD, List.getElem?_eq_getElem hk']; rfl
  have hdk := h.d _ (List.getElem_mem hk')
  refine ⟨⟨h.asc, h.len, b2, by rw [b1, hg], by rw [b1]; exact hdk.1, fun L hL => ?_, h.rd, ⟨by rw [b1]; exact Nat.le_succ_of_le hdk.2.2, Nat.le_succ_of_le hm.2.1, ?_, fun L hL => ?_⟩, by rw [List.map_take, List.map_take, h.me]⟩, fun L hL => (h.mi.ok L hL).2⟩
  · have := h.d L (List.mem_of_mem_take hL)
    exact ⟨this.1, this.2.1, Nat.le_succ_of_le this.2.2⟩
  · show (V.U.take k ++ [ [] ]).length ≤ j + 1
    have := hm.2.2.1
    rw [List.length_append, List.length_take]
    simp
    omega
  · have hL' : L ∈ V.U.take k ++ [ [] ] := hL
    rcases List.mem_append.1 hL' with q | q
    · exact Nat.le_succ_of_le (hm.2.2.2 L (List.mem_of_mem_take q))
    · rw [List.mem_singleton] at q
      subst q
      exact Nat.zero_le _
theorem PlOk.read (h : PlOk m V C R M D j) (s : Sp) {R' : List Sp} (hr : Is R' (mem (R ++ [s]))) : PlOk m { V with R := V.R ++ [s] } C R' M D (j + 1) := by
  have hm := h.most
  refine ⟨h.asc, h.len, ⟨h.mi.len, h.mi.asc, h.mi.ok, h.mi.at_⟩, h.c, h.g, fun L hL => ⟨(h.d L hL).1, (h.d L hL).2.1, Nat.le_succ_of_le (h.d L hL).2.2⟩, ⟨hr.1, fun K hK => ?_⟩, ⟨Nat.le_succ_of_le hm.1, ?_, Nat.le_succ_of_le hm.2.2.1, fun L hL => Nat.le_succ_of_le (hm.2.2.2 L hL)⟩, h.me⟩
  · rw [hr.2 K hK, mem_append, mem_append, h.rd.2 K hK]
  · show (V.R ++ [s]).length ≤ j + 1
    have := hm.2.1
    simp
    omega
end
/-- A view and the document's, side by side. -/
structure PlAt (w0 : World) (lim p : Nat) (pv : Value) (m : List Pa) (base q : Nat) (x : VR) (V : VS) (rp : Nat) (bv cv rv mv : Value) (C : List Ch) (R : List Sp) (l : List SV) (M : List (Value × List Ch)) (y : World) : Prop where
  a : VAt w0 lim (fun _ w => PlC lim w p pv m base) 9 (.iface 26 (.pointer (some ⟨p, 0, none⟩))) q x V y
  d : RvIn y rp bv cv rv mv m C R M
  ml : MvIn y mv l M
  off : RvOff (x.own q) rp bv cv rv mv m C R M
  hp : ∀ g, mv.ownBlock = some g → g ≠ rp
  lp : lim ≤ rp
section
variable {w0 : World} {lim p : Nat} {pv : Value} {m : List Pa} {base q : Nat} {x x' : VR} {V V' : VS} {rp : Nat} {bv cv rv mv cv' rv' mv' : Value} {C C' : List Ch} {R R' : List Sp} {l l' : List SV} {M M' : List (Value × List Ch)} {y y' : World} {nb k : Nat}
/-- Behind a call on the view. -/
theorem PlAt.fst (h : PlAt w0 lim p pv m base q x V rp bv cv rv mv C R l M y) (t : VRan noB w0 lim (fun _ w => PlC lim w p pv m base) k (.iface 26 (.pointer (some ⟨p, 0, none⟩))) q x nb V' y x' y') : PlAt w0 lim p pv m base q x' V' rp bv cv rv mv C R l M y' := by
  have f : FrV (x.own q) y y' := ⟨t.fr.bel, fun i hi hn => t.fr.block i hi (fun e => e.elim hn (fun e => e))⟩
  exact ⟨⟨t.at_.vw, t.at_.base, t.at_.own, t.at_.bel, t.at_.le, t.at_.limy⟩, h.d.aside f h.off, h.ml.aside f h.off.m h.off.e, h.off.both (h.d.lts h.ml) t.own, h.hp, h.lp⟩
/-- Behind a call on the document's. -/
theorem PlAt.snd (h : PlAt w0 lim p pv m base q x V rp bv cv rv mv C R l M y) (f : FrV (fun i => i = rp) y y') (d : RvIn y' rp bv cv' rv' mv' m C' R' M') (ml : MvIn y' mv' l' M') (off : RvOff (x.own q) rp bv cv' rv' mv' m C' R' M') (hp : ∀ g, mv'.ownBlock = some g → g ≠ rp) : PlAt w0 lim p pv m base q x V rp bv cv' rv' mv' C' R' l' M' y' := by
  have hb : PlC lim y p pv m base := h.a.base
  refine ⟨h.a.aside f (fun i e => by cases e; exact ⟨Nat.le_trans h.a.le h.lp, h.off.p⟩) (hb.kept f.size fun i hi => f.block i (Nat.lt_of_lt_of_le ?_ hb.le) (fun e => ?_)), d, ml, off, hp, h.lp⟩
  · rcases hi with rfl | hi
    · exact hb.lo
    · exact hb.lov i hi
  · subst e
    have := h.lp
    rcases hi with hi | hi
    · have := hb.lo
      omega
    · have := hb.lov i hi
      omega
theorem PlAt.called (h : PlAt w0 lim p pv m base q x V rp bv cv rv mv C R l M y) (hm : m.length ≤ 5000) (b : Below y.heap.size y y') : PlAt w0 lim p pv m base q x V rp bv cv rv mv C R l M y' :=
  ⟨h.a.called (plainC_base lim p pv m base hm) b, h.d.called b, h.ml.called b, h.off, h.hp, h.lp⟩
theorem PlAt.new (h : PlAt w0 lim p pv m base q x V rp bv cv rv mv C R l M y) {v : Value} (hv : NewV y.heap.size v) : ∀ g, v.ownBlock = some g → ¬ x.own q g := fun g hg e => by
  have := hv g hg
  have := h.a.vw.lt e
  omega
end
end Go.Proofs.YtbbelhkdpmcoeaaGreat
