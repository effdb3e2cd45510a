import Derived.Test.YtgicanpggndbeaaGreatSi
import Derived.Test.YtgicanpggndbeaaGreatB39
import Derived.Test.YtgicanpggndbeaaGreatB38
import Derived.Test.YtgicanpggndbeaaGreatB13
import Derived.Test.YtgicanpggndbeaaGreatB01
/- The document's View: Delete. -/
namespace Go.Proofs.YtgicanpggndbeaaGreat
set_option linter.unusedVariables false
set_option maxRecDepth 100000
open Go.RowKit

set_option maxHeartbeats 4000000 in
theorem rvdelete_calls (w : World) (p : Nat) (bv cv rv mv : Value) (B : List Pa) (C : List Ch) (R : List Sp) (M : List (Value × List Ch)) (h : RvIn w p bv cv rv mv B C R M) (hp : ∀ g off n cap, mv = .slice (some ⟨g, off, none⟩) n cap → g ≠ p) (hC : C.length ≤ 1000) (K : Kz) :
    Calls Tryz.prog 39 #[.pointer (some ⟨p, 0, none⟩), kv K.k] w fun e w' => (∃ x, e = .returned x) ∧ FrV (fun i => i = p) w w' ∧ ∃ cv' d, RvIn w' p bv cv' rv mv B d R M ∧ NewV w.heap.size cv' ∧ JoinIs (C ++ [goneC K]) d ∧ d.length ≤ C.length + 1 := by
 have b1 : Below w.heap.size w (w.alloc (.cells (bc K.k).toArray 29)) := (Below.refl _ w).alloc (Nat.le_refl _) _
 have HK : Hid (Has (w.alloc (.cells (bc K.k).toArray 29)) w.heap.size K.k) := Has.new w K.k K.h
 have HR0 : Hid (RvIn (w.alloc (.cells (bc K.k).toArray 29)) p bv cv rv mv B C R M ∧ Below w.heap.size w (w.alloc (.cells (bc K.k).toArray 29))) := ⟨h.called b1, b1⟩
 have hInfo : ∀ J : Kz, (Tryz.prog.info? 29).map (·.size) = some (bc J.k).length := fun J => by rw [bc_length, J.h]; exact Tryz.key_info
 obtain ⟨ad, cap, rfl, hcap, hmax, -, -⟩ := id h.c
 have HC : Hid (C.length ≤ 1000) := hC
 have HPP : Hid (∀ g off n cap, mv = .slice (some ⟨g, off, none⟩) n cap → g ≠ p) := hp
 clear b1 h hC hp
 go_enter Tryz.func39, Tryz.ntmps39
 go_upto_region 1 with fail
 generalize hW : w.alloc (.cells (bc K.k).toArray 29) = W at *
 have HRD : Hid (RvIn W.drew p bv (.slice ad C.length cap) rv mv B C R M ∧ Below w.heap.size w W.drew ∧ Has W.drew w.heap.size K.k) := ⟨HR0.out.1.called ⟨rfl, rfl, rfl, Nat.le_refl _, fun _ _ => rfl⟩, HR0.out.2.trans ⟨rfl, rfl, rfl, Nat.le_refl _, fun _ _ => rfl⟩, ⟨HK.out.len, HK.out.blk⟩⟩
 refine wp_region_noPanic ?_
 refine wp_region_Z 12 (fun yy => RvC yy p bv (.slice ad C.length cap) rv mv ∧ yy.rangeAt w.heap.size 0 (bc K.k)) (by kernel_rfl) ⟨RvC.mk HRD.out.1.blk, range_has HRD.out.2.2⟩ (fun hHeld => ?_)
 refine wpAnyZ_take (i := 0) (v := ?_) [10, 11, 12] rfl (by kernel_rfl) (by kernel_rfl) (by kernel_rfl) (by kernel_rfl) (fun _ _ _ h => h) (Or.inl ⟨by rfl, ?_⟩) hHeld ?_
 case refine_2 => (intro w hSw; (try dsimp only at hSw); go_simp; try (with_reducible rfl))
 (try simp only [gs])
 refine wpAnyZ_take (i := 1) (v := ?_) [2, 3, 4, 8, 9, 12] rfl (by kernel_rfl) (by kernel_rfl) (by kernel_rfl) (by kernel_rfl) (fun _ _ _ h => h) (Or.inl ⟨by rfl, ?_⟩) hHeld ?_
 case refine_2 => (intro w hSw; (try dsimp only at hSw); go_simp; try (with_reducible rfl))
 (try simp only [gs])
 refine wpAnyZ_take (i := 2) (v := ?_) [3, 4, 8, 9, 12] rfl (by kernel_rfl) (by kernel_rfl) (by kernel_rfl) (by kernel_rfl) (fun _ _ _ h => h) (Or.inl ⟨by rfl, ?_⟩) hHeld ?_
 case refine_2 => (intro w hSw; (try dsimp only at hSw); go_simp; try (with_reducible rfl))
 (try simp only [gs])
 refine wpAnyZ_take (i := 3) (v := ?_) [4, 8, 9, 12] rfl (by kernel_rfl) (by kernel_rfl) (by kernel_rfl) (by kernel_rfl) (fun _ _ _ h => h) (Or.inl ⟨by rfl, ?_⟩) hHeld ?_
 case refine_2 => (intro w hSw; (try dsimp only at hSw); go_simp; try (with_reducible rfl))
 (try simp only [gs])
 refine wpAnyZ_take (i := 4) (v := ?_) [8, 9, 12] rfl (by kernel_rfl) (by kernel_rfl) (by kernel_rfl) (by kernel_rfl) (fun _ _ _ h => h) (Or.inl ⟨by rfl, ?_⟩) hHeld ?_
 case refine_2 => (intro w hSw; (try dsimp only at hSw); have hc := hSw.1.c1; go_simp; try (with_reducible rfl))
 (try simp only [gs])
 refine wpAnyZ_take (i := 5) [6, 7, 8, 9, 12] rfl (by kernel_rfl) (by kernel_rfl) (by kernel_rfl) (by kernel_rfl) (fun _ _ _ h => h) (yieldsIf_load_mid (by rfl) _ _ rfl _ _ rfl _ _ (fun _ h => h.2) Tryz.underlying29 rfl (hInfo K)) hHeld ?_
 (try simp only [gs])
 refine wpAnyZ_take (i := 6) (v := .agg (encC.c (goneC K)).toArray) [7, 8, 9, 12] rfl (by kernel_rfl) (by kernel_rfl) (by kernel_rfl) (by kernel_rfl) (fun _ _ _ h => h) (Or.inl ⟨by rfl, fun w _ => exec_build rfl (by simp only [List.map_toArray, List.map_cons, List.map_nil]; exact built_gone K) w⟩) hHeld ?_
 (try simp only [gs])
 clear hW HR0 HK
 generalize W.drew = W0 at *
 refine wpAnyZ_ready (rs := [7]) (by kernel_rfl) (by simp) (AllReadyZ.cons rfl (fun K0 hK => ?_) AllReadyZ.nil)
 rw [if_pos (by rfl)]
 (try simp only [gs])
 refine wp_build_el1 rowC _ rfl (goneC K) rfl (by decide) ?_
 intro y1 o1 b1 z1
 have HY1 : Hid (RvIn y1 p bv (.slice ad C.length cap) rv mv B C R M ∧ Below w.heap.size w y1 ∧ Has y1 w.heap.size K.k) := ⟨HRD.out.1.called b1, HRD.out.2.1.trans (b1.mono HRD.out.2.1.size), HRD.out.2.2.below b1 HRD.out.2.2.lt⟩
 have HO1 : Hid (Sl encC y1 (.slice (some ⟨W0.heap.size, 0, none⟩) 1 1) [goneC K]) := o1.slB
 refine hK.out _ _ (fun _ => ⟨RvC.mk HY1.out.1.blk, range_has HY1.out.2.2⟩) ?_
 clear hK K0 hHeld
 have hHeld : RvC y1 p bv (.slice ad C.length cap) rv mv ∧ y1.rangeAt w.heap.size 0 (bc K.k) := ⟨RvC.mk HY1.out.1.blk, range_has HY1.out.2.2⟩
 (try simp only [gs])
 clear o1 b1 z1
 refine wpAnyZ_ready (rs := [8]) (by kernel_rfl) (by simp) (AllReadyZ.cons rfl (fun K0 hK => ?_) AllReadyZ.nil)
 rw [if_pos (by rfl)]
 (try simp only [gs])
 refine wp_build_two _ _ rfl (.slice ad C.length cap) (.slice (some ⟨W0.heap.size, 0, none⟩) 1 1) rfl rfl C [goneC K] HY1.out.1.c HO1.out ?_
 intro y2 s2 b2
 have HY2 : Hid (RvIn y2 p bv (.slice ad C.length cap) rv mv B C R M ∧ Below w.heap.size w y2 ∧ Has y2 w.heap.size K.k) := ⟨HY1.out.1.called b2, HY1.out.2.1.trans (b2.mono HY1.out.2.1.size), HY1.out.2.2.below b2 HY1.out.2.2.lt⟩
 have hJ := rjoinN_calls y2 _ _ s2 (by simp) (by simp; have := HC.out; omega)
 refine hK.out _ _ (fun _ => ⟨RvC.mk HY2.out.1.blk, range_has HY2.out.2.2⟩) ?_
 clear hK K0 hHeld
 have hHeld : RvC y2 p bv (.slice ad C.length cap) rv mv ∧ y2.rangeAt w.heap.size 0 (bc K.k) := ⟨RvC.mk HY2.out.1.blk, range_has HY2.out.2.2⟩
 (try simp only [gs])
 clear s2 b2
 refine wpAnyZ_ready (rs := [9]) (by kernel_rfl) (by simp) (AllReadyZ.cons rfl (fun K0 hK => ?_) AllReadyZ.nil)
 rw [if_pos (by rfl)]
 (try simp only [gs])
 go_simp
 refine hJ.mono ?_
 clear hJ
 rintro e y3 ⟨v3, d, rfl, ⟨s3, n3⟩, i3, l3, b3⟩
 have HY3 : Hid (RvIn y3 p bv (.slice ad C.length cap) rv mv B C R M ∧ Below w.heap.size w y3 ∧ Has y3 w.heap.size K.k) := ⟨HY2.out.1.called b3, HY2.out.2.1.trans (b3.mono HY2.out.2.1.size), HY2.out.2.2.below b3 HY2.out.2.2.lt⟩
 have hfm : ([(Value.slice ad C.length cap, C), (.slice (some ⟨W0.heap.size, 0, none⟩) 1 1, [goneC K])] : List (Value × List Ch)).flatMap (·.2) = C ++ [goneC K] := by simp
 rw [hfm] at i3 l3
 have HD3 : Hid (JoinIs (C ++ [goneC K]) d ∧ d.length ≤ C.length + 1) := ⟨i3, by simpa using l3⟩
 refine hK.out _ _ (fun _ => ⟨RvC.mk HY3.out.1.blk, range_has HY3.out.2.2⟩) ?_
 clear hK K0 hHeld
 have hHeld : RvC y3 p bv (.slice ad C.length cap) rv mv ∧ y3.rangeAt w.heap.size 0 (bc K.k) := ⟨RvC.mk HY3.out.1.blk, range_has HY3.out.2.2⟩
 (try simp only [gs])
 clear i3 l3 b3 hfm
 have hb3 := HY3.out.1.blk
 have hf3 := frozen_of_row y3 p 1 _ _ hb3
 have hc3 : y3.cell? ⟨p, 1, none⟩ = some (.slice ad C.length cap) := (RvC.mk HY3.out.1.blk).c1
 obtain ⟨ad3, cap3, rfl, -, -, -, -⟩ := id s3
 have HN3 : Hid (NewV w.heap.size (.slice ad3 d.length cap3)) := fun g hg => Nat.le_trans HY2.out.2.1.size (n3 g hg)
 clear n3
 refine wpAnyZ_take (i := 10) (v := ?_) [11, 12] rfl (by kernel_rfl) (by kernel_rfl) (by kernel_rfl) (by kernel_rfl) (fun _ _ _ h => h) (Or.inl ⟨by rfl, ?_⟩) hHeld ?_
 case refine_2 => (intro w hSw; (try dsimp only at hSw); go_simp; try (with_reducible rfl))
 (try simp only [gs])
 refine wpAnyZ_take (i := 11) (v := ?_) [12] rfl (by kernel_rfl) (by kernel_rfl) (by kernel_rfl) (by kernel_rfl) (fun _ _ _ h => h) (Or.inl ⟨by rfl, ?_⟩) hHeld ?_
 case refine_2 => (intro w hSw; (try dsimp only at hSw); go_simp; try (with_reducible rfl))
 (try simp only [gs])
 refine wpAnyZ_ready (rs := [12]) (by kernel_rfl) (by simp) (AllReadyZ.cons rfl (fun K0 hK => ?_) AllReadyZ.nil)
 rw [if_pos (by rfl)]
 (try simp only [gs])
 go_simp
 refine hK.out _ _ (fun q => absurd q (by decide)) ?_
 clear hK K0
 (try simp only [gs])
 refine wpAnyZ_done (by kernel_rfl) ?_ _
 refine NoPanic.normal ?_
 have HF : Hid (RvIn (y3.setCell ⟨p, 1, none⟩ (.slice ad3 d.length cap3)) p bv (.slice ad3 d.length cap3) rv mv B d R M) := by
  refine RvIn.stored HY3.out.1 ?_ (fun g _ hne => heap_setCell_other _ _ _ _ hne) (by simp) s3 HY3.out.1.r HY3.out.1.m HPP.out
  rw [setCell_eq_setRow y3 p 1 _ _ _ _ hb3, setRow_heap y3 p _ _ _ _ hb3]
  rfl
 have HG : Hid (FrV (fun i => i = p) w (y3.setCell ⟨p, 1, none⟩ (.slice ad3 d.length cap3))) :=
  (FrV.of_below (S := fun i => i = p) HY3.out.2.1).trans (S' := fun i => i = p) ⟨⟨rfl, rfl, rfl, by simp, fun k hk => absurd hk (Nat.not_lt_zero k)⟩, fun i _ hn => heap_setCell_other _ _ _ _ hn⟩ (fun i e => .inl e)
 clear hHeld hf3 hc3 hb3
 generalize y3.setCell ⟨p, 1, none⟩ (.slice ad3 d.length cap3) = y4 at *
 go_wp2_with fail
 go_end0
 exact ⟨⟨_, rfl⟩, HG.out, _, d, HF.out, HN3.out, HD3.out⟩
end Go.Proofs.YtgicanpggndbeaaGreat
/- The document's View: Put. -/
namespace Go.Proofs.YtgicanpggndbeaaGreat
set_option linter.unusedVariables false
set_option maxRecDepth 100000
open Go.RowKit

set_option maxHeartbeats 4000000 in
theorem rvput_calls (w : World) (p : Nat) (bv cv rv mv : Value) (B : List Pa) (C : List Ch) (R : List Sp) (M : List (Value × List Ch)) (h : RvIn w p bv cv rv mv B C R M) (hp : ∀ g off n cap, mv = .slice (some ⟨g, off, none⟩) n cap → g ≠ p) (hC : C.length ≤ 1000) (c : Ch) (hg : c.g = false) (hv : okV c.v = true) :
    Calls Tryz.prog 20 #[.pointer (some ⟨p, 0, none⟩), kv c.k, .string (str c.v)] w fun e w' => e = .returned (.int .i64 0) ∧ FrV (fun i => i = p) w w' ∧ ∃ cv' d, RvIn w' p bv cv' rv mv B d R M ∧ NewV w.heap.size cv' ∧ JoinIs (C ++ [c]) d ∧ d.length ≤ C.length + 1 := by
 have b1 : Below w.heap.size w (w.alloc (.cells (bc c.k).toArray 29)) := (Below.refl _ w).alloc (Nat.le_refl _) _
 have HK : Hid (Has (w.alloc (.cells (bc c.k).toArray 29)) w.heap.size c.k) := Has.new w c.k c.h
 have HR0 : Hid (RvIn (w.alloc (.cells (bc c.k).toArray 29)) p bv cv rv mv B C R M ∧ Below w.heap.size w (w.alloc (.cells (bc c.k).toArray 29))) := ⟨h.called b1, b1⟩
 have hInfo : ∀ J : Kz, (Tryz.prog.info? 29).map (·.size) = some (bc J.k).length := fun J => by rw [bc_length, J.h]; exact Tryz.key_info
 have hlen : ((str c.v).size : Int) = (c.v.length : Int) := by rw [str_size]
 have hv1 : 1 ≤ c.v.length ∧ c.v.length ≤ 40 := by simpa [okV] using hv
 have hl1 : ¬ ((str c.v).size : Int) < 1 := by omega
 have hl2 : ¬ (40 : Int) < ((str c.v).size : Int) := by omega
 obtain ⟨ad, cap, rfl, hcap, hmax, -, -⟩ := id h.c
 have HC : Hid (C.length ≤ 1000) := hC
 have HPP : Hid (∀ g off n cap, mv = .slice (some ⟨g, off, none⟩) n cap → g ≠ p) := hp
 have HPW : Hid (p < w.heap.size) := h.lt
 clear b1 h hv hv1 hC hp
 go_enter Tryz.func20, Tryz.ntmps20
 go_upto_region 1 with fail
 generalize hW : w.alloc (.cells (bc c.k).toArray 29) = W at *
 have HKR : Hid (W.rangeAt w.heap.size 0 (bc c.kz.k)) := range_has HK.out
 have HRC : Hid (RvC W p bv (.slice ad C.length cap) rv mv) := ⟨HR0.out.1.blk⟩
 go_upto_region 3 with fail
 refine wp_region_noPanic ?_
 refine wp_region_held_drew (S := (fun yy => yy.rangeAt w.heap.size 0 (bc c.kz.k))) (by kernel_rfl) (HKR.out) (fun hHeld => ?_)
 refine tk (v := ?_) 0 rfl hHeld (Or.inl ⟨by rfl, ?_⟩) ?_
 case refine_2 => (intro w hSw; (try dsimp only at hSw); go_simp; try (with_reducible rfl))
 (try simp only [gs])
 refine tk (v := ?_) 1 rfl hHeld (Or.inl ⟨by rfl, ?_⟩) ?_
 case refine_2 => (intro w hSw; (try dsimp only at hSw); go_simp; try (with_reducible rfl))
 (try simp only [gs])
 refine tk (v := ?_) 2 rfl hHeld (Or.inl ⟨by rfl, ?_⟩) ?_
 case refine_2 => (intro w hSw; (try dsimp only at hSw); go_simp; try (with_reducible rfl))
 (try simp only [gs])
 refine tk (v := ?_) 3 rfl hHeld (Or.inl ⟨by rfl, ?_⟩) ?_
 case refine_2 => (intro w hSw; (try dsimp only at hSw); go_simp; try (with_reducible rfl))
 (try simp only [gs])
 refine tk 5 rfl hHeld (yieldsIf_load_mid (by rfl) _ _ rfl _ _ rfl _ _ (fun _ h => h) Tryz.underlying29 rfl (hInfo c.kz)) ?_
 (try simp only [gs])
 refine tk (v := ?_) 6 rfl hHeld (Or.inl ⟨by rfl, ?_⟩) ?_
 case refine_2 => (intro w hSw; (try dsimp only at hSw); go_simp; try (with_reducible rfl))
 (try simp only [gs])
 refine tk (v := .agg (encC.c c).toArray) 7 rfl hHeld (Or.inl ⟨by rfl, fun w _ => exec_build rfl (by simp only [List.map_toArray, List.map_cons, List.map_nil]; exact built_put c hg) w⟩) ?_
 (try simp only [gs])
 have HRD : Hid (RvIn W.drew p bv (.slice ad C.length cap) rv mv B C R M ∧ Below w.heap.size w W.drew ∧ Has W.drew w.heap.size c.k) := ⟨HR0.out.1.called ⟨rfl, rfl, rfl, Nat.le_refl _, fun _ _ => rfl⟩, HR0.out.2.trans ⟨rfl, rfl, rfl, Nat.le_refl _, fun _ _ => rfl⟩, ⟨HK.out.len, HK.out.blk⟩⟩
 clear hHeld HRC HKR
 generalize W.drew = W0 at *
 have hc4 : W0.cell? ⟨p, 1, none⟩ = some (.slice ad C.length cap) := (RvC.mk HRD.out.1.blk).c1
 refine wpAnyH_ready (rs := [4, 8]) (by kernel_rfl) (by simp) (AllReadyH.cons rfl (fun K0 hK => ?_) (AllReadyH.cons rfl (fun K0 hK => ?_) AllReadyH.nil))
 · rw [if_pos (by rfl)]
   (try simp only [gs])
   go_simp
   refine hK.out _ _ (range_has HRD.out.2.2) (fun g0 => ?_)
   clear hK K0 hc4 g0
   (try simp only [gs])
   refine wpAnyH_ready (rs := [8]) (by kernel_rfl) (by simp) (AllReadyH.cons rfl (fun K0 hK => ?_) AllReadyH.nil)
   rw [if_pos (by rfl)]
   (try simp only [gs])
   refine wp_build_el1 rowC _ rfl c rfl (by decide) ?_
   intro y1 o1 b1 z1
   have HY1 : Hid (RvIn y1 p bv (.slice ad C.length cap) rv mv B C R M ∧ Below w.heap.size w y1 ∧ Has y1 w.heap.size c.k) := ⟨HRD.out.1.called b1, HRD.out.2.1.trans (b1.mono HRD.out.2.1.size), HRD.out.2.2.below b1 HRD.out.2.2.lt⟩
   have HO1 : Hid (Sl encC y1 (.slice (some ⟨W0.heap.size, 0, none⟩) 1 1) [c]) := o1.slB
   refine hK.out _ _ (range_has HY1.out.2.2) (fun g1 => ?_)
   clear hK K0 o1 b1 z1
   (try simp only [gs])
   refine wpAnyH_ready (rs := [9]) (by kernel_rfl) (by simp) (AllReadyH.cons rfl (fun K0 hK => ?_) AllReadyH.nil)
   rw [if_pos (by rfl)]
   (try simp only [gs])
   refine wp_build_two _ _ rfl (.slice ad C.length cap) (.slice (some ⟨W0.heap.size, 0, none⟩) 1 1) rfl rfl C [c] HY1.out.1.c HO1.out ?_
   intro y2 s2 b2
   have HY2 : Hid (RvIn y2 p bv (.slice ad C.length cap) rv mv B C R M ∧ Below w.heap.size w y2 ∧ Has y2 w.heap.size c.k) := ⟨HY1.out.1.called b2, HY1.out.2.1.trans (b2.mono HY1.out.2.1.size), HY1.out.2.2.below b2 HY1.out.2.2.lt⟩
   have hJ := rjoinN_calls y2 _ _ s2 (by simp) (by simp; have := HC.out; omega)
   refine hK.out _ _ (range_has HY2.out.2.2) (fun g2 => ?_)
   clear hK K0 s2 b2 g1
   (try simp only [gs])
   refine wpAnyH_ready (rs := [10]) (by kernel_rfl) (by simp) (AllReadyH.cons rfl (fun K0 hK => ?_) AllReadyH.nil)
   rw [if_pos (by rfl)]
   (try simp only [gs])
   go_simp
   refine hJ.mono ?_
   clear hJ
   rintro e y3 ⟨v3, d, rfl, ⟨s3, n3⟩, i3, l3, b3⟩
   have HY3 : Hid (RvIn y3 p bv (.slice ad C.length cap) rv mv B C R M ∧ Below w.heap.size w y3 ∧ Has y3 w.heap.size c.k) := ⟨HY2.out.1.called b3, HY2.out.2.1.trans (b3.mono HY2.out.2.1.size), HY2.out.2.2.below b3 HY2.out.2.2.lt⟩
   have hfm : ([(Value.slice ad C.length cap, C), (.slice (some ⟨W0.heap.size, 0, none⟩) 1 1, [c])] : List (Value × List Ch)).flatMap (·.2) = C ++ [c] := by simp
   rw [hfm] at i3 l3
   have HD3 : Hid (JoinIs (C ++ [c]) d ∧ d.length ≤ C.length + 1) := ⟨i3, by simpa using l3⟩
   refine hK.out _ _ (range_has HY3.out.2.2) (fun g3 => ?_)
   clear hK K0 g2 i3 l3 b3 hfm
   (try simp only [gs])
   have hHeld : y3.rangeAt w.heap.size 0 (bc c.kz.k) := range_has HY3.out.2.2
   have hb3 := HY3.out.1.blk
   have hc3 : y3.cell? ⟨p, 1, none⟩ = some (.slice ad C.length cap) := (RvC.mk HY3.out.1.blk).c1
   have hf3 := frozen_of_row y3 p 1 _ _ hb3
   obtain ⟨ad3, cap3, rfl, -, -, -, -⟩ := id s3
   have HN3 : Hid (NewV w.heap.size (.slice ad3 d.length cap3)) := fun g hg => Nat.le_trans HY2.out.2.1.size (n3 g hg)
   clear n3
   refine tk (v := ?_) 11 rfl hHeld (Or.inl ⟨by rfl, ?_⟩) ?_
   case refine_2 => (intro w hSw; (try dsimp only at hSw); go_simp; try (with_reducible rfl))
   (try simp only [gs])
   refine tk (v := ?_) 12 rfl hHeld (Or.inl ⟨by rfl, ?_⟩) ?_
   case refine_2 => (intro w hSw; (try dsimp only at hSw); go_simp; try (with_reducible rfl))
   (try simp only [gs])
   refine wpAnyH_ready (rs := [13]) (by kernel_rfl) (by simp) (AllReadyH.cons rfl (fun K0 hK => ?_) AllReadyH.nil)
   rw [if_pos (by rfl)]
   (try simp only [gs])
   go_simp
   have hq4 : (y3.setCell ⟨p, 1, none⟩ (.slice ad3 d.length cap3)).heap[w.heap.size]? = y3.heap[w.heap.size]? := heap_setCell_other _ _ _ _ (show w.heap.size ≠ p from Nat.ne_of_gt HPW.out)
   refine hK.out _ _ (range_same' hHeld hq4) (fun g4 => ?_)
   clear hK K0
   (try simp only [gs])
   refine wpAnyH_done (by kernel_rfl) ?_ _
   refine NoPanic.normal ?_
   have HF : Hid (RvIn (y3.setCell ⟨p, 1, none⟩ (.slice ad3 d.length cap3)) p bv (.slice ad3 d.length cap3) rv mv B d R M) := by
    refine RvIn.stored HY3.out.1 ?_ (fun g _ hne => heap_setCell_other _ _ _ _ hne) (by simp) s3 HY3.out.1.r HY3.out.1.m HPP.out
    rw [setCell_eq_setRow y3 p 1 _ _ _ _ hb3, setRow_heap y3 p _ _ _ _ hb3]
    rfl
   have HG : Hid (FrV (fun i => i = p) w (y3.setCell ⟨p, 1, none⟩ (.slice ad3 d.length cap3))) :=
    (FrV.of_below (S := fun i => i = p) HY3.out.2.1).trans (S' := fun i => i = p) ⟨⟨rfl, rfl, rfl, by simp, fun k hk => absurd hk (Nat.not_lt_zero k)⟩, fun i _ hn => heap_setCell_other _ _ _ _ hn⟩ (fun i e => .inl e)
   clear g4 hHeld hq4 hf3 hc3 hb3
   generalize y3.setCell ⟨p, 1, none⟩ (.slice ad3 d.length cap3) = y4 at *
   go_wp2_with fail
   go_ret
   exact ⟨rfl, HG.out, _, d, HF.out, HN3.out, HD3.out⟩
 · clear hc4
   rw [if_pos (by rfl)]
   (try simp only [gs])
   refine wp_build_el1 rowC _ rfl c rfl (by decide) ?_
   intro y1 o1 b1 z1
   have HY1 : Hid (RvIn y1 p bv (.slice ad C.length cap) rv mv B C R M ∧ Below w.heap.size w y1 ∧ Has y1 w.heap.size c.k) := ⟨HRD.out.1.called b1, HRD.out.2.1.trans (b1.mono HRD.out.2.1.size), HRD.out.2.2.below b1 HRD.out.2.2.lt⟩
   have HO1 : Hid (Sl encC y1 (.slice (some ⟨W0.heap.size, 0, none⟩) 1 1) [c]) := o1.slB
   refine hK.out _ _ (range_has HY1.out.2.2) (fun g1 => ?_)
   clear hK K0 o1 b1 z1
   (try simp only [gs])
   have hc4 : y1.cell? ⟨p, 1, none⟩ = some (.slice ad C.length cap) := (RvC.mk HY1.out.1.blk).c1
   refine wpAnyH_ready (rs := [4]) (by kernel_rfl) (by simp) (AllReadyH.cons rfl (fun K0 hK => ?_) AllReadyH.nil)
   rw [if_pos (by rfl)]
   (try simp only [gs])
   go_simp
   refine hK.out _ _ (range_has HY1.out.2.2) (fun g0 => ?_)
   clear hK K0 hc4 g0
   (try simp only [gs])
   refine wpAnyH_ready (rs := [9]) (by kernel_rfl) (by simp) (AllReadyH.cons rfl (fun K0 hK => ?_) AllReadyH.nil)
   rw [if_pos (by rfl)]
   (try simp only [gs])
   refine wp_build_two _ _ rfl (.slice ad C.length cap) (.slice (some ⟨W0.heap.size, 0, none⟩) 1 1) rfl rfl C [c] HY1.out.1.c HO1.out ?_
   intro y2 s2 b2
   have HY2 : Hid (RvIn y2 p bv (.slice ad C.length cap) rv mv B C R M ∧ Below w.heap.size w y2 ∧ Has y2 w.heap.size c.k) := ⟨HY1.out.1.called b2, HY1.out.2.1.trans (b2.mono HY1.out.2.1.size), HY1.out.2.2.below b2 HY1.out.2.2.lt⟩
   have hJ := rjoinN_calls y2 _ _ s2 (by simp) (by simp; have := HC.out; omega)
   refine hK.out _ _ (range_has HY2.out.2.2) (fun g2 => ?_)
   clear hK K0 s2 b2 g1
   (try simp only [gs])
   refine wpAnyH_ready (rs := [10]) (by kernel_rfl) (by simp) (AllReadyH.cons rfl (fun K0 hK => ?_) AllReadyH.nil)
   rw [if_pos (by rfl)]
   (try simp only [gs])
   go_simp
   refine hJ.mono ?_
   clear hJ
   rintro e y3 ⟨v3, d, rfl, ⟨s3, n3⟩, i3, l3, b3⟩
   have HY3 : Hid (RvIn y3 p bv (.slice ad C.length cap) rv mv B C R M ∧ Below w.heap.size w y3 ∧ Has y3 w.heap.size c.k) := ⟨HY2.out.1.called b3, HY2.out.2.1.trans (b3.mono HY2.out.2.1.size), HY2.out.2.2.below b3 HY2.out.2.2.lt⟩
   have hfm : ([(Value.slice ad C.length cap, C), (.slice (some ⟨W0.heap.size, 0, none⟩) 1 1, [c])] : List (Value × List Ch)).flatMap (·.2) = C ++ [c] := by simp
   rw [hfm] at i3 l3
   have HD3 : Hid (JoinIs (C ++ [c]) d ∧ d.length ≤ C.length + 1) := ⟨i3, by simpa using l3⟩
   refine hK.out _ _ (range_has HY3.out.2.2) (fun g3 => ?_)
   clear hK K0 g2 i3 l3 b3 hfm
   (try simp only [gs])
   have hHeld : y3.rangeAt w.heap.size 0 (bc c.kz.k) := range_has HY3.out.2.2
   have hb3 := HY3.out.1.blk
   have hc3 : y3.cell? ⟨p, 1, none⟩ = some (.slice ad C.length cap) := (RvC.mk HY3.out.1.blk).c1
   have hf3 := frozen_of_row y3 p 1 _ _ hb3
   obtain ⟨ad3, cap3, rfl, -, -, -, -⟩ := id s3
   have HN3 : Hid (NewV w.heap.size (.slice ad3 d.length cap3)) := fun g hg => Nat.le_trans HY2.out.2.1.size (n3 g hg)
   clear n3
   refine tk (v := ?_) 11 rfl hHeld (Or.inl ⟨by rfl, ?_⟩) ?_
   case refine_2 => (intro w hSw; (try dsimp only at hSw); go_simp; try (with_reducible rfl))
   (try simp only [gs])
   refine tk (v := ?_) 12 rfl hHeld (Or.inl ⟨by rfl, ?_⟩) ?_
   case refine_2 => (intro w hSw; (try dsimp only at hSw); go_simp; try (with_reducible rfl))
   (try simp only [gs])
   refine wpAnyH_ready (rs := [13]) (by kernel_rfl) (by simp) (AllReadyH.cons rfl (fun K0 hK => ?_) AllReadyH.nil)
   rw [if_pos (by rfl)]
   (try simp only [gs])
   go_simp
   have hq4 : (y3.setCell ⟨p, 1, none⟩ (.slice ad3 d.length cap3)).heap[w.heap.size]? = y3.heap[w.heap.size]? := heap_setCell_other _ _ _ _ (show w.heap.size ≠ p from Nat.ne_of_gt HPW.out)
   refine hK.out _ _ (range_same' hHeld hq4) (fun g4 => ?_)
   clear hK K0
   (try simp only [gs])
   refine wpAnyH_done (by kernel_rfl) ?_ _
   refine NoPanic.normal ?_
   have HF : Hid (RvIn (y3.setCell ⟨p, 1, none⟩ (.slice ad3 d.length cap3)) p bv (.slice ad3 d.length cap3) rv mv B d R M) := by
    refine RvIn.stored HY3.out.1 ?_ (fun g _ hne => heap_setCell_other _ _ _ _ hne) (by simp) s3 HY3.out.1.r HY3.out.1.m HPP.out
    rw [setCell_eq_setRow y3 p 1 _ _ _ _ hb3, setRow_heap y3 p _ _ _ _ hb3]
    rfl
   have HG : Hid (FrV (fun i => i = p) w (y3.setCell ⟨p, 1, none⟩ (.slice ad3 d.length cap3))) :=
    (FrV.of_below (S := fun i => i = p) HY3.out.2.1).trans (S' := fun i => i = p) ⟨⟨rfl, rfl, rfl, by simp, fun k hk => absurd hk (Nat.not_lt_zero k)⟩, fun i _ hn => heap_setCell_other _ _ _ _ hn⟩ (fun i e => .inl e)
   clear g4 hHeld hq4 hf3 hc3 hb3
   generalize y3.setCell ⟨p, 1, none⟩ (.slice ad3 d.length cap3) = y4 at *
   go_wp2_with fail
   go_ret
   exact ⟨rfl, HG.out, _, d, HF.out, HN3.out, HD3.out⟩
end Go.Proofs.YtgicanpggndbeaaGreat
/- The document's View: Mark. -/
namespace Go.Proofs.YtgicanpggndbeaaGreat
set_option linter.unusedVariables false
set_option maxRecDepth 100000
open Go.RowKit

end Go.Proofs.YtgicanpggndbeaaGreat
