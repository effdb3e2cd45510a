import Derived.Test.YtdmindhjmjnagaaGreatDoorSi
import Derived.Test.YtdmindhjmjnagaaGreatDoorB01
import Derived.Test.YtdmindhjmjnagaaGreatDoorB39
import Derived.Test.YtdmindhjmjnagaaGreatDoorB38
import Derived.Test.YtdmindhjmjnagaaGreatDoorB03
import Derived.Test.YtdmindhjmjnagaaGreatDoorB23
/- Rvp Rvm X3R -/
namespace Go.Proofs.YtdmindhjmjnagaaGreatDoor
set_option linter.unusedVariables false
set_option maxRecDepth 1000000
set_option maxHeartbeats 32000000
section
open Go.RowKit
theorem rvput_calls (w : World) (p : Nat) (bv cv rv mv : Value) (B : List Pa) (C : List Ch) (R : List Sp) (M : List (Value × List Ch)) (h : RvIn w p bv cv rv mv B C R M) (hp : ∀ g off n cap, mv = .slice (some ⟨g, off, none⟩) n cap → g ≠ p) (hC : C.length ≤ 1000) (c : Ch) (hg : c.g = false) (hv : okV c.v = true) :
    Calls Tryz.prog 80 #[.pointer (some ⟨p, 0, none⟩), kv c.k, .string (str c.v)] w fun e w' => e = .returned (.int .i64 0) ∧ FrV (fun i => i = p) w w' ∧ ∃ cv' d, RvIn w' p bv cv' rv mv B d R M ∧ NewV w.heap.size cv' ∧ JoinIs (C ++ [c]) d ∧ d.length ≤ C.length + 1 := by
 have b1 : Below w.heap.size w (w.alloc (.cells (bc c.k).toArray 54)) := (Below.refl _ w).alloc (Nat.le_refl _) _
 have HK : Hid (Has (w.alloc (.cells (bc c.k).toArray 54)) w.heap.size c.k) := Has.new w c.k c.h
 have HR0 : Hid (RvIn (w.alloc (.cells (bc c.k).toArray 54)) p bv cv rv mv B C R M ∧ Below w.heap.size w (w.alloc (.cells (bc c.k).toArray 54))) := ⟨h.called b1, b1⟩
 have hInfo : ∀ J : Kz, (Tryz.prog.info? 54).map (·.size) = some (bc J.k).length := fun J => by rw [bc_length, J.h]; exact Tryz.key_info
 have hlen : ((str c.v).size : Int) = (c.v.length : Int) := by rw [str_size]
 have hv1 : 1 ≤ c.v.length ∧ c.v.length ≤ 40 := by simpa [okV] using hv
 have hl1 : ¬ ((str c.v).size : Int) < 1 := by omega
 have hl2 : ¬ (40 : Int) < ((str c.v).size : Int) := by omega
 obtain ⟨ad, cap, rfl, hcap, hmax, -, -⟩ := id h.c
 have HC : Hid (C.length ≤ 1000) := hC
 have HPP : Hid (∀ g off n cap, mv = .slice (some ⟨g, off, none⟩) n cap → g ≠ p) := hp
 have HPW : Hid (p < w.heap.size) := h.lt
 clear b1 h hv hv1 hC hp
 go_enter Tryz.func80, Tryz.ntmps80
 go_upto_region 1 with fail
 generalize hW : w.alloc (.cells (bc c.k).toArray 54) = W at *
 have HKR : Hid (W.rangeAt w.heap.size 0 (bc c.kz.k)) := range_has HK.out
 have HRC : Hid (RvC W p bv (.slice ad C.length cap) rv mv) := ⟨HR0.out.1.blk⟩
 go_upto_region 3 with fail
 refine wp_region_noPanic ?_
 refine wp_region_held_drew (S := (fun yy => yy.rangeAt w.heap.size 0 (bc c.kz.k))) (by kernel_rfl) (HKR.out) (fun hh => ?_)
 refine tl ?_ 0 rfl hh ⟨by rfl, ?_⟩ ?_
 case refine_2 => (intro w hSw; go_simp; try with_reducible rfl)
 (try simp only [gs])
 refine tl ?_ 1 rfl hh ⟨by rfl, ?_⟩ ?_
 case refine_2 => (intro w hSw; go_simp; try with_reducible rfl)
 (try simp only [gs])
 refine tl ?_ 2 rfl hh ⟨by rfl, ?_⟩ ?_
 case refine_2 => (intro w hSw; go_simp; try with_reducible rfl)
 (try simp only [gs])
 refine tl ?_ 3 rfl hh ⟨by rfl, ?_⟩ ?_
 case refine_2 => (intro w hSw; go_simp; try with_reducible rfl)
 (try simp only [gs])
 refine tk 5 rfl hh (yieldsIf_load_mid (by rfl) _ _ rfl _ _ rfl _ _ (fun _ h => h) Tryz.underlying54 rfl (hInfo c.kz)) ?_
 (try simp only [gs])
 refine tl ?_ 6 rfl hh ⟨by rfl, ?_⟩ ?_
 case refine_2 => (intro w hSw; go_simp; try with_reducible rfl)
 (try simp only [gs])
 refine tk (v := .agg (encC.c c).toArray) 7 rfl hh (Or.inl ⟨by rfl, fun w _ => exec_build rfl (by simp only [List.map_toArray, List.map_cons, List.map_nil]; exact built_put c hg) w⟩) ?_
 (try simp only [gs])
 have HRD : Hid (RvIn W.drew p bv (.slice ad C.length cap) rv mv B C R M ∧ Below w.heap.size w W.drew ∧ Has W.drew w.heap.size c.k) := ⟨HR0.out.1.called ⟨rfl, rfl, rfl, Nat.le_refl _, fun _ _ => rfl⟩, HR0.out.2.trans ⟨rfl, rfl, rfl, Nat.le_refl _, fun _ _ => rfl⟩, ⟨HK.out.len, HK.out.blk⟩⟩
 clear hh HRC HKR
 generalize W.drew = W0 at *
 have hc4 : W0.cell? ⟨p, 1, none⟩ = some (.slice ad C.length cap) := (RvC.mk HRD.out.1.blk).c1
 refine wpAnyH_ready (rs := [4, 8]) (by kernel_rfl) (by simp) (AllReadyH.cons rfl (fun K0 hK => ?_) (AllReadyH.cons rfl (fun K0 hK => ?_) AllReadyH.nil))
 · rw [if_pos (by rfl)]
   (try simp only [gs])
   go_simp
   refine hK.out _ _ (range_has HRD.out.2.2) (fun g0 => ?_)
   clear hK K0 hc4 g0
   (try simp only [gs])
   refine wpAnyH_ready (rs := [8]) (by kernel_rfl) (by simp) (AllReadyH.cons rfl (fun K0 hK => ?_) AllReadyH.nil)
   rw [if_pos (by rfl)]
   (try simp only [gs])
   refine wp_build_el1 rowC _ rfl c rfl (by decide) ?_
   intro y1 o1 b1 z1
   have HY1 : Hid (RvIn y1 p bv (.slice ad C.length cap) rv mv B C R M ∧ Below w.heap.size w y1 ∧ Has y1 w.heap.size c.k) := ⟨HRD.out.1.called b1, HRD.out.2.1.trans (b1.mono HRD.out.2.1.size), HRD.out.2.2.below b1 HRD.out.2.2.lt⟩
   have HO1 : Hid (Sl encC y1 (.slice (some ⟨W0.heap.size, 0, none⟩) 1 1) [c]) := o1.slB
   refine hK.out _ _ (range_has HY1.out.2.2) (fun g1 => ?_)
   clear hK K0 o1 b1 z1
   (try simp only [gs])
   refine wpAnyH_ready (rs := [9]) (by kernel_rfl) (by simp) (AllReadyH.cons rfl (fun K0 hK => ?_) AllReadyH.nil)
   rw [if_pos (by rfl)]
   (try simp only [gs])
   refine wp_build_two _ _ rfl (.slice ad C.length cap) (.slice (some ⟨W0.heap.size, 0, none⟩) 1 1) rfl rfl C [c] HY1.out.1.c HO1.out ?_
   intro y2 s2 b2
   have HY2 : Hid (RvIn y2 p bv (.slice ad C.length cap) rv mv B C R M ∧ Below w.heap.size w y2 ∧ Has y2 w.heap.size c.k) := ⟨HY1.out.1.called b2, HY1.out.2.1.trans (b2.mono HY1.out.2.1.size), HY1.out.2.2.below b2 HY1.out.2.2.lt⟩
   have hJ := rjoinN_calls y2 _ _ s2 (by simp) (by simp; have := HC.out; omega)
   refine hK.out _ _ (range_has HY2.out.2.2) (fun g2 => ?_)
   clear hK K0 s2 b2 g1
   (try simp only [gs])
   refine wpAnyH_ready (rs := [10]) (by kernel_rfl) (by simp) (AllReadyH.cons rfl (fun K0 hK => ?_) AllReadyH.nil)
   rw [if_pos (by rfl)]
   (try simp only [gs])
   go_simp
   refine hJ.mono ?_
   clear hJ
   rintro e y3 ⟨v3, d, rfl, ⟨s3, n3⟩, i3, l3, b3⟩
   have HY3 : Hid (RvIn y3 p bv (.slice ad C.length cap) rv mv B C R M ∧ Below w.heap.size w y3 ∧ Has y3 w.heap.size c.k) := ⟨HY2.out.1.called b3, HY2.out.2.1.trans (b3.mono HY2.out.2.1.size), HY2.out.2.2.below b3 HY2.out.2.2.lt⟩
   have hfm : ([(Value.slice ad C.length cap, C), (.slice (some ⟨W0.heap.size, 0, none⟩) 1 1, [c])] : List (Value × List Ch)).flatMap (·.2) = C ++ [c] := by simp
   rw [hfm] at i3 l3
   have HD3 : Hid (JoinIs (C ++ [c]) d ∧ d.length ≤ C.length + 1) := ⟨i3, by simpa using l3⟩
   refine hK.out _ _ (range_has HY3.out.2.2) (fun g3 => ?_)
   clear hK K0 g2 i3 l3 b3 hfm
   (try simp only [gs])
   have hh : y3.rangeAt w.heap.size 0 (bc c.kz.k) := range_has HY3.out.2.2
   have hb3 := HY3.out.1.blk
   have hc3 : y3.cell? ⟨p, 1, none⟩ = some (.slice ad C.length cap) := (RvC.mk HY3.out.1.blk).c1
   have hf3 := frozen_of_row y3 p 1 _ _ hb3
   obtain ⟨ad3, cap3, rfl, -, -, -, -⟩ := id s3
   have HN3 : Hid (NewV w.heap.size (.slice ad3 d.length cap3)) := fun g hg => Nat.le_trans HY2.out.2.1.size (n3 g hg)
   clear n3
   refine tl ?_ 11 rfl hh ⟨by rfl, ?_⟩ ?_
   case refine_2 => (intro w hSw; go_simp; try with_reducible rfl)
   (try simp only [gs])
   refine tl ?_ 12 rfl hh ⟨by rfl, ?_⟩ ?_
   case refine_2 => (intro w hSw; go_simp; try with_reducible rfl)
   (try simp only [gs])
   refine wpAnyH_ready (rs := [13]) (by kernel_rfl) (by simp) (AllReadyH.cons rfl (fun K0 hK => ?_) AllReadyH.nil)
   rw [if_pos (by rfl)]
   (try simp only [gs])
   go_simp
   have hq4 : (y3.setCell ⟨p, 1, none⟩ (.slice ad3 d.length cap3)).heap[w.heap.size]? = y3.heap[w.heap.size]? := heap_setCell_other _ _ _ _ (show w.heap.size ≠ p from Nat.ne_of_gt HPW.out)
   refine hK.out _ _ (range_same' hh hq4) (fun g4 => ?_)
   clear hK K0
   (try simp only [gs])
   refine wpAnyH_done (by kernel_rfl) ?_ _
   refine NoPanic.normal ?_
   have HF : Hid (RvIn (y3.setCell ⟨p, 1, none⟩ (.slice ad3 d.length cap3)) p bv (.slice ad3 d.length cap3) rv mv B d R M) := by
    refine RvIn.stored HY3.out.1 ?_ (fun g _ hne => heap_setCell_other _ _ _ _ hne) (by simp) s3 HY3.out.1.r HY3.out.1.m HPP.out
    rw [setCell_eq_setRow y3 p 1 _ _ _ _ hb3, setRow_heap y3 p _ _ _ _ hb3]
    rfl
   have HG : Hid (FrV (fun i => i = p) w (y3.setCell ⟨p, 1, none⟩ (.slice ad3 d.length cap3))) :=
    (FrV.of_below (S := fun i => i = p) HY3.out.2.1).trans (S' := fun i => i = p) ⟨⟨rfl, rfl, rfl, by simp, fun k hk => absurd hk (Nat.not_lt_zero k)⟩, fun i _ hn => heap_setCell_other _ _ _ _ hn⟩ (fun i e => .inl e)
   clear g4 hh hq4 hf3 hc3 hb3
   generalize y3.setCell ⟨p, 1, none⟩ (.slice ad3 d.length cap3) = y4 at *
   go_wp2_with fail
   go_ret
   exact ⟨rfl, HG.out, _, d, HF.out, HN3.out, HD3.out⟩
 · clear hc4
   rw [if_pos (by rfl)]
   (try simp only [gs])
   refine wp_build_el1 rowC _ rfl c rfl (by decide) ?_
   intro y1 o1 b1 z1
   have HY1 : Hid (RvIn y1 p bv (.slice ad C.length cap) rv mv B C R M ∧ Below w.heap.size w y1 ∧ Has y1 w.heap.size c.k) := ⟨HRD.out.1.called b1, HRD.out.2.1.trans (b1.mono HRD.out.2.1.size), HRD.out.2.2.below b1 HRD.out.2.2.lt⟩
   have HO1 : Hid (Sl encC y1 (.slice (some ⟨W0.heap.size, 0, none⟩) 1 1) [c]) := o1.slB
   refine hK.out _ _ (range_has HY1.out.2.2) (fun g1 => ?_)
   clear hK K0 o1 b1 z1
   (try simp only [gs])
   have hc4 : y1.cell? ⟨p, 1, none⟩ = some (.slice ad C.length cap) := (RvC.mk HY1.out.1.blk).c1
   refine wpAnyH_ready (rs := [4]) (by kernel_rfl) (by simp) (AllReadyH.cons rfl (fun K0 hK => ?_) AllReadyH.nil)
   rw [if_pos (by rfl)]
   (try simp only [gs])
   go_simp
   refine hK.out _ _ (range_has HY1.out.2.2) (fun g0 => ?_)
   clear hK K0 hc4 g0
   (try simp only [gs])
   refine wpAnyH_ready (rs := [9]) (by kernel_rfl) (by simp) (AllReadyH.cons rfl (fun K0 hK => ?_) AllReadyH.nil)
   rw [if_pos (by rfl)]
   (try simp only [gs])
   refine wp_build_two _ _ rfl (.slice ad C.length cap) (.slice (some ⟨W0.heap.size, 0, none⟩) 1 1) rfl rfl C [c] HY1.out.1.c HO1.out ?_
   intro y2 s2 b2
   have HY2 : Hid (RvIn y2 p bv (.slice ad C.length cap) rv mv B C R M ∧ Below w.heap.size w y2 ∧ Has y2 w.heap.size c.k) := ⟨HY1.out.1.called b2, HY1.out.2.1.trans (b2.mono HY1.out.2.1.size), HY1.out.2.2.below b2 HY1.out.2.2.lt⟩
   have hJ := rjoinN_calls y2 _ _ s2 (by simp) (by simp; have := HC.out; omega)
   refine hK.out _ _ (range_has HY2.out.2.2) (fun g2 => ?_)
   clear hK K0 s2 b2 g1
   (try simp only [gs])
   refine wpAnyH_ready (rs := [10]) (by kernel_rfl) (by simp) (AllReadyH.cons rfl (fun K0 hK => ?_) AllReadyH.nil)
   rw [if_pos (by rfl)]
   (try simp only [gs])
   go_simp
   refine hJ.mono ?_
   clear hJ
   rintro e y3 ⟨v3, d, rfl, ⟨s3, n3⟩, i3, l3, b3⟩
   have HY3 : Hid (RvIn y3 p bv (.slice ad C.length cap) rv mv B C R M ∧ Below w.heap.size w y3 ∧ Has y3 w.heap.size c.k) := ⟨HY2.out.1.called b3, HY2.out.2.1.trans (b3.mono HY2.out.2.1.size), HY2.out.2.2.below b3 HY2.out.2.2.lt⟩
   have hfm : ([(Value.slice ad C.length cap, C), (.slice (some ⟨W0.heap.size, 0, none⟩) 1 1, [c])] : List (Value × List Ch)).flatMap (·.2) = C ++ [c] := by simp
   rw [hfm] at i3 l3
   have HD3 : Hid (JoinIs (C ++ [c]) d ∧ d.length ≤ C.length + 1) := ⟨i3, by simpa using l3⟩
   refine hK.out _ _ (range_has HY3.out.2.2) (fun g3 => ?_)
   clear hK K0 g2 i3 l3 b3 hfm
   (try simp only [gs])
   have hh : y3.rangeAt w.heap.size 0 (bc c.kz.k) := range_has HY3.out.2.2
   have hb3 := HY3.out.1.blk
   have hc3 : y3.cell? ⟨p, 1, none⟩ = some (.slice ad C.length cap) := (RvC.mk HY3.out.1.blk).c1
   have hf3 := frozen_of_row y3 p 1 _ _ hb3
   obtain ⟨ad3, cap3, rfl, -, -, -, -⟩ := id s3
   have HN3 : Hid (NewV w.heap.size (.slice ad3 d.length cap3)) := fun g hg => Nat.le_trans HY2.out.2.1.size (n3 g hg)
   clear n3
   refine tl ?_ 11 rfl hh ⟨by rfl, ?_⟩ ?_
   case refine_2 => (intro w hSw; go_simp; try with_reducible rfl)
   (try simp only [gs])
   refine tl ?_ 12 rfl hh ⟨by rfl, ?_⟩ ?_
   case refine_2 => (intro w hSw; go_simp; try with_reducible rfl)
   (try simp only [gs])
   refine wpAnyH_ready (rs := [13]) (by kernel_rfl) (by simp) (AllReadyH.cons rfl (fun K0 hK => ?_) AllReadyH.nil)
   rw [if_pos (by rfl)]
   (try simp only [gs])
   go_simp
   have hq4 : (y3.setCell ⟨p, 1, none⟩ (.slice ad3 d.length cap3)).heap[w.heap.size]? = y3.heap[w.heap.size]? := heap_setCell_other _ _ _ _ (show w.heap.size ≠ p from Nat.ne_of_gt HPW.out)
   refine hK.out _ _ (range_same' hh hq4) (fun g4 => ?_)
   clear hK K0
   (try simp only [gs])
   refine wpAnyH_done (by kernel_rfl) ?_ _
   refine NoPanic.normal ?_
   have HF : Hid (RvIn (y3.setCell ⟨p, 1, none⟩ (.slice ad3 d.length cap3)) p bv (.slice ad3 d.length cap3) rv mv B d R M) := by
    refine RvIn.stored HY3.out.1 ?_ (fun g _ hne => heap_setCell_other _ _ _ _ hne) (by simp) s3 HY3.out.1.r HY3.out.1.m HPP.out
    rw [setCell_eq_setRow y3 p 1 _ _ _ _ hb3, setRow_heap y3 p _ _ _ _ hb3]
    rfl
   have HG : Hid (FrV (fun i => i = p) w (y3.setCell ⟨p, 1, none⟩ (.slice ad3 d.length cap3))) :=
    (FrV.of_below (S := fun i => i = p) HY3.out.2.1).trans (S' := fun i => i = p) ⟨⟨rfl, rfl, rfl, by simp, fun k hk => absurd hk (Nat.not_lt_zero k)⟩, fun i _ hn => heap_setCell_other _ _ _ _ hn⟩ (fun i e => .inl e)
   clear g4 hh hq4 hf3 hc3 hb3
   generalize y3.setCell ⟨p, 1, none⟩ (.slice ad3 d.length cap3) = y4 at *
   go_wp2_with fail
   go_ret
   exact ⟨rfl, HG.out, _, d, HF.out, HN3.out, HD3.out⟩
end
section
open Go.RowKit
end
section
open Go.RowKit
theorem r3number_calls (n : Int) (w : World) : Calls Tryz.prog 72 #[.int .i64 n] w fun e w' => e = .returned (.bool (decide (1 ≤ n ∧ n < 1073741824))) ∧ w' = w := by
 go_enter Tryz.func72, Tryz.ntmps72
 go_wp2
 all_goals (go_ret; exact ⟨by congr 2; rw [eq_comm]; simp; omega, rfl⟩)
theorem store_lit {ops : Array Oper} {rest : List Oper} {o : Oper} {a : Act} {w : World} {Q : Exit → Act → World → Prop} (hgd : o.guard = none) (x y : Operand) (ho : o.op = .store 54 x y) (b : Nat) (hx : a.eval x = .pointer (some ⟨b, 0, none⟩)) (C : Array Value) (hy : a.eval y = .agg C) (L : List UInt8) (hC : C = (bc L).toArray) (hL : L.length = 24) (K : List UInt8) (hK : Has w b K)
    (h : ∀ w', Has w' b L → Touch b none w w' → w'.heap.size = w.heap.size → wpList Tryz.prog ops Q rest (a.put o.dst undef) w') : wpList Tryz.prog ops Q (o :: rest) a w := by
 subst hC
 exact store_key hgd x y ho b hx L hy hL K hK h
theorem head_cells (n : Int) (h : 0 ≤ n) (k : UInt8) : #[Value.int .u8 (n / 16777216 % 256), .int .u8 (n / 65536 % 256), .int .u8 (n / 256 % 256), .int .u8 (n % 256), .int .u8 (k.toNat : Int), .int .u8 0, .int .u8 0, .int .u8 0, .int .u8 0, .int .u8 0, .int .u8 0, .int .u8 0, .int .u8 0, .int .u8 0, .int .u8 0, .int .u8 0, .int .u8 0, .int .u8 0, .int .u8 0, .int .u8 0, .int .u8 0, .int .u8 0, .int .u8 0, .int .u8 0] = (bc (headK n.toNat k)).toArray := by
 obtain ⟨m, rfl⟩ := Int.eq_ofNat_of_zero_le h
 have e0 : (m : Int) / 16777216 % 256 = ((UInt8.ofNat (m / 256 ^ 3)).toNat : Int) := by simp
 have e1 : (m : Int) / 65536 % 256 = ((UInt8.ofNat (m / 256 ^ 2)).toNat : Int) := by simp
 have e2 : (m : Int) / 256 % 256 = ((UInt8.ofNat (m / 256 ^ 1)).toNat : Int) := by simp
 have e3 : (m : Int) % 256 = ((UInt8.ofNat (m / 256 ^ 0)).toNat : Int) := by simp
 rw [e0, e1, e2, e3]
 rfl
theorem rhead_calls (n kk : Int) (k : UInt8) (hkk : (k.toNat : Int) = kk) (w : World) (h0 : 0 ≤ n) :
    Calls Tryz.prog 73 #[.int .i64 n, .int .i64 kk] w fun e w' => e = .returned (kv (headK n.toNat k)) ∧ Below w.heap.size w w' := by
 subst hkk
 have hk := k.toNat_lt
 go_enter Tryz.func73, Tryz.ntmps73
 go_wp2_with (refine store_lit rfl _ _ rfl _ rfl _ rfl _ (head_cells n h0 k) (headK_length _ _) (zs 24) (zero_has w w.heap.size rfl) ?_; intro w2 h2 t2 s2)
 refine ret_key rfl _ _ rfl h2 rfl ⟨rfl, ?_⟩
 exact below_touched (below_made (Below.refl _ w) (Nat.le_refl _) _) t2 (Nat.le_refl _) (Nat.le_refl _)
theorem rinode_calls (n : Int) (w : World) :
    Calls Tryz.prog 84 #[.int .i64 n] w fun e w' => e = .returned (.tuple #[kv (inodeR n), .bool (okN n)]) ∧ Below w.heap.size w w' := by
 by_cases hn : okN n = true
 · have h0 : 1 ≤ n ∧ n < 1073741824 := by simpa [okN] using hn
   go_enter Tryz.func84, Tryz.ntmps84
   go_wp2_with (first
    | (go_at_call 72; refine (r3number_calls n _).mono ?_; rintro e w1 ⟨rfl, rfl⟩)
    | (go_at_call 73; refine (rhead_calls n 1 1 (by decide) _ (by omega)).mono ?_; rintro e w1 ⟨rfl, b1⟩)
    | (refine store_key rfl _ _ rfl _ rfl _ rfl (headK_length _ _) (zs 24) ((zero_has w w.heap.size rfl).below b1 (by simp)) ?_; intro w2 h2 t2 s2))
   refine ret_key_ok rfl _ _ _ rfl rfl h2 rfl ⟨by rw [inodeR, if_pos hn, hn]; rfl, ?_⟩
   exact below_touched (below_called (below_made (Below.refl _ w) (Nat.le_refl _) _) b1 (Nat.le_refl _)) t2 (Nat.le_refl _) (Nat.le_refl _)
 · have hf : okN n = false := by simpa using hn
   have h0 : ¬ (1 ≤ n ∧ n < 1073741824) := by simpa [okN] using hn
   go_enter Tryz.func84, Tryz.ntmps84
   go_wp2_with (first
    | (go_at_call 72; refine (r3number_calls n _).mono ?_; rintro e w1 ⟨rfl, rfl⟩; rw [decide_eq_false h0])
    | (refine store_key rfl _ _ rfl _ rfl (zs 24) rfl (zs_length _) (zs 24) (zero_has w w.heap.size rfl) ?_; intro w2 h2 t2 s2))
   refine ret_key_ok rfl _ _ _ rfl rfl h2 rfl ⟨by rw [inodeR, hf]; rfl, ?_⟩
   exact below_touched (below_made (Below.refl _ w) (Nat.le_refl _) _) t2 (Nat.le_refl _) (Nat.le_refl _)
theorem Has.word {w : World} {b : Nat} {K : List UInt8} (h : Has w b K) (p : Int) (hp : 0 ≤ p) : Has ((((w.setCell ⟨b, 20, none⟩ (.int .u8 (p / 16777216 % 256))).setCell ⟨b, 21, none⟩ (.int .u8 (p / 65536 % 256))).setCell ⟨b, 22, none⟩ (.int .u8 (p / 256 % 256))).setCell ⟨b, 23, none⟩ (.int .u8 (p % 256))) b (K.take 20 ++ be p.toNat 4 ++ K.drop (20 + 4)) := by
 obtain ⟨m, rfl⟩ := Int.eq_ofNat_of_zero_le hp
 have e0 : (m : Int) / 16777216 % 256 = ((UInt8.ofNat (m / 256 ^ 3)).toNat : Int) := by simp
 have e1 : (m : Int) / 65536 % 256 = ((UInt8.ofNat (m / 256 ^ 2)).toNat : Int) := by simp
 have e2 : (m : Int) / 256 % 256 = ((UInt8.ofNat (m / 256 ^ 1)).toNat : Int) := by simp
 have e3 : (m : Int) % 256 = ((UInt8.ofNat (m / 256 ^ 0)).toNat : Int) := by simp
 rw [e0, e1, e2, e3]
 have hh := (((h.setCell 20 (UInt8.ofNat (m / 256 ^ 3))).setCell 21 (UInt8.ofNat (m / 256 ^ 2))).setCell 22 (UInt8.ofNat (m / 256 ^ 1))).setCell 23 (UInt8.ofNat (m / 256 ^ 0))
 rw [list_set4 K 20 _ _ _ _ (by rw [h.len]; omega)] at hh
 exact hh
theorem touch_word (w : World) (b : Nat) (x0 x1 x2 x3 : Value) : Touch b none w ((((w.setCell ⟨b, 20, none⟩ x0).setCell ⟨b, 21, none⟩ x1).setCell ⟨b, 22, none⟩ x2).setCell ⟨b, 23, none⟩ x3) := ((((Touch.refl _ _ _).setCell _ _).setCell _ _).setCell _ _).setCell _ _
theorem rchunk_calls (n p : Int) (w : World) :
    Calls Tryz.prog 34 #[.int .i64 n, .int .i64 p] w fun e w' => e = .returned (.tuple #[kv (chunkR n p), .bool (okN n && okP p)]) ∧ Below w.heap.size w w' := by
 by_cases hn1 : okN n = true
 · by_cases hn2 : okP p = true
   · have h0 : 1 ≤ n ∧ n < 1073741824 := by simpa [okN] using hn1
     have h1 : 0 ≤ p ∧ p ≤ 4294967295 := by simpa [okP] using hn2
     go_enter Tryz.func34, Tryz.ntmps34
     go_upto_region 4 with (first
      | (go_at_call 72; refine (r3number_calls n _).mono ?_; rintro e w1 ⟨rfl, rfl⟩)
      | (go_at_call 73; refine (rhead_calls n 3 3 (by decide) _ (by omega)).mono ?_; rintro e w1 ⟨rfl, b1⟩)
      | (refine store_key rfl _ _ rfl _ rfl _ rfl (headK_length _ _) (zs 24) (zero_has w1 w1.heap.size rfl) ?_; intro w2 h2 t2 s2))
     have hsb := b1.size
     simp at hsb
     have h3 := h2.word p h1.1
     rw [chunk_list] at h3
     have t3 := touch_word w2 w1.heap.size (.int .u8 (p / 16777216 % 256)) (.int .u8 (p / 65536 % 256)) (.int .u8 (p / 256 % 256)) (.int .u8 (p % 256))
     have c20 := h2.cell 20 (by omega); have f20 := h2.free 20
     have c21 := h2.cell 21 (by omega); have f21 := h2.free 21
     have c22 := h2.cell 22 (by omega); have f22 := h2.free 22
     have c23 := h2.cell 23 (by omega); have f23 := h2.free 23
     rw [show p / 16777216 % 256 = p / 16777216 by omega] at h3 t3
     go_upto_region 8 with fail
     go_wp2_with (first
      | (refine load_key _ rfl _ rfl rfl _ h3 ?_)
      | (refine store_key rfl _ _ rfl _ rfl _ rfl (chunkK_length _ _) (zs 24) (((((zero_has w w.heap.size rfl).below b1 (by simp)).alloc _).touch t2 (by omega)).touch t3 (by omega)) ?_; intro w4 h4 t4 s4))
     refine ret_key_ok rfl _ _ _ rfl rfl h4 rfl ⟨by rw [chunkR, hn1, hn2]; rfl, ?_⟩
     exact below_touched (below_touched (below_touched (below_made (below_called (below_made (Below.refl _ w) (Nat.le_refl _) _) b1 (Nat.le_refl _)) (Nat.le_refl _) _) t2 (by omega) (Nat.le_refl _)) t3 (by omega) (Nat.le_refl _)) t4 (Nat.le_refl _) (Nat.le_refl _)
   · have h0 : 1 ≤ n ∧ n < 1073741824 := by simpa [okN] using hn1
     have h1 : ¬ (0 ≤ p ∧ p ≤ 4294967295) := by simpa [okP] using hn2
     have hf : okP p = false := by simpa using hn2
     have HF : Hid ((okN n && okP p) = false) := by show _ = _; rw [hf]; simp
     clear hf hn2 hn1
     have hd : (decide (p < 0) || decide (4294967295 < p)) = true := by simp; omega
     go_enter Tryz.func34, Tryz.ntmps34
     go_wp2_with (first
      | (go_at_call 72; refine (r3number_calls n _).mono ?_; rintro e w1 ⟨rfl, rfl⟩)
      | (refine store_key rfl _ _ rfl _ rfl (zs 24) rfl (zs_length _) (zs 24) (zero_has w w.heap.size rfl) ?_; intro w2 h2 t2 s2))
     all_goals
      refine ret_key_ok rfl _ _ _ rfl rfl h2 rfl ⟨by rw [chunkR, HF.out]; rfl, ?_⟩
      exact below_touched (below_made (Below.refl _ w) (Nat.le_refl _) _) t2 (Nat.le_refl _) (Nat.le_refl _)
 · have h0 : ¬ (1 ≤ n ∧ n < 1073741824) := by simpa [okN] using hn1
   have hf : okN n = false := by simpa using hn1
   have HF : Hid ((okN n && okP p) = false) := by show _ = _; rw [hf]; simp
   clear hf hn1
   go_enter Tryz.func34, Tryz.ntmps34
   go_wp2_with (first
    | (go_at_call 72; refine (r3number_calls n _).mono ?_; rintro e w1 ⟨rfl, rfl⟩; rw [decide_eq_false h0])
    | (refine store_key rfl _ _ rfl _ rfl (zs 24) rfl (zs_length _) (zs 24) (zero_has w w.heap.size rfl) ?_; intro w2 h2 t2 s2))
   all_goals
    refine ret_key_ok rfl _ _ _ rfl rfl h2 rfl ⟨by rw [chunkR, HF.out]; rfl, ?_⟩
    exact below_touched (below_made (Below.refl _ w) (Nat.le_refl _) _) t2 (Nat.le_refl _) (Nat.le_refl _)
theorem r3set_snoc (l s : List UInt8) (k : Nat) (h : 5 + k < l.length) (hk : k < s.length) : (l.take 5 ++ s.take k ++ l.drop (5 + k)).set (5 + k) (s.getD k 0) = l.take 5 ++ s.take (k + 1) ++ l.drop (5 + (k + 1)) := by
 have h1 : (l.take 5 ++ s.take k).length = 5 + k := by simp; omega
 have h2 : l.drop (5 + k) = l[5 + k] :: l.drop (5 + k + 1) := List.drop_eq_getElem_cons h
 have h3 : s.take (k + 1) = s.take k ++ [s[k]] := List.take_succ_eq_append_getElem hk
 rw [List.set_append_right _ _ (by omega), h1, Nat.sub_self, h2, List.set_cons_zero, h3, List.getD_eq_getElem?_getD, List.getElem?_eq_getElem hk]
 simp only [Option.getD_some, List.append_assoc, List.cons_append, List.nil_append, Nat.add_assoc]
theorem rentry_calls (n : Int) (s : ByteArray) (w : World) :
    Calls Tryz.prog 85 #[.int .i64 n, .string s] w fun e w' => e = .returned (.tuple #[kv (entryR n s.data.toList), .bool (okN n && okS s.data.toList)]) ∧ Below w.heap.size w w' := by
 have hsz : s.data.toList.length = s.size := rfl
 by_cases hn1 : okN n = true
 · by_cases hl : 1 ≤ s.size ∧ s.size ≤ 18
   · have h0 : 1 ≤ n ∧ n < 1073741824 := by simpa [okN] using hn1
     have HN1 : Hid (okN n = true) := hn1
     clear hn1
     go_enter Tryz.func85, Tryz.ntmps85
     go_wp2_with (first
      | (go_at_call 72; refine (r3number_calls n _).mono ?_; rintro e w1 ⟨rfl, rfl⟩)
      | (go_at_call 73; refine (rhead_calls n 2 2 (by decide) _ (by omega)).mono ?_; rintro e w1 ⟨rfl, b1⟩)
      | (refine store_key rfl _ _ rfl _ rfl _ rfl (headK_length _ _) (zs 24) (zero_has w1 w1.heap.size rfl) ?_; intro w2 h2 t2 s2))
     have hsb := b1.size
     simp at hsb
     have hZ := (((zero_has w w.heap.size rfl).below b1 (by simp)).alloc (.cells #[.int .u8 0, .int .u8 0, .int .u8 0, .int .u8 0, .int .u8 0, .int .u8 0, .int .u8 0, .int .u8 0, .int .u8 0, .int .u8 0, .int .u8 0, .int .u8 0, .int .u8 0, .int .u8 0, .int .u8 0, .int .u8 0, .int .u8 0, .int .u8 0, .int .u8 0, .int .u8 0, .int .u8 0, .int .u8 0, .int .u8 0, .int .u8 0] 54)).touch t2 (by omega)
     have hB : Below w.heap.size w w2 := below_touched (below_made (below_called (below_made (Below.refl _ w) (Nat.le_refl _) _) b1 (Nat.le_refl _)) (Nat.le_refl _) _) t2 (by omega) (Nat.le_refl _)
     clear b1 t2 s2
     generalize w1.heap.size = q at *
     go_loopw [7] (fun i w' => ∃ k : Nat, k ≤ s.size ∧ i = .int .i64 (k : Int) ∧ Has w' q ((headK n.toNat 2).take 5 ++ s.data.toList.take k ++ (headK n.toNat 2).drop (5 + k)) ∧ Has w' w.heap.size (zs 24) ∧ Below w.heap.size w w' ∧ (0 : UInt8) ∉ s.data.toList.take k) (fun i _ => s.size - (intOf i).toNat)
     case atStart => exact ⟨0, Nat.zero_le _, rfl, by simpa using h2, hZ, hB, by simp⟩
     case round =>
      obtain ⟨k, hk, rfl, h3, h4, B3, hz⟩ := hrel
      clear h2 hZ hB
      by_cases hks : k < s.size
      · have hkl : k < s.data.toList.length := hks
        have hx : s.data.toList.getD k 0 = s[k] := by rw [List.getD_eq_getElem?_getD, List.getElem?_eq_getElem hkl]; rfl
        by_cases h0x : s[k] = 0
        · have hbad : okS s.data.toList = false := by
            rw [okS, decide_eq_false]
            intro h
            refine h.2.2 ?_
            rw [← h0x, ← hx, List.getD_eq_getElem?_getD, List.getElem?_eq_getElem hkl]
            exact List.getElem_mem hkl
          have HX : Hid (okS s.data.toList = false) := hbad
          clear hbad hx
          go_wp2_with (first
           | (refine store_key rfl _ _ rfl _ rfl (zs 24) rfl (zs_length _) (zs 24) h4 ?_; intro w5 h5 t5 s5))
          refine ret_key_ok rfl _ _ _ rfl rfl h5 rfl ⟨by rw [entryR, HX.out, Bool.and_false]; rfl, below_touched B3 t5 (Nat.le_refl _) (Nat.le_refl _)⟩
        · have h5 := h3.setCell (5 + k) (s.data.toList.getD k 0)
          rw [r3set_snoc _ _ _ (by rw [headK_length]; omega) hkl, hx] at h5
          have hz1 : (0 : UInt8) ∉ s.data.toList.take (k + 1) := by
           rw [List.take_succ_eq_append_getElem hkl, List.mem_append]
           rintro (h | h)
           · exact hz h
           · simp at h
             exact h0x h.symm
          have HZ1 : Hid ((0 : UInt8) ∉ s.data.toList.take (k + 1)) := hz1
          have H5 : Hid (Has (wr.setCell ⟨q, 5 + k, none⟩ (.int .u8 (s[k].toNat : Int))) q ((headK n.toNat 2).take 5 ++ s.data.toList.take (k + 1) ++ (headK n.toNat 2).drop (5 + (k + 1)))) := h5
          have c5 := h3.cell (5 + k) (by omega)
          have f5 := h3.free (5 + k)
          have hx1 : ¬ ((s[k].toNat : Nat) : Int) = 0 := by rw [u8_zero]; exact h0x
          clear hz1 h5 hx hz h0x
          go_wp2_with fail
          go_roundw
          case rel => exact ⟨k + 1, by omega, by go_num, H5.out, h4.setOther (by omega) _ _, B3.setCell (by simp; omega) _, HZ1.out⟩
          case measure => simp [intOf]; omega
      · have e : k = s.size := by omega
        subst e
        have etk : s.data.toList.take s.size = s.data.toList := List.take_of_length_le (by rw [hsz]; exact Nat.le_refl _)
        rw [etk] at hz h3
        have hok : okS s.data.toList = true := by
         rw [okS, decide_eq_true_iff]
         exact ⟨by omega, by omega, hz⟩
        have HOK : Hid (okS s.data.toList = true) := hok
        have c23 := h3.cell 23 (by omega)
        have f23 := h3.free 23
        have h5 := h3.setCell 23 (UInt8.ofNat s.data.toList.length)
        have e5 : ((UInt8.ofNat s.data.toList.length).toNat : Int) = (s.size : Int) := by rw [hsz, UInt8.toNat_ofNat']; omega
        rw [e5] at h5
        have e6 := entry_list n.toNat s.data.toList (by rw [hsz]; exact hl.2)
        rw [hsz] at e6
        rw [hsz, e6] at h5
        have H5 : Hid (Has (wr.setCell ⟨q, 23, none⟩ (.int .u8 (s.size : Int))) q (entryK n.toNat s.data.toList)) := h5
        have hl5 := h5.len
        clear hok h5 e5 e6 hz h3 etk
        go_upto_region 11 with fail
        go_wp2_with (first
         | (refine load_key _ rfl _ rfl rfl _ H5.out ?_)
         | (refine store_key rfl _ _ rfl _ rfl _ rfl hl5 (zs 24) (h4.setOther (by omega) _ _) ?_; intro w6 h6 t6 s6))
        refine ret_key_ok rfl _ _ _ rfl rfl h6 rfl ⟨by rw [entryR, HN1.out, HOK.out]; rfl, below_touched (B3.setCell (by simp; omega) _) t6 (Nat.le_refl _) (Nat.le_refl _)⟩
   · have hbad : okS s.data.toList = false := by
       rw [okS, decide_eq_false]
       intro h
       exact hl ⟨h.1, h.2.1⟩
     have HX : Hid (okS s.data.toList = false) := hbad
     have h0 : 1 ≤ n ∧ n < 1073741824 := by simpa [okN] using hn1
     have hd : (decide ((s.size : Int) < 1) || decide (18 < (s.size : Int))) = true := by simp; omega
     clear hbad hn1
     go_enter Tryz.func85, Tryz.ntmps85
     go_wp2_with (first
      | (go_at_call 72; refine (r3number_calls n _).mono ?_; rintro e w1 ⟨rfl, rfl⟩)
      | (refine store_key rfl _ _ rfl _ rfl (zs 24) rfl (zs_length _) (zs 24) (zero_has w w.heap.size rfl) ?_; intro w2 h2 t2 s2))
     all_goals
      refine ret_key_ok rfl _ _ _ rfl rfl h2 rfl ⟨by rw [entryR, HX.out, Bool.and_false]; rfl, ?_⟩
      exact below_touched (below_made (Below.refl _ w) (Nat.le_refl _) _) t2 (Nat.le_refl _) (Nat.le_refl _)
 · have h0 : ¬ (1 ≤ n ∧ n < 1073741824) := by simpa [okN] using hn1
   have hf : okN n = false := by simpa using hn1
   have HF : Hid ((okN n && okS s.data.toList) = false) := by show _ = _; rw [hf]; rfl
   clear hf hn1
   go_enter Tryz.func85, Tryz.ntmps85
   go_wp2_with (first
    | (go_at_call 72; refine (r3number_calls n _).mono ?_; rintro e w1 ⟨rfl, rfl⟩; rw [decide_eq_false h0])
    | (refine store_key rfl _ _ rfl _ rfl (zs 24) rfl (zs_length _) (zs 24) (zero_has w w.heap.size rfl) ?_; intro w2 h2 t2 s2))
   all_goals
    refine ret_key_ok rfl _ _ _ rfl rfl h2 rfl ⟨by rw [entryR, HF.out]; rfl, ?_⟩
    exact below_touched (below_made (Below.refl _ w) (Nat.le_refl _) _) t2 (Nat.le_refl _) (Nat.le_refl _)
end
end Go.Proofs.YtdmindhjmjnagaaGreatDoor
