import Derived.Test.YtgicanpggndbeaaGreatSi
import Derived.Test.YtgicanpggndbeaaGreatB01
import Derived.Test.YtgicanpggndbeaaGreatB27
import Derived.Test.YtgicanpggndbeaaGreatB04
import Derived.Test.YtgicanpggndbeaaGreatB07
import Derived.Test.YtgicanpggndbeaaGreatB11
/- dir: get, Find. -/
namespace Go.Proofs.YtgicanpggndbeaaGreat
set_option linter.unusedVariables false
set_option maxRecDepth 100000
open Go.RowKit

theorem cell1 {w : World} {b : Nat} {v : Value} {ty : TypeId} (h : w.heap[b]? = some (.cells #[v] ty (0, 0))) : w.cell? ⟨b, 0, none⟩ = some v := by rw [cell_of_row _ _ _ _ _ _ h]; rfl
theorem set1 {w : World} {b : Nat} {u : Value} {ty : TypeId} (v : Value) (h : w.heap[b]? = some (.cells #[u] ty (0, 0))) : (w.setCell ⟨b, 0, none⟩ v).heap[b]? = some (.cells #[v] ty (0, 0)) := by
 rw [setCell_eq_setRow w b 0 _ _ _ _ h]
 exact setRow_heap w b _ _ _ _ h
theorem al5 (w : World) (a b c d e : Obj) : ((((((w.alloc a).alloc b).alloc c).alloc d).alloc e).heap[w.heap.size]? = some a ∧ (((((w.alloc a).alloc b).alloc c).alloc d).alloc e).heap[w.heap.size + 1]? = some b ∧ (((((w.alloc a).alloc b).alloc c).alloc d).alloc e).heap[w.heap.size + 2]? = some c ∧ (((((w.alloc a).alloc b).alloc c).alloc d).alloc e).heap[w.heap.size + 3]? = some d ∧ (((((w.alloc a).alloc b).alloc c).alloc d).alloc e).heap[w.heap.size + 4]? = some e) := by
 have e1 : (w.alloc a).heap.size = w.heap.size + 1 := by simp
 have e2 : ((w.alloc a).alloc b).heap.size = w.heap.size + 2 := by simp
 have e3 : (((w.alloc a).alloc b).alloc c).heap.size = w.heap.size + 3 := by simp
 have e4 : ((((w.alloc a).alloc b).alloc c).alloc d).heap.size = w.heap.size + 4 := by simp
 refine ⟨?_, ?_, ?_, ?_, ?_⟩
 · rw [Below.heap_alloc _ _ _ (by omega), Below.heap_alloc _ _ _ (by omega), Below.heap_alloc _ _ _ (by omega), Below.heap_alloc _ _ _ (by omega)]
   exact heap_alloc_new _ _
 · rw [Below.heap_alloc _ _ _ (by omega), Below.heap_alloc _ _ _ (by omega), Below.heap_alloc _ _ _ (by omega)]
   exact e1 ▸ heap_alloc_new (w.alloc a) b
 · rw [Below.heap_alloc _ _ _ (by omega), Below.heap_alloc _ _ _ (by omega)]
   exact e2 ▸ heap_alloc_new ((w.alloc a).alloc b) c
 · rw [Below.heap_alloc _ _ _ (by omega)]
   exact e3 ▸ heap_alloc_new (((w.alloc a).alloc b).alloc c) d
 · exact e4 ▸ heap_alloc_new ((((w.alloc a).alloc b).alloc c).alloc d) e
section
variable {lim : Nat} {I : Nat → World → Prop} {iv : Value} {ge : Kz → List UInt8 × Bool × Int} {sn : Sp → List Pa × Int} {w0 y y1 y2 y3 : World} {k q nb : Nat} {x x' : VR} {V V' : VS}
/-- A step on a view, and then boxes stored over that were made ahead of it. -/
theorem VRan.boxes {k' : Nat} (D : Baser lim noB I iv ge sn) (A : VAt w0 lim I k iv q x V y) (b1 : Below y.heap.size y y1) (t : VRan noB w0 lim I k' iv q x nb V' y1 x' y2) (f : FrV (fun i => y.heap.size ≤ i ∧ i < y1.heap.size) y2 y3) : VRan noB w0 lim I k' iv q x nb V' y x' y3 := by
 have hno : ∀ i, y.heap.size ≤ i ∧ i < y1.heap.size → ¬ x'.own q i := fun i hi e => by
  rcases t.own i e with e | e
  · have := A.vw.lt e
    omega
  · omega
 have hl := A.limy
 refine ⟨⟨t.at_.vw.kept fun i hi => f.block i (t.at_.vw.lt hi) (fun e => hno i e hi), D.mono _ _ _ t.at_.base (f.below (fun i e => by omega) t.at_.limy), t.at_.own, t.at_.bel.trans (f.below (fun i e => Nat.le_trans A.le (Nat.le_trans hl e.1)) (Nat.le_trans t.at_.le t.at_.limy)), t.at_.le, Nat.le_trans t.at_.limy f.size⟩, ?_, fun i hi => (t.own i hi).imp id (fun e => Nat.le_trans b1.size e), t.n⟩
 exact ((FrV.of_below (S := fun i => x.own q i ∨ noB i) b1).trans t.fr (fun i e => .inl e)).trans f (fun i e => .inr e.1)
end
set_option maxHeartbeats 2000000 in
theorem dget1_calls {lim : Nat} {I : Nat → World → Prop} {iv : Value} {ge : Kz → List UInt8 × Bool × Int} {sn : Sp → List Pa × Int} (D : Baser lim noB I iv ge sn) (w0 y : World) (k q : Nat) (x : VR) (V : VS) (A : VAt w0 lim I (k + 1) iv q x V y) (hn : x.n ≤ 5000) (a b c d : Nat) (K : Kz)
    (ha : y.cell? ⟨a, 0, none⟩ = some (.pointer (some ⟨q, 0, none⟩))) (hb : Has y b K.k) (hcd : c ≠ d) (hc0 : c < y.heap.size ∧ ¬ x.own q c) (hd0 : d < y.heap.size ∧ ¬ x.own q d) (hc : y.heap[c]? = some (.cells #[.string ⟨#[]⟩] 9 (0, 0))) (hd : y.heap[d]? = some (.cells #[.bool false] 4 (0, 0))) :
    Calls Tryz.prog 86 #[.pointer (some ⟨a, 0, none⟩), .pointer (some ⟨b, 0, none⟩), .pointer (some ⟨c, 0, none⟩), .pointer (some ⟨d, 0, none⟩)] y fun e y' => e = .returned (.int .i64 (getV V.C ge K).2.2) ∧ ∃ z0, VTo noB w0 lim I k iv q x (getW V K) y { x with n := x.n + 1 } z0 ∧ y' = (z0.setCell ⟨c, 0, none⟩ (.string (str (getV V.C ge K).1))).setCell ⟨d, 0, none⟩ (.bool (getV V.C ge K).2.1) := by
 have hGe := A.get D (fun i hi => hi.elim) (by omega) K
 unfold gv at hGe
 generalize getV V.C ge K = r at *
 clear A D
 go_enter Tryz.func86, Tryz.ntmps86
 go_wp2_with (first
  | (refine load_key _ rfl b rfl rfl _ hb ?_)
  | (go_at_call 87; refine hGe.mono ?_; clear hGe; rintro e z0 ⟨rfl, T⟩
     have kc : z0.heap[c]? = some (.cells #[.string ⟨#[]⟩] 9 (0, 0)) := (T.fr.block c hc0.1 (fun e => e.elim hc0.2 (fun e => e))).trans hc
     have kd : z0.heap[d]? = some (.cells #[.bool false] 4 (0, 0)) := (T.fr.block d hd0.1 (fun e => e.elim hd0.2 (fun e => e))).trans hd
     have cc := cell1 kc
     have fc := frozen_of_row z0 c 0 _ _ kc
     have kd2 : (z0.setCell ⟨c, 0, none⟩ (.string (str r.1))).heap[d]? = some (.cells #[.bool false] 4 (0, 0)) := (heap_setCell_other _ _ _ _ (show d ≠ c from fun e => hcd e.symm)).trans kd
     have cd := cell1 kd2
     have fd := frozen_of_row _ d 0 _ _ kd2
     clear kc kd kd2))
 go_ret
 exact ⟨rfl, z0, T, rfl⟩
set_option maxHeartbeats 4000000 in
theorem dget_calls {lim : Nat} {I : Nat → World → Prop} {iv : Value} {ge : Kz → List UInt8 × Bool × Int} {sn : Sp → List Pa × Int} (D : Baser lim noB I iv ge sn) (w0 y : World) (k q : Nat) (x : VR) (V : VS) (A : VAt w0 lim I (k + 1) iv q x V y) (hn : x.n ≤ 5000) (K : Kz) :
    Calls Tryz.prog 48 #[.pointer (some ⟨q, 0, none⟩), kv K.k] y fun e y' => e = .returned (.tuple #[.string (str (getV V.C ge K).1), .bool (getV V.C ge K).2.1, .int .i64 (getV V.C ge K).2.2]) ∧ ∃ x', VRan noB w0 lim I k iv q x (x.n + 4) (getW V K) y x' y' := by
 have HD : Hid (Baser lim noB I iv ge sn) := D
 have HA : Hid (VAt w0 lim I (k + 1) iv q x V y ∧ x.n ≤ 5000) := ⟨A, hn⟩
 have HS : Hid (((((y.alloc (.cells #[.pointer (some ⟨q, 0, none⟩)] 24)).alloc (.cells (bc K.k).toArray 29)).alloc (.cells #[.string ⟨#[]⟩] 9)).alloc (.cells #[.bool false] 4)).heap.size = y.heap.size + 4 ∧ (((((y.alloc (.cells #[.pointer (some ⟨q, 0, none⟩)] 24)).alloc (.cells (bc K.k).toArray 29)).alloc (.cells #[.string ⟨#[]⟩] 9)).alloc (.cells #[.bool false] 4)).alloc (.cells #[.int .i64 0] 32)).heap.size = y.heap.size + 5) := ⟨by simp, by simp⟩
 have H5 : Hid (_ ∧ _ ∧ _ ∧ _ ∧ _) := al5 y (.cells #[.pointer (some ⟨q, 0, none⟩)] 24) (.cells (bc K.k).toArray 29) (.cells #[.string ⟨#[]⟩] 9) (.cells #[.bool false] 4) (.cells #[.int .i64 0] 32)
 have HB5 : Hid (Below y.heap.size y (((((y.alloc (.cells #[.pointer (some ⟨q, 0, none⟩)] 24)).alloc (.cells (bc K.k).toArray 29)).alloc (.cells #[.string ⟨#[]⟩] 9)).alloc (.cells #[.bool false] 4)).alloc (.cells #[.int .i64 0] 32))) := (((((Below.refl _ y).alloc (Nat.le_refl _) _).alloc (by simp) _).alloc (by simp; omega) _).alloc (by simp; omega) _).alloc (by simp; omega) _
 have h5 := dget1_calls D w0 (((((y.alloc (.cells #[.pointer (some ⟨q, 0, none⟩)] 24)).alloc (.cells (bc K.k).toArray 29)).alloc (.cells #[.string ⟨#[]⟩] 9)).alloc (.cells #[.bool false] 4)).alloc (.cells #[.int .i64 0] 32)) k q x V (A.called D HB5.out) hn y.heap.size (y.heap.size + 1) (y.heap.size + 2) (y.heap.size + 3) K
   (cell1 H5.out.1) ⟨K.h, H5.out.2.1⟩ (by omega) ⟨by rw [HS.out.2]; omega, fun e => by have := A.vw.lt e; omega⟩ ⟨by rw [HS.out.2]; omega, fun e => by have := A.vw.lt e; omega⟩ H5.out.2.2.1 H5.out.2.2.2.1
 have hz4 : ((((y.alloc (.cells #[.pointer (some ⟨q, 0, none⟩)] 24)).alloc (.cells (bc K.k).toArray 29)).alloc (.cells #[.string ⟨#[]⟩] 9)).alloc (.cells #[.bool false] 4)).heap.size = y.heap.size + 4 := HS.out.1
 generalize hr : getV V.C ge K = r at *
 obtain ⟨r1, r2, r3⟩ := r
 dsimp only at h5 ⊢
 clear A D hn hr
 go_enter Tryz.func48, Tryz.ntmps48
 go_upto_region 1 with fail
 rw [show y.heap.size + 1 + 1 + 1 = y.heap.size + 3 from rfl, show y.heap.size + 1 + 1 = y.heap.size + 2 from rfl]
 have hmf : ∀ (fn : Fn) (first cap : Array Value) (w : World), (Instr.makeFunc fn first cap).run Tryz.prog w = .ok (.func fn first cap) w := fun _ _ _ _ => rfl
 have hCa := caughtGet_calls ((((y.alloc (.cells #[.pointer (some ⟨q, 0, none⟩)] 24)).alloc (.cells (bc K.k).toArray 29)).alloc (.cells #[.string ⟨#[]⟩] 9)).alloc (.cells #[.bool false] 4)) ⟨y.heap.size, 0, none⟩ ⟨y.heap.size + 1, 0, none⟩ ⟨y.heap.size + 2, 0, none⟩ ⟨y.heap.size + 3, 0, none⟩ (fun n z => r3 = n ∧ ∃ z0, VTo noB w0 lim I k iv q x (getW V K) (((((y.alloc (.cells #[.pointer (some ⟨q, 0, none⟩)] 24)).alloc (.cells (bc K.k).toArray 29)).alloc (.cells #[.string ⟨#[]⟩] 9)).alloc (.cells #[.bool false] 4)).alloc (.cells #[.int .i64 0] 32)) { x with n := x.n + 1 } z0 ∧ z = ((z0.setCell ⟨y.heap.size + 2, 0, none⟩ (.string (str r1))).setCell ⟨y.heap.size + 3, 0, none⟩ (.bool r2))) (h5.mono fun e z r => by
  obtain ⟨e1, z0, T, e2⟩ := r
  refine ⟨r3, e1, ?_, rfl, z0, T, e2⟩
  have k0 : z0.heap[y.heap.size + 4]? = _ := (T.fr.block _ (by rw [HS.out.2]; omega) (fun e => e.elim (fun e => by have := HA.out.1.vw.lt e; omega) (fun e => e))).trans H5.out.2.2.2.2
  rw [hz4, e2, heap_setCell_other _ _ _ _ (show y.heap.size + 4 ≠ y.heap.size + 3 by omega), heap_setCell_other _ _ _ _ (show y.heap.size + 4 ≠ y.heap.size + 2 by omega)]
  exact k0)
 rw [hz4] at hCa
 clear h5
 generalize ((((y.alloc (.cells #[.pointer (some ⟨q, 0, none⟩)] 24)).alloc (.cells (bc K.k).toArray 29)).alloc (.cells #[.string ⟨#[]⟩] 9)).alloc (.cells #[.bool false] 4)) = y4 at *
 go_upto_region 2 with (go_at_call 33; refine hCa.mono ?_; clear hCa; rintro e z ⟨n1, z1, rfl, ⟨rfl, z0, T, rfl⟩, rfl⟩)
 have HT : Hid (VTo noB w0 lim I k iv q x (getW V K) (y4.alloc (.cells #[.int .i64 0] 32)) { x with n := x.n + 1 } z0) := T
 have hg4 : z0.heap[y.heap.size + 2]? = _ := (T.fr.block _ (by rw [HS.out.2]; omega) (fun e => e.elim (fun e => by have := HA.out.1.vw.lt e; omega) (fun e => e))).trans H5.out.2.2.1
 have hg5 : z0.heap[y.heap.size + 3]? = _ := (T.fr.block _ (by rw [HS.out.2]; omega) (fun e => e.elim (fun e => by have := HA.out.1.vw.lt e; omega) (fun e => e))).trans H5.out.2.2.2.1
 have HFR : Hid (FrV (fun i => y.heap.size ≤ i ∧ i < y.heap.size + 5) z0 (((z0.setCell ⟨y.heap.size + 2, 0, none⟩ (.string (str r1))).setCell ⟨y.heap.size + 3, 0, none⟩ (.bool r2)).setCell ⟨y.heap.size + 4, 0, none⟩ (.int .i64 r3))) := ⟨⟨rfl, rfl, rfl, by simp, fun k hk => absurd hk (Nat.not_lt_zero k)⟩, fun i _ hn => by
  rw [heap_setCell_other _ _ _ _ (show i ≠ y.heap.size + 4 by omega), heap_setCell_other _ _ _ _ (show i ≠ y.heap.size + 3 by omega), heap_setCell_other _ _ _ _ (show i ≠ y.heap.size + 2 by omega)]⟩
 have HZC : Hid ((((z0.setCell ⟨y.heap.size + 2, 0, none⟩ (.string (str r1))).setCell ⟨y.heap.size + 3, 0, none⟩ (.bool r2)).setCell ⟨y.heap.size + 4, 0, none⟩ (.int .i64 r3)).drew.heap[y.heap.size + 2]? = some (.cells #[.string (str r1)] 9 (0, 0)) ∧ (((z0.setCell ⟨y.heap.size + 2, 0, none⟩ (.string (str r1))).setCell ⟨y.heap.size + 3, 0, none⟩ (.bool r2)).setCell ⟨y.heap.size + 4, 0, none⟩ (.int .i64 r3)).drew.heap[y.heap.size + 3]? = some (.cells #[.bool r2] 4 (0, 0))) := ⟨by
  show (((z0.setCell ⟨y.heap.size + 2, 0, none⟩ (.string (str r1))).setCell ⟨y.heap.size + 3, 0, none⟩ (.bool r2)).setCell ⟨y.heap.size + 4, 0, none⟩ (.int .i64 r3)).heap[y.heap.size + 2]? = _
  rw [heap_setCell_other _ _ _ _ (show y.heap.size + 2 ≠ y.heap.size + 4 by omega), heap_setCell_other _ _ _ _ (show y.heap.size + 2 ≠ y.heap.size + 3 by omega)]
  exact set1 _ hg4, by
  show (((z0.setCell ⟨y.heap.size + 2, 0, none⟩ (.string (str r1))).setCell ⟨y.heap.size + 3, 0, none⟩ (.bool r2)).setCell ⟨y.heap.size + 4, 0, none⟩ (.int .i64 r3)).heap[y.heap.size + 3]? = _
  rw [heap_setCell_other _ _ _ _ (show y.heap.size + 3 ≠ y.heap.size + 4 by omega)]
  exact set1 _ ((heap_setCell_other _ _ _ _ (show y.heap.size + 3 ≠ y.heap.size + 2 by omega)).trans hg5)⟩
 have HB5' : Hid (Below y.heap.size y (y4.alloc (.cells #[.int .i64 0] 32))) := HB5.out
 clear T hg4 hg5 HB5 H5
 generalize ((z0.setCell ⟨y.heap.size + 2, 0, none⟩ (.string (str r1))).setCell ⟨y.heap.size + 3, 0, none⟩ (.bool r2)).setCell ⟨y.heap.size + 4, 0, none⟩ (.int .i64 r3) = Z at *
 have HZD : Hid (Below Z.heap.size Z Z.drew) := ⟨rfl, rfl, rfl, Nat.le_refl _, fun _ _ => rfl⟩
 refine wp_region_noPanic ?_
 refine wp_region_held_drew (S := (fun yy => yy.heap[y.heap.size + 2]? = some (.cells #[.string (str r1)] 9 (0, 0)) ∧ yy.heap[y.heap.size + 3]? = some (.cells #[.bool r2] 4 (0, 0)))) (by kernel_rfl) HZC.out (fun hHeld => ?_)
 refine tk (v := ?_) 0 rfl hHeld (Or.inl ⟨by rfl, ?_⟩) ?_
 case refine_2 => (intro w hSw; (try dsimp only at hSw); have hc := cell1 hSw.1; go_simp; try (with_reducible rfl))
 (try simp only [gs])
 refine tk (v := ?_) 1 rfl hHeld (Or.inl ⟨by rfl, ?_⟩) ?_
 case refine_2 => (intro w hSw; (try dsimp only at hSw); have hc := cell1 hSw.2; go_simp; try (with_reducible rfl))
 (try simp only [gs])
 refine tk (v := ?_) 2 rfl hHeld (Or.inl ⟨by rfl, ?_⟩) ?_
 case refine_2 => (intro w hSw; (try dsimp only at hSw); go_simp; try (with_reducible rfl))
 (try simp only [gs])
 generalize Z.drew = z5 at *
 have hc2 := cell1 hHeld.1
 have hf2 := frozen_of_row z5 (y.heap.size + 2) 0 _ _ hHeld.1
 refine wpAnyH_ready (rs := [3]) (by kernel_rfl) (by simp) (AllReadyH.cons rfl (fun K0 hK => ?_) AllReadyH.nil)
 rw [if_pos (by rfl)]
 (try simp only [gs])
 go_simp
 have hk2 : (z5.setCell ⟨y.heap.size + 2, 0, none⟩ (.string (str r1))).heap[y.heap.size + 2]? = some (.cells #[.string (str r1)] 9 (0, 0)) := set1 _ hHeld.1
 have hk3 : (z5.setCell ⟨y.heap.size + 2, 0, none⟩ (.string (str r1))).heap[y.heap.size + 3]? = some (.cells #[.bool r2] 4 (0, 0)) := (heap_setCell_other _ _ _ _ (show y.heap.size + 3 ≠ y.heap.size + 2 by omega)).trans hHeld.2
 refine hK.out _ _ ⟨hk2, hk3⟩ (fun hHeld => ?_)
 clear hK K0
 (try simp only [gs])
 have HF6 : Hid (FrV (fun i => i = y.heap.size + 2) z5 (z5.setCell ⟨y.heap.size + 2, 0, none⟩ (.string (str r1)))) := ⟨⟨rfl, rfl, rfl, by simp, fun k hk => absurd hk (Nat.not_lt_zero k)⟩, fun i _ hn => heap_setCell_other _ _ _ _ hn⟩
 clear hc2 hf2 hk2 hk3
 generalize z5.setCell ⟨y.heap.size + 2, 0, none⟩ (.string (str r1)) = z6 at *
 have hc3 := cell1 hHeld.2
 have hf3 := frozen_of_row z6 (y.heap.size + 3) 0 _ _ hHeld.2
 refine wpAnyH_ready (rs := [4]) (by kernel_rfl) (by simp) (AllReadyH.cons rfl (fun K0 hK => ?_) AllReadyH.nil)
 rw [if_pos (by rfl)]
 (try simp only [gs])
 go_simp
 have hk3 : (z6.setCell ⟨y.heap.size + 3, 0, none⟩ (.bool r2)).heap[y.heap.size + 3]? = some (.cells #[.bool r2] 4 (0, 0)) := set1 _ hHeld.2
 have hk2 : (z6.setCell ⟨y.heap.size + 3, 0, none⟩ (.bool r2)).heap[y.heap.size + 2]? = some (.cells #[.string (str r1)] 9 (0, 0)) := (heap_setCell_other _ _ _ _ (show y.heap.size + 2 ≠ y.heap.size + 3 by omega)).trans hHeld.1
 refine hK.out _ _ ⟨hk2, hk3⟩ (fun hHeld => ?_)
 clear hK K0
 (try simp only [gs])
 have HF7 : Hid (FrV (fun i => i = y.heap.size + 3) z6 (z6.setCell ⟨y.heap.size + 3, 0, none⟩ (.bool r2))) := ⟨⟨rfl, rfl, rfl, by simp, fun k hk => absurd hk (Nat.not_lt_zero k)⟩, fun i _ hn => heap_setCell_other _ _ _ _ hn⟩
 clear hc3 hf3 hk2 hk3
 generalize z6.setCell ⟨y.heap.size + 3, 0, none⟩ (.bool r2) = z7 at *
 refine tk (v := ?_) 5 rfl hHeld (Or.inl ⟨by rfl, ?_⟩) ?_
 case refine_2 => (intro w hSw; (try dsimp only at hSw); go_simp; try (with_reducible rfl))
 (try simp only [gs])
 refine wpAnyH_done (by kernel_rfl) ?_ _
 refine NoPanic.normal ?_
 have hc2 := cell1 hHeld.1
 have hc3 := cell1 hHeld.2
 have HZ7 : Hid (FrV (fun i => y.heap.size ≤ i ∧ i < y.heap.size + 5) z0 z7) := ((HFR.out.trans (FrV.of_below (S := fun i => y.heap.size ≤ i ∧ i < y.heap.size + 5) HZD.out) (fun i e => .inl e)).trans HF6.out (fun i e => .inl (by omega))).trans HF7.out (fun i e => .inl (by omega))
 go_wp2_with fail
 refine bodyPost_ret (v := .tuple #[.string (str r1), .bool r2, .int .i64 r3]) (by simp [results, Tryz.results48, go_sem, hc2, hc3]) rfl ⟨rfl, _, VRan.boxes HD.out HA.out.1 HB5'.out (HT.out.ran (Nat.le_refl _)) ?_⟩
 simp only [HS.out.2]
 exact HZ7.out
/-- What Find tells, of what Get told and the number that the value says. -/
def findR (r : List UInt8 × Bool × Int) (o : Option Int) : Int × Bool × Int :=
 if r.2.2 ≠ 0 ∨ r.2.1 = false then (0, false, r.2.2) else match o with
  | some i => (i, true, 0)
  | none => (0, false, 12)
set_option maxHeartbeats 4000000 in
theorem dfind_bad (y : World) (q : Nat) (n : Int) (s : List UInt8) (h1 : okE n s = false) :
    Calls Tryz.prog 21 #[.pointer (some ⟨q, 0, none⟩), .int .i64 n, .string (str s)] y fun e y' => e = .returned (.tuple #[.int .i64 0, .bool false, .int .i64 1]) ∧ Below y.heap.size y y' := by
 have hE := fun w => dentry_calls n s w
 rw [h1] at hE
 go_enter Tryz.func21, Tryz.ntmps21
 go_upto_region 2 with (first
  | (go_at_call 31; refine (hE _).mono ?_; rintro e w1 ⟨rfl, b1⟩)
  | (refine store_key rfl _ _ rfl _ rfl _ rfl (entryR_length n s) (zs 24) (zero_has w1 w1.heap.size rfl) ?_; intro w2 h2 t2 s2))
 have s2' : w2.heap.size = w1.heap.size + 1 := by rw [s2]; simp
 have B12 : Below y.heap.size y w2 := b1.trans ((((Below.refl _ w1).alloc (Nat.le_refl _) _).trans (t2.below (by simp) (Nat.le_refl _) (by simp))).mono b1.size)
 have HW : Hid (Below y.heap.size y w2 ∧ Has w2 w1.heap.size (entryR n s)) := ⟨B12, h2⟩
 clear b1 h2 t2 s2 s2' B12 hE
 go_wp2_with fail
 go_ret3
 exact ⟨rfl, HW.out.1⟩
theorem nm_is4 (L : List UInt8) : ∃ o, NmIs L o := ⟨_, nm_is (f := fun L => (num ((rd0 (L.take 4)).got 4) : Int)) (fun n h => by
 show (num ((rd0 ((be n.toNat 4).take 4)).got 4) : Int) = n
 rw [List.take_of_length_le (by rw [be_length]; omega)]
 exact word_back n h) L⟩
set_option maxHeartbeats 4000000 in
theorem dfind_ok {lim : Nat} {I : Nat → World → Prop} {iv : Value} {ge : Kz → List UInt8 × Bool × Int} {sn : Sp → List Pa × Int} (D : Baser lim noB I iv ge sn) (w0 y : World) (k q : Nat) (x : VR) (V : VS) (A : VAt w0 lim I (k + 1) iv q x V y) (hn : x.n ≤ 5000) (n : Int) (s : List UInt8) (h1 : okE n s = true) :
    Calls Tryz.prog 21 #[.pointer (some ⟨q, 0, none⟩), .int .i64 n, .string (str s)] y fun e y' => (∃ o, NmIs (getV V.C ge (ekz n s)).1 o ∧ e = .returned (.tuple #[.int .i64 (findR (getV V.C ge (ekz n s)) o).1, .bool (findR (getV V.C ge (ekz n s)) o).2.1, .int .i64 (findR (getV V.C ge (ekz n s)) o).2.2])) ∧ ∃ x', VRan noB w0 lim I k iv q x (x.n + 4) (getW V (ekz n s)) y x' y' := by
 have hE := fun w => dentry_calls n s w
 rw [h1] at hE
 have HD : Hid (Baser lim noB I iv ge sn) := D
 have HA : Hid (VAt w0 lim I (k + 1) iv q x V y ∧ x.n ≤ 5000) := ⟨A, hn⟩
 have hG0 : ∀ z, Below y.heap.size y z → _ := fun z b => dget_calls HD.out w0 z k q x V (HA.out.1.called HD.out b) HA.out.2 (ekz n s)
 generalize getV V.C ge (ekz n s) = r at *
 obtain ⟨r1, r2, r3⟩ := r
 dsimp only at hG0 ⊢
 clear A D hn h1
 go_enter Tryz.func21, Tryz.ntmps21
 go_upto_region 2 with (first
  | (go_at_call 31; refine (hE _).mono ?_; rintro e w1 ⟨rfl, b1⟩)
  | (refine store_key rfl _ _ rfl _ rfl _ rfl (entryR_length n s) (zs 24) (zero_has w1 w1.heap.size rfl) ?_; intro w2 h2 t2 s2))
 have s2' : w2.heap.size = w1.heap.size + 1 := by rw [s2]; simp
 have B12 : Below y.heap.size y w2 := b1.trans ((((Below.refl _ w1).alloc (Nat.le_refl _) _).trans (t2.below (by simp) (Nat.le_refl _) (by simp))).mono b1.size)
 have HW : Hid (Below y.heap.size y w2 ∧ Has w2 w1.heap.size (entryR n s)) := ⟨B12, h2⟩
 clear b1 h2 t2 s2 s2' B12 hE
 have hGe := hG0 w2 HW.out.1
 clear hG0
 have hkk : Has w2 w1.heap.size (entryR n s) := HW.out.2
 go_upto_region 5 with (first
  | (refine load_key _ rfl _ rfl rfl _ hkk ?_)
  | (go_at_call 48; refine hGe.mono ?_; clear hGe; rintro e z ⟨rfl, x', T⟩))
 have HT : Hid (VRan noB w0 lim I k iv q x (x.n + 4) (getW V (ekz n s)) y x' z) := ⟨T.at_, (FrV.of_below (S := fun i => x.own q i ∨ noB i) HW.out.1).trans T.fr (fun i e => .inl e), fun i hi => (T.own i hi).imp id (fun e => Nat.le_trans HW.out.1.size e), T.n⟩
 clear T hkk
 obtain ⟨o0, ho0⟩ := nm_is4 r1
 have HO0 : Hid (NmIs r1 o0) := ho0
 clear ho0
 by_cases h3 : r3 = 0
 · subst h3
   cases r2 with
   | false =>
    go_wp2_with fail
    go_ret3
    exact ⟨⟨o0, HO0.out, rfl⟩, x', HT.out⟩
   | true =>
    have hNu := numbered_calls z r1
    go_upto_region 8 with (go_at_call 49; refine hNu.mono ?_; clear hNu; rintro e z2 ⟨o, ho, rfl, b2⟩)
    have HT2 : Hid (VRan noB w0 lim I k iv q x (x.n + 4) (getW V (ekz n s)) y x' z2 ∧ NmIs r1 o) := ⟨HT.out.called HD.out b2, ho⟩
    clear b2 ho HT
    cases o with
    | none =>
     go_wp2_with fail
     go_ret3
     exact ⟨⟨none, HT2.out.2, rfl⟩, x', HT2.out.1⟩
    | some i =>
     go_wp2_with fail
     go_ret3
     exact ⟨⟨some i, HT2.out.2, rfl⟩, x', HT2.out.1⟩
 · have hr3 : (r3 == 0) = false := by simpa using h3
   have hr4 : (r3 != 0) = true := by simp [hr3, bne]
   have HR3 : Hid (findR (r1, r2, r3) o0 = (0, false, r3)) := (show _ = _ by unfold findR; rw [if_pos (.inl h3)])
   go_wp2_with fail
   go_ret3
   exact ⟨⟨o0, HO0.out, by rw [HR3.out]; rfl⟩, x', HT.out⟩
end Go.Proofs.YtgicanpggndbeaaGreat
/- The document's dir: its entry, Put, Drop. -/
namespace Go.Proofs.YtgicanpggndbeaaGreat
set_option linter.unusedVariables false
set_option maxRecDepth 100000
open Go.RowKit

set_option maxHeartbeats 4000000 in
theorem rdentry_calls (n : Int) (s : List UInt8) (w : World) :
    Calls Tryz.prog 35 #[.int .i64 n, .string (str s)] w fun e w' => e = .returned (.tuple #[kv (entryR n s), .bool (okE n s)]) ∧ Below w.heap.size w w' := by
 have hE := fun y => rentry_calls n (str s) y
 rw [str_list] at hE
 have hR := fun y => r10right_calls (str s) y
 rw [str_list] at hR
 have hKl := entryR_length n s
 have HOK : Hid (okE n s = (okN n && okS s && rightP s)) := rfl
 have HZ : Hid (Has (w.alloc (.cells (bc (zs 24)).toArray 29)) w.heap.size (zs 24) ∧ Below w.heap.size w (w.alloc (.cells (bc (zs 24)).toArray 29))) := ⟨Has.new w (zs 24) rfl, (Below.refl _ w).alloc (Nat.le_refl _) _⟩
 generalize entryR n s = K at *
 go_enter Tryz.func35, Tryz.ntmps35
 go_upto_region 1 with fail
 change Code.wp _ _ _ _ (w.alloc (.cells (bc (zs 24)).toArray 29))
 generalize hW0 : w.alloc (.cells (bc (zs 24)).toArray 29) = w0 at *
 clear hW0
 go_upto_region 2 with (first
  | (go_at_call 68; refine (hE _).mono ?_; rintro e w1 ⟨rfl, b1⟩)
  | (refine store_key rfl _ _ rfl _ rfl _ rfl hKl (zs 24) (zero_has w1 w1.heap.size rfl) ?_; intro w2 h2 t2 s2))
 have s2' : w2.heap.size = w1.heap.size + 1 := by rw [s2]; simp
 have hb0 : w.heap.size < w0.heap.size := HZ.out.1.lt
 have HW : Hid (w.heap.size < w1.heap.size ∧ w1.heap.size < w2.heap.size) := ⟨Nat.lt_of_lt_of_le hb0 b1.size, by omega⟩
 have B2 : Below w0.heap.size w0 w2 := b1.trans (((Below.refl _ w1).alloc (Nat.le_refl _) _).trans (t2.below (by simp) (Nat.le_refl _) (by simp)) |>.mono b1.size)
 have HH : Hid (Has w2 w1.heap.size K ∧ Has w2 w.heap.size (zs 24) ∧ Below w.heap.size w w2) := ⟨h2, HZ.out.1.below B2 hb0, HZ.out.2.trans (B2.mono (Nat.le_of_lt hb0))⟩
 have hR2 := hR w2
 clear h2 t2 s2 s2' b1 B2 hb0 HZ hR hE
 go_upto_region 3 with (go_at_call 69; refine hR2.mono ?_; clear hR2; rintro e w3 ⟨rfl, b3⟩)
 have HH3 : Hid (Has w3 w1.heap.size K ∧ Has w3 w.heap.size (zs 24) ∧ Below w.heap.size w w3) := ⟨HH.out.1.below b3 HH.out.1.lt, HH.out.2.1.below b3 HH.out.2.1.lt, HH.out.2.2.trans (b3.mono HH.out.2.2.size)⟩
 clear HH b3
 cases hq : (okN n && okS s) with
 | true =>
  have HQ : Hid (okE n s = rightP s) := (show _ = _ by rw [HOK.out, hq]; rfl)
  clear HOK
  go_wp2_with (first
   | (refine load_key _ rfl w1.heap.size rfl rfl K HH3.out.1 ?_)
   | (refine store_key rfl _ _ rfl w.heap.size rfl K rfl hKl (zs 24) HH3.out.2.1 ?_; intro w4 h4 t4 s4))
  refine ret_key_ok rfl _ _ _ rfl rfl h4 rfl ?_
  exact ⟨by rw [HQ.out]; rfl, HH3.out.2.2.trans ⟨t4.os, t4.tape, t4.output, Nat.le_of_eq s4.symm, fun k hk => t4.block k (Nat.lt_of_lt_of_le hk HH3.out.2.2.size) (Nat.ne_of_lt hk) (by simp)⟩⟩
 | false =>
  have HQ : Hid (okE n s = false) := (show _ = _ by rw [HOK.out, hq]; rfl)
  clear HOK
  go_wp2_with (first
   | (refine load_key _ rfl w1.heap.size rfl rfl K HH3.out.1 ?_)
   | (refine store_key rfl _ _ rfl w.heap.size rfl K rfl hKl (zs 24) HH3.out.2.1 ?_; intro w4 h4 t4 s4))
  refine ret_key_ok rfl _ _ _ rfl rfl h4 rfl ?_
  exact ⟨by rw [HQ.out]; rfl, HH3.out.2.2.trans ⟨t4.os, t4.tape, t4.output, Nat.le_of_eq s4.symm, fun k hk => t4.block k (Nat.lt_of_lt_of_le hk HH3.out.2.2.size) (Nat.ne_of_lt hk) (by simp)⟩⟩
set_option maxHeartbeats 4000000 in
theorem r14put_ok (y : World) (rp : Nat) (n : Int) (s : List UInt8) (ino : Int) (h1 : okE n s = true) (h2 : okNum ino = true) (R : World → Prop)
    (hc : ∀ z, Below y.heap.size y z → Calls Tryz.prog 20 #[.pointer (some ⟨rp, 0, none⟩), kv (entryR n s), .string (str (numT ino))] z fun e z' => e = .returned (.int .i64 0) ∧ R z') :
    Calls Tryz.prog 11 #[.pointer (some ⟨rp, 0, none⟩), .int .i64 n, .string (str s), .int .i64 ino] y fun e y' => e = .returned (.int .i64 0) ∧ R y' := by
 have hE := fun w => rdentry_calls n s w
 have hN := fun w => r11number_calls w ino
 rw [h1] at hE
 rw [h2] at hN
 clear h1 h2
 have hKl := entryR_length n s
 generalize entryR n s = K at *
 generalize numT ino = NT at *
 go_enter Tryz.func11, Tryz.ntmps11
 go_upto_region 2 with (first
  | (go_at_call 35; refine (hE _).mono ?_; rintro e w1 ⟨rfl, b1⟩)
  | (refine store_key rfl _ _ rfl _ rfl _ rfl hKl (zs 24) (zero_has w1 w1.heap.size rfl) ?_; intro w2 h2 t2 s2))
 have B2 : Below y.heap.size y w2 := b1.trans ((((Below.refl _ w1).alloc (Nat.le_refl _) _).trans (t2.below (by simp) (Nat.le_refl _) (by simp))).mono b1.size)
 have HW : Hid (Below y.heap.size y w2 ∧ Has w2 w1.heap.size K) := ⟨B2, h2⟩
 have hN2 := hN w2
 clear B2 h2 t2 s2 b1 hN hE
 go_upto_region 3 with (go_at_call 36; refine hN2.mono ?_; clear hN2; rintro e w3 ⟨rfl, b3⟩)
 have HW3 : Hid (Below y.heap.size y w3 ∧ Has w3 w1.heap.size K) := ⟨HW.out.1.trans (b3.mono HW.out.1.size), HW.out.2.below b3 HW.out.2.lt⟩
 have hP := hc w3 HW3.out.1
 clear HW b3 hc
 go_wp2_with (first
  | (refine load_key _ rfl w1.heap.size rfl rfl K HW3.out.2 ?_)
  | (go_at_call 20; refine hP.mono ?_; clear hP; rintro e w4 ⟨rfl, r4⟩))
 go_ret
 exact ⟨rfl, r4⟩
set_option maxHeartbeats 4000000 in
theorem r14put_bad (y : World) (rp : Nat) (n : Int) (s : List UInt8) (ino : Int) (h1 : (okE n s && okNum ino) = false) :
    Calls Tryz.prog 11 #[.pointer (some ⟨rp, 0, none⟩), .int .i64 n, .string (str s), .int .i64 ino] y fun e y' => e = .returned (.int .i64 1) ∧ Below y.heap.size y y' := by
 have hE := fun w => rdentry_calls n s w
 have hN := fun w => r11number_calls w ino
 have hKl := entryR_length n s
 generalize entryR n s = K at *
 generalize numT ino = NT at *
 generalize okE n s = c1 at *
 generalize okNum ino = c2 at *
 go_enter Tryz.func11, Tryz.ntmps11
 go_upto_region 2 with (first
  | (go_at_call 35; refine (hE _).mono ?_; rintro e w1 ⟨rfl, b1⟩)
  | (refine store_key rfl _ _ rfl _ rfl _ rfl hKl (zs 24) (zero_has w1 w1.heap.size rfl) ?_; intro w2 h2 t2 s2))
 have HB2 : Hid (Below y.heap.size y w2) := b1.trans ((((Below.refl _ w1).alloc (Nat.le_refl _) _).trans (t2.below (by simp) (Nat.le_refl _) (by simp))).mono b1.size)
 have hN2 := hN w2
 clear h2 t2 s2 b1 hN hE
 go_upto_region 3 with (go_at_call 36; refine hN2.mono ?_; clear hN2; rintro e w3 ⟨rfl, b3⟩)
 have HB3 : Hid (Below y.heap.size y w3) := HB2.out.trans (b3.mono HB2.out.size)
 clear b3 HB2
 cases c1 with
 | false =>
  go_wp2_with fail
  go_ret
  exact ⟨rfl, HB3.out⟩
 | true =>
  obtain rfl : c2 = false := by simpa using h1
  go_wp2_with fail
  go_ret
  exact ⟨rfl, HB3.out⟩
set_option maxHeartbeats 4000000 in
theorem r14drop_ok (y : World) (rp : Nat) (n : Int) (s : List UInt8) (h1 : okE n s = true) (R : World → Prop)
    (hc : ∀ z, Below y.heap.size y z → Calls Tryz.prog 39 #[.pointer (some ⟨rp, 0, none⟩), kv (entryR n s)] z fun e z' => (∃ x, e = .returned x) ∧ R z') :
    Calls Tryz.prog 13 #[.pointer (some ⟨rp, 0, none⟩), .int .i64 n, .string (str s)] y fun e y' => e = .returned (.int .i64 0) ∧ R y' := by
 have hE := fun w => rdentry_calls n s w
 rw [h1] at hE
 clear h1
 have hKl := entryR_length n s
 generalize entryR n s = K at *
 go_enter Tryz.func13, Tryz.ntmps13
 go_upto_region 2 with (first
  | (go_at_call 35; refine (hE _).mono ?_; rintro e w1 ⟨rfl, b1⟩)
  | (refine store_key rfl _ _ rfl _ rfl _ rfl hKl (zs 24) (zero_has w1 w1.heap.size rfl) ?_; intro w2 h2 t2 s2))
 have B2 : Below y.heap.size y w2 := b1.trans ((((Below.refl _ w1).alloc (Nat.le_refl _) _).trans (t2.below (by simp) (Nat.le_refl _) (by simp))).mono b1.size)
 have HW : Hid (Has w2 w1.heap.size K) := h2
 have hP := hc w2 B2
 clear B2 h2 t2 s2 b1 hE hc
 go_wp2_with (first
  | (refine load_key _ rfl w1.heap.size rfl rfl K HW.out ?_)
  | (go_at_call 39; refine hP.mono ?_; clear hP; rintro e w4 ⟨⟨xx, rfl⟩, r4⟩))
 go_ret
 exact ⟨rfl, r4⟩
set_option maxHeartbeats 4000000 in
theorem r14drop_bad (y : World) (rp : Nat) (n : Int) (s : List UInt8) (h1 : okE n s = false) :
    Calls Tryz.prog 13 #[.pointer (some ⟨rp, 0, none⟩), .int .i64 n, .string (str s)] y fun e y' => e = .returned (.int .i64 1) ∧ Below y.heap.size y y' := by
 have hE := fun w => rdentry_calls n s w
 rw [h1] at hE
 clear h1
 have hKl := entryR_length n s
 generalize entryR n s = K at *
 go_enter Tryz.func13, Tryz.ntmps13
 go_upto_region 2 with (first
  | (go_at_call 35; refine (hE _).mono ?_; rintro e w1 ⟨rfl, b1⟩)
  | (refine store_key rfl _ _ rfl _ rfl _ rfl hKl (zs 24) (zero_has w1 w1.heap.size rfl) ?_; intro w2 h2 t2 s2))
 have HB2 : Hid (Below y.heap.size y w2) := b1.trans ((((Below.refl _ w1).alloc (Nat.le_refl _) _).trans (t2.below (by simp) (Nat.le_refl _) (by simp))).mono b1.size)
 clear h2 t2 s2 b1 hE
 go_wp2_with fail
 go_ret
 exact ⟨rfl, HB2.out⟩
set_option maxHeartbeats 4000000 in
theorem r14find_bad (y : World) (rp : Nat) (n : Int) (s : List UInt8) (h1 : okE n s = false) :
    Calls Tryz.prog 22 #[.pointer (some ⟨rp, 0, none⟩), .int .i64 n, .string (str s)] y fun e y' => e = .returned (.tuple #[.int .i64 0, .bool false, .int .i64 1]) ∧ Below y.heap.size y y' := by
 have hE := fun w => rdentry_calls n s w
 rw [h1] at hE
 clear h1
 have hKl := entryR_length n s
 generalize entryR n s = K at *
 go_enter Tryz.func22, Tryz.ntmps22
 go_upto_region 2 with (first
  | (go_at_call 35; refine (hE _).mono ?_; rintro e w1 ⟨rfl, b1⟩)
  | (refine store_key rfl _ _ rfl _ rfl _ rfl hKl (zs 24) (zero_has w1 w1.heap.size rfl) ?_; intro w2 h2 t2 s2))
 have HB2 : Hid (Below y.heap.size y w2) := b1.trans ((((Below.refl _ w1).alloc (Nat.le_refl _) _).trans (t2.below (by simp) (Nat.le_refl _) (by simp))).mono b1.size)
 clear h2 t2 s2 b1 hE
 go_wp2_with fail
 go_ret3
 exact ⟨rfl, HB2.out⟩
set_option maxHeartbeats 4000000 in
theorem r14find_ok (y : World) (rp : Nat) (n : Int) (s : List UInt8) (h1 : okE n s = true) (R : List UInt8 → Bool → World → Prop)
    (hc : ∀ z, Below y.heap.size y z → Calls Tryz.prog 50 #[.pointer (some ⟨rp, 0, none⟩), kv (entryR n s)] z fun e z' => ∃ v b, e = .returned (.tuple #[.string (str v), .bool b]) ∧ R v b z') :
    Calls Tryz.prog 22 #[.pointer (some ⟨rp, 0, none⟩), .int .i64 n, .string (str s)] y fun e y' => ∃ v b o z', (b = true → NmIs v o) ∧ e = .returned (.tuple #[.int .i64 (findR (v, b, 0) o).1, .bool (findR (v, b, 0) o).2.1, .int .i64 (findR (v, b, 0) o).2.2]) ∧ R v b z' ∧ Below z'.heap.size z' y' := by
 have hE := fun w => rdentry_calls n s w
 rw [h1] at hE
 clear h1
 have hKl := entryR_length n s
 generalize entryR n s = K at *
 go_enter Tryz.func22, Tryz.ntmps22
 go_upto_region 2 with (first
  | (go_at_call 35; refine (hE _).mono ?_; rintro e w1 ⟨rfl, b1⟩)
  | (refine store_key rfl _ _ rfl _ rfl _ rfl hKl (zs 24) (zero_has w1 w1.heap.size rfl) ?_; intro w2 h2 t2 s2))
 have B2 : Below y.heap.size y w2 := b1.trans ((((Below.refl _ w1).alloc (Nat.le_refl _) _).trans (t2.below (by simp) (Nat.le_refl _) (by simp))).mono b1.size)
 have HW : Hid (Has w2 w1.heap.size K) := h2
 have hP := hc w2 B2
 clear B2 h2 t2 s2 b1 hE hc
 go_upto_region 5 with (first
  | (refine load_key _ rfl w1.heap.size rfl rfl K HW.out ?_)
  | (go_at_call 50; refine hP.mono ?_; clear hP; rintro e w4 ⟨v, b, rfl, r4⟩))
 cases b with
 | false =>
  go_wp2_with fail
  go_ret3
  exact ⟨v, false, none, w4, (fun h => by cases h), rfl, r4, Below.refl _ _⟩
 | true =>
  have hNm := r11numbered_calls w4 v
  go_upto_region 8 with (go_at_call 51; refine hNm.mono ?_; clear hNm; rintro e w5 ⟨o, ho, rfl, b5⟩)
  cases o with
  | none =>
   go_wp2_with fail
   go_ret3
   exact ⟨v, true, none, w4, (fun _ => ho), rfl, r4, b5⟩
  | some i =>
   go_wp2_with fail
   go_ret3
   exact ⟨v, true, some i, w4, (fun _ => ho), rfl, r4, b5⟩
end Go.Proofs.YtgicanpggndbeaaGreat
