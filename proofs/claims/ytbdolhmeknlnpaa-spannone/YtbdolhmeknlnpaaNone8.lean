/- Nothing touches nothing, and all touches whatever is not empty. -/
import Derived.Test.YtbdolhmeknlnpaaSpJ
namespace Go.Proofs.Ytbdolhmeknlnpaa
set_option linter.unusedVariables false
open Go.RowKit

set_option maxRecDepth 100000 in
set_option maxHeartbeats 16000000 in
theorem spanNone_walk (w : World) (u : Value) (l : List Sp) (hu : Sl encS w u l) :
    Calls Try.prog 7 #[u] w fun e w' => e = .returned (.bool true) ∧ Below w.heap.size w w' := by
  have H : Hd w w [(u, l)] := ((Hd.mk (Below.refl _ w) (fun _ h => by cases h) : Hd w w []).add hu)
  obtain ⟨adu, cpu, rfl, hcu, hmu⟩ := sl_form hu
  clear hu
  go_enter Try.func7, Try.ntmps7
  go_wp2_with fail
  refine (shown_calls _).mono ?_
  rintro e x1 ⟨rfl, b1⟩
  replace H := H.called b1
  clear b1
  go_wp2_with fail
  refine (cut_calls _ _ _ (H.get (.slice adu l.length cpu) (l) (by simp))).mono ?_
  rintro e x2 ⟨v0, rfl, o2, b2⟩
  replace H := (H.called b2).add o2.slB
  have hL0 : (l.take 30).length ≤ 30 := take_len _ _
  clear o2 b2
  generalize l.take 30 = L0 at *
  have HBA : Hid (Try.prog.built 35 [(2, .bool true)] = some (encS.c allS).toArray) := built_all
  go_upto_region 4 with (first
    | (refine build_one rfl 35 2 _ rfl _ rfl _ HBA.out ?_)
    | (refine build_el1 rowS rfl _ rfl allS rfl (by decide) ?_; intro x3 o3 b3 s3 k3))
  replace H := (H.called b3).add o3.slB
  clear HBA
  clear o3 b3 s3 k3
  generalize Value.slice (some ⟨x2.heap.size, 0, none⟩) 1 1 = v1 at *
  go_wp2_with fail
  refine (clean_calls _ _ _ (H.get (v0) (L0) (by simp)) (by omega)).mono ?_
  rintro e x4 ⟨vc, Rc, rfl, o4, b4, iRc, lRc⟩
  replace H := (H.called b4).add o4.slB
  clear o4 b4
  go_wp2_with fail
  refine (both_calls _ _ _ _ _ (H.get (v0) (L0) (by simp)) (H.get (v1) ([allS]) (by simp)) (by simp only [List.length_cons, List.length_nil]; omega)).mono ?_
  rintro e x5 ⟨vb, Rb, rfl, o5, b5, iRb, lRb⟩
  replace H := (H.called b5).add o5.slB
  clear o5 b5
  go_wp2_with fail
  refine (same_calls _ _ _ _ _ (H.get (vb) (Rb) (by simp)) (H.get (vc) (Rc) (by simp))).mono ?_
  rintro e x6 ⟨rfl, b6⟩
  replace H := H.called b6
  clear b6
  rw [decide_eq_true (show Rb = Rc from iRb.unique iRc (fun K _ => by simp [mem_all]))]
  go_wp2_with fail
  refine (lesss_calls _ _ _ _ _ (H.get (v0) (L0) (by simp)) (SlB.nil _ _ _) (by simp only [List.length_nil]; omega)).mono ?_
  rintro e x7 ⟨vd, Rd, rfl, o7, b7, iRd, lRd⟩
  replace H := (H.called b7).add o7.slB
  clear o7 b7
  go_wp2_with fail
  refine (same_calls _ _ _ _ _ (H.get (vd) (Rd) (by simp)) (H.get (vc) (Rc) (by simp))).mono ?_
  rintro e x8 ⟨rfl, b8⟩
  replace H := H.called b8
  clear b8
  rw [decide_eq_true (show Rd = Rc from iRd.unique iRc (fun K _ => by simp [mem_nil]))]
  obtain ⟨advc, cpvc, rfl, hcvc, hmvc⟩ := sl_form (H.get (vc) (Rc) (by simp))
  by_cases hc : 0 < Rc.length
  · have hcI : (0 : Int) < (Rc.length : Int) := by omega
    go_wp2_with fail
    refine (lesss_calls _ _ _ _ _ (H.get (v0) (L0) (by simp)) (H.get (v1) ([allS]) (by simp)) (by simp only [List.length_cons, List.length_nil]; omega)).mono ?_
    rintro e x9 ⟨ve, Re, rfl, o9, b9, iRe, lRe⟩
    replace H := (H.called b9).add o9.slB
    clear o9 b9
    obtain rfl : Re = [] := iRe.none (fun K _ => by simp [mem_all])
    obtain ⟨adve, cpve, rfl, hcve, hmve⟩ := sl_form (H.get (ve) ([]) (by simp))
    simp only [List.length_nil] at *
    go_wp2_with fail
    refine (both_calls _ _ _ _ _ (H.get (v0) (L0) (by simp)) (SlB.nil _ _ _) (by simp only [List.length_nil]; omega)).mono ?_
    rintro e x10 ⟨vf, Rf, rfl, o10, b10, iRf, lRf⟩
    replace H := (H.called b10).add o10.slB
    clear o10 b10
    obtain rfl : Rf = [] := iRf.none (fun K _ => by simp [mem_nil])
    obtain ⟨advf, cpvf, rfl, hcvf, hmvf⟩ := sl_form (H.get (vf) ([]) (by simp))
    simp only [List.length_nil] at *
    go_wp2_with fail
    refine (touch_calls _ _ _ _ _ (H.get (v0) (L0) (by simp)) (H.get (v1) ([allS]) (by simp)) (by simp only [List.length_cons, List.length_nil]; omega)).mono ?_
    rintro e x11 ⟨t11, rfl, ht11, b11⟩
    replace H := H.called b11
    have et11 : t11 = true := (by obtain ⟨K, hK, hm⟩ := iRc.some (fun q => by subst q; simp at hc); exact touch_yes ht11 K hK hm (mem_all K))
    subst et11
    clear b11 ht11
    go_wp2_with fail
    refine (touch_calls _ _ _ _ _ (SlB.nil _ _ _) (H.get (v1) ([allS]) (by simp)) (by simp only [List.length_cons, List.length_nil]; omega)).mono ?_
    rintro e x12 ⟨t12, rfl, ht12, b12⟩
    replace H := H.called b12
    have et12 : t12 = false := touch_no ht12 (fun K hK h1 _ => by cases h1)
    subst et12
    clear b12 ht12
    go_wp2_with fail
    go_ret
    exact ⟨rfl, H.bel⟩
  · have hcI : ¬ (0 : Int) < (Rc.length : Int) := by omega
    go_wp2_with fail
    refine (lesss_calls _ _ _ _ _ (H.get (v0) (L0) (by simp)) (H.get (v1) ([allS]) (by simp)) (by simp only [List.length_cons, List.length_nil]; omega)).mono ?_
    rintro e x9 ⟨ve, Re, rfl, o9, b9, iRe, lRe⟩
    replace H := (H.called b9).add o9.slB
    clear o9 b9
    obtain rfl : Re = [] := iRe.none (fun K _ => by simp [mem_all])
    obtain ⟨adve, cpve, rfl, hcve, hmve⟩ := sl_form (H.get (ve) ([]) (by simp))
    simp only [List.length_nil] at *
    go_wp2_with fail
    refine (both_calls _ _ _ _ _ (H.get (v0) (L0) (by simp)) (SlB.nil _ _ _) (by simp only [List.length_nil]; omega)).mono ?_
    rintro e x10 ⟨vf, Rf, rfl, o10, b10, iRf, lRf⟩
    replace H := (H.called b10).add o10.slB
    clear o10 b10
    obtain rfl : Rf = [] := iRf.none (fun K _ => by simp [mem_nil])
    obtain ⟨advf, cpvf, rfl, hcvf, hmvf⟩ := sl_form (H.get (vf) ([]) (by simp))
    simp only [List.length_nil] at *
    go_wp2_with fail
    refine (touch_calls _ _ _ _ _ (H.get (v0) (L0) (by simp)) (H.get (v1) ([allS]) (by simp)) (by simp only [List.length_cons, List.length_nil]; omega)).mono ?_
    rintro e x11 ⟨t11, rfl, ht11, b11⟩
    replace H := H.called b11
    have et11 : t11 = false := touch_no ht11 (fun K hK h1 _ => by have q : Rc = [] := (by simpa using hc); have := iRc.2 K hK; rw [q, mem_nil, h1] at this; cases this)
    subst et11
    clear b11 ht11
    go_wp2_with fail
    refine (touch_calls _ _ _ _ _ (SlB.nil _ _ _) (H.get (v1) ([allS]) (by simp)) (by simp only [List.length_cons, List.length_nil]; omega)).mono ?_
    rintro e x12 ⟨t12, rfl, ht12, b12⟩
    replace H := H.called b12
    have et12 : t12 = false := touch_no ht12 (fun K hK h1 _ => by cases h1)
    subst et12
    clear b12 ht12
    go_wp2_with fail
    go_ret
    exact ⟨rfl, H.bel⟩
end Go.Proofs.Ytbdolhmeknlnpaa
