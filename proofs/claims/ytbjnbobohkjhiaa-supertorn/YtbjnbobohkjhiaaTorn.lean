/- SuperTorn, walked. -/
import Derived.Test.YtbjnbobohkjhiaaSupY
import Derived.Deep.RegionHeld3
namespace Go.Proofs.Ytbjnbobohkjhiaa
set_option linter.unusedVariables false
open Go.RowKit

theorem SnaN.touchN {x y : World} {sv : Value} {l : List Snp} {B p : Nat} (h : SnaN x sv l B) (t : Touch p none x y) (hp : p < B) : SnaN y sv l B := by
  obtain ⟨r, h1, h2⟩ := h
  exact ⟨r, h1.kept fun k hk => t.block k (h2 k hk).2 (by have := h2 k hk; omega) (by simp), fun k hk => ⟨(h2 k hk).1, by have := h2 k hk; have := t.size; omega⟩⟩
theorem SnaN.belowN {x y : World} {sv : Value} {l : List Snp} {B : Nat} (h : SnaN x sv l B) (b : Below x.heap.size x y) : SnaN y sv l B := by
  obtain ⟨r, h1, h2⟩ := h
  exact ⟨r, h1.below b fun k hk => (h2 k hk).2, fun k hk => ⟨(h2 k hk).1, by have := h2 k hk; have := b.size; omega⟩⟩
theorem cells_none {x : World} {M : List UInt8} (h : M = []) (ad : Addr) : ∀ j u, (bc M)[j]? = some u → x.cell? (ad.add j) = some u := fun j u hu => by
  rw [h] at hu
  cases hu
set_option maxHeartbeats 16000000 in
set_option maxRecDepth 100000 in
theorem torn_walk (w : World) (S R : Sup) (sv rv : Value) (at_ : Int) (hs : Sna w sv S.l) (hnil : ∀ n c, sv = .slice none n c → c = 0) (hs' : Sna w rv R.l) (hnil' : ∀ n c, rv = .slice none n c → c = 0) : Calls Try.prog 6 #[uv S sv, uv R rv, .int .i64 at_] w fun e w' => e = .returned (.bool true) ∧ Below w.heap.size w w' := by
  have hone := hs.one
  have hone' := hs'.one
  have HU0 : Hid (HasU ((w.alloc (.cells (uc S sv) 24)).alloc (.cells (uc R rv) 24)) w.heap.size S sv) := (HasU.new w S sv _ rfl hone).alloc _
  have HV0 : Hid (HasU ((w.alloc (.cells (uc S sv) 24)).alloc (.cells (uc R rv) 24)) (w.heap.size + 1) R rv) := HasU.new _ R rv _ (by simp) hone'
  have B0 : Below w.heap.size w ((w.alloc (.cells (uc S sv) 24)).alloc (.cells (uc R rv) 24)) := ((Below.refl _ w).alloc (Nat.le_refl _) _).alloc (by simp) _
  have HS : Hid (Sna w sv S.l ∧ Sna w rv R.l) := ⟨hs, hs'⟩
  clear hs hone hs' hone'
  go_enter Try.func6, Try.ntmps6
  go_upto_region 2 with (go_at_call 9; refine (shown_calls _).mono ?_; rintro e w1 ⟨rfl, b1⟩)
  have U1 := HU0.out.below b1 (by simp; omega)
  have V1 := HV0.out.below b1 (by simp)
  have B1 : Below w.heap.size w w1 := B0.trans (b1.mono (by simp; omega))
  have s1 := b1.size
  simp at s1
  have S1 : Sna w1 sv S.l := HS.out.1.below B1
  have HU1 : Hid (HasU w1 w.heap.size S sv) := U1
  clear b1 U1 HU0 HV0 B0
  go_upto_region 3 with (first
    | (refine load_sup _ rfl w.heap.size rfl rfl _ _ HU1.out ?_)
    | (go_at_call 10; refine (cut_calls _ S sv S1 hnil).mono ?_; rintro e w2 ⟨tv, rfl, sn2, b2⟩)
    | (refine store_sup rfl _ _ rfl w.heap.size rfl (cutS S) tv rfl sn2.sna.one S sv (HU1.out.below b2 HU1.out.lt) ?_; intro x2 hu2 tx2 sx2))
  have B2 : Below w.heap.size w x2 := below_rowed (B1.trans (b2.mono B1.size)) tx2 (Nat.le_refl _) (Nat.le_refl _)
  have T2 : SnaN x2 tv (cutS S).l w1.heap.size := sn2.touchN tx2 (by omega)
  have V2 : Hid (HasU x2 (w.heap.size + 1) R rv) := (V1.below b2 V1.lt).touch tx2 (by omega)
  have R2 : Sna x2 rv R.l := HS.out.2.below B2
  have sx := b2.size
  clear S1 HU1 B1 b2 sn2 tx2 hnil HS V1
  generalize cutS S = T at *
  go_upto_region 4 with (first
    | (refine load_sup _ rfl (w.heap.size + 1) rfl rfl _ _ V2.out ?_)
    | (go_at_call 10; refine (cut_calls _ R rv R2 hnil').mono ?_; rintro e w3 ⟨uv', rfl, sn3, b3⟩)
    | (refine store_sup rfl _ _ rfl (w.heap.size + 1) rfl (cutS R) uv' rfl sn3.sna.one R rv (V2.out.below b3 V2.out.lt) ?_; intro x3 hu3 tx3 sx3))
  have B3 : Below w.heap.size w x3 := below_rowed (B2.trans (b3.mono B2.size)) tx3 (by omega) (Nat.le_refl _)
  have H3 : Held w x3 [(w.heap.size + 1, cutS R, uv'), (w.heap.size, T, tv)] [] [(uv', (cutS R).l), (tv, T.l)] := by
    refine ⟨B3, fun e he => ?_, (fun e he => by cases he), fun e he => ?_⟩
    · simp only [List.mem_cons, List.not_mem_nil, or_false] at he
      rcases he with rfl | rfl
      · exact hu3
      · exact (hu2.below b3 hu2.lt).touch tx3 (by omega)
    · simp only [List.mem_cons, List.not_mem_nil, or_false] at he
      rcases he with rfl | rfl
      · exact sn3.touch tx3 (by omega)
      · exact ((T2.belowN b3).touchN tx3 (by omega)).sna
  clear T2 V2 R2 sx s1 b3 sn3 tx3 hu3 hu2 B3 B2 hnil' sx2 sx3
  generalize cutS R = Z at *
  have u1 := H3.u (w.heap.size, T, tv) (by simp)
  have v1 := H3.u (w.heap.size + 1, Z, uv') (by simp)
  have cr := right_sna (S := T) (H3.s (tv, T.l) (by simp))
  have cz : ∀ y, Below x3.heap.size x3 y → Calls Try.prog 16 #[uv Z uv'] y fun e w' => e = .returned (.bool (right Z)) ∧ Below y.heap.size y w' := fun y hy => right_sna (S := Z) ((H3.s (uv', Z.l) (by simp)).below hy)
  have g1 := u1.cells.1
  have g2 := v1.cells.1
  have GB : Hid (∀ y, Below x3.heap.size x3 y → HasU y w.heap.size T tv ∧ HasU y (w.heap.size + 1) Z uv') := fun y hy => ⟨u1.below hy u1.lt, v1.below hy v1.lt⟩
  cases hr : right T with
  | false =>
    rw [hr] at cr
    go_wp2_with (first
      | (refine load_sup _ rfl w.heap.size rfl rfl _ _ u1 ?_)
      | (go_at_call 16; refine cr.mono ?_; rintro e w4 ⟨rfl, b4⟩))
    go_ret
    exact ⟨rfl, (H3.called b4).bel⟩
  | true =>
  rw [hr] at cr
  cases hz : right Z with
  | false =>
    go_wp2_with (first
      | (have _q := b4; first
        | (refine load_sup _ rfl (w.heap.size + 1) rfl rfl _ _ (GB.out _ b4).2 ?_)
        | (go_at_call 16; refine (cz _ b4).mono ?_; rintro e w5 ⟨rfl, b5⟩; rw [hz]))
      | (refine load_sup _ rfl w.heap.size rfl rfl _ _ u1 ?_)
      | (go_at_call 16; refine cr.mono ?_; rintro e w4 ⟨rfl, b4⟩))
    go_ret
    exact ⟨rfl, ((H3.called b4).called b5).bel⟩
  | true =>
  have B34 : ∀ y, Below x3.heap.size x3 y → y.cell? ⟨w.heap.size, 0, none⟩ = some (.int .i64 T.g) ∧ y.cell? ⟨w.heap.size + 1, 0, none⟩ = some (.int .i64 Z.g) := fun y hy => ⟨(u1.below hy u1.lt).cells.1, (v1.below hy v1.lt).cells.1⟩
  have HB34 : Hid (∀ y, Below x3.heap.size x3 y → y.cell? ⟨w.heap.size, 0, none⟩ = some (.int .i64 T.g) ∧ y.cell? ⟨w.heap.size + 1, 0, none⟩ = some (.int .i64 Z.g)) := B34
  clear B34
  by_cases hgen : T.g = Z.g
  · have hgb : (T.g == Z.g) = true := by simpa using hgen
    have HG : Hid (T.g = Z.g) := hgen
    clear hgen
    go_wp2_with (first
      | (have _q := b4; first
        | (refine load_sup _ rfl (w.heap.size + 1) rfl rfl _ _ (GB.out _ b4).2 ?_)
        | (go_at_call 16; refine (cz _ b4).mono ?_; rintro e w5 ⟨rfl, b5⟩; rw [hz]; have B45 := (Below.trans b4 (b5.mono b4.size)); obtain ⟨k1, k2⟩ := HB34.out _ B45))
      | (refine load_sup _ rfl w.heap.size rfl rfl _ _ u1 ?_)
      | (go_at_call 16; refine cr.mono ?_; rintro e w4 ⟨rfl, b4⟩))
    go_ret
    exact ⟨rfl, ((H3.called b4).called b5).bel⟩
  have hgb : (T.g == Z.g) = false := by simpa using hgen
  have HG : Hid (¬ T.g = Z.g) := hgen
  clear hgen
  go_upto_region 6 with (first
    | (have _q := b4; first
      | (refine load_sup _ rfl (w.heap.size + 1) rfl rfl _ _ (GB.out _ b4).2 ?_)
      | (go_at_call 16; refine (cz _ b4).mono ?_; rintro e w5 ⟨rfl, b5⟩; rw [hz]; have B45 := (Below.trans b4 (b5.mono b4.size)); obtain ⟨k1, k2⟩ := HB34.out _ B45))
    | (refine load_sup _ rfl w.heap.size rfl rfl _ _ u1 ?_)
    | (go_at_call 16; refine cr.mono ?_; rintro e w4 ⟨rfl, b4⟩))
  have H5 := (H3.called b4).called b5
  clear H3 u1 v1 cr cz g1 g2 GB b4 b5 HB34 B45 k1 k2 hgb
  have u1 := H5.u (w.heap.size, T, tv) (by simp)
  have HR : Hid (right T = true ∧ right Z = true) := ⟨hr, hz⟩
  have cb := bytes_sna (S := T) (H5.s (tv, T.l) (by simp))
  go_upto_region 7 with (first
    | (refine load_sup _ rfl w.heap.size rfl rfl _ _ u1 ?_)
    | (go_at_call 11; refine cb.mono ?_; rintro e w6 ⟨b6, ⟨hf, _⟩ | ⟨_, pa, pc, rfl, by6⟩⟩; · rw [HR.out.1] at hf; cases hf))
  have H6 := (H5.called b6).addB by6
  clear H5 u1 cb b6
  have v1 := H6.u (w.heap.size + 1, Z, uv') (by simp)
  have cb := bytes_sna (S := Z) (H6.s (uv', Z.l) (by simp))
  go_upto_region 8 with (first
    | (refine load_sup _ rfl (w.heap.size + 1) rfl rfl _ _ v1 ?_)
    | (go_at_call 11; refine cb.mono ?_; rintro e w7 ⟨b7, ⟨hf, _⟩ | ⟨_, qa, qc, rfl, by7⟩⟩; · rw [HR.out.2] at hf; cases hf))
  have H7 := (H6.called b7).addB by7
  clear H6 v1 cb b7
  obtain ⟨hq1, hpc, hform1⟩ := byt_form by6
  obtain ⟨ga, oa, rfl, _⟩ := hform1 (by omega)
  obtain ⟨hq2, hqc, hform2⟩ := byt_form by7
  obtain ⟨gb, ob, rfl, _⟩ := hform2 (by omega)
  clear hq1 hq2 hform1 hform2 by6 by7 hr hz
  go_upto_region 10 with fail
  obtain ⟨a, ha⟩ : ∃ a : Nat, (at_ % 65536) % 513 = (a : Int) := ⟨((at_ % 65536) % 513).toNat, by omega⟩
  have ha5 : a ≤ 512 := by omega
  have m1 := and65535 at_
  have m2 : Int.tmod (at_ % 65536) 513 = (a : Int) := by rw [Int.tmod_eq_emod_of_nonneg (by omega)]; exact ha
  go_upto_region 11 with fail
  have lT := (fits HR.out.1).enc
  have lZ := (fits HR.out.2).enc
  have lTa : ((enc T).take a).length = a := by simp; omega
  have lZa : ((enc Z).drop a).length = 512 - a := by simp; omega
  obtain ⟨RR, HRR0⟩ : ∃ RR, ofP ((enc T).take a ++ (enc Z).drop a) = RR := ⟨_, rfl⟩
  have HRR : Hid (ofP ((enc T).take a ++ (enc Z).drop a) = RR) := HRR0
  have KEY : Hid ((RR = none ∧ 0 < a ∧ a < 512) ∨ RR = some T ∨ RR = some Z) := (by rw [← HRR0]; exact torn_of HR.out.1 HR.out.2 HG.out ha5)
  have hapc : (a : Int) ≤ (pc : Int) := by omega
  have ha512 : (a : Int) ≤ 512 := by omega
  have haqc : (a : Int) ≤ (qc : Int) := by omega
  clear HRR0 ha m1 m2
  by_cases hqa0 : qc = a
  · have hqa : (qc = a) = True := by simp [hqa0]
    have hD0 : (enc Z).drop a = [] := by apply List.drop_of_length_le; omega
    clear hqa0
    refine wp_region_noPanic ?_
    refine wp_region_held_drew (S := (fun y => Held w y [(w.heap.size + 1, Z, uv'), (w.heap.size, T, tv)] [(.slice (some ⟨gb, ob, none⟩) 512 qc, enc Z), (.slice (some ⟨ga, oa, none⟩) 512 pc, enc T)] [(uv', Z.l), (tv, T.l)])) (by kernel_rfl) (H7.called (below_drewN (Below.refl _ w7) 1)) (fun hHeld => ?_)
    have y0h := hHeld
    refine wpAnyH_take (i := 1) (v := ?_) rfl (by kernel_rfl) (by kernel_rfl) (by kernel_rfl) (fun _ _ _ h => h) (Or.inl ⟨by rfl, ?_⟩) hHeld ?_
    case refine_2 => (intro w hSw; (try dsimp only at hSw); go_simp; try (with_reducible rfl))
    ((try simp only); (try simp only [List.getElem_toArray]); (try simp only [List.getElem_cons_succ]); (try simp only [List.getElem_cons_zero]); (try simp only [Act.put]); (try simp only [List.setIfInBounds_toArray]); (try simp only [List.set_cons_succ]); (try simp only [List.set_cons_zero]))
    refine wpAnyH_take (i := 2) (v := ?_) rfl (by kernel_rfl) (by kernel_rfl) (by kernel_rfl) (fun _ _ _ h => h) (Or.inl ⟨by rfl, ?_⟩) hHeld ?_
    case refine_2 => (intro w hSw; (try dsimp only at hSw); go_simp; try (with_reducible rfl))
    ((try simp only); (try simp only [List.getElem_toArray]); (try simp only [List.getElem_cons_succ]); (try simp only [List.getElem_cons_zero]); (try simp only [Act.put]); (try simp only [List.setIfInBounds_toArray]); (try simp only [List.set_cons_succ]); (try simp only [List.set_cons_zero]))
    refine wpAnyH_take (i := 3) (v := ?_) rfl (by kernel_rfl) (by kernel_rfl) (by kernel_rfl) (fun _ _ _ h => h) (Or.inl ⟨by rfl, ?_⟩) hHeld ?_
    case refine_2 => (intro w hSw; (try dsimp only at hSw); go_simp; try (with_reducible rfl))
    ((try simp only); (try simp only [List.getElem_toArray]); (try simp only [List.getElem_cons_succ]); (try simp only [List.getElem_cons_zero]); (try simp only [Act.put]); (try simp only [List.setIfInBounds_toArray]); (try simp only [List.set_cons_succ]); (try simp only [List.set_cons_zero]))
    refine wpAnyH_take (i := 5) (v := ?_) rfl (by kernel_rfl) (by kernel_rfl) (by kernel_rfl) (fun _ _ _ h => h) (Or.inl ⟨by rfl, ?_⟩) hHeld ?_
    case refine_2 => (intro w hSw; (try dsimp only at hSw); go_simp; try (with_reducible rfl))
    ((try simp only); (try simp only [List.getElem_toArray]); (try simp only [List.getElem_cons_succ]); (try simp only [List.getElem_cons_zero]); (try simp only [Act.put]); (try simp only [List.setIfInBounds_toArray]); (try simp only [List.set_cons_succ]); (try simp only [List.set_cons_zero]))
    refine wpAnyH_take (i := 6) (v := ?_) rfl (by kernel_rfl) (by kernel_rfl) (by kernel_rfl) (fun _ _ _ h => h) (Or.inl ⟨by rfl, ?_⟩) hHeld ?_
    case refine_2 => (intro w hSw; (try dsimp only at hSw); go_simp; try (with_reducible rfl))
    ((try simp only); (try simp only [List.getElem_toArray]); (try simp only [List.getElem_cons_succ]); (try simp only [List.getElem_cons_zero]); (try simp only [Act.put]); (try simp only [List.setIfInBounds_toArray]); (try simp only [List.set_cons_succ]); (try simp only [List.set_cons_zero]))
    refine wpAnyH_take (i := 7) (v := ?_) rfl (by kernel_rfl) (by kernel_rfl) (by kernel_rfl) (fun _ _ _ h => h) (Or.inl ⟨by rfl, ?_⟩) hHeld ?_
    case refine_2 => (intro w hSw; (try dsimp only at hSw); go_simp; try (with_reducible rfl))
    ((try simp only); (try simp only [List.getElem_toArray]); (try simp only [List.getElem_cons_succ]); (try simp only [List.getElem_cons_zero]); (try simp only [Act.put]); (try simp only [List.setIfInBounds_toArray]); (try simp only [List.set_cons_succ]); (try simp only [List.set_cons_zero]))
    generalize w7.drew = y0 at *
    have bz0 : Below y0.heap.size y0 y0 := Below.refl _ _
    refine wpAnyH_ready (rs := [0, 13]) (by kernel_rfl) (by simp) (AllReadyH.cons rfl (fun K hK => ?_) (AllReadyH.cons rfl (fun K hK => ?_) AllReadyH.nil))
    · rw [if_pos (by rfl)]
      ((try simp only); (try simp only [List.getElem_toArray]); (try simp only [List.getElem_cons_succ]); (try simp only [List.getElem_cons_zero]); (try simp only [Act.put]); (try simp only [List.setIfInBounds_toArray]); (try simp only [List.set_cons_succ]); (try simp only [List.set_cons_zero]))
      go_simp
      refine hK.out _ _ (hHeld.called ((Below.refl _ y0).alloc (Nat.le_refl _) (.cells #[] 5))) (fun g2 => ?_)
      clear hK K
      ((try simp only); (try simp only [List.getElem_toArray]); (try simp only [List.getElem_cons_succ]); (try simp only [List.getElem_cons_zero]); (try simp only [Act.put]); (try simp only [List.setIfInBounds_toArray]); (try simp only [List.set_cons_succ]); (try simp only [List.set_cons_zero]))
      have bz5 := bz0.alloc bz0.size (.cells #[] 5)
      have ow3 := own_empty y0 y0.heap.size (Nat.le_refl _)
      have bl4 : Below y0.heap.size y0 (y0.alloc (.cells #[] 5)) := (Below.refl _ _).alloc (Nat.le_refl _) _
      generalize y0.alloc (.cells #[] 5) = y1 at *
      refine wpAnyH_ready (rs := [4, 13]) (by kernel_rfl) (by simp) (AllReadyH.cons rfl (fun K hK => ?_) (AllReadyH.cons rfl (fun K hK => ?_) AllReadyH.nil))
      · rw [if_pos (by rfl)]
        ((try simp only); (try simp only [List.getElem_toArray]); (try simp only [List.getElem_cons_succ]); (try simp only [List.getElem_cons_zero]); (try simp only [Act.put]); (try simp only [List.setIfInBounds_toArray]); (try simp only [List.set_cons_succ]); (try simp only [List.set_cons_zero]))
        refine wp_append_bytes (.tmp 67) (.tmp 70) rfl y0.heap.size 0 a (.slice (some ⟨y0.heap.size, 0, none⟩) 0 0) [] rfl ow3 ⟨ga, oa, none⟩ a pc ((enc T).take a) rfl lTa (cells_take (g2.b (Value.slice (some ⟨ga, oa, none⟩) 512 pc, enc T) (by simp))) (by rw [lTa]; simp) (by omega) bl4.size ?_
        intro a10 c11 y6 ow8 gr12
        have bz13 := bz5.grown gr12 bz5.size (fun k hk => by have := (ow3.lt k hk).1; have := bz0.size; omega)
        obtain ⟨g7', bl9⟩ := Held.grown hHeld rfl bl4 ow3 gr12
        refine hK.out _ _ g7' (fun g7 => ?_)
        clear hK K
        ((try simp only); (try simp only [List.getElem_toArray]); (try simp only [List.getElem_cons_succ]); (try simp only [List.getElem_cons_zero]); (try simp only [Act.put]); (try simp only [List.setIfInBounds_toArray]); (try simp only [List.set_cons_succ]); (try simp only [List.set_cons_zero]))
        refine wpAnyH_ready (rs := [8, 13]) (by kernel_rfl) (by simp) (AllReadyH.cons rfl (fun K hK => ?_) (AllReadyH.cons rfl (fun K hK => ?_) AllReadyH.nil))
        · rw [if_pos (by rfl)]
          ((try simp only); (try simp only [List.getElem_toArray]); (try simp only [List.getElem_cons_succ]); (try simp only [List.getElem_cons_zero]); (try simp only [Act.put]); (try simp only [List.setIfInBounds_toArray]); (try simp only [List.set_cons_succ]); (try simp only [List.set_cons_zero]))
          refine wp_append_bytes (.tmp 71) (.tmp 74) rfl y0.heap.size a 512 (.slice a10 a c11) ([] ++ ((enc T).take a)) rfl ow8 ⟨gb, ob, none⟩ (512 - a) (qc - a) ((enc Z).drop a) rfl lZa (cells_none hD0 _) (by rw [List.nil_append, lTa, lZa]; omega) (by omega) bl9.size ?_
          intro a18 c19 y14 ow16 gr20
          have bz21 := bz13.grown gr20 bz13.size (fun k hk => by have := (ow8.lt k hk).1; have := bz0.size; omega)
          obtain ⟨g15', bl17⟩ := Held.grown hHeld rfl bl9 ow8 gr20
          refine hK.out _ _ g15' (fun g15 => ?_)
          clear hK K
          ((try simp only); (try simp only [List.getElem_toArray]); (try simp only [List.getElem_cons_succ]); (try simp only [List.getElem_cons_zero]); (try simp only [Act.put]); (try simp only [List.setIfInBounds_toArray]); (try simp only [List.set_cons_succ]); (try simp only [List.set_cons_zero]))
          refine wpAnyH_ready (rs := [9, 13]) (by kernel_rfl) (by simp) (AllReadyH.cons rfl (fun K hK => ?_) (AllReadyH.cons rfl (fun K hK => ?_) AllReadyH.nil))
          · have hc23 : Calls Try.prog 13 #[(.slice a18 512 c19)] y14 (OfTo y14 RR) := (by have hx := of_byt (own_byt ow16); rw [List.nil_append, HRR.out] at hx; exact hx)
            rw [if_pos (by rfl)]
            ((try simp only); (try simp only [List.getElem_toArray]); (try simp only [List.getElem_cons_succ]); (try simp only [List.getElem_cons_zero]); (try simp only [Act.put]); (try simp only [List.setIfInBounds_toArray]); (try simp only [List.set_cons_succ]); (try simp only [List.set_cons_zero]))
            go_simp
            refine hc23.mono ?_
            intro e y22 ho30
            obtain ⟨sv26, rr24, rfl, sn27, hr25, b28⟩ := ho30
            have bz31 := bz21.trans (b28.mono bz21.size)
            refine hK.out _ _ (g15.called b28) (fun g29 => ?_)
            clear hK K hc23
            ((try simp only); (try simp only [List.getElem_toArray]); (try simp only [List.getElem_cons_succ]); (try simp only [List.getElem_cons_zero]); (try simp only [Act.put]); (try simp only [List.setIfInBounds_toArray]); (try simp only [List.set_cons_succ]); (try simp only [List.set_cons_zero]))
            refine wpAnyH_take (i := 10) (v := ?_) rfl (by kernel_rfl) (by kernel_rfl) (by kernel_rfl) (fun _ _ _ h => h) (Or.inl ⟨by rfl, ?_⟩) g29 ?_
            case refine_2 => (intro w hSw; (try dsimp only at hSw); go_simp; try (with_reducible rfl))
            ((try simp only); (try simp only [List.getElem_toArray]); (try simp only [List.getElem_cons_succ]); (try simp only [List.getElem_cons_zero]); (try simp only [Act.put]); (try simp only [List.setIfInBounds_toArray]); (try simp only [List.set_cons_succ]); (try simp only [List.set_cons_zero]))
            refine wpAnyH_take (i := 11) (v := ?_) rfl (by kernel_rfl) (by kernel_rfl) (by kernel_rfl) (fun _ _ _ h => h) (Or.inl ⟨by rfl, ?_⟩) g29 ?_
            case refine_2 => (intro w hSw; (try dsimp only at hSw); go_simp; try (with_reducible rfl))
            ((try simp only); (try simp only [List.getElem_toArray]); (try simp only [List.getElem_cons_succ]); (try simp only [List.getElem_cons_zero]); (try simp only [Act.put]); (try simp only [List.setIfInBounds_toArray]); (try simp only [List.set_cons_succ]); (try simp only [List.set_cons_zero]))
            refine wpAnyH_take (i := 12) (v := ?_) rfl (by kernel_rfl) (by kernel_rfl) (by kernel_rfl) (fun _ _ _ h => h) (Or.inl ⟨by rfl, ?_⟩) g29 ?_
            case refine_2 => (intro w hSw; (try dsimp only at hSw); go_simp; try (with_reducible rfl))
            ((try simp only); (try simp only [List.getElem_toArray]); (try simp only [List.getElem_cons_succ]); (try simp only [List.getElem_cons_zero]); (try simp only [Act.put]); (try simp only [List.setIfInBounds_toArray]); (try simp only [List.set_cons_succ]); (try simp only [List.set_cons_zero]))
            refine wpAnyH_ready (rs := [13]) (by kernel_rfl) (by simp) (AllReadyH.cons rfl (fun K hK => ?_) AllReadyH.nil)
            rw [if_pos (by rfl)]
            ((try simp only); (try simp only [List.getElem_toArray]); (try simp only [List.getElem_cons_succ]); (try simp only [List.getElem_cons_zero]); (try simp only [Act.put]); (try simp only [List.setIfInBounds_toArray]); (try simp only [List.set_cons_succ]); (try simp only [List.set_cons_zero]))
            go_simp
            refine hK.out _ _ (g29.called ((Below.refl _ y22).alloc (Nat.le_refl _) (.cells #[.int .i64 0, .int .i64 0, .int .i64 0, .int .i64 0, .slice none 0 0] 24))) (fun g33 => ?_)
            clear hK K
            ((try simp only); (try simp only [List.getElem_toArray]); (try simp only [List.getElem_cons_succ]); (try simp only [List.getElem_cons_zero]); (try simp only [Act.put]); (try simp only [List.setIfInBounds_toArray]); (try simp only [List.set_cons_succ]); (try simp only [List.set_cons_zero]))
            have u34 : HasU (y22.alloc (.cells #[.int .i64 0, .int .i64 0, .int .i64 0, .int .i64 0, .slice none 0 0] 24)) y22.heap.size nilU (.slice none 0 0) := HasU.new y22 nilU _ _ rfl rfl
            have sn35 := sn27.below ((Below.refl _ y22).alloc (Nat.le_refl _) (.cells #[.int .i64 0, .int .i64 0, .int .i64 0, .int .i64 0, .slice none 0 0] 24)) (fun k hk => (hr25 k hk).2)
            have lt36 : y22.heap.size < (y22.alloc (.cells #[.int .i64 0, .int .i64 0, .int .i64 0, .int .i64 0, .slice none 0 0] 24)).heap.size := by simp
            have bz37 := bz31.alloc bz31.size (.cells #[.int .i64 0, .int .i64 0, .int .i64 0, .int .i64 0, .slice none 0 0] 24)
            have ng38 := bz31.size
            generalize y22.alloc (.cells #[.int .i64 0, .int .i64 0, .int .i64 0, .int .i64 0, .slice none 0 0] 24) = y32 at *
            refine wpAnyH_ready (rs := [14]) (by kernel_rfl) (by simp) (AllReadyH.cons rfl (fun K hK => ?_) AllReadyH.nil)
            rw [if_pos (by rfl)]
            ((try simp only); (try simp only [List.getElem_toArray]); (try simp only [List.getElem_cons_succ]); (try simp only [List.getElem_cons_zero]); (try simp only [Act.put]); (try simp only [List.setIfInBounds_toArray]); (try simp only [List.set_cons_succ]); (try simp only [List.set_cons_zero]))
            refine store_sup_op _ _ rfl (y22.heap.size) rfl (RR.getD nilU) sv26 rfl sn35.one nilU (.slice none 0 0) u34 ?_
            intro y39 hu41 tx42 sx43
            have bF := below_rowed bz37 tx42 ng38 (Nat.le_refl _)
            have HF := y0h.called bF
            have snF : Sna y39 sv26 (RR.getD nilU).l := ⟨_, sn35.kept fun k hk => tx42.block k (by have := hr25 k hk; omega) (by have := hr25 k hk; omega) (by simp), fun k hk => by have := hr25 k hk; omega⟩
            refine hK.out _ _ HF (fun g40 => ?_)
            clear hK K
            ((try simp only); (try simp only [List.getElem_toArray]); (try simp only [List.getElem_cons_succ]); (try simp only [List.getElem_cons_zero]); (try simp only [Act.put]); (try simp only [List.setIfInBounds_toArray]); (try simp only [List.set_cons_succ]); (try simp only [List.set_cons_zero]))
            refine wpAnyH_take (i := 15) (v := ?_) rfl (by kernel_rfl) (by kernel_rfl) (by kernel_rfl) (fun _ _ _ h => h) (Or.inl ⟨by rfl, ?_⟩) g40 ?_
            case refine_2 => (intro w hSw; (try dsimp only at hSw); go_simp; try (with_reducible rfl))
            ((try simp only); (try simp only [List.getElem_toArray]); (try simp only [List.getElem_cons_succ]); (try simp only [List.getElem_cons_zero]); (try simp only [Act.put]); (try simp only [List.setIfInBounds_toArray]); (try simp only [List.set_cons_succ]); (try simp only [List.set_cons_zero]))
            refine wpAnyH_done (by kernel_rfl) ?_ _
            refine NoPanic.normal ?_
            have HH : Hid (Held w y39 [(w.heap.size + 1, Z, uv'), (w.heap.size, T, tv)] [(.slice (some ⟨gb, ob, none⟩) 512 qc, enc Z), (.slice (some ⟨ga, oa, none⟩) 512 pc, enc T)] [(uv', Z.l), (tv, T.l)]) := HF
            have SN : Hid (Sna y39 sv26 (RR.getD nilU).l) := snF
            have HU : Hid (HasU y39 (y22.heap.size) (RR.getD nilU) sv26) := hu41
            clear HF snF hu41 tx42 sx43 bF g40 bz0 y0h hHeld g2 ow3 bl4 bz5 g7 ow8 bl9 gr12 bz13 g15 ow16 bl17 gr20 bz21 hr25 sn27 b28 g29 bz31 g33 u34 sn35 lt36 bz37 ng38
            generalize y22.heap.size = nb at *
            generalize y39 = z at *
            generalize sv26 = zv at *
            rcases KEY.out with ⟨rfl, h0, h1⟩ | rfl | rfl
            · have q0 : (0 : Int) < (a : Int) := by omega
              have q1 : (a : Int) < 512 := by omega
              have en : code none = 12 := rfl
              have BB := HH.out.bel
              go_wp2
              go_ret
              exact ⟨rfl, BB⟩
            · have ec : code (some T) = 0 := rfl
              have sA := same_calls z T T zv tv SN.out (HH.out.s (tv, T.l) (by simp))
              rw [decide_eq_true (rfl : T = T)] at sA
              have sB : ∀ y, Below z.heap.size z y → Calls Try.prog 15 #[uv T zv, uv Z uv'] y fun e w' => e = .returned (.bool (decide (T = Z))) ∧ Below y.heap.size y w' := fun y hy => same_calls y T Z zv uv' (SN.out.below hy) ((HH.out.s (uv', Z.l) (by simp)).below hy)
              have GU : Hid (∀ y, Below z.heap.size z y → HasU y nb T zv ∧ HasU y w.heap.size T tv ∧ HasU y (w.heap.size + 1) Z uv') := fun y hy => ⟨HU.out.below hy HU.out.lt, (HH.out.u (w.heap.size, T, tv) (by simp)).below hy (HH.out.u (w.heap.size, T, tv) (by simp)).lt, (HH.out.u (w.heap.size + 1, Z, uv') (by simp)).below hy (HH.out.u (w.heap.size + 1, Z, uv') (by simp)).lt⟩
              go_upto_region 15 with (first
                | (refine load_sup _ rfl nb rfl rfl T zv (GU.out _ (Below.refl _ _)).1 ?_)
                | (refine load_sup _ rfl w.heap.size rfl rfl T tv (GU.out _ (Below.refl _ _)).2.1 ?_)
                | (go_at_call 15; refine sA.mono ?_; rintro e z1 ⟨rfl, e1⟩))
              go_wp2_with (first
                | (refine load_sup _ rfl nb rfl rfl T zv (GU.out _ e1).1 ?_)
                | (refine load_sup _ rfl (w.heap.size + 1) rfl rfl Z uv' (GU.out _ e1).2.2 ?_)
                | (go_at_call 15; refine (sB _ e1).mono ?_; rintro e z2 ⟨rfl, e2⟩))
              go_ret
              exact ⟨rfl, ((HH.out.called e1).called e2).bel⟩
            · have ec : code (some Z) = 0 := rfl
              have sA := same_calls z Z T zv tv SN.out (HH.out.s (tv, T.l) (by simp))
              rw [decide_eq_false (fun e : Z = T => HG.out (by rw [e]))] at sA
              have sB : ∀ y, Below z.heap.size z y → Calls Try.prog 15 #[uv Z zv, uv Z uv'] y fun e w' => e = .returned (.bool true) ∧ Below y.heap.size y w' := fun y hy => by
                have := same_calls y Z Z zv uv' (SN.out.below hy) ((HH.out.s (uv', Z.l) (by simp)).below hy)
                rw [decide_eq_true (rfl : Z = Z)] at this
                exact this
              have GU : Hid (∀ y, Below z.heap.size z y → HasU y nb Z zv ∧ HasU y w.heap.size T tv ∧ HasU y (w.heap.size + 1) Z uv') := fun y hy => ⟨HU.out.below hy HU.out.lt, (HH.out.u (w.heap.size, T, tv) (by simp)).below hy (HH.out.u (w.heap.size, T, tv) (by simp)).lt, (HH.out.u (w.heap.size + 1, Z, uv') (by simp)).below hy (HH.out.u (w.heap.size + 1, Z, uv') (by simp)).lt⟩
              go_upto_region 15 with (first
                | (refine load_sup _ rfl nb rfl rfl Z zv (GU.out _ (Below.refl _ _)).1 ?_)
                | (refine load_sup _ rfl w.heap.size rfl rfl T tv (GU.out _ (Below.refl _ _)).2.1 ?_)
                | (go_at_call 15; refine sA.mono ?_; rintro e z1 ⟨rfl, e1⟩))
              go_wp2_with (first
                | (refine load_sup _ rfl nb rfl rfl Z zv (GU.out _ e1).1 ?_)
                | (refine load_sup _ rfl (w.heap.size + 1) rfl rfl Z uv' (GU.out _ e1).2.2 ?_)
                | (go_at_call 15; refine (sB _ e1).mono ?_; rintro e z2 ⟨rfl, e2⟩))
              go_ret
              exact ⟨rfl, ((HH.out.called e1).called e2).bel⟩
          · rw [if_pos (by rfl)]
            ((try simp only); (try simp only [List.getElem_toArray]); (try simp only [List.getElem_cons_succ]); (try simp only [List.getElem_cons_zero]); (try simp only [Act.put]); (try simp only [List.setIfInBounds_toArray]); (try simp only [List.set_cons_succ]); (try simp only [List.set_cons_zero]))
            go_simp
            refine hK.out _ _ (g15.called ((Below.refl _ y14).alloc (Nat.le_refl _) (.cells #[.int .i64 0, .int .i64 0, .int .i64 0, .int .i64 0, .slice none 0 0] 24))) (fun g45 => ?_)
            clear hK K
            ((try simp only); (try simp only [List.getElem_toArray]); (try simp only [List.getElem_cons_succ]); (try simp only [List.getElem_cons_zero]); (try simp only [Act.put]); (try simp only [List.setIfInBounds_toArray]); (try simp only [List.set_cons_succ]); (try simp only [List.set_cons_zero]))
            have u46 : HasU (y14.alloc (.cells #[.int .i64 0, .int .i64 0, .int .i64 0, .int .i64 0, .slice none 0 0] 24)) y14.heap.size nilU (.slice none 0 0) := HasU.new y14 nilU _ _ rfl rfl
            have ow47 := ow16.alloc (.cells #[.int .i64 0, .int .i64 0, .int .i64 0, .int .i64 0, .slice none 0 0] 24)
            have bl48 := bl17.alloc bl17.size (.cells #[.int .i64 0, .int .i64 0, .int .i64 0, .int .i64 0, .slice none 0 0] 24)
            have bz49 := bz21.alloc bz21.size (.cells #[.int .i64 0, .int .i64 0, .int .i64 0, .int .i64 0, .slice none 0 0] 24)
            have ng50 := bz21.size
            generalize y14.alloc (.cells #[.int .i64 0, .int .i64 0, .int .i64 0, .int .i64 0, .slice none 0 0] 24) = y44 at *
            refine wpAnyH_ready (rs := [9]) (by kernel_rfl) (by simp) (AllReadyH.cons rfl (fun K hK => ?_) AllReadyH.nil)
            have hc52 : Calls Try.prog 13 #[(.slice a18 512 c19)] y44 (OfTo y44 RR) := (by have hx := of_byt (own_byt ow47); rw [List.nil_append, HRR.out] at hx; exact hx)
            rw [if_pos (by rfl)]
            ((try simp only); (try simp only [List.getElem_toArray]); (try simp only [List.getElem_cons_succ]); (try simp only [List.getElem_cons_zero]); (try simp only [Act.put]); (try simp only [List.setIfInBounds_toArray]); (try simp only [List.set_cons_succ]); (try simp only [List.set_cons_zero]))
            go_simp
            refine hc52.mono ?_
            intro e y51 ho59
            obtain ⟨sv55, rr53, rfl, sn56, hr54, b57⟩ := ho59
            have bz60 := bz49.trans (b57.mono bz49.size)
            have nl61 := u46.lt
            have u62 := u46.below b57 u46.lt
            refine hK.out _ _ (g45.called b57) (fun g58 => ?_)
            clear hK K hc52
            ((try simp only); (try simp only [List.getElem_toArray]); (try simp only [List.getElem_cons_succ]); (try simp only [List.getElem_cons_zero]); (try simp only [Act.put]); (try simp only [List.setIfInBounds_toArray]); (try simp only [List.set_cons_succ]); (try simp only [List.set_cons_zero]))
            refine wpAnyH_take (i := 10) (v := ?_) rfl (by kernel_rfl) (by kernel_rfl) (by kernel_rfl) (fun _ _ _ h => h) (Or.inl ⟨by rfl, ?_⟩) g58 ?_
            case refine_2 => (intro w hSw; (try dsimp only at hSw); go_simp; try (with_reducible rfl))
            ((try simp only); (try simp only [List.getElem_toArray]); (try simp only [List.getElem_cons_succ]); (try simp only [List.getElem_cons_zero]); (try simp only [Act.put]); (try simp only [List.setIfInBounds_toArray]); (try simp only [List.set_cons_succ]); (try simp only [List.set_cons_zero]))
            refine wpAnyH_take (i := 11) (v := ?_) rfl (by kernel_rfl) (by kernel_rfl) (by kernel_rfl) (fun _ _ _ h => h) (Or.inl ⟨by rfl, ?_⟩) g58 ?_
            case refine_2 => (intro w hSw; (try dsimp only at hSw); go_simp; try (with_reducible rfl))
            ((try simp only); (try simp only [List.getElem_toArray]); (try simp only [List.getElem_cons_succ]); (try simp only [List.getElem_cons_zero]); (try simp only [Act.put]); (try simp only [List.setIfInBounds_toArray]); (try simp only [List.set_cons_succ]); (try simp only [List.set_cons_zero]))
            refine wpAnyH_take (i := 12) (v := ?_) rfl (by kernel_rfl) (by kernel_rfl) (by kernel_rfl) (fun _ _ _ h => h) (Or.inl ⟨by rfl, ?_⟩) g58 ?_
            case refine_2 => (intro w hSw; (try dsimp only at hSw); go_simp; try (with_reducible rfl))
            ((try simp only); (try simp only [List.getElem_toArray]); (try simp only [List.getElem_cons_succ]); (try simp only [List.getElem_cons_zero]); (try simp only [Act.put]); (try simp only [List.setIfInBounds_toArray]); (try simp only [List.set_cons_succ]); (try simp only [List.set_cons_zero]))
            refine wpAnyH_ready (rs := [14]) (by kernel_rfl) (by simp) (AllReadyH.cons rfl (fun K hK => ?_) AllReadyH.nil)
            rw [if_pos (by rfl)]
            ((try simp only); (try simp only [List.getElem_toArray]); (try simp only [List.getElem_cons_succ]); (try simp only [List.getElem_cons_zero]); (try simp only [Act.put]); (try simp only [List.setIfInBounds_toArray]); (try simp only [List.set_cons_succ]); (try simp only [List.set_cons_zero]))
            refine store_sup_op _ _ rfl (y14.heap.size) rfl (RR.getD nilU) sv55 rfl sn56.one nilU (.slice none 0 0) u62 ?_
            intro y63 hu65 tx66 sx67
            have bF := below_rowed bz60 tx66 ng50 (Nat.le_refl _)
            have HF := y0h.called bF
            have snF : Sna y63 sv55 (RR.getD nilU).l := ⟨_, sn56.kept fun k hk => tx66.block k (hr54 k hk).2 (by have := hr54 k hk; omega) (by simp), fun k hk => by have := hr54 k hk; omega⟩
            refine hK.out _ _ HF (fun g64 => ?_)
            clear hK K
            ((try simp only); (try simp only [List.getElem_toArray]); (try simp only [List.getElem_cons_succ]); (try simp only [List.getElem_cons_zero]); (try simp only [Act.put]); (try simp only [List.setIfInBounds_toArray]); (try simp only [List.set_cons_succ]); (try simp only [List.set_cons_zero]))
            refine wpAnyH_take (i := 15) (v := ?_) rfl (by kernel_rfl) (by kernel_rfl) (by kernel_rfl) (fun _ _ _ h => h) (Or.inl ⟨by rfl, ?_⟩) g64 ?_
            case refine_2 => (intro w hSw; (try dsimp only at hSw); go_simp; try (with_reducible rfl))
            ((try simp only); (try simp only [List.getElem_toArray]); (try simp only [List.getElem_cons_succ]); (try simp only [List.getElem_cons_zero]); (try simp only [Act.put]); (try simp only [List.setIfInBounds_toArray]); (try simp only [List.set_cons_succ]); (try simp only [List.set_cons_zero]))
            refine wpAnyH_done (by kernel_rfl) ?_ _
            refine NoPanic.normal ?_
            have HH : Hid (Held w y63 [(w.heap.size + 1, Z, uv'), (w.heap.size, T, tv)] [(.slice (some ⟨gb, ob, none⟩) 512 qc, enc Z), (.slice (some ⟨ga, oa, none⟩) 512 pc, enc T)] [(uv', Z.l), (tv, T.l)]) := HF
            have SN : Hid (Sna y63 sv55 (RR.getD nilU).l) := snF
            have HU : Hid (HasU y63 (y14.heap.size) (RR.getD nilU) sv55) := hu65
            clear HF snF hu65 tx66 sx67 bF g64 bz0 y0h hHeld g2 ow3 bl4 bz5 g7 ow8 bl9 gr12 bz13 g15 ow16 bl17 gr20 bz21 g45 u46 ow47 bl48 bz49 ng50 hr54 sn56 b57 g58 bz60 nl61 u62
            generalize y14.heap.size = nb at *
            generalize y63 = z at *
            generalize sv55 = zv at *
            rcases KEY.out with ⟨rfl, h0, h1⟩ | rfl | rfl
            · have q0 : (0 : Int) < (a : Int) := by omega
              have q1 : (a : Int) < 512 := by omega
              have en : code none = 12 := rfl
              have BB := HH.out.bel
              go_wp2
              go_ret
              exact ⟨rfl, BB⟩
            · have ec : code (some T) = 0 := rfl
              have sA := same_calls z T T zv tv SN.out (HH.out.s (tv, T.l) (by simp))
              rw [decide_eq_true (rfl : T = T)] at sA
              have sB : ∀ y, Below z.heap.size z y → Calls Try.prog 15 #[uv T zv, uv Z uv'] y fun e w' => e = .returned (.bool (decide (T = Z))) ∧ Below y.heap.size y w' := fun y hy => same_calls y T Z zv uv' (SN.out.below hy) ((HH.out.s (uv', Z.l) (by simp)).below hy)
              have GU : Hid (∀ y, Below z.heap.size z y → HasU y nb T zv ∧ HasU y w.heap.size T tv ∧ HasU y (w.heap.size + 1) Z uv') := fun y hy => ⟨HU.out.below hy HU.out.lt, (HH.out.u (w.heap.size, T, tv) (by simp)).below hy (HH.out.u (w.heap.size, T, tv) (by simp)).lt, (HH.out.u (w.heap.size + 1, Z, uv') (by simp)).below hy (HH.out.u (w.heap.size + 1, Z, uv') (by simp)).lt⟩
              go_upto_region 15 with (first
                | (refine load_sup _ rfl nb rfl rfl T zv (GU.out _ (Below.refl _ _)).1 ?_)
                | (refine load_sup _ rfl w.heap.size rfl rfl T tv (GU.out _ (Below.refl _ _)).2.1 ?_)
                | (go_at_call 15; refine sA.mono ?_; rintro e z1 ⟨rfl, e1⟩))
              go_wp2_with (first
                | (refine load_sup _ rfl nb rfl rfl T zv (GU.out _ e1).1 ?_)
                | (refine load_sup _ rfl (w.heap.size + 1) rfl rfl Z uv' (GU.out _ e1).2.2 ?_)
                | (go_at_call 15; refine (sB _ e1).mono ?_; rintro e z2 ⟨rfl, e2⟩))
              go_ret
              exact ⟨rfl, ((HH.out.called e1).called e2).bel⟩
            · have ec : code (some Z) = 0 := rfl
              have sA := same_calls z Z T zv tv SN.out (HH.out.s (tv, T.l) (by simp))
              rw [decide_eq_false (fun e : Z = T => HG.out (by rw [e]))] at sA
              have sB : ∀ y, Below z.heap.size z y → Calls Try.prog 15 #[uv Z zv, uv Z uv'] y fun e w' => e = .returned (.bool true) ∧ Below y.heap.size y w' := fun y hy => by
                have := same_calls y Z Z zv uv' (SN.out.below hy) ((HH.out.s (uv', Z.l) (by simp)).below hy)
                rw [decide_eq_true (rfl : Z = Z)] at this
                exact this
              have GU : Hid (∀ y, Below z.heap.size z y → HasU y nb Z zv ∧ HasU y w.heap.size T tv ∧ HasU y (w.heap.size + 1) Z uv') := fun y hy => ⟨HU.out.below hy HU.out.lt, (HH.out.u (w.heap.size, T, tv) (by simp)).below hy (HH.out.u (w.heap.size, T, tv) (by simp)).lt, (HH.out.u (w.heap.size + 1, Z, uv') (by simp)).below hy (HH.out.u (w.heap.size + 1, Z, uv') (by simp)).lt⟩
              go_upto_region 15 with (first
                | (refine load_sup _ rfl nb rfl rfl Z zv (GU.out _ (Below.refl _ _)).1 ?_)
                | (refine load_sup _ rfl w.heap.size rfl rfl T tv (GU.out _ (Below.refl _ _)).2.1 ?_)
                | (go_at_call 15; refine sA.mono ?_; rintro e z1 ⟨rfl, e1⟩))
              go_wp2_with (first
                | (refine load_sup _ rfl nb rfl rfl Z zv (GU.out _ e1).1 ?_)
                | (refine load_sup _ rfl (w.heap.size + 1) rfl rfl Z uv' (GU.out _ e1).2.2 ?_)
                | (go_at_call 15; refine (sB _ e1).mono ?_; rintro e z2 ⟨rfl, e2⟩))
              go_ret
              exact ⟨rfl, ((HH.out.called e1).called e2).bel⟩
        · rw [if_pos (by rfl)]
          ((try simp only); (try simp only [List.getElem_toArray]); (try simp only [List.getElem_cons_succ]); (try simp only [List.getElem_cons_zero]); (try simp only [Act.put]); (try simp only [List.setIfInBounds_toArray]); (try simp only [List.set_cons_succ]); (try simp only [List.set_cons_zero]))
          go_simp
          refine hK.out _ _ (g7.called ((Below.refl _ y6).alloc (Nat.le_refl _) (.cells #[.int .i64 0, .int .i64 0, .int .i64 0, .int .i64 0, .slice none 0 0] 24))) (fun g69 => ?_)
          clear hK K
          ((try simp only); (try simp only [List.getElem_toArray]); (try simp only [List.getElem_cons_succ]); (try simp only [List.getElem_cons_zero]); (try simp only [Act.put]); (try simp only [List.setIfInBounds_toArray]); (try simp only [List.set_cons_succ]); (try simp only [List.set_cons_zero]))
          have u70 : HasU (y6.alloc (.cells #[.int .i64 0, .int .i64 0, .int .i64 0, .int .i64 0, .slice none 0 0] 24)) y6.heap.size nilU (.slice none 0 0) := HasU.new y6 nilU _ _ rfl rfl
          have ow71 := ow8.alloc (.cells #[.int .i64 0, .int .i64 0, .int .i64 0, .int .i64 0, .slice none 0 0] 24)
          have bl72 := bl9.alloc bl9.size (.cells #[.int .i64 0, .int .i64 0, .int .i64 0, .int .i64 0, .slice none 0 0] 24)
          have bz73 := bz13.alloc bz13.size (.cells #[.int .i64 0, .int .i64 0, .int .i64 0, .int .i64 0, .slice none 0 0] 24)
          have ng74 := bz13.size
          generalize y6.alloc (.cells #[.int .i64 0, .int .i64 0, .int .i64 0, .int .i64 0, .slice none 0 0] 24) = y68 at *
          refine wpAnyH_ready (rs := [8]) (by kernel_rfl) (by simp) (AllReadyH.cons rfl (fun K hK => ?_) AllReadyH.nil)
          rw [if_pos (by rfl)]
          ((try simp only); (try simp only [List.getElem_toArray]); (try simp only [List.getElem_cons_succ]); (try simp only [List.getElem_cons_zero]); (try simp only [Act.put]); (try simp only [List.setIfInBounds_toArray]); (try simp only [List.set_cons_succ]); (try simp only [List.set_cons_zero]))
          refine wp_append_bytes (.tmp 71) (.tmp 74) rfl y0.heap.size a 512 (.slice a10 a c11) ([] ++ ((enc T).take a)) rfl ow71 ⟨gb, ob, none⟩ (512 - a) (qc - a) ((enc Z).drop a) rfl lZa (cells_none hD0 _) (by rw [List.nil_append, lTa, lZa]; omega) (by omega) bl72.size ?_
          intro a79 c80 y75 ow77 gr81
          have bz82 := bz73.grown gr81 bz73.size (fun k hk => by have := (ow71.lt k hk).1; have := bz0.size; omega)
          obtain ⟨g76', bl78⟩ := Held.grown hHeld rfl bl72 ow71 gr81
          have u83 := u70.same (gr81.block _ u70.lt (own_apart u70 ow71))
          refine hK.out _ _ g76' (fun g76 => ?_)
          clear hK K
          ((try simp only); (try simp only [List.getElem_toArray]); (try simp only [List.getElem_cons_succ]); (try simp only [List.getElem_cons_zero]); (try simp only [Act.put]); (try simp only [List.setIfInBounds_toArray]); (try simp only [List.set_cons_succ]); (try simp only [List.set_cons_zero]))
          refine wpAnyH_ready (rs := [9]) (by kernel_rfl) (by simp) (AllReadyH.cons rfl (fun K hK => ?_) AllReadyH.nil)
          have hc85 : Calls Try.prog 13 #[(.slice a79 512 c80)] y75 (OfTo y75 RR) := (by have hx := of_byt (own_byt ow77); rw [List.nil_append, HRR.out] at hx; exact hx)
          rw [if_pos (by rfl)]
          ((try simp only); (try simp only [List.getElem_toArray]); (try simp only [List.getElem_cons_succ]); (try simp only [List.getElem_cons_zero]); (try simp only [Act.put]); (try simp only [List.setIfInBounds_toArray]); (try simp only [List.set_cons_succ]); (try simp only [List.set_cons_zero]))
          go_simp
          refine hc85.mono ?_
          intro e y84 ho92
          obtain ⟨sv88, rr86, rfl, sn89, hr87, b90⟩ := ho92
          have bz93 := bz82.trans (b90.mono bz82.size)
          have nl94 := u83.lt
          have u95 := u83.below b90 u83.lt
          refine hK.out _ _ (g76.called b90) (fun g91 => ?_)
          clear hK K hc85
          ((try simp only); (try simp only [List.getElem_toArray]); (try simp only [List.getElem_cons_succ]); (try simp only [List.getElem_cons_zero]); (try simp only [Act.put]); (try simp only [List.setIfInBounds_toArray]); (try simp only [List.set_cons_succ]); (try simp only [List.set_cons_zero]))
          refine wpAnyH_take (i := 10) (v := ?_) rfl (by kernel_rfl) (by kernel_rfl) (by kernel_rfl) (fun _ _ _ h => h) (Or.inl ⟨by rfl, ?_⟩) g91 ?_
          case refine_2 => (intro w hSw; (try dsimp only at hSw); go_simp; try (with_reducible rfl))
          ((try simp only); (try simp only [List.getElem_toArray]); (try simp only [List.getElem_cons_succ]); (try simp only [List.getElem_cons_zero]); (try simp only [Act.put]); (try simp only [List.setIfInBounds_toArray]); (try simp only [List.set_cons_succ]); (try simp only [List.set_cons_zero]))
          refine wpAnyH_take (i := 11) (v := ?_) rfl (by kernel_rfl) (by kernel_rfl) (by kernel_rfl) (fun _ _ _ h => h) (Or.inl ⟨by rfl, ?_⟩) g91 ?_
          case refine_2 => (intro w hSw; (try dsimp only at hSw); go_simp; try (with_reducible rfl))
          ((try simp only); (try simp only [List.getElem_toArray]); (try simp only [List.getElem_cons_succ]); (try simp only [List.getElem_cons_zero]); (try simp only [Act.put]); (try simp only [List.setIfInBounds_toArray]); (try simp only [List.set_cons_succ]); (try simp only [List.set_cons_zero]))
          refine wpAnyH_take (i := 12) (v := ?_) rfl (by kernel_rfl) (by kernel_rfl) (by kernel_rfl) (fun _ _ _ h => h) (Or.inl ⟨by rfl, ?_⟩) g91 ?_
          case refine_2 => (intro w hSw; (try dsimp only at hSw); go_simp; try (with_reducible rfl))
          ((try simp only); (try simp only [List.getElem_toArray]); (try simp only [List.getElem_cons_succ]); (try simp only [List.getElem_cons_zero]); (try simp only [Act.put]); (try simp only [List.setIfInBounds_toArray]); (try simp only [List.set_cons_succ]); (try simp only [List.set_cons_zero]))
          refine wpAnyH_ready (rs := [14]) (by kernel_rfl) (by simp) (AllReadyH.cons rfl (fun K hK => ?_) AllReadyH.nil)
          rw [if_pos (by rfl)]
          ((try simp only); (try simp only [List.getElem_toArray]); (try simp only [List.getElem_cons_succ]); (try simp only [List.getElem_cons_zero]); (try simp only [Act.put]); (try simp only [List.setIfInBounds_toArray]); (try simp only [List.set_cons_succ]); (try simp only [List.set_cons_zero]))
          refine store_sup_op _ _ rfl (y6.heap.size) rfl (RR.getD nilU) sv88 rfl sn89.one nilU (.slice none 0 0) u95 ?_
          intro y96 hu98 tx99 sx100
          have bF := below_rowed bz93 tx99 ng74 (Nat.le_refl _)
          have HF := y0h.called bF
          have snF : Sna y96 sv88 (RR.getD nilU).l := ⟨_, sn89.kept fun k hk => tx99.block k (hr87 k hk).2 (by have := hr87 k hk; omega) (by simp), fun k hk => by have := hr87 k hk; omega⟩
          refine hK.out _ _ HF (fun g97 => ?_)
          clear hK K
          ((try simp only); (try simp only [List.getElem_toArray]); (try simp only [List.getElem_cons_succ]); (try simp only [List.getElem_cons_zero]); (try simp only [Act.put]); (try simp only [List.setIfInBounds_toArray]); (try simp only [List.set_cons_succ]); (try simp only [List.set_cons_zero]))
          refine wpAnyH_take (i := 15) (v := ?_) rfl (by kernel_rfl) (by kernel_rfl) (by kernel_rfl) (fun _ _ _ h => h) (Or.inl ⟨by rfl, ?_⟩) g97 ?_
          case refine_2 => (intro w hSw; (try dsimp only at hSw); go_simp; try (with_reducible rfl))
          ((try simp only); (try simp only [List.getElem_toArray]); (try simp only [List.getElem_cons_succ]); (try simp only [List.getElem_cons_zero]); (try simp only [Act.put]); (try simp only [List.setIfInBounds_toArray]); (try simp only [List.set_cons_succ]); (try simp only [List.set_cons_zero]))
          refine wpAnyH_done (by kernel_rfl) ?_ _
          refine NoPanic.normal ?_
          have HH : Hid (Held w y96 [(w.heap.size + 1, Z, uv'), (w.heap.size, T, tv)] [(.slice (some ⟨gb, ob, none⟩) 512 qc, enc Z), (.slice (some ⟨ga, oa, none⟩) 512 pc, enc T)] [(uv', Z.l), (tv, T.l)]) := HF
          have SN : Hid (Sna y96 sv88 (RR.getD nilU).l) := snF
          have HU : Hid (HasU y96 (y6.heap.size) (RR.getD nilU) sv88) := hu98
          clear HF snF hu98 tx99 sx100 bF g97 bz0 y0h hHeld g2 ow3 bl4 bz5 g7 ow8 bl9 gr12 bz13 g69 u70 ow71 bl72 bz73 ng74 g76 ow77 bl78 gr81 bz82 u83 hr87 sn89 b90 g91 bz93 nl94 u95
          generalize y6.heap.size = nb at *
          generalize y96 = z at *
          generalize sv88 = zv at *
          rcases KEY.out with ⟨rfl, h0, h1⟩ | rfl | rfl
          · have q0 : (0 : Int) < (a : Int) := by omega
            have q1 : (a : Int) < 512 := by omega
            have en : code none = 12 := rfl
            have BB := HH.out.bel
            go_wp2
            go_ret
            exact ⟨rfl, BB⟩
          · have ec : code (some T) = 0 := rfl
            have sA := same_calls z T T zv tv SN.out (HH.out.s (tv, T.l) (by simp))
            rw [decide_eq_true (rfl : T = T)] at sA
            have sB : ∀ y, Below z.heap.size z y → Calls Try.prog 15 #[uv T zv, uv Z uv'] y fun e w' => e = .returned (.bool (decide (T = Z))) ∧ Below y.heap.size y w' := fun y hy => same_calls y T Z zv uv' (SN.out.below hy) ((HH.out.s (uv', Z.l) (by simp)).below hy)
            have GU : Hid (∀ y, Below z.heap.size z y → HasU y nb T zv ∧ HasU y w.heap.size T tv ∧ HasU y (w.heap.size + 1) Z uv') := fun y hy => ⟨HU.out.below hy HU.out.lt, (HH.out.u (w.heap.size, T, tv) (by simp)).below hy (HH.out.u (w.heap.size, T, tv) (by simp)).lt, (HH.out.u (w.heap.size + 1, Z, uv') (by simp)).below hy (HH.out.u (w.heap.size + 1, Z, uv') (by simp)).lt⟩
            go_upto_region 15 with (first
              | (refine load_sup _ rfl nb rfl rfl T zv (GU.out _ (Below.refl _ _)).1 ?_)
              | (refine load_sup _ rfl w.heap.size rfl rfl T tv (GU.out _ (Below.refl _ _)).2.1 ?_)
              | (go_at_call 15; refine sA.mono ?_; rintro e z1 ⟨rfl, e1⟩))
            go_wp2_with (first
              | (refine load_sup _ rfl nb rfl rfl T zv (GU.out _ e1).1 ?_)
              | (refine load_sup _ rfl (w.heap.size + 1) rfl rfl Z uv' (GU.out _ e1).2.2 ?_)
              | (go_at_call 15; refine (sB _ e1).mono ?_; rintro e z2 ⟨rfl, e2⟩))
            go_ret
            exact ⟨rfl, ((HH.out.called e1).called e2).bel⟩
          · have ec : code (some Z) = 0 := rfl
            have sA := same_calls z Z T zv tv SN.out (HH.out.s (tv, T.l) (by simp))
            rw [decide_eq_false (fun e : Z = T => HG.out (by rw [e]))] at sA
            have sB : ∀ y, Below z.heap.size z y → Calls Try.prog 15 #[uv Z zv, uv Z uv'] y fun e w' => e = .returned (.bool true) ∧ Below y.heap.size y w' := fun y hy => by
              have := same_calls y Z Z zv uv' (SN.out.below hy) ((HH.out.s (uv', Z.l) (by simp)).below hy)
              rw [decide_eq_true (rfl : Z = Z)] at this
              exact this
            have GU : Hid (∀ y, Below z.heap.size z y → HasU y nb Z zv ∧ HasU y w.heap.size T tv ∧ HasU y (w.heap.size + 1) Z uv') := fun y hy => ⟨HU.out.below hy HU.out.lt, (HH.out.u (w.heap.size, T, tv) (by simp)).below hy (HH.out.u (w.heap.size, T, tv) (by simp)).lt, (HH.out.u (w.heap.size + 1, Z, uv') (by simp)).below hy (HH.out.u (w.heap.size + 1, Z, uv') (by simp)).lt⟩
            go_upto_region 15 with (first
              | (refine load_sup _ rfl nb rfl rfl Z zv (GU.out _ (Below.refl _ _)).1 ?_)
              | (refine load_sup _ rfl w.heap.size rfl rfl T tv (GU.out _ (Below.refl _ _)).2.1 ?_)
              | (go_at_call 15; refine sA.mono ?_; rintro e z1 ⟨rfl, e1⟩))
            go_wp2_with (first
              | (refine load_sup _ rfl nb rfl rfl Z zv (GU.out _ e1).1 ?_)
              | (refine load_sup _ rfl (w.heap.size + 1) rfl rfl Z uv' (GU.out _ e1).2.2 ?_)
              | (go_at_call 15; refine (sB _ e1).mono ?_; rintro e z2 ⟨rfl, e2⟩))
            go_ret
            exact ⟨rfl, ((HH.out.called e1).called e2).bel⟩
      · rw [if_pos (by rfl)]
        ((try simp only); (try simp only [List.getElem_toArray]); (try simp only [List.getElem_cons_succ]); (try simp only [List.getElem_cons_zero]); (try simp only [Act.put]); (try simp only [List.setIfInBounds_toArray]); (try simp only [List.set_cons_succ]); (try simp only [List.set_cons_zero]))
        go_simp
        refine hK.out _ _ (g2.called ((Below.refl _ y1).alloc (Nat.le_refl _) (.cells #[.int .i64 0, .int .i64 0, .int .i64 0, .int .i64 0, .slice none 0 0] 24))) (fun g102 => ?_)
        clear hK K
        ((try simp only); (try simp only [List.getElem_toArray]); (try simp only [List.getElem_cons_succ]); (try simp only [List.getElem_cons_zero]); (try simp only [Act.put]); (try simp only [List.setIfInBounds_toArray]); (try simp only [List.set_cons_succ]); (try simp only [List.set_cons_zero]))
        have u103 : HasU (y1.alloc (.cells #[.int .i64 0, .int .i64 0, .int .i64 0, .int .i64 0, .slice none 0 0] 24)) y1.heap.size nilU (.slice none 0 0) := HasU.new y1 nilU _ _ rfl rfl
        have ow104 := ow3.alloc (.cells #[.int .i64 0, .int .i64 0, .int .i64 0, .int .i64 0, .slice none 0 0] 24)
        have bl105 := bl4.alloc bl4.size (.cells #[.int .i64 0, .int .i64 0, .int .i64 0, .int .i64 0, .slice none 0 0] 24)
        have bz106 := bz5.alloc bz5.size (.cells #[.int .i64 0, .int .i64 0, .int .i64 0, .int .i64 0, .slice none 0 0] 24)
        have ng107 := bz5.size
        generalize y1.alloc (.cells #[.int .i64 0, .int .i64 0, .int .i64 0, .int .i64 0, .slice none 0 0] 24) = y101 at *
        refine wpAnyH_ready (rs := [4]) (by kernel_rfl) (by simp) (AllReadyH.cons rfl (fun K hK => ?_) AllReadyH.nil)
        rw [if_pos (by rfl)]
        ((try simp only); (try simp only [List.getElem_toArray]); (try simp only [List.getElem_cons_succ]); (try simp only [List.getElem_cons_zero]); (try simp only [Act.put]); (try simp only [List.setIfInBounds_toArray]); (try simp only [List.set_cons_succ]); (try simp only [List.set_cons_zero]))
        refine wp_append_bytes (.tmp 67) (.tmp 70) rfl y0.heap.size 0 a (.slice (some ⟨y0.heap.size, 0, none⟩) 0 0) [] rfl ow104 ⟨ga, oa, none⟩ a pc ((enc T).take a) rfl lTa (cells_take (g102.b (Value.slice (some ⟨ga, oa, none⟩) 512 pc, enc T) (by simp))) (by rw [lTa]; simp) (by omega) bl105.size ?_
        intro a112 c113 y108 ow110 gr114
        have bz115 := bz106.grown gr114 bz106.size (fun k hk => by have := (ow104.lt k hk).1; have := bz0.size; omega)
        obtain ⟨g109', bl111⟩ := Held.grown hHeld rfl bl105 ow104 gr114
        have u116 := u103.same (gr114.block _ u103.lt (own_apart u103 ow104))
        refine hK.out _ _ g109' (fun g109 => ?_)
        clear hK K
        ((try simp only); (try simp only [List.getElem_toArray]); (try simp only [List.getElem_cons_succ]); (try simp only [List.getElem_cons_zero]); (try simp only [Act.put]); (try simp only [List.setIfInBounds_toArray]); (try simp only [List.set_cons_succ]); (try simp only [List.set_cons_zero]))
        refine wpAnyH_ready (rs := [8]) (by kernel_rfl) (by simp) (AllReadyH.cons rfl (fun K hK => ?_) AllReadyH.nil)
        rw [if_pos (by rfl)]
        ((try simp only); (try simp only [List.getElem_toArray]); (try simp only [List.getElem_cons_succ]); (try simp only [List.getElem_cons_zero]); (try simp only [Act.put]); (try simp only [List.setIfInBounds_toArray]); (try simp only [List.set_cons_succ]); (try simp only [List.set_cons_zero]))
        refine wp_append_bytes (.tmp 71) (.tmp 74) rfl y0.heap.size a 512 (.slice a112 a c113) ([] ++ ((enc T).take a)) rfl ow110 ⟨gb, ob, none⟩ (512 - a) (qc - a) ((enc Z).drop a) rfl lZa (cells_none hD0 _) (by rw [List.nil_append, lTa, lZa]; omega) (by omega) bl111.size ?_
        intro a121 c122 y117 ow119 gr123
        have bz124 := bz115.grown gr123 bz115.size (fun k hk => by have := (ow110.lt k hk).1; have := bz0.size; omega)
        obtain ⟨g118', bl120⟩ := Held.grown hHeld rfl bl111 ow110 gr123
        have u125 := u116.same (gr123.block _ u116.lt (own_apart u116 ow110))
        refine hK.out _ _ g118' (fun g118 => ?_)
        clear hK K
        ((try simp only); (try simp only [List.getElem_toArray]); (try simp only [List.getElem_cons_succ]); (try simp only [List.getElem_cons_zero]); (try simp only [Act.put]); (try simp only [List.setIfInBounds_toArray]); (try simp only [List.set_cons_succ]); (try simp only [List.set_cons_zero]))
        refine wpAnyH_ready (rs := [9]) (by kernel_rfl) (by simp) (AllReadyH.cons rfl (fun K hK => ?_) AllReadyH.nil)
        have hc127 : Calls Try.prog 13 #[(.slice a121 512 c122)] y117 (OfTo y117 RR) := (by have hx := of_byt (own_byt ow119); rw [List.nil_append, HRR.out] at hx; exact hx)
        rw [if_pos (by rfl)]
        ((try simp only); (try simp only [List.getElem_toArray]); (try simp only [List.getElem_cons_succ]); (try simp only [List.getElem_cons_zero]); (try simp only [Act.put]); (try simp only [List.setIfInBounds_toArray]); (try simp only [List.set_cons_succ]); (try simp only [List.set_cons_zero]))
        go_simp
        refine hc127.mono ?_
        intro e y126 ho134
        obtain ⟨sv130, rr128, rfl, sn131, hr129, b132⟩ := ho134
        have bz135 := bz124.trans (b132.mono bz124.size)
        have nl136 := u125.lt
        have u137 := u125.below b132 u125.lt
        refine hK.out _ _ (g118.called b132) (fun g133 => ?_)
        clear hK K hc127
        ((try simp only); (try simp only [List.getElem_toArray]); (try simp only [List.getElem_cons_succ]); (try simp only [List.getElem_cons_zero]); (try simp only [Act.put]); (try simp only [List.setIfInBounds_toArray]); (try simp only [List.set_cons_succ]); (try simp only [List.set_cons_zero]))
        refine wpAnyH_take (i := 10) (v := ?_) rfl (by kernel_rfl) (by kernel_rfl) (by kernel_rfl) (fun _ _ _ h => h) (Or.inl ⟨by rfl, ?_⟩) g133 ?_
        case refine_2 => (intro w hSw; (try dsimp only at hSw); go_simp; try (with_reducible rfl))
        ((try simp only); (try simp only [List.getElem_toArray]); (try simp only [List.getElem_cons_succ]); (try simp only [List.getElem_cons_zero]); (try simp only [Act.put]); (try simp only [List.setIfInBounds_toArray]); (try simp only [List.set_cons_succ]); (try simp only [List.set_cons_zero]))
        refine wpAnyH_take (i := 11) (v := ?_) rfl (by kernel_rfl) (by kernel_rfl) (by kernel_rfl) (fun _ _ _ h => h) (Or.inl ⟨by rfl, ?_⟩) g133 ?_
        case refine_2 => (intro w hSw; (try dsimp only at hSw); go_simp; try (with_reducible rfl))
        ((try simp only); (try simp only [List.getElem_toArray]); (try simp only [List.getElem_cons_succ]); (try simp only [List.getElem_cons_zero]); (try simp only [Act.put]); (try simp only [List.setIfInBounds_toArray]); (try simp only [List.set_cons_succ]); (try simp only [List.set_cons_zero]))
        refine wpAnyH_take (i := 12) (v := ?_) rfl (by kernel_rfl) (by kernel_rfl) (by kernel_rfl) (fun _ _ _ h => h) (Or.inl ⟨by rfl, ?_⟩) g133 ?_
        case refine_2 => (intro w hSw; (try dsimp only at hSw); go_simp; try (with_reducible rfl))
        ((try simp only); (try simp only [List.getElem_toArray]); (try simp only [List.getElem_cons_succ]); (try simp only [List.getElem_cons_zero]); (try simp only [Act.put]); (try simp only [List.setIfInBounds_toArray]); (try simp only [List.set_cons_succ]); (try simp only [List.set_cons_zero]))
        refine wpAnyH_ready (rs := [14]) (by kernel_rfl) (by simp) (AllReadyH.cons rfl (fun K hK => ?_) AllReadyH.nil)
        rw [if_pos (by rfl)]
        ((try simp only); (try simp only [List.getElem_toArray]); (try simp only [List.getElem_cons_succ]); (try simp only [List.getElem_cons_zero]); (try simp only [Act.put]); (try simp only [List.setIfInBounds_toArray]); (try simp only [List.set_cons_succ]); (try simp only [List.set_cons_zero]))
        refine store_sup_op _ _ rfl (y1.heap.size) rfl (RR.getD nilU) sv130 rfl sn131.one nilU (.slice none 0 0) u137 ?_
        intro y138 hu140 tx141 sx142
        have bF := below_rowed bz135 tx141 ng107 (Nat.le_refl _)
        have HF := y0h.called bF
        have snF : Sna y138 sv130 (RR.getD nilU).l := ⟨_, sn131.kept fun k hk => tx141.block k (hr129 k hk).2 (by have := hr129 k hk; omega) (by simp), fun k hk => by have := hr129 k hk; omega⟩
        refine hK.out _ _ HF (fun g139 => ?_)
        clear hK K
        ((try simp only); (try simp only [List.getElem_toArray]); (try simp only [List.getElem_cons_succ]); (try simp only [List.getElem_cons_zero]); (try simp only [Act.put]); (try simp only [List.setIfInBounds_toArray]); (try simp only [List.set_cons_succ]); (try simp only [List.set_cons_zero]))
        refine wpAnyH_take (i := 15) (v := ?_) rfl (by kernel_rfl) (by kernel_rfl) (by kernel_rfl) (fun _ _ _ h => h) (Or.inl ⟨by rfl, ?_⟩) g139 ?_
        case refine_2 => (intro w hSw; (try dsimp only at hSw); go_simp; try (with_reducible rfl))
        ((try simp only); (try simp only [List.getElem_toArray]); (try simp only [List.getElem_cons_succ]); (try simp only [List.getElem_cons_zero]); (try simp only [Act.put]); (try simp only [List.setIfInBounds_toArray]); (try simp only [List.set_cons_succ]); (try simp only [List.set_cons_zero]))
        refine wpAnyH_done (by kernel_rfl) ?_ _
        refine NoPanic.normal ?_
        have HH : Hid (Held w y138 [(w.heap.size + 1, Z, uv'), (w.heap.size, T, tv)] [(.slice (some ⟨gb, ob, none⟩) 512 qc, enc Z), (.slice (some ⟨ga, oa, none⟩) 512 pc, enc T)] [(uv', Z.l), (tv, T.l)]) := HF
        have SN : Hid (Sna y138 sv130 (RR.getD nilU).l) := snF
        have HU : Hid (HasU y138 (y1.heap.size) (RR.getD nilU) sv130) := hu140
        clear HF snF hu140 tx141 sx142 bF g139 bz0 y0h hHeld g2 ow3 bl4 bz5 g102 u103 ow104 bl105 bz106 ng107 g109 ow110 bl111 gr114 bz115 u116 g118 ow119 bl120 gr123 bz124 u125 hr129 sn131 b132 g133 bz135 nl136 u137
        generalize y1.heap.size = nb at *
        generalize y138 = z at *
        generalize sv130 = zv at *
        rcases KEY.out with ⟨rfl, h0, h1⟩ | rfl | rfl
        · have q0 : (0 : Int) < (a : Int) := by omega
          have q1 : (a : Int) < 512 := by omega
          have en : code none = 12 := rfl
          have BB := HH.out.bel
          go_wp2
          go_ret
          exact ⟨rfl, BB⟩
        · have ec : code (some T) = 0 := rfl
          have sA := same_calls z T T zv tv SN.out (HH.out.s (tv, T.l) (by simp))
          rw [decide_eq_true (rfl : T = T)] at sA
          have sB : ∀ y, Below z.heap.size z y → Calls Try.prog 15 #[uv T zv, uv Z uv'] y fun e w' => e = .returned (.bool (decide (T = Z))) ∧ Below y.heap.size y w' := fun y hy => same_calls y T Z zv uv' (SN.out.below hy) ((HH.out.s (uv', Z.l) (by simp)).below hy)
          have GU : Hid (∀ y, Below z.heap.size z y → HasU y nb T zv ∧ HasU y w.heap.size T tv ∧ HasU y (w.heap.size + 1) Z uv') := fun y hy => ⟨HU.out.below hy HU.out.lt, (HH.out.u (w.heap.size, T, tv) (by simp)).below hy (HH.out.u (w.heap.size, T, tv) (by simp)).lt, (HH.out.u (w.heap.size + 1, Z, uv') (by simp)).below hy (HH.out.u (w.heap.size + 1, Z, uv') (by simp)).lt⟩
          go_upto_region 15 with (first
            | (refine load_sup _ rfl nb rfl rfl T zv (GU.out _ (Below.refl _ _)).1 ?_)
            | (refine load_sup _ rfl w.heap.size rfl rfl T tv (GU.out _ (Below.refl _ _)).2.1 ?_)
            | (go_at_call 15; refine sA.mono ?_; rintro e z1 ⟨rfl, e1⟩))
          go_wp2_with (first
            | (refine load_sup _ rfl nb rfl rfl T zv (GU.out _ e1).1 ?_)
            | (refine load_sup _ rfl (w.heap.size + 1) rfl rfl Z uv' (GU.out _ e1).2.2 ?_)
            | (go_at_call 15; refine (sB _ e1).mono ?_; rintro e z2 ⟨rfl, e2⟩))
          go_ret
          exact ⟨rfl, ((HH.out.called e1).called e2).bel⟩
        · have ec : code (some Z) = 0 := rfl
          have sA := same_calls z Z T zv tv SN.out (HH.out.s (tv, T.l) (by simp))
          rw [decide_eq_false (fun e : Z = T => HG.out (by rw [e]))] at sA
          have sB : ∀ y, Below z.heap.size z y → Calls Try.prog 15 #[uv Z zv, uv Z uv'] y fun e w' => e = .returned (.bool true) ∧ Below y.heap.size y w' := fun y hy => by
            have := same_calls y Z Z zv uv' (SN.out.below hy) ((HH.out.s (uv', Z.l) (by simp)).below hy)
            rw [decide_eq_true (rfl : Z = Z)] at this
            exact this
          have GU : Hid (∀ y, Below z.heap.size z y → HasU y nb Z zv ∧ HasU y w.heap.size T tv ∧ HasU y (w.heap.size + 1) Z uv') := fun y hy => ⟨HU.out.below hy HU.out.lt, (HH.out.u (w.heap.size, T, tv) (by simp)).below hy (HH.out.u (w.heap.size, T, tv) (by simp)).lt, (HH.out.u (w.heap.size + 1, Z, uv') (by simp)).below hy (HH.out.u (w.heap.size + 1, Z, uv') (by simp)).lt⟩
          go_upto_region 15 with (first
            | (refine load_sup _ rfl nb rfl rfl Z zv (GU.out _ (Below.refl _ _)).1 ?_)
            | (refine load_sup _ rfl w.heap.size rfl rfl T tv (GU.out _ (Below.refl _ _)).2.1 ?_)
            | (go_at_call 15; refine sA.mono ?_; rintro e z1 ⟨rfl, e1⟩))
          go_wp2_with (first
            | (refine load_sup _ rfl nb rfl rfl Z zv (GU.out _ e1).1 ?_)
            | (refine load_sup _ rfl (w.heap.size + 1) rfl rfl Z uv' (GU.out _ e1).2.2 ?_)
            | (go_at_call 15; refine (sB _ e1).mono ?_; rintro e z2 ⟨rfl, e2⟩))
          go_ret
          exact ⟨rfl, ((HH.out.called e1).called e2).bel⟩
    · rw [if_pos (by rfl)]
      ((try simp only); (try simp only [List.getElem_toArray]); (try simp only [List.getElem_cons_succ]); (try simp only [List.getElem_cons_zero]); (try simp only [Act.put]); (try simp only [List.setIfInBounds_toArray]); (try simp only [List.set_cons_succ]); (try simp only [List.set_cons_zero]))
      go_simp
      refine hK.out _ _ (hHeld.called ((Below.refl _ y0).alloc (Nat.le_refl _) (.cells #[.int .i64 0, .int .i64 0, .int .i64 0, .int .i64 0, .slice none 0 0] 24))) (fun g144 => ?_)
      clear hK K
      ((try simp only); (try simp only [List.getElem_toArray]); (try simp only [List.getElem_cons_succ]); (try simp only [List.getElem_cons_zero]); (try simp only [Act.put]); (try simp only [List.setIfInBounds_toArray]); (try simp only [List.set_cons_succ]); (try simp only [List.set_cons_zero]))
      have u145 : HasU (y0.alloc (.cells #[.int .i64 0, .int .i64 0, .int .i64 0, .int .i64 0, .slice none 0 0] 24)) y0.heap.size nilU (.slice none 0 0) := HasU.new y0 nilU _ _ rfl rfl
      have bz146 := bz0.alloc bz0.size (.cells #[.int .i64 0, .int .i64 0, .int .i64 0, .int .i64 0, .slice none 0 0] 24)
      have ng147 := bz0.size
      generalize y0.alloc (.cells #[.int .i64 0, .int .i64 0, .int .i64 0, .int .i64 0, .slice none 0 0] 24) = y143 at *
      refine wpAnyH_ready (rs := [0]) (by kernel_rfl) (by simp) (AllReadyH.cons rfl (fun K hK => ?_) AllReadyH.nil)
      rw [if_pos (by rfl)]
      ((try simp only); (try simp only [List.getElem_toArray]); (try simp only [List.getElem_cons_succ]); (try simp only [List.getElem_cons_zero]); (try simp only [Act.put]); (try simp only [List.setIfInBounds_toArray]); (try simp only [List.set_cons_succ]); (try simp only [List.set_cons_zero]))
      go_simp
      refine hK.out _ _ (g144.called ((Below.refl _ y143).alloc (Nat.le_refl _) (.cells #[] 5))) (fun g149 => ?_)
      clear hK K
      ((try simp only); (try simp only [List.getElem_toArray]); (try simp only [List.getElem_cons_succ]); (try simp only [List.getElem_cons_zero]); (try simp only [Act.put]); (try simp only [List.setIfInBounds_toArray]); (try simp only [List.set_cons_succ]); (try simp only [List.set_cons_zero]))
      have bz152 := bz146.alloc bz146.size (.cells #[] 5)
      have ow150 := own_empty y143 y143.heap.size (Nat.le_refl _)
      have bl151 : Below y143.heap.size y143 (y143.alloc (.cells #[] 5)) := (Below.refl _ _).alloc (Nat.le_refl _) _
      have u153 := u145.alloc (.cells #[] 5)
      generalize y143.alloc (.cells #[] 5) = y148 at *
      refine wpAnyH_ready (rs := [4]) (by kernel_rfl) (by simp) (AllReadyH.cons rfl (fun K hK => ?_) AllReadyH.nil)
      rw [if_pos (by rfl)]
      ((try simp only); (try simp only [List.getElem_toArray]); (try simp only [List.getElem_cons_succ]); (try simp only [List.getElem_cons_zero]); (try simp only [Act.put]); (try simp only [List.setIfInBounds_toArray]); (try simp only [List.set_cons_succ]); (try simp only [List.set_cons_zero]))
      refine wp_append_bytes (.tmp 67) (.tmp 70) rfl y143.heap.size 0 a (.slice (some ⟨y143.heap.size, 0, none⟩) 0 0) [] rfl ow150 ⟨ga, oa, none⟩ a pc ((enc T).take a) rfl lTa (cells_take (g149.b (Value.slice (some ⟨ga, oa, none⟩) 512 pc, enc T) (by simp))) (by rw [lTa]; simp) (by omega) bl151.size ?_
      intro a158 c159 y154 ow156 gr160
      have bz161 := bz152.grown gr160 bz152.size (fun k hk => by have := (ow150.lt k hk).1; have := bz146.size; omega)
      obtain ⟨g155', bl157⟩ := Held.grown g144 rfl bl151 ow150 gr160
      have u162 := u153.same (gr160.block _ u153.lt (own_apart u153 ow150))
      refine hK.out _ _ g155' (fun g155 => ?_)
      clear hK K
      ((try simp only); (try simp only [List.getElem_toArray]); (try simp only [List.getElem_cons_succ]); (try simp only [List.getElem_cons_zero]); (try simp only [Act.put]); (try simp only [List.setIfInBounds_toArray]); (try simp only [List.set_cons_succ]); (try simp only [List.set_cons_zero]))
      refine wpAnyH_ready (rs := [8]) (by kernel_rfl) (by simp) (AllReadyH.cons rfl (fun K hK => ?_) AllReadyH.nil)
      rw [if_pos (by rfl)]
      ((try simp only); (try simp only [List.getElem_toArray]); (try simp only [List.getElem_cons_succ]); (try simp only [List.getElem_cons_zero]); (try simp only [Act.put]); (try simp only [List.setIfInBounds_toArray]); (try simp only [List.set_cons_succ]); (try simp only [List.set_cons_zero]))
      refine wp_append_bytes (.tmp 71) (.tmp 74) rfl y143.heap.size a 512 (.slice a158 a c159) ([] ++ ((enc T).take a)) rfl ow156 ⟨gb, ob, none⟩ (512 - a) (qc - a) ((enc Z).drop a) rfl lZa (cells_none hD0 _) (by rw [List.nil_append, lTa, lZa]; omega) (by omega) bl157.size ?_
      intro a167 c168 y163 ow165 gr169
      have bz170 := bz161.grown gr169 bz161.size (fun k hk => by have := (ow156.lt k hk).1; have := bz146.size; omega)
      obtain ⟨g164', bl166⟩ := Held.grown g144 rfl bl157 ow156 gr169
      have u171 := u162.same (gr169.block _ u162.lt (own_apart u162 ow156))
      refine hK.out _ _ g164' (fun g164 => ?_)
      clear hK K
      ((try simp only); (try simp only [List.getElem_toArray]); (try simp only [List.getElem_cons_succ]); (try simp only [List.getElem_cons_zero]); (try simp only [Act.put]); (try simp only [List.setIfInBounds_toArray]); (try simp only [List.set_cons_succ]); (try simp only [List.set_cons_zero]))
      refine wpAnyH_ready (rs := [9]) (by kernel_rfl) (by simp) (AllReadyH.cons rfl (fun K hK => ?_) AllReadyH.nil)
      have hc173 : Calls Try.prog 13 #[(.slice a167 512 c168)] y163 (OfTo y163 RR) := (by have hx := of_byt (own_byt ow165); rw [List.nil_append, HRR.out] at hx; exact hx)
      rw [if_pos (by rfl)]
      ((try simp only); (try simp only [List.getElem_toArray]); (try simp only [List.getElem_cons_succ]); (try simp only [List.getElem_cons_zero]); (try simp only [Act.put]); (try simp only [List.setIfInBounds_toArray]); (try simp only [List.set_cons_succ]); (try simp only [List.set_cons_zero]))
      go_simp
      refine hc173.mono ?_
      intro e y172 ho180
      obtain ⟨sv176, rr174, rfl, sn177, hr175, b178⟩ := ho180
      have bz181 := bz170.trans (b178.mono bz170.size)
      have nl182 := u171.lt
      have u183 := u171.below b178 u171.lt
      refine hK.out _ _ (g164.called b178) (fun g179 => ?_)
      clear hK K hc173
      ((try simp only); (try simp only [List.getElem_toArray]); (try simp only [List.getElem_cons_succ]); (try simp only [List.getElem_cons_zero]); (try simp only [Act.put]); (try simp only [List.setIfInBounds_toArray]); (try simp only [List.set_cons_succ]); (try simp only [List.set_cons_zero]))
      refine wpAnyH_take (i := 10) (v := ?_) rfl (by kernel_rfl) (by kernel_rfl) (by kernel_rfl) (fun _ _ _ h => h) (Or.inl ⟨by rfl, ?_⟩) g179 ?_
      case refine_2 => (intro w hSw; (try dsimp only at hSw); go_simp; try (with_reducible rfl))
      ((try simp only); (try simp only [List.getElem_toArray]); (try simp only [List.getElem_cons_succ]); (try simp only [List.getElem_cons_zero]); (try simp only [Act.put]); (try simp only [List.setIfInBounds_toArray]); (try simp only [List.set_cons_succ]); (try simp only [List.set_cons_zero]))
      refine wpAnyH_take (i := 11) (v := ?_) rfl (by kernel_rfl) (by kernel_rfl) (by kernel_rfl) (fun _ _ _ h => h) (Or.inl ⟨by rfl, ?_⟩) g179 ?_
      case refine_2 => (intro w hSw; (try dsimp only at hSw); go_simp; try (with_reducible rfl))
      ((try simp only); (try simp only [List.getElem_toArray]); (try simp only [List.getElem_cons_succ]); (try simp only [List.getElem_cons_zero]); (try simp only [Act.put]); (try simp only [List.setIfInBounds_toArray]); (try simp only [List.set_cons_succ]); (try simp only [List.set_cons_zero]))
      refine wpAnyH_take (i := 12) (v := ?_) rfl (by kernel_rfl) (by kernel_rfl) (by kernel_rfl) (fun _ _ _ h => h) (Or.inl ⟨by rfl, ?_⟩) g179 ?_
      case refine_2 => (intro w hSw; (try dsimp only at hSw); go_simp; try (with_reducible rfl))
      ((try simp only); (try simp only [List.getElem_toArray]); (try simp only [List.getElem_cons_succ]); (try simp only [List.getElem_cons_zero]); (try simp only [Act.put]); (try simp only [List.setIfInBounds_toArray]); (try simp only [List.set_cons_succ]); (try simp only [List.set_cons_zero]))
      refine wpAnyH_ready (rs := [14]) (by kernel_rfl) (by simp) (AllReadyH.cons rfl (fun K hK => ?_) AllReadyH.nil)
      rw [if_pos (by rfl)]
      ((try simp only); (try simp only [List.getElem_toArray]); (try simp only [List.getElem_cons_succ]); (try simp only [List.getElem_cons_zero]); (try simp only [Act.put]); (try simp only [List.setIfInBounds_toArray]); (try simp only [List.set_cons_succ]); (try simp only [List.set_cons_zero]))
      refine store_sup_op _ _ rfl (y0.heap.size) rfl (RR.getD nilU) sv176 rfl sn177.one nilU (.slice none 0 0) u183 ?_
      intro y184 hu186 tx187 sx188
      have bF := below_rowed bz181 tx187 ng147 (Nat.le_refl _)
      have HF := y0h.called bF
      have snF : Sna y184 sv176 (RR.getD nilU).l := ⟨_, sn177.kept fun k hk => tx187.block k (hr175 k hk).2 (by have := hr175 k hk; omega) (by simp), fun k hk => by have := hr175 k hk; omega⟩
      refine hK.out _ _ HF (fun g185 => ?_)
      clear hK K
      ((try simp only); (try simp only [List.getElem_toArray]); (try simp only [List.getElem_cons_succ]); (try simp only [List.getElem_cons_zero]); (try simp only [Act.put]); (try simp only [List.setIfInBounds_toArray]); (try simp only [List.set_cons_succ]); (try simp only [List.set_cons_zero]))
      refine wpAnyH_take (i := 15) (v := ?_) rfl (by kernel_rfl) (by kernel_rfl) (by kernel_rfl) (fun _ _ _ h => h) (Or.inl ⟨by rfl, ?_⟩) g185 ?_
      case refine_2 => (intro w hSw; (try dsimp only at hSw); go_simp; try (with_reducible rfl))
      ((try simp only); (try simp only [List.getElem_toArray]); (try simp only [List.getElem_cons_succ]); (try simp only [List.getElem_cons_zero]); (try simp only [Act.put]); (try simp only [List.setIfInBounds_toArray]); (try simp only [List.set_cons_succ]); (try simp only [List.set_cons_zero]))
      refine wpAnyH_done (by kernel_rfl) ?_ _
      refine NoPanic.normal ?_
      have HH : Hid (Held w y184 [(w.heap.size + 1, Z, uv'), (w.heap.size, T, tv)] [(.slice (some ⟨gb, ob, none⟩) 512 qc, enc Z), (.slice (some ⟨ga, oa, none⟩) 512 pc, enc T)] [(uv', Z.l), (tv, T.l)]) := HF
      have SN : Hid (Sna y184 sv176 (RR.getD nilU).l) := snF
      have HU : Hid (HasU y184 (y0.heap.size) (RR.getD nilU) sv176) := hu186
      clear HF snF hu186 tx187 sx188 bF g185 bz0 y0h hHeld g144 u145 bz146 ng147 g149 ow150 bl151 bz152 u153 g155 ow156 bl157 gr160 bz161 u162 g164 ow165 bl166 gr169 bz170 u171 hr175 sn177 b178 g179 bz181 nl182 u183
      generalize y0.heap.size = nb at *
      generalize y184 = z at *
      generalize sv176 = zv at *
      rcases KEY.out with ⟨rfl, h0, h1⟩ | rfl | rfl
      · have q0 : (0 : Int) < (a : Int) := by omega
        have q1 : (a : Int) < 512 := by omega
        have en : code none = 12 := rfl
        have BB := HH.out.bel
        go_wp2
        go_ret
        exact ⟨rfl, BB⟩
      · have ec : code (some T) = 0 := rfl
        have sA := same_calls z T T zv tv SN.out (HH.out.s (tv, T.l) (by simp))
        rw [decide_eq_true (rfl : T = T)] at sA
        have sB : ∀ y, Below z.heap.size z y → Calls Try.prog 15 #[uv T zv, uv Z uv'] y fun e w' => e = .returned (.bool (decide (T = Z))) ∧ Below y.heap.size y w' := fun y hy => same_calls y T Z zv uv' (SN.out.below hy) ((HH.out.s (uv', Z.l) (by simp)).below hy)
        have GU : Hid (∀ y, Below z.heap.size z y → HasU y nb T zv ∧ HasU y w.heap.size T tv ∧ HasU y (w.heap.size + 1) Z uv') := fun y hy => ⟨HU.out.below hy HU.out.lt, (HH.out.u (w.heap.size, T, tv) (by simp)).below hy (HH.out.u (w.heap.size, T, tv) (by simp)).lt, (HH.out.u (w.heap.size + 1, Z, uv') (by simp)).below hy (HH.out.u (w.heap.size + 1, Z, uv') (by simp)).lt⟩
        go_upto_region 15 with (first
          | (refine load_sup _ rfl nb rfl rfl T zv (GU.out _ (Below.refl _ _)).1 ?_)
          | (refine load_sup _ rfl w.heap.size rfl rfl T tv (GU.out _ (Below.refl _ _)).2.1 ?_)
          | (go_at_call 15; refine sA.mono ?_; rintro e z1 ⟨rfl, e1⟩))
        go_wp2_with (first
          | (refine load_sup _ rfl nb rfl rfl T zv (GU.out _ e1).1 ?_)
          | (refine load_sup _ rfl (w.heap.size + 1) rfl rfl Z uv' (GU.out _ e1).2.2 ?_)
          | (go_at_call 15; refine (sB _ e1).mono ?_; rintro e z2 ⟨rfl, e2⟩))
        go_ret
        exact ⟨rfl, ((HH.out.called e1).called e2).bel⟩
      · have ec : code (some Z) = 0 := rfl
        have sA := same_calls z Z T zv tv SN.out (HH.out.s (tv, T.l) (by simp))
        rw [decide_eq_false (fun e : Z = T => HG.out (by rw [e]))] at sA
        have sB : ∀ y, Below z.heap.size z y → Calls Try.prog 15 #[uv Z zv, uv Z uv'] y fun e w' => e = .returned (.bool true) ∧ Below y.heap.size y w' := fun y hy => by
          have := same_calls y Z Z zv uv' (SN.out.below hy) ((HH.out.s (uv', Z.l) (by simp)).below hy)
          rw [decide_eq_true (rfl : Z = Z)] at this
          exact this
        have GU : Hid (∀ y, Below z.heap.size z y → HasU y nb Z zv ∧ HasU y w.heap.size T tv ∧ HasU y (w.heap.size + 1) Z uv') := fun y hy => ⟨HU.out.below hy HU.out.lt, (HH.out.u (w.heap.size, T, tv) (by simp)).below hy (HH.out.u (w.heap.size, T, tv) (by simp)).lt, (HH.out.u (w.heap.size + 1, Z, uv') (by simp)).below hy (HH.out.u (w.heap.size + 1, Z, uv') (by simp)).lt⟩
        go_upto_region 15 with (first
          | (refine load_sup _ rfl nb rfl rfl Z zv (GU.out _ (Below.refl _ _)).1 ?_)
          | (refine load_sup _ rfl w.heap.size rfl rfl T tv (GU.out _ (Below.refl _ _)).2.1 ?_)
          | (go_at_call 15; refine sA.mono ?_; rintro e z1 ⟨rfl, e1⟩))
        go_wp2_with (first
          | (refine load_sup _ rfl nb rfl rfl Z zv (GU.out _ e1).1 ?_)
          | (refine load_sup _ rfl (w.heap.size + 1) rfl rfl Z uv' (GU.out _ e1).2.2 ?_)
          | (go_at_call 15; refine (sB _ e1).mono ?_; rintro e z2 ⟨rfl, e2⟩))
        go_ret
        exact ⟨rfl, ((HH.out.called e1).called e2).bel⟩
  · have hqa : (qc = a) = False := by simp [hqa0]
    clear hqa0
    refine wp_region_noPanic ?_
    refine wp_region_held_drew (S := (fun y => Held w y [(w.heap.size + 1, Z, uv'), (w.heap.size, T, tv)] [(.slice (some ⟨gb, ob, none⟩) 512 qc, enc Z), (.slice (some ⟨ga, oa, none⟩) 512 pc, enc T)] [(uv', Z.l), (tv, T.l)])) (by kernel_rfl) (H7.called (below_drewN (Below.refl _ w7) 1)) (fun hHeld => ?_)
    have y0h := hHeld
    refine wpAnyH_take (i := 1) (v := ?_) rfl (by kernel_rfl) (by kernel_rfl) (by kernel_rfl) (fun _ _ _ h => h) (Or.inl ⟨by rfl, ?_⟩) hHeld ?_
    case refine_2 => (intro w hSw; (try dsimp only at hSw); go_simp; try (with_reducible rfl))
    ((try simp only); (try simp only [List.getElem_toArray]); (try simp only [List.getElem_cons_succ]); (try simp only [List.getElem_cons_zero]); (try simp only [Act.put]); (try simp only [List.setIfInBounds_toArray]); (try simp only [List.set_cons_succ]); (try simp only [List.set_cons_zero]))
    refine wpAnyH_take (i := 2) (v := ?_) rfl (by kernel_rfl) (by kernel_rfl) (by kernel_rfl) (fun _ _ _ h => h) (Or.inl ⟨by rfl, ?_⟩) hHeld ?_
    case refine_2 => (intro w hSw; (try dsimp only at hSw); go_simp; try (with_reducible rfl))
    ((try simp only); (try simp only [List.getElem_toArray]); (try simp only [List.getElem_cons_succ]); (try simp only [List.getElem_cons_zero]); (try simp only [Act.put]); (try simp only [List.setIfInBounds_toArray]); (try simp only [List.set_cons_succ]); (try simp only [List.set_cons_zero]))
    refine wpAnyH_take (i := 3) (v := ?_) rfl (by kernel_rfl) (by kernel_rfl) (by kernel_rfl) (fun _ _ _ h => h) (Or.inl ⟨by rfl, ?_⟩) hHeld ?_
    case refine_2 => (intro w hSw; (try dsimp only at hSw); go_simp; try (with_reducible rfl))
    ((try simp only); (try simp only [List.getElem_toArray]); (try simp only [List.getElem_cons_succ]); (try simp only [List.getElem_cons_zero]); (try simp only [Act.put]); (try simp only [List.setIfInBounds_toArray]); (try simp only [List.set_cons_succ]); (try simp only [List.set_cons_zero]))
    refine wpAnyH_take (i := 5) (v := ?_) rfl (by kernel_rfl) (by kernel_rfl) (by kernel_rfl) (fun _ _ _ h => h) (Or.inl ⟨by rfl, ?_⟩) hHeld ?_
    case refine_2 => (intro w hSw; (try dsimp only at hSw); go_simp; try (with_reducible rfl))
    ((try simp only); (try simp only [List.getElem_toArray]); (try simp only [List.getElem_cons_succ]); (try simp only [List.getElem_cons_zero]); (try simp only [Act.put]); (try simp only [List.setIfInBounds_toArray]); (try simp only [List.set_cons_succ]); (try simp only [List.set_cons_zero]))
    refine wpAnyH_take (i := 6) (v := ?_) rfl (by kernel_rfl) (by kernel_rfl) (by kernel_rfl) (fun _ _ _ h => h) (Or.inl ⟨by rfl, ?_⟩) hHeld ?_
    case refine_2 => (intro w hSw; (try dsimp only at hSw); go_simp; try (with_reducible rfl))
    ((try simp only); (try simp only [List.getElem_toArray]); (try simp only [List.getElem_cons_succ]); (try simp only [List.getElem_cons_zero]); (try simp only [Act.put]); (try simp only [List.setIfInBounds_toArray]); (try simp only [List.set_cons_succ]); (try simp only [List.set_cons_zero]))
    refine wpAnyH_take (i := 7) (v := ?_) rfl (by kernel_rfl) (by kernel_rfl) (by kernel_rfl) (fun _ _ _ h => h) (Or.inl ⟨by rfl, ?_⟩) hHeld ?_
    case refine_2 => (intro w hSw; (try dsimp only at hSw); go_simp; try (with_reducible rfl))
    ((try simp only); (try simp only [List.getElem_toArray]); (try simp only [List.getElem_cons_succ]); (try simp only [List.getElem_cons_zero]); (try simp only [Act.put]); (try simp only [List.setIfInBounds_toArray]); (try simp only [List.set_cons_succ]); (try simp only [List.set_cons_zero]))
    generalize w7.drew = y0 at *
    have bz0 : Below y0.heap.size y0 y0 := Below.refl _ _
    refine wpAnyH_ready (rs := [0, 13]) (by kernel_rfl) (by simp) (AllReadyH.cons rfl (fun K hK => ?_) (AllReadyH.cons rfl (fun K hK => ?_) AllReadyH.nil))
    · rw [if_pos (by rfl)]
      ((try simp only); (try simp only [List.getElem_toArray]); (try simp only [List.getElem_cons_succ]); (try simp only [List.getElem_cons_zero]); (try simp only [Act.put]); (try simp only [List.setIfInBounds_toArray]); (try simp only [List.set_cons_succ]); (try simp only [List.set_cons_zero]))
      go_simp
      refine hK.out _ _ (hHeld.called ((Below.refl _ y0).alloc (Nat.le_refl _) (.cells #[] 5))) (fun g2 => ?_)
      clear hK K
      ((try simp only); (try simp only [List.getElem_toArray]); (try simp only [List.getElem_cons_succ]); (try simp only [List.getElem_cons_zero]); (try simp only [Act.put]); (try simp only [List.setIfInBounds_toArray]); (try simp only [List.set_cons_succ]); (try simp only [List.set_cons_zero]))
      have bz5 := bz0.alloc bz0.size (.cells #[] 5)
      have ow3 := own_empty y0 y0.heap.size (Nat.le_refl _)
      have bl4 : Below y0.heap.size y0 (y0.alloc (.cells #[] 5)) := (Below.refl _ _).alloc (Nat.le_refl _) _
      generalize y0.alloc (.cells #[] 5) = y1 at *
      refine wpAnyH_ready (rs := [4, 13]) (by kernel_rfl) (by simp) (AllReadyH.cons rfl (fun K hK => ?_) (AllReadyH.cons rfl (fun K hK => ?_) AllReadyH.nil))
      · rw [if_pos (by rfl)]
        ((try simp only); (try simp only [List.getElem_toArray]); (try simp only [List.getElem_cons_succ]); (try simp only [List.getElem_cons_zero]); (try simp only [Act.put]); (try simp only [List.setIfInBounds_toArray]); (try simp only [List.set_cons_succ]); (try simp only [List.set_cons_zero]))
        refine wp_append_bytes (.tmp 67) (.tmp 70) rfl y0.heap.size 0 a (.slice (some ⟨y0.heap.size, 0, none⟩) 0 0) [] rfl ow3 ⟨ga, oa, none⟩ a pc ((enc T).take a) rfl lTa (cells_take (g2.b (Value.slice (some ⟨ga, oa, none⟩) 512 pc, enc T) (by simp))) (by rw [lTa]; simp) (by omega) bl4.size ?_
        intro a10 c11 y6 ow8 gr12
        have bz13 := bz5.grown gr12 bz5.size (fun k hk => by have := (ow3.lt k hk).1; have := bz0.size; omega)
        obtain ⟨g7', bl9⟩ := Held.grown hHeld rfl bl4 ow3 gr12
        refine hK.out _ _ g7' (fun g7 => ?_)
        clear hK K
        ((try simp only); (try simp only [List.getElem_toArray]); (try simp only [List.getElem_cons_succ]); (try simp only [List.getElem_cons_zero]); (try simp only [Act.put]); (try simp only [List.setIfInBounds_toArray]); (try simp only [List.set_cons_succ]); (try simp only [List.set_cons_zero]))
        refine wpAnyH_ready (rs := [8, 13]) (by kernel_rfl) (by simp) (AllReadyH.cons rfl (fun K hK => ?_) (AllReadyH.cons rfl (fun K hK => ?_) AllReadyH.nil))
        · rw [if_pos (by rfl)]
          ((try simp only); (try simp only [List.getElem_toArray]); (try simp only [List.getElem_cons_succ]); (try simp only [List.getElem_cons_zero]); (try simp only [Act.put]); (try simp only [List.setIfInBounds_toArray]); (try simp only [List.set_cons_succ]); (try simp only [List.set_cons_zero]))
          refine wp_append_bytes (.tmp 71) (.tmp 74) rfl y0.heap.size a 512 (.slice a10 a c11) ([] ++ ((enc T).take a)) rfl ow8 ⟨gb, ob + a, none⟩ (512 - a) (qc - a) ((enc Z).drop a) rfl lZa (cells_drop (g7.b (Value.slice (some ⟨gb, ob, none⟩) 512 qc, enc Z) (by simp))) (by rw [List.nil_append, lTa, lZa]; omega) (by omega) bl9.size ?_
          intro a18 c19 y14 ow16 gr20
          have bz21 := bz13.grown gr20 bz13.size (fun k hk => by have := (ow8.lt k hk).1; have := bz0.size; omega)
          obtain ⟨g15', bl17⟩ := Held.grown hHeld rfl bl9 ow8 gr20
          refine hK.out _ _ g15' (fun g15 => ?_)
          clear hK K
          ((try simp only); (try simp only [List.getElem_toArray]); (try simp only [List.getElem_cons_succ]); (try simp only [List.getElem_cons_zero]); (try simp only [Act.put]); (try simp only [List.setIfInBounds_toArray]); (try simp only [List.set_cons_succ]); (try simp only [List.set_cons_zero]))
          refine wpAnyH_ready (rs := [9, 13]) (by kernel_rfl) (by simp) (AllReadyH.cons rfl (fun K hK => ?_) (AllReadyH.cons rfl (fun K hK => ?_) AllReadyH.nil))
          · have hc23 : Calls Try.prog 13 #[(.slice a18 512 c19)] y14 (OfTo y14 RR) := (by have hx := of_byt (own_byt ow16); rw [List.nil_append, HRR.out] at hx; exact hx)
            rw [if_pos (by rfl)]
            ((try simp only); (try simp only [List.getElem_toArray]); (try simp only [List.getElem_cons_succ]); (try simp only [List.getElem_cons_zero]); (try simp only [Act.put]); (try simp only [List.setIfInBounds_toArray]); (try simp only [List.set_cons_succ]); (try simp only [List.set_cons_zero]))
            go_simp
            refine hc23.mono ?_
            intro e y22 ho30
            obtain ⟨sv26, rr24, rfl, sn27, hr25, b28⟩ := ho30
            have bz31 := bz21.trans (b28.mono bz21.size)
            refine hK.out _ _ (g15.called b28) (fun g29 => ?_)
            clear hK K hc23
            ((try simp only); (try simp only [List.getElem_toArray]); (try simp only [List.getElem_cons_succ]); (try simp only [List.getElem_cons_zero]); (try simp only [Act.put]); (try simp only [List.setIfInBounds_toArray]); (try simp only [List.set_cons_succ]); (try simp only [List.set_cons_zero]))
            refine wpAnyH_take (i := 10) (v := ?_) rfl (by kernel_rfl) (by kernel_rfl) (by kernel_rfl) (fun _ _ _ h => h) (Or.inl ⟨by rfl, ?_⟩) g29 ?_
            case refine_2 => (intro w hSw; (try dsimp only at hSw); go_simp; try (with_reducible rfl))
            ((try simp only); (try simp only [List.getElem_toArray]); (try simp only [List.getElem_cons_succ]); (try simp only [List.getElem_cons_zero]); (try simp only [Act.put]); (try simp only [List.setIfInBounds_toArray]); (try simp only [List.set_cons_succ]); (try simp only [List.set_cons_zero]))
            refine wpAnyH_take (i := 11) (v := ?_) rfl (by kernel_rfl) (by kernel_rfl) (by kernel_rfl) (fun _ _ _ h => h) (Or.inl ⟨by rfl, ?_⟩) g29 ?_
            case refine_2 => (intro w hSw; (try dsimp only at hSw); go_simp; try (with_reducible rfl))
            ((try simp only); (try simp only [List.getElem_toArray]); (try simp only [List.getElem_cons_succ]); (try simp only [List.getElem_cons_zero]); (try simp only [Act.put]); (try simp only [List.setIfInBounds_toArray]); (try simp only [List.set_cons_succ]); (try simp only [List.set_cons_zero]))
            refine wpAnyH_take (i := 12) (v := ?_) rfl (by kernel_rfl) (by kernel_rfl) (by kernel_rfl) (fun _ _ _ h => h) (Or.inl ⟨by rfl, ?_⟩) g29 ?_
            case refine_2 => (intro w hSw; (try dsimp only at hSw); go_simp; try (with_reducible rfl))
            ((try simp only); (try simp only [List.getElem_toArray]); (try simp only [List.getElem_cons_succ]); (try simp only [List.getElem_cons_zero]); (try simp only [Act.put]); (try simp only [List.setIfInBounds_toArray]); (try simp only [List.set_cons_succ]); (try simp only [List.set_cons_zero]))
            refine wpAnyH_ready (rs := [13]) (by kernel_rfl) (by simp) (AllReadyH.cons rfl (fun K hK => ?_) AllReadyH.nil)
            rw [if_pos (by rfl)]
            ((try simp only); (try simp only [List.getElem_toArray]); (try simp only [List.getElem_cons_succ]); (try simp only [List.getElem_cons_zero]); (try simp only [Act.put]); (try simp only [List.setIfInBounds_toArray]); (try simp only [List.set_cons_succ]); (try simp only [List.set_cons_zero]))
            go_simp
            refine hK.out _ _ (g29.called ((Below.refl _ y22).alloc (Nat.le_refl _) (.cells #[.int .i64 0, .int .i64 0, .int .i64 0, .int .i64 0, .slice none 0 0] 24))) (fun g33 => ?_)
            clear hK K
            ((try simp only); (try simp only [List.getElem_toArray]); (try simp only [List.getElem_cons_succ]); (try simp only [List.getElem_cons_zero]); (try simp only [Act.put]); (try simp only [List.setIfInBounds_toArray]); (try simp only [List.set_cons_succ]); (try simp only [List.set_cons_zero]))
            have u34 : HasU (y22.alloc (.cells #[.int .i64 0, .int .i64 0, .int .i64 0, .int .i64 0, .slice none 0 0] 24)) y22.heap.size nilU (.slice none 0 0) := HasU.new y22 nilU _ _ rfl rfl
            have sn35 := sn27.below ((Below.refl _ y22).alloc (Nat.le_refl _) (.cells #[.int .i64 0, .int .i64 0, .int .i64 0, .int .i64 0, .slice none 0 0] 24)) (fun k hk => (hr25 k hk).2)
            have lt36 : y22.heap.size < (y22.alloc (.cells #[.int .i64 0, .int .i64 0, .int .i64 0, .int .i64 0, .slice none 0 0] 24)).heap.size := by simp
            have bz37 := bz31.alloc bz31.size (.cells #[.int .i64 0, .int .i64 0, .int .i64 0, .int .i64 0, .slice none 0 0] 24)
            have ng38 := bz31.size
            generalize y22.alloc (.cells #[.int .i64 0, .int .i64 0, .int .i64 0, .int .i64 0, .slice none 0 0] 24) = y32 at *
            refine wpAnyH_ready (rs := [14]) (by kernel_rfl) (by simp) (AllReadyH.cons rfl (fun K hK => ?_) AllReadyH.nil)
            rw [if_pos (by rfl)]
            ((try simp only); (try simp only [List.getElem_toArray]); (try simp only [List.getElem_cons_succ]); (try simp only [List.getElem_cons_zero]); (try simp only [Act.put]); (try simp only [List.setIfInBounds_toArray]); (try simp only [List.set_cons_succ]); (try simp only [List.set_cons_zero]))
            refine store_sup_op _ _ rfl (y22.heap.size) rfl (RR.getD nilU) sv26 rfl sn35.one nilU (.slice none 0 0) u34 ?_
            intro y39 hu41 tx42 sx43
            have bF := below_rowed bz37 tx42 ng38 (Nat.le_refl _)
            have HF := y0h.called bF
            have snF : Sna y39 sv26 (RR.getD nilU).l := ⟨_, sn35.kept fun k hk => tx42.block k (by have := hr25 k hk; omega) (by have := hr25 k hk; omega) (by simp), fun k hk => by have := hr25 k hk; omega⟩
            refine hK.out _ _ HF (fun g40 => ?_)
            clear hK K
            ((try simp only); (try simp only [List.getElem_toArray]); (try simp only [List.getElem_cons_succ]); (try simp only [List.getElem_cons_zero]); (try simp only [Act.put]); (try simp only [List.setIfInBounds_toArray]); (try simp only [List.set_cons_succ]); (try simp only [List.set_cons_zero]))
            refine wpAnyH_take (i := 15) (v := ?_) rfl (by kernel_rfl) (by kernel_rfl) (by kernel_rfl) (fun _ _ _ h => h) (Or.inl ⟨by rfl, ?_⟩) g40 ?_
            case refine_2 => (intro w hSw; (try dsimp only at hSw); go_simp; try (with_reducible rfl))
            ((try simp only); (try simp only [List.getElem_toArray]); (try simp only [List.getElem_cons_succ]); (try simp only [List.getElem_cons_zero]); (try simp only [Act.put]); (try simp only [List.setIfInBounds_toArray]); (try simp only [List.set_cons_succ]); (try simp only [List.set_cons_zero]))
            refine wpAnyH_done (by kernel_rfl) ?_ _
            refine NoPanic.normal ?_
            have HH : Hid (Held w y39 [(w.heap.size + 1, Z, uv'), (w.heap.size, T, tv)] [(.slice (some ⟨gb, ob, none⟩) 512 qc, enc Z), (.slice (some ⟨ga, oa, none⟩) 512 pc, enc T)] [(uv', Z.l), (tv, T.l)]) := HF
            have SN : Hid (Sna y39 sv26 (RR.getD nilU).l) := snF
            have HU : Hid (HasU y39 (y22.heap.size) (RR.getD nilU) sv26) := hu41
            clear HF snF hu41 tx42 sx43 bF g40 bz0 y0h hHeld g2 ow3 bl4 bz5 g7 ow8 bl9 gr12 bz13 g15 ow16 bl17 gr20 bz21 hr25 sn27 b28 g29 bz31 g33 u34 sn35 lt36 bz37 ng38
            generalize y22.heap.size = nb at *
            generalize y39 = z at *
            generalize sv26 = zv at *
            rcases KEY.out with ⟨rfl, h0, h1⟩ | rfl | rfl
            · have q0 : (0 : Int) < (a : Int) := by omega
              have q1 : (a : Int) < 512 := by omega
              have en : code none = 12 := rfl
              have BB := HH.out.bel
              go_wp2
              go_ret
              exact ⟨rfl, BB⟩
            · have ec : code (some T) = 0 := rfl
              have sA := same_calls z T T zv tv SN.out (HH.out.s (tv, T.l) (by simp))
              rw [decide_eq_true (rfl : T = T)] at sA
              have sB : ∀ y, Below z.heap.size z y → Calls Try.prog 15 #[uv T zv, uv Z uv'] y fun e w' => e = .returned (.bool (decide (T = Z))) ∧ Below y.heap.size y w' := fun y hy => same_calls y T Z zv uv' (SN.out.below hy) ((HH.out.s (uv', Z.l) (by simp)).below hy)
              have GU : Hid (∀ y, Below z.heap.size z y → HasU y nb T zv ∧ HasU y w.heap.size T tv ∧ HasU y (w.heap.size + 1) Z uv') := fun y hy => ⟨HU.out.below hy HU.out.lt, (HH.out.u (w.heap.size, T, tv) (by simp)).below hy (HH.out.u (w.heap.size, T, tv) (by simp)).lt, (HH.out.u (w.heap.size + 1, Z, uv') (by simp)).below hy (HH.out.u (w.heap.size + 1, Z, uv') (by simp)).lt⟩
              go_upto_region 15 with (first
                | (refine load_sup _ rfl nb rfl rfl T zv (GU.out _ (Below.refl _ _)).1 ?_)
                | (refine load_sup _ rfl w.heap.size rfl rfl T tv (GU.out _ (Below.refl _ _)).2.1 ?_)
                | (go_at_call 15; refine sA.mono ?_; rintro e z1 ⟨rfl, e1⟩))
              go_wp2_with (first
                | (refine load_sup _ rfl nb rfl rfl T zv (GU.out _ e1).1 ?_)
                | (refine load_sup _ rfl (w.heap.size + 1) rfl rfl Z uv' (GU.out _ e1).2.2 ?_)
                | (go_at_call 15; refine (sB _ e1).mono ?_; rintro e z2 ⟨rfl, e2⟩))
              go_ret
              exact ⟨rfl, ((HH.out.called e1).called e2).bel⟩
            · have ec : code (some Z) = 0 := rfl
              have sA := same_calls z Z T zv tv SN.out (HH.out.s (tv, T.l) (by simp))
              rw [decide_eq_false (fun e : Z = T => HG.out (by rw [e]))] at sA
              have sB : ∀ y, Below z.heap.size z y → Calls Try.prog 15 #[uv Z zv, uv Z uv'] y fun e w' => e = .returned (.bool true) ∧ Below y.heap.size y w' := fun y hy => by
                have := same_calls y Z Z zv uv' (SN.out.below hy) ((HH.out.s (uv', Z.l) (by simp)).below hy)
                rw [decide_eq_true (rfl : Z = Z)] at this
                exact this
              have GU : Hid (∀ y, Below z.heap.size z y → HasU y nb Z zv ∧ HasU y w.heap.size T tv ∧ HasU y (w.heap.size + 1) Z uv') := fun y hy => ⟨HU.out.below hy HU.out.lt, (HH.out.u (w.heap.size, T, tv) (by simp)).below hy (HH.out.u (w.heap.size, T, tv) (by simp)).lt, (HH.out.u (w.heap.size + 1, Z, uv') (by simp)).below hy (HH.out.u (w.heap.size + 1, Z, uv') (by simp)).lt⟩
              go_upto_region 15 with (first
                | (refine load_sup _ rfl nb rfl rfl Z zv (GU.out _ (Below.refl _ _)).1 ?_)
                | (refine load_sup _ rfl w.heap.size rfl rfl T tv (GU.out _ (Below.refl _ _)).2.1 ?_)
                | (go_at_call 15; refine sA.mono ?_; rintro e z1 ⟨rfl, e1⟩))
              go_wp2_with (first
                | (refine load_sup _ rfl nb rfl rfl Z zv (GU.out _ e1).1 ?_)
                | (refine load_sup _ rfl (w.heap.size + 1) rfl rfl Z uv' (GU.out _ e1).2.2 ?_)
                | (go_at_call 15; refine (sB _ e1).mono ?_; rintro e z2 ⟨rfl, e2⟩))
              go_ret
              exact ⟨rfl, ((HH.out.called e1).called e2).bel⟩
          · rw [if_pos (by rfl)]
            ((try simp only); (try simp only [List.getElem_toArray]); (try simp only [List.getElem_cons_succ]); (try simp only [List.getElem_cons_zero]); (try simp only [Act.put]); (try simp only [List.setIfInBounds_toArray]); (try simp only [List.set_cons_succ]); (try simp only [List.set_cons_zero]))
            go_simp
            refine hK.out _ _ (g15.called ((Below.refl _ y14).alloc (Nat.le_refl _) (.cells #[.int .i64 0, .int .i64 0, .int .i64 0, .int .i64 0, .slice none 0 0] 24))) (fun g45 => ?_)
            clear hK K
            ((try simp only); (try simp only [List.getElem_toArray]); (try simp only [List.getElem_cons_succ]); (try simp only [List.getElem_cons_zero]); (try simp only [Act.put]); (try simp only [List.setIfInBounds_toArray]); (try simp only [List.set_cons_succ]); (try simp only [List.set_cons_zero]))
            have u46 : HasU (y14.alloc (.cells #[.int .i64 0, .int .i64 0, .int .i64 0, .int .i64 0, .slice none 0 0] 24)) y14.heap.size nilU (.slice none 0 0) := HasU.new y14 nilU _ _ rfl rfl
            have ow47 := ow16.alloc (.cells #[.int .i64 0, .int .i64 0, .int .i64 0, .int .i64 0, .slice none 0 0] 24)
            have bl48 := bl17.alloc bl17.size (.cells #[.int .i64 0, .int .i64 0, .int .i64 0, .int .i64 0, .slice none 0 0] 24)
            have bz49 := bz21.alloc bz21.size (.cells #[.int .i64 0, .int .i64 0, .int .i64 0, .int .i64 0, .slice none 0 0] 24)
            have ng50 := bz21.size
            generalize y14.alloc (.cells #[.int .i64 0, .int .i64 0, .int .i64 0, .int .i64 0, .slice none 0 0] 24) = y44 at *
            refine wpAnyH_ready (rs := [9]) (by kernel_rfl) (by simp) (AllReadyH.cons rfl (fun K hK => ?_) AllReadyH.nil)
            have hc52 : Calls Try.prog 13 #[(.slice a18 512 c19)] y44 (OfTo y44 RR) := (by have hx := of_byt (own_byt ow47); rw [List.nil_append, HRR.out] at hx; exact hx)
            rw [if_pos (by rfl)]
            ((try simp only); (try simp only [List.getElem_toArray]); (try simp only [List.getElem_cons_succ]); (try simp only [List.getElem_cons_zero]); (try simp only [Act.put]); (try simp only [List.setIfInBounds_toArray]); (try simp only [List.set_cons_succ]); (try simp only [List.set_cons_zero]))
            go_simp
            refine hc52.mono ?_
            intro e y51 ho59
            obtain ⟨sv55, rr53, rfl, sn56, hr54, b57⟩ := ho59
            have bz60 := bz49.trans (b57.mono bz49.size)
            have nl61 := u46.lt
            have u62 := u46.below b57 u46.lt
            refine hK.out _ _ (g45.called b57) (fun g58 => ?_)
            clear hK K hc52
            ((try simp only); (try simp only [List.getElem_toArray]); (try simp only [List.getElem_cons_succ]); (try simp only [List.getElem_cons_zero]); (try simp only [Act.put]); (try simp only [List.setIfInBounds_toArray]); (try simp only [List.set_cons_succ]); (try simp only [List.set_cons_zero]))
            refine wpAnyH_take (i := 10) (v := ?_) rfl (by kernel_rfl) (by kernel_rfl) (by kernel_rfl) (fun _ _ _ h => h) (Or.inl ⟨by rfl, ?_⟩) g58 ?_
            case refine_2 => (intro w hSw; (try dsimp only at hSw); go_simp; try (with_reducible rfl))
            ((try simp only); (try simp only [List.getElem_toArray]); (try simp only [List.getElem_cons_succ]); (try simp only [List.getElem_cons_zero]); (try simp only [Act.put]); (try simp only [List.setIfInBounds_toArray]); (try simp only [List.set_cons_succ]); (try simp only [List.set_cons_zero]))
            refine wpAnyH_take (i := 11) (v := ?_) rfl (by kernel_rfl) (by kernel_rfl) (by kernel_rfl) (fun _ _ _ h => h) (Or.inl ⟨by rfl, ?_⟩) g58 ?_
            case refine_2 => (intro w hSw; (try dsimp only at hSw); go_simp; try (with_reducible rfl))
            ((try simp only); (try simp only [List.getElem_toArray]); (try simp only [List.getElem_cons_succ]); (try simp only [List.getElem_cons_zero]); (try simp only [Act.put]); (try simp only [List.setIfInBounds_toArray]); (try simp only [List.set_cons_succ]); (try simp only [List.set_cons_zero]))
            refine wpAnyH_take (i := 12) (v := ?_) rfl (by kernel_rfl) (by kernel_rfl) (by kernel_rfl) (fun _ _ _ h => h) (Or.inl ⟨by rfl, ?_⟩) g58 ?_
            case refine_2 => (intro w hSw; (try dsimp only at hSw); go_simp; try (with_reducible rfl))
            ((try simp only); (try simp only [List.getElem_toArray]); (try simp only [List.getElem_cons_succ]); (try simp only [List.getElem_cons_zero]); (try simp only [Act.put]); (try simp only [List.setIfInBounds_toArray]); (try simp only [List.set_cons_succ]); (try simp only [List.set_cons_zero]))
            refine wpAnyH_ready (rs := [14]) (by kernel_rfl) (by simp) (AllReadyH.cons rfl (fun K hK => ?_) AllReadyH.nil)
            rw [if_pos (by rfl)]
            ((try simp only); (try simp only [List.getElem_toArray]); (try simp only [List.getElem_cons_succ]); (try simp only [List.getElem_cons_zero]); (try simp only [Act.put]); (try simp only [List.setIfInBounds_toArray]); (try simp only [List.set_cons_succ]); (try simp only [List.set_cons_zero]))
            refine store_sup_op _ _ rfl (y14.heap.size) rfl (RR.getD nilU) sv55 rfl sn56.one nilU (.slice none 0 0) u62 ?_
            intro y63 hu65 tx66 sx67
            have bF := below_rowed bz60 tx66 ng50 (Nat.le_refl _)
            have HF := y0h.called bF
            have snF : Sna y63 sv55 (RR.getD nilU).l := ⟨_, sn56.kept fun k hk => tx66.block k (hr54 k hk).2 (by have := hr54 k hk; omega) (by simp), fun k hk => by have := hr54 k hk; omega⟩
            refine hK.out _ _ HF (fun g64 => ?_)
            clear hK K
            ((try simp only); (try simp only [List.getElem_toArray]); (try simp only [List.getElem_cons_succ]); (try simp only [List.getElem_cons_zero]); (try simp only [Act.put]); (try simp only [List.setIfInBounds_toArray]); (try simp only [List.set_cons_succ]); (try simp only [List.set_cons_zero]))
            refine wpAnyH_take (i := 15) (v := ?_) rfl (by kernel_rfl) (by kernel_rfl) (by kernel_rfl) (fun _ _ _ h => h) (Or.inl ⟨by rfl, ?_⟩) g64 ?_
            case refine_2 => (intro w hSw; (try dsimp only at hSw); go_simp; try (with_reducible rfl))
            ((try simp only); (try simp only [List.getElem_toArray]); (try simp only [List.getElem_cons_succ]); (try simp only [List.getElem_cons_zero]); (try simp only [Act.put]); (try simp only [List.setIfInBounds_toArray]); (try simp only [List.set_cons_succ]); (try simp only [List.set_cons_zero]))
            refine wpAnyH_done (by kernel_rfl) ?_ _
            refine NoPanic.normal ?_
            have HH : Hid (Held w y63 [(w.heap.size + 1, Z, uv'), (w.heap.size, T, tv)] [(.slice (some ⟨gb, ob, none⟩) 512 qc, enc Z), (.slice (some ⟨ga, oa, none⟩) 512 pc, enc T)] [(uv', Z.l), (tv, T.l)]) := HF
            have SN : Hid (Sna y63 sv55 (RR.getD nilU).l) := snF
            have HU : Hid (HasU y63 (y14.heap.size) (RR.getD nilU) sv55) := hu65
            clear HF snF hu65 tx66 sx67 bF g64 bz0 y0h hHeld g2 ow3 bl4 bz5 g7 ow8 bl9 gr12 bz13 g15 ow16 bl17 gr20 bz21 g45 u46 ow47 bl48 bz49 ng50 hr54 sn56 b57 g58 bz60 nl61 u62
            generalize y14.heap.size = nb at *
            generalize y63 = z at *
            generalize sv55 = zv at *
            rcases KEY.out with ⟨rfl, h0, h1⟩ | rfl | rfl
            · have q0 : (0 : Int) < (a : Int) := by omega
              have q1 : (a : Int) < 512 := by omega
              have en : code none = 12 := rfl
              have BB := HH.out.bel
              go_wp2
              go_ret
              exact ⟨rfl, BB⟩
            · have ec : code (some T) = 0 := rfl
              have sA := same_calls z T T zv tv SN.out (HH.out.s (tv, T.l) (by simp))
              rw [decide_eq_true (rfl : T = T)] at sA
              have sB : ∀ y, Below z.heap.size z y → Calls Try.prog 15 #[uv T zv, uv Z uv'] y fun e w' => e = .returned (.bool (decide (T = Z))) ∧ Below y.heap.size y w' := fun y hy => same_calls y T Z zv uv' (SN.out.below hy) ((HH.out.s (uv', Z.l) (by simp)).below hy)
              have GU : Hid (∀ y, Below z.heap.size z y → HasU y nb T zv ∧ HasU y w.heap.size T tv ∧ HasU y (w.heap.size + 1) Z uv') := fun y hy => ⟨HU.out.below hy HU.out.lt, (HH.out.u (w.heap.size, T, tv) (by simp)).below hy (HH.out.u (w.heap.size, T, tv) (by simp)).lt, (HH.out.u (w.heap.size + 1, Z, uv') (by simp)).below hy (HH.out.u (w.heap.size + 1, Z, uv') (by simp)).lt⟩
              go_upto_region 15 with (first
                | (refine load_sup _ rfl nb rfl rfl T zv (GU.out _ (Below.refl _ _)).1 ?_)
                | (refine load_sup _ rfl w.heap.size rfl rfl T tv (GU.out _ (Below.refl _ _)).2.1 ?_)
                | (go_at_call 15; refine sA.mono ?_; rintro e z1 ⟨rfl, e1⟩))
              go_wp2_with (first
                | (refine load_sup _ rfl nb rfl rfl T zv (GU.out _ e1).1 ?_)
                | (refine load_sup _ rfl (w.heap.size + 1) rfl rfl Z uv' (GU.out _ e1).2.2 ?_)
                | (go_at_call 15; refine (sB _ e1).mono ?_; rintro e z2 ⟨rfl, e2⟩))
              go_ret
              exact ⟨rfl, ((HH.out.called e1).called e2).bel⟩
            · have ec : code (some Z) = 0 := rfl
              have sA := same_calls z Z T zv tv SN.out (HH.out.s (tv, T.l) (by simp))
              rw [decide_eq_false (fun e : Z = T => HG.out (by rw [e]))] at sA
              have sB : ∀ y, Below z.heap.size z y → Calls Try.prog 15 #[uv Z zv, uv Z uv'] y fun e w' => e = .returned (.bool true) ∧ Below y.heap.size y w' := fun y hy => by
                have := same_calls y Z Z zv uv' (SN.out.below hy) ((HH.out.s (uv', Z.l) (by simp)).below hy)
                rw [decide_eq_true (rfl : Z = Z)] at this
                exact this
              have GU : Hid (∀ y, Below z.heap.size z y → HasU y nb Z zv ∧ HasU y w.heap.size T tv ∧ HasU y (w.heap.size + 1) Z uv') := fun y hy => ⟨HU.out.below hy HU.out.lt, (HH.out.u (w.heap.size, T, tv) (by simp)).below hy (HH.out.u (w.heap.size, T, tv) (by simp)).lt, (HH.out.u (w.heap.size + 1, Z, uv') (by simp)).below hy (HH.out.u (w.heap.size + 1, Z, uv') (by simp)).lt⟩
              go_upto_region 15 with (first
                | (refine load_sup _ rfl nb rfl rfl Z zv (GU.out _ (Below.refl _ _)).1 ?_)
                | (refine load_sup _ rfl w.heap.size rfl rfl T tv (GU.out _ (Below.refl _ _)).2.1 ?_)
                | (go_at_call 15; refine sA.mono ?_; rintro e z1 ⟨rfl, e1⟩))
              go_wp2_with (first
                | (refine load_sup _ rfl nb rfl rfl Z zv (GU.out _ e1).1 ?_)
                | (refine load_sup _ rfl (w.heap.size + 1) rfl rfl Z uv' (GU.out _ e1).2.2 ?_)
                | (go_at_call 15; refine (sB _ e1).mono ?_; rintro e z2 ⟨rfl, e2⟩))
              go_ret
              exact ⟨rfl, ((HH.out.called e1).called e2).bel⟩
        · rw [if_pos (by rfl)]
          ((try simp only); (try simp only [List.getElem_toArray]); (try simp only [List.getElem_cons_succ]); (try simp only [List.getElem_cons_zero]); (try simp only [Act.put]); (try simp only [List.setIfInBounds_toArray]); (try simp only [List.set_cons_succ]); (try simp only [List.set_cons_zero]))
          go_simp
          refine hK.out _ _ (g7.called ((Below.refl _ y6).alloc (Nat.le_refl _) (.cells #[.int .i64 0, .int .i64 0, .int .i64 0, .int .i64 0, .slice none 0 0] 24))) (fun g69 => ?_)
          clear hK K
          ((try simp only); (try simp only [List.getElem_toArray]); (try simp only [List.getElem_cons_succ]); (try simp only [List.getElem_cons_zero]); (try simp only [Act.put]); (try simp only [List.setIfInBounds_toArray]); (try simp only [List.set_cons_succ]); (try simp only [List.set_cons_zero]))
          have u70 : HasU (y6.alloc (.cells #[.int .i64 0, .int .i64 0, .int .i64 0, .int .i64 0, .slice none 0 0] 24)) y6.heap.size nilU (.slice none 0 0) := HasU.new y6 nilU _ _ rfl rfl
          have ow71 := ow8.alloc (.cells #[.int .i64 0, .int .i64 0, .int .i64 0, .int .i64 0, .slice none 0 0] 24)
          have bl72 := bl9.alloc bl9.size (.cells #[.int .i64 0, .int .i64 0, .int .i64 0, .int .i64 0, .slice none 0 0] 24)
          have bz73 := bz13.alloc bz13.size (.cells #[.int .i64 0, .int .i64 0, .int .i64 0, .int .i64 0, .slice none 0 0] 24)
          have ng74 := bz13.size
          generalize y6.alloc (.cells #[.int .i64 0, .int .i64 0, .int .i64 0, .int .i64 0, .slice none 0 0] 24) = y68 at *
          refine wpAnyH_ready (rs := [8]) (by kernel_rfl) (by simp) (AllReadyH.cons rfl (fun K hK => ?_) AllReadyH.nil)
          rw [if_pos (by rfl)]
          ((try simp only); (try simp only [List.getElem_toArray]); (try simp only [List.getElem_cons_succ]); (try simp only [List.getElem_cons_zero]); (try simp only [Act.put]); (try simp only [List.setIfInBounds_toArray]); (try simp only [List.set_cons_succ]); (try simp only [List.set_cons_zero]))
          refine wp_append_bytes (.tmp 71) (.tmp 74) rfl y0.heap.size a 512 (.slice a10 a c11) ([] ++ ((enc T).take a)) rfl ow71 ⟨gb, ob + a, none⟩ (512 - a) (qc - a) ((enc Z).drop a) rfl lZa (cells_drop (g69.b (Value.slice (some ⟨gb, ob, none⟩) 512 qc, enc Z) (by simp))) (by rw [List.nil_append, lTa, lZa]; omega) (by omega) bl72.size ?_
          intro a79 c80 y75 ow77 gr81
          have bz82 := bz73.grown gr81 bz73.size (fun k hk => by have := (ow71.lt k hk).1; have := bz0.size; omega)
          obtain ⟨g76', bl78⟩ := Held.grown hHeld rfl bl72 ow71 gr81
          have u83 := u70.same (gr81.block _ u70.lt (own_apart u70 ow71))
          refine hK.out _ _ g76' (fun g76 => ?_)
          clear hK K
          ((try simp only); (try simp only [List.getElem_toArray]); (try simp only [List.getElem_cons_succ]); (try simp only [List.getElem_cons_zero]); (try simp only [Act.put]); (try simp only [List.setIfInBounds_toArray]); (try simp only [List.set_cons_succ]); (try simp only [List.set_cons_zero]))
          refine wpAnyH_ready (rs := [9]) (by kernel_rfl) (by simp) (AllReadyH.cons rfl (fun K hK => ?_) AllReadyH.nil)
          have hc85 : Calls Try.prog 13 #[(.slice a79 512 c80)] y75 (OfTo y75 RR) := (by have hx := of_byt (own_byt ow77); rw [List.nil_append, HRR.out] at hx; exact hx)
          rw [if_pos (by rfl)]
          ((try simp only); (try simp only [List.getElem_toArray]); (try simp only [List.getElem_cons_succ]); (try simp only [List.getElem_cons_zero]); (try simp only [Act.put]); (try simp only [List.setIfInBounds_toArray]); (try simp only [List.set_cons_succ]); (try simp only [List.set_cons_zero]))
          go_simp
          refine hc85.mono ?_
          intro e y84 ho92
          obtain ⟨sv88, rr86, rfl, sn89, hr87, b90⟩ := ho92
          have bz93 := bz82.trans (b90.mono bz82.size)
          have nl94 := u83.lt
          have u95 := u83.below b90 u83.lt
          refine hK.out _ _ (g76.called b90) (fun g91 => ?_)
          clear hK K hc85
          ((try simp only); (try simp only [List.getElem_toArray]); (try simp only [List.getElem_cons_succ]); (try simp only [List.getElem_cons_zero]); (try simp only [Act.put]); (try simp only [List.setIfInBounds_toArray]); (try simp only [List.set_cons_succ]); (try simp only [List.set_cons_zero]))
          refine wpAnyH_take (i := 10) (v := ?_) rfl (by kernel_rfl) (by kernel_rfl) (by kernel_rfl) (fun _ _ _ h => h) (Or.inl ⟨by rfl, ?_⟩) g91 ?_
          case refine_2 => (intro w hSw; (try dsimp only at hSw); go_simp; try (with_reducible rfl))
          ((try simp only); (try simp only [List.getElem_toArray]); (try simp only [List.getElem_cons_succ]); (try simp only [List.getElem_cons_zero]); (try simp only [Act.put]); (try simp only [List.setIfInBounds_toArray]); (try simp only [List.set_cons_succ]); (try simp only [List.set_cons_zero]))
          refine wpAnyH_take (i := 11) (v := ?_) rfl (by kernel_rfl) (by kernel_rfl) (by kernel_rfl) (fun _ _ _ h => h) (Or.inl ⟨by rfl, ?_⟩) g91 ?_
          case refine_2 => (intro w hSw; (try dsimp only at hSw); go_simp; try (with_reducible rfl))
          ((try simp only); (try simp only [List.getElem_toArray]); (try simp only [List.getElem_cons_succ]); (try simp only [List.getElem_cons_zero]); (try simp only [Act.put]); (try simp only [List.setIfInBounds_toArray]); (try simp only [List.set_cons_succ]); (try simp only [List.set_cons_zero]))
          refine wpAnyH_take (i := 12) (v := ?_) rfl (by kernel_rfl) (by kernel_rfl) (by kernel_rfl) (fun _ _ _ h => h) (Or.inl ⟨by rfl, ?_⟩) g91 ?_
          case refine_2 => (intro w hSw; (try dsimp only at hSw); go_simp; try (with_reducible rfl))
          ((try simp only); (try simp only [List.getElem_toArray]); (try simp only [List.getElem_cons_succ]); (try simp only [List.getElem_cons_zero]); (try simp only [Act.put]); (try simp only [List.setIfInBounds_toArray]); (try simp only [List.set_cons_succ]); (try simp only [List.set_cons_zero]))
          refine wpAnyH_ready (rs := [14]) (by kernel_rfl) (by simp) (AllReadyH.cons rfl (fun K hK => ?_) AllReadyH.nil)
          rw [if_pos (by rfl)]
          ((try simp only); (try simp only [List.getElem_toArray]); (try simp only [List.getElem_cons_succ]); (try simp only [List.getElem_cons_zero]); (try simp only [Act.put]); (try simp only [List.setIfInBounds_toArray]); (try simp only [List.set_cons_succ]); (try simp only [List.set_cons_zero]))
          refine store_sup_op _ _ rfl (y6.heap.size) rfl (RR.getD nilU) sv88 rfl sn89.one nilU (.slice none 0 0) u95 ?_
          intro y96 hu98 tx99 sx100
          have bF := below_rowed bz93 tx99 ng74 (Nat.le_refl _)
          have HF := y0h.called bF
          have snF : Sna y96 sv88 (RR.getD nilU).l := ⟨_, sn89.kept fun k hk => tx99.block k (hr87 k hk).2 (by have := hr87 k hk; omega) (by simp), fun k hk => by have := hr87 k hk; omega⟩
          refine hK.out _ _ HF (fun g97 => ?_)
          clear hK K
          ((try simp only); (try simp only [List.getElem_toArray]); (try simp only [List.getElem_cons_succ]); (try simp only [List.getElem_cons_zero]); (try simp only [Act.put]); (try simp only [List.setIfInBounds_toArray]); (try simp only [List.set_cons_succ]); (try simp only [List.set_cons_zero]))
          refine wpAnyH_take (i := 15) (v := ?_) rfl (by kernel_rfl) (by kernel_rfl) (by kernel_rfl) (fun _ _ _ h => h) (Or.inl ⟨by rfl, ?_⟩) g97 ?_
          case refine_2 => (intro w hSw; (try dsimp only at hSw); go_simp; try (with_reducible rfl))
          ((try simp only); (try simp only [List.getElem_toArray]); (try simp only [List.getElem_cons_succ]); (try simp only [List.getElem_cons_zero]); (try simp only [Act.put]); (try simp only [List.setIfInBounds_toArray]); (try simp only [List.set_cons_succ]); (try simp only [List.set_cons_zero]))
          refine wpAnyH_done (by kernel_rfl) ?_ _
          refine NoPanic.normal ?_
          have HH : Hid (Held w y96 [(w.heap.size + 1, Z, uv'), (w.heap.size, T, tv)] [(.slice (some ⟨gb, ob, none⟩) 512 qc, enc Z), (.slice (some ⟨ga, oa, none⟩) 512 pc, enc T)] [(uv', Z.l), (tv, T.l)]) := HF
          have SN : Hid (Sna y96 sv88 (RR.getD nilU).l) := snF
          have HU : Hid (HasU y96 (y6.heap.size) (RR.getD nilU) sv88) := hu98
          clear HF snF hu98 tx99 sx100 bF g97 bz0 y0h hHeld g2 ow3 bl4 bz5 g7 ow8 bl9 gr12 bz13 g69 u70 ow71 bl72 bz73 ng74 g76 ow77 bl78 gr81 bz82 u83 hr87 sn89 b90 g91 bz93 nl94 u95
          generalize y6.heap.size = nb at *
          generalize y96 = z at *
          generalize sv88 = zv at *
          rcases KEY.out with ⟨rfl, h0, h1⟩ | rfl | rfl
          · have q0 : (0 : Int) < (a : Int) := by omega
            have q1 : (a : Int) < 512 := by omega
            have en : code none = 12 := rfl
            have BB := HH.out.bel
            go_wp2
            go_ret
            exact ⟨rfl, BB⟩
          · have ec : code (some T) = 0 := rfl
            have sA := same_calls z T T zv tv SN.out (HH.out.s (tv, T.l) (by simp))
            rw [decide_eq_true (rfl : T = T)] at sA
            have sB : ∀ y, Below z.heap.size z y → Calls Try.prog 15 #[uv T zv, uv Z uv'] y fun e w' => e = .returned (.bool (decide (T = Z))) ∧ Below y.heap.size y w' := fun y hy => same_calls y T Z zv uv' (SN.out.below hy) ((HH.out.s (uv', Z.l) (by simp)).below hy)
            have GU : Hid (∀ y, Below z.heap.size z y → HasU y nb T zv ∧ HasU y w.heap.size T tv ∧ HasU y (w.heap.size + 1) Z uv') := fun y hy => ⟨HU.out.below hy HU.out.lt, (HH.out.u (w.heap.size, T, tv) (by simp)).below hy (HH.out.u (w.heap.size, T, tv) (by simp)).lt, (HH.out.u (w.heap.size + 1, Z, uv') (by simp)).below hy (HH.out.u (w.heap.size + 1, Z, uv') (by simp)).lt⟩
            go_upto_region 15 with (first
              | (refine load_sup _ rfl nb rfl rfl T zv (GU.out _ (Below.refl _ _)).1 ?_)
              | (refine load_sup _ rfl w.heap.size rfl rfl T tv (GU.out _ (Below.refl _ _)).2.1 ?_)
              | (go_at_call 15; refine sA.mono ?_; rintro e z1 ⟨rfl, e1⟩))
            go_wp2_with (first
              | (refine load_sup _ rfl nb rfl rfl T zv (GU.out _ e1).1 ?_)
              | (refine load_sup _ rfl (w.heap.size + 1) rfl rfl Z uv' (GU.out _ e1).2.2 ?_)
              | (go_at_call 15; refine (sB _ e1).mono ?_; rintro e z2 ⟨rfl, e2⟩))
            go_ret
            exact ⟨rfl, ((HH.out.called e1).called e2).bel⟩
          · have ec : code (some Z) = 0 := rfl
            have sA := same_calls z Z T zv tv SN.out (HH.out.s (tv, T.l) (by simp))
            rw [decide_eq_false (fun e : Z = T => HG.out (by rw [e]))] at sA
            have sB : ∀ y, Below z.heap.size z y → Calls Try.prog 15 #[uv Z zv, uv Z uv'] y fun e w' => e = .returned (.bool true) ∧ Below y.heap.size y w' := fun y hy => by
              have := same_calls y Z Z zv uv' (SN.out.below hy) ((HH.out.s (uv', Z.l) (by simp)).below hy)
              rw [decide_eq_true (rfl : Z = Z)] at this
              exact this
            have GU : Hid (∀ y, Below z.heap.size z y → HasU y nb Z zv ∧ HasU y w.heap.size T tv ∧ HasU y (w.heap.size + 1) Z uv') := fun y hy => ⟨HU.out.below hy HU.out.lt, (HH.out.u (w.heap.size, T, tv) (by simp)).below hy (HH.out.u (w.heap.size, T, tv) (by simp)).lt, (HH.out.u (w.heap.size + 1, Z, uv') (by simp)).below hy (HH.out.u (w.heap.size + 1, Z, uv') (by simp)).lt⟩
            go_upto_region 15 with (first
              | (refine load_sup _ rfl nb rfl rfl Z zv (GU.out _ (Below.refl _ _)).1 ?_)
              | (refine load_sup _ rfl w.heap.size rfl rfl T tv (GU.out _ (Below.refl _ _)).2.1 ?_)
              | (go_at_call 15; refine sA.mono ?_; rintro e z1 ⟨rfl, e1⟩))
            go_wp2_with (first
              | (refine load_sup _ rfl nb rfl rfl Z zv (GU.out _ e1).1 ?_)
              | (refine load_sup _ rfl (w.heap.size + 1) rfl rfl Z uv' (GU.out _ e1).2.2 ?_)
              | (go_at_call 15; refine (sB _ e1).mono ?_; rintro e z2 ⟨rfl, e2⟩))
            go_ret
            exact ⟨rfl, ((HH.out.called e1).called e2).bel⟩
      · rw [if_pos (by rfl)]
        ((try simp only); (try simp only [List.getElem_toArray]); (try simp only [List.getElem_cons_succ]); (try simp only [List.getElem_cons_zero]); (try simp only [Act.put]); (try simp only [List.setIfInBounds_toArray]); (try simp only [List.set_cons_succ]); (try simp only [List.set_cons_zero]))
        go_simp
        refine hK.out _ _ (g2.called ((Below.refl _ y1).alloc (Nat.le_refl _) (.cells #[.int .i64 0, .int .i64 0, .int .i64 0, .int .i64 0, .slice none 0 0] 24))) (fun g102 => ?_)
        clear hK K
        ((try simp only); (try simp only [List.getElem_toArray]); (try simp only [List.getElem_cons_succ]); (try simp only [List.getElem_cons_zero]); (try simp only [Act.put]); (try simp only [List.setIfInBounds_toArray]); (try simp only [List.set_cons_succ]); (try simp only [List.set_cons_zero]))
        have u103 : HasU (y1.alloc (.cells #[.int .i64 0, .int .i64 0, .int .i64 0, .int .i64 0, .slice none 0 0] 24)) y1.heap.size nilU (.slice none 0 0) := HasU.new y1 nilU _ _ rfl rfl
        have ow104 := ow3.alloc (.cells #[.int .i64 0, .int .i64 0, .int .i64 0, .int .i64 0, .slice none 0 0] 24)
        have bl105 := bl4.alloc bl4.size (.cells #[.int .i64 0, .int .i64 0, .int .i64 0, .int .i64 0, .slice none 0 0] 24)
        have bz106 := bz5.alloc bz5.size (.cells #[.int .i64 0, .int .i64 0, .int .i64 0, .int .i64 0, .slice none 0 0] 24)
        have ng107 := bz5.size
        generalize y1.alloc (.cells #[.int .i64 0, .int .i64 0, .int .i64 0, .int .i64 0, .slice none 0 0] 24) = y101 at *
        refine wpAnyH_ready (rs := [4]) (by kernel_rfl) (by simp) (AllReadyH.cons rfl (fun K hK => ?_) AllReadyH.nil)
        rw [if_pos (by rfl)]
        ((try simp only); (try simp only [List.getElem_toArray]); (try simp only [List.getElem_cons_succ]); (try simp only [List.getElem_cons_zero]); (try simp only [Act.put]); (try simp only [List.setIfInBounds_toArray]); (try simp only [List.set_cons_succ]); (try simp only [List.set_cons_zero]))
        refine wp_append_bytes (.tmp 67) (.tmp 70) rfl y0.heap.size 0 a (.slice (some ⟨y0.heap.size, 0, none⟩) 0 0) [] rfl ow104 ⟨ga, oa, none⟩ a pc ((enc T).take a) rfl lTa (cells_take (g102.b (Value.slice (some ⟨ga, oa, none⟩) 512 pc, enc T) (by simp))) (by rw [lTa]; simp) (by omega) bl105.size ?_
        intro a112 c113 y108 ow110 gr114
        have bz115 := bz106.grown gr114 bz106.size (fun k hk => by have := (ow104.lt k hk).1; have := bz0.size; omega)
        obtain ⟨g109', bl111⟩ := Held.grown hHeld rfl bl105 ow104 gr114
        have u116 := u103.same (gr114.block _ u103.lt (own_apart u103 ow104))
        refine hK.out _ _ g109' (fun g109 => ?_)
        clear hK K
        ((try simp only); (try simp only [List.getElem_toArray]); (try simp only [List.getElem_cons_succ]); (try simp only [List.getElem_cons_zero]); (try simp only [Act.put]); (try simp only [List.setIfInBounds_toArray]); (try simp only [List.set_cons_succ]); (try simp only [List.set_cons_zero]))
        refine wpAnyH_ready (rs := [8]) (by kernel_rfl) (by simp) (AllReadyH.cons rfl (fun K hK => ?_) AllReadyH.nil)
        rw [if_pos (by rfl)]
        ((try simp only); (try simp only [List.getElem_toArray]); (try simp only [List.getElem_cons_succ]); (try simp only [List.getElem_cons_zero]); (try simp only [Act.put]); (try simp only [List.setIfInBounds_toArray]); (try simp only [List.set_cons_succ]); (try simp only [List.set_cons_zero]))
        refine wp_append_bytes (.tmp 71) (.tmp 74) rfl y0.heap.size a 512 (.slice a112 a c113) ([] ++ ((enc T).take a)) rfl ow110 ⟨gb, ob + a, none⟩ (512 - a) (qc - a) ((enc Z).drop a) rfl lZa (cells_drop (g109.b (Value.slice (some ⟨gb, ob, none⟩) 512 qc, enc Z) (by simp))) (by rw [List.nil_append, lTa, lZa]; omega) (by omega) bl111.size ?_
        intro a121 c122 y117 ow119 gr123
        have bz124 := bz115.grown gr123 bz115.size (fun k hk => by have := (ow110.lt k hk).1; have := bz0.size; omega)
        obtain ⟨g118', bl120⟩ := Held.grown hHeld rfl bl111 ow110 gr123
        have u125 := u116.same (gr123.block _ u116.lt (own_apart u116 ow110))
        refine hK.out _ _ g118' (fun g118 => ?_)
        clear hK K
        ((try simp only); (try simp only [List.getElem_toArray]); (try simp only [List.getElem_cons_succ]); (try simp only [List.getElem_cons_zero]); (try simp only [Act.put]); (try simp only [List.setIfInBounds_toArray]); (try simp only [List.set_cons_succ]); (try simp only [List.set_cons_zero]))
        refine wpAnyH_ready (rs := [9]) (by kernel_rfl) (by simp) (AllReadyH.cons rfl (fun K hK => ?_) AllReadyH.nil)
        have hc127 : Calls Try.prog 13 #[(.slice a121 512 c122)] y117 (OfTo y117 RR) := (by have hx := of_byt (own_byt ow119); rw [List.nil_append, HRR.out] at hx; exact hx)
        rw [if_pos (by rfl)]
        ((try simp only); (try simp only [List.getElem_toArray]); (try simp only [List.getElem_cons_succ]); (try simp only [List.getElem_cons_zero]); (try simp only [Act.put]); (try simp only [List.setIfInBounds_toArray]); (try simp only [List.set_cons_succ]); (try simp only [List.set_cons_zero]))
        go_simp
        refine hc127.mono ?_
        intro e y126 ho134
        obtain ⟨sv130, rr128, rfl, sn131, hr129, b132⟩ := ho134
        have bz135 := bz124.trans (b132.mono bz124.size)
        have nl136 := u125.lt
        have u137 := u125.below b132 u125.lt
        refine hK.out _ _ (g118.called b132) (fun g133 => ?_)
        clear hK K hc127
        ((try simp only); (try simp only [List.getElem_toArray]); (try simp only [List.getElem_cons_succ]); (try simp only [List.getElem_cons_zero]); (try simp only [Act.put]); (try simp only [List.setIfInBounds_toArray]); (try simp only [List.set_cons_succ]); (try simp only [List.set_cons_zero]))
        refine wpAnyH_take (i := 10) (v := ?_) rfl (by kernel_rfl) (by kernel_rfl) (by kernel_rfl) (fun _ _ _ h => h) (Or.inl ⟨by rfl, ?_⟩) g133 ?_
        case refine_2 => (intro w hSw; (try dsimp only at hSw); go_simp; try (with_reducible rfl))
        ((try simp only); (try simp only [List.getElem_toArray]); (try simp only [List.getElem_cons_succ]); (try simp only [List.getElem_cons_zero]); (try simp only [Act.put]); (try simp only [List.setIfInBounds_toArray]); (try simp only [List.set_cons_succ]); (try simp only [List.set_cons_zero]))
        refine wpAnyH_take (i := 11) (v := ?_) rfl (by kernel_rfl) (by kernel_rfl) (by kernel_rfl) (fun _ _ _ h => h) (Or.inl ⟨by rfl, ?_⟩) g133 ?_
        case refine_2 => (intro w hSw; (try dsimp only at hSw); go_simp; try (with_reducible rfl))
        ((try simp only); (try simp only [List.getElem_toArray]); (try simp only [List.getElem_cons_succ]); (try simp only [List.getElem_cons_zero]); (try simp only [Act.put]); (try simp only [List.setIfInBounds_toArray]); (try simp only [List.set_cons_succ]); (try simp only [List.set_cons_zero]))
        refine wpAnyH_take (i := 12) (v := ?_) rfl (by kernel_rfl) (by kernel_rfl) (by kernel_rfl) (fun _ _ _ h => h) (Or.inl ⟨by rfl, ?_⟩) g133 ?_
        case refine_2 => (intro w hSw; (try dsimp only at hSw); go_simp; try (with_reducible rfl))
        ((try simp only); (try simp only [List.getElem_toArray]); (try simp only [List.getElem_cons_succ]); (try simp only [List.getElem_cons_zero]); (try simp only [Act.put]); (try simp only [List.setIfInBounds_toArray]); (try simp only [List.set_cons_succ]); (try simp only [List.set_cons_zero]))
        refine wpAnyH_ready (rs := [14]) (by kernel_rfl) (by simp) (AllReadyH.cons rfl (fun K hK => ?_) AllReadyH.nil)
        rw [if_pos (by rfl)]
        ((try simp only); (try simp only [List.getElem_toArray]); (try simp only [List.getElem_cons_succ]); (try simp only [List.getElem_cons_zero]); (try simp only [Act.put]); (try simp only [List.setIfInBounds_toArray]); (try simp only [List.set_cons_succ]); (try simp only [List.set_cons_zero]))
        refine store_sup_op _ _ rfl (y1.heap.size) rfl (RR.getD nilU) sv130 rfl sn131.one nilU (.slice none 0 0) u137 ?_
        intro y138 hu140 tx141 sx142
        have bF := below_rowed bz135 tx141 ng107 (Nat.le_refl _)
        have HF := y0h.called bF
        have snF : Sna y138 sv130 (RR.getD nilU).l := ⟨_, sn131.kept fun k hk => tx141.block k (hr129 k hk).2 (by have := hr129 k hk; omega) (by simp), fun k hk => by have := hr129 k hk; omega⟩
        refine hK.out _ _ HF (fun g139 => ?_)
        clear hK K
        ((try simp only); (try simp only [List.getElem_toArray]); (try simp only [List.getElem_cons_succ]); (try simp only [List.getElem_cons_zero]); (try simp only [Act.put]); (try simp only [List.setIfInBounds_toArray]); (try simp only [List.set_cons_succ]); (try simp only [List.set_cons_zero]))
        refine wpAnyH_take (i := 15) (v := ?_) rfl (by kernel_rfl) (by kernel_rfl) (by kernel_rfl) (fun _ _ _ h => h) (Or.inl ⟨by rfl, ?_⟩) g139 ?_
        case refine_2 => (intro w hSw; (try dsimp only at hSw); go_simp; try (with_reducible rfl))
        ((try simp only); (try simp only [List.getElem_toArray]); (try simp only [List.getElem_cons_succ]); (try simp only [List.getElem_cons_zero]); (try simp only [Act.put]); (try simp only [List.setIfInBounds_toArray]); (try simp only [List.set_cons_succ]); (try simp only [List.set_cons_zero]))
        refine wpAnyH_done (by kernel_rfl) ?_ _
        refine NoPanic.normal ?_
        have HH : Hid (Held w y138 [(w.heap.size + 1, Z, uv'), (w.heap.size, T, tv)] [(.slice (some ⟨gb, ob, none⟩) 512 qc, enc Z), (.slice (some ⟨ga, oa, none⟩) 512 pc, enc T)] [(uv', Z.l), (tv, T.l)]) := HF
        have SN : Hid (Sna y138 sv130 (RR.getD nilU).l) := snF
        have HU : Hid (HasU y138 (y1.heap.size) (RR.getD nilU) sv130) := hu140
        clear HF snF hu140 tx141 sx142 bF g139 bz0 y0h hHeld g2 ow3 bl4 bz5 g102 u103 ow104 bl105 bz106 ng107 g109 ow110 bl111 gr114 bz115 u116 g118 ow119 bl120 gr123 bz124 u125 hr129 sn131 b132 g133 bz135 nl136 u137
        generalize y1.heap.size = nb at *
        generalize y138 = z at *
        generalize sv130 = zv at *
        rcases KEY.out with ⟨rfl, h0, h1⟩ | rfl | rfl
        · have q0 : (0 : Int) < (a : Int) := by omega
          have q1 : (a : Int) < 512 := by omega
          have en : code none = 12 := rfl
          have BB := HH.out.bel
          go_wp2
          go_ret
          exact ⟨rfl, BB⟩
        · have ec : code (some T) = 0 := rfl
          have sA := same_calls z T T zv tv SN.out (HH.out.s (tv, T.l) (by simp))
          rw [decide_eq_true (rfl : T = T)] at sA
          have sB : ∀ y, Below z.heap.size z y → Calls Try.prog 15 #[uv T zv, uv Z uv'] y fun e w' => e = .returned (.bool (decide (T = Z))) ∧ Below y.heap.size y w' := fun y hy => same_calls y T Z zv uv' (SN.out.below hy) ((HH.out.s (uv', Z.l) (by simp)).below hy)
          have GU : Hid (∀ y, Below z.heap.size z y → HasU y nb T zv ∧ HasU y w.heap.size T tv ∧ HasU y (w.heap.size + 1) Z uv') := fun y hy => ⟨HU.out.below hy HU.out.lt, (HH.out.u (w.heap.size, T, tv) (by simp)).below hy (HH.out.u (w.heap.size, T, tv) (by simp)).lt, (HH.out.u (w.heap.size + 1, Z, uv') (by simp)).below hy (HH.out.u (w.heap.size + 1, Z, uv') (by simp)).lt⟩
          go_upto_region 15 with (first
            | (refine load_sup _ rfl nb rfl rfl T zv (GU.out _ (Below.refl _ _)).1 ?_)
            | (refine load_sup _ rfl w.heap.size rfl rfl T tv (GU.out _ (Below.refl _ _)).2.1 ?_)
            | (go_at_call 15; refine sA.mono ?_; rintro e z1 ⟨rfl, e1⟩))
          go_wp2_with (first
            | (refine load_sup _ rfl nb rfl rfl T zv (GU.out _ e1).1 ?_)
            | (refine load_sup _ rfl (w.heap.size + 1) rfl rfl Z uv' (GU.out _ e1).2.2 ?_)
            | (go_at_call 15; refine (sB _ e1).mono ?_; rintro e z2 ⟨rfl, e2⟩))
          go_ret
          exact ⟨rfl, ((HH.out.called e1).called e2).bel⟩
        · have ec : code (some Z) = 0 := rfl
          have sA := same_calls z Z T zv tv SN.out (HH.out.s (tv, T.l) (by simp))
          rw [decide_eq_false (fun e : Z = T => HG.out (by rw [e]))] at sA
          have sB : ∀ y, Below z.heap.size z y → Calls Try.prog 15 #[uv Z zv, uv Z uv'] y fun e w' => e = .returned (.bool true) ∧ Below y.heap.size y w' := fun y hy => by
            have := same_calls y Z Z zv uv' (SN.out.below hy) ((HH.out.s (uv', Z.l) (by simp)).below hy)
            rw [decide_eq_true (rfl : Z = Z)] at this
            exact this
          have GU : Hid (∀ y, Below z.heap.size z y → HasU y nb Z zv ∧ HasU y w.heap.size T tv ∧ HasU y (w.heap.size + 1) Z uv') := fun y hy => ⟨HU.out.below hy HU.out.lt, (HH.out.u (w.heap.size, T, tv) (by simp)).below hy (HH.out.u (w.heap.size, T, tv) (by simp)).lt, (HH.out.u (w.heap.size + 1, Z, uv') (by simp)).below hy (HH.out.u (w.heap.size + 1, Z, uv') (by simp)).lt⟩
          go_upto_region 15 with (first
            | (refine load_sup _ rfl nb rfl rfl Z zv (GU.out _ (Below.refl _ _)).1 ?_)
            | (refine load_sup _ rfl w.heap.size rfl rfl T tv (GU.out _ (Below.refl _ _)).2.1 ?_)
            | (go_at_call 15; refine sA.mono ?_; rintro e z1 ⟨rfl, e1⟩))
          go_wp2_with (first
            | (refine load_sup _ rfl nb rfl rfl Z zv (GU.out _ e1).1 ?_)
            | (refine load_sup _ rfl (w.heap.size + 1) rfl rfl Z uv' (GU.out _ e1).2.2 ?_)
            | (go_at_call 15; refine (sB _ e1).mono ?_; rintro e z2 ⟨rfl, e2⟩))
          go_ret
          exact ⟨rfl, ((HH.out.called e1).called e2).bel⟩
    · rw [if_pos (by rfl)]
      ((try simp only); (try simp only [List.getElem_toArray]); (try simp only [List.getElem_cons_succ]); (try simp only [List.getElem_cons_zero]); (try simp only [Act.put]); (try simp only [List.setIfInBounds_toArray]); (try simp only [List.set_cons_succ]); (try simp only [List.set_cons_zero]))
      go_simp
      refine hK.out _ _ (hHeld.called ((Below.refl _ y0).alloc (Nat.le_refl _) (.cells #[.int .i64 0, .int .i64 0, .int .i64 0, .int .i64 0, .slice none 0 0] 24))) (fun g144 => ?_)
      clear hK K
      ((try simp only); (try simp only [List.getElem_toArray]); (try simp only [List.getElem_cons_succ]); (try simp only [List.getElem_cons_zero]); (try simp only [Act.put]); (try simp only [List.setIfInBounds_toArray]); (try simp only [List.set_cons_succ]); (try simp only [List.set_cons_zero]))
      have u145 : HasU (y0.alloc (.cells #[.int .i64 0, .int .i64 0, .int .i64 0, .int .i64 0, .slice none 0 0] 24)) y0.heap.size nilU (.slice none 0 0) := HasU.new y0 nilU _ _ rfl rfl
      have bz146 := bz0.alloc bz0.size (.cells #[.int .i64 0, .int .i64 0, .int .i64 0, .int .i64 0, .slice none 0 0] 24)
      have ng147 := bz0.size
      generalize y0.alloc (.cells #[.int .i64 0, .int .i64 0, .int .i64 0, .int .i64 0, .slice none 0 0] 24) = y143 at *
      refine wpAnyH_ready (rs := [0]) (by kernel_rfl) (by simp) (AllReadyH.cons rfl (fun K hK => ?_) AllReadyH.nil)
      rw [if_pos (by rfl)]
      ((try simp only); (try simp only [List.getElem_toArray]); (try simp only [List.getElem_cons_succ]); (try simp only [List.getElem_cons_zero]); (try simp only [Act.put]); (try simp only [List.setIfInBounds_toArray]); (try simp only [List.set_cons_succ]); (try simp only [List.set_cons_zero]))
      go_simp
      refine hK.out _ _ (g144.called ((Below.refl _ y143).alloc (Nat.le_refl _) (.cells #[] 5))) (fun g149 => ?_)
      clear hK K
      ((try simp only); (try simp only [List.getElem_toArray]); (try simp only [List.getElem_cons_succ]); (try simp only [List.getElem_cons_zero]); (try simp only [Act.put]); (try simp only [List.setIfInBounds_toArray]); (try simp only [List.set_cons_succ]); (try simp only [List.set_cons_zero]))
      have bz152 := bz146.alloc bz146.size (.cells #[] 5)
      have ow150 := own_empty y143 y143.heap.size (Nat.le_refl _)
      have bl151 : Below y143.heap.size y143 (y143.alloc (.cells #[] 5)) := (Below.refl _ _).alloc (Nat.le_refl _) _
      have u153 := u145.alloc (.cells #[] 5)
      generalize y143.alloc (.cells #[] 5) = y148 at *
      refine wpAnyH_ready (rs := [4]) (by kernel_rfl) (by simp) (AllReadyH.cons rfl (fun K hK => ?_) AllReadyH.nil)
      rw [if_pos (by rfl)]
      ((try simp only); (try simp only [List.getElem_toArray]); (try simp only [List.getElem_cons_succ]); (try simp only [List.getElem_cons_zero]); (try simp only [Act.put]); (try simp only [List.setIfInBounds_toArray]); (try simp only [List.set_cons_succ]); (try simp only [List.set_cons_zero]))
      refine wp_append_bytes (.tmp 67) (.tmp 70) rfl y143.heap.size 0 a (.slice (some ⟨y143.heap.size, 0, none⟩) 0 0) [] rfl ow150 ⟨ga, oa, none⟩ a pc ((enc T).take a) rfl lTa (cells_take (g149.b (Value.slice (some ⟨ga, oa, none⟩) 512 pc, enc T) (by simp))) (by rw [lTa]; simp) (by omega) bl151.size ?_
      intro a158 c159 y154 ow156 gr160
      have bz161 := bz152.grown gr160 bz152.size (fun k hk => by have := (ow150.lt k hk).1; have := bz146.size; omega)
      obtain ⟨g155', bl157⟩ := Held.grown g144 rfl bl151 ow150 gr160
      have u162 := u153.same (gr160.block _ u153.lt (own_apart u153 ow150))
      refine hK.out _ _ g155' (fun g155 => ?_)
      clear hK K
      ((try simp only); (try simp only [List.getElem_toArray]); (try simp only [List.getElem_cons_succ]); (try simp only [List.getElem_cons_zero]); (try simp only [Act.put]); (try simp only [List.setIfInBounds_toArray]); (try simp only [List.set_cons_succ]); (try simp only [List.set_cons_zero]))
      refine wpAnyH_ready (rs := [8]) (by kernel_rfl) (by simp) (AllReadyH.cons rfl (fun K hK => ?_) AllReadyH.nil)
      rw [if_pos (by rfl)]
      ((try simp only); (try simp only [List.getElem_toArray]); (try simp only [List.getElem_cons_succ]); (try simp only [List.getElem_cons_zero]); (try simp only [Act.put]); (try simp only [List.setIfInBounds_toArray]); (try simp only [List.set_cons_succ]); (try simp only [List.set_cons_zero]))
      refine wp_append_bytes (.tmp 71) (.tmp 74) rfl y143.heap.size a 512 (.slice a158 a c159) ([] ++ ((enc T).take a)) rfl ow156 ⟨gb, ob + a, none⟩ (512 - a) (qc - a) ((enc Z).drop a) rfl lZa (cells_drop (g155.b (Value.slice (some ⟨gb, ob, none⟩) 512 qc, enc Z) (by simp))) (by rw [List.nil_append, lTa, lZa]; omega) (by omega) bl157.size ?_
      intro a167 c168 y163 ow165 gr169
      have bz170 := bz161.grown gr169 bz161.size (fun k hk => by have := (ow156.lt k hk).1; have := bz146.size; omega)
      obtain ⟨g164', bl166⟩ := Held.grown g144 rfl bl157 ow156 gr169
      have u171 := u162.same (gr169.block _ u162.lt (own_apart u162 ow156))
      refine hK.out _ _ g164' (fun g164 => ?_)
      clear hK K
      ((try simp only); (try simp only [List.getElem_toArray]); (try simp only [List.getElem_cons_succ]); (try simp only [List.getElem_cons_zero]); (try simp only [Act.put]); (try simp only [List.setIfInBounds_toArray]); (try simp only [List.set_cons_succ]); (try simp only [List.set_cons_zero]))
      refine wpAnyH_ready (rs := [9]) (by kernel_rfl) (by simp) (AllReadyH.cons rfl (fun K hK => ?_) AllReadyH.nil)
      have hc173 : Calls Try.prog 13 #[(.slice a167 512 c168)] y163 (OfTo y163 RR) := (by have hx := of_byt (own_byt ow165); rw [List.nil_append, HRR.out] at hx; exact hx)
      rw [if_pos (by rfl)]
      ((try simp only); (try simp only [List.getElem_toArray]); (try simp only [List.getElem_cons_succ]); (try simp only [List.getElem_cons_zero]); (try simp only [Act.put]); (try simp only [List.setIfInBounds_toArray]); (try simp only [List.set_cons_succ]); (try simp only [List.set_cons_zero]))
      go_simp
      refine hc173.mono ?_
      intro e y172 ho180
      obtain ⟨sv176, rr174, rfl, sn177, hr175, b178⟩ := ho180
      have bz181 := bz170.trans (b178.mono bz170.size)
      have nl182 := u171.lt
      have u183 := u171.below b178 u171.lt
      refine hK.out _ _ (g164.called b178) (fun g179 => ?_)
      clear hK K hc173
      ((try simp only); (try simp only [List.getElem_toArray]); (try simp only [List.getElem_cons_succ]); (try simp only [List.getElem_cons_zero]); (try simp only [Act.put]); (try simp only [List.setIfInBounds_toArray]); (try simp only [List.set_cons_succ]); (try simp only [List.set_cons_zero]))
      refine wpAnyH_take (i := 10) (v := ?_) rfl (by kernel_rfl) (by kernel_rfl) (by kernel_rfl) (fun _ _ _ h => h) (Or.inl ⟨by rfl, ?_⟩) g179 ?_
      case refine_2 => (intro w hSw; (try dsimp only at hSw); go_simp; try (with_reducible rfl))
      ((try simp only); (try simp only [List.getElem_toArray]); (try simp only [List.getElem_cons_succ]); (try simp only [List.getElem_cons_zero]); (try simp only [Act.put]); (try simp only [List.setIfInBounds_toArray]); (try simp only [List.set_cons_succ]); (try simp only [List.set_cons_zero]))
      refine wpAnyH_take (i := 11) (v := ?_) rfl (by kernel_rfl) (by kernel_rfl) (by kernel_rfl) (fun _ _ _ h => h) (Or.inl ⟨by rfl, ?_⟩) g179 ?_
      case refine_2 => (intro w hSw; (try dsimp only at hSw); go_simp; try (with_reducible rfl))
      ((try simp only); (try simp only [List.getElem_toArray]); (try simp only [List.getElem_cons_succ]); (try simp only [List.getElem_cons_zero]); (try simp only [Act.put]); (try simp only [List.setIfInBounds_toArray]); (try simp only [List.set_cons_succ]); (try simp only [List.set_cons_zero]))
      refine wpAnyH_take (i := 12) (v := ?_) rfl (by kernel_rfl) (by kernel_rfl) (by kernel_rfl) (fun _ _ _ h => h) (Or.inl ⟨by rfl, ?_⟩) g179 ?_
      case refine_2 => (intro w hSw; (try dsimp only at hSw); go_simp; try (with_reducible rfl))
      ((try simp only); (try simp only [List.getElem_toArray]); (try simp only [List.getElem_cons_succ]); (try simp only [List.getElem_cons_zero]); (try simp only [Act.put]); (try simp only [List.setIfInBounds_toArray]); (try simp only [List.set_cons_succ]); (try simp only [List.set_cons_zero]))
      refine wpAnyH_ready (rs := [14]) (by kernel_rfl) (by simp) (AllReadyH.cons rfl (fun K hK => ?_) AllReadyH.nil)
      rw [if_pos (by rfl)]
      ((try simp only); (try simp only [List.getElem_toArray]); (try simp only [List.getElem_cons_succ]); (try simp only [List.getElem_cons_zero]); (try simp only [Act.put]); (try simp only [List.setIfInBounds_toArray]); (try simp only [List.set_cons_succ]); (try simp only [List.set_cons_zero]))
      refine store_sup_op _ _ rfl (y0.heap.size) rfl (RR.getD nilU) sv176 rfl sn177.one nilU (.slice none 0 0) u183 ?_
      intro y184 hu186 tx187 sx188
      have bF := below_rowed bz181 tx187 ng147 (Nat.le_refl _)
      have HF := y0h.called bF
      have snF : Sna y184 sv176 (RR.getD nilU).l := ⟨_, sn177.kept fun k hk => tx187.block k (hr175 k hk).2 (by have := hr175 k hk; omega) (by simp), fun k hk => by have := hr175 k hk; omega⟩
      refine hK.out _ _ HF (fun g185 => ?_)
      clear hK K
      ((try simp only); (try simp only [List.getElem_toArray]); (try simp only [List.getElem_cons_succ]); (try simp only [List.getElem_cons_zero]); (try simp only [Act.put]); (try simp only [List.setIfInBounds_toArray]); (try simp only [List.set_cons_succ]); (try simp only [List.set_cons_zero]))
      refine wpAnyH_take (i := 15) (v := ?_) rfl (by kernel_rfl) (by kernel_rfl) (by kernel_rfl) (fun _ _ _ h => h) (Or.inl ⟨by rfl, ?_⟩) g185 ?_
      case refine_2 => (intro w hSw; (try dsimp only at hSw); go_simp; try (with_reducible rfl))
      ((try simp only); (try simp only [List.getElem_toArray]); (try simp only [List.getElem_cons_succ]); (try simp only [List.getElem_cons_zero]); (try simp only [Act.put]); (try simp only [List.setIfInBounds_toArray]); (try simp only [List.set_cons_succ]); (try simp only [List.set_cons_zero]))
      refine wpAnyH_done (by kernel_rfl) ?_ _
      refine NoPanic.normal ?_
      have HH : Hid (Held w y184 [(w.heap.size + 1, Z, uv'), (w.heap.size, T, tv)] [(.slice (some ⟨gb, ob, none⟩) 512 qc, enc Z), (.slice (some ⟨ga, oa, none⟩) 512 pc, enc T)] [(uv', Z.l), (tv, T.l)]) := HF
      have SN : Hid (Sna y184 sv176 (RR.getD nilU).l) := snF
      have HU : Hid (HasU y184 (y0.heap.size) (RR.getD nilU) sv176) := hu186
      clear HF snF hu186 tx187 sx188 bF g185 bz0 y0h hHeld g144 u145 bz146 ng147 g149 ow150 bl151 bz152 u153 g155 ow156 bl157 gr160 bz161 u162 g164 ow165 bl166 gr169 bz170 u171 hr175 sn177 b178 g179 bz181 nl182 u183
      generalize y0.heap.size = nb at *
      generalize y184 = z at *
      generalize sv176 = zv at *
      rcases KEY.out with ⟨rfl, h0, h1⟩ | rfl | rfl
      · have q0 : (0 : Int) < (a : Int) := by omega
        have q1 : (a : Int) < 512 := by omega
        have en : code none = 12 := rfl
        have BB := HH.out.bel
        go_wp2
        go_ret
        exact ⟨rfl, BB⟩
      · have ec : code (some T) = 0 := rfl
        have sA := same_calls z T T zv tv SN.out (HH.out.s (tv, T.l) (by simp))
        rw [decide_eq_true (rfl : T = T)] at sA
        have sB : ∀ y, Below z.heap.size z y → Calls Try.prog 15 #[uv T zv, uv Z uv'] y fun e w' => e = .returned (.bool (decide (T = Z))) ∧ Below y.heap.size y w' := fun y hy => same_calls y T Z zv uv' (SN.out.below hy) ((HH.out.s (uv', Z.l) (by simp)).below hy)
        have GU : Hid (∀ y, Below z.heap.size z y → HasU y nb T zv ∧ HasU y w.heap.size T tv ∧ HasU y (w.heap.size + 1) Z uv') := fun y hy => ⟨HU.out.below hy HU.out.lt, (HH.out.u (w.heap.size, T, tv) (by simp)).below hy (HH.out.u (w.heap.size, T, tv) (by simp)).lt, (HH.out.u (w.heap.size + 1, Z, uv') (by simp)).below hy (HH.out.u (w.heap.size + 1, Z, uv') (by simp)).lt⟩
        go_upto_region 15 with (first
          | (refine load_sup _ rfl nb rfl rfl T zv (GU.out _ (Below.refl _ _)).1 ?_)
          | (refine load_sup _ rfl w.heap.size rfl rfl T tv (GU.out _ (Below.refl _ _)).2.1 ?_)
          | (go_at_call 15; refine sA.mono ?_; rintro e z1 ⟨rfl, e1⟩))
        go_wp2_with (first
          | (refine load_sup _ rfl nb rfl rfl T zv (GU.out _ e1).1 ?_)
          | (refine load_sup _ rfl (w.heap.size + 1) rfl rfl Z uv' (GU.out _ e1).2.2 ?_)
          | (go_at_call 15; refine (sB _ e1).mono ?_; rintro e z2 ⟨rfl, e2⟩))
        go_ret
        exact ⟨rfl, ((HH.out.called e1).called e2).bel⟩
      · have ec : code (some Z) = 0 := rfl
        have sA := same_calls z Z T zv tv SN.out (HH.out.s (tv, T.l) (by simp))
        rw [decide_eq_false (fun e : Z = T => HG.out (by rw [e]))] at sA
        have sB : ∀ y, Below z.heap.size z y → Calls Try.prog 15 #[uv Z zv, uv Z uv'] y fun e w' => e = .returned (.bool true) ∧ Below y.heap.size y w' := fun y hy => by
          have := same_calls y Z Z zv uv' (SN.out.below hy) ((HH.out.s (uv', Z.l) (by simp)).below hy)
          rw [decide_eq_true (rfl : Z = Z)] at this
          exact this
        have GU : Hid (∀ y, Below z.heap.size z y → HasU y nb Z zv ∧ HasU y w.heap.size T tv ∧ HasU y (w.heap.size + 1) Z uv') := fun y hy => ⟨HU.out.below hy HU.out.lt, (HH.out.u (w.heap.size, T, tv) (by simp)).below hy (HH.out.u (w.heap.size, T, tv) (by simp)).lt, (HH.out.u (w.heap.size + 1, Z, uv') (by simp)).below hy (HH.out.u (w.heap.size + 1, Z, uv') (by simp)).lt⟩
        go_upto_region 15 with (first
          | (refine load_sup _ rfl nb rfl rfl Z zv (GU.out _ (Below.refl _ _)).1 ?_)
          | (refine load_sup _ rfl w.heap.size rfl rfl T tv (GU.out _ (Below.refl _ _)).2.1 ?_)
          | (go_at_call 15; refine sA.mono ?_; rintro e z1 ⟨rfl, e1⟩))
        go_wp2_with (first
          | (refine load_sup _ rfl nb rfl rfl Z zv (GU.out _ e1).1 ?_)
          | (refine load_sup _ rfl (w.heap.size + 1) rfl rfl Z uv' (GU.out _ e1).2.2 ?_)
          | (go_at_call 15; refine (sB _ e1).mono ?_; rintro e z2 ⟨rfl, e2⟩))
        go_ret
        exact ⟨rfl, ((HH.out.called e1).called e2).bel⟩
end Go.Proofs.Ytbjnbobohkjhiaa
