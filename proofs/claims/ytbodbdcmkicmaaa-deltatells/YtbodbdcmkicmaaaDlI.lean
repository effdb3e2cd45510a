/- What must be in any case: shown. -/
import Derived.Test.YtbodbdcmkicmaaaDlH
import Derived.Test.YtbodbdcmkicmaaaSl3
namespace Go.Proofs.Ytbodbdcmkicmaaa
set_option linter.unusedVariables false
open Go.RowKit

/-- The key of a number. -/
def kb (n : UInt8) : Kz := ⟨n :: zs 23, rfl⟩
set_option maxRecDepth 100000 in
set_option maxHeartbeats 1000000 in
theorem k_calls (w : World) (N : Int) (n : UInt8) (hb : Try.prog.built 41 [(0, .int .u8 N)] = some (bc (n :: zs 23)).toArray) : Calls Try.prog 27 #[.int .u8 N] w fun e w' => e = .returned (kv (kb n).k) ∧ Below w.heap.size w w' := by
  go_enter Try.func27, Try.ntmps27
  go_wp2_with (first
    | (refine build_at rfl rfl (cells := (bc (n :: zs 23)).toArray) (by simp only [List.map_toArray, List.map_cons, List.map_nil]; exact hb) ?_)
    | (refine store_el elK rfl _ _ rfl w.heap.size rfl (kb n) rfl kz0 (InB.new encK _ w kz0 _ rfl) ?_; intro x1 hu1 tx1 sx1))
  refine ret_el elK rfl w.heap.size (kb n) rfl hu1 rfl ?_
  exact ⟨rfl, ((Below.refl _ w).alloc (Nat.le_refl _) _).trans (tx1.below (by simp) (Nat.le_refl _) (by simp))⟩
theorem k1 : Try.prog.built 41 [(0, .int .u8 1)] = some (bc (1 :: zs 23)).toArray := by kernel_rfl
theorem k2 : Try.prog.built 41 [(0, .int .u8 2)] = some (bc (2 :: zs 23)).toArray := by kernel_rfl
theorem k3 : Try.prog.built 41 [(0, .int .u8 3)] = some (bc (3 :: zs 23)).toArray := by kernel_rfl
def pb (n : UInt8) (v : List UInt8) : Pa := ⟨(kb n).k, (kb n).h, v⟩
def cb (n : UInt8) (v : List UInt8) (g : Bool) : Ch := ⟨(kb n).k, (kb n).h, v, g⟩
def shA : List Pa := [pb 1 [120], pb 2 [121]]
def shB : List Pa := [pb 2 [122], pb 3 [119]]
def shD : List Ch := [cb 1 [] true, cb 2 [122] false, cb 3 [119] false]
theorem n12 : (kb 1).n < (kb 2).n := by decide
theorem n23 : (kb 2).n < (kb 3).n := by decide
theorem sh_last (x : Int) : lastA Pa.n shA x = (if (kb 2).n = x then some (pb 2 [121]) else if (kb 1).n = x then some (pb 1 [120]) else none) ∧ lastA Pa.n shB x = (if (kb 3).n = x then some (pb 3 [119]) else if (kb 2).n = x then some (pb 2 [122]) else none) := ⟨rfl, rfl⟩
theorem sh_diff : DiffIs shA shB shD := by
  have h1 := n12
  have h2 := n23
  refine ⟨?_, fun x => ?_⟩
  · refine List.pairwise_cons.2 ⟨fun c hc => ?_, List.pairwise_cons.2 ⟨fun c hc => ?_, List.pairwise_cons.2 ⟨fun c hc => (by cases hc), List.Pairwise.nil⟩⟩⟩
    · rcases List.mem_cons.1 hc with rfl | hc
      · exact h1
      · rw [List.mem_singleton] at hc; subst hc; exact Int.lt_trans h1 h2
    · rw [List.mem_singleton] at hc; subst hc; exact h2
  · rw [(sh_last x).1, (sh_last x).2]
    show (if (kb 1).n = x then some (cb 1 [] true) else if (kb 2).n = x then some (cb 2 [122] false) else if (kb 3).n = x then some (cb 3 [119] false) else none) = _
    generalize (kb 1).n = a at *
    generalize (kb 2).n = b at *
    generalize (kb 3).n = c at *
    by_cases e1 : a = x
    · have e2 : ¬ b = x := by omega
      have e3 : ¬ c = x := by omega
      simp only [e1, e2, e3, if_true, if_false]
      rfl
    · by_cases e2 : b = x
      · have e3 : ¬ c = x := by omega
        simp only [e1, e2, e3, if_true, if_false]
        rfl
      · by_cases e3 : c = x
        · simp only [e1, e2, e3, if_true, if_false]
          rfl
        · simp only [e1, e2, e3, if_false]
          rfl
theorem sh_ascB : Asc Pa.n shB := List.pairwise_cons.2 ⟨fun c hc => by rw [List.mem_singleton] at hc; subst hc; exact n23, List.pairwise_cons.2 ⟨fun c hc => (by cases hc), List.Pairwise.nil⟩⟩
theorem sh_merge {m : List Pa} {ks : List Kz} (h : MergeIs shA shB shA m ks) : m.length = 2 ∧ ks = [] := by
  obtain ⟨⟨d, hd, hm⟩, hc⟩ := h
  have := diff_none hd
  subst this
  have e : m = shB := asc_ext Pa.n hm.1 sh_ascB fun x => by
    rw [hm.2, ← lastA_asc Pa.n sh_ascB]
    rfl
  exact ⟨by rw [e]; rfl, hc.nil fun x hx => hx.1 rfl⟩
theorem sh_map {m : List Pa} (h : MapIs (shA ++ shB) m) : m.length = 3 := by
  have h1 := n12
  have h2 := n23
  have e : m = [pb 1 [120], pb 2 [122], pb 3 [119]] := asc_ext Pa.n h.1 (List.pairwise_cons.2 ⟨fun c hc => by
      rcases List.mem_cons.1 hc with rfl | hc
      · exact h1
      · rw [List.mem_singleton] at hc; subst hc; exact Int.lt_trans h1 h2, List.pairwise_cons.2 ⟨fun c hc => by rw [List.mem_singleton] at hc; subst hc; exact h2, List.pairwise_cons.2 ⟨fun c hc => (by cases hc), List.Pairwise.nil⟩⟩⟩) fun x => by
    rw [h.2, lastA_append, (sh_last x).1, (sh_last x).2]
    show _ = (if (kb 1).n = x then some (pb 1 [120]) else if (kb 2).n = x then some (pb 2 [122]) else if (kb 3).n = x then some (pb 3 [119]) else none)
    generalize (kb 1).n = a at *
    generalize (kb 2).n = b at *
    generalize (kb 3).n = c at *
    by_cases e1 : a = x
    · have e2 : ¬ b = x := by omega
      have e3 : ¬ c = x := by omega
      simp only [e1, e2, e3, if_true, if_false]
      rfl
    · by_cases e2 : b = x
      · have e3 : ¬ c = x := by omega
        simp only [e1, e2, e3, if_true, if_false]
        rfl
      · by_cases e3 : c = x
        · simp only [e1, e2, e3, if_true, if_false]
          rfl
        · simp only [e1, e2, e3, if_false]
          rfl
  rw [e]
  rfl
set_option maxRecDepth 100000 in
set_option maxHeartbeats 8000000 in
theorem shown_calls (w : World) : Calls Try.prog 9 #[] w fun e w' => e = .returned (.bool true) ∧ Below w.heap.size w w' := by
  have B0 : Below w.heap.size w w := Below.refl _ w
  go_enter Try.func9, Try.ntmps9
  go_wp2_with fail
  refine (k_calls _ 1 1 k1).mono ?_
  rintro e x1 ⟨rfl, b1⟩
  go_wp2_with (refine build_p rfl _ _ rfl (pb 1 [120]) rfl rfl ?_)
  refine (k_calls _ 2 2 k2).mono ?_
  rintro e x2 ⟨rfl, b2⟩
  have B2 : Below w.heap.size w x2 := b1.trans (b2.mono b1.size)
  clear b1 b2 B0
  go_wp2_with (first
    | (refine build_p rfl _ _ rfl (pb 2 [121]) rfl rfl ?_)
    | (refine build_el2 rowP rfl _ _ rfl (pb 1 [120]) (pb 2 [121]) rfl rfl (by decide) ?_; intro x3 o3 b3 s3))
  have B3 : Below w.heap.size w x3 := B2.trans (b3.mono B2.size)
  have OA : Own encP 48 x3 x2.heap.size (.slice (some ⟨x2.heap.size, 0, none⟩) 2 2) shA := o3
  have hga : x2.heap.size < x3.heap.size := by omega
  have hgw : w.heap.size ≤ x2.heap.size := B2.size
  clear o3 b3 s3 B2
  generalize x2.heap.size = ga at *
  refine (k_calls _ 2 2 k2).mono ?_
  rintro e x4 ⟨rfl, b4⟩
  go_wp2_with (refine build_p rfl _ _ rfl (pb 2 [122]) rfl rfl ?_)
  refine (k_calls _ 3 3 k3).mono ?_
  rintro e x5 ⟨rfl, b5⟩
  have b35 : Below x3.heap.size x3 x5 := b4.trans (b5.mono b4.size)
  have B5 : Below w.heap.size w x5 := B3.trans (b35.mono B3.size)
  have OA5 := OA.below b35
  have hs5 := b35.size
  clear b4 b5 b35 B3 OA
  go_wp2_with (first
    | (refine build_p rfl _ _ rfl (pb 3 [119]) rfl rfl ?_)
    | (refine build_el2 rowP rfl _ _ rfl (pb 2 [122]) (pb 3 [119]) rfl rfl (by decide) ?_; intro x6 o6 b6 s6))
  have B6 : Below w.heap.size w x6 := B5.trans (b6.mono B5.size)
  have OA6 := OA5.below b6
  have OB6 : Own encP 48 x6 x5.heap.size (.slice (some ⟨x5.heap.size, 0, none⟩) 2 2) shB := o6
  clear o6 b6 B5 OA5
  generalize hgb : x5.heap.size = gb at *
  refine (diff_calls x6 _ _ shA shB OA6.slB OB6.slB (by decide) (by decide)).mono ?_
  rintro e x7 ⟨vd, d, rfl, od, di, _, b7⟩
  obtain rfl := di.unique sh_diff
  have B7 : Below w.heap.size w x7 := B6.trans (b7.mono B6.size)
  have OA7 := OA6.below b7
  have OB7 := OB6.below b7
  have hx7 : x3.heap.size ≤ x6.heap.size := by omega
  clear di b7 B6 OA6 OB6
  obtain ⟨gd, cpd, rfl, hgd⟩ : ∃ gd cpd, vd = .slice (some ⟨gd, 0, none⟩) 3 cpd ∧ x6.heap.size ≤ gd ∧ 3 ≤ cpd := by
    rcases od.2 with ⟨_, h0⟩ | ⟨g, cap, cur, e, hb, _, hn, _⟩
    · cases h0
    · exact ⟨g, cap, e, hb, hn⟩
  obtain ⟨hgd, hcd⟩ := hgd
  have hcdI : (3 : Int) ≤ (cpd : Int) := by omega
  go_wp2_with fail
  refine (merge_calls x7 _ _ _ shA shB shA OA7.slB OB7.slB OA7.slB (by decide) (by decide) (by decide)).mono ?_
  rintro e x8 ⟨vm, vk, m, ks, rfl, om, ok, mi, _, _, b8⟩
  obtain ⟨hm2, rfl⟩ := sh_merge mi
  have B8 : Below w.heap.size w x8 := B7.trans (b8.mono B7.size)
  have OA8 := OA7.below b8
  have OB8 := OB7.below b8
  have OD8 := od.below b8
  obtain ⟨adm, cpm, rfl, hcm, _⟩ := id om.slB
  obtain ⟨adk, cpk, rfl, hck, _⟩ := id ok.slB
  rw [hm2] at hcm ⊢
  simp only [List.length_nil] at hck ⊢
  clear mi b8 B7 OA7 OB7 od om ok hm2
  have sd := OD8.slB
  have r0 : x8.rangeAt gd 0 (encC.c (cb 1 [] true)) := by
    obtain ⟨g, off, e, _, h⟩ := SlB.at sd 0 (by decide)
    cases e
    have h' : x8.rangeAt gd (0 + 0 * 26) (encC.c (cb 1 [] true)) := h
    simpa using h'
  have r1 : x8.cell? ⟨gd, 50, none⟩ = some (.string (str [122])) := by
    obtain ⟨g, off, e, _, h⟩ := SlB.at sd 1 (by decide)
    cases e
    exact (range_vC h).1
  have r2 : x8.cell? ⟨gd, 76, none⟩ = some (.string (str [119])) := by
    obtain ⟨g, off, e, _, h⟩ := SlB.at sd 2 (by decide)
    cases e
    exact (range_vC h).1
  have HS : Hid (x8.rangeAt gd 0 (encC.c (cb 1 [] true)) ∧ x8.cell? ⟨gd, 50, none⟩ = some (.string (str [122])) ∧ x8.cell? ⟨gd, 76, none⟩ = some (.string (str [119]))) := ⟨r0, r1, r2⟩
  have HX : Hid (Below w.heap.size w x8 ∧ Own encP 48 x8 ga (.slice (some ⟨ga, 0, none⟩) 2 2) shA ∧ Own encP 48 x8 gb (.slice (some ⟨gb, 0, none⟩) 2 2) shB ∧ gd < x8.heap.size ∧ ga < gd) := ⟨B8, OA8, OB8, (OD8.lt gd rfl).2, by omega⟩
  have hInfo : (Try.prog.info? 43).map (·.size) = some (encC.c (cb 1 [] true)).length := by rw [encC.len]; exact elC.info
  have HKW : Hid (∀ y : World, Calls Try.prog 27 #[.int .u8 1] y fun e w' => e = .returned (kv (kb 1).k) ∧ Below y.heap.size y w') := fun y => k_calls y 1 1 k1
  have HGW : Hid (w.heap.size ≤ ga) := hgw
  clear sd r0 r1 r2 B8 OA8 OB8 OD8 hgb hgd hx7 hs5 hga hgw s6 x7 x6 x5 x4 x3 x2 x1
  go_upto_region 5 with fail
  refine wp_region_noPanic ?_
  refine wp_region_held_drew (S := (fun yy => yy.rangeAt gd 0 (encC.c (cb 1 [] true)) ∧ yy.cell? ⟨gd, 50, none⟩ = some (.string (str [122])) ∧ yy.cell? ⟨gd, 76, none⟩ = some (.string (str [119])))) (by kernel_rfl) HS.out (fun hHeld => ?_)
  refine wpAnyH_take (i := 0) (v := ?_) rfl (by kernel_rfl) (by kernel_rfl) (by kernel_rfl) (fun _ _ _ h => h) (Or.inl ⟨by rfl, ?_⟩) hHeld ?_
  case refine_2 => (intro w hSw; (try dsimp only at hSw); go_simp; try (with_reducible rfl))
  ((try simp only); (try simp only [List.getElem_toArray]); (try simp only [List.getElem_cons_succ]); (try simp only [List.getElem_cons_zero]); (try simp only [Act.put]); (try simp only [List.setIfInBounds_toArray]); (try simp only [List.set_cons_succ]); (try simp only [List.set_cons_zero]))
  refine wpAnyH_take (i := 1) (v := ?_) rfl (by kernel_rfl) (by kernel_rfl) (by kernel_rfl) (fun _ _ _ h => h) (Or.inl ⟨by rfl, ?_⟩) hHeld ?_
  case refine_2 => (intro w hSw; (try dsimp only at hSw); go_simp; try (with_reducible rfl))
  ((try simp only); (try simp only [List.getElem_toArray]); (try simp only [List.getElem_cons_succ]); (try simp only [List.getElem_cons_zero]); (try simp only [Act.put]); (try simp only [List.setIfInBounds_toArray]); (try simp only [List.set_cons_succ]); (try simp only [List.set_cons_zero]))
  refine wpAnyH_take (i := 2) (v := ?_) rfl (by kernel_rfl) (by kernel_rfl) (by kernel_rfl) (fun _ _ _ h => h) (Or.inl ⟨by rfl, ?_⟩) hHeld ?_
  case refine_2 => (intro w hSw; (try dsimp only at hSw); go_simp; try (with_reducible rfl))
  ((try simp only); (try simp only [List.getElem_toArray]); (try simp only [List.getElem_cons_succ]); (try simp only [List.getElem_cons_zero]); (try simp only [Act.put]); (try simp only [List.setIfInBounds_toArray]); (try simp only [List.set_cons_succ]); (try simp only [List.set_cons_zero]))
  refine wpAnyH_take (i := 3) (v := ?_) rfl (by kernel_rfl) (by kernel_rfl) (by kernel_rfl) (fun _ _ _ h => h) (Or.inl ⟨by rfl, ?_⟩) hHeld ?_
  case refine_2 => (intro w hSw; (try dsimp only at hSw); go_simp; try (with_reducible rfl))
  ((try simp only); (try simp only [List.getElem_toArray]); (try simp only [List.getElem_cons_succ]); (try simp only [List.getElem_cons_zero]); (try simp only [Act.put]); (try simp only [List.setIfInBounds_toArray]); (try simp only [List.set_cons_succ]); (try simp only [List.set_cons_zero]))
  refine wpAnyH_take (i := 4) (v := ?_) rfl (by kernel_rfl) (by kernel_rfl) (by kernel_rfl) (fun _ _ _ h => h) (Or.inl ⟨by rfl, ?_⟩) hHeld ?_
  case refine_2 => (intro w hSw; (try dsimp only at hSw); go_simp; try (with_reducible rfl))
  ((try simp only); (try simp only [List.getElem_toArray]); (try simp only [List.getElem_cons_succ]); (try simp only [List.getElem_cons_zero]); (try simp only [Act.put]); (try simp only [List.setIfInBounds_toArray]); (try simp only [List.set_cons_succ]); (try simp only [List.set_cons_zero]))
  refine wpAnyH_take (i := 5) (v := ?_) rfl (by kernel_rfl) (by kernel_rfl) (by kernel_rfl) (fun _ _ _ h => h) (Or.inl ⟨by rfl, ?_⟩) hHeld ?_
  case refine_2 => (intro w hSw; (try dsimp only at hSw); go_simp; try (with_reducible rfl))
  ((try simp only); (try simp only [List.getElem_toArray]); (try simp only [List.getElem_cons_succ]); (try simp only [List.getElem_cons_zero]); (try simp only [Act.put]); (try simp only [List.setIfInBounds_toArray]); (try simp only [List.set_cons_succ]); (try simp only [List.set_cons_zero]))
  refine wpAnyH_take (i := 6) rfl (by kernel_rfl) (by kernel_rfl) (by kernel_rfl) (fun _ _ _ h => h) (yieldsIf_load_mid (by rfl) _ _ rfl _ _ rfl _ _ (fun _ h => h.1) Try.underlying43 rfl hInfo) hHeld ?_
  ((try simp only); (try simp only [List.getElem_toArray]); (try simp only [List.getElem_cons_succ]); (try simp only [List.getElem_cons_zero]); (try simp only [Act.put]); (try simp only [List.setIfInBounds_toArray]); (try simp only [List.set_cons_succ]); (try simp only [List.set_cons_zero]))
  have HX1 : Hid (Below w.heap.size w x8.drew ∧ Own encP 48 x8.drew ga (.slice (some ⟨ga, 0, none⟩) 2 2) shA ∧ Own encP 48 x8.drew gb (.slice (some ⟨gb, 0, none⟩) 2 2) shB ∧ gd < x8.drew.heap.size ∧ ga < gd) := ⟨HX.out.1.drew, HX.out.2.1, HX.out.2.2.1, HX.out.2.2.2⟩
  have HSD : Hid (x8.drew.rangeAt gd 0 (encC.c (cb 1 [] true)) ∧ x8.drew.cell? ⟨gd, 50, none⟩ = some (.string (str [122])) ∧ x8.drew.cell? ⟨gd, 76, none⟩ = some (.string (str [119]))) := HS.out
  clear HX HS
  generalize x8.drew = y0 at *
  refine wpAnyH_ready (rs := [7]) (by kernel_rfl) (by simp) (AllReadyH.cons rfl (fun K hK => ?_) AllReadyH.nil)
  rw [if_pos (by rfl)]
  ((try simp only); (try simp only [List.getElem_toArray]); (try simp only [List.getElem_cons_succ]); (try simp only [List.getElem_cons_zero]); (try simp only [Act.put]); (try simp only [List.setIfInBounds_toArray]); (try simp only [List.set_cons_succ]); (try simp only [List.set_cons_zero]))
  go_simp
  refine (HKW.out y0).mono ?_
  rintro e y1 ⟨rfl, c1⟩
  have HS1 : Hid (y1.rangeAt gd 0 (encC.c (cb 1 [] true)) ∧ y1.cell? ⟨gd, 50, none⟩ = some (.string (str [122])) ∧ y1.cell? ⟨gd, 76, none⟩ = some (.string (str [119]))) := ⟨range_same' HSD.out.1 (c1.block gd HX1.out.2.2.2.1), (c1.cell (p := ⟨gd, 50, none⟩) HX1.out.2.2.2.1).trans HSD.out.2.1, (c1.cell (p := ⟨gd, 76, none⟩) HX1.out.2.2.2.1).trans HSD.out.2.2⟩
  refine hK.out _ _ HS1.out (fun hHeld => ?_)
  clear hK K
  ((try simp only); (try simp only [List.getElem_toArray]); (try simp only [List.getElem_cons_succ]); (try simp only [List.getElem_cons_zero]); (try simp only [Act.put]); (try simp only [List.setIfInBounds_toArray]); (try simp only [List.set_cons_succ]); (try simp only [List.set_cons_zero]))
  have HX2 : Hid (Below w.heap.size w y1 ∧ Own encP 48 y1 ga (.slice (some ⟨ga, 0, none⟩) 2 2) shA ∧ Own encP 48 y1 gb (.slice (some ⟨gb, 0, none⟩) 2 2) shB ∧ gd < y1.heap.size ∧ ga < gd) := ⟨HX1.out.1.trans (c1.mono HX1.out.1.size), HX1.out.2.1.below c1, HX1.out.2.2.1.below c1, by have := c1.size; have := HX1.out.2.2.2.1; omega, HX1.out.2.2.2.2⟩
  clear c1 HX1 HSD
  refine wpAnyH_take (i := 8) (v := .agg (encC.c (cb 1 [] true)).toArray) rfl (by kernel_rfl) (by kernel_rfl) (by kernel_rfl) (fun _ _ _ h => h) (Or.inl ⟨by rfl, fun w _ => exec_build rfl (by simp only [List.map_toArray, List.map_cons, List.map_nil]; exact built_gone (kb 1)) w⟩) hHeld ?_
  ((try simp only); (try simp only [List.getElem_toArray]); (try simp only [List.getElem_cons_succ]); (try simp only [List.getElem_cons_zero]); (try simp only [Act.put]); (try simp only [List.setIfInBounds_toArray]); (try simp only [List.set_cons_succ]); (try simp only [List.set_cons_zero]))
  refine wpAnyH_take (i := 9) (v := .bool true) rfl (by kernel_rfl) (by kernel_rfl) (by kernel_rfl) (fun _ _ _ h => h) (Or.inl ⟨by rfl, fun w _ => by rw [exec_eq_C _ _ _ rfl (cb 1 [] true) (cb 1 [] true) rfl rfl w, decide_eq_true rfl]⟩) hHeld ?_
  ((try simp only); (try simp only [List.getElem_toArray]); (try simp only [List.getElem_cons_succ]); (try simp only [List.getElem_cons_zero]); (try simp only [Act.put]); (try simp only [List.setIfInBounds_toArray]); (try simp only [List.set_cons_succ]); (try simp only [List.set_cons_zero]))
  refine wpAnyH_take (i := 10) (v := ?_) rfl (by kernel_rfl) (by kernel_rfl) (by kernel_rfl) (fun _ _ _ h => h) (Or.inl ⟨by rfl, ?_⟩) hHeld ?_
  case refine_2 => (intro w hSw; (try dsimp only at hSw); obtain ⟨_, hS1, hS2⟩ := hSw; go_simp; try (with_reducible rfl))
  ((try simp only); (try simp only [List.getElem_toArray]); (try simp only [List.getElem_cons_succ]); (try simp only [List.getElem_cons_zero]); (try simp only [Act.put]); (try simp only [List.setIfInBounds_toArray]); (try simp only [List.set_cons_succ]); (try simp only [List.set_cons_zero]))
  refine wpAnyH_take (i := 11) (v := ?_) rfl (by kernel_rfl) (by kernel_rfl) (by kernel_rfl) (fun _ _ _ h => h) (Or.inl ⟨by rfl, ?_⟩) hHeld ?_
  case refine_2 => (intro w hSw; (try dsimp only at hSw); obtain ⟨_, hS1, hS2⟩ := hSw; go_simp; try (with_reducible rfl))
  ((try simp only); (try simp only [List.getElem_toArray]); (try simp only [List.getElem_cons_succ]); (try simp only [List.getElem_cons_zero]); (try simp only [Act.put]); (try simp only [List.setIfInBounds_toArray]); (try simp only [List.set_cons_succ]); (try simp only [List.set_cons_zero]))
  refine wpAnyH_take (i := 12) (v := ?_) rfl (by kernel_rfl) (by kernel_rfl) (by kernel_rfl) (fun _ _ _ h => h) (Or.inl ⟨by rfl, ?_⟩) hHeld ?_
  case refine_2 => (intro w hSw; (try dsimp only at hSw); obtain ⟨_, hS1, hS2⟩ := hSw; go_simp; try (with_reducible rfl))
  ((try simp only); (try simp only [List.getElem_toArray]); (try simp only [List.getElem_cons_succ]); (try simp only [List.getElem_cons_zero]); (try simp only [Act.put]); (try simp only [List.setIfInBounds_toArray]); (try simp only [List.set_cons_succ]); (try simp only [List.set_cons_zero]))
  refine wpAnyH_take (i := 13) (v := ?_) rfl (by kernel_rfl) (by kernel_rfl) (by kernel_rfl) (fun _ _ _ h => h) (Or.inl ⟨by rfl, ?_⟩) hHeld ?_
  case refine_2 => (intro w hSw; (try dsimp only at hSw); obtain ⟨_, hS1, hS2⟩ := hSw; go_simp; try (with_reducible rfl))
  ((try simp only); (try simp only [List.getElem_toArray]); (try simp only [List.getElem_cons_succ]); (try simp only [List.getElem_cons_zero]); (try simp only [Act.put]); (try simp only [List.setIfInBounds_toArray]); (try simp only [List.set_cons_succ]); (try simp only [List.set_cons_zero]))
  refine wpAnyH_take (i := 14) (v := ?_) rfl (by kernel_rfl) (by kernel_rfl) (by kernel_rfl) (fun _ _ _ h => h) (Or.inl ⟨by rfl, ?_⟩) hHeld ?_
  case refine_2 => (intro w hSw; (try dsimp only at hSw); obtain ⟨_, hS1, hS2⟩ := hSw; go_simp; try (with_reducible rfl))
  ((try simp only); (try simp only [List.getElem_toArray]); (try simp only [List.getElem_cons_succ]); (try simp only [List.getElem_cons_zero]); (try simp only [Act.put]); (try simp only [List.setIfInBounds_toArray]); (try simp only [List.set_cons_succ]); (try simp only [List.set_cons_zero]))
  refine wpAnyH_take (i := 15) (v := ?_) rfl (by kernel_rfl) (by kernel_rfl) (by kernel_rfl) (fun _ _ _ h => h) (Or.inl ⟨by rfl, ?_⟩) hHeld ?_
  case refine_2 => (intro w hSw; (try dsimp only at hSw); obtain ⟨_, hS1, hS2⟩ := hSw; go_simp; try (with_reducible rfl))
  ((try simp only); (try simp only [List.getElem_toArray]); (try simp only [List.getElem_cons_succ]); (try simp only [List.getElem_cons_zero]); (try simp only [Act.put]); (try simp only [List.setIfInBounds_toArray]); (try simp only [List.set_cons_succ]); (try simp only [List.set_cons_zero]))
  refine wpAnyH_take (i := 16) (v := .bool true) rfl (by kernel_rfl) (by kernel_rfl) (by kernel_rfl) (fun _ _ _ h => h) (Or.inl ⟨by rfl, by intro w _; go_simp; exact str_toList _⟩) hHeld ?_
  ((try simp only); (try simp only [List.getElem_toArray]); (try simp only [List.getElem_cons_succ]); (try simp only [List.getElem_cons_zero]); (try simp only [Act.put]); (try simp only [List.setIfInBounds_toArray]); (try simp only [List.set_cons_succ]); (try simp only [List.set_cons_zero]))
  refine wpAnyH_take (i := 17) (v := ?_) rfl (by kernel_rfl) (by kernel_rfl) (by kernel_rfl) (fun _ _ _ h => h) (Or.inl ⟨by rfl, ?_⟩) hHeld ?_
  case refine_2 => (intro w hSw; (try dsimp only at hSw); obtain ⟨_, hS1, hS2⟩ := hSw; go_simp; try (with_reducible rfl))
  ((try simp only); (try simp only [List.getElem_toArray]); (try simp only [List.getElem_cons_succ]); (try simp only [List.getElem_cons_zero]); (try simp only [Act.put]); (try simp only [List.setIfInBounds_toArray]); (try simp only [List.set_cons_succ]); (try simp only [List.set_cons_zero]))
  refine wpAnyH_take (i := 18) (v := ?_) rfl (by kernel_rfl) (by kernel_rfl) (by kernel_rfl) (fun _ _ _ h => h) (Or.inl ⟨by rfl, ?_⟩) hHeld ?_
  case refine_2 => (intro w hSw; (try dsimp only at hSw); obtain ⟨_, hS1, hS2⟩ := hSw; go_simp; try (with_reducible rfl))
  ((try simp only); (try simp only [List.getElem_toArray]); (try simp only [List.getElem_cons_succ]); (try simp only [List.getElem_cons_zero]); (try simp only [Act.put]); (try simp only [List.setIfInBounds_toArray]); (try simp only [List.set_cons_succ]); (try simp only [List.set_cons_zero]))
  refine wpAnyH_take (i := 19) (v := ?_) rfl (by kernel_rfl) (by kernel_rfl) (by kernel_rfl) (fun _ _ _ h => h) (Or.inl ⟨by rfl, ?_⟩) hHeld ?_
  case refine_2 => (intro w hSw; (try dsimp only at hSw); obtain ⟨_, hS1, hS2⟩ := hSw; go_simp; try (with_reducible rfl))
  ((try simp only); (try simp only [List.getElem_toArray]); (try simp only [List.getElem_cons_succ]); (try simp only [List.getElem_cons_zero]); (try simp only [Act.put]); (try simp only [List.setIfInBounds_toArray]); (try simp only [List.set_cons_succ]); (try simp only [List.set_cons_zero]))
  refine wpAnyH_take (i := 20) (v := ?_) rfl (by kernel_rfl) (by kernel_rfl) (by kernel_rfl) (fun _ _ _ h => h) (Or.inl ⟨by rfl, ?_⟩) hHeld ?_
  case refine_2 => (intro w hSw; (try dsimp only at hSw); obtain ⟨_, hS1, hS2⟩ := hSw; go_simp; try (with_reducible rfl))
  ((try simp only); (try simp only [List.getElem_toArray]); (try simp only [List.getElem_cons_succ]); (try simp only [List.getElem_cons_zero]); (try simp only [Act.put]); (try simp only [List.setIfInBounds_toArray]); (try simp only [List.set_cons_succ]); (try simp only [List.set_cons_zero]))
  refine wpAnyH_take (i := 21) (v := ?_) rfl (by kernel_rfl) (by kernel_rfl) (by kernel_rfl) (fun _ _ _ h => h) (Or.inl ⟨by rfl, ?_⟩) hHeld ?_
  case refine_2 => (intro w hSw; (try dsimp only at hSw); obtain ⟨_, hS1, hS2⟩ := hSw; go_simp; try (with_reducible rfl))
  ((try simp only); (try simp only [List.getElem_toArray]); (try simp only [List.getElem_cons_succ]); (try simp only [List.getElem_cons_zero]); (try simp only [Act.put]); (try simp only [List.setIfInBounds_toArray]); (try simp only [List.set_cons_succ]); (try simp only [List.set_cons_zero]))
  refine wpAnyH_take (i := 22) (v := ?_) rfl (by kernel_rfl) (by kernel_rfl) (by kernel_rfl) (fun _ _ _ h => h) (Or.inl ⟨by rfl, ?_⟩) hHeld ?_
  case refine_2 => (intro w hSw; (try dsimp only at hSw); obtain ⟨_, hS1, hS2⟩ := hSw; go_simp; try (with_reducible rfl))
  ((try simp only); (try simp only [List.getElem_toArray]); (try simp only [List.getElem_cons_succ]); (try simp only [List.getElem_cons_zero]); (try simp only [Act.put]); (try simp only [List.setIfInBounds_toArray]); (try simp only [List.set_cons_succ]); (try simp only [List.set_cons_zero]))
  refine wpAnyH_take (i := 23) (v := .bool true) rfl (by kernel_rfl) (by kernel_rfl) (by kernel_rfl) (fun _ _ _ h => h) (Or.inl ⟨by rfl, by intro w _; go_simp; exact str_toList _⟩) hHeld ?_
  ((try simp only); (try simp only [List.getElem_toArray]); (try simp only [List.getElem_cons_succ]); (try simp only [List.getElem_cons_zero]); (try simp only [Act.put]); (try simp only [List.setIfInBounds_toArray]); (try simp only [List.set_cons_succ]); (try simp only [List.set_cons_zero]))
  refine wpAnyH_take (i := 24) (v := ?_) rfl (by kernel_rfl) (by kernel_rfl) (by kernel_rfl) (fun _ _ _ h => h) (Or.inl ⟨by rfl, ?_⟩) hHeld ?_
  case refine_2 => (intro w hSw; (try dsimp only at hSw); obtain ⟨_, hS1, hS2⟩ := hSw; go_simp; try (with_reducible rfl))
  ((try simp only); (try simp only [List.getElem_toArray]); (try simp only [List.getElem_cons_succ]); (try simp only [List.getElem_cons_zero]); (try simp only [Act.put]); (try simp only [List.setIfInBounds_toArray]); (try simp only [List.set_cons_succ]); (try simp only [List.set_cons_zero]))
  refine wpAnyH_take (i := 25) (v := ?_) rfl (by kernel_rfl) (by kernel_rfl) (by kernel_rfl) (fun _ _ _ h => h) (Or.inl ⟨by rfl, ?_⟩) hHeld ?_
  case refine_2 => (intro w hSw; (try dsimp only at hSw); obtain ⟨_, hS1, hS2⟩ := hSw; go_simp; try (with_reducible rfl))
  ((try simp only); (try simp only [List.getElem_toArray]); (try simp only [List.getElem_cons_succ]); (try simp only [List.getElem_cons_zero]); (try simp only [Act.put]); (try simp only [List.setIfInBounds_toArray]); (try simp only [List.set_cons_succ]); (try simp only [List.set_cons_zero]))
  refine wpAnyH_take (i := 26) (v := ?_) rfl (by kernel_rfl) (by kernel_rfl) (by kernel_rfl) (fun _ _ _ h => h) (Or.inl ⟨by rfl, ?_⟩) hHeld ?_
  case refine_2 => (intro w hSw; (try dsimp only at hSw); obtain ⟨_, hS1, hS2⟩ := hSw; go_simp; try (with_reducible rfl))
  ((try simp only); (try simp only [List.getElem_toArray]); (try simp only [List.getElem_cons_succ]); (try simp only [List.getElem_cons_zero]); (try simp only [Act.put]); (try simp only [List.setIfInBounds_toArray]); (try simp only [List.set_cons_succ]); (try simp only [List.set_cons_zero]))
  refine wpAnyH_take (i := 27) (v := ?_) rfl (by kernel_rfl) (by kernel_rfl) (by kernel_rfl) (fun _ _ _ h => h) (Or.inl ⟨by rfl, ?_⟩) hHeld ?_
  case refine_2 => (intro w hSw; (try dsimp only at hSw); obtain ⟨_, hS1, hS2⟩ := hSw; go_simp; try (with_reducible rfl))
  ((try simp only); (try simp only [List.getElem_toArray]); (try simp only [List.getElem_cons_succ]); (try simp only [List.getElem_cons_zero]); (try simp only [Act.put]); (try simp only [List.setIfInBounds_toArray]); (try simp only [List.set_cons_succ]); (try simp only [List.set_cons_zero]))
  refine wpAnyH_take (i := 28) (v := ?_) rfl (by kernel_rfl) (by kernel_rfl) (by kernel_rfl) (fun _ _ _ h => h) (Or.inl ⟨by rfl, ?_⟩) hHeld ?_
  case refine_2 => (intro w hSw; (try dsimp only at hSw); obtain ⟨_, hS1, hS2⟩ := hSw; go_simp; try (with_reducible rfl))
  ((try simp only); (try simp only [List.getElem_toArray]); (try simp only [List.getElem_cons_succ]); (try simp only [List.getElem_cons_zero]); (try simp only [Act.put]); (try simp only [List.setIfInBounds_toArray]); (try simp only [List.set_cons_succ]); (try simp only [List.set_cons_zero]))
  refine wpAnyH_take (i := 29) (v := ?_) rfl (by kernel_rfl) (by kernel_rfl) (by kernel_rfl) (fun _ _ _ h => h) (Or.inl ⟨by rfl, ?_⟩) hHeld ?_
  case refine_2 => (intro w hSw; (try dsimp only at hSw); obtain ⟨_, hS1, hS2⟩ := hSw; go_simp; try (with_reducible rfl))
  ((try simp only); (try simp only [List.getElem_toArray]); (try simp only [List.getElem_cons_succ]); (try simp only [List.getElem_cons_zero]); (try simp only [Act.put]); (try simp only [List.setIfInBounds_toArray]); (try simp only [List.set_cons_succ]); (try simp only [List.set_cons_zero]))
  refine wpAnyH_take (i := 30) (v := ?_) rfl (by kernel_rfl) (by kernel_rfl) (by kernel_rfl) (fun _ _ _ h => h) (Or.inl ⟨by rfl, ?_⟩) hHeld ?_
  case refine_2 => (intro w hSw; (try dsimp only at hSw); obtain ⟨_, hS1, hS2⟩ := hSw; go_simp; try (with_reducible rfl))
  ((try simp only); (try simp only [List.getElem_toArray]); (try simp only [List.getElem_cons_succ]); (try simp only [List.getElem_cons_zero]); (try simp only [Act.put]); (try simp only [List.setIfInBounds_toArray]); (try simp only [List.set_cons_succ]); (try simp only [List.set_cons_zero]))
  refine wpAnyH_take (i := 31) (v := ?_) rfl (by kernel_rfl) (by kernel_rfl) (by kernel_rfl) (fun _ _ _ h => h) (Or.inl ⟨by rfl, ?_⟩) hHeld ?_
  case refine_2 => (intro w hSw; (try dsimp only at hSw); obtain ⟨_, hS1, hS2⟩ := hSw; go_simp; try (with_reducible rfl))
  ((try simp only); (try simp only [List.getElem_toArray]); (try simp only [List.getElem_cons_succ]); (try simp only [List.getElem_cons_zero]); (try simp only [Act.put]); (try simp only [List.setIfInBounds_toArray]); (try simp only [List.set_cons_succ]); (try simp only [List.set_cons_zero]))
  refine wpAnyH_take (i := 32) (v := ?_) rfl (by kernel_rfl) (by kernel_rfl) (by kernel_rfl) (fun _ _ _ h => h) (Or.inl ⟨by rfl, ?_⟩) hHeld ?_
  case refine_2 => (intro w hSw; (try dsimp only at hSw); obtain ⟨_, hS1, hS2⟩ := hSw; go_simp; try (with_reducible rfl))
  ((try simp only); (try simp only [List.getElem_toArray]); (try simp only [List.getElem_cons_succ]); (try simp only [List.getElem_cons_zero]); (try simp only [Act.put]); (try simp only [List.setIfInBounds_toArray]); (try simp only [List.set_cons_succ]); (try simp only [List.set_cons_zero]))
  refine wpAnyH_take (i := 33) (v := ?_) rfl (by kernel_rfl) (by kernel_rfl) (by kernel_rfl) (fun _ _ _ h => h) (Or.inl ⟨by rfl, ?_⟩) hHeld ?_
  case refine_2 => (intro w hSw; (try dsimp only at hSw); obtain ⟨_, hS1, hS2⟩ := hSw; go_simp; try (with_reducible rfl))
  ((try simp only); (try simp only [List.getElem_toArray]); (try simp only [List.getElem_cons_succ]); (try simp only [List.getElem_cons_zero]); (try simp only [Act.put]); (try simp only [List.setIfInBounds_toArray]); (try simp only [List.set_cons_succ]); (try simp only [List.set_cons_zero]))
  refine wpAnyH_take (i := 34) (v := ?_) rfl (by kernel_rfl) (by kernel_rfl) (by kernel_rfl) (fun _ _ _ h => h) (Or.inl ⟨by rfl, ?_⟩) hHeld ?_
  case refine_2 => (intro w hSw; (try dsimp only at hSw); obtain ⟨_, hS1, hS2⟩ := hSw; go_simp; try (with_reducible rfl))
  ((try simp only); (try simp only [List.getElem_toArray]); (try simp only [List.getElem_cons_succ]); (try simp only [List.getElem_cons_zero]); (try simp only [Act.put]); (try simp only [List.setIfInBounds_toArray]); (try simp only [List.set_cons_succ]); (try simp only [List.set_cons_zero]))
  refine wpAnyH_take (i := 35) (v := ?_) rfl (by kernel_rfl) (by kernel_rfl) (by kernel_rfl) (fun _ _ _ h => h) (Or.inl ⟨by rfl, ?_⟩) hHeld ?_
  case refine_2 => (intro w hSw; (try dsimp only at hSw); obtain ⟨_, hS1, hS2⟩ := hSw; go_simp; try (with_reducible rfl))
  ((try simp only); (try simp only [List.getElem_toArray]); (try simp only [List.getElem_cons_succ]); (try simp only [List.getElem_cons_zero]); (try simp only [Act.put]); (try simp only [List.setIfInBounds_toArray]); (try simp only [List.set_cons_succ]); (try simp only [List.set_cons_zero]))
  refine wpAnyH_take (i := 36) (v := ?_) rfl (by kernel_rfl) (by kernel_rfl) (by kernel_rfl) (fun _ _ _ h => h) (Or.inl ⟨by rfl, ?_⟩) hHeld ?_
  case refine_2 => (intro w hSw; (try dsimp only at hSw); obtain ⟨_, hS1, hS2⟩ := hSw; go_simp; try (with_reducible rfl))
  ((try simp only); (try simp only [List.getElem_toArray]); (try simp only [List.getElem_cons_succ]); (try simp only [List.getElem_cons_zero]); (try simp only [Act.put]); (try simp only [List.setIfInBounds_toArray]); (try simp only [List.set_cons_succ]); (try simp only [List.set_cons_zero]))
  refine wpAnyH_take (i := 37) (v := ?_) rfl (by kernel_rfl) (by kernel_rfl) (by kernel_rfl) (fun _ _ _ h => h) (Or.inl ⟨by rfl, ?_⟩) hHeld ?_
  case refine_2 => (intro w hSw; (try dsimp only at hSw); obtain ⟨_, hS1, hS2⟩ := hSw; go_simp; try (with_reducible rfl))
  ((try simp only); (try simp only [List.getElem_toArray]); (try simp only [List.getElem_cons_succ]); (try simp only [List.getElem_cons_zero]); (try simp only [Act.put]); (try simp only [List.setIfInBounds_toArray]); (try simp only [List.set_cons_succ]); (try simp only [List.set_cons_zero]))
  refine wpAnyH_ready (rs := [38]) (by kernel_rfl) (by simp) (AllReadyH.cons rfl (fun K hK => ?_) AllReadyH.nil)
  rw [if_pos (by rfl)]
  ((try simp only); (try simp only [List.getElem_toArray]); (try simp only [List.getElem_cons_succ]); (try simp only [List.getElem_cons_zero]); (try simp only [Act.put]); (try simp only [List.setIfInBounds_toArray]); (try simp only [List.set_cons_succ]); (try simp only [List.set_cons_zero]))
  refine wp_append_sl rowP _ _ rfl ga _ shA shB rfl HX2.out.2.1 _ rfl y1.heap.size HX2.out.2.2.1.slB (by decide) (by decide) (by have h1 := HX2.out.2.2.2.1; have h2 := HX2.out.2.2.2.2; omega) ?_
  intro v9 y2 o9 g9
  have HS2 : Hid (y2.rangeAt gd 0 (encC.c (cb 1 [] true)) ∧ y2.cell? ⟨gd, 50, none⟩ = some (.string (str [122])) ∧ y2.cell? ⟨gd, 76, none⟩ = some (.string (str [119]))) := by
    have hb : y2.heap[gd]? = y1.heap[gd]? := g9.block gd HX2.out.2.2.2.1 (fun e => by have h := HX2.out.2.2.2.2; cases e; exact Nat.lt_irrefl _ h)
    exact ⟨range_same' HS1.out.1 hb, (World.cell?_of_block hb).trans HS1.out.2.1, (World.cell?_of_block hb).trans HS1.out.2.2⟩
  have B9 : Below w.heap.size w y2 := HX2.out.1.grown g9 HX2.out.1.size (fun k e => by cases e; exact HGW.out)
  refine hK.out _ _ HS2.out (fun hHeld => ?_)
  clear hK K
  ((try simp only); (try simp only [List.getElem_toArray]); (try simp only [List.getElem_cons_succ]); (try simp only [List.getElem_cons_zero]); (try simp only [Act.put]); (try simp only [List.setIfInBounds_toArray]); (try simp only [List.set_cons_succ]); (try simp only [List.set_cons_zero]))
  have hlt2 : gd < y2.heap.size := by have := g9.size; have := HX2.out.2.2.2.1; omega
  have hM := map_calls y2 v9 _ o9.slB (by decide)
  clear HX2 HS1 o9 g9
  refine wpAnyH_ready (rs := [39]) (by kernel_rfl) (by simp) (AllReadyH.cons rfl (fun K hK => ?_) AllReadyH.nil)
  rw [if_pos (by rfl)]
  ((try simp only); (try simp only [List.getElem_toArray]); (try simp only [List.getElem_cons_succ]); (try simp only [List.getElem_cons_zero]); (try simp only [Act.put]); (try simp only [List.setIfInBounds_toArray]); (try simp only [List.set_cons_succ]); (try simp only [List.set_cons_zero]))
  go_simp
  refine hM.mono ?_
  rintro e y3 ⟨vq, mq, rfl, oq, miq, _, bq⟩
  have hq3 := sh_map miq
  obtain ⟨adq, cpq, rfl, hcq, _⟩ := id oq.slB
  rw [hq3] at hcq ⊢
  have HS3 : Hid (y3.rangeAt gd 0 (encC.c (cb 1 [] true)) ∧ y3.cell? ⟨gd, 50, none⟩ = some (.string (str [122])) ∧ y3.cell? ⟨gd, 76, none⟩ = some (.string (str [119]))) := ⟨range_same' HS2.out.1 (bq.block gd hlt2), (bq.cell (p := ⟨gd, 50, none⟩) hlt2).trans HS2.out.2.1, (bq.cell (p := ⟨gd, 76, none⟩) hlt2).trans HS2.out.2.2⟩
  have B10 : Below w.heap.size w y3 := B9.trans (bq.mono B9.size)
  refine hK.out _ _ HS3.out (fun hHeld => ?_)
  clear hK K
  ((try simp only); (try simp only [List.getElem_toArray]); (try simp only [List.getElem_cons_succ]); (try simp only [List.getElem_cons_zero]); (try simp only [Act.put]); (try simp only [List.setIfInBounds_toArray]); (try simp only [List.set_cons_succ]); (try simp only [List.set_cons_zero]))
  refine wpAnyH_take (i := 40) (v := ?_) rfl (by kernel_rfl) (by kernel_rfl) (by kernel_rfl) (fun _ _ _ h => h) (Or.inl ⟨by rfl, ?_⟩) hHeld ?_
  case refine_2 => (intro w hSw; (try dsimp only at hSw); go_simp; try (with_reducible rfl))
  ((try simp only); (try simp only [List.getElem_toArray]); (try simp only [List.getElem_cons_succ]); (try simp only [List.getElem_cons_zero]); (try simp only [Act.put]); (try simp only [List.setIfInBounds_toArray]); (try simp only [List.set_cons_succ]); (try simp only [List.set_cons_zero]))
  refine wpAnyH_take (i := 41) (v := ?_) rfl (by kernel_rfl) (by kernel_rfl) (by kernel_rfl) (fun _ _ _ h => h) (Or.inl ⟨by rfl, ?_⟩) hHeld ?_
  case refine_2 => (intro w hSw; (try dsimp only at hSw); go_simp; try (with_reducible rfl))
  ((try simp only); (try simp only [List.getElem_toArray]); (try simp only [List.getElem_cons_succ]); (try simp only [List.getElem_cons_zero]); (try simp only [Act.put]); (try simp only [List.setIfInBounds_toArray]); (try simp only [List.set_cons_succ]); (try simp only [List.set_cons_zero]))
  refine wpAnyH_take (i := 42) (v := ?_) rfl (by kernel_rfl) (by kernel_rfl) (by kernel_rfl) (fun _ _ _ h => h) (Or.inl ⟨by rfl, ?_⟩) hHeld ?_
  case refine_2 => (intro w hSw; (try dsimp only at hSw); go_simp; try (with_reducible rfl))
  ((try simp only); (try simp only [List.getElem_toArray]); (try simp only [List.getElem_cons_succ]); (try simp only [List.getElem_cons_zero]); (try simp only [Act.put]); (try simp only [List.setIfInBounds_toArray]); (try simp only [List.set_cons_succ]); (try simp only [List.set_cons_zero]))
  refine wpAnyH_take (i := 43) (v := ?_) rfl (by kernel_rfl) (by kernel_rfl) (by kernel_rfl) (fun _ _ _ h => h) (Or.inl ⟨by rfl, ?_⟩) hHeld ?_
  case refine_2 => (intro w hSw; (try dsimp only at hSw); go_simp; try (with_reducible rfl))
  ((try simp only); (try simp only [List.getElem_toArray]); (try simp only [List.getElem_cons_succ]); (try simp only [List.getElem_cons_zero]); (try simp only [Act.put]); (try simp only [List.setIfInBounds_toArray]); (try simp only [List.set_cons_succ]); (try simp only [List.set_cons_zero]))
  refine wpAnyH_done (by kernel_rfl) ?_ _
  refine NoPanic.normal ?_
  go_wp2_with fail
  go_ret
  exact ⟨rfl, B10⟩
end Go.Proofs.Ytbodbdcmkicmaaa
