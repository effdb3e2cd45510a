/- The document's own words: Bytes. -/
import Derived.Test.YtbjnbobohkjhiaaRefFl
import Derived.OwnWalk
namespace Go.Proofs.Ytbjnbobohkjhiaa
set_option linter.unusedVariables false
open Go.RowKit

theorem made_zeros (n : Nat) : (madeCells (Value.int .u8 0).cells (n * 1)).toList = bc (List.replicate n 0) := by
  apply List.ext_getElem
  · simp [madeCells, bc]
  · intro i h1 h2
    simp [madeCells, bc, Value.cells, Nat.mod_one]
theorem wp_make_zeros {o : Oper} {a : Act} {w : World} {K : Act → World → Prop} {Q : Exit → Act → World → Prop} (l c : Operand) (hop : o.op = Op.makeSlice 25 l c) (base n : Nat) (L : Int) (hl : a.eval l = .int .i64 L) (hc : a.eval c = .int .i64 L) (hL : L = (n : Int)) (b2 : n ≤ 100000) (b4 : base ≤ w.heap.size)
    (h : ∀ w', w'.ownsRow base 5 1 (.slice (some ⟨w.heap.size, 0, none⟩) n n) n (bc (List.replicate n 0)) → w.grownBy w' none → K (a.put o.dst (.slice (some ⟨w.heap.size, 0, none⟩) n n)) w') : o.wp Try.prog a w K Q := by
  obtain ⟨i0, hi, hz0, hz1, hz2⟩ := info_parts Try.info_u8
  obtain ⟨w', hrun, r1, r2⟩ := run_make_full (P := Try.prog) w base 25 5 i0 (.int .u8 0) 1 Try.underlying25 hi hz0 hz1 .i64 .i64 n (by rw [hz2]; omega) (by unfold maxLen; omega) b4
  subst hL
  rw [made_zeros] at r1
  unfold Oper.wp
  simp [execOp, hop, hl, hc, hrun, Result.andThen]
  exact h w' r1 r2
theorem fields_sup {w : World} {S : Sup} {sv : Value} (hr : right S = true) (h : Sna w sv S.l) : Calls Try.prog 23 #[uv S sv] w fun e w' => e = .returned (.string (str (encB S))) ∧ Below w.heap.size w w' := by
  have fit := fits hr
  obtain ⟨r, ⟨ad, cap, rfl, _, _, hin⟩, _⟩ := h
  obtain ⟨g, rt, x, c, l⟩ := S
  have hb := okRoot_bounds fit.r
  have h1 := fit.g0; have h2 := fit.g1; have h3 := fit.x0; have h4 := fit.x1; have h5 := fit.c0; have h6 := fit.c1
  simp only at h1 h2 h3 h4 h5 h6 hb
  obtain ⟨g, rfl⟩ := Int.eq_ofNat_of_zero_le (show 0 ≤ g by omega)
  obtain ⟨rt, rfl⟩ := Int.eq_ofNat_of_zero_le hb.1
  obtain ⟨x, rfl⟩ := Int.eq_ofNat_of_zero_le (show 0 ≤ x by omega)
  obtain ⟨c, rfl⟩ := Int.eq_ofNat_of_zero_le h5
  refine fields_calls w g rt x c l ad cap fit.len ?_ (fun s hs => fit.snap hs) (show _ < _ by omega) (show _ < _ by omega) (show _ < _ by omega) (show _ < _ by omega)
  rcases hin with e | ⟨g, off, a1, _, a2, a3⟩
  · exact .inl e
  · exact .inr ⟨g, off, a1, a2, a3⟩
/-- What the document's Bytes comes to. -/
def RBytesTo (w : World) (S : Sup) (e : Ending) (w' : World) : Prop :=
  Below w.heap.size w w' ∧ ((right S = false ∧ e = .returned (.tuple #[.string ⟨#[]⟩, .int .i64 1])) ∨ (right S = true ∧ e = .returned (.tuple #[.string (str (enc S)), .int .i64 0])))
set_option maxHeartbeats 8000000 in
set_option maxRecDepth 100000 in
theorem rbytes_calls (w : World) (S : Sup) (sv : Value) (h : Sna w sv S.l) : Calls Try.prog 12 #[uv S sv] w (RBytesTo w S) := by
  have H1 : Hid (HasU (w.alloc (.cells (uc S sv) 24)) w.heap.size S sv) := HasU.new w S sv _ rfl h.one
  have B1 : Below w.heap.size w (w.alloc (.cells (uc S sv) 24)) := (Below.refl _ w).alloc (Nat.le_refl _) _
  have hA := rright_calls _ S sv (h.below B1)
  have HS : Hid (Sna w sv S.l) := h
  clear h
  cases hr : right S with
  | false =>
    have HR : Hid (right S = false) := hr
    rw [hr] at hA
    go_enter Try.func12, Try.ntmps12
    go_wp2_with (first
      | (refine load_sup _ rfl w.heap.size rfl rfl _ _ H1.out ?_)
      | (go_at_call 17; refine hA.mono ?_; rintro e w2 ⟨rfl, b2⟩))
    go_ret2
    exact ⟨B1.trans (b2.mono (by simp)), .inl ⟨HR.out, rfl⟩⟩
  | true =>
    have HR : Hid (right S = true) := hr
    rw [hr] at hA
    go_enter Try.func12, Try.ntmps12
    go_upto_region 4 with (first
      | (refine load_sup _ rfl w.heap.size rfl rfl _ _ H1.out ?_)
      | (go_at_call 17; refine hA.mono ?_; rintro e w2 ⟨rfl, b2⟩))
    have H2 : Hid (HasU w2 w.heap.size S sv) := H1.out.below b2 (by simp)
    have B2 : Below w.heap.size w w2 := B1.trans (b2.mono (by simp))
    have hF := fields_sup hr (HS.out.below B2)
    clear H1 B1 b2 hA
    go_upto_region 5 with (first
      | (refine load_sup _ rfl w.heap.size rfl rfl _ _ H2.out ?_)
      | (go_at_call 23; refine hF.mono ?_; rintro e w3 ⟨rfl, b3⟩))
    have HU3 : Hid (HasU w3 w.heap.size S sv) := H2.out.below b3 H2.out.lt
    have B3 : Below w.heap.size w w3 := B2.trans (b3.mono B2.size)
    have hB := (fits hr).encB
    obtain ⟨m, hm⟩ : ∃ m : Nat, 504 - (encB S).length = m := ⟨_, rfl⟩
    have HM : Hid ((504 : Int) - ((encB S).length : Int) = (m : Int)) := (show _ = _ by omega)
    have HMW : Hid (IntKind.i64.wrap ((504 : Int) - ((encB S).length : Int)) = (m : Int)) := (show _ = _ by rw [IntKind.wrap_i64]; omega)
    have hg0 := (fits hr).g0
    have hg1 := (fits hr).g1
    obtain ⟨G, hG⟩ := Int.eq_ofNat_of_zero_le (show 0 ≤ S.g by omega)
    have NUM : Hid (∀ y, Calls Try.prog 20 #[.int .i64 S.g, .int .i64 8] y fun e w' => e = .returned (.string (str (be S.g.toNat 8))) ∧ Below y.heap.size y w') := fun y => by
      have := number_calls4 y G 8 (by omega) (show _ < _ by omega)
      rw [hG, Int.toNat_natCast]
      exact this
    have HE : Hid (encB S ++ (List.replicate m 0 ++ be S.g.toNat 8) = enc S) := (show _ = _ by rw [enc, hm])
    have hm5 : m ≤ 504 := by omega
    have sa := str_app
    have sz := str_size
    have sb := be_length
    have sl : ∀ n : Nat, (List.replicate n (0 : UInt8)).length = n := fun n => List.length_replicate
    clear H2 B2 b3 hF hm hg0 hg1 hG HS
    generalize encB S = EB at *
    refine wp_region_noPanic ?_
    refine wp_region_held_drew (S := (fun y => HasU y w.heap.size S sv ∧ Below w.heap.size w y)) (by kernel_rfl) ⟨HU3.out.same rfl, below_drewN B3 1⟩ (fun hHeld => ?_)
    refine wpAnyH_take (i := 0) (v := ?_) rfl (by kernel_rfl) (by kernel_rfl) (by kernel_rfl) (fun _ _ _ h => h) (Or.inl ⟨by rfl, ?_⟩) hHeld ?_
    case refine_2 => (intro w hSw; (try dsimp only at hSw); obtain ⟨k0, _⟩ := hSw.1.cells; go_simp; (try rw [if_neg (not_big (by omega))]); try (with_reducible rfl))
    ((try simp only); (try simp only [List.getElem_toArray]); (try simp only [List.getElem_cons_succ]); (try simp only [List.getElem_cons_zero]); (try simp only [Act.put]); (try simp only [List.setIfInBounds_toArray]); (try simp only [List.set_cons_succ]); (try simp only [List.set_cons_zero]))
    refine wpAnyH_take (i := 1) (v := ?_) rfl (by kernel_rfl) (by kernel_rfl) (by kernel_rfl) (fun _ _ _ h => h) (Or.inl ⟨by rfl, ?_⟩) hHeld ?_
    case refine_2 => (intro w hSw; (try dsimp only at hSw); obtain ⟨k0, _⟩ := hSw.1.cells; go_simp; (try rw [if_neg (not_big (by omega))]); try (with_reducible rfl))
    ((try simp only); (try simp only [List.getElem_toArray]); (try simp only [List.getElem_cons_succ]); (try simp only [List.getElem_cons_zero]); (try simp only [Act.put]); (try simp only [List.setIfInBounds_toArray]); (try simp only [List.set_cons_succ]); (try simp only [List.set_cons_zero]))
    refine wpAnyH_take (i := 2) (v := ?_) rfl (by kernel_rfl) (by kernel_rfl) (by kernel_rfl) (fun _ _ _ h => h) (Or.inl ⟨by rfl, ?_⟩) hHeld ?_
    case refine_2 => (intro w hSw; (try dsimp only at hSw); obtain ⟨k0, _⟩ := hSw.1.cells; go_simp; (try rw [if_neg (not_big (by omega))]); try (with_reducible rfl))
    ((try simp only); (try simp only [List.getElem_toArray]); (try simp only [List.getElem_cons_succ]); (try simp only [List.getElem_cons_zero]); (try simp only [Act.put]); (try simp only [List.setIfInBounds_toArray]); (try simp only [List.set_cons_succ]); (try simp only [List.set_cons_zero]))
    refine wpAnyH_take (i := 3) (v := ?_) rfl (by kernel_rfl) (by kernel_rfl) (by kernel_rfl) (fun _ _ _ h => h) (Or.inl ⟨by rfl, ?_⟩) hHeld ?_
    case refine_2 => (intro w hSw; (try dsimp only at hSw); obtain ⟨k0, _⟩ := hSw.1.cells; go_simp; (try rw [if_neg (not_big (by omega))]); try (with_reducible rfl))
    ((try simp only); (try simp only [List.getElem_toArray]); (try simp only [List.getElem_cons_succ]); (try simp only [List.getElem_cons_zero]); (try simp only [Act.put]); (try simp only [List.setIfInBounds_toArray]); (try simp only [List.set_cons_succ]); (try simp only [List.set_cons_zero]))
    refine wpAnyH_take (i := 7) (v := ?_) rfl (by kernel_rfl) (by kernel_rfl) (by kernel_rfl) (fun _ _ _ h => h) (Or.inl ⟨by rfl, ?_⟩) hHeld ?_
    case refine_2 => (intro w hSw; (try dsimp only at hSw); obtain ⟨k0, _⟩ := hSw.1.cells; go_simp; (try rw [if_neg (not_big (by omega))]); try (with_reducible rfl))
    ((try simp only); (try simp only [List.getElem_toArray]); (try simp only [List.getElem_cons_succ]); (try simp only [List.getElem_cons_zero]); (try simp only [Act.put]); (try simp only [List.setIfInBounds_toArray]); (try simp only [List.set_cons_succ]); (try simp only [List.set_cons_zero]))
    refine wpAnyH_take (i := 8) (v := ?_) rfl (by kernel_rfl) (by kernel_rfl) (by kernel_rfl) (fun _ _ _ h => h) (Or.inl ⟨by rfl, ?_⟩) hHeld ?_
    case refine_2 => (intro w hSw; (try dsimp only at hSw); obtain ⟨k0, _⟩ := hSw.1.cells; go_simp; (try rw [if_neg (not_big (by omega))]); try (with_reducible rfl))
    ((try simp only); (try simp only [List.getElem_toArray]); (try simp only [List.getElem_cons_succ]); (try simp only [List.getElem_cons_zero]); (try simp only [Act.put]); (try simp only [List.setIfInBounds_toArray]); (try simp only [List.set_cons_succ]); (try simp only [List.set_cons_zero]))
    generalize w3.drew = y0 at *
    refine wpAnyH_ready (rs := [4, 9]) (by kernel_rfl) (by simp) (AllReadyH.cons rfl (fun K hK => ?_) (AllReadyH.cons rfl (fun K hK => ?_) AllReadyH.nil))
    · rw [if_pos (by rfl)]
      ((try simp only); (try simp only [List.getElem_toArray]); (try simp only [List.getElem_cons_succ]); (try simp only [List.getElem_cons_zero]); (try simp only [Act.put]); (try simp only [List.setIfInBounds_toArray]); (try simp only [List.set_cons_succ]); (try simp only [List.set_cons_zero]))
      refine wp_make_zeros (.tmp 15) (.tmp 15) rfl y0.heap.size m _ rfl rfl (by first | exact HM.out | exact HMW.out) (by omega) (Nat.le_refl _) ?_
      intro y1 ow3 gr4
      have by1 : Below y0.heap.size y0 y1 := (Below.refl _ _).grown gr4 (Nat.le_refl _) (fun k hk => by cases hk)
      refine hK.out _ _ ⟨hHeld.1.below by1 hHeld.1.lt, hHeld.2.trans (by1.mono hHeld.2.size)⟩ (fun g2 => ?_)
      clear hK K
      ((try simp only); (try simp only [List.getElem_toArray]); (try simp only [List.getElem_cons_succ]); (try simp only [List.getElem_cons_zero]); (try simp only [Act.put]); (try simp only [List.setIfInBounds_toArray]); (try simp only [List.set_cons_succ]); (try simp only [List.set_cons_zero]))
      have byy1 := own_byt ow3
      refine wpAnyH_ready (rs := [5, 9]) (by kernel_rfl) (by simp) (AllReadyH.cons rfl (fun K hK => ?_) (AllReadyH.cons rfl (fun K hK => ?_) AllReadyH.nil))
      · have hcv := conv_bytes byy1.choose_spec.1
        rw [if_pos (by rfl)]
        ((try simp only); (try simp only [List.getElem_toArray]); (try simp only [List.getElem_cons_succ]); (try simp only [List.getElem_cons_zero]); (try simp only [Act.put]); (try simp only [List.setIfInBounds_toArray]); (try simp only [List.set_cons_succ]); (try simp only [List.set_cons_zero]))
        go_simp
        refine hK.out _ _ g2 (fun g6 => ?_)
        clear hK K hcv
        ((try simp only); (try simp only [List.getElem_toArray]); (try simp only [List.getElem_cons_succ]); (try simp only [List.getElem_cons_zero]); (try simp only [Act.put]); (try simp only [List.setIfInBounds_toArray]); (try simp only [List.set_cons_succ]); (try simp only [List.set_cons_zero]))
        refine wpAnyH_take (i := 6) (v := ?_) rfl (by kernel_rfl) (by kernel_rfl) (by kernel_rfl) (fun _ _ _ h => h) (Or.inl ⟨by rfl, ?_⟩) g6 ?_
        case refine_2 => (intro w hSw; (try dsimp only at hSw); obtain ⟨k0, _⟩ := hSw.1.cells; go_simp; (try rw [if_neg (not_big (by omega))]); try (with_reducible rfl))
        ((try simp only); (try simp only [List.getElem_toArray]); (try simp only [List.getElem_cons_succ]); (try simp only [List.getElem_cons_zero]); (try simp only [Act.put]); (try simp only [List.setIfInBounds_toArray]); (try simp only [List.set_cons_succ]); (try simp only [List.set_cons_zero]))
        refine wpAnyH_ready (rs := [9]) (by kernel_rfl) (by simp) (AllReadyH.cons rfl (fun K hK => ?_) AllReadyH.nil)
        rw [if_pos (by rfl)]
        ((try simp only); (try simp only [List.getElem_toArray]); (try simp only [List.getElem_cons_succ]); (try simp only [List.getElem_cons_zero]); (try simp only [Act.put]); (try simp only [List.setIfInBounds_toArray]); (try simp only [List.set_cons_succ]); (try simp only [List.set_cons_zero]))
        go_simp
        refine (NUM.out _).mono ?_
        rintro e y7 ⟨rfl, by7⟩
        refine hK.out _ _ ⟨g6.1.below by7 g6.1.lt, g6.2.trans (by7.mono g6.2.size)⟩ (fun g8 => ?_)
        clear hK K
        ((try simp only); (try simp only [List.getElem_toArray]); (try simp only [List.getElem_cons_succ]); (try simp only [List.getElem_cons_zero]); (try simp only [Act.put]); (try simp only [List.setIfInBounds_toArray]); (try simp only [List.set_cons_succ]); (try simp only [List.set_cons_zero]))
        refine wpAnyH_take (i := 10) (v := ?_) rfl (by kernel_rfl) (by kernel_rfl) (by kernel_rfl) (fun _ _ _ h => h) (Or.inl ⟨by rfl, ?_⟩) g8 ?_
        case refine_2 => (intro w hSw; (try dsimp only at hSw); obtain ⟨k0, _⟩ := hSw.1.cells; go_simp; (try rw [if_neg (not_big (by omega))]); try (with_reducible rfl))
        ((try simp only); (try simp only [List.getElem_toArray]); (try simp only [List.getElem_cons_succ]); (try simp only [List.getElem_cons_zero]); (try simp only [Act.put]); (try simp only [List.setIfInBounds_toArray]); (try simp only [List.set_cons_succ]); (try simp only [List.set_cons_zero]))
        refine wpAnyH_take (i := 11) (v := ?_) rfl (by kernel_rfl) (by kernel_rfl) (by kernel_rfl) (fun _ _ _ h => h) (Or.inl ⟨by rfl, ?_⟩) g8 ?_
        case refine_2 => (intro w hSw; (try dsimp only at hSw); obtain ⟨k0, _⟩ := hSw.1.cells; go_simp; (try rw [if_neg (not_big (by omega))]); try (with_reducible rfl))
        ((try simp only); (try simp only [List.getElem_toArray]); (try simp only [List.getElem_cons_succ]); (try simp only [List.getElem_cons_zero]); (try simp only [Act.put]); (try simp only [List.setIfInBounds_toArray]); (try simp only [List.set_cons_succ]); (try simp only [List.set_cons_zero]))
        refine wpAnyH_take (i := 12) (v := ?_) rfl (by kernel_rfl) (by kernel_rfl) (by kernel_rfl) (fun _ _ _ h => h) (Or.inl ⟨by rfl, ?_⟩) g8 ?_
        case refine_2 => (intro w hSw; (try dsimp only at hSw); obtain ⟨k0, _⟩ := hSw.1.cells; go_simp; (try rw [if_neg (not_big (by omega))]); try (with_reducible rfl))
        ((try simp only); (try simp only [List.getElem_toArray]); (try simp only [List.getElem_cons_succ]); (try simp only [List.getElem_cons_zero]); (try simp only [Act.put]); (try simp only [List.setIfInBounds_toArray]); (try simp only [List.set_cons_succ]); (try simp only [List.set_cons_zero]))
        refine wpAnyH_done (by kernel_rfl) ?_ _
        refine NoPanic.normal ?_
        have BB := g8.2
        go_wp2
        go_ret2
        exact ⟨BB, .inr ⟨HR.out, by rw [← HE.out]; rfl⟩⟩
      · rw [if_pos (by rfl)]
        ((try simp only); (try simp only [List.getElem_toArray]); (try simp only [List.getElem_cons_succ]); (try simp only [List.getElem_cons_zero]); (try simp only [Act.put]); (try simp only [List.setIfInBounds_toArray]); (try simp only [List.set_cons_succ]); (try simp only [List.set_cons_zero]))
        go_simp
        refine (NUM.out _).mono ?_
        rintro e y9 ⟨rfl, by9⟩
        refine hK.out _ _ ⟨g2.1.below by9 g2.1.lt, g2.2.trans (by9.mono g2.2.size)⟩ (fun g10 => ?_)
        clear hK K
        ((try simp only); (try simp only [List.getElem_toArray]); (try simp only [List.getElem_cons_succ]); (try simp only [List.getElem_cons_zero]); (try simp only [Act.put]); (try simp only [List.setIfInBounds_toArray]); (try simp only [List.set_cons_succ]); (try simp only [List.set_cons_zero]))
        have byy9 := byy1.below by9
        refine wpAnyH_ready (rs := [5]) (by kernel_rfl) (by simp) (AllReadyH.cons rfl (fun K hK => ?_) AllReadyH.nil)
        have hcv := conv_bytes byy9.choose_spec.1
        rw [if_pos (by rfl)]
        ((try simp only); (try simp only [List.getElem_toArray]); (try simp only [List.getElem_cons_succ]); (try simp only [List.getElem_cons_zero]); (try simp only [Act.put]); (try simp only [List.setIfInBounds_toArray]); (try simp only [List.set_cons_succ]); (try simp only [List.set_cons_zero]))
        go_simp
        refine hK.out _ _ g10 (fun g12 => ?_)
        clear hK K hcv
        ((try simp only); (try simp only [List.getElem_toArray]); (try simp only [List.getElem_cons_succ]); (try simp only [List.getElem_cons_zero]); (try simp only [Act.put]); (try simp only [List.setIfInBounds_toArray]); (try simp only [List.set_cons_succ]); (try simp only [List.set_cons_zero]))
        refine wpAnyH_take (i := 6) (v := ?_) rfl (by kernel_rfl) (by kernel_rfl) (by kernel_rfl) (fun _ _ _ h => h) (Or.inl ⟨by rfl, ?_⟩) g12 ?_
        case refine_2 => (intro w hSw; (try dsimp only at hSw); obtain ⟨k0, _⟩ := hSw.1.cells; go_simp; (try rw [if_neg (not_big (by omega))]); try (with_reducible rfl))
        ((try simp only); (try simp only [List.getElem_toArray]); (try simp only [List.getElem_cons_succ]); (try simp only [List.getElem_cons_zero]); (try simp only [Act.put]); (try simp only [List.setIfInBounds_toArray]); (try simp only [List.set_cons_succ]); (try simp only [List.set_cons_zero]))
        refine wpAnyH_take (i := 10) (v := ?_) rfl (by kernel_rfl) (by kernel_rfl) (by kernel_rfl) (fun _ _ _ h => h) (Or.inl ⟨by rfl, ?_⟩) g12 ?_
        case refine_2 => (intro w hSw; (try dsimp only at hSw); obtain ⟨k0, _⟩ := hSw.1.cells; go_simp; (try rw [if_neg (not_big (by omega))]); try (with_reducible rfl))
        ((try simp only); (try simp only [List.getElem_toArray]); (try simp only [List.getElem_cons_succ]); (try simp only [List.getElem_cons_zero]); (try simp only [Act.put]); (try simp only [List.setIfInBounds_toArray]); (try simp only [List.set_cons_succ]); (try simp only [List.set_cons_zero]))
        refine wpAnyH_take (i := 11) (v := ?_) rfl (by kernel_rfl) (by kernel_rfl) (by kernel_rfl) (fun _ _ _ h => h) (Or.inl ⟨by rfl, ?_⟩) g12 ?_
        case refine_2 => (intro w hSw; (try dsimp only at hSw); obtain ⟨k0, _⟩ := hSw.1.cells; go_simp; (try rw [if_neg (not_big (by omega))]); try (with_reducible rfl))
        ((try simp only); (try simp only [List.getElem_toArray]); (try simp only [List.getElem_cons_succ]); (try simp only [List.getElem_cons_zero]); (try simp only [Act.put]); (try simp only [List.setIfInBounds_toArray]); (try simp only [List.set_cons_succ]); (try simp only [List.set_cons_zero]))
        refine wpAnyH_take (i := 12) (v := ?_) rfl (by kernel_rfl) (by kernel_rfl) (by kernel_rfl) (fun _ _ _ h => h) (Or.inl ⟨by rfl, ?_⟩) g12 ?_
        case refine_2 => (intro w hSw; (try dsimp only at hSw); obtain ⟨k0, _⟩ := hSw.1.cells; go_simp; (try rw [if_neg (not_big (by omega))]); try (with_reducible rfl))
        ((try simp only); (try simp only [List.getElem_toArray]); (try simp only [List.getElem_cons_succ]); (try simp only [List.getElem_cons_zero]); (try simp only [Act.put]); (try simp only [List.setIfInBounds_toArray]); (try simp only [List.set_cons_succ]); (try simp only [List.set_cons_zero]))
        refine wpAnyH_done (by kernel_rfl) ?_ _
        refine NoPanic.normal ?_
        have BB := g12.2
        go_wp2
        go_ret2
        exact ⟨BB, .inr ⟨HR.out, by rw [← HE.out]; rfl⟩⟩
    · rw [if_pos (by rfl)]
      ((try simp only); (try simp only [List.getElem_toArray]); (try simp only [List.getElem_cons_succ]); (try simp only [List.getElem_cons_zero]); (try simp only [Act.put]); (try simp only [List.setIfInBounds_toArray]); (try simp only [List.set_cons_succ]); (try simp only [List.set_cons_zero]))
      go_simp
      refine (NUM.out _).mono ?_
      rintro e y13 ⟨rfl, by13⟩
      refine hK.out _ _ ⟨hHeld.1.below by13 hHeld.1.lt, hHeld.2.trans (by13.mono hHeld.2.size)⟩ (fun g14 => ?_)
      clear hK K
      ((try simp only); (try simp only [List.getElem_toArray]); (try simp only [List.getElem_cons_succ]); (try simp only [List.getElem_cons_zero]); (try simp only [Act.put]); (try simp only [List.setIfInBounds_toArray]); (try simp only [List.set_cons_succ]); (try simp only [List.set_cons_zero]))
      refine wpAnyH_ready (rs := [4]) (by kernel_rfl) (by simp) (AllReadyH.cons rfl (fun K hK => ?_) AllReadyH.nil)
      rw [if_pos (by rfl)]
      ((try simp only); (try simp only [List.getElem_toArray]); (try simp only [List.getElem_cons_succ]); (try simp only [List.getElem_cons_zero]); (try simp only [Act.put]); (try simp only [List.setIfInBounds_toArray]); (try simp only [List.set_cons_succ]); (try simp only [List.set_cons_zero]))
      refine wp_make_zeros (.tmp 15) (.tmp 15) rfl y13.heap.size m _ rfl rfl (by first | exact HM.out | exact HMW.out) (by omega) (Nat.le_refl _) ?_
      intro y15 ow17 gr18
      have by15 : Below y13.heap.size y13 y15 := (Below.refl _ _).grown gr18 (Nat.le_refl _) (fun k hk => by cases hk)
      refine hK.out _ _ ⟨g14.1.below by15 g14.1.lt, g14.2.trans (by15.mono g14.2.size)⟩ (fun g16 => ?_)
      clear hK K
      ((try simp only); (try simp only [List.getElem_toArray]); (try simp only [List.getElem_cons_succ]); (try simp only [List.getElem_cons_zero]); (try simp only [Act.put]); (try simp only [List.setIfInBounds_toArray]); (try simp only [List.set_cons_succ]); (try simp only [List.set_cons_zero]))
      have byy15 := own_byt ow17
      refine wpAnyH_ready (rs := [5]) (by kernel_rfl) (by simp) (AllReadyH.cons rfl (fun K hK => ?_) AllReadyH.nil)
      have hcv := conv_bytes byy15.choose_spec.1
      rw [if_pos (by rfl)]
      ((try simp only); (try simp only [List.getElem_toArray]); (try simp only [List.getElem_cons_succ]); (try simp only [List.getElem_cons_zero]); (try simp only [Act.put]); (try simp only [List.setIfInBounds_toArray]); (try simp only [List.set_cons_succ]); (try simp only [List.set_cons_zero]))
      go_simp
      refine hK.out _ _ g16 (fun g20 => ?_)
      clear hK K hcv
      ((try simp only); (try simp only [List.getElem_toArray]); (try simp only [List.getElem_cons_succ]); (try simp only [List.getElem_cons_zero]); (try simp only [Act.put]); (try simp only [List.setIfInBounds_toArray]); (try simp only [List.set_cons_succ]); (try simp only [List.set_cons_zero]))
      refine wpAnyH_take (i := 6) (v := ?_) rfl (by kernel_rfl) (by kernel_rfl) (by kernel_rfl) (fun _ _ _ h => h) (Or.inl ⟨by rfl, ?_⟩) g20 ?_
      case refine_2 => (intro w hSw; (try dsimp only at hSw); obtain ⟨k0, _⟩ := hSw.1.cells; go_simp; (try rw [if_neg (not_big (by omega))]); try (with_reducible rfl))
      ((try simp only); (try simp only [List.getElem_toArray]); (try simp only [List.getElem_cons_succ]); (try simp only [List.getElem_cons_zero]); (try simp only [Act.put]); (try simp only [List.setIfInBounds_toArray]); (try simp only [List.set_cons_succ]); (try simp only [List.set_cons_zero]))
      refine wpAnyH_take (i := 10) (v := ?_) rfl (by kernel_rfl) (by kernel_rfl) (by kernel_rfl) (fun _ _ _ h => h) (Or.inl ⟨by rfl, ?_⟩) g20 ?_
      case refine_2 => (intro w hSw; (try dsimp only at hSw); obtain ⟨k0, _⟩ := hSw.1.cells; go_simp; (try rw [if_neg (not_big (by omega))]); try (with_reducible rfl))
      ((try simp only); (try simp only [List.getElem_toArray]); (try simp only [List.getElem_cons_succ]); (try simp only [List.getElem_cons_zero]); (try simp only [Act.put]); (try simp only [List.setIfInBounds_toArray]); (try simp only [List.set_cons_succ]); (try simp only [List.set_cons_zero]))
      refine wpAnyH_take (i := 11) (v := ?_) rfl (by kernel_rfl) (by kernel_rfl) (by kernel_rfl) (fun _ _ _ h => h) (Or.inl ⟨by rfl, ?_⟩) g20 ?_
      case refine_2 => (intro w hSw; (try dsimp only at hSw); obtain ⟨k0, _⟩ := hSw.1.cells; go_simp; (try rw [if_neg (not_big (by omega))]); try (with_reducible rfl))
      ((try simp only); (try simp only [List.getElem_toArray]); (try simp only [List.getElem_cons_succ]); (try simp only [List.getElem_cons_zero]); (try simp only [Act.put]); (try simp only [List.setIfInBounds_toArray]); (try simp only [List.set_cons_succ]); (try simp only [List.set_cons_zero]))
      refine wpAnyH_take (i := 12) (v := ?_) rfl (by kernel_rfl) (by kernel_rfl) (by kernel_rfl) (fun _ _ _ h => h) (Or.inl ⟨by rfl, ?_⟩) g20 ?_
      case refine_2 => (intro w hSw; (try dsimp only at hSw); obtain ⟨k0, _⟩ := hSw.1.cells; go_simp; (try rw [if_neg (not_big (by omega))]); try (with_reducible rfl))
      ((try simp only); (try simp only [List.getElem_toArray]); (try simp only [List.getElem_cons_succ]); (try simp only [List.getElem_cons_zero]); (try simp only [Act.put]); (try simp only [List.setIfInBounds_toArray]); (try simp only [List.set_cons_succ]); (try simp only [List.set_cons_zero]))
      refine wpAnyH_done (by kernel_rfl) ?_ _
      refine NoPanic.normal ?_
      have BB := g20.2
      go_wp2
      go_ret2
      exact ⟨BB, .inr ⟨HR.out, by rw [← HE.out]; rfl⟩⟩
end Go.Proofs.Ytbjnbobohkjhiaa
