/- The document's own words: Fields. -/
import Derived.Test.YtbjnbobohkjhiaaRefRt
namespace Go.Proofs.Ytbjnbobohkjhiaa
set_option linter.unusedVariables false
open Go.RowKit

theorem not_big {a : Nat} (h : a ≤ 1000) : ¬ 9223372036854775807 < a := by omega
theorem str_app (a b : List UInt8) : str a ++ str b = str (a ++ b) := by
  apply ByteArray.ext
  simp [str]
set_option maxHeartbeats 8000000 in
set_option maxRecDepth 100000 in
theorem fields_calls (w : World) (g rt x c : Nat) (l : List Snp) (ad : Option Addr) (cap : Nat) (h8 : l.length ≤ 8) (hin : l = [] ∨ ∃ g off, ad = some ⟨g, off, none⟩ ∧ g < w.heap.size ∧ ∀ i (hi : i < l.length), SnpAt w g (off + i * 3) l[i]) (hsn : ∀ s ∈ l, s.n.size ≤ 18 ∧ 0 ≤ s.r ∧ s.r ≤ 4294967295 ∧ 0 ≤ s.c ∧ s.c ≤ 281474976710655) (Hg : Hid (g < 9223372036854775808)) (Hrt : Hid (rt < 9223372036854775808)) (Hx : Hid (x < 9223372036854775808)) (Hc : Hid (c < 9223372036854775808)) :
    Calls Try.prog 23 #[uv ⟨(g : Int), (rt : Int), (x : Int), (c : Int), l⟩ (.slice ad l.length cap)] w fun e w' => e = .returned (.string (str (encB ⟨(g : Int), (rt : Int), (x : Int), (c : Int), l⟩))) ∧ Below w.heap.size w w' := by
  have HU : Hid (HasU (w.alloc (.cells (uc ⟨(g : Int), (rt : Int), (x : Int), (c : Int), l⟩ (.slice ad l.length cap)) 24)) w.heap.size ⟨(g : Int), (rt : Int), (x : Int), (c : Int), l⟩ (.slice ad l.length cap)) := HasU.new w _ _ _ rfl rfl
  have B0 : Below w.heap.size w (w.alloc (.cells (uc ⟨(g : Int), (rt : Int), (x : Int), (c : Int), l⟩ (.slice ad l.length cap)) 24)) := (Below.refl _ _).alloc (Nat.le_refl _) _
  have HN : Hid (l.length < 9223372036854775808) := (show _ < _ by omega)
  have sa := str_app
  have sz := str_size
  have sb := be_length
  have sw : (⟨#[87, 65, 73, 78]⟩ : ByteArray) = str [87, 65, 73, 78] := rfl
  go_enter Try.func23, Try.ntmps23
  go_upto_region 1 with fail
  refine wp_region_noPanic ?_
  refine wp_region_held_drew (S := (fun y => HasU y w.heap.size ⟨(g : Int), (rt : Int), (x : Int), (c : Int), l⟩ (.slice ad l.length cap) ∧ Below w.heap.size w y)) (by kernel_rfl) ⟨HU.out.same rfl, below_drewN B0 1⟩ (fun hHeld => ?_)
  refine wpAnyH_take (i := 0) (v := ?_) rfl (by kernel_rfl) (by kernel_rfl) (by kernel_rfl) (fun _ _ _ h => h) (Or.inl ⟨by rfl, ?_⟩) hHeld ?_
  case refine_2 => (intro w hSw; (try dsimp only at hSw); obtain ⟨k0, k1, k2, k3, k4⟩ := hSw.1.cells; simp only at k0 k1 k2 k3; go_simp; try (with_reducible rfl))
  ((try simp only); (try simp only [List.getElem_toArray]); (try simp only [List.getElem_cons_succ]); (try simp only [List.getElem_cons_zero]); (try simp only [Act.put]); (try simp only [List.setIfInBounds_toArray]); (try simp only [List.set_cons_succ]); (try simp only [List.set_cons_zero]))
  refine wpAnyH_take (i := 1) (v := ?_) rfl (by kernel_rfl) (by kernel_rfl) (by kernel_rfl) (fun _ _ _ h => h) (Or.inl ⟨by rfl, ?_⟩) hHeld ?_
  case refine_2 => (intro w hSw; (try dsimp only at hSw); obtain ⟨k0, k1, k2, k3, k4⟩ := hSw.1.cells; simp only at k0 k1 k2 k3; go_simp; try (with_reducible rfl))
  ((try simp only); (try simp only [List.getElem_toArray]); (try simp only [List.getElem_cons_succ]); (try simp only [List.getElem_cons_zero]); (try simp only [Act.put]); (try simp only [List.setIfInBounds_toArray]); (try simp only [List.set_cons_succ]); (try simp only [List.set_cons_zero]))
  refine wpAnyH_take (i := 4) (v := ?_) rfl (by kernel_rfl) (by kernel_rfl) (by kernel_rfl) (fun _ _ _ h => h) (Or.inl ⟨by rfl, ?_⟩) hHeld ?_
  case refine_2 => (intro w hSw; (try dsimp only at hSw); obtain ⟨k0, k1, k2, k3, k4⟩ := hSw.1.cells; simp only at k0 k1 k2 k3; go_simp; try (with_reducible rfl))
  ((try simp only); (try simp only [List.getElem_toArray]); (try simp only [List.getElem_cons_succ]); (try simp only [List.getElem_cons_zero]); (try simp only [Act.put]); (try simp only [List.setIfInBounds_toArray]); (try simp only [List.set_cons_succ]); (try simp only [List.set_cons_zero]))
  refine wpAnyH_take (i := 5) (v := ?_) rfl (by kernel_rfl) (by kernel_rfl) (by kernel_rfl) (fun _ _ _ h => h) (Or.inl ⟨by rfl, ?_⟩) hHeld ?_
  case refine_2 => (intro w hSw; (try dsimp only at hSw); obtain ⟨k0, k1, k2, k3, k4⟩ := hSw.1.cells; simp only at k0 k1 k2 k3; go_simp; try (with_reducible rfl))
  ((try simp only); (try simp only [List.getElem_toArray]); (try simp only [List.getElem_cons_succ]); (try simp only [List.getElem_cons_zero]); (try simp only [Act.put]); (try simp only [List.setIfInBounds_toArray]); (try simp only [List.set_cons_succ]); (try simp only [List.set_cons_zero]))
  refine wpAnyH_take (i := 8) (v := ?_) rfl (by kernel_rfl) (by kernel_rfl) (by kernel_rfl) (fun _ _ _ h => h) (Or.inl ⟨by rfl, ?_⟩) hHeld ?_
  case refine_2 => (intro w hSw; (try dsimp only at hSw); obtain ⟨k0, k1, k2, k3, k4⟩ := hSw.1.cells; simp only at k0 k1 k2 k3; go_simp; try (with_reducible rfl))
  ((try simp only); (try simp only [List.getElem_toArray]); (try simp only [List.getElem_cons_succ]); (try simp only [List.getElem_cons_zero]); (try simp only [Act.put]); (try simp only [List.setIfInBounds_toArray]); (try simp only [List.set_cons_succ]); (try simp only [List.set_cons_zero]))
  refine wpAnyH_take (i := 9) (v := ?_) rfl (by kernel_rfl) (by kernel_rfl) (by kernel_rfl) (fun _ _ _ h => h) (Or.inl ⟨by rfl, ?_⟩) hHeld ?_
  case refine_2 => (intro w hSw; (try dsimp only at hSw); obtain ⟨k0, k1, k2, k3, k4⟩ := hSw.1.cells; simp only at k0 k1 k2 k3; go_simp; try (with_reducible rfl))
  ((try simp only); (try simp only [List.getElem_toArray]); (try simp only [List.getElem_cons_succ]); (try simp only [List.getElem_cons_zero]); (try simp only [Act.put]); (try simp only [List.setIfInBounds_toArray]); (try simp only [List.set_cons_succ]); (try simp only [List.set_cons_zero]))
  refine wpAnyH_take (i := 12) (v := ?_) rfl (by kernel_rfl) (by kernel_rfl) (by kernel_rfl) (fun _ _ _ h => h) (Or.inl ⟨by rfl, ?_⟩) hHeld ?_
  case refine_2 => (intro w hSw; (try dsimp only at hSw); obtain ⟨k0, k1, k2, k3, k4⟩ := hSw.1.cells; simp only at k0 k1 k2 k3; go_simp; try (with_reducible rfl))
  ((try simp only); (try simp only [List.getElem_toArray]); (try simp only [List.getElem_cons_succ]); (try simp only [List.getElem_cons_zero]); (try simp only [Act.put]); (try simp only [List.setIfInBounds_toArray]); (try simp only [List.set_cons_succ]); (try simp only [List.set_cons_zero]))
  refine wpAnyH_take (i := 13) (v := ?_) rfl (by kernel_rfl) (by kernel_rfl) (by kernel_rfl) (fun _ _ _ h => h) (Or.inl ⟨by rfl, ?_⟩) hHeld ?_
  case refine_2 => (intro w hSw; (try dsimp only at hSw); obtain ⟨k0, k1, k2, k3, k4⟩ := hSw.1.cells; simp only at k0 k1 k2 k3; go_simp; try (with_reducible rfl))
  ((try simp only); (try simp only [List.getElem_toArray]); (try simp only [List.getElem_cons_succ]); (try simp only [List.getElem_cons_zero]); (try simp only [Act.put]); (try simp only [List.setIfInBounds_toArray]); (try simp only [List.set_cons_succ]); (try simp only [List.set_cons_zero]))
  refine wpAnyH_take (i := 16) (v := ?_) rfl (by kernel_rfl) (by kernel_rfl) (by kernel_rfl) (fun _ _ _ h => h) (Or.inl ⟨by rfl, ?_⟩) hHeld ?_
  case refine_2 => (intro w hSw; (try dsimp only at hSw); obtain ⟨k0, k1, k2, k3, k4⟩ := hSw.1.cells; simp only at k0 k1 k2 k3; go_simp; try (with_reducible rfl))
  ((try simp only); (try simp only [List.getElem_toArray]); (try simp only [List.getElem_cons_succ]); (try simp only [List.getElem_cons_zero]); (try simp only [Act.put]); (try simp only [List.setIfInBounds_toArray]); (try simp only [List.set_cons_succ]); (try simp only [List.set_cons_zero]))
  refine wpAnyH_take (i := 17) (v := ?_) rfl (by kernel_rfl) (by kernel_rfl) (by kernel_rfl) (fun _ _ _ h => h) (Or.inl ⟨by rfl, ?_⟩) hHeld ?_
  case refine_2 => (intro w hSw; (try dsimp only at hSw); obtain ⟨k0, k1, k2, k3, k4⟩ := hSw.1.cells; simp only at k0 k1 k2 k3; go_simp; try (with_reducible rfl))
  ((try simp only); (try simp only [List.getElem_toArray]); (try simp only [List.getElem_cons_succ]); (try simp only [List.getElem_cons_zero]); (try simp only [Act.put]); (try simp only [List.setIfInBounds_toArray]); (try simp only [List.set_cons_succ]); (try simp only [List.set_cons_zero]))
  refine wpAnyH_take (i := 18) (v := ?_) rfl (by kernel_rfl) (by kernel_rfl) (by kernel_rfl) (fun _ _ _ h => h) (Or.inl ⟨by rfl, ?_⟩) hHeld ?_
  case refine_2 => (intro w hSw; (try dsimp only at hSw); obtain ⟨k0, k1, k2, k3, k4⟩ := hSw.1.cells; simp only at k0 k1 k2 k3; go_simp; try (with_reducible rfl))
  ((try simp only); (try simp only [List.getElem_toArray]); (try simp only [List.getElem_cons_succ]); (try simp only [List.getElem_cons_zero]); (try simp only [Act.put]); (try simp only [List.setIfInBounds_toArray]); (try simp only [List.set_cons_succ]); (try simp only [List.set_cons_zero]))
  refine wpAnyH_ready (rs := [2]) (by kernel_rfl) (by simp) (AllReadyH.cons rfl (fun K hK => ?_) AllReadyH.nil)
  rw [if_pos (by rfl)]
  ((try simp only); (try simp only [List.getElem_toArray]); (try simp only [List.getElem_cons_succ]); (try simp only [List.getElem_cons_zero]); (try simp only [Act.put]); (try simp only [List.setIfInBounds_toArray]); (try simp only [List.set_cons_succ]); (try simp only [List.set_cons_zero]))
  go_simp
  refine (number_calls4 _ g 8 (by omega) Hg).mono ?_
  rintro e y1 ⟨rfl, by1⟩
  refine hK.out _ _ ⟨hHeld.1.below by1 hHeld.1.lt, hHeld.2.trans (by1.mono hHeld.2.size)⟩ (fun g1 => ?_)
  clear hK K
  ((try simp only); (try simp only [List.getElem_toArray]); (try simp only [List.getElem_cons_succ]); (try simp only [List.getElem_cons_zero]); (try simp only [Act.put]); (try simp only [List.setIfInBounds_toArray]); (try simp only [List.set_cons_succ]); (try simp only [List.set_cons_zero]))
  refine wpAnyH_take (i := 3) (v := ?_) rfl (by kernel_rfl) (by kernel_rfl) (by kernel_rfl) (fun _ _ _ h => h) (Or.inl ⟨by rfl, ?_⟩) g1 ?_
  case refine_2 => (intro w hSw; (try dsimp only at hSw); obtain ⟨k0, k1, k2, k3, k4⟩ := hSw.1.cells; simp only at k0 k1 k2 k3; go_simp; try (with_reducible rfl))
  ((try simp only); (try simp only [List.getElem_toArray]); (try simp only [List.getElem_cons_succ]); (try simp only [List.getElem_cons_zero]); (try simp only [Act.put]); (try simp only [List.setIfInBounds_toArray]); (try simp only [List.set_cons_succ]); (try simp only [List.set_cons_zero]))
  refine wpAnyH_ready (rs := [6]) (by kernel_rfl) (by simp) (AllReadyH.cons rfl (fun K hK => ?_) AllReadyH.nil)
  rw [if_pos (by rfl)]
  ((try simp only); (try simp only [List.getElem_toArray]); (try simp only [List.getElem_cons_succ]); (try simp only [List.getElem_cons_zero]); (try simp only [Act.put]); (try simp only [List.setIfInBounds_toArray]); (try simp only [List.set_cons_succ]); (try simp only [List.set_cons_zero]))
  go_simp
  refine (number_calls4 _ rt 4 (by omega) Hrt).mono ?_
  rintro e y2 ⟨rfl, by2⟩
  refine hK.out _ _ ⟨g1.1.below by2 g1.1.lt, g1.2.trans (by2.mono g1.2.size)⟩ (fun g2 => ?_)
  clear hK K
  ((try simp only); (try simp only [List.getElem_toArray]); (try simp only [List.getElem_cons_succ]); (try simp only [List.getElem_cons_zero]); (try simp only [Act.put]); (try simp only [List.setIfInBounds_toArray]); (try simp only [List.set_cons_succ]); (try simp only [List.set_cons_zero]))
  refine wpAnyH_take (i := 7) (v := ?_) rfl (by kernel_rfl) (by kernel_rfl) (by kernel_rfl) (fun _ _ _ h => h) (Or.inl ⟨by rfl, ?_⟩) g2 ?_
  case refine_2 => (intro w hSw; (try dsimp only at hSw); obtain ⟨k0, k1, k2, k3, k4⟩ := hSw.1.cells; simp only at k0 k1 k2 k3; go_simp; try (with_reducible rfl))
  ((try simp only); (try simp only [List.getElem_toArray]); (try simp only [List.getElem_cons_succ]); (try simp only [List.getElem_cons_zero]); (try simp only [Act.put]); (try simp only [List.setIfInBounds_toArray]); (try simp only [List.set_cons_succ]); (try simp only [List.set_cons_zero]))
  refine wpAnyH_ready (rs := [10]) (by kernel_rfl) (by simp) (AllReadyH.cons rfl (fun K hK => ?_) AllReadyH.nil)
  rw [if_pos (by rfl)]
  ((try simp only); (try simp only [List.getElem_toArray]); (try simp only [List.getElem_cons_succ]); (try simp only [List.getElem_cons_zero]); (try simp only [Act.put]); (try simp only [List.setIfInBounds_toArray]); (try simp only [List.set_cons_succ]); (try simp only [List.set_cons_zero]))
  go_simp
  refine (number_calls4 _ x 4 (by omega) Hx).mono ?_
  rintro e y3 ⟨rfl, by3⟩
  refine hK.out _ _ ⟨g2.1.below by3 g2.1.lt, g2.2.trans (by3.mono g2.2.size)⟩ (fun g3 => ?_)
  clear hK K
  ((try simp only); (try simp only [List.getElem_toArray]); (try simp only [List.getElem_cons_succ]); (try simp only [List.getElem_cons_zero]); (try simp only [Act.put]); (try simp only [List.setIfInBounds_toArray]); (try simp only [List.set_cons_succ]); (try simp only [List.set_cons_zero]))
  refine wpAnyH_take (i := 11) (v := ?_) rfl (by kernel_rfl) (by kernel_rfl) (by kernel_rfl) (fun _ _ _ h => h) (Or.inl ⟨by rfl, ?_⟩) g3 ?_
  case refine_2 => (intro w hSw; (try dsimp only at hSw); obtain ⟨k0, k1, k2, k3, k4⟩ := hSw.1.cells; simp only at k0 k1 k2 k3; go_simp; try (with_reducible rfl))
  ((try simp only); (try simp only [List.getElem_toArray]); (try simp only [List.getElem_cons_succ]); (try simp only [List.getElem_cons_zero]); (try simp only [Act.put]); (try simp only [List.setIfInBounds_toArray]); (try simp only [List.set_cons_succ]); (try simp only [List.set_cons_zero]))
  refine wpAnyH_ready (rs := [14]) (by kernel_rfl) (by simp) (AllReadyH.cons rfl (fun K hK => ?_) AllReadyH.nil)
  rw [if_pos (by rfl)]
  ((try simp only); (try simp only [List.getElem_toArray]); (try simp only [List.getElem_cons_succ]); (try simp only [List.getElem_cons_zero]); (try simp only [Act.put]); (try simp only [List.setIfInBounds_toArray]); (try simp only [List.set_cons_succ]); (try simp only [List.set_cons_zero]))
  go_simp
  refine (number_calls4 _ c 8 (by omega) Hc).mono ?_
  rintro e y4 ⟨rfl, by4⟩
  refine hK.out _ _ ⟨g3.1.below by4 g3.1.lt, g3.2.trans (by4.mono g3.2.size)⟩ (fun g4 => ?_)
  clear hK K
  ((try simp only); (try simp only [List.getElem_toArray]); (try simp only [List.getElem_cons_succ]); (try simp only [List.getElem_cons_zero]); (try simp only [Act.put]); (try simp only [List.setIfInBounds_toArray]); (try simp only [List.set_cons_succ]); (try simp only [List.set_cons_zero]))
  refine wpAnyH_take (i := 15) (v := ?_) rfl (by kernel_rfl) (by kernel_rfl) (by kernel_rfl) (fun _ _ _ h => h) (Or.inl ⟨by rfl, ?_⟩) g4 ?_
  case refine_2 => (intro w hSw; (try dsimp only at hSw); obtain ⟨k0, k1, k2, k3, k4⟩ := hSw.1.cells; simp only at k0 k1 k2 k3; go_simp; try (with_reducible rfl))
  ((try simp only); (try simp only [List.getElem_toArray]); (try simp only [List.getElem_cons_succ]); (try simp only [List.getElem_cons_zero]); (try simp only [Act.put]); (try simp only [List.setIfInBounds_toArray]); (try simp only [List.set_cons_succ]); (try simp only [List.set_cons_zero]))
  refine wpAnyH_ready (rs := [19]) (by kernel_rfl) (by simp) (AllReadyH.cons rfl (fun K hK => ?_) AllReadyH.nil)
  rw [if_pos (by rfl)]
  ((try simp only); (try simp only [List.getElem_toArray]); (try simp only [List.getElem_cons_succ]); (try simp only [List.getElem_cons_zero]); (try simp only [Act.put]); (try simp only [List.setIfInBounds_toArray]); (try simp only [List.set_cons_succ]); (try simp only [List.set_cons_zero]))
  go_simp
  refine (number_calls4 _ l.length 1 (by omega) HN).mono ?_
  rintro e y5 ⟨rfl, by5⟩
  refine hK.out _ _ ⟨g4.1.below by5 g4.1.lt, g4.2.trans (by5.mono g4.2.size)⟩ (fun g5 => ?_)
  clear hK K
  ((try simp only); (try simp only [List.getElem_toArray]); (try simp only [List.getElem_cons_succ]); (try simp only [List.getElem_cons_zero]); (try simp only [Act.put]); (try simp only [List.setIfInBounds_toArray]); (try simp only [List.set_cons_succ]); (try simp only [List.set_cons_zero]))
  refine wpAnyH_take (i := 20) (v := ?_) rfl (by kernel_rfl) (by kernel_rfl) (by kernel_rfl) (fun _ _ _ h => h) (Or.inl ⟨by rfl, ?_⟩) g5 ?_
  case refine_2 => (intro w hSw; (try dsimp only at hSw); obtain ⟨k0, k1, k2, k3, k4⟩ := hSw.1.cells; simp only at k0 k1 k2 k3; go_simp; try (with_reducible rfl))
  ((try simp only); (try simp only [List.getElem_toArray]); (try simp only [List.getElem_cons_succ]); (try simp only [List.getElem_cons_zero]); (try simp only [Act.put]); (try simp only [List.setIfInBounds_toArray]); (try simp only [List.set_cons_succ]); (try simp only [List.set_cons_zero]))
  refine wpAnyH_take (i := 21) (v := ?_) rfl (by kernel_rfl) (by kernel_rfl) (by kernel_rfl) (fun _ _ _ h => h) (Or.inl ⟨by rfl, ?_⟩) g5 ?_
  case refine_2 => (intro w hSw; (try dsimp only at hSw); obtain ⟨k0, k1, k2, k3, k4⟩ := hSw.1.cells; simp only at k0 k1 k2 k3; go_simp; try (with_reducible rfl))
  ((try simp only); (try simp only [List.getElem_toArray]); (try simp only [List.getElem_cons_succ]); (try simp only [List.getElem_cons_zero]); (try simp only [Act.put]); (try simp only [List.setIfInBounds_toArray]); (try simp only [List.set_cons_succ]); (try simp only [List.set_cons_zero]))
  refine wpAnyH_done (by kernel_rfl) ?_ _
  refine NoPanic.normal ?_
  have HU5 := g5.1
  have B5 := g5.2
  obtain ⟨EH, hEH⟩ : ∃ EH, EH = be g 8 ++ 87 :: 65 :: 73 :: 78 :: (be rt 4 ++ (be x 4 ++ (be c 8 ++ be l.length 1))) := ⟨_, rfl⟩
  rw [← hEH]
  have HEH : Hid (EH = encH ⟨(g : Int), (rt : Int), (x : Int), (c : Int), l⟩) := (show _ = _ by rw [hEH]; simp [encH, wain])
  have HEL : Hid (EH.length = 29) := (show _ = _ by rw [HEH.out, encH_length])
  clear hEH g1 g2 g3 g4 g5 hHeld by1 by2 by3 by4 by5 HU B0 Hg Hrt Hx Hc HN
  obtain ⟨N, hN⟩ : ∃ N : Nat, N = l.length := ⟨_, rfl⟩
  rw [← hN] at h8 HU5 ⊢
  have HN1 : Hid (N = l.length) := hN
  have HSN : Hid (∀ s ∈ l, s.n.size ≤ 18 ∧ 0 ≤ s.r ∧ s.r ≤ 4294967295 ∧ 0 ≤ s.c ∧ s.c ≤ 281474976710655) := hsn
  have HIN : Hid (l = [] ∨ ∃ g off, ad = some ⟨g, off, none⟩ ∧ g < w.heap.size ∧ ∀ i (hi : i < l.length), SnpAt w g (off + i * 3) l[i]) := hin
  clear hN hsn hin
  go_wp2
  go_loopw [3, 4] (fun t i wr => ∃ (k : Nat), k ≤ N ∧ i = .int .i64 (k : Int) ∧ t = .string (str (cat EH (encL (l.take k)))) ∧ HasU wr w.heap.size ⟨(g : Int), (rt : Int), (x : Int), (c : Int), l⟩ (.slice ad N cap) ∧ Below w.heap.size w wr) (fun _ i _ => N - (intOf i).toNat)
  case atStart => exact ⟨0, Nat.zero_le _, rfl, by simp [cat, encL], HU5, B5⟩
  case round =>
    clear HU5 B5
    obtain ⟨k, hk, rfl, rfl, UW, BW⟩ := hrel
    obtain ⟨_, _, _, _, k4⟩ := UW.cells
    by_cases hlt : k < N
    · have hkl : k < l.length := by rw [← HN1.out]; exact hlt
      obtain ⟨ga, oa, rfl, gla, hall⟩ : ∃ g off, ad = some ⟨g, off, none⟩ ∧ g < w.heap.size ∧ ∀ i (hi : i < l.length), SnpAt w g (off + i * 3) l[i] := by
        rcases HIN.out with e | ⟨g, off, h1, h2, h3⟩
        · rw [e] at hkl; simp at hkl
        · exact ⟨g, off, h1, h2, h3⟩
      obtain ⟨c0, c1, c2⟩ := (hall k hkl).same (BW.block ga gla)
      obtain ⟨p1, p2, p3, p4, p5⟩ := HSN.out l[k] (List.getElem_mem _)
      have HT : Hid (encL (l.take (k + 1)) = encL (l.take k) ++ encS l[k]) := encL_take l k hkl
      have hL := encL_length (l.take k) fun s hs => (HSN.out s (List.mem_of_mem_take hs)).1
      rw [List.length_take] at hL
      have hE1 : (cat EH (encL (l.take k))).length ≤ 300 := by
        rw [cat_length, HEL.out]
        have := HN1.out
        omega
      obtain ⟨nl, hnl⟩ : ∃ nl, nl = l[k].n.data.toList := ⟨_, rfl⟩
      obtain ⟨sr, hsr⟩ := Int.eq_ofNat_of_zero_le p2
      obtain ⟨sc, hsc⟩ := Int.eq_ofNat_of_zero_le p4
      have hnn : l[k].n = str nl := by rw [hnl, str_data]
      have HC : Hid (cat EH (encL (l.take k)) ++ (be nl.length 1 ++ (nl ++ (be sr 4 ++ be sc 8))) = cat EH (encL (l.take (k + 1)))) := (show _ = _ by
        rw [HT.out, encS, hsr, hsc, hnn, str_size, str_list]
        simp [cat])
      have hl18 : nl.length ≤ 18 := by rw [hnn, str_size] at p1; exact p1
      have HNL : Hid (nl.length < 9223372036854775808) := (show _ < _ by omega)
      have HSR : Hid (sr < 9223372036854775808) := (show _ < _ by omega)
      have HSC : Hid (sc < 9223372036854775808) := (show _ < _ by omega)
      rw [hnn] at c0
      rw [hsr] at c1
      rw [hsc] at c2
      clear hall p1 p2 p3 p4 p5 HT hL hnl hsr hsc hnn
      generalize hEc : cat EH (encL (l.take k)) = E1 at *
      clear hEc
      go_upto_region 6 with fail
      have kx0 : (wr.alloc (.cells #[.string (str nl), .int .i64 (sr : Int), .int .i64 (sc : Int)] 49)).cell? ⟨wr.heap.size, 0, none⟩ = some (.string (str nl)) := (cells3 (heap_alloc_new wr _)).1
      have kx1 : (wr.alloc (.cells #[.string (str nl), .int .i64 (sr : Int), .int .i64 (sc : Int)] 49)).cell? ⟨wr.heap.size, 1, none⟩ = some (.int .i64 (sr : Int)) := (cells3 (heap_alloc_new wr _)).2.1
      have kx2 : (wr.alloc (.cells #[.string (str nl), .int .i64 (sr : Int), .int .i64 (sc : Int)] 49)).cell? ⟨wr.heap.size, 2, none⟩ = some (.int .i64 (sc : Int)) := (cells3 (heap_alloc_new wr _)).2.2
      have hnx : wr.heap.size < (wr.alloc (.cells #[.string (str nl), .int .i64 (sr : Int), .int .i64 (sc : Int)] 49)).heap.size := by simp
      have UV := UW.alloc (.cells #[.string (str nl), .int .i64 (sr : Int), .int .i64 (sc : Int)] 49)
      have BV := BW.alloc BW.size (.cells #[.string (str nl), .int .i64 (sr : Int), .int .i64 (sc : Int)] 49)
      have hbs := BW.size
      have hul := UW.lt
      clear k4 c0 c1 c2
      generalize wr.alloc (.cells #[.string (str nl), .int .i64 (sr : Int), .int .i64 (sc : Int)] 49) = V at *
      generalize wr.heap.size = nx at *
      refine wp_region_noPanic ?_
      refine wp_region_held_drew (S := (fun y => (y.cell? ⟨nx, 0, none⟩ = some (.string (str nl)) ∧ y.cell? ⟨nx, 1, none⟩ = some (.int .i64 (sr : Int)) ∧ y.cell? ⟨nx, 2, none⟩ = some (.int .i64 (sc : Int))) ∧ nx < y.heap.size ∧ Below (nx + 1) V y)) (by kernel_rfl) ⟨⟨kx0, kx1, kx2⟩, hnx, below_drewN (Below.refl _ V) 1⟩ (fun hHeld => ?_)
      refine wpAnyH_take (i := 0) (v := ?_) rfl (by kernel_rfl) (by kernel_rfl) (by kernel_rfl) (fun _ _ _ h => h) (Or.inl ⟨by rfl, ?_⟩) hHeld ?_
      case refine_2 => (intro w hSw; (try dsimp only at hSw); obtain ⟨⟨k0, k1, k2⟩, _⟩ := hSw; go_simp; (try rw [if_neg (not_big (by omega))]); try (with_reducible rfl))
      ((try simp only); (try simp only [List.getElem_toArray]); (try simp only [List.getElem_cons_succ]); (try simp only [List.getElem_cons_zero]); (try simp only [Act.put]); (try simp only [List.setIfInBounds_toArray]); (try simp only [List.set_cons_succ]); (try simp only [List.set_cons_zero]))
      refine wpAnyH_take (i := 1) (v := ?_) rfl (by kernel_rfl) (by kernel_rfl) (by kernel_rfl) (fun _ _ _ h => h) (Or.inl ⟨by rfl, ?_⟩) hHeld ?_
      case refine_2 => (intro w hSw; (try dsimp only at hSw); obtain ⟨⟨k0, k1, k2⟩, _⟩ := hSw; go_simp; (try rw [if_neg (not_big (by omega))]); try (with_reducible rfl))
      ((try simp only); (try simp only [List.getElem_toArray]); (try simp only [List.getElem_cons_succ]); (try simp only [List.getElem_cons_zero]); (try simp only [Act.put]); (try simp only [List.setIfInBounds_toArray]); (try simp only [List.set_cons_succ]); (try simp only [List.set_cons_zero]))
      refine wpAnyH_take (i := 2) (v := ?_) rfl (by kernel_rfl) (by kernel_rfl) (by kernel_rfl) (fun _ _ _ h => h) (Or.inl ⟨by rfl, ?_⟩) hHeld ?_
      case refine_2 => (intro w hSw; (try dsimp only at hSw); obtain ⟨⟨k0, k1, k2⟩, _⟩ := hSw; go_simp; (try rw [if_neg (not_big (by omega))]); try (with_reducible rfl))
      ((try simp only); (try simp only [List.getElem_toArray]); (try simp only [List.getElem_cons_succ]); (try simp only [List.getElem_cons_zero]); (try simp only [Act.put]); (try simp only [List.setIfInBounds_toArray]); (try simp only [List.set_cons_succ]); (try simp only [List.set_cons_zero]))
      refine wpAnyH_take (i := 3) (v := ?_) rfl (by kernel_rfl) (by kernel_rfl) (by kernel_rfl) (fun _ _ _ h => h) (Or.inl ⟨by rfl, ?_⟩) hHeld ?_
      case refine_2 => (intro w hSw; (try dsimp only at hSw); obtain ⟨⟨k0, k1, k2⟩, _⟩ := hSw; go_simp; (try rw [if_neg (not_big (by omega))]); try (with_reducible rfl))
      ((try simp only); (try simp only [List.getElem_toArray]); (try simp only [List.getElem_cons_succ]); (try simp only [List.getElem_cons_zero]); (try simp only [Act.put]); (try simp only [List.setIfInBounds_toArray]); (try simp only [List.set_cons_succ]); (try simp only [List.set_cons_zero]))
      refine wpAnyH_take (i := 6) (v := ?_) rfl (by kernel_rfl) (by kernel_rfl) (by kernel_rfl) (fun _ _ _ h => h) (Or.inl ⟨by rfl, ?_⟩) hHeld ?_
      case refine_2 => (intro w hSw; (try dsimp only at hSw); obtain ⟨⟨k0, k1, k2⟩, _⟩ := hSw; go_simp; (try rw [if_neg (not_big (by omega))]); try (with_reducible rfl))
      ((try simp only); (try simp only [List.getElem_toArray]); (try simp only [List.getElem_cons_succ]); (try simp only [List.getElem_cons_zero]); (try simp only [Act.put]); (try simp only [List.setIfInBounds_toArray]); (try simp only [List.set_cons_succ]); (try simp only [List.set_cons_zero]))
      refine wpAnyH_take (i := 7) (v := ?_) rfl (by kernel_rfl) (by kernel_rfl) (by kernel_rfl) (fun _ _ _ h => h) (Or.inl ⟨by rfl, ?_⟩) hHeld ?_
      case refine_2 => (intro w hSw; (try dsimp only at hSw); obtain ⟨⟨k0, k1, k2⟩, _⟩ := hSw; go_simp; (try rw [if_neg (not_big (by omega))]); try (with_reducible rfl))
      ((try simp only); (try simp only [List.getElem_toArray]); (try simp only [List.getElem_cons_succ]); (try simp only [List.getElem_cons_zero]); (try simp only [Act.put]); (try simp only [List.setIfInBounds_toArray]); (try simp only [List.set_cons_succ]); (try simp only [List.set_cons_zero]))
      refine wpAnyH_take (i := 9) (v := ?_) rfl (by kernel_rfl) (by kernel_rfl) (by kernel_rfl) (fun _ _ _ h => h) (Or.inl ⟨by rfl, ?_⟩) hHeld ?_
      case refine_2 => (intro w hSw; (try dsimp only at hSw); obtain ⟨⟨k0, k1, k2⟩, _⟩ := hSw; go_simp; (try rw [if_neg (not_big (by omega))]); try (with_reducible rfl))
      ((try simp only); (try simp only [List.getElem_toArray]); (try simp only [List.getElem_cons_succ]); (try simp only [List.getElem_cons_zero]); (try simp only [Act.put]); (try simp only [List.setIfInBounds_toArray]); (try simp only [List.set_cons_succ]); (try simp only [List.set_cons_zero]))
      refine wpAnyH_take (i := 10) (v := ?_) rfl (by kernel_rfl) (by kernel_rfl) (by kernel_rfl) (fun _ _ _ h => h) (Or.inl ⟨by rfl, ?_⟩) hHeld ?_
      case refine_2 => (intro w hSw; (try dsimp only at hSw); obtain ⟨⟨k0, k1, k2⟩, _⟩ := hSw; go_simp; (try rw [if_neg (not_big (by omega))]); try (with_reducible rfl))
      ((try simp only); (try simp only [List.getElem_toArray]); (try simp only [List.getElem_cons_succ]); (try simp only [List.getElem_cons_zero]); (try simp only [Act.put]); (try simp only [List.setIfInBounds_toArray]); (try simp only [List.set_cons_succ]); (try simp only [List.set_cons_zero]))
      refine wpAnyH_take (i := 13) (v := ?_) rfl (by kernel_rfl) (by kernel_rfl) (by kernel_rfl) (fun _ _ _ h => h) (Or.inl ⟨by rfl, ?_⟩) hHeld ?_
      case refine_2 => (intro w hSw; (try dsimp only at hSw); obtain ⟨⟨k0, k1, k2⟩, _⟩ := hSw; go_simp; (try rw [if_neg (not_big (by omega))]); try (with_reducible rfl))
      ((try simp only); (try simp only [List.getElem_toArray]); (try simp only [List.getElem_cons_succ]); (try simp only [List.getElem_cons_zero]); (try simp only [Act.put]); (try simp only [List.setIfInBounds_toArray]); (try simp only [List.set_cons_succ]); (try simp only [List.set_cons_zero]))
      refine wpAnyH_take (i := 14) (v := ?_) rfl (by kernel_rfl) (by kernel_rfl) (by kernel_rfl) (fun _ _ _ h => h) (Or.inl ⟨by rfl, ?_⟩) hHeld ?_
      case refine_2 => (intro w hSw; (try dsimp only at hSw); obtain ⟨⟨k0, k1, k2⟩, _⟩ := hSw; go_simp; (try rw [if_neg (not_big (by omega))]); try (with_reducible rfl))
      ((try simp only); (try simp only [List.getElem_toArray]); (try simp only [List.getElem_cons_succ]); (try simp only [List.getElem_cons_zero]); (try simp only [Act.put]); (try simp only [List.setIfInBounds_toArray]); (try simp only [List.set_cons_succ]); (try simp only [List.set_cons_zero]))
      refine wpAnyH_ready (rs := [4]) (by kernel_rfl) (by simp) (AllReadyH.cons rfl (fun K hK => ?_) AllReadyH.nil)
      rw [if_pos (by rfl)]
      ((try simp only); (try simp only [List.getElem_toArray]); (try simp only [List.getElem_cons_succ]); (try simp only [List.getElem_cons_zero]); (try simp only [Act.put]); (try simp only [List.setIfInBounds_toArray]); (try simp only [List.set_cons_succ]); (try simp only [List.set_cons_zero]))
      go_simp
      refine (number_calls4 _ nl.length 1 (by omega) HNL).mono ?_
      rintro e v1 ⟨rfl, bv1⟩
      refine hK.out _ _ ⟨⟨(World.cell?_of_block (bv1.block nx hHeld.2.1)).trans hHeld.1.1, (World.cell?_of_block (bv1.block nx hHeld.2.1)).trans hHeld.1.2.1, (World.cell?_of_block (bv1.block nx hHeld.2.1)).trans hHeld.1.2.2⟩, Nat.lt_of_lt_of_le hHeld.2.1 bv1.size, hHeld.2.2.trans (bv1.mono hHeld.2.1)⟩ (fun h1 => ?_)
      clear hK K
      ((try simp only); (try simp only [List.getElem_toArray]); (try simp only [List.getElem_cons_succ]); (try simp only [List.getElem_cons_zero]); (try simp only [Act.put]); (try simp only [List.setIfInBounds_toArray]); (try simp only [List.set_cons_succ]); (try simp only [List.set_cons_zero]))
      refine wpAnyH_take (i := 5) (v := ?_) rfl (by kernel_rfl) (by kernel_rfl) (by kernel_rfl) (fun _ _ _ h => h) (Or.inl ⟨by rfl, ?_⟩) h1 ?_
      case refine_2 => (intro w hSw; (try dsimp only at hSw); obtain ⟨⟨k0, k1, k2⟩, _⟩ := hSw; go_simp; (try rw [if_neg (not_big (by omega))]); try (with_reducible rfl))
      ((try simp only); (try simp only [List.getElem_toArray]); (try simp only [List.getElem_cons_succ]); (try simp only [List.getElem_cons_zero]); (try simp only [Act.put]); (try simp only [List.setIfInBounds_toArray]); (try simp only [List.set_cons_succ]); (try simp only [List.set_cons_zero]))
      refine wpAnyH_take (i := 8) (v := ?_) rfl (by kernel_rfl) (by kernel_rfl) (by kernel_rfl) (fun _ _ _ h => h) (Or.inl ⟨by rfl, ?_⟩) h1 ?_
      case refine_2 => (intro w hSw; (try dsimp only at hSw); obtain ⟨⟨k0, k1, k2⟩, _⟩ := hSw; go_simp; (try rw [if_neg (not_big (by omega))]); try (with_reducible rfl))
      ((try simp only); (try simp only [List.getElem_toArray]); (try simp only [List.getElem_cons_succ]); (try simp only [List.getElem_cons_zero]); (try simp only [Act.put]); (try simp only [List.setIfInBounds_toArray]); (try simp only [List.set_cons_succ]); (try simp only [List.set_cons_zero]))
      refine wpAnyH_ready (rs := [11]) (by kernel_rfl) (by simp) (AllReadyH.cons rfl (fun K hK => ?_) AllReadyH.nil)
      rw [if_pos (by rfl)]
      ((try simp only); (try simp only [List.getElem_toArray]); (try simp only [List.getElem_cons_succ]); (try simp only [List.getElem_cons_zero]); (try simp only [Act.put]); (try simp only [List.setIfInBounds_toArray]); (try simp only [List.set_cons_succ]); (try simp only [List.set_cons_zero]))
      go_simp
      refine (number_calls4 _ sr 4 (by omega) HSR).mono ?_
      rintro e v2 ⟨rfl, bv2⟩
      refine hK.out _ _ ⟨⟨(World.cell?_of_block (bv2.block nx h1.2.1)).trans h1.1.1, (World.cell?_of_block (bv2.block nx h1.2.1)).trans h1.1.2.1, (World.cell?_of_block (bv2.block nx h1.2.1)).trans h1.1.2.2⟩, Nat.lt_of_lt_of_le h1.2.1 bv2.size, h1.2.2.trans (bv2.mono h1.2.1)⟩ (fun h2 => ?_)
      clear hK K
      ((try simp only); (try simp only [List.getElem_toArray]); (try simp only [List.getElem_cons_succ]); (try simp only [List.getElem_cons_zero]); (try simp only [Act.put]); (try simp only [List.setIfInBounds_toArray]); (try simp only [List.set_cons_succ]); (try simp only [List.set_cons_zero]))
      refine wpAnyH_take (i := 12) (v := ?_) rfl (by kernel_rfl) (by kernel_rfl) (by kernel_rfl) (fun _ _ _ h => h) (Or.inl ⟨by rfl, ?_⟩) h2 ?_
      case refine_2 => (intro w hSw; (try dsimp only at hSw); obtain ⟨⟨k0, k1, k2⟩, _⟩ := hSw; go_simp; (try rw [if_neg (not_big (by omega))]); try (with_reducible rfl))
      ((try simp only); (try simp only [List.getElem_toArray]); (try simp only [List.getElem_cons_succ]); (try simp only [List.getElem_cons_zero]); (try simp only [Act.put]); (try simp only [List.setIfInBounds_toArray]); (try simp only [List.set_cons_succ]); (try simp only [List.set_cons_zero]))
      refine wpAnyH_ready (rs := [15]) (by kernel_rfl) (by simp) (AllReadyH.cons rfl (fun K hK => ?_) AllReadyH.nil)
      rw [if_pos (by rfl)]
      ((try simp only); (try simp only [List.getElem_toArray]); (try simp only [List.getElem_cons_succ]); (try simp only [List.getElem_cons_zero]); (try simp only [Act.put]); (try simp only [List.setIfInBounds_toArray]); (try simp only [List.set_cons_succ]); (try simp only [List.set_cons_zero]))
      go_simp
      refine (number_calls4 _ sc 8 (by omega) HSC).mono ?_
      rintro e v3 ⟨rfl, bv3⟩
      refine hK.out _ _ ⟨⟨(World.cell?_of_block (bv3.block nx h2.2.1)).trans h2.1.1, (World.cell?_of_block (bv3.block nx h2.2.1)).trans h2.1.2.1, (World.cell?_of_block (bv3.block nx h2.2.1)).trans h2.1.2.2⟩, Nat.lt_of_lt_of_le h2.2.1 bv3.size, h2.2.2.trans (bv3.mono h2.2.1)⟩ (fun h3 => ?_)
      clear hK K
      ((try simp only); (try simp only [List.getElem_toArray]); (try simp only [List.getElem_cons_succ]); (try simp only [List.getElem_cons_zero]); (try simp only [Act.put]); (try simp only [List.setIfInBounds_toArray]); (try simp only [List.set_cons_succ]); (try simp only [List.set_cons_zero]))
      refine wpAnyH_take (i := 16) (v := ?_) rfl (by kernel_rfl) (by kernel_rfl) (by kernel_rfl) (fun _ _ _ h => h) (Or.inl ⟨by rfl, ?_⟩) h3 ?_
      case refine_2 => (intro w hSw; (try dsimp only at hSw); obtain ⟨⟨k0, k1, k2⟩, _⟩ := hSw; go_simp; (try rw [if_neg (not_big (by omega))]); try (with_reducible rfl))
      ((try simp only); (try simp only [List.getElem_toArray]); (try simp only [List.getElem_cons_succ]); (try simp only [List.getElem_cons_zero]); (try simp only [Act.put]); (try simp only [List.setIfInBounds_toArray]); (try simp only [List.set_cons_succ]); (try simp only [List.set_cons_zero]))
      refine wpAnyH_take (i := 17) (v := ?_) rfl (by kernel_rfl) (by kernel_rfl) (by kernel_rfl) (fun _ _ _ h => h) (Or.inl ⟨by rfl, ?_⟩) h3 ?_
      case refine_2 => (intro w hSw; (try dsimp only at hSw); obtain ⟨⟨k0, k1, k2⟩, _⟩ := hSw; go_simp; (try rw [if_neg (not_big (by omega))]); try (with_reducible rfl))
      ((try simp only); (try simp only [List.getElem_toArray]); (try simp only [List.getElem_cons_succ]); (try simp only [List.getElem_cons_zero]); (try simp only [Act.put]); (try simp only [List.setIfInBounds_toArray]); (try simp only [List.set_cons_succ]); (try simp only [List.set_cons_zero]))
      refine wpAnyH_done (by kernel_rfl) ?_ _
      refine NoPanic.normal ?_
      have HUV : Hid (HasU v3 w.heap.size ⟨(g : Int), (rt : Int), (x : Int), (c : Int), l⟩ (.slice (some ⟨ga, oa, none⟩) N cap)) := UV.below h3.2.2 (by omega)
      have HBV : Hid (Below w.heap.size w v3) := BV.trans (h3.2.2.mono (by omega))
      clear UV BV h1 h2 h3 hHeld bv1 bv2 bv3 kx0 kx1 kx2
      go_wp2
      go_round
      case rel => exact ⟨k + 1, by omega, by go_num, by rw [← HC.out], HUV.out, HBV.out⟩
      case measure => simp [intOf]; omega
    · have e : k = N := by omega
      subst e
      go_wp2
      go_ret
      exact ⟨by rw [HN1.out, List.take_length, HEH.out]; rfl, BW⟩
end Go.Proofs.Ytbjnbobohkjhiaa
