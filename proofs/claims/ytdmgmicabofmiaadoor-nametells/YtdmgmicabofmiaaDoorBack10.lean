/- Split and Join are each other's. -/
import Derived.Test.YtdmgmicabofmiaaDoorNaG
namespace Go.Proofs.YtdmgmicabofmiaaDoor
set_option linter.unusedVariables false
open Go.RowKit

theorem joinB_ge : ∀ l : List (List UInt8), l.length ≤ (joinB l).length
  | [] => Nat.le_refl _
  | n :: l => by
    have := joinB_ge l
    simp only [joinB, List.flatMap_cons, List.length_cons, List.length_append] at *
    omega
theorem split_len {L : List UInt8} {l : List ByteArray} (h : splitP L = some (bl l)) : l.length ≤ 200 := by
  rcases splitP_some h with ⟨_, h1⟩ | ⟨_, h1, h2, _⟩
  · have := congrArg List.length h1
    simp [bl] at this
    simp [this]
  · have := joinB_ge (bl l)
    rw [← h1] at this
    simp only [bl, List.length_map] at this
    omega
set_option maxRecDepth 1000000 in
set_option maxHeartbeats 4000000 in
theorem nameBack_walk (w : World) (s : ByteArray) (v : Value) (l : List ByteArray) (hv : Sl encS w v l) :
    Calls Tryd.prog 4 #[.string s, v] w fun e w' => e = .returned (.bool true) ∧ Below w.heap.size w w' := by
  obtain ⟨k, hk1, hk2, hk3⟩ := cut_text s 300 300 rfl
  obtain ⟨ad, cap, rfl, hcap, hmax, _, _⟩ := id hv
  obtain ⟨m, hm1, hm2, hm4, hm5⟩ := cut_list l.length 30 30 rfl
  have hm6 : (m : Int) ≤ (cap : Int) := by omega
  have hM : Sl encS w (.slice ad m cap) (l.take m) := SlB.take hv m hm4
  have hMl : (l.take m).length ≤ 30 := by simp; omega
  clear hv
  go_enter Tryd.func4, Tryd.ntmps4
  go_wp2_with fail
  refine (shown_calls w).mono ?_
  rintro e w1 ⟨rfl, b1⟩
  go_wp2_with fail
  generalize s.extract 0 k = S at *
  generalize l.take m = M at *
  clear hk1 hk2 hm1 hm2 hm4 hm5 hm6 hcap hmax hk3
  refine (split_calls S w1).mono ?_
  rintro e w2 ⟨b2, ⟨nv, a, rfl, hn, hs⟩ | ⟨rfl, hs⟩⟩
  · have hal := split_len hs
    have B2 := b1.trans (b2.mono b1.size)
    clear b1 b2
    obtain ⟨ad1, cap1, rfl, hcap1, hmax1, _, _⟩ := id hn
    go_wp2_with fail
    refine (join_calls _ a w2 (by omega) hn).mono ?_
    rintro e w3 ⟨b3, ⟨p, rfl, hp⟩ | ⟨rfl, hp⟩⟩
    rotate_left
    · exact absurd (hp.symm.trans (split_join hs)) (by simp)
    have B3 := B2.trans (b3.mono B2.size)
    have hpS : p = S := bl_inj (Option.some.inj (hp.symm.trans (split_join hs)))
    subst hpS
    have hn3 := Sl.called hn b3
    have HI : Hid (∀ i (hi : i < a.length), ∃ g off, ad1 = some ⟨g, off, none⟩ ∧ g < w3.heap.size ∧ w3.cell? ⟨g, off + i, none⟩ = some (.string a[i])) := fun i hi => sl_cell hn3 i hi
    have HR : Hid (∀ i (hi : i < a.length), rightP a[i].data.toList = true) := fun i hi => split_right hs _ (List.mem_map_of_mem (List.getElem_mem hi))
    clear hn hn3 hp hs b3 B2 hmax1
    obtain ⟨N, hN⟩ : ∃ N, a.length = N := ⟨_, rfl⟩
    have HN : Hid (a.length = N) := hN
    rw [hN] at hcap1 hal ⊢
    clear hN
    go_wp2_with fail
    go_loopg [10] N (fun g i wr => ∃ j : Nat, j + g = N ∧ i = .int .i64 (j : Int) ∧ Hid (Below w3.heap.size w3 wr))
    case atStart => exact ⟨0, by omega, rfl, Below.refl _ _⟩
    case round =>
      obtain ⟨j, hjg, rfl, HW⟩ := hrel
      cases gk with
      | zero =>
        have hjN : j = N := by omega
        subst hjN
        have B4 : Below w.heap.size w wr := B3.trans (HW.out.mono B3.size)
        clear HI HR HN HW hjg
        generalize wr = W at *
        have hm3 : Sl encS W (.slice ad m cap) M := Sl.called hM B4
        go_wp2_with fail
        refine (join_calls _ M W (by omega) hm3).mono ?_
        rintro e y1 ⟨c1, ⟨p, rfl, hp⟩ | ⟨rfl, hp⟩⟩
        · have C1 := B4.trans (c1.mono B4.size)
          have HP := join_split hp
          have hpl : (p.size : Int) ≤ 200 := by have := HP.2; rw [toList_size] at this; omega
          have HPS : Hid (splitP p.data.toList = some (bl M)) := HP.1
          clear HP hp
          go_wp2_with fail
          refine (split_calls p y1).mono ?_
          rintro e y2 ⟨c2, ⟨u, b, rfl, hu, hs2⟩ | ⟨rfl, hs2⟩⟩
          · have hb : b = M := bl_eq (Option.some.inj (hs2.symm.trans HPS.out))
            subst hb
            have C2 := C1.trans (c2.mono C1.size)
            have c3 := same_calls _ _ b b y2 hu (Sl.called (Sl.called hm3 c1) c2) (by omega)
            rw [decide_eq_true rfl] at c3
            clear hs2 HPS hu hm3 hM
            go_wp2_with (go_at_call 16; refine c3.mono ?_; rintro e y3 ⟨rfl, d3⟩; clear c3)
            go_ret
            exact ⟨by simp, C2.trans (d3.mono C2.size)⟩
          · exact absurd (hs2.symm.trans HPS.out) (by simp)
        · have C1 := B4.trans (c1.mono B4.size)
          go_wp2_with fail
          go_ret
          exact ⟨rfl, C1⟩
      | succ g =>
        have hjI : (j : Int) < (N : Int) := by omega
        have hj0 : (0 : Int) ≤ (j : Int) := by omega
        have hjl : j < a.length := by have := HN.out; omega
        obtain ⟨g1, off, rfl, hg1, hcell⟩ := HI.out j hjl
        have hc2 : wr.cell? ⟨g1, off + j, none⟩ = some (.string a[j]) := (World.cell?_of_block (HW.out.block g1 hg1)).trans hcell
        have c3 := right_calls a[j] wr
        rw [HR.out j hjl] at c3
        have hw64 : wrap64 ((j : Int) + 1) = ((j + 1 : Nat) : Int) := by rw [wrap64_ok (by omega) (by omega)]; omega
        generalize a[j] = x at *
        clear hcell hjl HR HI
        go_wp2_with (go_at_call 14; refine c3.mono ?_; rintro e w5 ⟨rfl, b5⟩; clear c3)
        go_roundg g
        case measure => omega
        case rel => exact ⟨j + 1, by omega, rfl, HW.out.trans (b5.mono HW.out.size)⟩
  · have B2 := b1.trans (b2.mono b1.size)
    clear b1 b2 hs
    go_wp2_with fail
    have hm3 : Sl encS w2 (.slice ad m cap) M := Sl.called hM B2
    go_wp2_with fail
    refine (join_calls _ M w2 (by omega) hm3).mono ?_
    rintro e y1 ⟨c1, ⟨p, rfl, hp⟩ | ⟨rfl, hp⟩⟩
    · have C1 := B2.trans (c1.mono B2.size)
      have HP := join_split hp
      have hpl : (p.size : Int) ≤ 200 := by have := HP.2; rw [toList_size] at this; omega
      have HPS : Hid (splitP p.data.toList = some (bl M)) := HP.1
      clear HP hp
      go_wp2_with fail
      refine (split_calls p y1).mono ?_
      rintro e y2 ⟨c2, ⟨u, b, rfl, hu, hs2⟩ | ⟨rfl, hs2⟩⟩
      · have hb : b = M := bl_eq (Option.some.inj (hs2.symm.trans HPS.out))
        subst hb
        have C2 := C1.trans (c2.mono C1.size)
        have c3 := same_calls _ _ b b y2 hu (Sl.called (Sl.called hm3 c1) c2) (by omega)
        rw [decide_eq_true rfl] at c3
        clear hs2 HPS hu hm3 hM
        go_wp2_with (go_at_call 16; refine c3.mono ?_; rintro e y3 ⟨rfl, d3⟩; clear c3)
        go_ret
        exact ⟨by simp, C2.trans (d3.mono C2.size)⟩
      · exact absurd (hs2.symm.trans HPS.out) (by simp)
    · have C1 := B2.trans (c1.mono B2.size)
      go_wp2_with fail
      go_ret
      exact ⟨rfl, C1⟩
end Go.Proofs.YtdmgmicabofmiaaDoor
