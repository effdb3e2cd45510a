import Derived.Test.YtgicanpggndbeaaGreatSi
import Derived.Test.YtgicanpggndbeaaGreatB50
import Derived.Test.YtgicanpggndbeaaGreatB45
import Derived.Deep.QuietTactic
import Derived.BigQuiet
import Derived.Deep.CutBlock
import Derived.Deep.DeepCutAuto
/- DirHolds. -/
namespace Go.Proofs.YtgicanpggndbeaaGreat
set_option linter.unusedVariables false
set_option maxRecDepth 100000
open Go.RowKit

theorem HoR.forget {w y : World} {q m m' : Nat} {C : List Ch} {v5 v6 v7 v8 : Value} {l5 : List (List UInt8)} {l6 l7 : List Int} {l8 : List (List UInt8)} (h : HoR w q m C v5 v6 v7 v8 l5 l6 l7 l8 y) (hm : m ≤ m') : HoR w q m' C v5 v6 v7 (.slice none 0 0) l5 l6 l7 [] y := by
  obtain ⟨d, h1, h2, h3, h4, -, -⟩ := h.ex
  exact ⟨d, h1, h2, by omega, h4, Own.nil _ _ _ _, (fun g hg => by cases hg)⟩
set_option maxRecDepth 100000 in
set_option maxHeartbeats 32000000 in
theorem dirHolds_walk (w : World) (u : Value) (ops : List Do) (h : Sl encDo w u ops) :
    Calls Tryz.prog 4 #[u] w fun e w' => e = .returned (.bool true) ∧ Below w.heap.size w w' := by
  have hsh := shown14_calls w
  obtain ⟨ad, cap, rfl, hcap, hmax, -, -⟩ := id h
  have HI : Hid (∀ i (hi : i < ops.length), ∃ g off, ad = some ⟨g, off, none⟩ ∧ g < w.heap.size ∧ w.rangeAt g (off + i * 29) (encDo.c ops[i])) := fun i hi => SlB.at h i hi
  obtain ⟨N, hN⟩ : ∃ N : Nat, N = ops.length := ⟨_, rfl⟩
  rw [← hN] at hcap hmax ⊢
  have HN : Hid (N = ops.length) := hN
  obtain ⟨M, hM⟩ : ∃ M : Nat, M = min N 40 := ⟨_, rfl⟩
  have HM : Hid (M = min N 40) := hM
  clear h hN hM
  go_enter Tryz.func4, Tryz.ntmps4
  go_upto_region 2 with (go_at_call 7; refine hsh.mono ?_; clear hsh; rintro e y0 ⟨rfl, b1⟩)
  have hN1 := nvNew_calls w y0 b1
  clear b1
  go_upto_region 3 with (go_at_call 8; refine hN1.mono ?_; clear hN1; rintro e y1 ⟨d1, rfl, A1, v1, n1, f1, b1⟩)
  obtain ⟨q, hq⟩ : ∃ q, q = d1.q := ⟨_, rfl⟩
  rw [← hq]
  have HS : Hid (HoR w q 0 [] (.slice none 0 0) (.slice none 0 0) (.slice none 0 0) (.slice none 0 0) [] [] [] [] y1) := HoR.start A1 hq v1 n1
  clear A1 v1 n1 f1 b1 hq
  go_upto_block 0 with fail
  go_cut [5, 6, 7] (fun s5 s6 s7 wc => ∃ (T : List Tr) (C : List Ch), Hid (Ho C T ∧ T.length ≤ 40 ∧ HoR w q (160) C s5 s6 s7 (.slice none 0 0) (T.map Tr.s) (T.map Tr.d) (T.map Tr.i) [] wc))
  case rest =>
    obtain ⟨T, C, HE⟩ := hcut
    clear HI HN HM HS hcap hmax
    have HT : Hid (Ho C T ∧ T.length ≤ 40) := ⟨HE.out.1, HE.out.2.1⟩
    obtain ⟨NT, hNT⟩ : ∃ NT : Nat, NT = T.length := ⟨_, rfl⟩
    have HNT : Hid (NT = T.length) := hNT
    obtain ⟨ad5, cap5, rfl⟩ := own_formN HE.out.2.2.owns.1 (n := NT) (by rw [List.length_map, hNT])
    obtain ⟨ad6, cap6, rfl⟩ := own_formN HE.out.2.2.owns.2.1 (n := NT) (by rw [List.length_map, hNT])
    obtain ⟨ad7, cap7, rfl⟩ := own_formN HE.out.2.2.owns.2.2.1 (n := NT) (by rw [List.length_map, hNT])
    have HS2 : Hid (HoR w q (160 + 0 * 400) C (.slice ad5 NT cap5) (.slice ad6 NT cap6) (.slice ad7 NT cap7) (.slice none 0 0) (T.map Tr.s) (T.map Tr.d) (T.map Tr.i) [] wc) := HE.out.2.2
    clear HE hNT
    go_wp2_with fail
    go_loopg [15] 2 (fun g3 dv wr => ∃ dn : Nat, dn + g3 = 2 ∧ dv = .int .i64 ((dn + 1 : Nat) : Int) ∧ Hid (HoR w q (160 + dn * 400) C (.slice ad5 NT cap5) (.slice ad6 NT cap6) (.slice ad7 NT cap7) (.slice none 0 0) (T.map Tr.s) (T.map Tr.d) (T.map Tr.i) [] wr))
    case atStart => exact ⟨0, by omega, rfl, HS2.out⟩
    case round =>
      clear HS2
      obtain ⟨dn, hdn, rfl, HE⟩ := hrel
      cases gk with
      | zero =>
        have hd2 : ¬ ((dn + 1 : Nat) : Int) ≤ 2 := by omega
        go_wp2_with fail
        go_ret
        exact ⟨rfl, HE.out.bel⟩
      | succ g3 =>
        obtain ⟨D, hD⟩ : ∃ D : Int, D = ((dn + 1 : Nat) : Int) := ⟨_, rfl⟩
        have hD2 : D ≤ 2 := by omega
        have hD1 : (1 : Int) ≤ D := by omega
        rw [← hD]
        have HD : Hid (okN D = true ∧ D + 1 = ((dn + 1 + 1 : Nat) : Int) ∧ dn ≤ 2) := ⟨okN_of hD1 (by omega), (show _ = _ by omega), by omega⟩
        have hlen := HT.out.1.lives_len HD.out.1
        obtain ⟨NL, hNL⟩ : ∃ NL : Nat, NL = (lives C (entriesS D)).length := ⟨_, rfl⟩
        have hN40 : NL ≤ 40 := by
          rw [hNL, hlen]
          have h1 : cntT D T ≤ T.length := List.length_filter_le _ _
          have h2 := HT.out.2
          omega
        have h1 := HE.out.list (by have := HD.out.2.2; omega) HD.out.1 HT.out.1.asc (HT.out.1.good HD.out.1) (by omega)
        have h2 := fun (y : World) (v8 : Value) (l8 : List (List UInt8)) (m : Nat) (hm : m ≤ 3000) (hR : HoR w q (m) C (.slice ad5 NT cap5) (.slice ad6 NT cap6) (.slice ad7 NT cap7) v8 (T.map Tr.s) (T.map Tr.d) (T.map Tr.i) l8 y) => hR.empty hm HD.out.1 HT.out.1.asc (by omega)
        rw [← hNL] at h1
        simp only [← hNL] at h2
        obtain ⟨L, hL⟩ : ∃ L, L = namesL (lives C (entriesS D)) := ⟨_, rfl⟩
        rw [← hL] at h1
        have HL : Hid (L = namesL (lives C (entriesS D)) ∧ NL = cntT D T ∧ L.length = NL ∧ NL ≤ 40) := ⟨hL, hNL.trans hlen, (show _ = _ by rw [hL, hNL]; unfold namesL; rw [List.length_map]), hN40⟩
        clear HE hlen hL hD
        clear hNL
        go_upto_region 37 with (go_at_call 14; refine h1.mono ?_; clear h1; rintro e z1 ⟨adL, capL, rfl, R1⟩)
        have h3 := h2 z1 _ _ _ (by have := HD.out.2.2; omega) R1
        clear h2 R1
        go_upto_region 38 with (go_at_call 17; refine h3.mono ?_; clear h3; rintro e z2 ⟨rfl, R2⟩)
        have HR2 : Hid (HoR w q (160 + dn * 400 + 4 + 4) C (.slice ad5 NT cap5) (.slice ad6 NT cap6) (.slice ad7 NT cap7) (.slice adL NL capL) (T.map Tr.s) (T.map Tr.d) (T.map Tr.i) L z2) := R2
        have hc0 : cntT D (T.take 0) = 0 := rfl
        clear R2
        go_wp2_with fail
        go_loopg [20, 21] NT (fun g4 cn k wr => ∃ jj : Nat, jj + g4 = NT ∧ k = .int .i64 (jj : Int) ∧ cn = .int .i64 ((cntT D (T.take jj) : Nat) : Int) ∧ Hid (HoR w q (160 + dn * 400 + 4 + 4 + 4 * jj) C (.slice ad5 NT cap5) (.slice ad6 NT cap6) (.slice ad7 NT cap7) (.slice adL NL capL) (T.map Tr.s) (T.map Tr.d) (T.map Tr.i) L wr))
        case atStart => exact ⟨0, by omega, rfl, by rw [hc0]; rfl, HR2.out⟩
        case round =>
          clear HR2 hc0
          obtain ⟨jj, hjj, rfl, rfl, HY⟩ := hrel
          cases gk with
          | zero =>
            have hjN : jj = NT := by omega
            have hcn : cntT D (T.take jj) = NL := by rw [List.take_of_length_le (by have := HNT.out; omega)]; exact HL.out.2.1.symm
            rw [hcn]
            have hnl : ¬ (jj : Int) < (NT : Int) := by omega
            obtain ⟨N1, hN1⟩ : ∃ N1 : Nat, N1 = NL - 1 := ⟨_, rfl⟩
            clear hcn
            go_wp2_with fail
            go_loopg [27] N1 (fun g6 i wr => ∃ r : Nat, r + g6 = N1 ∧ i = .int .i64 ((r + 1 : Nat) : Int) ∧ Hid (HoR w q (160 + dn * 400 + 4 + 4 + 4 * jj) C (.slice ad5 NT cap5) (.slice ad6 NT cap6) (.slice ad7 NT cap7) (.slice adL NL capL) (T.map Tr.s) (T.map Tr.d) (T.map Tr.i) L wr))
            case atStart => exact ⟨0, by omega, rfl, HY.out⟩
            case round =>
              clear HY
              obtain ⟨r, hr, rfl, HU⟩ := hrel
              cases gk with
              | zero =>
                have hrN : ¬ ((r + 1 : Nat) : Int) < (NL : Int) := by omega
                have hz : ((NL : Int) == 0) = decide (NL = 0) := by
                  by_cases h : NL = 0
                  · subst h; rfl
                  · rw [decide_eq_false h]; simp; omega
                generalize decide (NL = 0) = bz at *
                go_wp2_with fail
                go_roundg g3
                case measure => omega
                exact ⟨dn + 1, by omega, by simp [HD.out.2.1], HU.out.forget (by have := HNT.out; have := HT.out.2; omega)⟩
              | succ g6 =>
                have hrl : r + 1 < L.length := by have := HL.out.2.2.1; omega
                obtain ⟨gl, rfl⟩ := own_ad HU.out.owns.2.2.2 (by omega)
                have c1 : wr.cell? ⟨gl, r, none⟩ = some (.string (str L[r])) := own_at1 HU.out.owns.2.2.2 r (by omega) rfl
                have c2 : wr.cell? ⟨gl, r + 1, none⟩ = some (.string (str L[r + 1])) := own_at1 HU.out.owns.2.2.2 (r + 1) hrl rfl
                have hls : Op.bytesLess (str L[r]).toList (str L[r + 1]).toList = true := by
                  rw [str_toList, str_toList]
                  have h1 := HT.out.1.rise HD.out.1
                  rw [← HL.out.1] at h1
                  exact List.pairwise_iff_getElem.1 h1 r (r + 1) (by omega) hrl (by omega)
                generalize L[r] = sa at *
                generalize L[r + 1] = sb at *
                have hrI : ((r + 1 : Nat) : Int) < (NL : Int) := by have := HL.out.2.2.1; omega
                have hsub : ((r + 1 : Nat) : Int) - 1 = (r : Int) := by omega
                have hj0 : (0 : Int) ≤ (r : Int) := by omega
                have hj1 : (0 : Int) ≤ ((r + 1 : Nat) : Int) := by omega
                have hjI : (r : Int) < (NL : Int) := by omega
                have hjw : IntKind.i64.wrap (((r + 1 : Nat) : Int) - 1) = (r : Int) := by rw [IntKind.wrap_i64]; have := HL.out.2.2.2; omega
                have hj2 : (((r + 1 : Nat) : Int)).toNat = r + 1 := by omega
                have hjw2 : IntKind.i64.wrap (r : Int) = (r : Int) := by rw [IntKind.wrap_i64]; have := HL.out.2.2.2; omega
                have hlt2 : (r : Int) + 1 < (NL : Int) := by omega
                have hj02 : (0 : Int) ≤ (r : Int) + 1 := by omega
                have hjt2 : ((r : Int) + 1).toNat = r + 1 := by omega
                clear hrl
                go_upto_region 56 with fail
                go_quiet (fail)
                go_wp2_with fail
                go_roundg g6
                case measure => omega
                exact ⟨r + 1, by omega, by simp, HU.out.called (below_drewN (Below.refl _ _) _)⟩
          | succ g4 =>
            have hjT : jj < T.length := by have := HNT.out; omega
            have hjI2 : (jj : Int) < (NT : Int) := by omega
            have hjj0 : (0 : Int) ≤ (jj : Int) := by omega
            have hjjb : (jj : Int) ≤ 100 := by have := HNT.out; have := HT.out.2; omega
            obtain ⟨g5, rfl⟩ := own_ad HY.out.owns.1 (by rw [List.length_map]; omega)
            obtain ⟨g6, rfl⟩ := own_ad HY.out.owns.2.1 (by rw [List.length_map]; omega)
            obtain ⟨g7, rfl⟩ := own_ad HY.out.owns.2.2.1 (by rw [List.length_map]; omega)
            have HC5 : Hid (∀ (y : World) (m : Nat) (v6 v7 v8 : Value) (l6 l7 : List Int) (l8 : List (List UInt8)), HoR w q m C (.slice (some ⟨g5, 0, none⟩) NT cap5) v6 v7 v8 (T.map Tr.s) l6 l7 l8 y → y.cell? ⟨g5, jj, none⟩ = some (.string (str (T[jj]).s))) := fun y m v6 v7 v8 l6 l7 l8 h => own_at1 h.owns.1 jj (by rw [List.length_map]; omega) (by rw [List.getElem_map]; rfl)
            have HC7 : Hid (∀ (y : World) (m : Nat) (v5 v6 v8 : Value) (l5 l8 : List (List UInt8)) (l6 : List Int), HoR w q m C v5 v6 (.slice (some ⟨g7, 0, none⟩) NT cap7) v8 l5 l6 (T.map Tr.i) l8 y → y.cell? ⟨g7, jj, none⟩ = some (.int .i64 (T[jj]).i)) := fun y m v5 v6 v8 l5 l8 l6 h => own_at1 h.owns.2.2.1 jj (by rw [List.length_map]; omega) (by rw [List.getElem_map]; rfl)
            have c6 : wr.cell? ⟨g6, jj, none⟩ = some (.int .i64 (T[jj]).d) := own_at1 HY.out.owns.2.1 jj (by rw [List.length_map]; omega) (by rw [List.getElem_map]; rfl)
            have hmem : T[jj] ∈ T := List.getElem_mem hjT
            have HCN : Hid (cntT D (T.take (jj + 1)) = cntT D (T.take jj) + if (T[jj]).d = D ∧ (T[jj]).i ≠ 0 then 1 else 0) := cntT_step D T hjT
            have hcb : cntT D (T.take jj) ≤ 40 := by
              have h1 : cntT D (T.take jj) ≤ (T.take jj).length := List.length_filter_le _ _
              rw [List.length_take] at h1
              have := HT.out.2
              omega
            have HMEM : Hid (T[jj] ∈ T) := hmem
            generalize T[jj] = tt at *
            generalize cntT D (T.take jj) = cn at *
            clear hjT hmem
            by_cases hd : tt.d = D
            · have hgot : ∀ o, NmIs (getV C (plGe []) (ekz D tt.s)).1 o → findR (getV C (plGe []) (ekz D tt.s)) o = (tt.i, decide (tt.i ≠ 0), 0) := by rw [← hd]; exact fun o ho => HT.out.1.got HMEM.out ho
              have HGOT : Hid (∀ o, NmIs (getV C (plGe []) (ekz D tt.s)).1 o → findR (getV C (plGe []) (ekz D tt.s)) o = (tt.i, decide (tt.i ≠ 0), 0)) := hgot
              have HLI : Hid (L.any (fun a => (str a).toList == (str tt.s).toList) = decide (tt.i ≠ 0)) := (show _ = _ by have := listed_any HT.out.1 HMEM.out; rw [hd, ← HL.out.1] at this; exact this)
              have hok := HT.out.1.ok _ HMEM.out
              have HOK : Hid (tt.i = 0 ∨ okNum tt.i = true) := hok.i
              have h1 := HY.out.find (by have := HD.out.2.2; omega) HD.out.1 hok.s
              have c5 := HC5.out _ _ _ _ _ _ _ _ HY.out
              rw [hd] at c6
              have HDD : Hid (tt.d = D) := hd
              clear hgot hok hd
              go_upto_region 44 with (go_at_call 21; refine h1.mono ?_; clear h1; rintro e z3 ⟨⟨o, ho, rfl⟩, R3⟩)
              rw [HGOT.out o ho]
              clear ho c5 c6
              have HR3 : Hid (HoR w q (160 + dn * 400 + 4 + 4 + 4 * jj + 4) C (.slice (some ⟨g5, 0, none⟩) NT cap5) (.slice (some ⟨g6, 0, none⟩) NT cap6) (.slice (some ⟨g7, 0, none⟩) NT cap7) (.slice adL NL capL) (T.map Tr.s) (T.map Tr.d) (T.map Tr.i) L z3) := R3
              clear R3 HY
              go_wp2_with fail
              go_loopg [25, 26] NL (fun g5x ls i wr => ∃ (r : Nat) (bl : Bool), r + g5x = NL ∧ i = .int .i64 (r : Int) ∧ ls = .bool bl ∧ Hid (bl = (L.take r).any (fun a => (str a).toList == (str tt.s).toList) ∧ HoR w q (160 + dn * 400 + 4 + 4 + 4 * jj + 4) C (.slice (some ⟨g5, 0, none⟩) NT cap5) (.slice (some ⟨g6, 0, none⟩) NT cap6) (.slice (some ⟨g7, 0, none⟩) NT cap7) (.slice adL NL capL) (T.map Tr.s) (T.map Tr.d) (T.map Tr.i) L wr))
              case atStart => exact ⟨0, false, by omega, rfl, rfl, rfl, HR3.out⟩
              case round =>
                clear HR3
                obtain ⟨r, bl, hr, rfl, rfl, HU⟩ := hrel
                cases gk with
                | zero =>
                  have hrn : ¬ (r : Int) < (NL : Int) := by omega
                  have hbl : bl = decide (tt.i ≠ 0) := by rw [HU.out.1, List.take_of_length_le (by have := HL.out.2.2.1; omega)]; exact HLI.out
                  subst hbl
                  have c7 := HC7.out _ _ _ _ _ _ _ _ HU.out.2
                  generalize tt.i = ti at *
                  by_cases hti : ti = 0
                  · subst hti
                    have HCN2 : Hid (cntT D (T.take (jj + 1)) = cn) := (show _ = _ by rw [HCN.out, if_neg (fun h => h.2 rfl)]; rfl)
                    rw [show decide ((0 : Int) ≠ 0) = false from rfl]
                    go_wp2_with fail
                    go_roundg g4
                    case measure => omega
                    exact ⟨jj + 1, by omega, by simp, by rw [HCN2.out], HU.out.2.more (by omega)⟩
                  · have hpos : (0 : Int) < ti := by
                      rcases HOK.out with h | h
                      · exact absurd h hti
                      · unfold okNum at h
                        simp at h
                        omega
                    have HCN2 : Hid (cntT D (T.take (jj + 1)) = cn + 1) := (show _ = _ by rw [HCN.out, if_pos ⟨HDD.out, hti⟩])
                    rw [decide_eq_true hti]
                    have hcI : (cn : Int) ≤ 40 := by omega
                    have hcI0 : (0 : Int) ≤ (cn : Int) := by omega
                    go_wp2_with fail
                    go_roundg g4
                    case measure => omega
                    exact ⟨jj + 1, by omega, by simp, by rw [HCN2.out]; simp, HU.out.2.more (by omega)⟩
                | succ g5x =>
                  have hrl : r < L.length := by have := HL.out.2.2.1; omega
                  obtain ⟨gl, rfl⟩ := own_ad HU.out.2.owns.2.2.2 (by omega)
                  have c8 : wr.cell? ⟨gl, r, none⟩ = some (.string (str L[r])) := own_at1 HU.out.2.owns.2.2.2 r hrl rfl
                  have c5 := HC5.out _ _ _ _ _ _ _ _ HU.out.2
                  have HLS : Hid ((L.take (r + 1)).any (fun a => (str a).toList == (str tt.s).toList) = (bl || (str L[r]).toList == (str tt.s).toList)) := (show _ = _ by rw [List.take_succ_eq_append_getElem hrl, List.any_append, ← HU.out.1]; simp)
                  generalize L[r] = sa at *
                  have hrI : (r : Int) < (NL : Int) := by omega
                  have hr0 : (0 : Int) ≤ (r : Int) := by omega
                  have hrb : (r : Int) ≤ 100 := by have := HL.out.2.2.2; omega
                  clear hrl
                  cases bl with
                  | true =>
                    go_upto_region 48 with fail
                    go_quiet (fail)
                    go_wp2_with fail
                    go_roundg g5x
                    case measure => omega
                    exact ⟨r + 1, true, by omega, by simp, rfl, by rw [HLS.out]; rfl, HU.out.2.called (below_drewN (Below.refl _ _) _)⟩
                  | false =>
                    go_upto_region 48 with fail
                    go_quiet (fail)
                    go_wp2_with fail
                    go_roundg g5x
                    case measure => omega
                    exact ⟨r + 1, _, by omega, by simp, rfl, by rw [HLS.out]; rfl, HU.out.2.called (below_drewN (Below.refl _ _) _)⟩
            · have HCN2 : Hid (cntT D (T.take (jj + 1)) = cn) := (show _ = _ by rw [HCN.out, if_neg (fun h => hd h.1)]; rfl)
              have hdb : (tt.d == D) = false := by simpa using hd
              go_wp2_with fail
              go_roundg g4
              case measure => omega
              exact ⟨jj + 1, by omega, by simp, by rw [HCN2.out], HY.out.more (by omega)⟩
  case first =>
   go_wp2_with fail
   go_loopg [5, 6, 7, 8] M (fun gg s5 s6 s7 i wr => ∃ (j : Nat) (T : List Tr) (C : List Ch), j + gg = M ∧ i = .int .i64 (j : Int) ∧ Hid (Ho C T ∧ T.length ≤ j ∧ HoR w q (4 * j) C s5 s6 s7 (.slice none 0 0) (T.map Tr.s) (T.map Tr.d) (T.map Tr.i) [] wr))
   case atStart => exact ⟨0, [], [], by omega, rfl, Ho.start, Nat.le_refl _, HS.out⟩
   case round =>
    clear HS
    obtain ⟨j, T, C, hjg, rfl, HE⟩ := hrel
    cases gk with
    | zero =>
      have hjM : j = M := by omega
      have HJ : Hid (j ≤ 40) := (show _ ≤ _ by have := HM.out; omega)
      by_cases hjN : j < N
      · have hjI : (j : Int) < (N : Int) := by omega
        have hj40 : ¬ (j : Int) < 40 := by have := HM.out; omega
        clear hjM hjN
        go_wp2_with fail
        go_meet
        case rel => exact ⟨T, C, HE.out.1, by have := HE.out.2.1; have := HJ.out; omega, HE.out.2.2.more (by have := HJ.out; omega)⟩
      · have hjI : ¬ (j : Int) < (N : Int) := by omega
        clear hjM hjN
        go_wp2_with fail
        go_meet
        case rel => exact ⟨T, C, HE.out.1, by have := HE.out.2.1; have := HJ.out; omega, HE.out.2.2.more (by have := HJ.out; omega)⟩
    | succ gg =>
      have hjI : (j : Int) < (N : Int) := by have := HM.out; omega
      have hj40 : (j : Int) < 40 := by have := HM.out; omega
      have hj0 : (0 : Int) ≤ (j : Int) := by omega
      have hjl : j < ops.length := by have := HN.out; omega
      obtain ⟨g, off, rfl, hg, hat⟩ := HI.out j hjl
      generalize ops[j] = o at *
      have HAT : Hid (∀ yy : World, Below w.heap.size w yy → yy.rangeAt g (off + j * 29) (encDo.c o)) := fun yy hb => range_same' hat (hb.block g hg)
      have HCS : Hid (∀ yy : World, yy.rangeAt g (off + j * 29) (encDo.c o) → yy.cell? ⟨g, off + j * 29 + 3, none⟩ = some (.string (str o.s))) := fun yy hh => range_dStr hh
      have hcut := str_cut40 o.s
      have hm0 : (0 : Int) ≤ min ((str o.s).size : Int) 40 := by omega
      have hm1 : min ((str o.s).size : Int) 40 ≤ ((str o.s).size : Int) := by omega
      clear hat hg hjl HI
      go_upto_region 11 with fail
      have HT : Hid (Ho C T ∧ T.length ≤ j) := ⟨HE.out.1, HE.out.2.1⟩
      have HRD : Hid (HoR w q (4 * j) C u5 u6 u7 (.slice none 0 0) (T.map Tr.s) (T.map Tr.d) (T.map Tr.i) [] wr.drew) := HE.out.2.2.called ⟨rfl, rfl, rfl, Nat.le_refl _, fun _ _ => rfl⟩
      have HBD : Hid (Below w.heap.size w wr.drew) := HRD.out.bel
      clear HE
      refine wp_region_noPanic ?_
      refine wp_region_held_drew (S := (fun yy => yy.rangeAt g (off + j * 29) (encDo.c o))) (by kernel_rfl) (HAT.out _ HBD.out) (fun hHeld => ?_)
      refine wpAnyH_take (i := 0) (v := ?_) rfl (by kernel_rfl) (by kernel_rfl) (by kernel_rfl) (fun _ _ _ h => h) (Or.inl ⟨by rfl, ?_⟩) hHeld ?_
      case refine_2 => (intro w hSw; (try dsimp only at hSw); go_simp; try (with_reducible rfl))
      (try simp only [gs])
      refine wpAnyH_take (i := 1) (v := ?_) rfl (by kernel_rfl) (by kernel_rfl) (by kernel_rfl) (fun _ _ _ h => h) (Or.inl ⟨by rfl, ?_⟩) hHeld ?_
      case refine_2 => (intro w hSw; (try dsimp only at hSw); go_simp; try (with_reducible rfl))
      (try simp only [gs])
      refine wpAnyH_take (i := 2) (v := ?_) rfl (by kernel_rfl) (by kernel_rfl) (by kernel_rfl) (fun _ _ _ h => h) (Or.inl ⟨by rfl, ?_⟩) hHeld ?_
      case refine_2 => (intro w hSw; (try dsimp only at hSw); go_simp; try (with_reducible rfl))
      (try simp only [gs])
      refine wpAnyH_take (i := 3) (v := ?_) rfl (by kernel_rfl) (by kernel_rfl) (by kernel_rfl) (fun _ _ _ h => h) (Or.inl ⟨by rfl, ?_⟩) hHeld ?_
      case refine_2 => (intro w hSw; (try dsimp only at hSw); go_simp; try (with_reducible rfl))
      (try simp only [gs])
      refine wpAnyH_take (i := 4) (v := ?_) rfl (by kernel_rfl) (by kernel_rfl) (by kernel_rfl) (fun _ _ _ h => h) (Or.inl ⟨by rfl, ?_⟩) hHeld ?_
      case refine_2 => (intro w hSw; (try dsimp only at hSw); have hc := HCS.out _ hSw; go_simp; try (with_reducible rfl))
      (try simp only [gs])
      refine wpAnyH_take (i := 5) (v := ?_) rfl (by kernel_rfl) (by kernel_rfl) (by kernel_rfl) (fun _ _ _ h => h) (Or.inl ⟨by rfl, ?_⟩) hHeld ?_
      case refine_2 => (intro w hSw; (try dsimp only at hSw); go_simp; try (with_reducible rfl))
      (try simp only [gs])
      refine wpAnyH_take (i := 6) (v := ?_) rfl (by kernel_rfl) (by kernel_rfl) (by kernel_rfl) (fun _ _ _ h => h) (Or.inl ⟨by rfl, ?_⟩) hHeld ?_
      case refine_2 => (intro w hSw; (try dsimp only at hSw); go_simp; try (with_reducible rfl))
      (try simp only [gs])
      refine wpAnyH_take (i := 7) (v := ?_) rfl (by kernel_rfl) (by kernel_rfl) (by kernel_rfl) (fun _ _ _ h => h) (Or.inl ⟨by rfl, ?_⟩) hHeld ?_
      case refine_2 => (intro w hSw; (try dsimp only at hSw); go_simp; try (with_reducible rfl))
      (try simp only [gs])
      refine wpAnyH_take (i := 8) (v := ?_) rfl (by kernel_rfl) (by kernel_rfl) (by kernel_rfl) (fun _ _ _ h => h) (Or.inl ⟨by rfl, ?_⟩) hHeld ?_
      case refine_2 => (intro w hSw; (try dsimp only at hSw); go_simp; try (with_reducible rfl))
      (try simp only [gs])
      refine wpAnyH_take (i := 9) (v := ?_) rfl (by kernel_rfl) (by kernel_rfl) (by kernel_rfl) (fun _ _ _ h => h) (Or.inl ⟨by rfl, ?_⟩) hHeld ?_
      case refine_2 => (intro w hSw; (try dsimp only at hSw); have hc := HCS.out _ hSw; go_simp; try (with_reducible rfl))
      (try simp only [gs])
      refine wpAnyH_take (i := 10) (v := ?_) rfl (by kernel_rfl) (by kernel_rfl) (by kernel_rfl) (fun _ _ _ h => h) (Or.inl ⟨by rfl, ?_⟩) hHeld ?_
      case refine_2 => (intro w hSw; (try dsimp only at hSw); go_simp; try (with_reducible rfl))
      (try simp only [gs])
      refine wpAnyH_take (i := 11) (v := ?_) rfl (by kernel_rfl) (by kernel_rfl) (by kernel_rfl) (fun _ _ _ h => h) (Or.inl ⟨by rfl, ?_⟩) hHeld ?_
      case refine_2 => (intro w hSw; (try dsimp only at hSw); go_simp; try (with_reducible rfl))
      (try simp only [gs])
      refine wpAnyH_take (i := 12) (v := ?_) rfl (by kernel_rfl) (by kernel_rfl) (by kernel_rfl) (fun _ _ _ h => h) (Or.inl ⟨by rfl, ?_⟩) hHeld ?_
      case refine_2 => (intro w hSw; (try dsimp only at hSw); go_simp; try (with_reducible rfl))
      (try simp only [gs])
      refine wpAnyH_take (i := 13) (v := ?_) rfl (by kernel_rfl) (by kernel_rfl) (by kernel_rfl) (fun _ _ _ h => h) (Or.inl ⟨by rfl, ?_⟩) hHeld ?_
      case refine_2 => (intro w hSw; (try dsimp only at hSw); go_simp; try (with_reducible rfl))
      (try simp only [gs])
      refine wpAnyH_done (by kernel_rfl) ?_ _
      refine NoPanic.normal ?_
      clear hHeld
      clear hcut hm0 hm1
      have hc0 := range_dKind (HAT.out _ HBD.out)
      have hc1 := range_dDir (HAT.out _ HBD.out)
      have hc2 := range_dIno (HAT.out _ HBD.out)
      clear HAT HCS HBD
      generalize wr.drew = z0 at *
      generalize o.s.take 40 = s at *
      generalize o.kind = kd at *
      generalize o.dir = dr at *
      generalize o.ino = io at *
      have hKd : 0 ≤ bits .and .i64 dr 1 ∧ bits .and .i64 dr 1 ≤ 1 := by rw [and1i]; omega
      have hKi : 0 ≤ bits .and .i64 io 65535 ∧ bits .and .i64 io 65535 ≤ 65535 := by rw [and65535]; omega
      have HDN : Hid (okN (1 + bits .and .i64 dr 1) = true ∧ okNum (1 + bits .and .i64 io 65535) = true ∧ 1 + bits .and .i64 io 65535 ≠ 0) := ⟨okN_of (by omega) (by omega), numK_ok hKi, by omega⟩
      go_upto_region 14 with fail
      generalize 1 + bits .and .i64 dr 1 = dd at *
      generalize 1 + bits .and .i64 io 65535 = nn at *
      have hRs := fun y => right_calls (str s) y
      simp only [str_list] at hRs
      clear hKd hKi hc1 hc2
      cases hr : rightP s with
      | false =>
        go_upto_if 78 with fail
        go_cut [11, 12, 77, 78] (fun _ s12 _ _ wc => s12 = .int .i64 1 ∧ Hid (HoR w q (4 * j) C u5 u6 u7 (.slice none 0 0) (T.map Tr.s) (T.map Tr.d) (T.map Tr.i) [] wc))
        case first =>
          by_cases hk : kd = 2
          · subst hk
            have h3 := ddrop_bad z0 q dd s (okE_bad dd hr)
            go_wp2_with (go_at_call 12; refine h3.mono ?_; clear h3; rintro e z1 ⟨rfl, c1⟩)
            go_meet
            case rel => exact ⟨rfl, HRD.out.called c1⟩
          · have hkb : (kd == 2) = false := by simpa using hk
            have h3 := dput_bad z0 q dd s nn (by rw [okE_bad dd hr, Bool.false_and])
            go_wp2_with (go_at_call 10; refine h3.mono ?_; clear h3; rintro e z1 ⟨rfl, c1⟩)
            go_meet
            case rel => exact ⟨rfl, HRD.out.called c1⟩
        case rest =>
          obtain ⟨rfl, HC⟩ := hcut
          rw [hr] at hRs
          clear hr HRD
          have h5 := hRs wc
          clear hRs
          go_wp2_with (go_at_call 27; refine h5.mono ?_; clear h5; rintro e z2 ⟨rfl, c2⟩)
          have HC2 := HC.out.called c2
          have HC3 : Hid (HoR w q (4 * (j + 1)) C u5 u6 u7 (.slice none 0 0) (T.map Tr.s) (T.map Tr.d) (T.map Tr.i) [] z2) := HC2.more (by omega)
          clear HC2 c2
          go_roundg gg
          case measure => omega
          exact ⟨j + 1, T, C, by omega, by simp, HT.out.1, by have := HT.out.2; omega, HC3.out⟩
      | true =>
        go_upto_if 78 with fail
        go_cut [11, 12, 77, 78] (fun s11 s12 _ _ wc => ∃ (t : Tr) (n : Int), s11 = .int .i64 n ∧ s12 = .int .i64 0 ∧ Hid ((t.ok ∧ t.s = s ∧ t.d = dd ∧ t.i = n) ∧ HoR w q (4 * j + 4) (putA Ch.n C t.ch) u5 u6 u7 (.slice none 0 0) (T.map Tr.s) (T.map Tr.d) (T.map Tr.i) [] wc))
        case first =>
          by_cases hk : kd = 2
          · subst hk
            have h3 := HRD.out.drop (by omega) HDN.out.1 hr
            have HOK : Hid ((⟨dd, s, 0⟩ : Tr).ok) := ⟨hr, HDN.out.1, .inl rfl⟩
            go_wp2_with (go_at_call 12; refine h3.mono ?_; clear h3; rintro e z1 ⟨rfl, R1⟩)
            go_meet
            case rel => exact ⟨⟨dd, s, 0⟩, 0, rfl, rfl, ⟨HOK.out, rfl, rfl, rfl⟩, by rw [show (⟨dd, s, 0⟩ : Tr).ch = goneC (ekz dd s) by unfold Tr.ch; rw [if_pos rfl]]; exact R1⟩
          · have hkb : (kd == 2) = false := by simpa using hk
            have h3 := HRD.out.put (by omega) HDN.out.1 hr HDN.out.2.1
            have HOK : Hid ((⟨dd, s, nn⟩ : Tr).ok) := ⟨hr, HDN.out.1, .inr HDN.out.2.1⟩
            go_wp2_with (go_at_call 10; refine h3.mono ?_; clear h3; rintro e z1 ⟨rfl, R1⟩)
            go_meet
            case rel => exact ⟨⟨dd, s, nn⟩, nn, rfl, rfl, ⟨HOK.out, rfl, rfl, rfl⟩, by rw [show (⟨dd, s, nn⟩ : Tr).ch = enC dd s nn by unfold Tr.ch; rw [if_neg HDN.out.2.2]]; exact R1⟩
        case rest =>
          obtain ⟨t, n, rfl, rfl, HC⟩ := hcut
          have HTT : Hid (t.ok ∧ t.s = s ∧ t.d = dd ∧ t.i = n) := HC.out.1
          have HR1 : Hid (HoR w q (4 * j + 4) (putA Ch.n C t.ch) u5 u6 u7 (.slice none 0 0) (T.map Tr.s) (T.map Tr.d) (T.map Tr.i) [] wc) := HC.out.2
          have R1 := HC.out.2
          rw [hr] at hRs
          clear hr HC
          have h5 := hRs wc
          obtain ⟨NT, hNT⟩ : ∃ NT : Nat, NT = T.length := ⟨_, rfl⟩
          have HNT : Hid (NT = T.length ∧ NT ≤ 40) := ⟨hNT, by have := HT.out.2; omega⟩
          obtain ⟨ad5, cap5, rfl⟩ := own_formN R1.owns.1 (n := NT) (by rw [List.length_map, hNT])
          obtain ⟨ad6, cap6, rfl⟩ := own_formN R1.owns.2.1 (n := NT) (by rw [List.length_map, hNT])
          obtain ⟨ad7, cap7, rfl⟩ := own_formN R1.owns.2.2.1 (n := NT) (by rw [List.length_map, hNT])
          clear hRs R1 hNT HRD
          go_wp2_with (go_at_call 27; refine h5.mono ?_; clear h5; rintro e z2 ⟨rfl, c2⟩)
          have HR2 : Hid (HoR w q (4 * j + 4) (putA Ch.n C t.ch) (.slice ad5 NT cap5) (.slice ad6 NT cap6) (.slice ad7 NT cap7) (.slice none 0 0) (T.map Tr.s) (T.map Tr.d) (T.map Tr.i) [] z2) := HR1.out.called c2
          clear c2 HR1
          go_loopg [13, 14] NT (fun g2 kn k wr => ∃ jj : Nat, jj + g2 = NT ∧ k = .int .i64 (jj : Int) ∧ kn = .bool ((T.take jj).any t.like) ∧ Hid (HoR w q (4 * j + 4) (putA Ch.n C t.ch) (.slice ad5 NT cap5) (.slice ad6 NT cap6) (.slice ad7 NT cap7) (.slice none 0 0) (T.map Tr.s) (T.map Tr.d) (l7at T t jj) [] wr))
          case atStart => exact ⟨0, by omega, rfl, rfl, by rw [l7at_zero]; exact HR2.out⟩
          case round =>
            clear HR2
            obtain ⟨jj, hjj, rfl, rfl, HY⟩ := hrel
            cases gk with
            | zero =>
              have hjN : jj = NT := by omega
              have HY2 : Hid (HoR w q (4 * j + 4) (putA Ch.n C t.ch) (.slice ad5 NT cap5) (.slice ad6 NT cap6) (.slice ad7 NT cap7) (.slice none 0 0) (T.map Tr.s) (T.map Tr.d) ((T.map t.upd).map Tr.i) [] wr) := by
                have := HY.out
                rwa [l7at_all T t (by have := HNT.out.1; omega)] at this
              have htk : (T.take jj).any t.like = T.any t.like := by rw [List.take_of_length_le (by have := HNT.out.1; omega)]
              rw [htk]
              have hnl : ¬ (jj : Int) < (NT : Int) := by omega
              clear HY htk hjN
              cases hany : T.any t.like with
              | true =>
                have HST : Hid (stepT T t = T.map t.upd) := step_known T t hany
                clear hany
                go_wp2_with fail
                go_roundg gg
                case measure => omega
                refine ⟨j + 1, T.map t.upd, putA Ch.n C t.ch, by omega, by simp, ?_, ?_, ?_⟩
                · have := HT.out.1.step HTT.out.1
                  rwa [HST.out] at this
                · have := HT.out.2
                  rw [List.length_map]
                  omega
                · have := HY2.out.more (m' := 4 * (j + 1)) (by omega)
                  rwa [upd_s, upd_d]
              | false =>
                have HST : Hid (stepT T t = T ++ [t]) := step_new T t hany
                have HZ : Hid (HoR w q (4 * j + 4) (putA Ch.n C t.ch) (.slice ad5 NT cap5) (.slice ad6 NT cap6) (.slice ad7 NT cap7) (.slice none 0 0) (T.map Tr.s) (T.map Tr.d) (T.map Tr.i) [] wr) := by
                  have := HY2.out
                  rwa [upd_none T t hany] at this
                have HL1 : Hid ((T.map Tr.s).length + 1 ≤ 1000000 ∧ (T.map Tr.d).length + 1 ≤ 1000000 ∧ (T.map Tr.i).length + 1 ≤ 1000000) := (show _ ∧ _ ∧ _ by simp only [List.length_map]; have := HNT.out; omega)
                clear hany HY2
                go_upto_region 31 with (first
                  | (refine build_c1 rowN rfl _ rfl s _ rfl rfl ?_
                     intro x4 o4 b4 s4
                     have HZ4 := HZ.out.called b4)
                  | (at_builtin
                     refine append_e1 rowN rfl _ _ rfl w.heap.size _ (T.map Tr.s) rfl HZ4.owns.1 wr.heap.size s rfl _ o4.slB HL1.out.1 (by decide) HZ4.bel.size ?_
                     intro g5 c5p x5 o5 gr5 nr5 lt5
                     have HZ5 : Hid (HoR w q (4 * j + 4) (putA Ch.n C t.ch) (.slice (some ⟨g5, 0, none⟩) ((T.map Tr.s).length + 1) c5p) (.slice ad6 NT cap6) (.slice ad7 NT cap7) (.slice none 0 0) (T.map Tr.s ++ [s]) (T.map Tr.d) (T.map Tr.i) [] x5) := HZ4.add5 o5 gr5 (grown_new rfl nr5)
                     clear o4 b4 s4 o5 gr5 nr5 lt5 HZ4))
                go_upto_region 32 with (first
                  | (refine build_c1 rowZ rfl _ rfl dd _ rfl rfl ?_
                     intro x4 o4 b4 s4
                     have HZ4 := HZ5.out.called b4)
                  | (at_builtin
                     refine append_e1 rowZ rfl _ _ rfl w.heap.size _ (T.map Tr.d) rfl HZ4.owns.2.1 x5.heap.size dd rfl _ o4.slB HL1.out.2.1 (by decide) HZ4.bel.size ?_
                     intro g6 c6p x6 o5 gr5 nr5 lt5
                     have HZ6 : Hid (HoR w q (4 * j + 4) (putA Ch.n C t.ch) (.slice (some ⟨g5, 0, none⟩) ((T.map Tr.s).length + 1) c5p) (.slice (some ⟨g6, 0, none⟩) ((T.map Tr.d).length + 1) c6p) (.slice ad7 NT cap7) (.slice none 0 0) (T.map Tr.s ++ [s]) (T.map Tr.d ++ [dd]) (T.map Tr.i) [] x6) := HZ4.add6 o5 gr5 (grown_new rfl nr5)
                     clear o4 b4 s4 o5 gr5 nr5 lt5 HZ4))
                go_wp2_with (first
                  | (refine build_c1 rowZ rfl _ rfl n _ rfl rfl ?_
                     intro x4 o4 b4 s4
                     have HZ4 := HZ6.out.called b4)
                  | (at_builtin
                     refine append_e1 rowZ rfl _ _ rfl w.heap.size _ (T.map Tr.i) rfl HZ4.owns.2.2.1 x6.heap.size n rfl _ o4.slB HL1.out.2.2 (by decide) HZ4.bel.size ?_
                     intro g7 c7p x7 o5 gr5 nr5 lt5
                     have HZ7 : Hid (HoR w q (4 * j + 4) (putA Ch.n C t.ch) (.slice (some ⟨g5, 0, none⟩) ((T.map Tr.s).length + 1) c5p) (.slice (some ⟨g6, 0, none⟩) ((T.map Tr.d).length + 1) c6p) (.slice (some ⟨g7, 0, none⟩) ((T.map Tr.i).length + 1) c7p) (.slice none 0 0) (T.map Tr.s ++ [s]) (T.map Tr.d ++ [dd]) (T.map Tr.i ++ [n]) [] x7) := HZ4.add7 o5 gr5 (grown_new rfl nr5)
                     clear o4 b4 s4 o5 gr5 nr5 lt5 HZ4))
                go_roundg gg
                case measure => omega
                refine ⟨j + 1, T ++ [t], putA Ch.n C t.ch, by omega, by simp, ?_, ?_, ?_⟩
                · have := HT.out.1.step HTT.out.1
                  rwa [HST.out] at this
                · have := HT.out.2
                  rw [List.length_append, List.length_singleton]
                  omega
                · have h9 := HZ7.out.more (m' := 4 * (j + 1)) (by omega)
                  rw [List.map_append, List.map_append, List.map_append, List.map_singleton, List.map_singleton, List.map_singleton, HTT.out.2.1, HTT.out.2.2.1, HTT.out.2.2.2]
                  simp only [List.length_map] at h9 ⊢
                  exact h9
            | succ g2 =>
              have hjT : jj < T.length := by have := HNT.out.1; omega
              have hjI2 : (jj : Int) < (NT : Int) := by omega
              have hjj0 : (0 : Int) ≤ (jj : Int) := by omega
              have hjjb : (jj : Int) ≤ 100 := by have := HNT.out.2; omega
              obtain ⟨g5, rfl⟩ := own_ad HY.out.owns.1 (by rw [List.length_map]; omega)
              obtain ⟨g6, rfl⟩ := own_ad HY.out.owns.2.1 (by rw [List.length_map]; omega)
              obtain ⟨g7, rfl⟩ := own_ad HY.out.owns.2.2.1 (by rw [l7at_len]; omega)
              have c5 : wr.cell? ⟨g5, jj, none⟩ = some (.string (str (T[jj]).s)) := own_at1 HY.out.owns.1 jj (by rw [List.length_map]; omega) (by rw [List.getElem_map]; rfl)
              have c6 : wr.cell? ⟨g6, jj, none⟩ = some (.int .i64 (T[jj]).d) := own_at1 HY.out.owns.2.1 jj (by rw [List.length_map]; omega) (by rw [List.getElem_map]; rfl)
              have hl7 : jj < (l7at T t jj).length := by rw [l7at_len]; omega
              have c7 : wr.cell? ⟨g7, jj, none⟩ = some (.int .i64 ((l7at T t jj)[jj])) := own_at1 HY.out.owns.2.2.1 jj hl7 rfl
              have f7 : wr.frozen? ⟨g7, jj, none⟩ = false := own_frozen1 HY.out.owns.2.2.1 jj
              have HLK : Hid (t.like T[jj] = (((str (T[jj]).s).toList == (str s).toList) && ((T[jj]).d == dd))) := (show _ = _ by rw [like_cond, HTT.out.2.1, HTT.out.2.2.1])
              have HST7 : Hid (l7at T t (jj + 1) = if t.like T[jj] = true then (l7at T t jj).set jj t.i else l7at T t jj) := l7at_step T t hjT
              have HAN : Hid ((T.take (jj + 1)).any t.like = ((T.take jj).any t.like || t.like T[jj])) := any_step T t hjT
              have HSET : Hid (HoR w q (4 * j + 4) (putA Ch.n C t.ch) (.slice (some ⟨g5, 0, none⟩) NT cap5) (.slice (some ⟨g6, 0, none⟩) NT cap6) (.slice (some ⟨g7, 0, none⟩) NT cap7) (.slice none 0 0) (T.map Tr.s) (T.map Tr.d) ((l7at T t jj).set jj n) [] (wr.setCell ⟨g7, jj, none⟩ (.int .i64 n))) := HY.out.put7 (by rw [l7at_len]; exact HNT.out.1) jj hl7 n
              generalize (l7at T t jj)[jj] = old at *
              generalize T[jj] = uu at *
              generalize (T.take jj).any t.like = kn at *
              clear hjT hl7
              cases hq : ((str uu.s).toList == (str s).toList) with
              | false =>
                have HN7 : Hid (l7at T t (jj + 1) = l7at T t jj) := (show _ = _ by rw [HST7.out, HLK.out, hq]; rfl)
                have HNA : Hid ((T.take (jj + 1)).any t.like = kn) := (show _ = _ by rw [HAN.out, HLK.out, hq, Bool.false_and, Bool.or_false])
                clear c6 c7 f7
                go_wp2_with fail
                go_roundg g2
                case measure => omega
                exact ⟨jj + 1, by omega, by simp, by rw [HNA.out], by rw [HN7.out]; exact HY.out⟩
              | true =>
                cases hq2 : (uu.d == dd) with
                | false =>
                  have HN7 : Hid (l7at T t (jj + 1) = l7at T t jj) := (show _ = _ by rw [HST7.out, HLK.out, hq, hq2]; rfl)
                  have HNA : Hid ((T.take (jj + 1)).any t.like = kn) := (show _ = _ by rw [HAN.out, HLK.out, hq, hq2, Bool.and_false, Bool.or_false])
                  clear c7 f7
                  go_wp2_with fail
                  go_roundg g2
                  case measure => omega
                  exact ⟨jj + 1, by omega, by simp, by rw [HNA.out], by rw [HN7.out]; exact HY.out⟩
                | true =>
                  have HN7 : Hid (l7at T t (jj + 1) = (l7at T t jj).set jj n) := (show _ = _ by rw [HST7.out, HLK.out, hq, hq2, ← HTT.out.2.2.2]; rfl)
                  have HNA : Hid ((T.take (jj + 1)).any t.like = true) := (show _ = _ by rw [HAN.out, HLK.out, hq, hq2]; simp)
                  go_wp2_with fail
                  go_roundg g2
                  case measure => omega
                  exact ⟨jj + 1, by omega, by simp, by rw [HNA.out], by rw [HN7.out]; exact HSET.out⟩
end Go.Proofs.YtgicanpggndbeaaGreat
