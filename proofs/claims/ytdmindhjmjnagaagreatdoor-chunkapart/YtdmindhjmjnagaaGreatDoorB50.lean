import Derived.Test.YtdmindhjmjnagaaGreatDoorSi
import Derived.Test.YtdmindhjmjnagaaGreatDoorB48
import Derived.Test.YtdmindhjmjnagaaGreatDoorB49
import Derived.Deep.CutBlock
import Derived.Deep.DeepCutAuto
/- ChunkApart. -/
namespace Go.Proofs.YtdmindhjmjnagaaGreatDoor
set_option linter.unusedVariables false
set_option maxRecDepth 100000
open Go.RowKit

theorem cidx_at (s : ByteArray) (i : Nat) (b : UInt8) (h : s.data.toList[i]? = some b) (w : World) : (Instr.index 9 (.string s) (.int .i64 (i : Int))).run Tryz.prog w = .ok (.int .u8 (b.toNat : Int)) w := by
  obtain ⟨hl, rfl⟩ := List.getElem?_eq_some_iff.1 h
  have hs : i < s.size := by simpa using hl
  have hi : (0 : Int) ≤ (i : Int) ∧ (i : Int) < (s.size : Int) := by omega
  rw [run_index_string w _ _ _ _ Tryz.underlying9, dif_pos hi]
  have e : (s[(i : Int).toNat]'(by omega)) = s.data.toList[i] := by simp only [Int.toNat_natCast, Array.getElem_toList]; rfl
  rw [e]
set_option maxRecDepth 100000 in
set_option maxHeartbeats 32000000 in
theorem chunkApart_walk (w : World) (u u2 : Value) (ops others : List Co) (h : Sl encCo w u ops) (h2 : Sl encCo w u2 others) :
    Calls Tryz.prog 5 #[u, u2] w fun e w' => e = .returned (.bool true) ∧ Below w.heap.size w w' := by
  have hsh := shown13_calls w
  obtain ⟨ad, cap, rfl, hcap, hmax, -, -⟩ := id h
  obtain ⟨ad2, cap2, rfl, hcap2, hmax2, -, -⟩ := id h2
  have HI : Hid (∀ i (hi : i < ops.length), ∃ g off, ad = some ⟨g, off, none⟩ ∧ g < w.heap.size ∧ w.rangeAt g (off + i * 5) (encCo.c ops[i])) := fun i hi => SlB.at h i hi
  have HI2 : Hid (∀ i (hi : i < others.length), ∃ g off, ad2 = some ⟨g, off, none⟩ ∧ g < w.heap.size ∧ w.rangeAt g (off + i * 5) (encCo.c others[i])) := fun i hi => SlB.at h2 i hi
  obtain ⟨N, hN⟩ : ∃ N : Nat, N = ops.length := ⟨_, rfl⟩
  rw [← hN] at hcap hmax ⊢
  have HN : Hid (N = ops.length) := hN
  obtain ⟨N2, hN2⟩ : ∃ N2 : Nat, N2 = others.length := ⟨_, rfl⟩
  rw [← hN2] at hcap2 hmax2 ⊢
  have HN2 : Hid (N2 = others.length) := hN2
  obtain ⟨M, hM⟩ : ∃ M : Nat, M = min N 20 := ⟨_, rfl⟩
  have HM : Hid (M = min N 20) := hM
  clear h h2 hN hN2 hM
  go_enter Tryz.func5, Tryz.ntmps5
  go_upto_region 2 with (go_at_call 9; refine hsh.mono ?_; clear hsh; rintro e y0 ⟨rfl, b1⟩)
  have hN1 := nvNew_calls w y0 b1
  clear b1
  go_upto_region 3 with (go_at_call 10; refine hN1.mono ?_; clear hN1; rintro e y1 ⟨d1, rfl, A1, v1, n1, f1, b1⟩)
  obtain ⟨q, hq⟩ : ∃ q, q = d1.q := ⟨_, rfl⟩
  rw [← hq]
  have HS : Hid (ApC w q (2 * 0) y1) := ApC.start A1 hq v1 n1
  clear A1 v1 n1 f1 b1 hq
  go_upto_block 0 with fail
  go_cut [0] (fun _ wc => Hid (ApC w q 40 wc))
  case rest =>
    have HE : Hid (ApC w q 40 wc) := hcut
    clear hcut HI HI2 HN HN2 HM HS hcap hmax hcap2 hmax2
    obtain ⟨C, hC, hL, hS⟩ := HE.out.last (Nat.le_refl _)
    have HF : Hid (∀ p ∈ lives C allSp, right p.k = true ∧ pKind p.k = 3 ∧ 1 ≤ p.v.length ∧ p.v.length ≤ 32 ∧ p.v.getD (p.v.length - 1) 0 ≠ 0) := fun p hp => live_facts hC hp
    generalize lives C allSp = L at *
    obtain ⟨K, hKK⟩ : ∃ K : Nat, K = (L.filter (notOf 5)).length := ⟨_, rfl⟩
    have HKK : Hid (K = (L.filter (notOf 5)).length) := hKK
    obtain ⟨N, hN⟩ : ∃ N : Nat, N = L.length := ⟨_, rfl⟩
    have HN : Hid (N = L.length) := hN
    rw [← hKK, ← hN] at hS
    rw [← hN] at hL
    have hNI : (N : Int) ≤ 440 := by omega
    have hKI : (K : Int) ≤ 440 := by have := List.length_filter_le (notOf 5) L; omega
    clear hC hKK hN HE hL
    go_upto_region 12 with (first
      | (refine build_allSp rfl _ rfl rfl ?_)
      | (go_at_call 22; refine hS.mono ?_; clear hS; rintro e z ⟨adw, capw, rfl, o1, b1, hS2⟩))
    have HS2 := hS2
    have HIW : Hid (∀ i (hi : i < L.length), ∃ g off, adw = some ⟨g, off, none⟩ ∧ g < z.heap.size ∧ z.rangeAt g (off + i * 25) (encP.c L[i])) := fun i hi => SlB.at o1.slB i hi
    have HBZ : Hid (Below w.heap.size w z) := b1
    have HC2 : Hid (∀ y2, Below z.heap.size z y2 → _) := hS2
    clear hS2 HS2 o1 b1
    go_wp2_with fail
    go_loopg [10] N (fun gg i wr => ∃ j : Nat, j + gg = N ∧ i = .int .i64 (j : Int) ∧ Hid (Below z.heap.size z wr))
    case atStart => exact ⟨0, by omega, rfl, Below.refl _ _⟩
    case round =>
      obtain ⟨j, hjg, rfl, HB⟩ := hrel
      cases gk with
      | zero =>
        have hjN : ¬ (j : Int) < (N : Int) := by omega
        have hC2 := HC2.out wr HB.out
        clear HC2 HB hjg HIW
        go_upto_region 20 with (go_at_call 14; refine hC2.mono ?_; clear hC2; rintro e z3 ⟨rfl, b3, hS4⟩)
        clear b3 hjN
        go_upto_region 21 with (first
          | (refine build_allSp rfl _ rfl rfl ?_)
          | (go_at_call 22; refine hS4.mono ?_; clear hS4; rintro e z4 ⟨adn, capn, rfl, o2, b4, o1⟩))
        have HIA : Hid (∀ i (hi : i < L.length), ∃ g off, adw = some ⟨g, off, none⟩ ∧ g < z4.heap.size ∧ z4.rangeAt g (off + i * 25) (encP.c L[i])) := fun i hi => SlB.at o1.slB i hi
        have HIB : Hid (∀ i (hi : i < (L.filter (notOf 5)).length), ∃ g off, adn = some ⟨g, off, none⟩ ∧ g < z4.heap.size ∧ z4.rangeAt g (off + i * 25) (encP.c (L.filter (notOf 5))[i])) := fun i hi => SlB.at o2.slB i hi
        have HB4 : Hid (Below w.heap.size w z4) := b4
        have hInfo : ∀ p : Pa, (Tryz.prog.info? 62).map (·.size) = some (encP.c p).length := fun p => by rw [encP.len]; exact elP.info
        clear o1 o2 b4 HBZ
        go_wp2_with fail
        go_loopg [17, 18] N (fun gg a i wr => ∃ j : Nat, j + gg = N ∧ i = .int .i64 (j : Int) ∧ a = .int .i64 (((L.take j).filter (notOf 5)).length : Int) ∧ Hid (Below z4.heap.size z4 wr))
        case atStart => exact ⟨0, by omega, rfl, by simp, Below.refl _ _⟩
        case round =>
          obtain ⟨j, hjg, rfl, rfl, HB⟩ := hrel
          cases gk with
          | zero =>
            have hjN : j = N := by omega
            subst hjN
            have HFL : Hid (((L.take j).filter (notOf 5)).length = K) := (show _ = _ by rw [List.take_of_length_le (by have := HN.out; omega), HKK.out])
            rw [HFL.out]
            go_wp2_with fail
            go_ret
            exact ⟨rfl, HB4.out.trans (HB.out.mono HB4.out.size)⟩
          | succ gg =>
            have hjI : (j : Int) < (N : Int) := by omega
            have hj0 : (0 : Int) ≤ (j : Int) := by omega
            have hjl : j < L.length := by have := HN.out; omega
            obtain ⟨g, off, rfl, hg, hat⟩ := HIA.out j hjl
            have HRG : Hid (wr.rangeAt g (off + j * 25) (encP.c L[j])) := range_same' hat (HB.out.block g hg)
            have HRZ : Hid (∀ yy, Below z4.heap.size z4 yy → yy.rangeAt g (off + j * 25) (encP.c L[j])) := fun yy b => range_same' hat (b.block g hg)
            have hfc := HF.out L[j] (List.getElem_mem hjl)
            have HSK : Hid (notOf 5 L[j] = false → ((L.take (j + 1)).filter (notOf 5)).length = ((L.take j).filter (notOf 5)).length) := flt_skip hjl
            have HAT : Hid (notOf 5 L[j] = true → ∃ h : ((L.take j).filter (notOf 5)).length < (L.filter (notOf 5)).length, (L.filter (notOf 5))[((L.take j).filter (notOf 5)).length] = L[j] ∧ ((L.take (j + 1)).filter (notOf 5)).length = ((L.take j).filter (notOf 5)).length + 1) := flt_at hjl
            generalize L[j] = c at *
            have hOf := fun w => of_calls w c.k c.h
            have hv : ofV c.k = pv (pIno c.k) (pKind c.k) (pName c.k) (pPlace c.k) := by unfold ofV; rw [if_pos hfc.1]
            rw [hv, hfc.1] at hOf
            have HNO : Hid (notOf 5 c = !decide (pIno c.k = 5)) := rfl
            clear hat hg hjl hfc hv
            go_upto_region 26 with (first
              | (refine load_part _ rfl g (off + j * 25) rfl rfl _ c.h (range_kP HRG.out) ?_)
              | (go_at_call 23; refine (hOf _).mono ?_; rintro e x2 ⟨rfl, b2⟩))
            have hrow := heap_alloc_new x2 (.cells #[.int .i64 (pIno c.k), .int .i64 (pKind c.k), .string (str (pName c.k)), .int .i64 (pPlace c.k)] 58)
            have hcP : (x2.alloc (.cells #[.int .i64 (pIno c.k), .int .i64 (pKind c.k), .string (str (pName c.k)), .int .i64 (pPlace c.k)] 58)).cell? ⟨x2.heap.size, 0, none⟩ = some (.int .i64 (pIno c.k)) := by rw [cell_of_row _ _ _ _ _ _ hrow]; rfl
            have bA := b2.trans (((Below.refl _ x2).alloc (Nat.le_refl _) (.cells #[.int .i64 (pIno c.k), .int .i64 (pKind c.k), .string (str (pName c.k)), .int .i64 (pPlace c.k)] 58)).mono b2.size)
            generalize x2.alloc (.cells #[.int .i64 (pIno c.k), .int .i64 (pKind c.k), .string (str (pName c.k)), .int .i64 (pPlace c.k)] 58) = x3 at *
            have HB3 : Hid (Below z4.heap.size z4 x3) := HB.out.trans (bA.mono HB.out.size)
            clear hrow b2 bA hOf HRG HB
            by_cases h5 : pIno c.k = 5
            · have hb5 : (pIno c.k == 5) = true := by simpa using h5
              have HS5 : Hid (((L.take (j + 1)).filter (notOf 5)).length = ((L.take j).filter (notOf 5)).length) := HSK.out (by rw [HNO.out, decide_eq_true h5]; rfl)
              clear h5 HSK HAT HNO
              go_wp2_with fail
              go_roundg gg
              case measure => omega
              case rel => exact ⟨j + 1, by omega, congrArg (Value.int .i64) (by omega), by rw [HS5.out], HB3.out⟩
            · have hb5 : (pIno c.k == 5) = false := by simpa using h5
              obtain ⟨haK, hae, hal⟩ := HAT.out (by rw [HNO.out, decide_eq_false h5]; rfl)
              obtain ⟨g3, of3, rfl, hg3, hat3⟩ := HIB.out _ haK
              rw [hae] at hat3
              have HAL : Hid (((L.take (j + 1)).filter (notOf 5)).length = ((L.take j).filter (notOf 5)).length + 1) := hal
              have haK2 : ((L.take j).filter (notOf 5)).length < K := by have := HKK.out; omega
              clear haK hae hal HAT HSK HNO h5
              generalize ((L.take j).filter (notOf 5)).length = aN at *
              have haI : decide ((aN : Int) ≥ (K : Int)) = false := decide_eq_false (by omega)
              have haL : (aN : Int) < (K : Int) := by omega
              have ha0 : (0 : Int) ≤ (aN : Int) := by omega
              have HBD : Hid (Below z4.heap.size z4 x3.drew) := HB3.out.drew
              clear haK2
              go_upto_region 27 with fail
              have HR27 : Hid (x3.rangeAt g3 (of3 + aN * 25) (encP.c c) ∧ x3.rangeAt g (off + j * 25) (encP.c c)) := ⟨range_same' hat3 (HB3.out.block g3 hg3), HRZ.out _ HB3.out⟩
              clear hat3 hg3 HRZ hcP hb5
              refine wp_region_noPanic ?_
              refine wp_region_held_drew (S := (fun yy => yy.rangeAt g3 (of3 + aN * 25) (encP.c c) ∧ yy.rangeAt g (off + j * 25) (encP.c c))) (by kernel_rfl) HR27.out (fun hHeld => ?_)
              refine wpAnyH_take (i := 0) (v := ?_) rfl (by kernel_rfl) (by kernel_rfl) (by kernel_rfl) (fun _ _ _ h => h) (Or.inl ⟨by rfl, ?_⟩) hHeld ?_
              case refine_2 => (intro w hSw; (try dsimp only at hSw); go_simp; try (with_reducible rfl))
              (try simp only [gs])
              refine wpAnyH_take (i := 1) (v := ?_) rfl (by kernel_rfl) (by kernel_rfl) (by kernel_rfl) (fun _ _ _ h => h) (Or.inl ⟨by rfl, ?_⟩) hHeld ?_
              case refine_2 => (intro w hSw; (try dsimp only at hSw); go_simp; try (with_reducible rfl))
              (try simp only [gs])
              refine wpAnyH_take (i := 2) (v := ?_) rfl (by kernel_rfl) (by kernel_rfl) (by kernel_rfl) (fun _ _ _ h => h) (Or.inl ⟨by rfl, ?_⟩) hHeld ?_
              case refine_2 => (intro w hSw; (try dsimp only at hSw); go_simp; try (with_reducible rfl))
              (try simp only [gs])
              refine wpAnyH_take (i := 3) (v := .bool false) rfl (by kernel_rfl) (by kernel_rfl) (by kernel_rfl) (fun _ _ _ h => h) (Or.inl ⟨by rfl, ?_⟩) hHeld ?_
              case refine_1 => (intro w hSw; (try dsimp only at hSw); first | (go_simp; done) | (go_simp; omega))
              (try simp only [gs])
              refine wpAnyH_take (i := 4) (v := ?_) rfl (by kernel_rfl) (by kernel_rfl) (by kernel_rfl) (fun _ _ _ h => h) (Or.inl ⟨by rfl, ?_⟩) hHeld ?_
              case refine_2 => (intro w hSw; (try dsimp only at hSw); go_simp; try (with_reducible rfl))
              (try simp only [gs])
              refine wpAnyH_take (i := 5) (v := ?_) rfl (by kernel_rfl) (by kernel_rfl) (by kernel_rfl) (fun _ _ _ h => h) (Or.inl ⟨by rfl, ?_⟩) hHeld ?_
              case refine_2 => (intro w hSw; (try dsimp only at hSw); go_simp; try (with_reducible rfl))
              (try simp only [gs])
              refine wpAnyH_take (i := 6) (v := ?_) rfl (by kernel_rfl) (by kernel_rfl) (by kernel_rfl) (fun _ _ _ h => h) (Or.inl ⟨by rfl, ?_⟩) hHeld ?_
              case refine_2 => (intro w hSw; (try dsimp only at hSw); go_simp; try (with_reducible rfl))
              (try simp only [gs])
              refine wpAnyH_take (i := 7) (v := ?_) rfl (by kernel_rfl) (by kernel_rfl) (by kernel_rfl) (fun _ _ _ h => h) (Or.inl ⟨by rfl, ?_⟩) hHeld ?_
              case refine_2 => (intro w hSw; (try dsimp only at hSw); go_simp; try (with_reducible rfl))
              (try simp only [gs])
              refine wpAnyH_take (i := 8) rfl (by kernel_rfl) (by kernel_rfl) (by kernel_rfl) (fun _ _ _ h => h) (yieldsIf_load_mid (by rfl) _ _ rfl _ _ rfl _ _ (fun _ h => h.1) Tryz.underlying62 rfl (hInfo c)) hHeld ?_
              (try simp only [gs])
              refine wpAnyH_take (i := 9) (v := ?_) rfl (by kernel_rfl) (by kernel_rfl) (by kernel_rfl) (fun _ _ _ h => h) (Or.inl ⟨by rfl, ?_⟩) hHeld ?_
              case refine_2 => (intro w hSw; (try dsimp only at hSw); go_simp; try (with_reducible rfl))
              (try simp only [gs])
              refine wpAnyH_take (i := 10) (v := ?_) rfl (by kernel_rfl) (by kernel_rfl) (by kernel_rfl) (fun _ _ _ h => h) (Or.inl ⟨by rfl, ?_⟩) hHeld ?_
              case refine_2 => (intro w hSw; (try dsimp only at hSw); go_simp; try (with_reducible rfl))
              (try simp only [gs])
              refine wpAnyH_take (i := 11) (v := ?_) rfl (by kernel_rfl) (by kernel_rfl) (by kernel_rfl) (fun _ _ _ h => h) (Or.inl ⟨by rfl, ?_⟩) hHeld ?_
              case refine_2 => (intro w hSw; (try dsimp only at hSw); go_simp; try (with_reducible rfl))
              (try simp only [gs])
              refine wpAnyH_take (i := 12) rfl (by kernel_rfl) (by kernel_rfl) (by kernel_rfl) (fun _ _ _ h => h) (yieldsIf_load_mid (by rfl) _ _ rfl _ _ rfl _ _ (fun _ h => h.2) Tryz.underlying62 rfl (hInfo c)) hHeld ?_
              (try simp only [gs])
              refine wpAnyH_take (i := 13) (v := .bool false) rfl (by kernel_rfl) (by kernel_rfl) (by kernel_rfl) (fun _ _ _ h => h) (Or.inl ⟨by rfl, fun w _ => by rw [exec_ne_P _ _ _ rfl c c rfl rfl w, decide_eq_true rfl]; rfl⟩) hHeld ?_
              (try simp only [gs])
              refine wpAnyH_take (i := 14) (v := ?_) rfl (by kernel_rfl) (by kernel_rfl) (by kernel_rfl) (fun _ _ _ h => h) (Or.inl ⟨by rfl, ?_⟩) hHeld ?_
              case refine_2 => (intro w hSw; (try dsimp only at hSw); go_simp; try (with_reducible rfl))
              (try simp only [gs])
              refine wpAnyH_done (by kernel_rfl) ?_ _
              refine NoPanic.normal ?_
              clear hHeld
              go_wp2_with fail
              go_roundg gg
              case measure => omega
              case rel => exact ⟨j + 1, by omega, congrArg (Value.int .i64) (by omega), by rw [HAL.out]; exact congrArg (Value.int .i64) (by omega), HBD.out⟩
      | succ gg =>
        have hjI : (j : Int) < (N : Int) := by omega
        have hj0 : (0 : Int) ≤ (j : Int) := by omega
        have hjl : j < L.length := by have := HN.out; omega
        obtain ⟨g, off, rfl, hg, hat⟩ := HIW.out j hjl
        have HRG : Hid (wr.rangeAt g (off + j * 25) (encP.c L[j])) := range_same' hat (HB.out.block g hg)
        have HRZ : Hid (∀ yy, Below z.heap.size z yy → yy.rangeAt g (off + j * 25) (encP.c L[j])) := fun yy b => range_same' hat (b.block g hg)
        have hfc := HF.out L[j] (List.getElem_mem hjl)
        generalize L[j] = c at *
        have hOf := fun w => of_calls w c.k c.h
        have hv : ofV c.k = pv (pIno c.k) (pKind c.k) (pName c.k) (pPlace c.k) := by unfold ofV; rw [if_pos hfc.1]
        rw [hv, hfc.1] at hOf
        have HFC : Hid (pKind c.k = 3 ∧ 1 ≤ c.v.length ∧ c.v.length ≤ 32 ∧ c.v.getD (c.v.length - 1) 0 ≠ 0) := hfc.2
        clear hat hg hjl hfc hv
        go_upto_region 16 with (first
          | (refine load_part _ rfl g (off + j * 25) rfl rfl _ c.h (range_kP HRG.out) ?_)
          | (go_at_call 23; refine (hOf _).mono ?_; rintro e x2 ⟨rfl, b2⟩))
        have hrow := heap_alloc_new x2 (.cells #[.int .i64 (pIno c.k), .int .i64 (pKind c.k), .string (str (pName c.k)), .int .i64 (pPlace c.k)] 58)
        have hcP : (x2.alloc (.cells #[.int .i64 (pIno c.k), .int .i64 (pKind c.k), .string (str (pName c.k)), .int .i64 (pPlace c.k)] 58)).cell? ⟨x2.heap.size, 1, none⟩ = some (.int .i64 3) := by rw [cell_of_row _ _ _ _ _ _ hrow]; rw [← HFC.out.1]; rfl
        have bA := b2.trans (((Below.refl _ x2).alloc (Nat.le_refl _) (.cells #[.int .i64 (pIno c.k), .int .i64 (pKind c.k), .string (str (pName c.k)), .int .i64 (pPlace c.k)] 58)).mono b2.size)
        generalize x2.alloc (.cells #[.int .i64 (pIno c.k), .int .i64 (pKind c.k), .string (str (pName c.k)), .int .i64 (pPlace c.k)] 58) = x3 at *
        have HB3 : Hid (Below z.heap.size z x3) := HB.out.trans (bA.mono HB.out.size)
        have hcv := range_vP (HRZ.out _ HB3.out)
        have hsz : (str c.v).size = c.v.length := str_size c.v
        obtain ⟨nv, hnv⟩ : ∃ nv : Nat, nv = c.v.length := ⟨_, rfl⟩
        have hn1 : (1 : Int) ≤ (nv : Int) := by have := HFC.out; omega
        have hn2 : (nv : Int) ≤ 32 := by have := HFC.out; omega
        obtain ⟨b, hb⟩ : ∃ b : UInt8, b = c.v.getD (c.v.length - 1) 0 := ⟨_, rfl⟩
        have hb0 : ((b.toNat : Int) == 0) = false := by
          have h1 : b ≠ 0 := by rw [hb]; exact HFC.out.2.2.2
          have h2 : b.toNat ≠ 0 := fun e => h1 (UInt8.toNat_inj.1 e)
          simpa using fun e : (b.toNat : Int) = 0 => h2 (by omega)
        have hidx : ∀ y, (Instr.index 9 (.string (str c.v)) (.int .i64 ((nv : Int) - 1))).run Tryz.prog y = .ok (.int .u8 (b.toNat : Int)) y := by
          have h1 := HFC.out.2.1
          have h2 := cidx_at (str c.v) (nv - 1) b (by
            rw [str_list, hb, hnv, List.getD_eq_getElem?_getD, List.getElem?_eq_getElem (by omega)]
            rfl)
          rw [show ((nv - 1 : Nat) : Int) = (nv : Int) - 1 by omega] at h2
          exact h2
        rw [← hnv] at hsz
        clear hrow b2 bA hOf HRG HB HFC HRZ hb hnv
        go_wp2_with fail
        go_roundg gg
        case measure => omega
        case rel => exact ⟨j + 1, by omega, congrArg (Value.int .i64) (by omega), HB3.out⟩
  case first =>
   go_wp2_with fail
   go_loopg [7] M (fun gg i wr => ∃ (j : Nat), j + gg = M ∧ i = .int .i64 (j : Int) ∧ Hid (ApC w q (2 * j) wr))
   case atStart => exact ⟨0, by omega, rfl, HS.out⟩
   case round =>
    clear HS
    obtain ⟨j, hjg, rfl, HE⟩ := hrel
    cases gk with
    | zero =>
      have hjM : j = M := by omega
      have HJ : Hid (j ≤ 20) := (show _ ≤ _ by have := HM.out; omega)
      by_cases hjN : j < N
      · have hjI : (j : Int) < (N : Int) := by omega
        have hj40 : ¬ (j : Int) < 20 := by have := HM.out; omega
        clear hjM hjN hjg
        go_wp2_with fail
        go_meet
        case rel => exact HE.out.more (by have := HJ.out; omega)
      · have hjI : ¬ (j : Int) < (N : Int) := by omega
        clear hjM hjN hjg
        go_wp2_with fail
        go_meet
        case rel => exact HE.out.more (by have := HJ.out; omega)
    | succ gg =>
      have hjI : (j : Int) < (N : Int) := by have := HM.out; omega
      have hj40 : (j : Int) < 20 := by have := HM.out; omega
      have hj0 : (0 : Int) ≤ (j : Int) := by omega
      have HJ : Hid (j < 20) := (show _ < _ by omega)
      have hjl : j < ops.length := by have := HN.out; omega
      obtain ⟨g, off, rfl, hg, hat⟩ := HI.out j hjl
      generalize ops[j] = o at *
      have HAT : Hid (∀ yy : World, Below w.heap.size w yy → yy.rangeAt g (off + j * 5) (encCo.c o)) := fun yy hb => range_same' hat (hb.block g hg)
      have HCS : Hid (∀ yy : World, yy.rangeAt g (off + j * 5) (encCo.c o) → yy.cell? ⟨g, off + j * 5 + 4, none⟩ = some (.string (str o.s))) := fun yy hh => range_cStr hh
      have HCO : Hid (∀ yy : World, yy.rangeAt g (off + j * 5) (encCo.c o) → yy.cell? ⟨g, off + j * 5 + 2, none⟩ = some (.int .i64 o.off)) := fun yy hh => range_cOff hh
      have HCI : Hid (∀ yy : World, yy.rangeAt g (off + j * 5) (encCo.c o) → yy.cell? ⟨g, off + j * 5 + 1, none⟩ = some (.int .i64 o.ino)) := fun yy hh => range_cIno hh
      clear hat hg hjl HI
      go_upto_region 8 with fail
      have hcut := str_cut300 o.s
      have hm0 : (0 : Int) ≤ min ((str o.s).size : Int) 300 := by omega
      have hm1 : min ((str o.s).size : Int) 300 ≤ ((str o.s).size : Int) := by omega
      have hm3 := and1023 o.off
      obtain ⟨at_, hat⟩ := Int.eq_ofNat_of_zero_le (show 0 ≤ o.off % 1024 by omega)
      rw [hat] at hm3
      have HA : Hid (at_ ≤ 1023) := (show _ ≤ _ by omega)
      have HRD : Hid (ApC w q (2 * j) wr.drew) := HE.out.called ⟨rfl, rfl, rfl, Nat.le_refl _, fun _ _ => rfl⟩
      have HBD : Hid (Below w.heap.size w wr.drew) := HRD.out.bel
      clear HE hat
      refine wp_region_noPanic ?_
      refine wp_region_held_drew (S := (fun yy => yy.rangeAt g (off + j * 5) (encCo.c o))) (by kernel_rfl) (HAT.out _ HBD.out) (fun hHeld => ?_)
      refine wpAnyH_take (i := 0) (v := ?_) rfl (by kernel_rfl) (by kernel_rfl) (by kernel_rfl) (fun _ _ _ h => h) (Or.inl ⟨by rfl, ?_⟩) hHeld ?_
      case refine_2 => (intro w hSw; (try dsimp only at hSw); go_simp; try (with_reducible rfl))
      (try simp only [gs])
      refine wpAnyH_take (i := 1) (v := ?_) rfl (by kernel_rfl) (by kernel_rfl) (by kernel_rfl) (fun _ _ _ h => h) (Or.inl ⟨by rfl, ?_⟩) hHeld ?_
      case refine_2 => (intro w hSw; (try dsimp only at hSw); go_simp; try (with_reducible rfl))
      (try simp only [gs])
      refine wpAnyH_take (i := 2) (v := ?_) rfl (by kernel_rfl) (by kernel_rfl) (by kernel_rfl) (fun _ _ _ h => h) (Or.inl ⟨by rfl, ?_⟩) hHeld ?_
      case refine_2 => (intro w hSw; (try dsimp only at hSw); go_simp; try (with_reducible rfl))
      (try simp only [gs])
      refine wpAnyH_take (i := 3) (v := ?_) rfl (by kernel_rfl) (by kernel_rfl) (by kernel_rfl) (fun _ _ _ h => h) (Or.inl ⟨by rfl, ?_⟩) hHeld ?_
      case refine_2 => (intro w hSw; (try dsimp only at hSw); go_simp; try (with_reducible rfl))
      (try simp only [gs])
      refine wpAnyH_take (i := 4) (v := ?_) rfl (by kernel_rfl) (by kernel_rfl) (by kernel_rfl) (fun _ _ _ h => h) (Or.inl ⟨by rfl, ?_⟩) hHeld ?_
      case refine_2 => (intro w hSw; (try dsimp only at hSw); go_simp; try (with_reducible rfl))
      (try simp only [gs])
      refine wpAnyH_take (i := 5) (v := ?_) rfl (by kernel_rfl) (by kernel_rfl) (by kernel_rfl) (fun _ _ _ h => h) (Or.inl ⟨by rfl, ?_⟩) hHeld ?_
      case refine_2 => (intro w hSw; (try dsimp only at hSw); have hc1 := HCO.out _ hSw; have hc2 := HCS.out _ hSw; have hc3 := HCI.out _ hSw; go_simp; try (with_reducible rfl))
      (try simp only [gs])
      refine wpAnyH_take (i := 6) (v := ?_) rfl (by kernel_rfl) (by kernel_rfl) (by kernel_rfl) (fun _ _ _ h => h) (Or.inl ⟨by rfl, ?_⟩) hHeld ?_
      case refine_2 => (intro w hSw; (try dsimp only at hSw); go_simp; try (with_reducible rfl))
      (try simp only [gs])
      refine wpAnyH_take (i := 7) (v := ?_) rfl (by kernel_rfl) (by kernel_rfl) (by kernel_rfl) (fun _ _ _ h => h) (Or.inl ⟨by rfl, ?_⟩) hHeld ?_
      case refine_2 => (intro w hSw; (try dsimp only at hSw); go_simp; try (with_reducible rfl))
      (try simp only [gs])
      refine wpAnyH_take (i := 8) (v := ?_) rfl (by kernel_rfl) (by kernel_rfl) (by kernel_rfl) (fun _ _ _ h => h) (Or.inl ⟨by rfl, ?_⟩) hHeld ?_
      case refine_2 => (intro w hSw; (try dsimp only at hSw); go_simp; try (with_reducible rfl))
      (try simp only [gs])
      refine wpAnyH_take (i := 9) (v := ?_) rfl (by kernel_rfl) (by kernel_rfl) (by kernel_rfl) (fun _ _ _ h => h) (Or.inl ⟨by rfl, ?_⟩) hHeld ?_
      case refine_2 => (intro w hSw; (try dsimp only at hSw); go_simp; try (with_reducible rfl))
      (try simp only [gs])
      refine wpAnyH_take (i := 10) (v := ?_) rfl (by kernel_rfl) (by kernel_rfl) (by kernel_rfl) (fun _ _ _ h => h) (Or.inl ⟨by rfl, ?_⟩) hHeld ?_
      case refine_2 => (intro w hSw; (try dsimp only at hSw); go_simp; try (with_reducible rfl))
      (try simp only [gs])
      refine wpAnyH_take (i := 11) (v := ?_) rfl (by kernel_rfl) (by kernel_rfl) (by kernel_rfl) (fun _ _ _ h => h) (Or.inl ⟨by rfl, ?_⟩) hHeld ?_
      case refine_2 => (intro w hSw; (try dsimp only at hSw); have hc1 := HCO.out _ hSw; have hc2 := HCS.out _ hSw; have hc3 := HCI.out _ hSw; go_simp; try (with_reducible rfl))
      (try simp only [gs])
      refine wpAnyH_take (i := 12) (v := ?_) rfl (by kernel_rfl) (by kernel_rfl) (by kernel_rfl) (fun _ _ _ h => h) (Or.inl ⟨by rfl, ?_⟩) hHeld ?_
      case refine_2 => (intro w hSw; (try dsimp only at hSw); go_simp; try (with_reducible rfl))
      (try simp only [gs])
      refine wpAnyH_take (i := 13) (v := ?_) rfl (by kernel_rfl) (by kernel_rfl) (by kernel_rfl) (fun _ _ _ h => h) (Or.inl ⟨by rfl, ?_⟩) hHeld ?_
      case refine_2 => (intro w hSw; (try dsimp only at hSw); go_simp; try (with_reducible rfl))
      (try simp only [gs])
      refine wpAnyH_take (i := 14) (v := ?_) rfl (by kernel_rfl) (by kernel_rfl) (by kernel_rfl) (fun _ _ _ h => h) (Or.inl ⟨by rfl, ?_⟩) hHeld ?_
      case refine_2 => (intro w hSw; (try dsimp only at hSw); go_simp; try (with_reducible rfl))
      (try simp only [gs])
      refine wpAnyH_take (i := 15) (v := ?_) rfl (by kernel_rfl) (by kernel_rfl) (by kernel_rfl) (fun _ _ _ h => h) (Or.inl ⟨by rfl, ?_⟩) hHeld ?_
      case refine_2 => (intro w hSw; (try dsimp only at hSw); go_simp; try (with_reducible rfl))
      (try simp only [gs])
      refine wpAnyH_take (i := 16) (v := ?_) rfl (by kernel_rfl) (by kernel_rfl) (by kernel_rfl) (fun _ _ _ h => h) (Or.inl ⟨by rfl, ?_⟩) hHeld ?_
      case refine_2 => (intro w hSw; (try dsimp only at hSw); have hc1 := HCO.out _ hSw; have hc2 := HCS.out _ hSw; have hc3 := HCI.out _ hSw; go_simp; try (with_reducible rfl))
      (try simp only [gs])
      refine wpAnyH_take (i := 17) (v := ?_) rfl (by kernel_rfl) (by kernel_rfl) (by kernel_rfl) (fun _ _ _ h => h) (Or.inl ⟨by rfl, ?_⟩) hHeld ?_
      case refine_2 => (intro w hSw; (try dsimp only at hSw); go_simp; try (with_reducible rfl))
      (try simp only [gs])
      refine wpAnyH_take (i := 18) (v := ?_) rfl (by kernel_rfl) (by kernel_rfl) (by kernel_rfl) (fun _ _ _ h => h) (Or.inl ⟨by rfl, ?_⟩) hHeld ?_
      case refine_2 => (intro w hSw; (try dsimp only at hSw); go_simp; try (with_reducible rfl))
      (try simp only [gs])
      refine wpAnyH_take (i := 19) (v := ?_) rfl (by kernel_rfl) (by kernel_rfl) (by kernel_rfl) (fun _ _ _ h => h) (Or.inl ⟨by rfl, ?_⟩) hHeld ?_
      case refine_2 => (intro w hSw; (try dsimp only at hSw); go_simp; try (with_reducible rfl))
      (try simp only [gs])
      (try rw [hm3])
      have h3 := HRD.out.write (by have := HJ.out; omega) (ino := 5) rfl rfl at_ (o.s.take 300) HA.out (by rw [List.length_take]; omega)
      generalize wr.drew = z0 at *
      refine wpAnyH_ready (rs := [20]) (by kernel_rfl) (by simp) (AllReadyH.cons rfl (fun K0 hK => ?_) AllReadyH.nil)
      rw [if_pos (by rfl)]
      (try simp only [gs])
      go_simp
      refine h3.mono ?_
      clear h3
      rintro e z1 ⟨rfl, R1⟩
      refine hK.out _ _ (HAT.out _ R1.bel) (fun hHeld => ?_)
      clear hK K0
      (try simp only [gs])
      refine wpAnyH_done (by kernel_rfl) ?_ _
      refine NoPanic.normal ?_
      clear hHeld
      have HR1 : Hid (ApC w q (2 * j + 1) z1) := R1
      clear R1 HRD HBD HAT
      clear hcut hm0 hm1 hm3 HCS HCO HCI
      by_cases hj2 : j < N2
      · have hj2I : (j : Int) < (N2 : Int) := by omega
        have hjl : j < others.length := by have := HN2.out; omega
        obtain ⟨g2, of2, rfl, hg, hat⟩ := HI2.out j hjl
        generalize others[j] = t at *
        have HAT2 : Hid (∀ yy : World, Below w.heap.size w yy → yy.rangeAt g2 (of2 + j * 5) (encCo.c t)) := fun yy hb => range_same' hat (hb.block g2 hg)
        have HCS : Hid (∀ yy : World, yy.rangeAt g2 (of2 + j * 5) (encCo.c t) → yy.cell? ⟨g2, of2 + j * 5 + 4, none⟩ = some (.string (str t.s))) := fun yy hh => range_cStr hh
        have HCO : Hid (∀ yy : World, yy.rangeAt g2 (of2 + j * 5) (encCo.c t) → yy.cell? ⟨g2, of2 + j * 5 + 2, none⟩ = some (.int .i64 t.off)) := fun yy hh => range_cOff hh
        have HCI : Hid (∀ yy : World, yy.rangeAt g2 (of2 + j * 5) (encCo.c t) → yy.cell? ⟨g2, of2 + j * 5 + 1, none⟩ = some (.int .i64 t.ino)) := fun yy hh => range_cIno hh
        clear hat hg hjl hj2 HI2
        go_upto_region 10 with fail
        have hcut := str_cut300 t.s
        have hm0 : (0 : Int) ≤ min ((str t.s).size : Int) 300 := by omega
        have hm1 : min ((str t.s).size : Int) 300 ≤ ((str t.s).size : Int) := by omega
        have hm5 := and1023 t.off
        have HK3 : 0 ≤ bits .and .i64 t.ino 3 ∧ bits .and .i64 t.ino 3 ≤ 3 := by rw [and3]; omega
        have HK : Hid (okNum (6 + bits .and .i64 t.ino 3) = true ∧ okN (6 + bits .and .i64 t.ino 3) = true) := ok69 HK3
        obtain ⟨bt_, hat⟩ := Int.eq_ofNat_of_zero_le (show 0 ≤ t.off % 1024 by omega)
        rw [hat] at hm5
        have HB : Hid (bt_ ≤ 1023) := (show _ ≤ _ by omega)
        have HRD2 : Hid (ApC w q (2 * j + 1) z1.drew) := HR1.out.called ⟨rfl, rfl, rfl, Nat.le_refl _, fun _ _ => rfl⟩
        have HBD2 : Hid (Below w.heap.size w z1.drew) := HRD2.out.bel
        have hw6 : IntKind.i64.wrap (6 + bits .and .i64 t.ino 3) = 6 + bits .and .i64 t.ino 3 := by rw [IntKind.wrap_i64]; omega
        clear HR1 hat HK3
        refine wp_region_noPanic ?_
        refine wp_region_held_drew (S := (fun yy => yy.rangeAt g2 (of2 + j * 5) (encCo.c t))) (by kernel_rfl) (HAT2.out _ HBD2.out) (fun hHeld => ?_)
        refine wpAnyH_take (i := 0) (v := ?_) rfl (by kernel_rfl) (by kernel_rfl) (by kernel_rfl) (fun _ _ _ h => h) (Or.inl ⟨by rfl, ?_⟩) hHeld ?_
        case refine_2 => (intro w hSw; (try dsimp only at hSw); go_simp; try (with_reducible rfl))
        (try simp only [gs])
        refine wpAnyH_take (i := 1) (v := ?_) rfl (by kernel_rfl) (by kernel_rfl) (by kernel_rfl) (fun _ _ _ h => h) (Or.inl ⟨by rfl, ?_⟩) hHeld ?_
        case refine_2 => (intro w hSw; (try dsimp only at hSw); go_simp; try (with_reducible rfl))
        (try simp only [gs])
        refine wpAnyH_take (i := 2) (v := ?_) rfl (by kernel_rfl) (by kernel_rfl) (by kernel_rfl) (fun _ _ _ h => h) (Or.inl ⟨by rfl, ?_⟩) hHeld ?_
        case refine_2 => (intro w hSw; (try dsimp only at hSw); go_simp; try (with_reducible rfl))
        (try simp only [gs])
        refine wpAnyH_take (i := 3) (v := ?_) rfl (by kernel_rfl) (by kernel_rfl) (by kernel_rfl) (fun _ _ _ h => h) (Or.inl ⟨by rfl, ?_⟩) hHeld ?_
        case refine_2 => (intro w hSw; (try dsimp only at hSw); go_simp; try (with_reducible rfl))
        (try simp only [gs])
        refine wpAnyH_take (i := 4) (v := ?_) rfl (by kernel_rfl) (by kernel_rfl) (by kernel_rfl) (fun _ _ _ h => h) (Or.inl ⟨by rfl, ?_⟩) hHeld ?_
        case refine_2 => (intro w hSw; (try dsimp only at hSw); go_simp; try (with_reducible rfl))
        (try simp only [gs])
        refine wpAnyH_take (i := 5) (v := ?_) rfl (by kernel_rfl) (by kernel_rfl) (by kernel_rfl) (fun _ _ _ h => h) (Or.inl ⟨by rfl, ?_⟩) hHeld ?_
        case refine_2 => (intro w hSw; (try dsimp only at hSw); have hc1 := HCO.out _ hSw; have hc2 := HCS.out _ hSw; have hc3 := HCI.out _ hSw; go_simp; try (with_reducible rfl))
        (try simp only [gs])
        refine wpAnyH_take (i := 6) (v := ?_) rfl (by kernel_rfl) (by kernel_rfl) (by kernel_rfl) (fun _ _ _ h => h) (Or.inl ⟨by rfl, ?_⟩) hHeld ?_
        case refine_2 => (intro w hSw; (try dsimp only at hSw); go_simp; try (with_reducible rfl))
        (try simp only [gs])
        refine wpAnyH_take (i := 7) (v := ?_) rfl (by kernel_rfl) (by kernel_rfl) (by kernel_rfl) (fun _ _ _ h => h) (Or.inl ⟨by rfl, ?_⟩) hHeld ?_
        case refine_2 => (intro w hSw; (try dsimp only at hSw); go_simp; try (with_reducible rfl))
        (try simp only [gs])
        refine wpAnyH_take (i := 8) (v := ?_) rfl (by kernel_rfl) (by kernel_rfl) (by kernel_rfl) (fun _ _ _ h => h) (Or.inl ⟨by rfl, ?_⟩) hHeld ?_
        case refine_2 => (intro w hSw; (try dsimp only at hSw); go_simp; try (with_reducible rfl))
        (try simp only [gs])
        refine wpAnyH_take (i := 9) (v := ?_) rfl (by kernel_rfl) (by kernel_rfl) (by kernel_rfl) (fun _ _ _ h => h) (Or.inl ⟨by rfl, ?_⟩) hHeld ?_
        case refine_2 => (intro w hSw; (try dsimp only at hSw); go_simp; try (with_reducible rfl))
        (try simp only [gs])
        refine wpAnyH_take (i := 10) (v := ?_) rfl (by kernel_rfl) (by kernel_rfl) (by kernel_rfl) (fun _ _ _ h => h) (Or.inl ⟨by rfl, ?_⟩) hHeld ?_
        case refine_2 => (intro w hSw; (try dsimp only at hSw); go_simp; try (with_reducible rfl))
        (try simp only [gs])
        refine wpAnyH_take (i := 11) (v := ?_) rfl (by kernel_rfl) (by kernel_rfl) (by kernel_rfl) (fun _ _ _ h => h) (Or.inl ⟨by rfl, ?_⟩) hHeld ?_
        case refine_2 => (intro w hSw; (try dsimp only at hSw); go_simp; try (with_reducible rfl))
        (try simp only [gs])
        refine wpAnyH_take (i := 12) (v := ?_) rfl (by kernel_rfl) (by kernel_rfl) (by kernel_rfl) (fun _ _ _ h => h) (Or.inl ⟨by rfl, ?_⟩) hHeld ?_
        case refine_2 => (intro w hSw; (try dsimp only at hSw); have hc1 := HCO.out _ hSw; have hc2 := HCS.out _ hSw; have hc3 := HCI.out _ hSw; go_simp; try (with_reducible rfl))
        (try simp only [gs])
        refine wpAnyH_take (i := 13) (v := ?_) rfl (by kernel_rfl) (by kernel_rfl) (by kernel_rfl) (fun _ _ _ h => h) (Or.inl ⟨by rfl, ?_⟩) hHeld ?_
        case refine_2 => (intro w hSw; (try dsimp only at hSw); go_simp; try (with_reducible rfl))
        (try simp only [gs])
        refine wpAnyH_take (i := 14) (v := ?_) rfl (by kernel_rfl) (by kernel_rfl) (by kernel_rfl) (fun _ _ _ h => h) (Or.inl ⟨by rfl, ?_⟩) hHeld ?_
        case refine_2 => (intro w hSw; (try dsimp only at hSw); go_simp; try (with_reducible rfl))
        (try simp only [gs])
        refine wpAnyH_take (i := 15) (v := ?_) rfl (by kernel_rfl) (by kernel_rfl) (by kernel_rfl) (fun _ _ _ h => h) (Or.inl ⟨by rfl, ?_⟩) hHeld ?_
        case refine_2 => (intro w hSw; (try dsimp only at hSw); go_simp; try (with_reducible rfl))
        (try simp only [gs])
        refine wpAnyH_take (i := 16) (v := ?_) rfl (by kernel_rfl) (by kernel_rfl) (by kernel_rfl) (fun _ _ _ h => h) (Or.inl ⟨by rfl, ?_⟩) hHeld ?_
        case refine_2 => (intro w hSw; (try dsimp only at hSw); go_simp; try (with_reducible rfl))
        (try simp only [gs])
        refine wpAnyH_take (i := 17) (v := ?_) rfl (by kernel_rfl) (by kernel_rfl) (by kernel_rfl) (fun _ _ _ h => h) (Or.inl ⟨by rfl, ?_⟩) hHeld ?_
        case refine_2 => (intro w hSw; (try dsimp only at hSw); go_simp; try (with_reducible rfl))
        (try simp only [gs])
        refine wpAnyH_take (i := 18) (v := ?_) rfl (by kernel_rfl) (by kernel_rfl) (by kernel_rfl) (fun _ _ _ h => h) (Or.inl ⟨by rfl, ?_⟩) hHeld ?_
        case refine_2 => (intro w hSw; (try dsimp only at hSw); have hc1 := HCO.out _ hSw; have hc2 := HCS.out _ hSw; have hc3 := HCI.out _ hSw; go_simp; try (with_reducible rfl))
        (try simp only [gs])
        refine wpAnyH_take (i := 19) (v := ?_) rfl (by kernel_rfl) (by kernel_rfl) (by kernel_rfl) (fun _ _ _ h => h) (Or.inl ⟨by rfl, ?_⟩) hHeld ?_
        case refine_2 => (intro w hSw; (try dsimp only at hSw); go_simp; try (with_reducible rfl))
        (try simp only [gs])
        refine wpAnyH_take (i := 20) (v := ?_) rfl (by kernel_rfl) (by kernel_rfl) (by kernel_rfl) (fun _ _ _ h => h) (Or.inl ⟨by rfl, ?_⟩) hHeld ?_
        case refine_2 => (intro w hSw; (try dsimp only at hSw); go_simp; try (with_reducible rfl))
        (try simp only [gs])
        refine wpAnyH_take (i := 21) (v := ?_) rfl (by kernel_rfl) (by kernel_rfl) (by kernel_rfl) (fun _ _ _ h => h) (Or.inl ⟨by rfl, ?_⟩) hHeld ?_
        case refine_2 => (intro w hSw; (try dsimp only at hSw); go_simp; try (with_reducible rfl))
        (try simp only [gs])
        refine wpAnyH_take (i := 22) (v := ?_) rfl (by kernel_rfl) (by kernel_rfl) (by kernel_rfl) (fun _ _ _ h => h) (Or.inl ⟨by rfl, ?_⟩) hHeld ?_
        case refine_2 => (intro w hSw; (try dsimp only at hSw); go_simp; try (with_reducible rfl))
        (try simp only [gs])
        refine wpAnyH_take (i := 23) (v := ?_) rfl (by kernel_rfl) (by kernel_rfl) (by kernel_rfl) (fun _ _ _ h => h) (Or.inl ⟨by rfl, ?_⟩) hHeld ?_
        case refine_2 => (intro w hSw; (try dsimp only at hSw); have hc1 := HCO.out _ hSw; have hc2 := HCS.out _ hSw; have hc3 := HCI.out _ hSw; go_simp; try (with_reducible rfl))
        (try simp only [gs])
        refine wpAnyH_take (i := 24) (v := ?_) rfl (by kernel_rfl) (by kernel_rfl) (by kernel_rfl) (fun _ _ _ h => h) (Or.inl ⟨by rfl, ?_⟩) hHeld ?_
        case refine_2 => (intro w hSw; (try dsimp only at hSw); go_simp; try (with_reducible rfl))
        (try simp only [gs])
        refine wpAnyH_take (i := 25) (v := ?_) rfl (by kernel_rfl) (by kernel_rfl) (by kernel_rfl) (fun _ _ _ h => h) (Or.inl ⟨by rfl, ?_⟩) hHeld ?_
        case refine_2 => (intro w hSw; (try dsimp only at hSw); go_simp; try (with_reducible rfl))
        (try simp only [gs])
        refine wpAnyH_take (i := 26) (v := ?_) rfl (by kernel_rfl) (by kernel_rfl) (by kernel_rfl) (fun _ _ _ h => h) (Or.inl ⟨by rfl, ?_⟩) hHeld ?_
        case refine_2 => (intro w hSw; (try dsimp only at hSw); go_simp; try (with_reducible rfl))
        (try simp only [gs])
        (try rw [hm5])
        have h3 := HRD2.out.write (by have := HJ.out; omega) HK.out.1 HK.out.2 bt_ (t.s.take 300) HB.out (by rw [List.length_take]; omega)
        generalize z1.drew = z2 at *
        refine wpAnyH_ready (rs := [27]) (by kernel_rfl) (by simp) (AllReadyH.cons rfl (fun K0 hK => ?_) AllReadyH.nil)
        rw [if_pos (by rfl)]
        (try simp only [gs])
        go_simp
        (try rw [hw6])
        refine h3.mono ?_
        clear h3
        rintro e z3 ⟨rfl, R3⟩
        refine hK.out _ _ (HAT2.out _ R3.bel) (fun hHeld => ?_)
        clear hK K0
        (try simp only [gs])
        refine wpAnyH_done (by kernel_rfl) ?_ _
        refine NoPanic.normal ?_
        clear hHeld
        have HR3 : Hid (ApC w q (2 * (j + 1)) z3) := R3.more (by omega)
        clear R3 HRD2 HBD2 HAT2
        clear hcut hm0 hm1 hm5 HCS HCO HCI hw6 HK
        go_wp2_with fail
        go_roundg gg
        case measure => omega
        case rel => exact ⟨j + 1, by omega, congrArg (Value.int .i64) (by omega), HR3.out⟩
      · have hj2I : ¬ (j : Int) < (N2 : Int) := by omega
        clear hj2 HI2
        go_wp2_with fail
        go_roundg gg
        case measure => omega
        case rel => exact ⟨j + 1, by omega, congrArg (Value.int .i64) (by omega), HR1.out.more (by omega)⟩
end Go.Proofs.YtdmindhjmjnagaaGreatDoor
