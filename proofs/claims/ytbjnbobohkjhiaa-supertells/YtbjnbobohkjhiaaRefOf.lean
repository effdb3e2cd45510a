/- The document's own words: Of. -/
import Derived.Test.YtbjnbobohkjhiaaRefPa
namespace Go.Proofs.Ytbjnbobohkjhiaa
set_option linter.unusedVariables false
open Go.RowKit

theorem get_eq (w : World) (L : List UInt8) (P Wd : Int) (p W : Nat) (hP : P = (p : Int)) (hWd : Wd = (W : Int)) (hp : p ≤ 100000) (hW : W ≤ 8) (hL : L.length ≤ 1000) :
    Calls Try.prog 26 #[.string (str L), .int .i64 P, .int .i64 Wd] w fun e w' => e = .returned (.int .i64 (getP L p W)) ∧ w' = w := by
  subst hP hWd
  exact get_calls w L p W hp hW hL
theorem cut_eq (w : World) (L : List UInt8) (P N : Int) (p n : Nat) (hP : P = (p : Int)) (hN : N = (n : Int)) (hp : p ≤ 100000) (hn : n ≤ 1000) (hL : L.length ≤ 1000) :
    Calls Try.prog 27 #[.string (str L), .int .i64 P, .int .i64 N] w fun e w' => e = .returned (.string (str (cutP L p n))) ∧ w' = w := by
  subst hP hN
  exact rcut_calls w L p n hp hn hL
theorem byt_snap (W : World) (s : Snp) : ∀ j u, (sncs [s])[j]? = some u → (W.alloc (.cells #[.string s.n, .int .i64 s.r, .int .i64 s.c] 49)).cell? ((⟨W.heap.size, 0, none⟩ : Addr).add j) = some u := fun j u hu => by
  rw [add_lit, Nat.zero_add, cell_of_row _ _ _ _ _ _ (heap_alloc_new _ _)]
  simpa [sncs] using hu
set_option maxHeartbeats 8000000 in
set_option maxRecDepth 100000 in
theorem rof_calls (w : World) (L : List UInt8) (hL : L.length ≤ 1000) : Calls Try.prog 14 #[.string (str L)] w (OfTo w (ofP L)) := by
  obtain ⟨i0, hi, hz0, hz1, hz2⟩ := info_parts Try.info_snap
  go_enter Try.func14, Try.ntmps14
  go_upto_region 2 with (go_at_call 26; first
    | (refine (get_eq _ L _ _ 0 8 (by omega) (by omega) (by omega) (by omega) hL).mono ?_; rintro e w1 ⟨rfl, rfl⟩)
    | (refine (get_eq _ L _ _ 12 4 (by omega) (by omega) (by omega) (by omega) hL).mono ?_; rintro e w1 ⟨rfl, rfl⟩)
    | (refine (get_eq _ L _ _ 16 4 (by omega) (by omega) (by omega) (by omega) hL).mono ?_; rintro e w1 ⟨rfl, rfl⟩)
    | (refine (get_eq _ L _ _ 20 8 (by omega) (by omega) (by omega) (by omega) hL).mono ?_; rintro e w1 ⟨rfl, rfl⟩))
  have PA : Hid (parse L = ⟨getP L 0 8, getP L 12 4, getP L 16 4, getP L 20 8, rlist L (rlen L 28) 29⟩) := (show _ = _ from rfl)
  generalize getP L 0 8 = G at *
  generalize getP L 12 4 = R at *
  generalize getP L 16 4 = X at *
  generalize getP L 20 8 = C at *
  have Z0 : HasU ((w.alloc (.cells #[.int .i64 0, .int .i64 0, .int .i64 0, .int .i64 0, .slice none 0 0] 24)).alloc (.cells #[.int .i64 G, .int .i64 R, .int .i64 X, .int .i64 C, .slice none 0 0] 24)) w.heap.size nilU (.slice none 0 0) := (HasU.new w nilU _ _ rfl rfl).alloc _
  have U0 : HasU ((w.alloc (.cells #[.int .i64 0, .int .i64 0, .int .i64 0, .int .i64 0, .slice none 0 0] 24)).alloc (.cells #[.int .i64 G, .int .i64 R, .int .i64 X, .int .i64 C, .slice none 0 0] 24)) (w.heap.size + 1) ⟨G, R, X, C, []⟩ (.slice none 0 0) := HasU.new _ ⟨G, R, X, C, []⟩ _ _ (by simp) rfl
  have B0 : Below w.heap.size w ((w.alloc (.cells #[.int .i64 0, .int .i64 0, .int .i64 0, .int .i64 0, .slice none 0 0] 24)).alloc (.cells #[.int .i64 G, .int .i64 R, .int .i64 X, .int .i64 C, .slice none 0 0] 24)) := ((Below.refl _ w).alloc (Nat.le_refl _) _).alloc (by simp) _
  have S0 : ((w.alloc (.cells #[.int .i64 0, .int .i64 0, .int .i64 0, .int .i64 0, .slice none 0 0] 24)).alloc (.cells #[.int .i64 G, .int .i64 R, .int .i64 X, .int .i64 C, .slice none 0 0] 24)).heap.size = w.heap.size + 2 := by simp
  generalize (w.alloc (.cells #[.int .i64 0, .int .i64 0, .int .i64 0, .int .i64 0, .slice none 0 0] 24)).alloc (.cells #[.int .i64 G, .int .i64 R, .int .i64 X, .int .i64 C, .slice none 0 0] 24) = W at *
  have hM := rlen_lt L 28
  have hq := getP_one L 28
  generalize rlen L 28 = M at *
  go_upto_region 5 with (go_at_call 26; refine (get_eq _ L _ _ 28 1 (by omega) (by omega) (by omega) (by omega) hL).mono ?_; rintro e w1 ⟨rfl, rfl⟩)
  clear hq
  go_loopw [6, 7] (fun p i wr => ∃ (k : Nat) (tv : Value), k ≤ M ∧ i = .int .i64 (k : Int) ∧ p = .int .i64 ((rpos L k 29 : Nat) : Int) ∧ HasU wr (w.heap.size + 1) ⟨G, R, X, C, rlist L k 29⟩ tv ∧ Hid (wr.ownsRow (w.heap.size + 2) 49 3 tv k (sncs (rlist L k 29))) ∧ HasU wr w.heap.size nilU (.slice none 0 0) ∧ Below w.heap.size w wr ∧ w.heap.size + 2 ≤ wr.heap.size) (fun _ i _ => M - (intOf i).toNat)
  case atStart => exact ⟨0, .slice none 0 0, Nat.zero_le _, rfl, rfl, U0, World.ownsRow_nil _ _ _ _, Z0, B0, by omega⟩
  case round =>
    clear U0 Z0 B0 S0
    obtain ⟨k, tv, hk, rfl, rfl, UW, HO, ZW, BW, hws⟩ := hrel
    obtain ⟨ta, tc, rfl⟩ := own_form3 HO.out
    by_cases hlt : k < M
    · have hpl := rpos_le L k 29
      have HL1 : Hid (rlist L (k + 1) 29 = rlist L k 29 ++ [rsnap L (rpos L k 29)]) := rlist_succ L k 29
      have HP1 : Hid (rpos L (k + 1) 29 = rnext L (rpos L k 29)) := rpos_succ L k 29
      generalize hp : rpos L k 29 = p at *
      clear hp
      have hp5 : p ≤ 70000 := by omega
      clear hpl
      have hn := rlen_lt L p
      have hq := getP_one L p
      have HX : Hid (rsnap L p = ⟨str (cutP L (p + 1) (rlen L p)), getP L (p + 1 + rlen L p) 4, getP L (p + 5 + rlen L p) 8⟩) := (show _ = _ from rfl)
      have HN : Hid (rnext L p = p + 13 + rlen L p) := (show _ = _ from rfl)
      generalize rlen L p = n at *
      generalize rlist L k 29 = l at *
      go_upto_region 9 with (first
        | (go_at_call 26; first
          | (refine (get_eq _ L _ _ p 1 (by omega) (by omega) (by omega) (by omega) hL).mono ?_; rintro e wr ⟨rfl, rfl⟩)
          | (refine (get_eq _ L _ _ (p + 1 + n) 4 (by omega) (by omega) (by omega) (by omega) hL).mono ?_; rintro e wr ⟨rfl, rfl⟩)
          | (refine (get_eq _ L _ _ (p + 5 + n) 8 (by omega) (by omega) (by omega) (by omega) hL).mono ?_; rintro e wr ⟨rfl, rfl⟩))
        | (go_at_call 27; refine (cut_eq _ L _ _ (p + 1) n (by omega) (by omega) (by omega) (by omega) hL).mono ?_; rintro e wr ⟨rfl, rfl⟩))
      generalize cutP L (p + 1) n = cs at *
      generalize getP L (p + 1 + n) 4 = a4 at *
      generalize getP L (p + 5 + n) 8 = a8 at *
      have UV := UW.alloc (.cells #[.string (str cs), .int .i64 a4, .int .i64 a8] 49)
      have ZV := ZW.alloc (.cells #[.string (str cs), .int .i64 a4, .int .i64 a8] 49)
      have OV := HO.out.alloc (.cells #[.string (str cs), .int .i64 a4, .int .i64 a8] 49)
      have BV := BW.alloc BW.size (.cells #[.string (str cs), .int .i64 a4, .int .i64 a8] 49)
      have SV : (wr.alloc (.cells #[.string (str cs), .int .i64 a4, .int .i64 a8] 49)).heap.size = wr.heap.size + 1 := by simp
      obtain ⟨kx0, kx1, kx2⟩ := cells3 (heap_alloc_new wr (.cells #[.string (str cs), .int .i64 a4, .int .i64 a8] 49))
      generalize wr.alloc (.cells #[.string (str cs), .int .i64 a4, .int .i64 a8] 49) = V at *
      obtain ⟨_, _, _, _, k4⟩ := UV.cells
      have hnews := byt_snap V ⟨str cs, a4, a8⟩
      have HNW : Hid (∀ j u, (sncs [⟨str cs, a4, a8⟩])[j]? = some u → (V.alloc (.cells #[.string (str cs), .int .i64 a4, .int .i64 a8] 49)).cell? ((⟨V.heap.size, 0, none⟩ : Addr).add j) = some u) := hnews
      have HUV : Hid (HasU V (w.heap.size + 1) ⟨G, R, X, C, l⟩ (.slice ta k tc)) := UV
      have HZV : Hid (HasU V w.heap.size nilU (.slice none 0 0)) := ZV
      have HOV : Hid (V.ownsRow (w.heap.size + 2) 49 3 (.slice ta k tc) k (sncs l)) := OV
      clear hnews UW ZW HO UV ZV OV BW
      generalize wr.heap.size = q at *
      have HNX : Hid (∀ j u, (sncs [⟨str cs, a4, a8⟩])[j]? = some u → (V.alloc (.cells #[.string (str cs), .int .i64 a4, .int .i64 a8] 49)).cell? ((⟨q + 1, 0, none⟩ : Addr).add j) = some u) := (by rw [← SV]; exact HNW.out)
      clear HNW
      go_upto_region 10 with (at_builtin; refine wpList_append_own _ rfl (.tmp 50) (.tmp 52) 22 rfl (w.heap.size + 2) 49 i0 (.agg #[.string ⟨#[]⟩, .int .i64 0, .int .i64 0]) 3 32 Try.underlying22 hi hz0 hz1 hz2 rfl (by omega) (.slice ta k tc) k (sncs l) rfl (HOV.out.alloc _) ⟨q + 1, 0, none⟩ 1 1 (sncs [⟨str cs, a4, a8⟩]) rfl rfl HNX.out (sncs_one _) (by unfold maxLen; omega) (by omega) (by simp; omega) ?_; intro v' w4 hown0 hgrow _; have hown : w4.ownsRow (w.heap.size + 2) 49 3 v' (k + 1) (sncs (l ++ [⟨str cs, a4, a8⟩])) := (by rw [sncs_append]; exact hown0); clear hown0; obtain ⟨a', c', rfl⟩ := own_form3 hown; have U4 := (HUV.out.alloc (.cells #[.string (str cs), .int .i64 a4, .int .i64 a8] 49)).same (hgrow.block _ (HUV.out.alloc _).lt (fun e => says_apart HUV.out HOV.out e.symm)); have f4 := U4.free 4; have q4 := U4.cells.2.2.2.2)
      have U5 := U4.set4 ⟨G, R, X, C, l ++ [⟨str cs, a4, a8⟩]⟩ (.slice a' (k + 1) c') rfl rfl
      have Z4 := (HZV.out.alloc (.cells #[.string (str cs), .int .i64 a4, .int .i64 a8] 49)).same (hgrow.block _ (HZV.out.alloc _).lt (fun e => says_apart HZV.out HOV.out e.symm))
      have Z5 : HasU (w4.setCell ⟨w.heap.size + 1, 4, none⟩ (.slice a' (k + 1) c')) w.heap.size nilU (.slice none 0 0) := Z4.same (Below.heap_setCell _ _ _ _ (by simp))
      have O5 : (w4.setCell ⟨w.heap.size + 1, 4, none⟩ (.slice a' (k + 1) c')).ownsRow (w.heap.size + 2) 49 3 (.slice a' (k + 1) c') (k + 1) (sncs (l ++ [⟨str cs, a4, a8⟩])) := ownsRow_setCell_below hown (by simp) _
      have B4 : Below w.heap.size w w4 := (BV.alloc BV.size _).grown hgrow (by have := BV.size; simp; omega) (fun k hk => by have := HOV.out.lt k hk; omega)
      have B5 : Below w.heap.size w (w4.setCell ⟨w.heap.size + 1, 4, none⟩ (.slice a' (k + 1) c')) := B4.setCell (by simp) _
      have S5 : w.heap.size + 2 ≤ (w4.setCell ⟨w.heap.size + 1, 4, none⟩ (.slice a' (k + 1) c')).heap.size := by have := hgrow.size; simp [World.setCell] at this ⊢; omega
      have HU5 : Hid (HasU (w4.setCell ⟨w.heap.size + 1, 4, none⟩ (.slice a' (k + 1) c')) (w.heap.size + 1) ⟨G, R, X, C, rlist L (k + 1) 29⟩ (.slice a' (k + 1) c')) := (by rw [HL1.out, HX.out]; exact U5)
      have HO5 : Hid ((w4.setCell ⟨w.heap.size + 1, 4, none⟩ (.slice a' (k + 1) c')).ownsRow (w.heap.size + 2) 49 3 (.slice a' (k + 1) c') (k + 1) (sncs (rlist L (k + 1) 29))) := (by rw [HL1.out, HX.out]; exact O5)
      have HZ5 : Hid (HasU (w4.setCell ⟨w.heap.size + 1, 4, none⟩ (.slice a' (k + 1) c')) w.heap.size nilU (.slice none 0 0)) := Z5
      clear U5 Z4 Z5 O5 B4 U4 f4 q4 hown hgrow HUV HZV HOV BV kx0 kx1 kx2 k4
      generalize w4.setCell ⟨w.heap.size + 1, 4, none⟩ (.slice a' (k + 1) c') = w5 at *
      go_wp2
      go_round
      case rel => exact ⟨k + 1, .slice a' (k + 1) c', by omega, by go_num, by rw [HP1.out, HN.out]; rfl, HU5.out, HO5, HZ5.out, B5, S5⟩
      case measure => simp [intOf]; omega
    · have e : k = M := by omega
      subst e
      have HPA : Hid ((⟨G, R, X, C, rlist L k 29⟩ : Sup) = parse L) := PA.out.symm
      clear PA
      have hlt2 := HO.out.lt
      have sn : Sna wr (.slice ta k tc) (rlist L k 29) := ⟨_, own_snaps' HO.out, fun j hj => (hlt2 j hj).2⟩
      have hge : ∀ j, (Value.slice ta k tc).ownBlock = some j → w.heap.size + 2 ≤ j ∧ j < wr.heap.size := hlt2
      generalize hl : rlist L k 29 = l at *
      clear hl
      have hcall := rbytes_calls wr ⟨G, R, X, C, l⟩ (.slice ta k tc) sn
      rw [HPA.out] at hcall UW
      have hl2 : l = (parse L).l := by rw [← HPA.out]
      rw [hl2] at sn HO
      clear hl2 HPA
      have HOF : Hid (ofP L = if right (parse L) = true ∧ enc (parse L) = L then some (parse L) else none) := parse_of L
      generalize parse L = P at *
      have HUW : Hid (HasU wr (w.heap.size + 1) P (.slice ta k tc)) := UW
      clear UW
      cases hr : right P with
      | false =>
        have HR : Hid (right P = false) := hr
        have HO2 : Hid (ofP L = none) := (show _ = _ by rw [HOF.out, if_neg (by rw [hr]; simp)])
        go_upto_region 12 with (first
          | (refine load_sup _ rfl (w.heap.size + 1) rfl rfl _ _ HUW.out ?_)
          | (go_at_call 12; refine hcall.mono ?_; rintro e w6 ⟨b6, ⟨_, rfl⟩ | ⟨hf, _⟩⟩; rotate_left; · rw [HR.out] at hf; cases hf))
        have Z6 := ZW.below b6 ZW.lt
        have B6 : Below w.heap.size w w6 := BW.trans (b6.mono BW.size)
        go_wp2_with (refine store_sup rfl _ _ rfl w.heap.size rfl nilU (.slice none 0 0) rfl rfl nilU (.slice none 0 0) Z6 ?_; intro y hy ty sy)
        refine ret_sup_ok rfl _ _ _ _ rfl rfl hy rfl ?_
        rw [HO2.out]
        exact ⟨.slice none 0 0, none, rfl, ⟨none, 0, rfl, by simp [nilU], by simp [nilU], .inl rfl⟩, (fun k hk => by cases hk), below_rowed B6 ty (Nat.le_refl _) (Nat.le_refl _)⟩
      | true =>
        have HR : Hid (right P = true) := hr
        go_upto_region 12 with (first
          | (refine load_sup _ rfl (w.heap.size + 1) rfl rfl _ _ HUW.out ?_)
          | (go_at_call 12; refine hcall.mono ?_; rintro e w6 ⟨b6, ⟨hf, _⟩ | ⟨_, rfl⟩⟩; · rw [HR.out] at hf; cases hf))
        have hst1 := str_toList (enc P)
        have hst2 := str_toList L
        by_cases hEL : enc P = L
        · have HO2 : Hid (ofP L = some P) := (show _ = _ by rw [HOF.out, if_pos ⟨hr, hEL⟩])
          have heq : (enc P == L) = true := by simpa using hEL
          have HE : Hid (enc P = L) := hEL
          clear hEL HOF
          have Z6 := ZW.below b6 ZW.lt
          have U6 := HUW.out.below b6 HUW.out.lt
          have B6 : Below w.heap.size w w6 := BW.trans (b6.mono BW.size)
          have sn6 := sn.below b6
          go_wp2_with (first
            | (refine load_sup _ rfl (w.heap.size + 1) rfl rfl _ _ U6 ?_)
            | (refine store_sup rfl _ _ rfl w.heap.size rfl P (.slice ta k tc) rfl rfl nilU (.slice none 0 0) Z6 ?_; intro y hy ty sy))
          refine ret_sup_ok rfl _ _ _ _ rfl rfl hy rfl ?_
          rw [HO2.out]
          exact ⟨.slice ta k tc, (Value.slice ta k tc).ownBlock, rfl, ((own_snaps' HO.out).below b6 (fun j hj => (hge j hj).2)).kept (fun j hj => ty.block j (by have := hge j hj; have := b6.size; omega) (by have := hge j hj; omega) (by simp)), fun j hj => ⟨by have := hge j hj; omega, by have := hge j hj; have := b6.size; omega⟩, below_rowed B6 ty (Nat.le_refl _) (Nat.le_refl _)⟩
        · have HO2 : Hid (ofP L = none) := (show _ = _ by rw [HOF.out, if_neg (fun h => hEL h.2)])
          have heq : (enc P == L) = false := by simpa using hEL
          have HE : Hid (¬ enc P = L) := hEL
          clear hEL HOF
          have Z6 := ZW.below b6 ZW.lt
          have B6 : Below w.heap.size w w6 := BW.trans (b6.mono BW.size)
          go_wp2_with (refine store_sup rfl _ _ rfl w.heap.size rfl nilU (.slice none 0 0) rfl rfl nilU (.slice none 0 0) Z6 ?_; intro y hy ty sy)
          refine ret_sup_ok rfl _ _ _ _ rfl rfl hy rfl ?_
          rw [HO2.out]
          exact ⟨.slice none 0 0, none, rfl, ⟨none, 0, rfl, by simp [nilU], by simp [nilU], .inl rfl⟩, (fun k hk => by cases hk), below_rowed B6 ty (Nat.le_refl _) (Nat.le_refl _)⟩
end Go.Proofs.Ytbjnbobohkjhiaa
