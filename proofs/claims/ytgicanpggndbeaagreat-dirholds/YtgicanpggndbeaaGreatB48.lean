import Derived.Test.YtgicanpggndbeaaGreatSi
import Derived.Test.YtgicanpggndbeaaGreatB46
import Derived.Test.YtgicanpggndbeaaGreatB47
import Derived.Test.YtgicanpggndbeaaGreatB01
import Derived.Test.YtgicanpggndbeaaGreatB45
/- DirApart. -/
namespace Go.Proofs.YtgicanpggndbeaaGreat
set_option linter.unusedVariables false
set_option maxRecDepth 100000
open Go.RowKit

/-- What DirApart's loop carries. -/
structure ApL (w : World) (a b : Int) (q k n : Nat) (y : World) : Prop where
  ex : ∃ d : NV, d.q = q ∧ d.at_ w y ∧ Ap14 a b d.V.C n ∧ n ≤ k ∧ d.x.n ≤ 16 * k
theorem ApL.bel {w : World} {a b : Int} {q k n : Nat} {y : World} (h : ApL w a b q k n y) : Below w.heap.size w y := by
  obtain ⟨d, -, h, -⟩ := h.ex
  exact h.bel
theorem ApL.bad {w : World} {a b : Int} {q k n : Nat} {y y' : World} (h : ApL w a b q k n y) (b1 : Below y.heap.size y y') : ApL w a b q (k + 1) n y' := by
  obtain ⟨d, h1, h2, h3, h4, h5⟩ := h.ex
  exact ⟨d, h1, NV.called h2 b1, h3, by omega, by omega⟩
/-- A turn with a right name. -/
structure ApR (w : World) (a b : Int) (q k n : Nat) (s : List UInt8) (m : Nat) (C : List Ch) (y : World) : Prop where
  ex : ∃ d : NV, d.q = q ∧ d.at_ w y ∧ d.V.C = C ∧ d.x.n ≤ 16 * k + m
section
variable {w : World} {a b : Int} {q k n m : Nat} {s : List UInt8} {C : List Ch} {y : World}
theorem ApR.find (h : ApR w a b q k n s m C y) (hk : k ≤ 20) (hm : m ≤ 16) {d : Int} (hd : okN d = true) (hs : rightP s = true) :
    Calls Tryz.prog 21 #[.pointer (some ⟨q, 0, none⟩), .int .i64 d, .string (str s)] y fun e y' => (∃ o, NmIs (getV C (plGe []) (ekz d s)).1 o ∧ e = .returned (.tuple #[.int .i64 (findR (getV C (plGe []) (ekz d s)) o).1, .bool (findR (getV C (plGe []) (ekz d s)) o).2.1, .int .i64 (findR (getV C (plGe []) (ekz d s)) o).2.2])) ∧ ApR w a b q k n s (m + 4) C y' := by
  obtain ⟨e, h1, h2, h3, h4⟩ := h.ex
  subst h1 h3
  refine (dfind_ok (ni_base _ _ _ _) w y 8 e.q e.x e.V (h2.re 9) (by omega) d s (okE_right hd hs)).mono fun r y' t => ⟨t.1, ?_⟩
  obtain ⟨x', T⟩ := t.2
  exact ⟨{ e with x := x', V := _ }, rfl, NV.ran T, getW_C _ _, by have := T.n; show x'.n ≤ _; omega⟩
theorem ApR.put (h : ApR w a b q k n s m C y) (hk : k ≤ 20) (hm : m ≤ 16) {d i : Int} (hd : okN d = true) (hs : rightP s = true) (hi : okNum i = true) :
    Calls Tryz.prog 10 #[.pointer (some ⟨q, 0, none⟩), .int .i64 d, .string (str s), .int .i64 i] y fun e y' => e = .returned (.int .i64 0) ∧ ApR w a b q k n s (m + 4) (putA Ch.n C (enC d s i)) y' := by
  obtain ⟨e, h1, h2, h3, h4⟩ := h.ex
  subst h1 h3
  refine (dput_ok (ni_base _ _ _ _) w y 9 e.q e.x e.V h2 (by omega) d s i (okE_right hd hs) hi).mono fun r y' t => ⟨t.1, ?_⟩
  obtain ⟨x', T⟩ := t.2
  exact ⟨{ e with x := x', V := _ }, rfl, NV.ran T, rfl, by have := T.n; show x'.n ≤ _; omega⟩
theorem ApR.drop (h : ApR w a b q k n s m C y) (hk : k ≤ 20) (hm : m ≤ 16) {d : Int} (hd : okN d = true) (hs : rightP s = true) :
    Calls Tryz.prog 12 #[.pointer (some ⟨q, 0, none⟩), .int .i64 d, .string (str s)] y fun e y' => e = .returned (.int .i64 0) ∧ ApR w a b q k n s (m + 4) (putA Ch.n C (goneC (ekz d s))) y' := by
  obtain ⟨e, h1, h2, h3, h4⟩ := h.ex
  subst h1 h3
  refine (ddrop_ok (ni_base _ _ _ _) w y 9 e.q e.x e.V h2 (by omega) d s (okE_right hd hs)).mono fun r y' t => ⟨t.1, ?_⟩
  obtain ⟨x', T⟩ := t.2
  exact ⟨{ e with x := x', V := _ }, rfl, NV.ran T, rfl, by have := T.n; show x'.n ≤ _; omega⟩
theorem ApR.list (h : ApR w a b q k n s m C y) (hk : k ≤ 20) (hm : m ≤ 16) {d : Int} (hd : okN d = true) (hA : Asc Ch.n C) (hg : ∀ p ∈ lives C (entriesS d), goodK p.k = true) (hl : (lives C (entriesS d)).length ≤ 5000) :
    Calls Tryz.prog 14 #[.pointer (some ⟨q, 0, none⟩), .int .i64 d] y fun e y' => (∃ ad cap, e = .returned (.tuple #[.slice ad (lives C (entriesS d)).length cap, .int .i64 0])) ∧ ApR w a b q k n s (m + 4) C y' := by
  obtain ⟨e, h1, h2, h3, h4⟩ := h.ex
  subst h1 h3
  refine (dlist_ok (ni_base _ _ _ _) w y 8 e.q e.x e.V (h2.re 9) (by omega) d hd _ (scan_lives hA _) hl).mono fun r y' t => ?_
  obtain ⟨x', T, t⟩ := t
  refine ⟨?_, { e with x := x', V := _ }, rfl, NV.ran T, rfl, by have := T.n; show x'.n ≤ _; omega⟩
  rcases t with ⟨-, ad, cap, t, -⟩ | ⟨⟨p, hp, t⟩, -⟩
  · exact ⟨ad, cap, t⟩
  · rw [hg p hp] at t
    cases t
theorem ApR.empty (h : ApR w a b q k n s m C y) (hk : k ≤ 20) (hm : m ≤ 16) {d : Int} (hd : okN d = true) (hA : Asc Ch.n C) (hl : (lives C (entriesS d)).length ≤ 5000) :
    Calls Tryz.prog 17 #[.pointer (some ⟨q, 0, none⟩), .int .i64 d] y fun e y' => e = .returned (.tuple #[.bool (decide ((lives C (entriesS d)).length = 0)), .int .i64 0]) ∧ ApR w a b q k n s (m + 4) C y' := by
  obtain ⟨e, h1, h2, h3, h4⟩ := h.ex
  subst h1 h3
  refine (dempty_ok (ni_base _ _ _ _) w y 8 e.q e.x e.V (h2.re 9) (by omega) d hd _ (scan_lives hA _) hl).mono fun r y' t => ⟨t.1, ?_⟩
  obtain ⟨x', T⟩ := t.2
  exact ⟨{ e with x := x', V := _ }, rfl, NV.ran T, rfl, by have := T.n; show x'.n ≤ _; omega⟩
theorem ApR.called (h : ApR w a b q k n s m C y) {y' : World} (b1 : Below y.heap.size y y') : ApR w a b q k n s m C y' := by
  obtain ⟨d, h1, h2, h3⟩ := h.ex
  exact ⟨d, h1, NV.called h2 b1, h3⟩
theorem ApR.bel (h : ApR w a b q k n s m C y) : Below w.heap.size w y := by
  obtain ⟨d, -, h, -⟩ := h.ex
  exact h.bel
theorem ApL.right (h : ApL w a b q k n y) (s : List UInt8) : ∃ C, Ap14 a b C n ∧ n ≤ k ∧ ApR w a b q k n s 0 C y := by
  obtain ⟨d, h1, h2, h3, h4, h5⟩ := h.ex
  exact ⟨d.V.C, h3, h4, d, h1, h2, rfl, by omega⟩
theorem ApR.left {n' : Nat} (h : ApR w a b q k n s 16 C y) (hA : Ap14 a b C n') (hn : n' ≤ k + 1) : ApL w a b q (k + 1) n' y := by
  obtain ⟨d, h1, h2, h3, h4⟩ := h.ex
  subst h3
  exact ⟨d, h1, h2, hA, hn, by omega⟩
end
set_option maxRecDepth 100000 in
set_option maxHeartbeats 16000000 in
theorem dirApart_walk (w : World) (a0 b0 : Int) (u : Value) (names : List (List UInt8)) (h : Sl encN w u names) :
    Calls Tryz.prog 6 #[.int .i64 a0, .int .i64 b0, u] w fun e w' => e = .returned (.bool true) ∧ Below w.heap.size w w' := by
  have hsh := shown14_calls w
  have hKa : 0 ≤ bits .and .i64 a0 16777215 ∧ bits .and .i64 a0 16777215 ≤ 16777215 := by rw [and24]; omega
  have hKb : 0 ≤ bits .and .i64 b0 16777215 ∧ bits .and .i64 b0 16777215 ≤ 16777215 := by rw [and24]; omega
  have HAB : Hid (okN (1 + bits .and .i64 a0 16777215) = true ∧ okN (1 + bits .and .i64 b0 16777215) = true) := ⟨okN_of (by omega) (by omega), okN_of (by omega) (by omega)⟩
  obtain ⟨ad, cap, rfl, hcap, hmax, -, -⟩ := id h
  have HI : Hid (∀ i (hi : i < names.length), ∃ g off, ad = some ⟨g, off, none⟩ ∧ g < w.heap.size ∧ w.rangeAt g (off + i * 1) (encN.c names[i])) := fun i hi => SlB.at h i hi
  obtain ⟨N, hN⟩ : ∃ N : Nat, N = names.length := ⟨_, rfl⟩
  rw [← hN] at hcap hmax ⊢
  have HN : Hid (N = names.length) := hN
  obtain ⟨T, hT⟩ : ∃ T : Nat, T = min N 20 := ⟨_, rfl⟩
  have HT : Hid (T = min N 20) := hT
  clear h hN hT
  go_enter Tryz.func6, Tryz.ntmps6
  go_upto_region 2 with (go_at_call 7; refine hsh.mono ?_; clear hsh; rintro e y0 ⟨rfl, b1⟩)
  have hN1 := nvNew_calls w y0 b1
  clear b1
  go_upto_region 3 with (go_at_call 8; refine hN1.mono ?_; clear hN1; rintro e y1 ⟨d1, rfl, A1, v1, n1, f1, b1⟩)
  obtain ⟨q, hq⟩ : ∃ q, q = d1.q := ⟨_, rfl⟩
  rw [← hq]
  have HV1 : Hid (d1.at_ w y1 ∧ d1.V = vs0 ∧ d1.x.n = 0 ∧ q = d1.q) := ⟨A1, v1, n1, hq⟩
  clear A1 v1 n1 f1 b1 hq
  go_upto_region 7 with fail
  generalize 1 + bits .and .i64 a0 16777215 = a at *
  generalize 1 + bits .and .i64 b0 16777215 = b at *
  clear hKa hKb
  by_cases hab : a = b
  · subst hab
    go_wp2_with fail
    go_ret
    exact ⟨rfl, HV1.out.1.bel⟩
  have HNE : Hid (a ≠ b) := hab
  have HLP : Hid (ApL w a b q 0 0 y1) := ⟨d1, HV1.out.2.2.2.symm, HV1.out.1, by rw [HV1.out.2.1]; exact Ap14.start a b, Nat.le_refl _, by have := HV1.out.2.2.1; omega⟩
  have hab2 : (a == b) = false := by simpa using hab
  clear HV1 hab
  go_wp2_with fail
  clear hab2
  go_loopg [9, 10] T (fun gg s9 i wr => ∃ (j n : Nat), j + gg = T ∧ i = .int .i64 (j : Int) ∧ s9 = .int .i64 (n : Int) ∧ Hid (ApL w a b q j n wr))
  case atStart => exact ⟨0, 0, by omega, rfl, rfl, HLP.out⟩
  case round =>
    clear HLP
    obtain ⟨j, n, hjg, rfl, rfl, HE⟩ := hrel
    cases gk with
    | zero =>
      have hjT : j = T := by omega
      have HJ2 : Hid (j ≤ 20) := (show _ ≤ _ by have := HT.out; omega)
      obtain ⟨C, hA, hnk, hR⟩ := HE.out.right []
      have HA : Hid (Ap14 a b C n ∧ n ≤ j) := ⟨hA, hnk⟩
      obtain ⟨hla, hpa⟩ := hA.list_a HAB.out.1 HAB.out.2 HNE.out
      have hlb := hA.list_b HAB.out.1 HAB.out.2 HNE.out
      have h1 := hR.list HJ2.out (Nat.zero_le _) HAB.out.1 hA.asc (fun p hp => by
        obtain ⟨s, i, h1, -, h2⟩ := hpa p hp
        rw [h2]
        exact (good_entry HAB.out.1 h1).1) (by rw [hla]; have := HJ2.out; omega)
      rw [hla] at h1
      have h2 := fun (y : World) (m : Nat) (hm : m ≤ 16) (hR : ApR w a b q j n [] m C y) => hR.list HJ2.out hm HAB.out.2 HA.out.1.asc (fun p hp => by rw [hlb] at hp; cases hp) (by rw [hlb]; exact Nat.zero_le _)
      have h3 := fun (y : World) (m : Nat) (hm : m ≤ 16) (hR : ApR w a b q j n [] m C y) => hR.empty HJ2.out hm HAB.out.2 HA.out.1.asc (by rw [hlb]; exact Nat.zero_le _)
      simp only [hlb, List.length_nil] at h2 h3
      have hn20 : (n : Int) ≤ 20 := by have := HJ2.out; omega
      clear hR hA hla hpa hlb hnk HE HA
      by_cases hjN : j < N
      · have hjI : (j : Int) < (N : Int) := by omega
        have hjM : ¬ (j : Int) < 20 := by have := HT.out; omega
        go_upto_region 22 with (go_at_call 14; refine h1.mono ?_; clear h1; rintro e z1 ⟨⟨ad1, cap1, rfl⟩, R1⟩)
        have h4 := h2 z1 4 (by decide) R1
        clear h2 R1
        go_upto_region 23 with (go_at_call 14; refine h4.mono ?_; clear h4; rintro e z2 ⟨⟨ad2, cap2, rfl⟩, R2⟩)
        have h5 := h3 z2 8 (by decide) R2
        clear h3 R2
        go_wp2_with (go_at_call 17; refine h5.mono ?_; clear h5; rintro e z3 ⟨rfl, R3⟩)
        have HR3 : Hid (ApR w a b q j n [] 12 C z3) := R3
        clear R3
        go_ret
        exact ⟨rfl, HR3.out.bel⟩
      · have hjI : ¬ (j : Int) < (N : Int) := by omega
        go_upto_region 22 with (go_at_call 14; refine h1.mono ?_; clear h1; rintro e z1 ⟨⟨ad1, cap1, rfl⟩, R1⟩)
        have h4 := h2 z1 4 (by decide) R1
        clear h2 R1
        go_upto_region 23 with (go_at_call 14; refine h4.mono ?_; clear h4; rintro e z2 ⟨⟨ad2, cap2, rfl⟩, R2⟩)
        have h5 := h3 z2 8 (by decide) R2
        clear h3 R2
        go_wp2_with (go_at_call 17; refine h5.mono ?_; clear h5; rintro e z3 ⟨rfl, R3⟩)
        have HR3 : Hid (ApR w a b q j n [] 12 C z3) := R3
        clear R3
        go_ret
        exact ⟨rfl, HR3.out.bel⟩
    | succ gg =>
      have hjI : (j : Int) < (N : Int) := by have := HT.out; omega
      have hjM : (j : Int) < 20 := by have := HT.out; omega
      have hj0 : (0 : Int) ≤ (j : Int) := by omega
      have hjl : j < names.length := by have := HN.out; omega
      have HJ2 : Hid (j ≤ 20) := (show _ ≤ _ by have := HT.out; omega)
      have HOK : Hid (okNum (1 + (j : Int)) = true) := numK_ok ⟨by omega, by omega⟩
      obtain ⟨g, off, rfl, hg, hat⟩ := HI.out j hjl
      generalize names[j] = s0 at *
      have HAT : Hid (∀ yy : World, Below w.heap.size w yy → yy.cell? ⟨g, off + j, none⟩ = some (.string (str s0))) := fun yy hb => by
        have h := range_same' hat (hb.block g hg) 0 (.string (str s0)) rfl
        rwa [Nat.mul_one] at h
      have hcut := str_cut40 s0
      have hm0 : (0 : Int) ≤ min ((str s0).size : Int) 40 := by omega
      have hm1 : min ((str s0).size : Int) 40 ≤ ((str s0).size : Int) := by omega
      clear hat hg hjl HI
      go_upto_region 13 with fail
      have HBD : Hid (Below w.heap.size w wr.drew) := HE.out.bel.trans ⟨rfl, rfl, rfl, Nat.le_refl _, fun _ _ => rfl⟩
      have HED : Hid (ApL w a b q j n wr.drew) := by
        obtain ⟨d, h1, h2, h3⟩ := HE.out.ex
        exact ⟨d, h1, NV.called h2 ⟨rfl, rfl, rfl, Nat.le_refl _, fun _ _ => rfl⟩, h3⟩
      refine wp_region_noPanic ?_
      refine wp_region_held_drew (S := (fun yy => yy.cell? ⟨g, off + j, none⟩ = some (.string (str s0)))) (by kernel_rfl) (HAT.out _ HBD.out) (fun hHeld => ?_)
      refine wpAnyH_take (i := 0) (v := ?_) rfl (by kernel_rfl) (by kernel_rfl) (by kernel_rfl) (fun _ _ _ h => h) (Or.inl ⟨by rfl, ?_⟩) hHeld ?_
      case refine_2 => (intro w hSw; (try dsimp only at hSw); go_simp; try (with_reducible rfl))
      (try simp only [gs])
      refine wpAnyH_take (i := 1) (v := ?_) rfl (by kernel_rfl) (by kernel_rfl) (by kernel_rfl) (fun _ _ _ h => h) (Or.inl ⟨by rfl, ?_⟩) hHeld ?_
      case refine_2 => (intro w hSw; (try dsimp only at hSw); go_simp; try (with_reducible rfl))
      (try simp only [gs])
      refine wpAnyH_take (i := 2) (v := ?_) rfl (by kernel_rfl) (by kernel_rfl) (by kernel_rfl) (fun _ _ _ h => h) (Or.inl ⟨by rfl, ?_⟩) hHeld ?_
      case refine_2 => (intro w hSw; (try dsimp only at hSw); go_simp; try (with_reducible rfl))
      (try simp only [gs])
      refine wpAnyH_take (i := 3) (v := ?_) rfl (by kernel_rfl) (by kernel_rfl) (by kernel_rfl) (fun _ _ _ h => h) (Or.inl ⟨by rfl, ?_⟩) hHeld ?_
      case refine_2 => (intro w hSw; (try dsimp only at hSw); go_simp; try (with_reducible rfl))
      (try simp only [gs])
      refine wpAnyH_take (i := 4) (v := ?_) rfl (by kernel_rfl) (by kernel_rfl) (by kernel_rfl) (fun _ _ _ h => h) (Or.inl ⟨by rfl, ?_⟩) hHeld ?_
      case refine_2 => (intro w hSw; (try dsimp only at hSw); go_simp; try (with_reducible rfl))
      (try simp only [gs])
      refine wpAnyH_take (i := 5) (v := ?_) rfl (by kernel_rfl) (by kernel_rfl) (by kernel_rfl) (fun _ _ _ h => h) (Or.inl ⟨by rfl, ?_⟩) hHeld ?_
      case refine_2 => (intro w hSw; (try dsimp only at hSw); go_simp; try (with_reducible rfl))
      (try simp only [gs])
      refine wpAnyH_take (i := 6) (v := ?_) rfl (by kernel_rfl) (by kernel_rfl) (by kernel_rfl) (fun _ _ _ h => h) (Or.inl ⟨by rfl, ?_⟩) hHeld ?_
      case refine_2 => (intro w hSw; (try dsimp only at hSw); go_simp; try (with_reducible rfl))
      (try simp only [gs])
      refine wpAnyH_take (i := 7) (v := ?_) rfl (by kernel_rfl) (by kernel_rfl) (by kernel_rfl) (fun _ _ _ h => h) (Or.inl ⟨by rfl, ?_⟩) hHeld ?_
      case refine_2 => (intro w hSw; (try dsimp only at hSw); go_simp; try (with_reducible rfl))
      (try simp only [gs])
      refine wpAnyH_take (i := 8) (v := ?_) rfl (by kernel_rfl) (by kernel_rfl) (by kernel_rfl) (fun _ _ _ h => h) (Or.inl ⟨by rfl, ?_⟩) hHeld ?_
      case refine_2 => (intro w hSw; (try dsimp only at hSw); go_simp; try (with_reducible rfl))
      (try simp only [gs])
      refine wpAnyH_take (i := 9) (v := ?_) rfl (by kernel_rfl) (by kernel_rfl) (by kernel_rfl) (fun _ _ _ h => h) (Or.inl ⟨by rfl, ?_⟩) hHeld ?_
      case refine_2 => (intro w hSw; (try dsimp only at hSw); go_simp; try (with_reducible rfl))
      (try simp only [gs])
      refine wpAnyH_take (i := 10) (v := ?_) rfl (by kernel_rfl) (by kernel_rfl) (by kernel_rfl) (fun _ _ _ h => h) (Or.inl ⟨by rfl, ?_⟩) hHeld ?_
      case refine_2 => (intro w hSw; (try dsimp only at hSw); go_simp; try (with_reducible rfl))
      (try simp only [gs])
      refine wpAnyH_take (i := 11) (v := ?_) rfl (by kernel_rfl) (by kernel_rfl) (by kernel_rfl) (fun _ _ _ h => h) (Or.inl ⟨by rfl, ?_⟩) hHeld ?_
      case refine_2 => (intro w hSw; (try dsimp only at hSw); go_simp; try (with_reducible rfl))
      (try simp only [gs])
      refine wpAnyH_done (by kernel_rfl) ?_ _
      refine NoPanic.normal ?_
      clear hHeld
      clear hcut hm0 hm1 HAT HBD HE
      generalize wr.drew = z0 at *
      generalize s0.take 40 = s at *
      have hRs := fun y => right_calls (str s) y
      simp only [str_list] at hRs
      cases hr : rightP s with
      | false =>
        have hF := fun y => dfind_bad y q a s (okE_bad a hr)
        have hP := fun y => dput_bad y q a s (1 + (j : Int)) (by rw [okE_bad a hr, Bool.false_and])
        have hD := fun y => ddrop_bad y q b s (okE_bad b hr)
        rw [hr] at hRs
        have h1 := hF z0
        clear hr
        go_upto_region 15 with (go_at_call 21; refine h1.mono ?_; clear h1; rintro e z1 ⟨rfl, c1⟩)
        have h2 := hP z1
        go_upto_region 17 with (go_at_call 10; refine h2.mono ?_; clear h2; rintro e z2 ⟨rfl, c2⟩)
        have h3 := hD z2
        go_upto_region 18 with (go_at_call 12; refine h3.mono ?_; clear h3; rintro e z3 ⟨rfl, c3⟩)
        have h4 := hF z3
        go_upto_region 19 with (go_at_call 21; refine h4.mono ?_; clear h4; rintro e z4 ⟨rfl, c4⟩)
        have h5 := hRs z4
        clear hF hP hD hRs
        go_wp2_with (go_at_call 27; refine h5.mono ?_; clear h5; rintro e z5 ⟨rfl, c5⟩)
        have HBB : Hid (Below z0.heap.size z0 z5) := ((((c1.trans (c2.mono c1.size)).trans (c3.mono (Nat.le_trans c1.size c2.size))).trans (c4.mono (Nat.le_trans c1.size (Nat.le_trans c2.size c3.size)))).trans (c5.mono (Nat.le_trans c1.size (Nat.le_trans c2.size (Nat.le_trans c3.size c4.size)))))
        go_roundg gg
        case measure => omega
        exact ⟨j + 1, n, by omega, by simp, rfl, HED.out.bad HBB.out⟩
      | true =>
        rw [hr] at hRs
        obtain ⟨C, hA, hnk, hR⟩ := HED.out.right s
        have h1 := hR.find HJ2.out (Nat.zero_le _) HAB.out.1 hr
        have HRS : Hid (rightP s = true ∧ Ap14 a b C n ∧ n ≤ j) := ⟨hr, hA, hnk⟩
        clear hR hA hnk hr HED
        go_upto_region 15 with (go_at_call 21; refine h1.mono ?_; clear h1; rintro e z1 ⟨⟨o, ho, rfl⟩, R1⟩)
        have HW : Hid (Ap14 a b (putA Ch.n C (enC a s (1 + (j : Int)))) (n + if (findR (getV C (plGe []) (ekz a s)) o).2.1 = true then 0 else 1)) := HRS.out.2.1.was HAB.out.1 HAB.out.2 HNE.out HRS.out.1 ho _ HOK.out
        have h2 := R1.put HJ2.out (by decide) HAB.out.1 HRS.out.1 HOK.out
        clear ho R1
        generalize findR (getV C (plGe []) (ekz a s)) o = F at *
        obtain ⟨f1, f2, f3⟩ := F
        dsimp only at HW
        cases f2 with
        | true =>
          have HW2 : Hid (Ap14 a b (putA Ch.n C (enC a s (1 + (j : Int)))) n ∧ n ≤ j + 1) := ⟨by have := HW.out; simpa using this, by have := HRS.out.2.2; omega⟩
          clear HW
          go_upto_region 17 with (go_at_call 10; refine h2.mono ?_; clear h2; rintro e z2 ⟨rfl, R2⟩)
          have h3 := R2.drop HJ2.out (by decide) HAB.out.2 HRS.out.1
          clear R2
          go_upto_region 18 with (go_at_call 12; refine h3.mono ?_; clear h3; rintro e z3 ⟨rfl, R3⟩)
          have h4 := R3.find HJ2.out (by decide) HAB.out.1 HRS.out.1
          clear R3
          go_upto_region 19 with (go_at_call 21; refine h4.mono ?_; clear h4; rintro e z4 ⟨⟨o2, ho2, rfl⟩, R4⟩)
          rw [Ap14.found HAB.out.1 HAB.out.2 HNE.out HRS.out.1 HRS.out.2.1.asc (1 + (j : Int)) HOK.out ho2]
          have HW3 : Hid (Ap14 a b (putA Ch.n (putA Ch.n C (enC a s (1 + (j : Int)))) (goneC (ekz b s))) n) := HW2.out.1.drop HAB.out.1 HAB.out.2 HNE.out HRS.out.1
          have HR4 : Hid (ApR w a b q j n s 16 (putA Ch.n (putA Ch.n C (enC a s (1 + (j : Int)))) (goneC (ekz b s))) z4) := R4
          have h5 := hRs z4
          clear R4 ho2 hRs
          go_wp2_with (go_at_call 27; refine h5.mono ?_; clear h5; rintro e z5 ⟨rfl, c5⟩)
          have HR5 : Hid (ApR w a b q j n s 16 (putA Ch.n (putA Ch.n C (enC a s (1 + (j : Int)))) (goneC (ekz b s))) z5) := HR4.out.called c5
          go_roundg gg
          case measure => omega
          exact ⟨j + 1, n, by omega, by simp, rfl, HR5.out.left HW3.out HW2.out.2⟩
        | false =>
          have HW2 : Hid (Ap14 a b (putA Ch.n C (enC a s (1 + (j : Int)))) (n + 1) ∧ n + 1 ≤ j + 1) := ⟨by have := HW.out; simpa using this, by have := HRS.out.2.2; omega⟩
          have hn20 : (n : Int) ≤ 20 := by have := HRS.out.2.2; have := HJ2.out; omega
          have hn0 : (0 : Int) ≤ (n : Int) := by omega
          clear HW
          go_upto_region 17 with (go_at_call 10; refine h2.mono ?_; clear h2; rintro e z2 ⟨rfl, R2⟩)
          have h3 := R2.drop HJ2.out (by decide) HAB.out.2 HRS.out.1
          clear R2
          go_upto_region 18 with (go_at_call 12; refine h3.mono ?_; clear h3; rintro e z3 ⟨rfl, R3⟩)
          have h4 := R3.find HJ2.out (by decide) HAB.out.1 HRS.out.1
          clear R3
          go_upto_region 19 with (go_at_call 21; refine h4.mono ?_; clear h4; rintro e z4 ⟨⟨o2, ho2, rfl⟩, R4⟩)
          rw [Ap14.found HAB.out.1 HAB.out.2 HNE.out HRS.out.1 HRS.out.2.1.asc (1 + (j : Int)) HOK.out ho2]
          have HW3 : Hid (Ap14 a b (putA Ch.n (putA Ch.n C (enC a s (1 + (j : Int)))) (goneC (ekz b s))) (n + 1)) := HW2.out.1.drop HAB.out.1 HAB.out.2 HNE.out HRS.out.1
          have HR4 : Hid (ApR w a b q j n s 16 (putA Ch.n (putA Ch.n C (enC a s (1 + (j : Int)))) (goneC (ekz b s))) z4) := R4
          have h5 := hRs z4
          clear R4 ho2 hRs
          go_wp2_with (go_at_call 27; refine h5.mono ?_; clear h5; rintro e z5 ⟨rfl, c5⟩)
          have HR5 : Hid (ApR w a b q j n s 16 (putA Ch.n (putA Ch.n C (enC a s (1 + (j : Int)))) (goneC (ekz b s))) z5) := HR4.out.called c5
          go_roundg gg
          case measure => omega
          exact ⟨j + 1, n + 1, by omega, by simp, by simp, HR5.out.left HW3.out HW2.out.2⟩
end Go.Proofs.YtgicanpggndbeaaGreat
/- DirApart answers true at every two numbers and row of texts and turns nothing that was there: what is put into the one directory is not in the other one. No condition. -/
namespace Go.Proofs.YtgicanpggndbeaaGreat
set_option linter.unusedVariables false
set_option maxRecDepth 100000
open Go.ChangeShapes Go.WideShapes Go.ChangeAt Go.RowKit
open Go.ChangeMaps (open_string shut_string)

set_option maxRecDepth 100000 in
theorem dirApart_lifted (os : Os) (started : os.Started) (H : Type) (enc : TypeId × Value → H) :
    ReturnsInHanded {} Tryz.checked os 6 .any (Rows.dirApartSpec.pre6 enc Tryz.prog Tryz.f6 Rows.dirApartRow.domain false) (Rows.dirApartSpec.post enc Tryz.prog Tryz.f6 false true false false) := by
  refine returnsInHanded_of_change (C := Tryz.checked) Tryz.own started (by kernel_rfl) Tryz.func6
    (ChangeSpec.witness6 (enc := enc) (C := Tryz.checked) false ⟨#[], #[.int .i64 0, .int .i64 0, .slice none 0 0], []⟩ 8 (by kernel_rfl) (by kernel_rfl) (by kernel_rfl) (by kernel_rfl)) ?_
  intro W base args ds gs before hval0 hW hcnd _
  have hval : ∀ (j : Nat) t v, Tryz.f6.params[j]? = some t → args[j]? = some v → Value.okWide Tryz.prog W .any base t v := hval0
  have hW' := hW
  obtain ⟨p, q, hA0, hV, rfl, hfz, hnd⟩ := hW
  have hA : DataW.TrodAll enc Tryz.prog W 0 (fun _ => true) true Tryz.f6.params.toList args.toList ds p := hA0
  rw [Tryz.params6] at hA hval
  obtain ⟨v0, vs0, d0, ds0, p0, q0, hargs, rfl, rfl, h0, r0⟩ := trodAll_cons hA
  obtain ⟨v1, vs1, d1, ds1, p1, q1, rfl, rfl, rfl, h1, r1⟩ := trodAll_cons r0
  obtain ⟨v2, vs2, d2, ds2, p2, q2, rfl, rfl, rfl, h2, r2⟩ := trodAll_cons r1
  obtain ⟨rfl, rfl, rfl⟩ := trodAll_nil r2
  obtain rfl : args = #[v0, v1, v2] := by cases args; simp_all
  obtain ⟨rfl, rfl⟩ := trodVars_none hV
  obtain ⟨a0, rfl, rfl, rfl, w0⟩ := open_int Tryz.underlying3 (hval 0 3 v0 rfl rfl) h0
  have b0 := bounds_i64 w0
  obtain ⟨a1, rfl, rfl, rfl, w1⟩ := open_int Tryz.underlying3 (hval 1 3 v1 rfl rfl) h1
  have b1 := bounds_i64 w1
  obtain ⟨a2, len2, cap2, rfl⟩ := okWide_slice Tryz.underlying37 (hval 2 37 v2 rfl rfl)
  have k2 := h2
  have lt2 : ∀ x ∈ p2, x.block < W.heap.size := by obtain ⟨m, hm⟩ := k2; exact DataW.trod_lt m _ _ _ hm
  obtain ⟨z2, w2⟩ := open_texts h2
  clear hA0 hval0
  refine (dirApart_walk W a0 a1 _ z2 w2).mono fun e W' ⟨he, bel⟩ => ?_
  subst he
  exact ⟨_, rfl, _, _, _, [], _, [], hW', trodAll_mk1 (shut_bool Tryz.underlying4 _), (trodAll_cons_mk (shut_int Tryz.underlying3 w0) (trodAll_cons_mk (shut_int Tryz.underlying3 w1) (trodAll_cons_mk (Below.trod Tryz.laidOut (by kernel_rfl) (of_decide_eq_true (by kernel_rfl)) k2 bel lt2) trodAll_mk0))), rfl, bel.frame _, fun h => by cases h⟩

set_option maxRecDepth 100000 in
/-- The statement. -/
theorem dirApart_holds : Rows.DirApartSaid :=
  OpenClaim.holds_of_wide 6 Tryz.f6 rfl rfl rfl rfl rfl rfl rfl ⟨rfl, rfl, rfl, rfl, rfl⟩ rfl rfl rfl rfl rfl (by kernel_rfl) Tryz.func6 (by kernel_rfl)
    (of_decide_eq_true (by kernel_rfl)) (by unfold Func.isWrapper; first | (rw [if_pos (by decide +kernel)]; kernel_rfl) | (rw [if_neg (by decide +kernel)]; exact ⟨rfl, rfl⟩))
    (fun os started H enc _ => dirApart_lifted os started H enc)
end Go.Proofs.YtgicanpggndbeaaGreat
