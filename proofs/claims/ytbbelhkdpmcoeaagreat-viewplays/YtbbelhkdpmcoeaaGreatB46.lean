import Derived.Test.YtbbelhkdpmcoeaaGreatSi
import Derived.Test.YtbbelhkdpmcoeaaGreatB12
/- The document's Same, SameChanges (as DlH, over DlC alone). -/
namespace Go.Proofs.YtbbelhkdpmcoeaaGreat
set_option linter.unusedVariables false
set_option maxRecDepth 100000
open Go.RowKit

theorem list_eq_cons {α : Type} {l m : List α} {k : Nat} (hk : k < l.length) (hm : k < m.length) (h : l.take k = m.take k) (e : l[k] = m[k]) : l.take (k + 1) = m.take (k + 1) := by
  rw [List.take_succ_eq_append_getElem hk, List.take_succ_eq_append_getElem hm, h, e]
theorem ne_at {α : Type} {l m : List α} {k : Nat} (hk : k < l.length) (hm : k < m.length) (e : ¬ l[k] = m[k]) : ¬ l = m := fun h => e (by subst h; rfl)
set_option maxRecDepth 100000 in
set_option maxHeartbeats 4000000 in
theorem sameP_calls (w : World) (ua ub : Value) (a b : List Pa) (ha : Sl encP w ua a) (hb : Sl encP w ub b) (hla : a.length ≤ 100000) :
    Calls Tryz.prog 26 #[ua, ub] w fun e w' => e = .returned (.bool (decide (a = b))) ∧ Below w.heap.size w w' := by
  have ha' := ha
  obtain ⟨ad, cap, rfl, hcap, hmax, _, _⟩ := ha'
  have hb' := hb
  obtain ⟨bd, cap2, rfl, hcap2, hmax2, _, _⟩ := hb'
  have HI : Hid (∀ i (hi : i < a.length), ∃ g off, ad = some ⟨g, off, none⟩ ∧ g < w.heap.size ∧ w.rangeAt g (off + i * 25) (encP.c a[i])) := fun i hi => SlB.at ha i hi
  have HJ : Hid (∀ i (hi : i < b.length), ∃ g off, bd = some ⟨g, off, none⟩ ∧ g < w.heap.size ∧ w.rangeAt g (off + i * 25) (encP.c b[i])) := fun i hi => SlB.at hb i hi
  have hInfo : ∀ p : Pa, (Tryz.prog.info? 31).map (·.size) = some (encP.c p).length := fun p => by rw [encP.len]; exact elP.info
  clear ha hb
  by_cases q2 : a.length = b.length
  rotate_left
  · have f : (((a.length : Nat) : Int) == ((b.length : Nat) : Int)) = false := by simpa using fun e : ((a.length : Nat) : Int) = ((b.length : Nat) : Int) => q2 (by omega)
    have f2 : (a.length == b.length) = false := by simpa using q2
    have hne : ¬ a = b := fun e => q2 (by rw [e])
    go_enter Tryz.func26, Tryz.ntmps26
    go_wp2_with fail
    go_ret
    exact ⟨by rw [decide_eq_false hne]; rfl, Below.refl _ _⟩
  obtain ⟨N, hN⟩ : ∃ N : Nat, a.length = N := ⟨_, rfl⟩
  have n2 : b.length = N := by omega
  have HL : Hid (a.length = N ∧ b.length = N) := ⟨hN, n2⟩
  rw [hN] at hcap hmax hla ⊢
  rw [n2] at hcap2 hmax2 ⊢
  clear hN n2 q2
  obtain ⟨R, hR⟩ : ∃ R : Bool, R = decide (a = b) := ⟨_, rfl⟩
  have HRR : Hid (R = decide (a = b)) := hR
  rw [← hR]
  clear hR
  go_enter Tryz.func26, Tryz.ntmps26
  go_wp2_with fail
  go_loopg [5] N (fun g i wr => ∃ k n : Nat, k + g = N ∧ i = .int .i64 (k : Int) ∧ wr = w.drewN n ∧ Hid (a.take k = b.take k))
  case atStart => exact ⟨0, 0, by omega, rfl, rfl, (show a.take 0 = b.take 0 by simp)⟩
  case round =>
    obtain ⟨k, n, hkg, rfl, rfl, HT⟩ := hrel
    cases gk with
    | zero =>
      have hkN : k = N := by omega
      subst hkN
      have HEQ : Hid (a = b) := (show _ = _ by
        have := HT.out
        rw [List.take_of_length_le (by have := HL.out.1; omega), List.take_of_length_le (by have := HL.out.2; omega)] at this
        exact this)
      go_wp2_with fail
      go_ret
      exact ⟨by rw [HRR.out, decide_eq_true HEQ.out]; rfl, below_drewN (Below.refl _ _) _⟩
    | succ g =>
      have hlt : k < N := by omega
      have hltI : (k : Int) < (N : Int) := by omega
      have hk0 : (0 : Int) ≤ (k : Int) := by omega
      have hka : k < a.length := by have := HL.out.1; omega
      have hkb : k < b.length := by have := HL.out.2; omega
      obtain ⟨g1, o1, rfl, hg1, hat1⟩ := HI.out k hka
      obtain ⟨g2, o2, rfl, hg2, hat2⟩ := HJ.out k hkb
      have HYES : Hid (a[k] = b[k] → a.take (k + 1) = b.take (k + 1)) := fun e => list_eq_cons hka hkb HT.out e
      have HNO : Hid (¬ a[k] = b[k] → ¬ a = b) := fun e => ne_at hka hkb e
      generalize a[k] = s at *
      generalize b[k] = t at *
      have HR1 : Hid ((w.drewN n).rangeAt g1 (o1 + k * 25) (encP.c s) ∧ (w.drewN n).rangeAt g2 (o2 + k * 25) (encP.c t)) := ⟨hat1, hat2⟩
      clear hat1 hat2 hka hkb HT
      generalize hwd : w.drewN n = W at *
      have HWD : Hid (w.drewN n = W) := hwd
      clear hwd
      go_upto_region 6 with fail
      refine wp_region_noPanic ?_
      refine wp_region_held_drew (S := (fun yy => yy.rangeAt g1 (o1 + k * 25) (encP.c s) ∧ yy.rangeAt g2 (o2 + k * 25) (encP.c t))) (by kernel_rfl) HR1.out (fun hHeld => ?_)
      refine wpAnyH_take (i := 0) (v := ?_) rfl (by kernel_rfl) (by kernel_rfl) (by kernel_rfl) (fun _ _ _ h => h) (Or.inl ⟨by rfl, ?_⟩) hHeld ?_
      case refine_2 => (intro w hSw; (try dsimp only at hSw); go_simp; try (with_reducible rfl))
      (try simp only [gs])
      refine wpAnyH_take (i := 1) (v := ?_) rfl (by kernel_rfl) (by kernel_rfl) (by kernel_rfl) (fun _ _ _ h => h) (Or.inl ⟨by rfl, ?_⟩) hHeld ?_
      case refine_2 => (intro w hSw; (try dsimp only at hSw); go_simp; try (with_reducible rfl))
      (try simp only [gs])
      refine wpAnyH_take (i := 2) (v := ?_) rfl (by kernel_rfl) (by kernel_rfl) (by kernel_rfl) (fun _ _ _ h => h) (Or.inl ⟨by rfl, ?_⟩) hHeld ?_
      case refine_2 => (intro w hSw; (try dsimp only at hSw); go_simp; try (with_reducible rfl))
      (try simp only [gs])
      refine wpAnyH_take (i := 3) rfl (by kernel_rfl) (by kernel_rfl) (by kernel_rfl) (fun _ _ _ h => h) (yieldsIf_load_mid (by rfl) _ _ rfl _ _ rfl _ _ (fun _ h => h.1) Tryz.underlying31 rfl (hInfo s)) hHeld ?_
      (try simp only [gs])
      refine wpAnyH_take (i := 4) (v := ?_) rfl (by kernel_rfl) (by kernel_rfl) (by kernel_rfl) (fun _ _ _ h => h) (Or.inl ⟨by rfl, ?_⟩) hHeld ?_
      case refine_2 => (intro w hSw; (try dsimp only at hSw); go_simp; try (with_reducible rfl))
      (try simp only [gs])
      refine wpAnyH_take (i := 5) (v := ?_) rfl (by kernel_rfl) (by kernel_rfl) (by kernel_rfl) (fun _ _ _ h => h) (Or.inl ⟨by rfl, ?_⟩) hHeld ?_
      case refine_2 => (intro w hSw; (try dsimp only at hSw); go_simp; try (with_reducible rfl))
      (try simp only [gs])
      refine wpAnyH_take (i := 6) (v := ?_) rfl (by kernel_rfl) (by kernel_rfl) (by kernel_rfl) (fun _ _ _ h => h) (Or.inl ⟨by rfl, ?_⟩) hHeld ?_
      case refine_2 => (intro w hSw; (try dsimp only at hSw); go_simp; try (with_reducible rfl))
      (try simp only [gs])
      refine wpAnyH_take (i := 7) rfl (by kernel_rfl) (by kernel_rfl) (by kernel_rfl) (fun _ _ _ h => h) (yieldsIf_load_mid (by rfl) _ _ rfl _ _ rfl _ _ (fun _ h => h.2) Tryz.underlying31 rfl (hInfo t)) hHeld ?_
      (try simp only [gs])
      refine wpAnyH_take (i := 8) (v := .bool (!decide (s = t))) rfl (by kernel_rfl) (by kernel_rfl) (by kernel_rfl) (fun _ _ _ h => h) (Or.inl ⟨by rfl, fun w _ => exec_ne_P _ _ _ rfl s t rfl rfl w⟩) hHeld ?_
      (try simp only [gs])
      refine wpAnyH_done (by kernel_rfl) ?_ _
      refine NoPanic.normal ?_
      by_cases hst : s = t
      · have hd : decide (s = t) = true := decide_eq_true hst
        have HY2 : Hid (a.take (k + 1) = b.take (k + 1)) := HYES.out hst
        clear hst
        rw [hd]
        go_wp2_with fail
        go_roundg g
        case measure => omega
        case rel => exact ⟨k + 1, n + 1, by omega, congrArg (Value.int .i64) (by omega), by rw [← HWD.out]; rfl, HY2⟩
      · have hd : decide (s = t) = false := decide_eq_false hst
        have HN2 : Hid (¬ a = b) := HNO.out hst
        clear hst
        rw [hd]
        go_wp2_with fail
        go_ret
        exact ⟨by rw [HRR.out, decide_eq_false HN2.out]; rfl, by rw [← HWD.out]; exact (below_drewN (Below.refl _ _) n).drew⟩
set_option maxRecDepth 100000 in
set_option maxHeartbeats 4000000 in
theorem sameC_calls (w : World) (ua ub : Value) (a b : List Ch) (ha : Sl encC w ua a) (hb : Sl encC w ub b) (hla : a.length ≤ 100000) :
    Calls Tryz.prog 14 #[ua, ub] w fun e w' => e = .returned (.bool (decide (a = b))) ∧ Below w.heap.size w w' := by
  have ha' := ha
  obtain ⟨ad, cap, rfl, hcap, hmax, _, _⟩ := ha'
  have hb' := hb
  obtain ⟨bd, cap2, rfl, hcap2, hmax2, _, _⟩ := hb'
  have HI : Hid (∀ i (hi : i < a.length), ∃ g off, ad = some ⟨g, off, none⟩ ∧ g < w.heap.size ∧ w.rangeAt g (off + i * 26) (encC.c a[i])) := fun i hi => SlB.at ha i hi
  have HJ : Hid (∀ i (hi : i < b.length), ∃ g off, bd = some ⟨g, off, none⟩ ∧ g < w.heap.size ∧ w.rangeAt g (off + i * 26) (encC.c b[i])) := fun i hi => SlB.at hb i hi
  have hInfo : ∀ p : Ch, (Tryz.prog.info? 52).map (·.size) = some (encC.c p).length := fun p => by rw [encC.len]; exact elC.info
  clear ha hb
  by_cases q2 : a.length = b.length
  rotate_left
  · have f : (((a.length : Nat) : Int) == ((b.length : Nat) : Int)) = false := by simpa using fun e : ((a.length : Nat) : Int) = ((b.length : Nat) : Int) => q2 (by omega)
    have f2 : (a.length == b.length) = false := by simpa using q2
    have hne : ¬ a = b := fun e => q2 (by rw [e])
    go_enter Tryz.func14, Tryz.ntmps14
    go_wp2_with fail
    go_ret
    exact ⟨by rw [decide_eq_false hne]; rfl, Below.refl _ _⟩
  obtain ⟨N, hN⟩ : ∃ N : Nat, a.length = N := ⟨_, rfl⟩
  have n2 : b.length = N := by omega
  have HL : Hid (a.length = N ∧ b.length = N) := ⟨hN, n2⟩
  rw [hN] at hcap hmax hla ⊢
  rw [n2] at hcap2 hmax2 ⊢
  clear hN n2 q2
  obtain ⟨R, hR⟩ : ∃ R : Bool, R = decide (a = b) := ⟨_, rfl⟩
  have HRR : Hid (R = decide (a = b)) := hR
  rw [← hR]
  clear hR
  go_enter Tryz.func14, Tryz.ntmps14
  go_wp2_with fail
  go_loopg [5] N (fun g i wr => ∃ k n : Nat, k + g = N ∧ i = .int .i64 (k : Int) ∧ wr = w.drewN n ∧ Hid (a.take k = b.take k))
  case atStart => exact ⟨0, 0, by omega, rfl, rfl, (show a.take 0 = b.take 0 by simp)⟩
  case round =>
    obtain ⟨k, n, hkg, rfl, rfl, HT⟩ := hrel
    cases gk with
    | zero =>
      have hkN : k = N := by omega
      subst hkN
      have HEQ : Hid (a = b) := (show _ = _ by
        have := HT.out
        rw [List.take_of_length_le (by have := HL.out.1; omega), List.take_of_length_le (by have := HL.out.2; omega)] at this
        exact this)
      go_wp2_with fail
      go_ret
      exact ⟨by rw [HRR.out, decide_eq_true HEQ.out]; rfl, below_drewN (Below.refl _ _) _⟩
    | succ g =>
      have hlt : k < N := by omega
      have hltI : (k : Int) < (N : Int) := by omega
      have hk0 : (0 : Int) ≤ (k : Int) := by omega
      have hka : k < a.length := by have := HL.out.1; omega
      have hkb : k < b.length := by have := HL.out.2; omega
      obtain ⟨g1, o1, rfl, hg1, hat1⟩ := HI.out k hka
      obtain ⟨g2, o2, rfl, hg2, hat2⟩ := HJ.out k hkb
      have HYES : Hid (a[k] = b[k] → a.take (k + 1) = b.take (k + 1)) := fun e => list_eq_cons hka hkb HT.out e
      have HNO : Hid (¬ a[k] = b[k] → ¬ a = b) := fun e => ne_at hka hkb e
      generalize a[k] = s at *
      generalize b[k] = t at *
      have HR1 : Hid ((w.drewN n).rangeAt g1 (o1 + k * 26) (encC.c s) ∧ (w.drewN n).rangeAt g2 (o2 + k * 26) (encC.c t)) := ⟨hat1, hat2⟩
      clear hat1 hat2 hka hkb HT
      generalize hwd : w.drewN n = W at *
      have HWD : Hid (w.drewN n = W) := hwd
      clear hwd
      go_upto_region 6 with fail
      refine wp_region_noPanic ?_
      refine wp_region_held_drew (S := (fun yy => yy.rangeAt g1 (o1 + k * 26) (encC.c s) ∧ yy.rangeAt g2 (o2 + k * 26) (encC.c t))) (by kernel_rfl) HR1.out (fun hHeld => ?_)
      refine wpAnyH_take (i := 0) (v := ?_) rfl (by kernel_rfl) (by kernel_rfl) (by kernel_rfl) (fun _ _ _ h => h) (Or.inl ⟨by rfl, ?_⟩) hHeld ?_
      case refine_2 => (intro w hSw; (try dsimp only at hSw); go_simp; try (with_reducible rfl))
      (try simp only [gs])
      refine wpAnyH_take (i := 1) (v := ?_) rfl (by kernel_rfl) (by kernel_rfl) (by kernel_rfl) (fun _ _ _ h => h) (Or.inl ⟨by rfl, ?_⟩) hHeld ?_
      case refine_2 => (intro w hSw; (try dsimp only at hSw); go_simp; try (with_reducible rfl))
      (try simp only [gs])
      refine wpAnyH_take (i := 2) (v := ?_) rfl (by kernel_rfl) (by kernel_rfl) (by kernel_rfl) (fun _ _ _ h => h) (Or.inl ⟨by rfl, ?_⟩) hHeld ?_
      case refine_2 => (intro w hSw; (try dsimp only at hSw); go_simp; try (with_reducible rfl))
      (try simp only [gs])
      refine wpAnyH_take (i := 3) rfl (by kernel_rfl) (by kernel_rfl) (by kernel_rfl) (fun _ _ _ h => h) (yieldsIf_load_mid (by rfl) _ _ rfl _ _ rfl _ _ (fun _ h => h.1) Tryz.underlying52 rfl (hInfo s)) hHeld ?_
      (try simp only [gs])
      refine wpAnyH_take (i := 4) (v := ?_) rfl (by kernel_rfl) (by kernel_rfl) (by kernel_rfl) (fun _ _ _ h => h) (Or.inl ⟨by rfl, ?_⟩) hHeld ?_
      case refine_2 => (intro w hSw; (try dsimp only at hSw); go_simp; try (with_reducible rfl))
      (try simp only [gs])
      refine wpAnyH_take (i := 5) (v := ?_) rfl (by kernel_rfl) (by kernel_rfl) (by kernel_rfl) (fun _ _ _ h => h) (Or.inl ⟨by rfl, ?_⟩) hHeld ?_
      case refine_2 => (intro w hSw; (try dsimp only at hSw); go_simp; try (with_reducible rfl))
      (try simp only [gs])
      refine wpAnyH_take (i := 6) (v := ?_) rfl (by kernel_rfl) (by kernel_rfl) (by kernel_rfl) (fun _ _ _ h => h) (Or.inl ⟨by rfl, ?_⟩) hHeld ?_
      case refine_2 => (intro w hSw; (try dsimp only at hSw); go_simp; try (with_reducible rfl))
      (try simp only [gs])
      refine wpAnyH_take (i := 7) rfl (by kernel_rfl) (by kernel_rfl) (by kernel_rfl) (fun _ _ _ h => h) (yieldsIf_load_mid (by rfl) _ _ rfl _ _ rfl _ _ (fun _ h => h.2) Tryz.underlying52 rfl (hInfo t)) hHeld ?_
      (try simp only [gs])
      refine wpAnyH_take (i := 8) (v := .bool (!decide (s = t))) rfl (by kernel_rfl) (by kernel_rfl) (by kernel_rfl) (fun _ _ _ h => h) (Or.inl ⟨by rfl, fun w _ => exec_ne_C _ _ _ rfl s t rfl rfl w⟩) hHeld ?_
      (try simp only [gs])
      refine wpAnyH_done (by kernel_rfl) ?_ _
      refine NoPanic.normal ?_
      by_cases hst : s = t
      · have hd : decide (s = t) = true := decide_eq_true hst
        have HY2 : Hid (a.take (k + 1) = b.take (k + 1)) := HYES.out hst
        clear hst
        rw [hd]
        go_wp2_with fail
        go_roundg g
        case measure => omega
        case rel => exact ⟨k + 1, n + 1, by omega, congrArg (Value.int .i64) (by omega), by rw [← HWD.out]; rfl, HY2⟩
      · have hd : decide (s = t) = false := decide_eq_false hst
        have HN2 : Hid (¬ a = b) := HNO.out hst
        clear hst
        rw [hd]
        go_wp2_with fail
        go_ret
        exact ⟨by rw [HRR.out, decide_eq_false HN2.out]; rfl, by rw [← HWD.out]; exact (below_drewN (Below.refl _ _) n).drew⟩
end Go.Proofs.YtbbelhkdpmcoeaaGreat
