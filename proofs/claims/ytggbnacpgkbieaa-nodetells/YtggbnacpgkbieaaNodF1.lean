/- First, Same; the document's Less. -/
import Derived.Test.YtggbnacpgkbieaaNodV
import Derived.Deep.RegionHeld3
namespace Go.Proofs.Ytggbnacpgkbieaa
set_option linter.unusedVariables false
open Go.RowKit

/-- The first key. -/
def firstN (x : Nod) : List UInt8 := match x.ps, x.ks with | p :: _, _ => p.k | [], q :: _ => q.k | [], [] => zs 24
theorem firstN_length (x : Nod) (h : Keyed x) : (firstN x).length = 24 := by
  obtain ⟨lv, ps, ks⟩ := x
  cases ps with
  | cons p ps => exact h.1 p (by simp)
  | nil => cases ks with
    | cons q ks => exact h.2 q (by simp)
    | nil => rfl
theorem Try.key0 : Try.prog.built 39 [] = some (bc (zs 24)).toArray := by kernel_rfl
set_option maxHeartbeats 4000000 in
set_option maxRecDepth 100000 in
theorem first_calls (w : World) (x : Nod) (pv qv : Value) (h : Parts w x pv qv) :
    Calls Try.prog 12 #[nv x pv qv] w fun e w' => e = .returned (kv (firstN x)) ∧ Below w.heap.size w w' := by
  obtain ⟨ap, cp, rfl⟩ := h.lenP
  obtain ⟨aq, cq, rfl⟩ := h.lenQ
  have GP := els_get h.p
  have GQ := els_get h.q
  have hk := h.keyed
  have N0 : HasN (w.alloc (.cells (nc x (.slice ap x.ps.length cp) (.slice aq x.ks.length cq)) 25)) w.heap.size x (.slice ap x.ps.length cp) (.slice aq x.ks.length cq) := HasN.new w x _ _ _ rfl rfl rfl
  have Z0 : Hid (Has ((w.alloc (.cells (nc x (.slice ap x.ps.length cp) (.slice aq x.ks.length cq)) 25)).alloc (.cells #[.int .u8 0, .int .u8 0, .int .u8 0, .int .u8 0, .int .u8 0, .int .u8 0, .int .u8 0, .int .u8 0, .int .u8 0, .int .u8 0, .int .u8 0, .int .u8 0, .int .u8 0, .int .u8 0, .int .u8 0, .int .u8 0, .int .u8 0, .int .u8 0, .int .u8 0, .int .u8 0, .int .u8 0, .int .u8 0, .int .u8 0, .int .u8 0] 39)) (w.heap.size + 1) (zs 24)) := zero_has _ _ (by simp)
  have B0 : Below w.heap.size w ((w.alloc (.cells (nc x (.slice ap x.ps.length cp) (.slice aq x.ks.length cq)) 25)).alloc (.cells #[.int .u8 0, .int .u8 0, .int .u8 0, .int .u8 0, .int .u8 0, .int .u8 0, .int .u8 0, .int .u8 0, .int .u8 0, .int .u8 0, .int .u8 0, .int .u8 0, .int .u8 0, .int .u8 0, .int .u8 0, .int .u8 0, .int .u8 0, .int .u8 0, .int .u8 0, .int .u8 0, .int .u8 0, .int .u8 0, .int .u8 0, .int .u8 0] 39)) := ((Below.refl _ w).alloc (Nat.le_refl _) _).alloc (by simp) _
  have S0 : ((w.alloc (.cells (nc x (.slice ap x.ps.length cp) (.slice aq x.ks.length cq)) 25)).alloc (.cells #[.int .u8 0, .int .u8 0, .int .u8 0, .int .u8 0, .int .u8 0, .int .u8 0, .int .u8 0, .int .u8 0, .int .u8 0, .int .u8 0, .int .u8 0, .int .u8 0, .int .u8 0, .int .u8 0, .int .u8 0, .int .u8 0, .int .u8 0, .int .u8 0, .int .u8 0, .int .u8 0, .int .u8 0, .int .u8 0, .int .u8 0, .int .u8 0] 39)).heap.size = w.heap.size + 2 := by simp
  obtain ⟨c0, c1, c2⟩ := (N0.alloc (.cells #[.int .u8 0, .int .u8 0, .int .u8 0, .int .u8 0, .int .u8 0, .int .u8 0, .int .u8 0, .int .u8 0, .int .u8 0, .int .u8 0, .int .u8 0, .int .u8 0, .int .u8 0, .int .u8 0, .int .u8 0, .int .u8 0, .int .u8 0, .int .u8 0, .int .u8 0, .int .u8 0, .int .u8 0, .int .u8 0, .int .u8 0, .int .u8 0] 39)).cells
  have HFL : Hid ((firstN x).length = 24) := firstN_length x hk
  clear N0 h
  obtain ⟨lv, ps, ks⟩ := x
  simp only at c0 c1 c2 GP GQ Z0 B0 S0 ⊢
  cases ps with
  | cons p ps =>
    obtain ⟨g, off, e, hg, hat, ok⟩ := GP 0 (by simp)
    cases e
    simp only [List.getElem_cons_zero, Nat.zero_mul, Nat.add_zero] at hat ok
    have hpos : (0 : Int) < (((p :: ps).length : Nat) : Int) := Int.natCast_pos.2 (Nat.zero_lt_succ _)
    have HP : Hid (firstN ⟨lv, p :: ps, ks⟩ = p.el.k) := rfl
    have RA : Hid (∀ z, Below w.heap.size w z → z.rangeAt g off (ec p.el)) := fun z hz => range_same hat (hz.block g hg)
    clear GP GQ hat
    generalize (p :: ps).length = n at *
    go_enter Try.func12, Try.ntmps12
    go_upto_region 2 with fail
    generalize (w.alloc (.cells (nc ⟨lv, p :: ps, ks⟩ (.slice (some ⟨g, off, none⟩) n cp) (.slice aq ks.length cq)) 25)).alloc (.cells #[.int .u8 0, .int .u8 0, .int .u8 0, .int .u8 0, .int .u8 0, .int .u8 0, .int .u8 0, .int .u8 0, .int .u8 0, .int .u8 0, .int .u8 0, .int .u8 0, .int .u8 0, .int .u8 0, .int .u8 0, .int .u8 0, .int .u8 0, .int .u8 0, .int .u8 0, .int .u8 0, .int .u8 0, .int .u8 0, .int .u8 0, .int .u8 0] 39) = W at *
    go_wp2_with (first
      | (refine load_P _ rfl g off rfl rfl p.el ok (RA.out _ B0) ?_)
      | (go_at_call 20; refine (keyP_calls _ p.el ok).mono ?_; rintro x w1 ⟨rfl, b1⟩)
      | (refine store_key rfl _ _ rfl (w.heap.size + 1) rfl p.el.k rfl ok.len (zs 24) (Z0.out.below b1 Z0.out.lt) ?_; intro w2 h2 t2 s2))
    refine ret_key rfl _ _ rfl h2 rfl ⟨by rw [HP.out], ?_⟩
    exact below_touched (B0.trans (b1.mono B0.size)) t2 (by omega) (Nat.le_refl _)
  | nil =>
    cases ks with
    | cons p ks =>
      obtain ⟨g, off, e, hg, hat, ok⟩ := GQ 0 (by simp)
      cases e
      simp only [List.getElem_cons_zero, Nat.zero_mul, Nat.add_zero] at hat ok
      have hpos : (0 : Int) < (((p :: ks).length : Nat) : Int) := Int.natCast_pos.2 (Nat.zero_lt_succ _)
      have HP : Hid (firstN ⟨lv, [], p :: ks⟩ = p.el.k) := rfl
      have RA : Hid (∀ z, Below w.heap.size w z → z.rangeAt g off (ec p.el)) := fun z hz => range_same hat (hz.block g hg)
      simp only [List.length_nil] at c1 Z0 B0 S0 c0 c2 ⊢
      clear GP GQ hat
      generalize (p :: ks).length = n at *
      go_enter Try.func12, Try.ntmps12
      go_upto_region 2 with fail
      generalize (w.alloc (.cells (nc ⟨lv, [], p :: ks⟩ (.slice ap 0 cp) (.slice (some ⟨g, off, none⟩) n cq)) 25)).alloc (.cells #[.int .u8 0, .int .u8 0, .int .u8 0, .int .u8 0, .int .u8 0, .int .u8 0, .int .u8 0, .int .u8 0, .int .u8 0, .int .u8 0, .int .u8 0, .int .u8 0, .int .u8 0, .int .u8 0, .int .u8 0, .int .u8 0, .int .u8 0, .int .u8 0, .int .u8 0, .int .u8 0, .int .u8 0, .int .u8 0, .int .u8 0, .int .u8 0] 39) = W at *
      go_wp2_with (first
        | (refine load_K _ rfl g off rfl rfl p.el ok (RA.out _ B0) ?_)
        | (go_at_call 24; refine (keyK_calls _ p.el ok).mono ?_; rintro x w1 ⟨rfl, b1⟩)
        | (refine store_key rfl _ _ rfl (w.heap.size + 1) rfl p.el.k rfl ok.len (zs 24) (Z0.out.below b1 Z0.out.lt) ?_; intro w2 h2 t2 s2))
      refine ret_key rfl _ _ rfl h2 rfl ⟨by rw [HP.out], ?_⟩
      exact below_touched (B0.trans (b1.mono B0.size)) t2 (by omega) (Nat.le_refl _)
    | nil =>
      simp only [List.length_nil] at c1 c2 Z0 B0 S0 c0 ⊢
      have HP : Hid (firstN ⟨lv, [], []⟩ = zs 24) := rfl
      clear GP GQ
      go_enter Try.func12, Try.ntmps12
      go_upto_region 2 with fail
      generalize (w.alloc (.cells (nc ⟨lv, [], []⟩ (.slice ap 0 cp) (.slice aq 0 cq)) 25)).alloc (.cells #[.int .u8 0, .int .u8 0, .int .u8 0, .int .u8 0, .int .u8 0, .int .u8 0, .int .u8 0, .int .u8 0, .int .u8 0, .int .u8 0, .int .u8 0, .int .u8 0, .int .u8 0, .int .u8 0, .int .u8 0, .int .u8 0, .int .u8 0, .int .u8 0, .int .u8 0, .int .u8 0, .int .u8 0, .int .u8 0, .int .u8 0, .int .u8 0] 39) = W at *
      go_wp2_with (first
        | (refine build_any rfl 39 _ rfl [] rfl _ Try.key0 ?_)
        | (refine store_key rfl _ _ rfl (w.heap.size + 1) rfl (zs 24) rfl rfl (zs 24) Z0.out ?_; intro w2 h2 t2 s2))
      refine ret_key rfl _ _ rfl h2 rfl ⟨by rw [HP.out], ?_⟩
      exact below_touched B0 t2 (by omega) (Nat.le_refl _)

set_option maxHeartbeats 8000000 in
set_option maxRecDepth 100000 in
theorem equalP_calls (w : World) (av bv : Value) (l m : List Pr) (hA : Els w av (l.map Pr.el)) (hB : Els w bv (m.map Pr.el)) :
    Calls Try.prog 43 #[av, bv] w fun e w' => e = .returned (.bool (decide (l = m))) ∧ Below w.heap.size w w' := by
  obtain ⟨aa, ca, rfl⟩ : ∃ a c, av = .slice a l.length c := by obtain ⟨r, ⟨ad, cap, e, _⟩, _⟩ := hA; exact ⟨ad, cap, by simpa using e⟩
  obtain ⟨ab, cb, rfl⟩ : ∃ a c, bv = .slice a m.length c := by obtain ⟨r, ⟨ad, cap, e, _⟩, _⟩ := hB; exact ⟨ad, cap, by simpa using e⟩
  have HGA : Hid (∀ i (hi : i < l.length), ∃ g off, aa = some ⟨g, off, none⟩ ∧ g < w.heap.size ∧ w.rangeAt g (off + i * 25) (ec (Pr.el l[i])) ∧ (Pr.el l[i]).Ok) := els_get hA
  have HGB : Hid (∀ i (hi : i < m.length), ∃ g off, ab = some ⟨g, off, none⟩ ∧ g < w.heap.size ∧ w.rangeAt g (off + i * 25) (ec (Pr.el m[i])) ∧ (Pr.el m[i]).Ok) := els_get hB
  have M1 := (els_max hA).2
  have HW : Hid (∀ k : Nat, k < l.length → wrap64 ((k : Int) + 1) = ((k + 1 : Nat) : Int)) := fun k hk => wrap_succ hk M1
  clear M1 hA hB
  by_cases q2 : l.length = m.length
  rotate_left
  · have f : (((l.length : Nat) : Int) == ((m.length : Nat) : Int)) = false := by simpa using fun e : ((l.length : Nat) : Int) = ((m.length : Nat) : Int) => q2 (by omega)
    have f2 : (((l.length : Nat) : Int) != ((m.length : Nat) : Int)) = true := by simpa using fun e : ((l.length : Nat) : Int) = ((m.length : Nat) : Int) => q2 (by omega)
    go_enter Try.func43, Try.ntmps43
    go_wp2_with fail
    go_ret
    exact ⟨by rw [decide_eq_false (fun e => q2 (by rw [e]))]; rfl, Below.refl _ _⟩
  obtain ⟨N, hN⟩ : ∃ N : Nat, l.length = N := ⟨_, rfl⟩
  have n2 : m.length = N := by omega
  have HL : Hid (l.length = N ∧ m.length = N) := ⟨hN, n2⟩
  rw [hN] at HW
  rw [hN, n2]
  clear hN n2 q2
  go_enter Try.func43, Try.ntmps43
  go_wp2_with fail
  go_loopg [13] N (fun g i wr => ∃ k n : Nat, k + g = N ∧ i = .int .i64 (k : Int) ∧ wr = w.drewN n ∧ Hid (l.take k = m.take k))
  case atStart => exact ⟨0, 0, by omega, rfl, rfl, (show l.take 0 = m.take 0 by simp)⟩
  case round =>
    obtain ⟨k, n, hkg, rfl, rfl, HT⟩ := hrel
    cases gk with
    | zero =>
      have hkN : k = N := by omega
      subst hkN
      have HEQ : Hid (l = m) := (show _ = _ by
        have := HT.out
        rw [List.take_of_length_le (by have := HL.out.1; omega), List.take_of_length_le (by have := HL.out.2; omega)] at this
        exact this)
      go_wp2_with fail
      go_ret
      exact ⟨by rw [decide_eq_true HEQ.out]; rfl, below_drewN (Below.refl _ _) _⟩
    | succ g =>
      have hlt : k < N := by omega
      have hltI : (k : Int) < (N : Int) := by omega
      have hk0 : (0 : Int) ≤ (k : Int) := by omega
      have hka : k < l.length := by have := HL.out.1; omega
      have hkb : k < m.length := by have := HL.out.2; omega
      obtain ⟨ga, oa, rfl, gla, hat, okA⟩ := HGA.out k hka
      obtain ⟨gb, ob, rfl, glb, hbt, okB⟩ := HGB.out k hkb
      have HS : Hid (l[k] = m[k] → l.take (k + 1) = m.take (k + 1)) := fun e => take_eq_step hka hkb HT.out e
      have HNE : Hid (¬ l[k] = m[k] → ¬ l = m) := fun e => ne_at hka hkb e
      have rA : (w.drewN n).drew.rangeAt ga (oa + k * 25) (ec (Pr.el l[k])) := hat
      have rB : (w.drewN n).drew.rangeAt gb (ob + k * 25) (ec (Pr.el m[k])) := hbt
      clear hat hbt
      generalize l[k] = s at *
      generalize m[k] = t at *
      have hiA : (Try.prog.info? 44).map (·.size) = some (ec (Pr.el s)).length := by rw [ec_length okA]; exact Try.info_P
      have hiB : (Try.prog.info? 44).map (·.size) = some (ec (Pr.el t)).length := by rw [ec_length okB]; exact Try.info_P
      go_upto_region 6 with fail
      refine wp_region_noPanic ?_
      refine wp_region_held_drew (S := (fun yy => yy.rangeAt ga (oa + k * 25) (ec (Pr.el s)) ∧ yy.rangeAt gb (ob + k * 25) (ec (Pr.el t)))) (by kernel_rfl) ⟨rA, rB⟩ (fun hHeld => ?_)
      refine wpAnyH_take (i := 0) (v := ?_) rfl (by kernel_rfl) (by kernel_rfl) (by kernel_rfl) (fun _ _ _ h => h) (Or.inl ⟨by rfl, ?_⟩) hHeld ?_
      case refine_2 => (intro w hSw; (try dsimp only at hSw); go_simp; try (with_reducible rfl))
      ((try simp only); (try simp only [List.getElem_toArray]); (try simp only [List.getElem_cons_succ]); (try simp only [List.getElem_cons_zero]); (try simp only [Act.put]); (try simp only [List.setIfInBounds_toArray]); (try simp only [List.set_cons_succ]); (try simp only [List.set_cons_zero]))
      refine wpAnyH_take (i := 1) (v := ?_) rfl (by kernel_rfl) (by kernel_rfl) (by kernel_rfl) (fun _ _ _ h => h) (Or.inl ⟨by rfl, ?_⟩) hHeld ?_
      case refine_2 => (intro w hSw; (try dsimp only at hSw); go_simp; try (with_reducible rfl))
      ((try simp only); (try simp only [List.getElem_toArray]); (try simp only [List.getElem_cons_succ]); (try simp only [List.getElem_cons_zero]); (try simp only [Act.put]); (try simp only [List.setIfInBounds_toArray]); (try simp only [List.set_cons_succ]); (try simp only [List.set_cons_zero]))
      refine wpAnyH_take (i := 2) (v := ?_) rfl (by kernel_rfl) (by kernel_rfl) (by kernel_rfl) (fun _ _ _ h => h) (Or.inl ⟨by rfl, ?_⟩) hHeld ?_
      case refine_2 => (intro w hSw; (try dsimp only at hSw); go_simp; try (with_reducible rfl))
      ((try simp only); (try simp only [List.getElem_toArray]); (try simp only [List.getElem_cons_succ]); (try simp only [List.getElem_cons_zero]); (try simp only [Act.put]); (try simp only [List.setIfInBounds_toArray]); (try simp only [List.set_cons_succ]); (try simp only [List.set_cons_zero]))
      refine wpAnyH_take (i := 3) rfl (by kernel_rfl) (by kernel_rfl) (by kernel_rfl) (fun _ _ _ h => h) (yieldsIf_load_mid (by rfl) _ _ rfl ga (oa + k * 25) rfl _ _ (fun _ h => h.1) Try.underlying44 rfl hiA) hHeld ?_
      ((try simp only); (try simp only [List.getElem_toArray]); (try simp only [List.getElem_cons_succ]); (try simp only [List.getElem_cons_zero]); (try simp only [Act.put]); (try simp only [List.setIfInBounds_toArray]); (try simp only [List.set_cons_succ]); (try simp only [List.set_cons_zero]))
      refine wpAnyH_take (i := 4) (v := ?_) rfl (by kernel_rfl) (by kernel_rfl) (by kernel_rfl) (fun _ _ _ h => h) (Or.inl ⟨by rfl, ?_⟩) hHeld ?_
      case refine_2 => (intro w hSw; (try dsimp only at hSw); go_simp; try (with_reducible rfl))
      ((try simp only); (try simp only [List.getElem_toArray]); (try simp only [List.getElem_cons_succ]); (try simp only [List.getElem_cons_zero]); (try simp only [Act.put]); (try simp only [List.setIfInBounds_toArray]); (try simp only [List.set_cons_succ]); (try simp only [List.set_cons_zero]))
      refine wpAnyH_take (i := 5) (v := ?_) rfl (by kernel_rfl) (by kernel_rfl) (by kernel_rfl) (fun _ _ _ h => h) (Or.inl ⟨by rfl, ?_⟩) hHeld ?_
      case refine_2 => (intro w hSw; (try dsimp only at hSw); go_simp; try (with_reducible rfl))
      ((try simp only); (try simp only [List.getElem_toArray]); (try simp only [List.getElem_cons_succ]); (try simp only [List.getElem_cons_zero]); (try simp only [Act.put]); (try simp only [List.setIfInBounds_toArray]); (try simp only [List.set_cons_succ]); (try simp only [List.set_cons_zero]))
      refine wpAnyH_take (i := 6) (v := ?_) rfl (by kernel_rfl) (by kernel_rfl) (by kernel_rfl) (fun _ _ _ h => h) (Or.inl ⟨by rfl, ?_⟩) hHeld ?_
      case refine_2 => (intro w hSw; (try dsimp only at hSw); go_simp; try (with_reducible rfl))
      ((try simp only); (try simp only [List.getElem_toArray]); (try simp only [List.getElem_cons_succ]); (try simp only [List.getElem_cons_zero]); (try simp only [Act.put]); (try simp only [List.setIfInBounds_toArray]); (try simp only [List.set_cons_succ]); (try simp only [List.set_cons_zero]))
      refine wpAnyH_take (i := 7) rfl (by kernel_rfl) (by kernel_rfl) (by kernel_rfl) (fun _ _ _ h => h) (yieldsIf_load_mid (by rfl) _ _ rfl gb (ob + k * 25) rfl _ _ (fun _ h => h.2) Try.underlying44 rfl hiB) hHeld ?_
      ((try simp only); (try simp only [List.getElem_toArray]); (try simp only [List.getElem_cons_succ]); (try simp only [List.getElem_cons_zero]); (try simp only [Act.put]); (try simp only [List.setIfInBounds_toArray]); (try simp only [List.set_cons_succ]); (try simp only [List.set_cons_zero]))
      refine wpAnyH_take (i := 8) (v := .bool (!decide (s = t))) rfl (by kernel_rfl) (by kernel_rfl) (by kernel_rfl) (fun _ _ _ h => h) (Or.inl ⟨by rfl, fun w _ => exec_ne_P _ _ _ rfl s t rfl rfl okA.len okB.len w⟩) hHeld ?_
      ((try simp only); (try simp only [List.getElem_toArray]); (try simp only [List.getElem_cons_succ]); (try simp only [List.getElem_cons_zero]); (try simp only [Act.put]); (try simp only [List.setIfInBounds_toArray]); (try simp only [List.set_cons_succ]); (try simp only [List.set_cons_zero]))
      refine wpAnyH_done (by kernel_rfl) ?_ _
      refine NoPanic.normal ?_
      have HKS : Hid (wrap64 ((k : Int) + 1) = ((k + 1 : Nat) : Int)) := HW.out k hlt
      by_cases hst : s = t
      · have e : decide (s = t) = true := decide_eq_true hst
        have HST : Hid (s = t) := hst
        clear hst
        rw [e]
        go_wp2_with fail
        go_roundg g
        case measure => omega
        case rel => exact ⟨k + 1, n + 1, by omega, congrArg (Value.int .i64) HKS.out, rfl, HS.out HST.out⟩
      · have e : decide (s = t) = false := decide_eq_false hst
        have HST : Hid (¬ s = t) := hst
        clear hst
        rw [e]
        go_wp2_with fail
        go_ret
        exact ⟨by rw [decide_eq_false (HNE.out HST.out)]; rfl, below_drewN (below_drewN (Below.refl _ w) n) 1⟩

set_option maxHeartbeats 8000000 in
set_option maxRecDepth 100000 in
theorem equalK_calls (w : World) (av bv : Value) (l m : List Kd) (hA : Els w av (l.map Kd.el)) (hB : Els w bv (m.map Kd.el)) :
    Calls Try.prog 44 #[av, bv] w fun e w' => e = .returned (.bool (decide (l = m))) ∧ Below w.heap.size w w' := by
  obtain ⟨aa, ca, rfl⟩ : ∃ a c, av = .slice a l.length c := by obtain ⟨r, ⟨ad, cap, e, _⟩, _⟩ := hA; exact ⟨ad, cap, by simpa using e⟩
  obtain ⟨ab, cb, rfl⟩ : ∃ a c, bv = .slice a m.length c := by obtain ⟨r, ⟨ad, cap, e, _⟩, _⟩ := hB; exact ⟨ad, cap, by simpa using e⟩
  have HGA : Hid (∀ i (hi : i < l.length), ∃ g off, aa = some ⟨g, off, none⟩ ∧ g < w.heap.size ∧ w.rangeAt g (off + i * 25) (ec (Kd.el l[i])) ∧ (Kd.el l[i]).Ok) := els_get hA
  have HGB : Hid (∀ i (hi : i < m.length), ∃ g off, ab = some ⟨g, off, none⟩ ∧ g < w.heap.size ∧ w.rangeAt g (off + i * 25) (ec (Kd.el m[i])) ∧ (Kd.el m[i]).Ok) := els_get hB
  have M1 := (els_max hA).2
  have HW : Hid (∀ k : Nat, k < l.length → wrap64 ((k : Int) + 1) = ((k + 1 : Nat) : Int)) := fun k hk => wrap_succ hk M1
  clear M1 hA hB
  by_cases q2 : l.length = m.length
  rotate_left
  · have f : (((l.length : Nat) : Int) == ((m.length : Nat) : Int)) = false := by simpa using fun e : ((l.length : Nat) : Int) = ((m.length : Nat) : Int) => q2 (by omega)
    have f2 : (((l.length : Nat) : Int) != ((m.length : Nat) : Int)) = true := by simpa using fun e : ((l.length : Nat) : Int) = ((m.length : Nat) : Int) => q2 (by omega)
    go_enter Try.func44, Try.ntmps44
    go_wp2_with fail
    go_ret
    exact ⟨by rw [decide_eq_false (fun e => q2 (by rw [e]))]; rfl, Below.refl _ _⟩
  obtain ⟨N, hN⟩ : ∃ N : Nat, l.length = N := ⟨_, rfl⟩
  have n2 : m.length = N := by omega
  have HL : Hid (l.length = N ∧ m.length = N) := ⟨hN, n2⟩
  rw [hN] at HW
  rw [hN, n2]
  clear hN n2 q2
  go_enter Try.func44, Try.ntmps44
  go_wp2_with fail
  go_loopg [13] N (fun g i wr => ∃ k n : Nat, k + g = N ∧ i = .int .i64 (k : Int) ∧ wr = w.drewN n ∧ Hid (l.take k = m.take k))
  case atStart => exact ⟨0, 0, by omega, rfl, rfl, (show l.take 0 = m.take 0 by simp)⟩
  case round =>
    obtain ⟨k, n, hkg, rfl, rfl, HT⟩ := hrel
    cases gk with
    | zero =>
      have hkN : k = N := by omega
      subst hkN
      have HEQ : Hid (l = m) := (show _ = _ by
        have := HT.out
        rw [List.take_of_length_le (by have := HL.out.1; omega), List.take_of_length_le (by have := HL.out.2; omega)] at this
        exact this)
      go_wp2_with fail
      go_ret
      exact ⟨by rw [decide_eq_true HEQ.out]; rfl, below_drewN (Below.refl _ _) _⟩
    | succ g =>
      have hlt : k < N := by omega
      have hltI : (k : Int) < (N : Int) := by omega
      have hk0 : (0 : Int) ≤ (k : Int) := by omega
      have hka : k < l.length := by have := HL.out.1; omega
      have hkb : k < m.length := by have := HL.out.2; omega
      obtain ⟨ga, oa, rfl, gla, hat, okA⟩ := HGA.out k hka
      obtain ⟨gb, ob, rfl, glb, hbt, okB⟩ := HGB.out k hkb
      have HS : Hid (l[k] = m[k] → l.take (k + 1) = m.take (k + 1)) := fun e => take_eq_step hka hkb HT.out e
      have HNE : Hid (¬ l[k] = m[k] → ¬ l = m) := fun e => ne_at hka hkb e
      have rA : (w.drewN n).drew.rangeAt ga (oa + k * 25) (ec (Kd.el l[k])) := hat
      have rB : (w.drewN n).drew.rangeAt gb (ob + k * 25) (ec (Kd.el m[k])) := hbt
      clear hat hbt
      generalize l[k] = s at *
      generalize m[k] = t at *
      have hiA : (Try.prog.info? 54).map (·.size) = some (ec (Kd.el s)).length := by rw [ec_length okA]; exact Try.info_K
      have hiB : (Try.prog.info? 54).map (·.size) = some (ec (Kd.el t)).length := by rw [ec_length okB]; exact Try.info_K
      go_upto_region 6 with fail
      refine wp_region_noPanic ?_
      refine wp_region_held_drew (S := (fun yy => yy.rangeAt ga (oa + k * 25) (ec (Kd.el s)) ∧ yy.rangeAt gb (ob + k * 25) (ec (Kd.el t)))) (by kernel_rfl) ⟨rA, rB⟩ (fun hHeld => ?_)
      refine wpAnyH_take (i := 0) (v := ?_) rfl (by kernel_rfl) (by kernel_rfl) (by kernel_rfl) (fun _ _ _ h => h) (Or.inl ⟨by rfl, ?_⟩) hHeld ?_
      case refine_2 => (intro w hSw; (try dsimp only at hSw); go_simp; try (with_reducible rfl))
      ((try simp only); (try simp only [List.getElem_toArray]); (try simp only [List.getElem_cons_succ]); (try simp only [List.getElem_cons_zero]); (try simp only [Act.put]); (try simp only [List.setIfInBounds_toArray]); (try simp only [List.set_cons_succ]); (try simp only [List.set_cons_zero]))
      refine wpAnyH_take (i := 1) (v := ?_) rfl (by kernel_rfl) (by kernel_rfl) (by kernel_rfl) (fun _ _ _ h => h) (Or.inl ⟨by rfl, ?_⟩) hHeld ?_
      case refine_2 => (intro w hSw; (try dsimp only at hSw); go_simp; try (with_reducible rfl))
      ((try simp only); (try simp only [List.getElem_toArray]); (try simp only [List.getElem_cons_succ]); (try simp only [List.getElem_cons_zero]); (try simp only [Act.put]); (try simp only [List.setIfInBounds_toArray]); (try simp only [List.set_cons_succ]); (try simp only [List.set_cons_zero]))
      refine wpAnyH_take (i := 2) (v := ?_) rfl (by kernel_rfl) (by kernel_rfl) (by kernel_rfl) (fun _ _ _ h => h) (Or.inl ⟨by rfl, ?_⟩) hHeld ?_
      case refine_2 => (intro w hSw; (try dsimp only at hSw); go_simp; try (with_reducible rfl))
      ((try simp only); (try simp only [List.getElem_toArray]); (try simp only [List.getElem_cons_succ]); (try simp only [List.getElem_cons_zero]); (try simp only [Act.put]); (try simp only [List.setIfInBounds_toArray]); (try simp only [List.set_cons_succ]); (try simp only [List.set_cons_zero]))
      refine wpAnyH_take (i := 3) rfl (by kernel_rfl) (by kernel_rfl) (by kernel_rfl) (fun _ _ _ h => h) (yieldsIf_load_mid (by rfl) _ _ rfl ga (oa + k * 25) rfl _ _ (fun _ h => h.1) Try.underlying54 rfl hiA) hHeld ?_
      ((try simp only); (try simp only [List.getElem_toArray]); (try simp only [List.getElem_cons_succ]); (try simp only [List.getElem_cons_zero]); (try simp only [Act.put]); (try simp only [List.setIfInBounds_toArray]); (try simp only [List.set_cons_succ]); (try simp only [List.set_cons_zero]))
      refine wpAnyH_take (i := 4) (v := ?_) rfl (by kernel_rfl) (by kernel_rfl) (by kernel_rfl) (fun _ _ _ h => h) (Or.inl ⟨by rfl, ?_⟩) hHeld ?_
      case refine_2 => (intro w hSw; (try dsimp only at hSw); go_simp; try (with_reducible rfl))
      ((try simp only); (try simp only [List.getElem_toArray]); (try simp only [List.getElem_cons_succ]); (try simp only [List.getElem_cons_zero]); (try simp only [Act.put]); (try simp only [List.setIfInBounds_toArray]); (try simp only [List.set_cons_succ]); (try simp only [List.set_cons_zero]))
      refine wpAnyH_take (i := 5) (v := ?_) rfl (by kernel_rfl) (by kernel_rfl) (by kernel_rfl) (fun _ _ _ h => h) (Or.inl ⟨by rfl, ?_⟩) hHeld ?_
      case refine_2 => (intro w hSw; (try dsimp only at hSw); go_simp; try (with_reducible rfl))
      ((try simp only); (try simp only [List.getElem_toArray]); (try simp only [List.getElem_cons_succ]); (try simp only [List.getElem_cons_zero]); (try simp only [Act.put]); (try simp only [List.setIfInBounds_toArray]); (try simp only [List.set_cons_succ]); (try simp only [List.set_cons_zero]))
      refine wpAnyH_take (i := 6) (v := ?_) rfl (by kernel_rfl) (by kernel_rfl) (by kernel_rfl) (fun _ _ _ h => h) (Or.inl ⟨by rfl, ?_⟩) hHeld ?_
      case refine_2 => (intro w hSw; (try dsimp only at hSw); go_simp; try (with_reducible rfl))
      ((try simp only); (try simp only [List.getElem_toArray]); (try simp only [List.getElem_cons_succ]); (try simp only [List.getElem_cons_zero]); (try simp only [Act.put]); (try simp only [List.setIfInBounds_toArray]); (try simp only [List.set_cons_succ]); (try simp only [List.set_cons_zero]))
      refine wpAnyH_take (i := 7) rfl (by kernel_rfl) (by kernel_rfl) (by kernel_rfl) (fun _ _ _ h => h) (yieldsIf_load_mid (by rfl) _ _ rfl gb (ob + k * 25) rfl _ _ (fun _ h => h.2) Try.underlying54 rfl hiB) hHeld ?_
      ((try simp only); (try simp only [List.getElem_toArray]); (try simp only [List.getElem_cons_succ]); (try simp only [List.getElem_cons_zero]); (try simp only [Act.put]); (try simp only [List.setIfInBounds_toArray]); (try simp only [List.set_cons_succ]); (try simp only [List.set_cons_zero]))
      refine wpAnyH_take (i := 8) (v := .bool (!decide (s = t))) rfl (by kernel_rfl) (by kernel_rfl) (by kernel_rfl) (fun _ _ _ h => h) (Or.inl ⟨by rfl, fun w _ => exec_ne_K _ _ _ rfl s t rfl rfl okA.len okB.len w⟩) hHeld ?_
      ((try simp only); (try simp only [List.getElem_toArray]); (try simp only [List.getElem_cons_succ]); (try simp only [List.getElem_cons_zero]); (try simp only [Act.put]); (try simp only [List.setIfInBounds_toArray]); (try simp only [List.set_cons_succ]); (try simp only [List.set_cons_zero]))
      refine wpAnyH_done (by kernel_rfl) ?_ _
      refine NoPanic.normal ?_
      have HKS : Hid (wrap64 ((k : Int) + 1) = ((k + 1 : Nat) : Int)) := HW.out k hlt
      by_cases hst : s = t
      · have e : decide (s = t) = true := decide_eq_true hst
        have HST : Hid (s = t) := hst
        clear hst
        rw [e]
        go_wp2_with fail
        go_roundg g
        case measure => omega
        case rel => exact ⟨k + 1, n + 1, by omega, congrArg (Value.int .i64) HKS.out, rfl, HS.out HST.out⟩
      · have e : decide (s = t) = false := decide_eq_false hst
        have HST : Hid (¬ s = t) := hst
        clear hst
        rw [e]
        go_wp2_with fail
        go_ret
        exact ⟨by rw [decide_eq_false (HNE.out HST.out)]; rfl, below_drewN (below_drewN (Below.refl _ w) n) 1⟩

set_option maxHeartbeats 4000000 in
set_option maxRecDepth 100000 in
theorem nsame_calls (w : World) (A B : Nod) (pa qa pb qb : Value) (hA : Parts w A pa qa) (hB : Parts w B pb qb) :
    Calls Try.prog 11 #[nv A pa qa, nv B pb qb] w fun e w' => e = .returned (.bool (decide (A = B))) ∧ Below w.heap.size w w' := by
  have W0 : SameW w ((w.alloc (.cells (nc A pa qa) 25)).alloc (.cells (nc B pb qb) 25)) A B pa qa pb qb := ⟨(HasN.new w A _ _ _ rfl hA.p.one hA.q.one).alloc _, HasN.new _ B _ _ _ (by simp) hB.p.one hB.q.one, ((Below.refl _ w).alloc (Nat.le_refl _) _).alloc (by simp) _⟩
  obtain ⟨c0, c1, c2⟩ := W0.ha.cells
  obtain ⟨d0, d1, d2⟩ := W0.hb.cells
  have BB := W0.bel
  have HW : Hid (SameW w ((w.alloc (.cells (nc A pa qa) 25)).alloc (.cells (nc B pb qb) 25)) A B pa qa pb qb) := W0
  have hE1 := equalP_calls _ pa pb A.ps B.ps (hA.p.below BB) (hB.p.below BB)
  have hE2 : ∀ y, Below w.heap.size w y → Calls Try.prog 44 #[qa, qb] y fun e w' => e = .returned (.bool (decide (A.ks = B.ks))) ∧ Below y.heap.size y w' := fun y hy => equalK_calls y qa qb A.ks B.ks (hA.q.below hy) (hB.q.below hy)
  have HE2 : Hid (∀ y, Below w.heap.size w y → Calls Try.prog 44 #[qa, qb] y fun e w' => e = .returned (.bool (decide (A.ks = B.ks))) ∧ Below y.heap.size y w') := hE2
  obtain ⟨ap, cp, rfl⟩ := hA.lenP
  obtain ⟨aq, cq, rfl⟩ := hA.lenQ
  obtain ⟨bp, ep, rfl⟩ := hB.lenP
  obtain ⟨bq, eq, rfl⟩ := hB.lenQ
  clear hE2 W0 hA hB
  have HD : Hid (decide (A = B) = (decide (A.lv = B.lv) && decide (A.ps = B.ps) && decide (A.ks = B.ks))) := (show _ = _ by
    obtain ⟨a, b, c⟩ := A
    obtain ⟨a', b', c'⟩ := B
    by_cases h1 : a = a' <;> by_cases h2 : b = b' <;> by_cases h3 : c = c' <;> simp [h1, h2, h3])
  by_cases h1 : A.lv = B.lv
  rotate_left
  · have f : (A.lv == B.lv) = false := by simpa using h1
    go_enter Try.func11, Try.ntmps11
    go_wp2_with fail
    go_ret
    exact ⟨by rw [HD.out, decide_eq_false h1]; rfl, BB⟩
  have HL1 : Hid (A.lv = B.lv) := h1
  have f : (A.lv == B.lv) = true := by simpa using h1
  clear h1
  cases h2 : decide (A.ps = B.ps) with
  | false =>
    rw [h2] at hE1
    go_enter Try.func11, Try.ntmps11
    go_wp2_with (go_at_call 43; refine hE1.mono ?_; rintro e w1 ⟨rfl, b1⟩)
    go_ret
    exact ⟨by rw [HD.out, h2]; simp <;> rfl, BB.trans (b1.mono BB.size)⟩
  | true =>
    rw [h2] at hE1
    go_enter Try.func11, Try.ntmps11
    go_wp2_with (first
      | (go_at_call 43; refine hE1.mono ?_; rintro e w1 ⟨rfl, b1⟩; have B1 := BB.trans (b1.mono BB.size); have W1 := HW.out.ha.below b1 HW.out.ha.lt; have W2 := HW.out.hb.below b1 HW.out.hb.lt; obtain ⟨z0, z1, z2⟩ := W1.cells; obtain ⟨y0, y1, y2⟩ := W2.cells)
      | (go_at_call 44; refine (HE2.out _ B1).mono ?_; rintro e w2 ⟨rfl, b2⟩))
    go_ret
    exact ⟨by rw [HD.out, h2, decide_eq_true HL1.out]; simp <;> rfl, B1.trans (b2.mono B1.size)⟩
set_option maxHeartbeats 4000000 in
set_option maxRecDepth 100000 in
theorem rless_calls (w : World) (A B : List UInt8) (hA : A.length = 24) (hB : B.length = 24) : Calls Try.prog 47 #[kv A, kv B] w fun e w' => e = .returned (.bool (Op.bytesLess A B)) ∧ Below w.heap.size w w' := by
  have H1 : Has ((w.alloc (.cells (bc A).toArray 39)).alloc (.cells (bc B).toArray 39)) w.heap.size A := (Has.new w A hA).alloc _
  have H2 : Has ((w.alloc (.cells (bc A).toArray 39)).alloc (.cells (bc B).toArray 39)) (w.heap.size + 1) B := by have := Has.new (w.alloc (.cells (bc A).toArray 39)) B hB; simpa using this
  have B0 : Below w.heap.size w ((w.alloc (.cells (bc A).toArray 39)).alloc (.cells (bc B).toArray 39)) := ((Below.refl _ w).alloc (Nat.le_refl _) _).alloc (by simp) _
  go_enter Try.func47, Try.ntmps47
  go_upto_region 2 with fail
  generalize (w.alloc (.cells (bc A).toArray 39)).alloc (.cells (bc B).toArray 39) = W at *
  have HP0 : Hid (Has W w.heap.size A ∧ Has W (w.heap.size + 1) B ∧ Below w.heap.size w W) := ⟨H1, H2, B0⟩
  clear H1 H2 B0
  go_loopg [5] 24 (fun g2 i wy => ∃ j : Nat, j + g2 = 24 ∧ i = .int .i64 (j : Int) ∧ Hid (Has wy w.heap.size A ∧ Has wy (w.heap.size + 1) B ∧ Below w.heap.size w wy) ∧ Hid (Op.bytesLess A B = Op.bytesLess (A.drop j) (B.drop j)))
  case atStart => exact ⟨0, rfl, rfl, HP0, (show Op.bytesLess A B = Op.bytesLess (A.drop 0) (B.drop 0) from rfl)⟩
  case round =>
    obtain ⟨j, hjg, rfl, HP, HJ⟩ := hrel
    cases gk with
    | zero =>
      have hj : j = 24 := by omega
      subst hj
      go_wp2_with fail
      go_ret
      exact ⟨by rw [HJ.out, less_end _ _ hA hB]; rfl, HP.out.2.2⟩
    | succ g2 =>
      have hj24 : j < 24 := by omega
      have hjI : (j : Int) < 24 := by omega
      have hj0 : (0 : Int) ≤ (j : Int) := by omega
      have cA := HP.out.1.cell j hj24
      have cB := HP.out.2.1.cell j hj24
      have HJ2 : Hid (Op.bytesLess A B = _) := (show _ = _ by rw [HJ.out, less_drop _ _ _ (by omega) (by omega)])
      clear HJ
      generalize (A.getD j 0).toNat = x at *
      generalize (B.getD j 0).toNat = y at *
      by_cases hxy : x = y
      · have q1 : ((x : Int) == (y : Int)) = true := by simp [hxy]
        have q3 : ((x : Int) != (y : Int)) = false := by simp [hxy]
        have HXY : Hid (x = y) := hxy
        clear hxy
        go_upto_region 4 with fail
        go_quiet (fail)
        go_wp2_with fail
        go_roundg g2
        case measure => omega
        case rel => exact ⟨j + 1, by omega, by go_num, ⟨HP.out.1.drewN _, HP.out.2.1.drewN _, below_drewN HP.out.2.2 _⟩, (show _ = _ by rw [HJ2.out, HXY.out]; simp)⟩
      · have q1 : ((x : Int) == (y : Int)) = false := by simp; omega
        have q3 : ((x : Int) != (y : Int)) = true := by simp; omega
        have q2 : (x == y) = false := by simpa using hxy
        have HXY : Hid ((x == y) = false) := q2
        clear hxy q2
        go_upto_region 4 with fail
        go_quiet (fail)
        go_upto_region 5 with fail
        go_quiet (fail)
        go_wp2_with fail
        go_ret
        exact ⟨by rw [HJ2.out, HXY.out]; simp, below_drewN (below_drewN HP.out.2.2 _) _⟩
end Go.Proofs.Ytggbnacpgkbieaa
