import Derived.Test.YtjhdnpplmlddaaaGreatB06
import Derived.Deep.RegionHeld3
/- First, Same; the document's Less. -/
namespace Go.Proofs.YtjhdnpplmlddaaaGreat
set_option linter.unusedVariables false
open Go.RowKit

/-- The first key. -/
def firstN (x : Nod) : List UInt8 := match x.ps, x.ks with | p :: _, _ => p.k | [], q :: _ => q.k | [], [] => zs 24
theorem firstN_length (x : Nod) (h : Keyed x) : (firstN x).length = 24 := by
  obtain ⟨lv, ps, ks⟩ := x
  cases ps with
  | cons p ps => exact h.1 p (by simp)
  | nil => cases ks with
    | cons q ks => exact h.2 q (by simp)
    | nil => rfl
theorem Tryz.key0 : Tryz.prog.built 25 [] = some (bc (zs 24)).toArray := by kernel_rfl
set_option maxHeartbeats 4000000 in
set_option maxRecDepth 100000 in
theorem first_calls (w : World) (x : Nod) (pv qv : Value) (h : Parts w x pv qv) :
    Calls Tryz.prog 40 #[nv x pv qv] w fun e w' => e = .returned (kv (firstN x)) ∧ Below w.heap.size w w' := by
  obtain ⟨ap, cp, rfl⟩ := h.lenP
  obtain ⟨aq, cq, rfl⟩ := h.lenQ
  have GP := els_get h.p
  have GQ := els_get h.q
  have hk := h.keyed
  have N0 : HasN (w.alloc (.cells (nc x (.slice ap x.ps.length cp) (.slice aq x.ks.length cq)) 60)) w.heap.size x (.slice ap x.ps.length cp) (.slice aq x.ks.length cq) := HasN.new w x _ _ _ rfl rfl rfl
  have Z0 : Hid (Has ((w.alloc (.cells (nc x (.slice ap x.ps.length cp) (.slice aq x.ks.length cq)) 60)).alloc (.cells #[.int .u8 0, .int .u8 0, .int .u8 0, .int .u8 0, .int .u8 0, .int .u8 0, .int .u8 0, .int .u8 0, .int .u8 0, .int .u8 0, .int .u8 0, .int .u8 0, .int .u8 0, .int .u8 0, .int .u8 0, .int .u8 0, .int .u8 0, .int .u8 0, .int .u8 0, .int .u8 0, .int .u8 0, .int .u8 0, .int .u8 0, .int .u8 0] 25)) (w.heap.size + 1) (zs 24)) := zero_has _ _ (by simp)
  have B0 : Below w.heap.size w ((w.alloc (.cells (nc x (.slice ap x.ps.length cp) (.slice aq x.ks.length cq)) 60)).alloc (.cells #[.int .u8 0, .int .u8 0, .int .u8 0, .int .u8 0, .int .u8 0, .int .u8 0, .int .u8 0, .int .u8 0, .int .u8 0, .int .u8 0, .int .u8 0, .int .u8 0, .int .u8 0, .int .u8 0, .int .u8 0, .int .u8 0, .int .u8 0, .int .u8 0, .int .u8 0, .int .u8 0, .int .u8 0, .int .u8 0, .int .u8 0, .int .u8 0] 25)) := ((Below.refl _ w).alloc (Nat.le_refl _) _).alloc (by simp) _
  have S0 : ((w.alloc (.cells (nc x (.slice ap x.ps.length cp) (.slice aq x.ks.length cq)) 60)).alloc (.cells #[.int .u8 0, .int .u8 0, .int .u8 0, .int .u8 0, .int .u8 0, .int .u8 0, .int .u8 0, .int .u8 0, .int .u8 0, .int .u8 0, .int .u8 0, .int .u8 0, .int .u8 0, .int .u8 0, .int .u8 0, .int .u8 0, .int .u8 0, .int .u8 0, .int .u8 0, .int .u8 0, .int .u8 0, .int .u8 0, .int .u8 0, .int .u8 0] 25)).heap.size = w.heap.size + 2 := by simp
  obtain ⟨c0, c1, c2⟩ := (N0.alloc (.cells #[.int .u8 0, .int .u8 0, .int .u8 0, .int .u8 0, .int .u8 0, .int .u8 0, .int .u8 0, .int .u8 0, .int .u8 0, .int .u8 0, .int .u8 0, .int .u8 0, .int .u8 0, .int .u8 0, .int .u8 0, .int .u8 0, .int .u8 0, .int .u8 0, .int .u8 0, .int .u8 0, .int .u8 0, .int .u8 0, .int .u8 0, .int .u8 0] 25)).cells
  have HFL : Hid ((firstN x).length = 24) := firstN_length x hk
  clear N0 h
  obtain ⟨lv, ps, ks⟩ := x
  simp only at c0 c1 c2 GP GQ Z0 B0 S0 ⊢
  cases ps with
  | cons p ps =>
    obtain ⟨g, off, e, hg, hat, ok⟩ := GP 0 (by simp)
    cases e
    simp only [List.getElem_cons_zero, Nat.zero_mul, Nat.add_zero] at hat ok
    have hpos : (0 : Int) < (((p :: ps).length : Nat) : Int) := Int.natCast_pos.2 (Nat.zero_lt_succ _)
    have HP : Hid (firstN ⟨lv, p :: ps, ks⟩ = p.el.k) := rfl
    have RA : Hid (∀ z, Below w.heap.size w z → z.rangeAt g off (ec p.el)) := fun z hz => range_same hat (hz.block g hg)
    clear GP GQ hat
    generalize (p :: ps).length = n at *
    go_enter Tryz.func40, Tryz.ntmps40
    go_upto_region 2 with fail
    generalize (w.alloc (.cells (nc ⟨lv, p :: ps, ks⟩ (.slice (some ⟨g, off, none⟩) n cp) (.slice aq ks.length cq)) 60)).alloc (.cells #[.int .u8 0, .int .u8 0, .int .u8 0, .int .u8 0, .int .u8 0, .int .u8 0, .int .u8 0, .int .u8 0, .int .u8 0, .int .u8 0, .int .u8 0, .int .u8 0, .int .u8 0, .int .u8 0, .int .u8 0, .int .u8 0, .int .u8 0, .int .u8 0, .int .u8 0, .int .u8 0, .int .u8 0, .int .u8 0, .int .u8 0, .int .u8 0] 25) = W at *
    go_wp2_with (first
      | (refine load_P _ rfl g off rfl rfl p.el ok (RA.out _ B0) ?_)
      | (go_at_call 64; refine (keyP_calls _ p.el ok).mono ?_; rintro x w1 ⟨rfl, b1⟩)
      | (refine store_key rfl _ _ rfl (w.heap.size + 1) rfl p.el.k rfl ok.len (zs 24) (Z0.out.below b1 Z0.out.lt) ?_; intro w2 h2 t2 s2))
    refine ret_key rfl _ _ rfl h2 rfl ⟨by rw [HP.out], ?_⟩
    exact below_touched (B0.trans (b1.mono B0.size)) t2 (by omega) (Nat.le_refl _)
  | nil =>
    cases ks with
    | cons p ks =>
      obtain ⟨g, off, e, hg, hat, ok⟩ := GQ 0 (by simp)
      cases e
      simp only [List.getElem_cons_zero, Nat.zero_mul, Nat.add_zero] at hat ok
      have hpos : (0 : Int) < (((p :: ks).length : Nat) : Int) := Int.natCast_pos.2 (Nat.zero_lt_succ _)
      have HP : Hid (firstN ⟨lv, [], p :: ks⟩ = p.el.k) := rfl
      have RA : Hid (∀ z, Below w.heap.size w z → z.rangeAt g off (ec p.el)) := fun z hz => range_same hat (hz.block g hg)
      simp only [List.length_nil] at c1 Z0 B0 S0 c0 c2 ⊢
      clear GP GQ hat
      generalize (p :: ks).length = n at *
      go_enter Tryz.func40, Tryz.ntmps40
      go_upto_region 2 with fail
      generalize (w.alloc (.cells (nc ⟨lv, [], p :: ks⟩ (.slice ap 0 cp) (.slice (some ⟨g, off, none⟩) n cq)) 60)).alloc (.cells #[.int .u8 0, .int .u8 0, .int .u8 0, .int .u8 0, .int .u8 0, .int .u8 0, .int .u8 0, .int .u8 0, .int .u8 0, .int .u8 0, .int .u8 0, .int .u8 0, .int .u8 0, .int .u8 0, .int .u8 0, .int .u8 0, .int .u8 0, .int .u8 0, .int .u8 0, .int .u8 0, .int .u8 0, .int .u8 0, .int .u8 0, .int .u8 0] 25) = W at *
      go_wp2_with (first
        | (refine load_K _ rfl g off rfl rfl p.el ok (RA.out _ B0) ?_)
        | (go_at_call 65; refine (keyK_calls _ p.el ok).mono ?_; rintro x w1 ⟨rfl, b1⟩)
        | (refine store_key rfl _ _ rfl (w.heap.size + 1) rfl p.el.k rfl ok.len (zs 24) (Z0.out.below b1 Z0.out.lt) ?_; intro w2 h2 t2 s2))
      refine ret_key rfl _ _ rfl h2 rfl ⟨by rw [HP.out], ?_⟩
      exact below_touched (B0.trans (b1.mono B0.size)) t2 (by omega) (Nat.le_refl _)
    | nil =>
      simp only [List.length_nil] at c1 c2 Z0 B0 S0 c0 ⊢
      have HP : Hid (firstN ⟨lv, [], []⟩ = zs 24) := rfl
      clear GP GQ
      go_enter Tryz.func40, Tryz.ntmps40
      go_upto_region 2 with fail
      generalize (w.alloc (.cells (nc ⟨lv, [], []⟩ (.slice ap 0 cp) (.slice aq 0 cq)) 60)).alloc (.cells #[.int .u8 0, .int .u8 0, .int .u8 0, .int .u8 0, .int .u8 0, .int .u8 0, .int .u8 0, .int .u8 0, .int .u8 0, .int .u8 0, .int .u8 0, .int .u8 0, .int .u8 0, .int .u8 0, .int .u8 0, .int .u8 0, .int .u8 0, .int .u8 0, .int .u8 0, .int .u8 0, .int .u8 0, .int .u8 0, .int .u8 0, .int .u8 0] 25) = W at *
      go_wp2_with (first
        | (refine build_any rfl 25 _ rfl [] rfl _ Tryz.key0 ?_)
        | (refine store_key rfl _ _ rfl (w.heap.size + 1) rfl (zs 24) rfl rfl (zs 24) Z0.out ?_; intro w2 h2 t2 s2))
      refine ret_key rfl _ _ rfl h2 rfl ⟨by rw [HP.out], ?_⟩
      exact below_touched B0 t2 (by omega) (Nat.le_refl _)

set_option maxHeartbeats 4000000 in
set_option maxRecDepth 100000 in
theorem rless_calls (w : World) (A B : List UInt8) (hA : A.length = 24) (hB : B.length = 24) : Calls Tryz.prog 55 #[kv A, kv B] w fun e w' => e = .returned (.bool (Op.bytesLess A B)) ∧ Below w.heap.size w w' := by
  have H1 : Has ((w.alloc (.cells (bc A).toArray 25)).alloc (.cells (bc B).toArray 25)) w.heap.size A := (Has.new w A hA).alloc _
  have H2 : Has ((w.alloc (.cells (bc A).toArray 25)).alloc (.cells (bc B).toArray 25)) (w.heap.size + 1) B := by have := Has.new (w.alloc (.cells (bc A).toArray 25)) B hB; simpa using this
  have B0 : Below w.heap.size w ((w.alloc (.cells (bc A).toArray 25)).alloc (.cells (bc B).toArray 25)) := ((Below.refl _ w).alloc (Nat.le_refl _) _).alloc (by simp) _
  go_enter Tryz.func55, Tryz.ntmps55
  go_upto_region 2 with fail
  generalize (w.alloc (.cells (bc A).toArray 25)).alloc (.cells (bc B).toArray 25) = W at *
  have HP0 : Hid (Has W w.heap.size A ∧ Has W (w.heap.size + 1) B ∧ Below w.heap.size w W) := ⟨H1, H2, B0⟩
  clear H1 H2 B0
  go_loopg [5] 24 (fun g2 i wy => ∃ j : Nat, j + g2 = 24 ∧ i = .int .i64 (j : Int) ∧ Hid (Has wy w.heap.size A ∧ Has wy (w.heap.size + 1) B ∧ Below w.heap.size w wy) ∧ Hid (Op.bytesLess A B = Op.bytesLess (A.drop j) (B.drop j)))
  case atStart => exact ⟨0, rfl, rfl, HP0, (show Op.bytesLess A B = Op.bytesLess (A.drop 0) (B.drop 0) from rfl)⟩
  case round =>
    obtain ⟨j, hjg, rfl, HP, HJ⟩ := hrel
    cases gk with
    | zero =>
      have hj : j = 24 := by omega
      subst hj
      go_wp2_with fail
      go_ret
      exact ⟨by rw [HJ.out, less_end _ _ hA hB]; rfl, HP.out.2.2⟩
    | succ g2 =>
      have hj24 : j < 24 := by omega
      have hjI : (j : Int) < 24 := by omega
      have hj0 : (0 : Int) ≤ (j : Int) := by omega
      have cA := HP.out.1.cell j hj24
      have cB := HP.out.2.1.cell j hj24
      have HJ2 : Hid (Op.bytesLess A B = _) := (show _ = _ by rw [HJ.out, less_drop _ _ _ (by omega) (by omega)])
      clear HJ
      generalize (A.getD j 0).toNat = x at *
      generalize (B.getD j 0).toNat = y at *
      by_cases hxy : x = y
      · have q1 : ((x : Int) == (y : Int)) = true := by simp [hxy]
        have q3 : ((x : Int) != (y : Int)) = false := by simp [hxy]
        have HXY : Hid (x = y) := hxy
        clear hxy
        go_upto_region 4 with fail
        go_quiet (fail)
        go_wp2_with fail
        go_roundg g2
        case measure => omega
        case rel => exact ⟨j + 1, by omega, by go_num, ⟨HP.out.1.drewN _, HP.out.2.1.drewN _, below_drewN HP.out.2.2 _⟩, (show _ = _ by rw [HJ2.out, HXY.out]; simp)⟩
      · have q1 : ((x : Int) == (y : Int)) = false := by simp; omega
        have q3 : ((x : Int) != (y : Int)) = true := by simp; omega
        have q2 : (x == y) = false := by simpa using hxy
        have HXY : Hid ((x == y) = false) := q2
        clear hxy q2
        go_upto_region 4 with fail
        go_quiet (fail)
        go_upto_region 5 with fail
        go_quiet (fail)
        go_wp2_with fail
        go_ret
        exact ⟨by rw [HJ2.out, HXY.out]; simp, below_drewN (below_drewN HP.out.2.2 _) _⟩
end Go.Proofs.YtjhdnpplmlddaaaGreat
