/- The document's own words on nodes: key, First. -/
import Derived.Test.YtggbnacpgkbieaaNtA
namespace Go.Proofs.Ytggbnacpgkbieaa
set_option linter.unusedVariables false
open Go.RowKit

theorem zs_cons (n : Nat) : zs (n + 1) = 0 :: zs n := rfl
theorem win_set (L : List UInt8) (p k : Nat) (h : k < 24) (B : UInt8) (hB : L.getD (p + k) 0 = B) : (win L p k ++ zs (24 - k)).set k B = win L p (k + 1) ++ zs (24 - (k + 1)) := by
  have e : 24 - k = (24 - (k + 1)) + 1 := by omega
  rw [e, zs_cons, List.set_append_right _ _ (by rw [win_length]; exact Nat.le_refl _), win_length, Nat.sub_self, List.set_cons_zero, win, hB]
  simp
theorem key_cells : (bc (zs 24)).toArray = #[.int .u8 0, .int .u8 0, .int .u8 0, .int .u8 0, .int .u8 0, .int .u8 0, .int .u8 0, .int .u8 0, .int .u8 0, .int .u8 0, .int .u8 0, .int .u8 0, .int .u8 0, .int .u8 0, .int .u8 0, .int .u8 0, .int .u8 0, .int .u8 0, .int .u8 0, .int .u8 0, .int .u8 0, .int .u8 0, .int .u8 0, .int .u8 0] := rfl
set_option maxRecDepth 100000 in
set_option maxHeartbeats 8000000 in
theorem rkey_calls (w : World) (L : List UInt8) (p : Nat) (hp : p ≤ 90000) (hL : L.length ≤ 1000) :
    Calls Try.prog 41 #[.string (str L), .int .i64 (p : Int)] w fun e w' => e = .returned (kv (win L p 24)) ∧ Below w.heap.size w w' := by
  obtain ⟨C0, hC0⟩ : ∃ C0, C0 = (bc (zs 24)).toArray := ⟨_, rfl⟩
  have H0 : Has ((w.alloc (.cells C0 39)).alloc (.cells C0 39)) w.heap.size (zs 24) := by rw [hC0]; exact (Has.new w (zs 24) rfl).alloc _
  have H1 : Has ((w.alloc (.cells C0 39)).alloc (.cells C0 39)) (w.heap.size + 1) (zs 24) := by rw [hC0]; have := Has.new (w.alloc (.cells (bc (zs 24)).toArray 39)) (zs 24) rfl; simpa using this
  have B0 : Below w.heap.size w ((w.alloc (.cells C0 39)).alloc (.cells C0 39)) := ((Below.refl _ w).alloc (Nat.le_refl _) _).alloc (by simp) _
  rw [hC0, key_cells] at H0 H1 B0
  clear hC0
  have HH : Hid (Has _ w.heap.size (zs 24) ∧ Has _ (w.heap.size + 1) (zs 24) ∧ Below w.heap.size w _) := ⟨H0, H1, B0⟩
  clear H0 H1 B0
  go_enter Try.func41, Try.ntmps41
  go_upto_region 2 with (first
    | (refine build_any rfl 39 _ rfl [] rfl _ Try.key0 ?_)
    | (refine store_key rfl _ _ rfl (w.heap.size + 1) rfl (zs 24) rfl rfl (zs 24) HH.out.2.1 ?_; intro x1 h1 t1 s1))
  have HX : Hid (Has x1 w.heap.size (zs 24) ∧ Has x1 (w.heap.size + 1) (win L p 0 ++ zs (24 - 0)) ∧ Below w.heap.size w x1) := ⟨HH.out.1.touch t1 (by omega), h1, below_touched HH.out.2.2 t1 (by omega) (Nat.le_refl _)⟩
  clear HH h1 t1 s1
  go_wp2_with fail
  go_loopg [6] 24 (fun g i wr => ∃ k : Nat, k + g = 24 ∧ i = .int .i64 (k : Int) ∧ Hid (Has wr w.heap.size (zs 24) ∧ Has wr (w.heap.size + 1) (win L p k ++ zs (24 - k)) ∧ Below w.heap.size w wr))
  case atStart => exact ⟨0, by omega, rfl, HX.out⟩
  case round =>
    obtain ⟨k, hkg, rfl, HP⟩ := hrel
    cases gk with
    | zero =>
      obtain rfl : k = 24 := by omega
      have HQ : Hid (Has wr (w.heap.size + 1) (win L p 24)) := (show Has _ _ _ by have := HP.out.2.1; simpa [zs] using this)
      have hl : (win L p 24).length = 24 := win_length _ _ _
      have HLn : Hid ((win L p 24).length = 24) := hl
      clear hl
      go_wp2_with (first
        | (refine load_key _ rfl (w.heap.size + 1) rfl rfl (win L p 24) HQ.out ?_)
        | (refine store_key rfl _ _ rfl w.heap.size rfl (win L p 24) rfl HLn.out (zs 24) HP.out.1 ?_; intro w2 h2 t2 s2))
      refine ret_key rfl _ _ rfl h2 rfl ⟨rfl, ?_⟩
      exact below_touched HP.out.2.2 t2 (by omega) (Nat.le_refl _)
    | succ g =>
      have hk24 : k < 24 := by omega
      have hkI : (k : Int) < 24 := by omega
      have hadd0 := add_small (p := p) (k := k) (by omega)
      have cA0 := rat_calls wr L (p + k) (by omega) hL
      have HW0 := fun B hB => win_set L p k hk24 B hB
      have u8 := u8_back (L.getD (p + k) 0)
      obtain ⟨u, hu⟩ : ∃ u : Nat, u = p + k := ⟨_, rfl⟩
      have hadd : wrap64 ((p : Int) + (k : Int)) = (u : Int) := by rw [hu]; exact hadd0
      have hadd2 : (p : Int) + (k : Int) = (u : Int) := by omega
      have cA := cA0
      rw [← hu] at cA HW0 u8
      clear hu hadd0 cA0
      obtain ⟨B, hB⟩ : ∃ B, L.getD u 0 = B := ⟨_, rfl⟩
      have HW : Hid ((win L p k ++ zs (24 - k)).set k B = win L p (k + 1) ++ zs (24 - (k + 1))) := HW0 B hB
      rw [hB] at cA u8
      clear HW0 hB
      have f := HP.out.2.1.free k
      have c := HP.out.2.1.cell k hk24
      have HNEW : Hid (Has (wr.setCell ⟨w.heap.size + 1, k, none⟩ (.int .u8 (B.toNat : Int))) w.heap.size (zs 24) ∧ Has (wr.setCell ⟨w.heap.size + 1, k, none⟩ (.int .u8 (B.toNat : Int))) (w.heap.size + 1) (win L p (k + 1) ++ zs (24 - (k + 1))) ∧ Below w.heap.size w (wr.setCell ⟨w.heap.size + 1, k, none⟩ (.int .u8 (B.toNat : Int)))) :=
        ⟨HP.out.1.setOther (by omega) _ _, (by rw [← HW.out]; exact HP.out.2.1.setCell k B), HP.out.2.2.setCell (by simp) _⟩
      generalize (((win L p k ++ zs (24 - k)).getD k 0).toNat : Int) = old at *
      clear HP HW
      go_wp2_with (go_at_call 40; refine cA.mono ?_; rintro e w1 ⟨rfl, rfl⟩)
      go_roundg g
      case measure => omega
      case rel => exact ⟨k + 1, by omega, congrArg _ (by omega), HNEW.out⟩
theorem ec_key {e : El} {j : Nat} {u : Value} (h : (bc e.k)[j]? = some u) : (ec e)[j]? = some u := by
  have hj := (List.getElem?_eq_some_iff.1 h).1
  unfold ec
  rw [List.getElem?_append_left hj]
  exact h
set_option maxHeartbeats 4000000 in
set_option maxRecDepth 100000 in
theorem rfirst_calls (w : World) (x : Nod) (pv qv : Value) (h : Parts w x pv qv) :
    Calls Try.prog 13 #[nv x pv qv] w fun e w' => e = .returned (kv (firstN x)) ∧ Below w.heap.size w w' := by
  obtain ⟨ap, cp, rfl⟩ := h.lenP
  obtain ⟨aq, cq, rfl⟩ := h.lenQ
  have GP := els_get h.p
  have GQ := els_get h.q
  have hk := h.keyed
  have N0 : HasN (w.alloc (.cells (nc x (.slice ap x.ps.length cp) (.slice aq x.ks.length cq)) 25)) w.heap.size x (.slice ap x.ps.length cp) (.slice aq x.ks.length cq) := HasN.new w x _ _ _ rfl rfl rfl
  have Z0 : Hid (Has ((w.alloc (.cells (nc x (.slice ap x.ps.length cp) (.slice aq x.ks.length cq)) 25)).alloc (.cells #[.int .u8 0, .int .u8 0, .int .u8 0, .int .u8 0, .int .u8 0, .int .u8 0, .int .u8 0, .int .u8 0, .int .u8 0, .int .u8 0, .int .u8 0, .int .u8 0, .int .u8 0, .int .u8 0, .int .u8 0, .int .u8 0, .int .u8 0, .int .u8 0, .int .u8 0, .int .u8 0, .int .u8 0, .int .u8 0, .int .u8 0, .int .u8 0] 39)) (w.heap.size + 1) (zs 24)) := zero_has _ _ (by simp)
  have B0 : Below w.heap.size w ((w.alloc (.cells (nc x (.slice ap x.ps.length cp) (.slice aq x.ks.length cq)) 25)).alloc (.cells #[.int .u8 0, .int .u8 0, .int .u8 0, .int .u8 0, .int .u8 0, .int .u8 0, .int .u8 0, .int .u8 0, .int .u8 0, .int .u8 0, .int .u8 0, .int .u8 0, .int .u8 0, .int .u8 0, .int .u8 0, .int .u8 0, .int .u8 0, .int .u8 0, .int .u8 0, .int .u8 0, .int .u8 0, .int .u8 0, .int .u8 0, .int .u8 0] 39)) := ((Below.refl _ w).alloc (Nat.le_refl _) _).alloc (by simp) _
  have S0 : ((w.alloc (.cells (nc x (.slice ap x.ps.length cp) (.slice aq x.ks.length cq)) 25)).alloc (.cells #[.int .u8 0, .int .u8 0, .int .u8 0, .int .u8 0, .int .u8 0, .int .u8 0, .int .u8 0, .int .u8 0, .int .u8 0, .int .u8 0, .int .u8 0, .int .u8 0, .int .u8 0, .int .u8 0, .int .u8 0, .int .u8 0, .int .u8 0, .int .u8 0, .int .u8 0, .int .u8 0, .int .u8 0, .int .u8 0, .int .u8 0, .int .u8 0] 39)).heap.size = w.heap.size + 2 := by simp
  obtain ⟨c0, c1, c2⟩ := (N0.alloc (.cells #[.int .u8 0, .int .u8 0, .int .u8 0, .int .u8 0, .int .u8 0, .int .u8 0, .int .u8 0, .int .u8 0, .int .u8 0, .int .u8 0, .int .u8 0, .int .u8 0, .int .u8 0, .int .u8 0, .int .u8 0, .int .u8 0, .int .u8 0, .int .u8 0, .int .u8 0, .int .u8 0, .int .u8 0, .int .u8 0, .int .u8 0, .int .u8 0] 39)).cells
  have HFL : Hid ((firstN x).length = 24) := firstN_length x hk
  clear N0 h
  obtain ⟨lv, ps, ks⟩ := x
  simp only at c0 c1 c2 GP GQ Z0 B0 S0 ⊢
  cases ps with
  | cons p ps =>
    obtain ⟨g, off, e, hg, hat, ok⟩ := GP 0 (by simp)
    cases e
    simp only [List.getElem_cons_zero, Nat.zero_mul, Nat.add_zero] at hat ok
    have hpos : (0 : Int) < (((p :: ps).length : Nat) : Int) := Int.natCast_pos.2 (Nat.zero_lt_succ _)
    have HP : Hid (firstN ⟨lv, p :: ps, ks⟩ = p.el.k) := rfl
    have RA : Hid (∀ z, Below w.heap.size w z → z.rangeAt g off (ec p.el)) := fun z hz => range_same hat (hz.block g hg)
    clear GP GQ hat
    generalize (p :: ps).length = n at *
    go_enter Try.func13, Try.ntmps13
    go_upto_region 2 with fail
    generalize (w.alloc (.cells (nc ⟨lv, p :: ps, ks⟩ (.slice (some ⟨g, off, none⟩) n cp) (.slice aq ks.length cq)) 25)).alloc (.cells #[.int .u8 0, .int .u8 0, .int .u8 0, .int .u8 0, .int .u8 0, .int .u8 0, .int .u8 0, .int .u8 0, .int .u8 0, .int .u8 0, .int .u8 0, .int .u8 0, .int .u8 0, .int .u8 0, .int .u8 0, .int .u8 0, .int .u8 0, .int .u8 0, .int .u8 0, .int .u8 0, .int .u8 0, .int .u8 0, .int .u8 0, .int .u8 0] 39) = W at *
    go_wp2_with (first
      | (refine load_part _ rfl g off rfl rfl p.el.k ok.len (fun j u hu => RA.out _ B0 j u (ec_key hu)) ?_)
      | (refine store_key rfl _ _ rfl (w.heap.size + 1) rfl p.el.k rfl ok.len (zs 24) Z0.out ?_; intro w2 h2 t2 s2))
    refine ret_key rfl _ _ rfl h2 rfl ⟨by rw [HP.out], ?_⟩
    exact below_touched B0 t2 (by omega) (Nat.le_refl _)
  | nil =>
    cases ks with
    | cons p ks =>
      obtain ⟨g, off, e, hg, hat, ok⟩ := GQ 0 (by simp)
      cases e
      simp only [List.getElem_cons_zero, Nat.zero_mul, Nat.add_zero] at hat ok
      have hpos : (0 : Int) < (((p :: ks).length : Nat) : Int) := Int.natCast_pos.2 (Nat.zero_lt_succ _)
      have HP : Hid (firstN ⟨lv, [], p :: ks⟩ = p.el.k) := rfl
      have RA : Hid (∀ z, Below w.heap.size w z → z.rangeAt g off (ec p.el)) := fun z hz => range_same hat (hz.block g hg)
      simp only [List.length_nil] at c1 Z0 B0 S0 c0 c2 ⊢
      clear GP GQ hat
      generalize (p :: ks).length = n at *
      go_enter Try.func13, Try.ntmps13
      go_upto_region 3 with fail
      generalize (w.alloc (.cells (nc ⟨lv, [], p :: ks⟩ (.slice ap 0 cp) (.slice (some ⟨g, off, none⟩) n cq)) 25)).alloc (.cells #[.int .u8 0, .int .u8 0, .int .u8 0, .int .u8 0, .int .u8 0, .int .u8 0, .int .u8 0, .int .u8 0, .int .u8 0, .int .u8 0, .int .u8 0, .int .u8 0, .int .u8 0, .int .u8 0, .int .u8 0, .int .u8 0, .int .u8 0, .int .u8 0, .int .u8 0, .int .u8 0, .int .u8 0, .int .u8 0, .int .u8 0, .int .u8 0] 39) = W at *
      go_wp2_with (first
        | (refine load_part _ rfl g off rfl rfl p.el.k ok.len (fun j u hu => RA.out _ B0 j u (ec_key hu)) ?_)
        | (refine store_key rfl _ _ rfl (w.heap.size + 1) rfl p.el.k rfl ok.len (zs 24) Z0.out ?_; intro w2 h2 t2 s2))
      refine ret_key rfl _ _ rfl h2 rfl ⟨by rw [HP.out], ?_⟩
      exact below_touched B0 t2 (by omega) (Nat.le_refl _)
    | nil =>
      simp only [List.length_nil] at c1 c2 Z0 B0 S0 c0 ⊢
      have HP : Hid (firstN ⟨lv, [], []⟩ = zs 24) := rfl
      clear GP GQ
      go_enter Try.func13, Try.ntmps13
      go_upto_region 3 with fail
      generalize (w.alloc (.cells (nc ⟨lv, [], []⟩ (.slice ap 0 cp) (.slice aq 0 cq)) 25)).alloc (.cells #[.int .u8 0, .int .u8 0, .int .u8 0, .int .u8 0, .int .u8 0, .int .u8 0, .int .u8 0, .int .u8 0, .int .u8 0, .int .u8 0, .int .u8 0, .int .u8 0, .int .u8 0, .int .u8 0, .int .u8 0, .int .u8 0, .int .u8 0, .int .u8 0, .int .u8 0, .int .u8 0, .int .u8 0, .int .u8 0, .int .u8 0, .int .u8 0] 39) = W at *
      go_wp2_with (first
        | (refine build_any rfl 39 _ rfl [] rfl _ Try.key0 ?_)
        | (refine store_key rfl _ _ rfl (w.heap.size + 1) rfl (zs 24) rfl rfl (zs 24) Z0.out ?_; intro w2 h2 t2 s2))
      refine ret_key rfl _ _ rfl h2 rfl ⟨by rw [HP.out], ?_⟩
      exact below_touched B0 t2 (by omega) (Nat.le_refl _)

end Go.Proofs.Ytggbnacpgkbieaa
