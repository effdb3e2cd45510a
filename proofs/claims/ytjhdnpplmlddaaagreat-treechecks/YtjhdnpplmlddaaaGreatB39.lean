import Derived.Test.YtjhdnpplmlddaaaGreatSi
import Derived.Test.YtjhdnpplmlddaaaGreatB38
/- slices.ContainsFunc and slices.Clone over changes; settle of one change. -/
namespace Go.Proofs.YtjhdnpplmlddaaaGreat
set_option linter.unusedVariables false
open Go.RowKit

def longC (c : Cq) : Bool := decide (40 < (c.s.size : Int))
def anyC (C : List Cq) : Bool := C.any longC
set_option maxRecDepth 100000 in
set_option maxHeartbeats 2000000 in
theorem longC_calls (w : World) (c : Cq) : Calls Tryz.prog 24 #[.agg (encCq.c c).toArray] w fun e w' => e = .returned (.bool (longC c)) ∧ Below w.heap.size w w' := by
  have hI : InB encCq 38 (w.alloc (.cells (encCq.c c).toArray 38)) w.heap.size c := InB.new _ _ _ _ _ rfl
  have hc := (range_vG hI.range).1
  rw [Nat.zero_add] at hc
  have HB : Hid (Below w.heap.size w (w.alloc (.cells (encCq.c c).toArray 38))) := (Below.refl _ w).alloc (Nat.le_refl _) _
  clear hI
  go_enter Tryz.func24, Tryz.ntmps24
  go_upto_region 1 with fail
  change Code.wp _ _ _ _ (w.alloc (.cells (encCq.c c).toArray 38))
  generalize w.alloc (.cells (encCq.c c).toArray 38) = W at *
  go_wp2
  go_ret
  exact ⟨by first | rfl | (simp [longC]; done), HB.out⟩
set_option maxRecDepth 100000 in
set_option maxHeartbeats 2000000 in
theorem indexC_calls (w : World) (sv : Value) (C : List Cq) (h : Sl encCq w sv C) (hl : C.length ≤ 100000) :
    Calls Tryz.prog 45 #[sv, .func (Fn.func 24) #[] #[]] w fun e w' => ∃ n : Int, e = .returned (.int .i64 n) ∧ decide (0 ≤ n) = anyC C ∧ Below w.heap.size w w' := by
  have h' := h
  obtain ⟨ad, cap, rfl, hcap, _⟩ := h'
  obtain ⟨N, hN⟩ : ∃ N : Nat, N = C.length := ⟨_, rfl⟩
  rw [← hN] at hcap hl ⊢
  have HN : Hid (N = C.length) := hN
  have HI : Hid (∀ i (hi : i < C.length), ∃ g off, ad = some ⟨g, off, none⟩ ∧ g < w.heap.size ∧ w.rangeAt g (off + i * 26) (encCq.c C[i])) := fun i hi => SlB.at h i hi
  clear hN h hcap
  go_enter Tryz.func45, Tryz.ntmps45
  go_wp2
  go_loopg [8] N (fun gg v8 wr => ∃ k : Nat, k + gg = N ∧ v8 = .int .i64 (k : Int) ∧ Hid (Below w.heap.size w wr ∧ anyC C = anyC (C.drop k)))
  case atStart => exact ⟨0, by omega, rfl, Below.refl _ _, rfl⟩
  case round =>
    obtain ⟨k, hkg, rfl, HE⟩ := hrel
    cases gk with
    | zero =>
      have hk : k = N := by omega
      have hI : ¬ (k : Int) < (N : Int) := by omega
      have HF : Hid (anyC C = false) := (show _ = _ by rw [HE.out.2, hk, HN.out, List.drop_length]; rfl)
      go_wp2
      go_ret
      exact ⟨_, rfl, by rw [HF.out]; rfl, HE.out.1⟩
    | succ gg =>
      have hkl : k < C.length := by rw [← HN.out]; omega
      have hI : (k : Int) < (N : Int) := by omega
      obtain ⟨g, off, rfl, hg, hat⟩ := HI.out k hkl
      have HR : Hid (wr.rangeAt g (off + k * 26) (encCq.c C[k])) := range_same' hat (HE.out.1.block g hg)
      have HE3 : Hid (anyC C = (longC C[k] || anyC (C.drop (k + 1)))) := (show _ = _ by rw [HE.out.2, anyC, List.drop_eq_getElem_cons hkl, List.any_cons]; rfl)
      have HB : Hid (Below w.heap.size w wr) := HE.out.1
      clear HE hat
      generalize C[k] = c at *
      cases hb : longC c with
      | true =>
        go_wp2_with (first
          | (refine load_el elCq _ rfl g (off + k * 26) rfl rfl c HR.out ?_)
          | (go_at_call 24; refine (longC_calls _ c).mono ?_; rintro e w1 ⟨rfl, b1⟩; rw [hb]))
        go_ret
        exact ⟨_, rfl, by rw [HE3.out, hb]; simp, HB.out.trans (b1.mono HB.out.size)⟩
      | false =>
        go_wp2_with (first
          | (refine load_el elCq _ rfl g (off + k * 26) rfl rfl c HR.out ?_)
          | (go_at_call 24; refine (longC_calls _ c).mono ?_; rintro e w1 ⟨rfl, b1⟩; rw [hb]))
        go_roundg gg
        case measure => omega
        case rel => exact ⟨k + 1, by omega, congrArg _ (by first | omega | (unfold wrap64; omega)), HB.out.trans (b1.mono HB.out.size), by rw [HE3.out, hb]; rfl⟩
set_option maxRecDepth 100000 in
set_option maxHeartbeats 2000000 in
theorem containsC_calls (w : World) (sv : Value) (C : List Cq) (h : Sl encCq w sv C) (hl : C.length ≤ 100000) :
    Calls Tryz.prog 23 #[sv, .func (Fn.func 24) #[] #[]] w fun e w' => e = .returned (.bool (anyC C)) ∧ Below w.heap.size w w' := by
  have hc := indexC_calls w sv C h hl
  have h' := h
  obtain ⟨ad, cap, rfl, _⟩ := h'
  clear h
  go_enter Tryz.func23, Tryz.ntmps23
  go_wp2_with fail
  refine hc.mono ?_
  rintro e w1 ⟨n, rfl, hn, b1⟩
  clear hc
  have HN : Hid (decide (0 ≤ n) = anyC C) := hn
  clear hn
  go_wp2
  go_ret
  exact ⟨by rw [← HN.out]; first | rfl | simp, b1⟩
theorem eqlC_nil (w : World) (a : Option Addr) (n c n' c' : Nat) : (binOp .eql 32 (.slice a n c) (.slice none n' c')).run Tryz.prog w = .ok (.bool a.isNone) w := Lib.run_eql_slice_nil w _ _ a n c n' c' Tryz.underlying32
set_option maxRecDepth 100000 in
set_option maxHeartbeats 2000000 in
theorem cloneC_calls (w : World) (a : Addr) (n c : Nat) (C : List Cq) (h : Sl encCq w (.slice (some a) n c) C) (hl : C.length ≤ 100000) :
    Calls Tryz.prog 50 #[.slice (some a) n c] w fun e w' => ∃ v, e = .returned v ∧ Own encCq 38 w' w.heap.size v C ∧ Below w.heap.size w w' := by
  have he := eqlC_nil w (some a) n c 0 0
  have HM : Hid (Own encCq 38 (w.alloc (.cells #[] 38)) w.heap.size (.slice (some ⟨w.heap.size, 0, none⟩) 0 0) [] ∧ Below w.heap.size w (w.alloc (.cells #[] 38)) ∧ SlB encCq (w.alloc (.cells #[] 38)) w.heap.size (.slice (some a) n c) C) :=
    ⟨World.ownsRow_made w #[] 0 (Nat.le_refl _) (by unfold maxLen; omega) rfl, (Below.refl _ w).alloc (Nat.le_refl _) _, h.below ((Below.refl _ w).alloc (Nat.le_refl _) _)⟩
  have HL : Hid (([] : List Cq).length + C.length ≤ 1000000) := (show _ ≤ _ by simp; omega)
  clear h
  simp only [Option.isNone_some] at he
  go_enter Tryz.func50, Tryz.ntmps50
  go_wp2_with (at_builtin; refine append_sl rowG rfl _ _ rfl w.heap.size (.slice (some ⟨w.heap.size, 0, none⟩) 0 0) [] C rfl HM.out.1 (.slice (some a) n c) rfl w.heap.size HM.out.2.2 HL.out (by decide) HM.out.2.1.size ?_; intro v1 w1 ho1 gr1)
  go_ret
  exact ⟨_, rfl, ho1, HM.out.2.1.grown gr1 HM.out.2.1.size (fun k hk => (HM.out.1.lt k hk).1)⟩
/-! Sorting one: nothing to do. -/
set_option maxRecDepth 100000 in
set_option maxHeartbeats 2000000 in
theorem insertion1_calls (w : World) (v f : Value) : Calls Tryz.prog 84 #[v, .int .i64 0, .int .i64 1, f] w fun e w' => e = .returned (.tuple #[]) ∧ w' = w := by
  go_enter Tryz.func84, Tryz.ntmps84
  go_wp2
  go_loopg [8] 0 (fun gg v8 wr => v8 = .int .i64 1 ∧ wr = w)
  case atStart => exact ⟨rfl, rfl⟩
  case round =>
    obtain ⟨rfl, rfl⟩ := hrel
    go_wp2
    first
    | (go_end0; exact ⟨rfl, rfl⟩)
    | (((try simp only [Exit.inBlock, Exit.then]); refine bodyPost_ret (results_none rfl _ _ _) rfl ?_); exact ⟨rfl, rfl⟩)
set_option maxRecDepth 100000 in
set_option maxHeartbeats 2000000 in
theorem stable1_calls (w : World) (v f : Value) : Calls Tryz.prog 73 #[v, .int .i64 1, f] w fun e w' => e = .returned (.tuple #[]) ∧ w' = w := by
  go_enter Tryz.func73, Tryz.ntmps73
  go_wp2_with fail
  go_loopg [7, 8] 0 (fun gg v7 v8 wr => v7 = .int .i64 0 ∧ v8 = .int .i64 20 ∧ wr = w)
  case atStart => exact ⟨rfl, rfl, rfl⟩
  case round =>
    obtain ⟨rfl, rfl, hw⟩ := hrel
    rw [hw]
    clear hw
    go_wp2_with fail
    refine (insertion1_calls _ _ _).mono ?_
    rintro e w1 ⟨rfl, hw⟩
    rw [hw]
    clear hw
    go_wp2_with fail
    go_loopg [6] 0 (fun gg v6 wr => v6 = .int .i64 20 ∧ wr = w)
    case atStart => exact ⟨rfl, rfl⟩
    case round =>
      obtain ⟨rfl, hw⟩ := hrel
      rw [hw]
      clear hw
      go_wp2
      first
      | (go_end0; exact ⟨rfl, rfl⟩)
      | (((try simp only [Exit.inBlock, Exit.then]); refine bodyPost_ret (results_none rfl _ _ _) rfl ?_); exact ⟨rfl, rfl⟩)
set_option maxRecDepth 100000 in
set_option maxHeartbeats 2000000 in
theorem sort1_calls (w : World) (a : Option Addr) (c : Nat) (f : Value) : Calls Tryz.prog 51 #[.slice a 1 c, f] w fun e w' => e = .returned (.tuple #[]) ∧ w' = w := by
  go_enter Tryz.func51, Tryz.ntmps51
  go_wp2_with fail
  refine (stable1_calls _ _ _).mono ?_
  rintro e w1 ⟨rfl, hw⟩
  rw [hw]
  clear hw
  go_wp2
  first
  | (go_end0; exact ⟨rfl, rfl⟩)
  | (((try simp only [Exit.inBlock, Exit.then]); refine bodyPost_ret (results_none rfl _ _ _) rfl ?_); exact ⟨rfl, rfl⟩)
set_option maxRecDepth 100000 in
set_option maxHeartbeats 4000000 in
theorem settle1_calls (w : World) (ad : Addr) (cap : Nat) (c : Cq) (h : Sl encCq w (.slice (some ad) 1 cap) [c]) :
    Calls Tryz.prog 27 #[.slice (some ad) 1 cap] w fun e w' => ∃ v, e = .returned v ∧ Own encCq 38 w' w.heap.size v [c] ∧ Below w.heap.size w w' := by
  have HC := cloneC_calls w ad 1 cap [c] h (by simp)
  clear h
  go_enter Tryz.func27, Tryz.ntmps27
  go_wp2_with fail
  refine HC.mono ?_
  rintro e w1 ⟨v1, rfl, ho1, hb1⟩
  clear HC
  obtain ⟨a1, c1, rfl⟩ := ho1.form
  simp only [List.length_singleton] at ho1 ⊢
  obtain ⟨g1, off1, rfl, hg1, hat1⟩ := SlB.at ho1.slB 0 (by simp)
  rw [Nat.zero_mul, Nat.add_zero, List.getElem_cons_zero] at hat1
  have H1 : Hid (Below w.heap.size w w1 ∧ w1.rangeAt g1 off1 (encCq.c c) ∧ g1 < w1.heap.size) := ⟨hb1, hat1, hg1⟩
  clear ho1 hb1 hat1 hg1
  go_wp2_with fail
  refine (sort1_calls _ _ _ _).mono ?_
  rintro e w2 ⟨rfl, hw⟩
  rw [hw]
  clear hw
  go_wp2_with fail
  go_loopg [4, 13] 1 (fun gg v4 v13 wr => ∃ (a4 : Option Addr) (n4 c4 : Nat), v4 = .slice a4 n4 c4 ∧ (gg = 1 ∧ v13 = .int .i64 0 ∧ Hid (Below w1.heap.size w1 wr ∧ Own encCq 38 wr w1.heap.size (.slice a4 n4 c4) []) ∨ gg = 0 ∧ v13 = .int .i64 1 ∧ Hid (Below w1.heap.size w1 wr ∧ Own encCq 38 wr w1.heap.size (.slice a4 n4 c4) [c])))
  case atStart => exact ⟨none, 0, 0, rfl, .inl ⟨rfl, rfl, Below.refl _ _, Own.nil _ _ _ _⟩⟩
  case round =>
    obtain ⟨a4, n4, c4, rfl, ⟨rfl, rfl, HS⟩ | ⟨rfl, rfl, HS⟩⟩ := hrel
    · have HR : Hid (wr.rangeAt g1 off1 (encCq.c c)) := range_same' H1.out.2.1 (HS.out.1.block g1 H1.out.2.2)
      go_upto_region 7 with (first
        | (refine load_el elCq _ rfl g1 off1 rfl rfl c HR.out ?_)
        | (refine store_el elCq rfl _ _ rfl wr.heap.size rfl c rfl cq0 (InB.new encCq _ wr cq0 _ rfl) ?_; intro x1 hu1 tx1 sx1))
      have BX : Below wr.heap.size wr x1 := ((Below.refl _ wr).alloc (Nat.le_refl _) _).trans (tx1.below (by simp) (Nat.le_refl _) (by simp))
      have HS1 : Hid (Below w1.heap.size w1 x1 ∧ Own encCq 38 x1 w1.heap.size (.slice a4 n4 c4) []) := ⟨HS.out.1.trans (BX.mono HS.out.1.size), HS.out.2.below BX⟩
      have HU : Hid (InB encCq 38 x1 wr.heap.size c) := hu1
      clear hu1 tx1 sx1 BX HS HR
      generalize wr.heap.size = q at *
      refine wp_region_noPanic ?_
      refine wp_region_held_drew (S := (fun y => Below x1.heap.size x1 y)) (by kernel_rfl) ((Below.refl _ _).trans ⟨rfl, rfl, rfl, Nat.le_refl _, fun _ _ => rfl⟩) (fun hHeld => ?_)
      refine wpAnyH_take (i := 0) (v := ?_) rfl (by kernel_rfl) (by kernel_rfl) (by kernel_rfl) (fun _ _ _ h => h) (Or.inl ⟨by rfl, ?_⟩) hHeld ?_
      case refine_2 => (intro w hSw; (try dsimp only at hSw); go_simp; try (with_reducible rfl))
      (try simp only [gs])
      refine wpAnyH_take (i := 1) (v := ?_) rfl (by kernel_rfl) (by kernel_rfl) (by kernel_rfl) (fun _ _ _ h => h) (Or.inl ⟨by rfl, ?_⟩) hHeld ?_
      case refine_2 => (intro w hSw; (try dsimp only at hSw); go_simp; try (with_reducible rfl))
      (try simp only [gs])
      refine wpAnyH_take (i := 2) (v := ?_) rfl (by kernel_rfl) (by kernel_rfl) (by kernel_rfl) (fun _ _ _ h => h) (Or.inl ⟨by rfl, ?_⟩) hHeld ?_
      case refine_2 => (intro w hSw; (try dsimp only at hSw); go_simp; try (with_reducible rfl))
      (try simp only [gs])
      refine wpAnyH_take (i := 3) (v := ?_) rfl (by kernel_rfl) (by kernel_rfl) (by kernel_rfl) (fun _ _ _ h => h) (Or.inl ⟨by rfl, ?_⟩) hHeld ?_
      case refine_2 => (intro w hSw; (try dsimp only at hSw); go_simp; try (with_reducible rfl))
      (try simp only [gs])
      refine wpAnyH_take (i := 4) (v := ?_) rfl (by kernel_rfl) (by kernel_rfl) (by kernel_rfl) (fun _ _ _ h => h) (Or.inl ⟨by rfl, ?_⟩) hHeld ?_
      case refine_2 => (intro w hSw; (try dsimp only at hSw); go_simp; try (with_reducible rfl))
      (try simp only [gs])
      refine wpAnyH_take (i := 5) (v := .bool true) rfl (by kernel_rfl) (by kernel_rfl) (by kernel_rfl) (fun _ _ _ h => h) (Or.inl ⟨by rfl, ?_⟩) hHeld ?_
      case refine_1 => (intro w hSw; (try dsimp only at hSw); go_simp; first | done | rfl)
      (try simp only [gs])
      refine wpAnyH_take (i := 6) (v := undef) rfl (by kernel_rfl) (by kernel_rfl) (by kernel_rfl) (fun _ _ _ h => h) (Or.inr ⟨by rfl, rfl⟩) hHeld ?_
      (try simp only [gs])
      refine wpAnyH_take (i := 7) (v := undef) rfl (by kernel_rfl) (by kernel_rfl) (by kernel_rfl) (fun _ _ _ h => h) (Or.inr ⟨by rfl, rfl⟩) hHeld ?_
      (try simp only [gs])
      refine wpAnyH_take (i := 8) (v := undef) rfl (by kernel_rfl) (by kernel_rfl) (by kernel_rfl) (fun _ _ _ h => h) (Or.inr ⟨by rfl, rfl⟩) hHeld ?_
      (try simp only [gs])
      refine wpAnyH_take (i := 9) (v := undef) rfl (by kernel_rfl) (by kernel_rfl) (by kernel_rfl) (fun _ _ _ h => h) (Or.inr ⟨by rfl, rfl⟩) hHeld ?_
      (try simp only [gs])
      refine wpAnyH_take (i := 10) (v := undef) rfl (by kernel_rfl) (by kernel_rfl) (by kernel_rfl) (fun _ _ _ h => h) (Or.inr ⟨by rfl, rfl⟩) hHeld ?_
      (try simp only [gs])
      refine wpAnyH_take (i := 11) (v := undef) rfl (by kernel_rfl) (by kernel_rfl) (by kernel_rfl) (fun _ _ _ h => h) (Or.inr ⟨by rfl, rfl⟩) hHeld ?_
      (try simp only [gs])
      refine wpAnyH_take (i := 12) (v := undef) rfl (by kernel_rfl) (by kernel_rfl) (by kernel_rfl) (fun _ _ _ h => h) (Or.inr ⟨by rfl, rfl⟩) hHeld ?_
      (try simp only [gs])
      refine wpAnyH_take (i := 13) (v := undef) rfl (by kernel_rfl) (by kernel_rfl) (by kernel_rfl) (fun _ _ _ h => h) (Or.inr ⟨by rfl, rfl⟩) hHeld ?_
      (try simp only [gs])
      refine wpAnyH_take (i := 14) (v := undef) rfl (by kernel_rfl) (by kernel_rfl) (by kernel_rfl) (fun _ _ _ h => h) (Or.inr ⟨by rfl, rfl⟩) hHeld ?_
      (try simp only [gs])
      refine wpAnyH_take (i := 15) (v := ?_) rfl (by kernel_rfl) (by kernel_rfl) (by kernel_rfl) (fun _ _ _ h => h) (Or.inl ⟨by rfl, ?_⟩) hHeld ?_
      case refine_2 => (intro w hSw; (try dsimp only at hSw); go_simp; try (with_reducible rfl))
      (try simp only [gs])
      refine wpAnyH_done (by kernel_rfl) ?_ _
      refine NoPanic.normal ?_
      have HS2 : Hid (Below w1.heap.size w1 x1.drew ∧ Own encCq 38 x1.drew w1.heap.size (.slice a4 n4 c4) [] ∧ InB encCq 38 x1.drew q c) := ⟨HS1.out.1.trans ⟨rfl, rfl, rfl, Nat.le_refl _, fun _ _ => rfl⟩, Own.below (w' := x1.drew) HS1.out.2 ⟨rfl, rfl, rfl, Nat.le_refl _, fun _ _ => rfl⟩, HU.out.same rfl⟩
      clear HS1 HU hHeld
      generalize x1.drew = x2 at *
      have HL1 : Hid (([] : List Cq).length + 1 ≤ 1000000) := (show _ ≤ _ by simp)
      go_wp2_with (first
        | (refine load_el elCq _ rfl q 0 rfl rfl c HS2.out.2.2.range ?_)
        | (refine build_el1 rowG rfl _ rfl c rfl (by decide) ?_; intro x5 o5 b5 s5 k5; have HO5 : Hid (Own encCq 38 x5 w1.heap.size (.slice a4 n4 c4) []) := HS2.out.2.1.below b5; have HB5 : Hid (Below w1.heap.size w1 x5) := HS2.out.1.trans (b5.mono HS2.out.1.size); clear o5 s5)
        | (at_builtin; refine append_one rowG rfl _ _ rfl w1.heap.size (.slice a4 n4 c4) [] rfl HO5.out _ c rfl _ _ k5 HL1.out (by decide) HB5.out.size ?_; intro g6 c6 x6 ho6 gr6 hg6 hs6))
      go_roundg 0
      case measure => omega
      case rel => exact ⟨_, _, _, rfl, .inr ⟨rfl, rfl, HB5.out.grown gr6 HB5.out.size (fun k hk => (HO5.out.lt k hk).1), ho6⟩⟩
    · go_wp2_with fail
      go_ret
      exact ⟨_, rfl, HS.out.2.lower' H1.out.1.size, H1.out.1.trans (HS.out.1.mono H1.out.1.size)⟩
end Go.Proofs.YtjhdnpplmlddaaaGreat
/- plan of an empty tree and of a leaf. -/
namespace Go.Proofs.YtjhdnpplmlddaaaGreat
set_option linter.unusedVariables false
open Go.RowKit

/-- Pairs back, as a node has them. -/
def toPr (p : Pq) : Pr := ⟨p.k, p.s⟩
theorem slB_els {w : World} {v : Value} {l : List Pq} (h : SlB encQ w w.heap.size v l) : Els w v ((l.map toPr).map Pr.el) ∧ NilOk v := by
  obtain ⟨ad, cap, e, h1, h2, h3, h4⟩ := h
  have hl : ((l.map toPr).map Pr.el).length = l.length := by simp
  have hg : ∀ i (hi : i < l.length), ((l.map toPr).map Pr.el)[i]'(by rw [hl]; exact hi) = (toPr l[i]).el := fun i hi => by simp
  refine ⟨?_, fun n c q => by rw [e] at q; injection q with q1 q2 q3; rw [← q3]; exact h3 q1⟩
  rcases h4 with rfl | ⟨g, off, q1, q2, q3⟩
  · exact ⟨none, ⟨ad, cap, e, h1, h2, (fun i hi => by cases hi), .inl rfl⟩, fun k hk => by cases hk⟩
  · refine ⟨some g, ⟨ad, cap, by rw [hl]; exact e, by rw [hl]; exact h1, by rw [hl]; exact h2, fun i hi => ?_, .inr ⟨g, off, q1, rfl, q2, fun i hi => ?_⟩⟩, fun k hk => by cases hk; exact q2⟩
    · rw [hl] at hi
      rw [hg i hi]
      exact ⟨l[i].h, rfl⟩
    · rw [hl] at hi
      rw [hg i hi]
      exact q3 i hi
theorem slB_apart {w : World} {B : Nat} {v : Value} {l : List Pq} {p q b m K L : Nat} {S : RfS} {N : Int → Option NV} (h : SlB encQ w B v l) (hm : Mm w p q b m K L S N) : Lim (fun k => k ≠ q ∧ k ≠ b ∧ k ≠ m) v := by
  intro a n c e h0
  obtain ⟨ad, cap, e1, _, _, _, h4⟩ := h
  rw [e] at e1
  injection e1 with q1 q2 q3
  rcases h4 with rfl | ⟨g, off, r1, r2, r3⟩
  · rw [q2] at h0; cases h0
  · rw [r1] at q1
    cases q1
    have hr := r3 0 (by rw [← q2]; exact h0)
    have hc : w.cell? ⟨g, off + 0 * 25 + 24, none⟩ = some (.string (l[0]'(by rw [← q2]; exact h0)).s) := by
      refine hr 24 _ ?_
      show (pqc _)[24]? = _
      have hk : (bc (l[0]'(by rw [← q2]; exact h0)).k).length = 24 := by rw [bc_length, (l[0]'(by rw [← q2]; exact h0)).h]
      rw [pqc, List.getElem?_append_right (by omega), hk]
      rfl
    refine ⟨fun eq => ?_, fun eq => ?_, fun eq => ?_⟩
    · have eq' : g = q := eq
      rw [eq', cell_of_row w q _ _ _ _ hm.rf.blk] at hc
      have := (Array.getElem?_eq_some_iff.1 hc).1
      simp at this
      omega
    · have eq' : g = b := eq
      obtain ⟨es, clock, hb, _⟩ := hm.rf.mp
      rw [eq'] at hc
      exact absurd hc (by simp [World.cell?, hb])
    · have eq' : g = m := eq
      obtain ⟨D, ⟨es, clock, hb, _⟩, _⟩ := hm.mp
      rw [eq'] at hc
      exact absurd hc (by simp [World.cell?, hb])
theorem lv_len (C : List Cq) (P : List Pq) : (mgP P C).length ≤ P.length + C.length := merge_length Pq.n Cq.n Cq.mk' C P
theorem leaves_len (l : List Pq) : (leavesP Pq.n l).length ≤ l.length := by
  rw [leavesP, List.length_map, share_length]
  omega
set_option maxRecDepth 100000 in
set_option maxHeartbeats 4000000 in
/-- plan of no tree: the changes' pairs. -/
theorem plan_zero (w : World) (iv cv : Value) (C : List Cq) (hc : Sl encCq w cv C) (hC : C.length ≤ 10000) :
    Calls Tryz.prog 26 #[iv, .int .i64 0, cv] w fun e w' => ∃ v ys, e = .returned (.tuple #[v, .int .i64 ((crownP (leavesP Pq.n (mgP [] C)) 0).2 : Int), .int .i64 0]) ∧ Sl encPv w' v ys ∧ RowIn w' w'.heap.size (crownP (leavesP Pq.n (mgP [] C)) 0).2 (crownP (leavesP Pq.n (mgP [] C)) 0).1 ys ∧ Below w.heap.size w w' := by
  have HM := merge_calls w (.slice none 0 0) cv [] C (SlB.nil _ _ _) hc (by simp) (by omega)
  have hlen := lv_len C []
  have hc' := hc
  obtain ⟨ad, cap, rfl, _⟩ := hc'
  generalize chP [] C = CH at HM
  generalize mgP [] C = MG at *
  have HL : Hid (MG.length ≤ 100000) := (show _ ≤ _ by simp at hlen; omega)
  clear hc hlen
  go_enter Tryz.func26, Tryz.ntmps26
  go_wp2_with fail
  refine HM.mono ?_
  rintro e w1 ⟨v1, rfl, ho1, hb1⟩
  clear HM
  have HLV := leaves_calls w1 v1 MG ho1.slB HL.out
  obtain ⟨a1, c1, rfl⟩ := ho1.form
  have HB1 : Hid (Below w.heap.size w w1) := hb1
  clear ho1 hb1
  go_wp2_with fail
  refine HLV.mono ?_
  rintro e w2 ⟨v2, xs, rfl, ho2, hr2, hb2⟩
  clear HLV
  have HCR := crown_calls w2 v2 xs (leavesP Pq.n MG) 0 ho2.slB (hr2.kept hb2.block hb2.size) (by rw [hr2.1]; exact Nat.le_trans (leaves_len MG) HL.out) (by omega)
  obtain ⟨a2, c2, rfl⟩ := ho2.form
  have HB2 : Hid (Below w.heap.size w w2) := HB1.out.trans (hb2.mono HB1.out.size)
  clear ho2 hr2 hb2
  go_wp2_with fail
  refine HCR.mono ?_
  rintro e w3 ⟨v3, ys, rfl, hs3, hr3, hb3⟩
  clear HCR
  go_wp2
  go_ret3
  exact ⟨v3, ys, rfl, hs3, hr3, HB2.out.trans (hb3.mono HB2.out.size)⟩
set_option maxRecDepth 100000 in
set_option maxHeartbeats 4000000 in
/-- change of a leaf in which something is changed: its merged pairs as leaves. -/
theorem change_leaf (w : World) (iv : Value) (ap aq adc : Option Addr) (np cp nq cq nc' capc : Nat) (n : Int) (X : Nod) (C : List Cq) (hP : Parts w X (.slice ap np cp) (.slice aq nq cq)) (hn : NilOk (.slice ap np cp)) (hc : Sl encCq w (.slice adc nc' capc) C) (hC : C.length ≤ 10000) (h20 : X.ps.length ≤ 20) (hlv : X.lv = 0) (hch : chP (X.ps.map toPq) C = true) (hfk : (firstN X).length = 24) :
    Calls Tryz.prog 49 #[iv, .int .i64 n, nv X (.slice ap np cp) (.slice aq nq cq), .slice adc nc' capc] w fun e w' => ∃ v ys, e = .returned (.tuple #[v, .int .i64 0]) ∧ Sl encPv w' v ys ∧ RowIn w' w'.heap.size 0 (leavesP Pq.n (mgP (X.ps.map toPq) C)) ys ∧ Below w.heap.size w w' := by
  have hlen := lv_len C (X.ps.map toPq)
  have hlv' : (X.lv == 0) = true := by simpa using hlv
  have HN0 : Hid (HasN (w.alloc (.cells (nc X (.slice ap np cp) (.slice aq nq cq)) 60)) w.heap.size X (.slice ap np cp) (.slice aq nq cq) ∧ Below w.heap.size w (w.alloc (.cells (nc X (.slice ap np cp) (.slice aq nq cq)) 60))) := ⟨HasN.new w X _ _ _ rfl hP.p.one hP.q.one, (Below.refl _ w).alloc (Nat.le_refl _) _⟩
  have HF := first_calls (w.alloc (.cells (nc X (.slice ap np cp) (.slice aq nq cq)) 60)) X _ _ (hP.below HN0.out.2)
  have HPP : Hid (Parts w X (.slice ap np cp) (.slice aq nq cq) ∧ NilOk (.slice ap np cp) ∧ Sl encCq w (.slice adc nc' capc) C ∧ chP (X.ps.map toPq) C = true) := ⟨hP, hn, hc, hch⟩
  obtain ⟨FK, hFK⟩ : ∃ FK, FK = firstN X := ⟨_, rfl⟩
  rw [← hFK] at HF hfk
  have HK : Hid (FK.length = 24) := hfk
  obtain ⟨MG, hMG⟩ : ∃ MG, MG = mgP (X.ps.map toPq) C := ⟨_, rfl⟩
  rw [← hMG] at hlen ⊢
  have HMG : Hid (mgP (X.ps.map toPq) C = MG) := hMG.symm
  have HL : Hid (MG.length ≤ 100000) := (show _ ≤ _ by simp at hlen; omega)
  have HL2 : Hid ((X.ps.map toPq).length ≤ 100000 ∧ C.length ≤ 100000) := ⟨by simp; omega, by omega⟩
  clear hP hn hc hC h20 hch hlen hMG hfk hlv hFK
  go_enter Tryz.func49, Tryz.ntmps49
  go_upto_region 1 with fail
  change Code.wp _ _ _ _ (w.alloc (.cells (nc X (.slice ap np cp) (.slice aq nq cq)) 60))
  generalize w.alloc (.cells (nc X (.slice ap np cp) (.slice aq nq cq)) 60) = W at *
  have HWs : Hid (w.heap.size < W.heap.size) := HN0.out.1.lt
  generalize hq : w.heap.size = q at *
  have HQ : Hid (w.heap.size = q) := hq
  clear hq
  go_wp2_with (refine load_node _ rfl q rfl rfl _ _ _ HN0.out.1 ?_)
  refine HF.mono ?_
  rintro e w1 ⟨rfl, b1⟩
  clear HF
  have HN1 : Hid (HasN w1 q X (.slice ap np cp) (.slice aq nq cq) ∧ Below q w w1 ∧ q < w1.heap.size) := ⟨HN0.out.1.below b1 HWs.out, HN0.out.2.trans (b1.mono (by have := HWs.out; omega)), by have := b1.size; have := HWs.out; omega⟩
  clear b1 HN0 HWs
  go_upto_region 2 with (first
    | (refine build_stay rfl _ _ rfl FK HK.out n rfl rfl ?_)
    | (refine build_el1 rowV rfl _ rfl ⟨FK, HK.out, n, nil3, nil3⟩ rfl (by decide) ?_; intro x5 o5 b5 s5 k5))
  have HN5 : Hid (HasN x5 q X (.slice ap np cp) (.slice aq nq cq) ∧ Below q w x5) := ⟨HN1.out.1.below b5 HN1.out.2.2, HN1.out.2.1.trans (b5.mono (by have := HN1.out.2.2; omega))⟩
  obtain ⟨d0, d1, d2⟩ := HN5.out.1.cells
  clear o5 b5 s5 k5 HN1
  have HM := merge_calls x5 (.slice ap np cp) (.slice adc nc' capc) (X.ps.map toPq) C ((els_slB HPP.out.1.p HPP.out.2.1).kept (by rw [HQ.out]; exact HN5.out.2.block) HN5.out.2.size) (HPP.out.2.2.1.kept (by rw [HQ.out]; exact HN5.out.2.block) HN5.out.2.size) HL2.out.1 HL2.out.2
  rw [HPP.out.2.2.2, HMG.out] at HM
  go_wp2_with fail
  refine HM.mono ?_
  rintro e w1 ⟨v1, rfl, ho1, hb1⟩
  clear HM
  have HLV := leaves_calls w1 v1 MG ho1.slB HL.out
  obtain ⟨a1, c1, rfl⟩ := ho1.form
  have HB1 : Hid (Below q w w1) := HN5.out.2.trans (hb1.mono (by have := HN5.out.1.lt; omega))
  have HS1 : Hid (q < w1.heap.size) := (show _ < _ by have := HN5.out.1.lt; have := hb1.size; omega)
  clear ho1 hb1 d0 d1 d2
  go_wp2_with fail
  refine HLV.mono ?_
  rintro e w2 ⟨v2, xs, rfl, ho2, hr2, hb2⟩
  clear HLV
  go_wp2
  go_ret2
  rw [HQ.out]
  exact ⟨v2, xs, rfl, ho2.slB, hr2.kept hb2.block hb2.size, HB1.out.trans (hb2.mono (by have := HS1.out; omega))⟩
end Go.Proofs.YtjhdnpplmlddaaaGreat
