import Derived.Test.YtjhdnpplmlddaaaGreatB33
/- leaves and inners of package tree; what a piece in memory means. -/
namespace Go.Proofs.YtjhdnpplmlddaaaGreat
set_option linter.unusedVariables false
open Go.RowKit

/-- A piece of a level as it lies. -/
def PcIn (w : World) (B : Nat) : Nat → Pc Pq → Pv → Prop
  | _, .stay f n, x => (num x.k : Int) = f ∧ x.b = n ∧ n ≠ 0 ∧ Rng n ∧ SlB encQ w B (slv x.ps) [] ∧ SlB encPv w B (slv x.ks) []
  | _, .leaf f ps, x => (num x.k : Int) = f ∧ x.b = 0 ∧ SlB encQ w B (slv x.ps) ps ∧ SlB encPv w B (slv x.ks) []
  | 0, .inner _ _, _ => False
  | d + 1, .inner f ks, x => (num x.k : Int) = f ∧ x.b = 0 ∧ SlB encQ w B (slv x.ps) [] ∧ ∃ xs, SlB encPv w B (slv x.ks) xs ∧ xs.length = ks.length ∧ ∀ i (h1 : i < ks.length) (h2 : i < xs.length), PcIn w B d ks[i] xs[i]
def RowIn (w : World) (B : Nat) (d : Nat) (ks : List (Pc Pq)) (xs : List Pv) : Prop := xs.length = ks.length ∧ ∀ i (h1 : i < ks.length) (h2 : i < xs.length), PcIn w B d ks[i] xs[i]
theorem pcIn_kept {w w' : World} {B B' : Nat} (hb : ∀ g, g < B → w'.heap[g]? = w.heap[g]?) (hB : B ≤ B') : ∀ (d : Nat) (p : Pc Pq) (x : Pv), PcIn w B d p x → PcIn w' B' d p x
  | 0, .stay _ _, _, h => ⟨h.1, h.2.1, h.2.2.1, h.2.2.2.1, h.2.2.2.2.1.kept hb hB, h.2.2.2.2.2.kept hb hB⟩
  | _ + 1, .stay _ _, _, h => ⟨h.1, h.2.1, h.2.2.1, h.2.2.2.1, h.2.2.2.2.1.kept hb hB, h.2.2.2.2.2.kept hb hB⟩
  | 0, .leaf _ _, _, h => ⟨h.1, h.2.1, h.2.2.1.kept hb hB, h.2.2.2.kept hb hB⟩
  | _ + 1, .leaf _ _, _, h => ⟨h.1, h.2.1, h.2.2.1.kept hb hB, h.2.2.2.kept hb hB⟩
  | 0, .inner _ _, _, h => h.elim
  | d + 1, .inner _ _, _, h => by
    obtain ⟨h1, h2, h3, xs, h4, h5, h6⟩ := h
    exact ⟨h1, h2, h3.kept hb hB, xs, h4.kept hb hB, h5, fun i q1 q2 => pcIn_kept hb hB d _ _ (h6 i q1 q2)⟩
theorem RowIn.kept {w w' : World} {B B' d : Nat} {ks : List (Pc Pq)} {xs : List Pv} (h : RowIn w B d ks xs) (hb : ∀ g, g < B → w'.heap[g]? = w.heap[g]?) (hB : B ≤ B') : RowIn w' B' d ks xs := ⟨h.1, fun i q1 q2 => pcIn_kept hb hB d _ _ (h.2 i q1 q2)⟩
theorem RowIn.nil (w : World) (B d : Nat) : RowIn w B d [] [] := ⟨rfl, fun i h => by cases h⟩
theorem RowIn.snoc {w : World} {B d : Nat} {ks : List (Pc Pq)} {xs : List Pv} (h : RowIn w B d ks xs) {p : Pc Pq} {x : Pv} (hp : PcIn w B d p x) : RowIn w B d (ks ++ [p]) (xs ++ [x]) := by
  refine ⟨by simp [h.1], fun i h1 h2 => ?_⟩
  by_cases hi : i < ks.length
  · rw [List.getElem_append_left hi, List.getElem_append_left (by rw [h.1]; exact hi)]
    exact h.2 i hi (by rw [h.1]; exact hi)
  · have e : i = ks.length := by simp at h1; omega
    subst e
    have e2 := h.1
    rw [List.getElem_append_right (Nat.le_refl _), List.getElem_append_right (by omega)]
    simp only [Nat.sub_self, e2, List.getElem_cons_zero]
    exact hp
theorem RowIn.append {w : World} {B d : Nat} {ks ls : List (Pc Pq)} {xs ys : List Pv} (h : RowIn w B d ks xs) (k : RowIn w B d ls ys) : RowIn w B d (ks ++ ls) (xs ++ ys) := by
  refine ⟨by simp [h.1, k.1], fun i h1 h2 => ?_⟩
  by_cases hi : i < ks.length
  · rw [List.getElem_append_left hi, List.getElem_append_left (by rw [h.1]; exact hi)]
    exact h.2 i hi (by rw [h.1]; exact hi)
  · have e2 := h.1
    rw [List.getElem_append_right (by omega), List.getElem_append_right (by omega)]
    simp only [e2]
    exact k.2 _ _ _
theorem RowIn.sub {w : World} {B d : Nat} {ks : List (Pc Pq)} {xs : List Pv} (h : RowIn w B d ks xs) (f n : Nat) : RowIn w B d ((ks.drop f).take n) ((xs.drop f).take n) := by
  refine ⟨by simp [h.1], fun i h1 h2 => ?_⟩
  rw [List.getElem_take, List.getElem_take, List.getElem_drop, List.getElem_drop]
  exact h.2 _ _ _
theorem first_pc {w : World} {B : Nat} : ∀ {d : Nat} {p : Pc Pq} {x : Pv}, PcIn w B d p x → (num x.k : Int) = p.first
  | 0, .stay _ _, _, h => h.1
  | _ + 1, .stay _ _, _, h => h.1
  | 0, .leaf _ _, _, h => h.1
  | _ + 1, .leaf _ _, _, h => h.1
  | 0, .inner _ _, _, h => h.elim
  | _ + 1, .inner _ _, _, h => h.1
theorem slB_nil3 {α : Type} {k : Nat} (E : Enc α k) (w : World) (B : Nat) : SlB E w B (slv nil3) [] := SlB.nil E w B
/-- The pieces of shared pairs, as they lie. -/
def leafV (x : Pq) (s : Option Addr × Nat × Nat) : Pv := ⟨x.k, x.h, 0, s, nil3⟩
def innerV (x : Pv) (s : Option Addr × Nat × Nat) : Pv := ⟨x.k, x.h, 0, nil3, s⟩
def hdQ (l : List Pq) : Pq := l.headD pq0
def hdV (l : List Pv) : Pv := l.headD pv0
theorem share_ne {α : Type} (l : List α) (most : Nat) (hm : 0 < most) (i : Nat) (h : i < (shareP l most).length) : 0 < ((shareP l most)[i]).length :=
  List.length_pos_iff.2 (share_pos l most hm _ (List.getElem_mem h))
theorem Own.lower' {α : Type} {k : Nat} {E : Enc α k} {ty : TypeId} {w : World} {b b' : Nat} {v : Value} {l : List α} (h : Own E ty w b v l) (hb : b' ≤ b) : Own E ty w b' v l := by
  refine ⟨h.1, ?_⟩
  rcases h.2 with hn | ⟨g, cap, cur, e, h2, h3⟩
  · exact .inl hn
  · exact .inr ⟨g, cap, cur, e, Nat.le_trans hb h2, h3⟩
set_option maxRecDepth 100000 in
set_option maxHeartbeats 4000000 in
theorem leaves_raw (w : World) (v : Value) (l : List Pq) (h : Sl encQ w v l) (hl : l.length ≤ 100000) :
    Calls Tryz.prog 48 #[v] w fun e w' => ∃ v' xs vs, e = .returned v' ∧ Own encPv 85 w' w.heap.size v' xs ∧ PartsIn encQ w w.heap.size vs (shareP l 7) ∧ (xs.length = vs.length ∧ ∀ i (h1 : i < xs.length) (h2 : i < vs.length) (h3 : i < (shareP l 7).length), xs[i] = leafV (hdQ ((shareP l 7)[i])) vs[i]) ∧ Below w.heap.size w w' := by
  have HC := sharePair_calls w v l 7 h hl (by decide) (by decide)
  have HNE := share_ne l 7 (by decide)
  obtain ⟨LS, hLS⟩ : ∃ LS, LS = shareP l 7 := ⟨_, rfl⟩
  rw [← hLS] at HC HNE ⊢
  have HLL : Hid (LS.length ≤ 100000) := (show _ ≤ _ by
    rw [hLS, share_length]
    omega)
  clear h hLS
  go_enter Tryz.func48, Tryz.ntmps48
  go_wp2_with fail
  refine HC.mono ?_
  rintro e w1 ⟨v1, vs, rfl, ho1, hp1, hb1⟩
  clear HC
  have HP : Hid (PartsIn encQ w w.heap.size vs LS) := hp1
  have HOV : Hid (SlB encT3 w1 w1.heap.size v1 vs) := ho1.slB
  have HB1 : Hid (Below w.heap.size w w1) := hb1
  obtain ⟨ad, cap, rfl⟩ := ho1.form
  obtain ⟨M, hM⟩ : ∃ M : Nat, M = vs.length := ⟨_, rfl⟩
  have HM : Hid (M = vs.length) := hM
  rw [← hM] at HOV ⊢
  have hMb : M ≤ 100000 := by have := HLL.out; have := hp1.1; omega
  clear ho1 hp1 hb1 hM
  go_wp2_with fail
  go_loopg [3, 9] M (fun gg v3 v9 wr => ∃ (i : Nat) (a3 : Option Addr) (n3 c3 : Nat), i + gg = M ∧ v3 = .slice a3 n3 c3 ∧ v9 = .int .i64 (i : Int) ∧ Hid (∃ xs, Below w1.heap.size w1 wr ∧ Own encPv 85 wr w1.heap.size (.slice a3 n3 c3) xs ∧ xs.length = i ∧ ∀ j (h1 : j < xs.length) (h2 : j < vs.length) (h3 : j < LS.length), xs[j] = leafV (hdQ (LS[j])) vs[j]))
  case atStart => exact ⟨0, none, 0, 0, by omega, rfl, rfl, ⟨[], Below.refl _ _, Own.nil _ _ _ _, rfl, fun j h1 => by cases h1⟩⟩
  case round =>
    obtain ⟨i, a3, n3, c3, hig, rfl, rfl, HS⟩ := hrel
    cases gk with
    | zero =>
      have hin : i = M := by omega
      have hiI : ¬ (i : Int) < (M : Int) := by omega
      go_wp2_with fail
      go_ret
      obtain ⟨xs, h1, h2, h3, h4⟩ := HS.out
      exact ⟨_, rfl, xs, h2.lower' HB1.out.size, vs, HP.out, ⟨by rw [h3, hin, HM.out], h4⟩, HB1.out.trans (h1.mono HB1.out.size)⟩
    | succ gg =>
      have hiI : (i : Int) < (M : Int) := by omega
      have hiV : i < vs.length := by rw [← HM.out]; omega
      have hiL : i < LS.length := by rw [← HP.out.1]; exact hiV
      obtain ⟨xs, hb0, ho0, hl0, hx0⟩ := HS.out
      obtain ⟨g0, off, rfl, hg0, hat⟩ := SlB.at HOV.out i hiV
      have HCL : Hid (wr.cell? ⟨g0, off + i, none⟩ = some (slv vs[i])) := (by
        have h1 := range_same' hat (hb0.block g0 hg0) 0 (slv vs[i]) rfl
        rw [Nat.mul_one, Nat.add_zero] at h1
        exact h1)
      have HPI : Hid (SlB encQ w w.heap.size (slv vs[i]) LS[i]) := HP.out.2 i hiV hiL
      have hne := HNE i hiL
      obtain ⟨x0, hx00⟩ : ∃ x0, x0 = (LS[i])[0] := ⟨_, rfl⟩
      have HX0 : Hid (x0 = hdQ (LS[i])) := (show _ = _ by
        rw [hx00]
        generalize LS[i] = q at hne ⊢
        cases q with
        | nil => cases hne
        | cons a r => rfl)
      obtain ⟨⟨aI, nI, cI⟩, hvI⟩ : ∃ vI, vI = vs[i] := ⟨_, rfl⟩
      have HVI : Hid ((aI, nI, cI) = vs[i]) := hvI
      rw [← hvI] at HCL HPI
      obtain ⟨gI, offI, hgI, hgB, hatI⟩ := SlB.at HPI.out 0 hne
      have HRK : Hid (∀ y, Below w1.heap.size w1 y → y.rangeAt gI offI (bc x0.k)) := fun y hy => by
        have h1 := range_kQ (range_same' hatI ((hy.block gI (by have := HB1.out.size; omega)).trans (HB1.out.block gI hgB)))
        rw [Nat.zero_mul, Nat.add_zero] at h1
        rw [hx00]
        exact h1
      have hnI : 0 < nI := by
        obtain ⟨_, _, e, _⟩ := HPI.out
        injection e with e1 e2 e3
        have e4 : nI = _ := e2
        rw [e4]
        exact hne
      have hnII : (0 : Int) < (nI : Int) := by omega
      obtain rfl : aI = some ⟨gI, offI, none⟩ := hgI
      have HB0 : Hid (Below w1.heap.size w1 wr) := hb0
      have HO0 : Hid (Own encPv 85 wr w1.heap.size (.slice a3 n3 c3) xs) := ho0
      have HX : Hid (xs.length = i ∧ ∀ j (h1 : j < xs.length) (h2 : j < vs.length) (h3 : j < LS.length), xs[j] = leafV (hdQ (LS[j])) vs[j]) := ⟨hl0, hx0⟩
      have HLX : Hid (xs.length + 1 ≤ 1000000) := (show _ ≤ _ by omega)
      have cI0 := HCL.out
      simp only [slv] at cI0
      clear hb0 ho0 hl0 hx0 HS hat hatI hx00 hvI hgB hg0 HCL
      go_wp2_with (first
        | (refine load_part _ rfl gI offI rfl rfl _ x0.h (HRK.out _ HB0.out) ?_)
        | (refine build_leaf rfl _ _ rfl x0.k x0.h (some ⟨gI, offI, none⟩, nI, cI) rfl rfl ?_)
        | (refine build_el1 rowV rfl _ rfl (leafV x0 (some ⟨gI, offI, none⟩, nI, cI)) rfl (by decide) ?_; intro x5 o5 b5 s5 k5; have HO5 : Hid (Own encPv 85 x5 w1.heap.size (.slice a3 n3 c3) xs) := HO0.out.below b5; have HB5 : Hid (Below w1.heap.size w1 x5) := HB0.out.trans (b5.mono HB0.out.size); clear o5 s5)
        | (at_builtin; refine append_one rowV rfl _ _ rfl w1.heap.size (.slice a3 n3 c3) xs rfl HO5.out _ (leafV x0 (some ⟨gI, offI, none⟩, nI, cI)) rfl _ _ k5 HLX.out (by decide) HB5.out.size ?_; intro g6 c6 x6 ho6 gr6 hg6 hs6))
      go_roundg gg
      case measure => omega
      case rel =>
        refine ⟨i + 1, _, _, _, by omega, rfl, congrArg (Value.int .i64) (by first | omega | (unfold wrap64; omega)), ?_⟩
        refine ⟨_, HB5.out.grown gr6 HB5.out.size (fun k hk => (HO5.out.lt k hk).1), ho6, by simp [HX.out.1], fun j h1 h2 h3 => ?_⟩
        by_cases hj : j < xs.length
        · rw [List.getElem_append_left hj]
          exact HX.out.2 j hj h2 h3
        · have e : j = i := by have := HX.out.1; simp at h1; omega
          subst e
          rw [List.getElem_append_right (by omega)]
          simp only [HX.out.1, Nat.sub_self, List.getElem_cons_zero]
          rw [HX0.out, HVI.out]
set_option maxRecDepth 100000 in
set_option maxHeartbeats 4000000 in
theorem inners_raw (w : World) (v : Value) (l : List Pv) (h : Sl encPv w v l) (hl : l.length ≤ 100000) :
    Calls Tryz.prog 69 #[v] w fun e w' => ∃ v' xs vs, e = .returned v' ∧ Own encPv 85 w' w.heap.size v' xs ∧ PartsIn encPv w w.heap.size vs (shareP l 18) ∧ (xs.length = vs.length ∧ ∀ i (h1 : i < xs.length) (h2 : i < vs.length) (h3 : i < (shareP l 18).length), xs[i] = innerV (hdV ((shareP l 18)[i])) vs[i]) ∧ Below w.heap.size w w' := by
  have HC := sharePiece_calls w v l 18 h hl (by decide) (by decide)
  have HNE := share_ne l 18 (by decide)
  obtain ⟨LS, hLS⟩ : ∃ LS, LS = shareP l 18 := ⟨_, rfl⟩
  rw [← hLS] at HC HNE ⊢
  have HLL : Hid (LS.length ≤ 100000) := (show _ ≤ _ by
    rw [hLS, share_length]
    omega)
  clear h hLS
  go_enter Tryz.func69, Tryz.ntmps69
  go_wp2_with fail
  refine HC.mono ?_
  rintro e w1 ⟨v1, vs, rfl, ho1, hp1, hb1⟩
  clear HC
  have HP : Hid (PartsIn encPv w w.heap.size vs LS) := hp1
  have HOV : Hid (SlB encT3 w1 w1.heap.size v1 vs) := ho1.slB
  have HB1 : Hid (Below w.heap.size w w1) := hb1
  obtain ⟨ad, cap, rfl⟩ := ho1.form
  obtain ⟨M, hM⟩ : ∃ M : Nat, M = vs.length := ⟨_, rfl⟩
  have HM : Hid (M = vs.length) := hM
  rw [← hM] at HOV ⊢
  have hMb : M ≤ 100000 := by have := HLL.out; have := hp1.1; omega
  clear ho1 hp1 hb1 hM
  go_wp2_with fail
  go_loopg [3, 9] M (fun gg v3 v9 wr => ∃ (i : Nat) (a3 : Option Addr) (n3 c3 : Nat), i + gg = M ∧ v3 = .slice a3 n3 c3 ∧ v9 = .int .i64 (i : Int) ∧ Hid (∃ xs, Below w1.heap.size w1 wr ∧ Own encPv 85 wr w1.heap.size (.slice a3 n3 c3) xs ∧ xs.length = i ∧ ∀ j (h1 : j < xs.length) (h2 : j < vs.length) (h3 : j < LS.length), xs[j] = innerV (hdV (LS[j])) vs[j]))
  case atStart => exact ⟨0, none, 0, 0, by omega, rfl, rfl, ⟨[], Below.refl _ _, Own.nil _ _ _ _, rfl, fun j h1 => by cases h1⟩⟩
  case round =>
    obtain ⟨i, a3, n3, c3, hig, rfl, rfl, HS⟩ := hrel
    cases gk with
    | zero =>
      have hin : i = M := by omega
      have hiI : ¬ (i : Int) < (M : Int) := by omega
      go_wp2_with fail
      go_ret
      obtain ⟨xs, h1, h2, h3, h4⟩ := HS.out
      exact ⟨_, rfl, xs, h2.lower' HB1.out.size, vs, HP.out, ⟨by rw [h3, hin, HM.out], h4⟩, HB1.out.trans (h1.mono HB1.out.size)⟩
    | succ gg =>
      have hiI : (i : Int) < (M : Int) := by omega
      have hiV : i < vs.length := by rw [← HM.out]; omega
      have hiL : i < LS.length := by rw [← HP.out.1]; exact hiV
      obtain ⟨xs, hb0, ho0, hl0, hx0⟩ := HS.out
      obtain ⟨g0, off, rfl, hg0, hat⟩ := SlB.at HOV.out i hiV
      have HCL : Hid (wr.cell? ⟨g0, off + i, none⟩ = some (slv vs[i])) := (by
        have h1 := range_same' hat (hb0.block g0 hg0) 0 (slv vs[i]) rfl
        rw [Nat.mul_one, Nat.add_zero] at h1
        exact h1)
      have HPI : Hid (SlB encPv w w.heap.size (slv vs[i]) LS[i]) := HP.out.2 i hiV hiL
      have hne := HNE i hiL
      obtain ⟨x0, hx00⟩ : ∃ x0, x0 = (LS[i])[0] := ⟨_, rfl⟩
      have HX0 : Hid (x0 = hdV (LS[i])) := (show _ = _ by
        rw [hx00]
        generalize LS[i] = q at hne ⊢
        cases q with
        | nil => cases hne
        | cons a r => rfl)
      obtain ⟨⟨aI, nI, cI⟩, hvI⟩ : ∃ vI, vI = vs[i] := ⟨_, rfl⟩
      have HVI : Hid ((aI, nI, cI) = vs[i]) := hvI
      rw [← hvI] at HCL HPI
      obtain ⟨gI, offI, hgI, hgB, hatI⟩ := SlB.at HPI.out 0 hne
      have HRK : Hid (∀ y, Below w1.heap.size w1 y → y.rangeAt gI offI (bc x0.k)) := fun y hy => by
        have h1 := range_kV (range_same' hatI ((hy.block gI (by have := HB1.out.size; omega)).trans (HB1.out.block gI hgB)))
        rw [Nat.zero_mul, Nat.add_zero] at h1
        rw [hx00]
        exact h1
      have hnI : 0 < nI := by
        obtain ⟨_, _, e, _⟩ := HPI.out
        injection e with e1 e2 e3
        have e4 : nI = _ := e2
        rw [e4]
        exact hne
      have hnII : (0 : Int) < (nI : Int) := by omega
      obtain rfl : aI = some ⟨gI, offI, none⟩ := hgI
      have HB0 : Hid (Below w1.heap.size w1 wr) := hb0
      have HO0 : Hid (Own encPv 85 wr w1.heap.size (.slice a3 n3 c3) xs) := ho0
      have HX : Hid (xs.length = i ∧ ∀ j (h1 : j < xs.length) (h2 : j < vs.length) (h3 : j < LS.length), xs[j] = innerV (hdV (LS[j])) vs[j]) := ⟨hl0, hx0⟩
      have HLX : Hid (xs.length + 1 ≤ 1000000) := (show _ ≤ _ by omega)
      have cI0 := HCL.out
      simp only [slv] at cI0
      clear hb0 ho0 hl0 hx0 HS hat hatI hx00 hvI hgB hg0 HCL
      go_wp2_with (first
        | (refine load_part _ rfl gI offI rfl rfl _ x0.h (HRK.out _ HB0.out) ?_)
        | (refine build_inner rfl _ _ rfl x0.k x0.h (some ⟨gI, offI, none⟩, nI, cI) rfl rfl ?_)
        | (refine build_el1 rowV rfl _ rfl (innerV x0 (some ⟨gI, offI, none⟩, nI, cI)) rfl (by decide) ?_; intro x5 o5 b5 s5 k5; have HO5 : Hid (Own encPv 85 x5 w1.heap.size (.slice a3 n3 c3) xs) := HO0.out.below b5; have HB5 : Hid (Below w1.heap.size w1 x5) := HB0.out.trans (b5.mono HB0.out.size); clear o5 s5)
        | (at_builtin; refine append_one rowV rfl _ _ rfl w1.heap.size (.slice a3 n3 c3) xs rfl HO5.out _ (innerV x0 (some ⟨gI, offI, none⟩, nI, cI)) rfl _ _ k5 HLX.out (by decide) HB5.out.size ?_; intro g6 c6 x6 ho6 gr6 hg6 hs6))
      go_roundg gg
      case measure => omega
      case rel =>
        refine ⟨i + 1, _, _, _, by omega, rfl, congrArg (Value.int .i64) (by first | omega | (unfold wrap64; omega)), ?_⟩
        refine ⟨_, HB5.out.grown gr6 HB5.out.size (fun k hk => (HO5.out.lt k hk).1), ho6, by simp [HX.out.1], fun j h1 h2 h3 => ?_⟩
        by_cases hj : j < xs.length
        · rw [List.getElem_append_left hj]
          exact HX.out.2 j hj h2 h3
        · have e : j = i := by have := HX.out.1; simp at h1; omega
          subst e
          rw [List.getElem_append_right (by omega)]
          simp only [HX.out.1, Nat.sub_self, List.getElem_cons_zero]
          rw [HX0.out, HVI.out]
end Go.Proofs.YtjhdnpplmlddaaaGreat
/- leaves and inners of package tree, as pieces. -/
namespace Go.Proofs.YtjhdnpplmlddaaaGreat
set_option linter.unusedVariables false
open Go.RowKit

theorem hdQ_fst (l : List Pq) (h : 0 < l.length) : (num (hdQ l).k : Int) = fstK Pq.n l := by
  cases l with
  | nil => cases h
  | cons a r => rfl
theorem leaves_calls (w : World) (v : Value) (l : List Pq) (h : Sl encQ w v l) (hl : l.length ≤ 100000) :
    Calls Tryz.prog 48 #[v] w fun e w' => ∃ v' xs, e = .returned v' ∧ Own encPv 85 w' w.heap.size v' xs ∧ RowIn w w.heap.size 0 (leavesP Pq.n l) xs ∧ Below w.heap.size w w' := by
  refine (leaves_raw w v l h hl).mono ?_
  rintro e w' ⟨v', xs, vs, rfl, h1, h2, h3, h4⟩
  refine ⟨v', xs, rfl, h1, ⟨by rw [h3.1, h2.1, leavesP, List.length_map], fun i q1 q2 => ?_⟩, h4⟩
  have q3 : i < (shareP l 7).length := by rw [leavesP, List.length_map] at q1; exact q1
  have q4 : i < vs.length := by rw [← h3.1]; exact q2
  have e : (leavesP Pq.n l)[i] = .leaf (fstK Pq.n (shareP l 7)[i]) (shareP l 7)[i] := by simp [leavesP]
  rw [e, h3.2 i q2 q4 q3]
  exact ⟨hdQ_fst _ (share_ne l 7 (by decide) i q3), rfl, h2.2 i q4 q3, slB_nil3 _ _ _⟩
theorem RowIn.part {w : World} {B d : Nat} {ks : List (Pc Pq)} {xs : List Pv} (h : RowIn w B d ks xs) (n i : Nat) : RowIn w B d (partOf ks n i) (partOf xs n i) := by
  unfold partOf
  rw [h.1]
  exact h.sub _ _
theorem hdV_fst {w : World} {B d : Nat} {ks : List (Pc Pq)} {xs : List Pv} (h : RowIn w B d ks xs) (h0 : 0 < xs.length) : (num (hdV xs).k : Int) = fstP ks := by
  cases xs with
  | nil => cases h0
  | cons a r =>
    cases ks with
    | nil => have := h.1; simp at this
    | cons p q => exact first_pc (h.2 0 (by simp) (by simp))
theorem inners_calls (w : World) (v : Value) (xs : List Pv) (ks : List (Pc Pq)) (d : Nat) (h : Sl encPv w v xs) (hr : RowIn w w.heap.size d ks xs) (hl : xs.length ≤ 100000) :
    Calls Tryz.prog 69 #[v] w fun e w' => ∃ v' ys, e = .returned v' ∧ Own encPv 85 w' w.heap.size v' ys ∧ RowIn w w.heap.size (d + 1) (innersP ks) ys ∧ Below w.heap.size w w' := by
  refine (inners_raw w v xs h hl).mono ?_
  rintro e w' ⟨v', ys, vs, rfl, h1, h2, h3, h4⟩
  have hlen : (shareP ks 18).length = (shareP xs 18).length := by rw [share_length, share_length, hr.1]
  refine ⟨v', ys, rfl, h1, ⟨by rw [h3.1, h2.1, innersP, List.length_map, hlen], fun i q1 q2 => ?_⟩, h4⟩
  have q5 : i < (shareP ks 18).length := by rw [innersP, List.length_map] at q1; exact q1
  have q3 : i < (shareP xs 18).length := by rw [← hlen]; exact q5
  have q4 : i < vs.length := by rw [← h3.1]; exact q2
  have e : (innersP ks)[i] = .inner (fstP (shareP ks 18)[i]) (shareP ks 18)[i] := by simp [innersP]
  have hp : RowIn w w.heap.size d (shareP ks 18)[i] (shareP xs 18)[i] := by
    have e1 : (shareP ks 18)[i] = partOf ks ((ks.length + 18 - 1) / 18) i := by simp [shareP]
    have e2 : (shareP xs 18)[i] = partOf xs ((xs.length + 18 - 1) / 18) i := by simp [shareP]
    rw [e1, e2, hr.1]
    exact hr.part _ i
  rw [e, h3.2 i q2 q4 q3]
  exact ⟨hdV_fst hp (share_ne xs 18 (by decide) i q3), rfl, slB_nil3 _ _ _, _, h2.2 i q4 q3, hp.1, hp.2⟩

/-- How many kids lie in a piece. -/
theorem kids_len {w : World} {B : Nat} : ∀ {d : Nat} {p : Pc Pq} {x : Pv}, PcIn w B d p x → x.ks.2.1 = (kidsOf p).length
  | 0, .stay _ _, _, h => by obtain ⟨_, _, e, _⟩ := h.2.2.2.2.2; injection e
  | _ + 1, .stay _ _, _, h => by obtain ⟨_, _, e, _⟩ := h.2.2.2.2.2; injection e
  | 0, .leaf _ _, _, h => by obtain ⟨_, _, e, _⟩ := h.2.2.2; injection e
  | _ + 1, .leaf _ _, _, h => by obtain ⟨_, _, e, _⟩ := h.2.2.2; injection e
  | 0, .inner _ _, _, h => h.elim
  | _ + 1, .inner _ ks, _, h => by
    obtain ⟨_, _, _, xs, ⟨_, _, e, _⟩, h5, _⟩ := h
    injection e with e1 e2 e3
    rw [e2, h5]
    rfl
end Go.Proofs.YtjhdnpplmlddaaaGreat
