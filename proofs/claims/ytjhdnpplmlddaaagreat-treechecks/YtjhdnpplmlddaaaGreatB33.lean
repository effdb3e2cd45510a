import Derived.Test.YtjhdnpplmlddaaaGreatB32
/- share of package tree, at pairs and at pieces. -/
namespace Go.Proofs.YtjhdnpplmlddaaaGreat
set_option linter.unusedVariables false
open Go.RowKit

/-- Slices in a slice. -/
def encT3 : Enc (Option Addr × Nat × Nat) 1 := ⟨fun x => [slv x], fun _ => rfl, fun x v hv => by rw [List.mem_singleton] at hv; subst hv; rfl⟩
theorem rowQQ : RowTy Tryz.prog encT3 31 39 24 := ⟨Tryz.underlying31, ⟨.slice none 0 0, by kernel_rfl, rfl⟩, by decide⟩
theorem rowVV : RowTy Tryz.prog encT3 146 77 24 := ⟨Tryz.underlying146, ⟨.slice none 0 0, by kernel_rfl, rfl⟩, by decide⟩
/-- The parts of a list, each in a slice of blocks that there were. -/
def PartsIn {α : Type} {k : Nat} (E : Enc α k) (w : World) (B : Nat) (vs : List (Option Addr × Nat × Nat)) (ls : List (List α)) : Prop :=
  vs.length = ls.length ∧ ∀ i (h1 : i < vs.length) (h2 : i < ls.length), SlB E w B (slv vs[i]) ls[i]
theorem PartsIn.snoc {α : Type} {k : Nat} {E : Enc α k} {w : World} {B : Nat} {vs : List (Option Addr × Nat × Nat)} {ls : List (List α)} (h : PartsIn E w B vs ls) {v : Option Addr × Nat × Nat} {l : List α} (hv : SlB E w B (slv v) l) : PartsIn E w B (vs ++ [v]) (ls ++ [l]) := by
  refine ⟨by simp [h.1], fun i h1 h2 => ?_⟩
  by_cases hi : i < vs.length
  · rw [List.getElem_append_left hi, List.getElem_append_left (by rw [← h.1]; exact hi)]
    exact h.2 i hi (by rw [← h.1]; exact hi)
  · have e : i = vs.length := by simp at h1; omega
    subst e
    have e2 : vs.length = ls.length := h.1
    rw [List.getElem_append_right (Nat.le_refl _), List.getElem_append_right (by omega)]
    simp only [Nat.sub_self, e2, List.getElem_cons_zero]
    exact hv
/-- A part in the midst of a slice, with no more room than it has. -/
theorem SlB.mid {α : Type} {k : Nat} {E : Enc α k} {w : World} {B : Nat} {ad : Option Addr} {n cap : Nat} {l : List α} (h : SlB E w B (.slice ad n cap) l) (f t : Nat) (hf : f ≤ t) (ht : t ≤ l.length) :
    SlB E w B (.slice (if t - f = 0 then ad else ad.map (·.add (f * k))) (t - f) (t - f)) ((l.drop f).take (t - f)) := by
  obtain ⟨ad', cap', h1, h2, h3, h4, h5⟩ := h
  cases h1
  have hl : ((l.drop f).take (t - f)).length = t - f := by rw [List.length_take, List.length_drop]; omega
  by_cases h0 : t - f = 0
  · rw [if_pos h0]
    refine ⟨ad, t - f, by rw [hl], by omega, by rw [hl]; omega, fun e => h0, .inl (List.eq_nil_of_length_eq_zero (by rw [hl]; exact h0))⟩
  · rw [if_neg h0]
    rcases h5 with rfl | ⟨g, off, rfl, hg, hr⟩
    · simp at ht; omega
    · refine ⟨_, t - f, by rw [hl], by omega, by rw [hl]; omega, (fun e => by cases e), .inr ⟨g, off + f * k, ?_, hg, fun i hi => ?_⟩⟩
      · simp only [Option.map_some, Addr.add]
        split <;> simp_all
      · rw [hl] at hi
        have e : ((l.drop f).take (t - f))[i]'(by rw [hl]; exact hi) = l[f + i]'(by omega) := by rw [List.getElem_take, List.getElem_drop]
        rw [e, Nat.add_assoc, ← Nat.add_mul]
        exact hr (f + i) (by omega)
set_option maxRecDepth 100000 in
set_option maxHeartbeats 4000000 in
theorem sharePair_calls (w : World) (v : Value) (l : List Pq) (most : Nat) (h : Sl encQ w v l) (hl : l.length ≤ 100000) (hm : 1 ≤ most) (hm2 : most ≤ 100) :
    Calls Tryz.prog 70 #[v, .int .i64 (most : Int)] w fun e w' => ∃ v' vs, e = .returned v' ∧ Own encT3 39 w' w.heap.size v' vs ∧ PartsIn encQ w w.heap.size vs (shareP l most) ∧ Below w.heap.size w w' := by
  have h' := h
  obtain ⟨ad, cap, rfl, hcap, hmax, _, _⟩ := h'
  obtain ⟨N, hN⟩ : ∃ N : Nat, N = l.length := ⟨_, rfl⟩
  have HN : Hid (N = l.length) := hN
  rw [← hN] at hl hcap ⊢
  obtain ⟨n, hn⟩ : ∃ n : Nat, n = (N + most - 1) / most := ⟨_, rfl⟩
  have Hn : Hid (n = (N + most - 1) / most) := hn
  have hq : ((N : Int) + (most : Int) - 1).tdiv (most : Int) = (n : Int) := by
    rw [hn, Int.natCast_ediv, Int.tdiv_eq_ediv_of_nonneg (by omega)]
    congr 1
    omega
  have hnle : n ≤ N := by
    rw [hn]
    by_cases h0 : N = 0
    · rw [h0, Nat.div_eq_of_lt (by omega)]
      exact Nat.le_refl _
    · apply Nat.div_le_of_le_mul
      obtain ⟨m', rfl⟩ : ∃ m', most = m' + 1 := ⟨most - 1, by omega⟩
      obtain ⟨N', rfl⟩ : ∃ N', N = N' + 1 := ⟨N - 1, by omega⟩
      have e1 : (m' + 1) * (N' + 1) = m' * N' + m' + N' + 1 := by rw [Nat.add_mul, Nat.mul_add]; omega
      rw [e1]
      omega
  have HSL : Hid (SlB encQ w w.heap.size (.slice ad N cap) l) := (by rw [hN]; exact h)
  have HST : Hid (Below w.heap.size w w ∧ Own encT3 39 w w.heap.size (.slice none 0 0) [] ∧ PartsIn encQ w w.heap.size [] ((List.range 0).map (partOf l n))) := ⟨Below.refl _ _, Own.nil _ _ _ _, rfl, fun i h1 => by cases h1⟩
  have HFIN : Hid (shareP l most = (List.range n).map (partOf l n)) := (show _ = _ by rw [shareP, hn, hN])
  have hmI : (1 : Int) ≤ (most : Int) := by omega
  have hmI2 : (most : Int) ≤ 100 := by omega
  have hNI : (N : Int) ≤ 100000 := by omega
  have hnI : (n : Int) ≤ 100000 := by omega
  clear h hN hn hmax
  generalize (most : Int) = mI at *
  go_enter Tryz.func70, Tryz.ntmps70
  go_wp2_with fail
  go_loopg [5, 18] n (fun gg v5 v18 wr => ∃ (i : Nat) (a5 : Option Addr) (n5 c5 : Nat), i + gg = n ∧ v5 = .slice a5 n5 c5 ∧ v18 = .int .i64 (i : Int) ∧ Hid (∃ vs, Below w.heap.size w wr ∧ Own encT3 39 wr w.heap.size (.slice a5 n5 c5) vs ∧ PartsIn encQ w w.heap.size vs ((List.range i).map (partOf l n))))
  case atStart => exact ⟨0, none, 0, 0, by omega, rfl, rfl, ⟨[], HST.out⟩⟩
  case round =>
    obtain ⟨i, a5, n5, c5, hig, rfl, rfl, HS⟩ := hrel
    clear HST
    cases gk with
    | zero =>
      have hin : i = n := by omega
      have hiI : ¬ (i : Int) < (n : Int) := by omega
      subst hin
      go_wp2_with fail
      go_ret
      obtain ⟨vs, h1, h2, h3⟩ := HS.out
      exact ⟨_, rfl, vs, h2, by rw [HFIN.out]; exact h3, h1⟩
    | succ gg =>
      have hiI : (i : Int) < (n : Int) := by omega
      have hin : i < n := by omega
      obtain ⟨F, hF⟩ : ∃ F : Nat, F = N * i / n := ⟨_, rfl⟩
      obtain ⟨T, hT⟩ : ∃ T : Nat, T = N * (i + 1) / n := ⟨_, rfl⟩
      have hFT : F ≤ T := by rw [hF, hT]; exact place_mono N n i
      have hTN : T ≤ N := by rw [hT]; exact place_le N n (i + 1) (by omega) (by omega)
      obtain ⟨X, hX⟩ : ∃ X : Int, X = (N : Int) * (i : Int) := ⟨_, rfl⟩
      obtain ⟨Y, hY⟩ : ∃ Y : Int, Y = (N : Int) * ((i : Int) + 1) := ⟨_, rfl⟩
      have hX0 : 0 ≤ X ∧ X ≤ 10000000000 := by
        have h1 : N * i ≤ 100000 * 100000 := Nat.mul_le_mul (by omega) (by omega)
        have h2 : X = ((N * i : Nat) : Int) := by rw [hX]; simp
        omega
      have hY0 : 0 ≤ Y ∧ Y ≤ 10000000000 := by
        have h1 : N * (i + 1) ≤ 100000 * 100000 := Nat.mul_le_mul (by omega) (by omega)
        have h2 : Y = ((N * (i + 1) : Nat) : Int) := by rw [hY]; simp
        omega
      have hXF : X.tdiv (n : Int) = (F : Int) := by rw [hX, hF, Int.natCast_ediv, Int.tdiv_eq_ediv_of_nonneg (by rw [← hX]; exact hX0.1)]; simp
      have hYT : Y.tdiv (n : Int) = (T : Int) := by rw [hY, hT, Int.natCast_ediv, Int.tdiv_eq_ediv_of_nonneg (by rw [← hY]; exact hY0.1)]; simp
      have hXw : IntKind.i64.wrap ((N : Int) * (i : Int)) = X := by rw [← hX, IntKind.wrap_i64]; omega
      have hYw : IntKind.i64.wrap ((N : Int) * ((i : Int) + 1)) = Y := by rw [← hY, IntKind.wrap_i64]; omega
      have hiw : IntKind.i64.wrap ((i : Int) + 1) = (i : Int) + 1 := by rw [IntKind.wrap_i64]; omega
      have HPT : Hid (partOf l n i = (l.drop F).take (T - F)) := (show _ = _ by rw [partOf, ← HN.out, ← hF, ← hT])
      have HMID : Hid (SlB encQ w w.heap.size (.slice (if T - F = 0 then ad else ad.map (·.add (F * 25))) (T - F) (T - F)) ((l.drop F).take (T - F))) := HSL.out.mid F T hFT (by rw [← HN.out]; exact hTN)
      have hTF0 : ¬ T - F = 0 := by
        intro e
        have h1 : partOf l n i ∈ shareP l most := by rw [HFIN.out]; exact List.mem_map.2 ⟨i, List.mem_range.2 hin, rfl⟩
        have h2 := share_pos l most (by omega) _ h1
        rw [HPT.out, e, List.take_zero] at h2
        exact h2 rfl
      have hFT1 : F < T := by omega
      have hTC : T ≤ cap := by omega
      have hTCI : (T : Int) ≤ (cap : Int) := by omega
      have hFTI : (F : Int) < (T : Int) := by omega
      have hFI : (F : Int) ≤ (T : Int) := by omega
      have hTI : (T : Int) ≤ (N : Int) := by omega
      have hn0 : ¬ (n : Int) = 0 := by omega
      clear hF hT hX hY
      go_upto_region 6 with fail
      go_quiet (fail)
      obtain ⟨vs, hb0, ho0, hp0⟩ := HS.out
      have HB0 : Hid (Below w.heap.size w (wr.drewN nq)) := hb0.trans ⟨rfl, rfl, rfl, Nat.le_refl _, fun _ _ => rfl⟩
      have HO0 : Hid (Own encT3 39 (wr.drewN nq) w.heap.size (.slice a5 n5 c5) vs) := ho0.below ⟨rfl, rfl, rfl, Nat.le_refl _, fun _ _ => rfl⟩
      have HP0 : Hid (PartsIn encQ w w.heap.size vs ((List.range i).map (partOf l n))) := hp0
      have HLV : Hid (vs.length + 1 ≤ 1000000) := (show _ ≤ _ by have := hp0.1; simp at this; omega)
      clear hb0 ho0 hp0 HS
      generalize wr.drewN nq = w1 at *
      go_wp2_with (first
        | (refine build_c1 rowQQ rfl _ rfl (ad.map (·.add (F * 25)), T - F, T - F) _ rfl rfl ?_; intro x5 o5 b5 s5; clear s5; have HO5 : Hid (Own encT3 39 x5 w.heap.size (.slice a5 n5 c5) vs) := HO0.out.below b5; have HB5 : Hid (Below w.heap.size w x5) := HB0.out.trans (b5.mono HB0.out.size); have HL5 : Hid (SlB encT3 x5 x5.heap.size (.slice (some ⟨w1.heap.size, 0, none⟩) 1 1) [(ad.map (·.add (F * 25)), T - F, T - F)]) := o5.slB; clear o5)
        | (at_builtin; refine append_sl rowQQ rfl _ _ rfl w.heap.size (.slice a5 n5 c5) vs [(ad.map (·.add (F * 25)), T - F, T - F)] rfl HO5.out (.slice (some ⟨w1.heap.size, 0, none⟩) 1 1) rfl x5.heap.size HL5.out HLV.out (by decide) HB5.out.size ?_; intro v6 x6 ho6 gr6; obtain ⟨a6, c6, rfl⟩ := ho6.form))
      go_roundg gg
      case measure => omega
      case rel =>
        refine ⟨i + 1, _, _, _, by omega, rfl, congrArg (Value.int .i64) (by first | omega | (unfold wrap64; omega)), ?_⟩
        rw [List.length_append, List.length_singleton] at ho6
        refine ⟨_, HB5.out.grown gr6 HB5.out.size (fun k hk => (HO5.out.lt k hk).1), ho6, ?_⟩
        rw [List.range_succ, List.map_append]
        refine HP0.out.snoc ?_
        have h1 := HMID.out
        rw [if_neg hTF0] at h1
        show SlB _ _ _ _ (partOf l n i)
        rw [HPT.out]
        exact h1
set_option maxRecDepth 100000 in
set_option maxHeartbeats 4000000 in
theorem sharePiece_calls (w : World) (v : Value) (l : List Pv) (most : Nat) (h : Sl encPv w v l) (hl : l.length ≤ 100000) (hm : 1 ≤ most) (hm2 : most ≤ 100) :
    Calls Tryz.prog 79 #[v, .int .i64 (most : Int)] w fun e w' => ∃ v' vs, e = .returned v' ∧ Own encT3 77 w' w.heap.size v' vs ∧ PartsIn encPv w w.heap.size vs (shareP l most) ∧ Below w.heap.size w w' := by
  have h' := h
  obtain ⟨ad, cap, rfl, hcap, hmax, _, _⟩ := h'
  obtain ⟨N, hN⟩ : ∃ N : Nat, N = l.length := ⟨_, rfl⟩
  have HN : Hid (N = l.length) := hN
  rw [← hN] at hl hcap ⊢
  obtain ⟨n, hn⟩ : ∃ n : Nat, n = (N + most - 1) / most := ⟨_, rfl⟩
  have Hn : Hid (n = (N + most - 1) / most) := hn
  have hq : ((N : Int) + (most : Int) - 1).tdiv (most : Int) = (n : Int) := by
    rw [hn, Int.natCast_ediv, Int.tdiv_eq_ediv_of_nonneg (by omega)]
    congr 1
    omega
  have hnle : n ≤ N := by
    rw [hn]
    by_cases h0 : N = 0
    · rw [h0, Nat.div_eq_of_lt (by omega)]
      exact Nat.le_refl _
    · apply Nat.div_le_of_le_mul
      obtain ⟨m', rfl⟩ : ∃ m', most = m' + 1 := ⟨most - 1, by omega⟩
      obtain ⟨N', rfl⟩ : ∃ N', N = N' + 1 := ⟨N - 1, by omega⟩
      have e1 : (m' + 1) * (N' + 1) = m' * N' + m' + N' + 1 := by rw [Nat.add_mul, Nat.mul_add]; omega
      rw [e1]
      omega
  have HSL : Hid (SlB encPv w w.heap.size (.slice ad N cap) l) := (by rw [hN]; exact h)
  have HST : Hid (Below w.heap.size w w ∧ Own encT3 77 w w.heap.size (.slice none 0 0) [] ∧ PartsIn encPv w w.heap.size [] ((List.range 0).map (partOf l n))) := ⟨Below.refl _ _, Own.nil _ _ _ _, rfl, fun i h1 => by cases h1⟩
  have HFIN : Hid (shareP l most = (List.range n).map (partOf l n)) := (show _ = _ by rw [shareP, hn, hN])
  have hmI : (1 : Int) ≤ (most : Int) := by omega
  have hmI2 : (most : Int) ≤ 100 := by omega
  have hNI : (N : Int) ≤ 100000 := by omega
  have hnI : (n : Int) ≤ 100000 := by omega
  clear h hN hn hmax
  generalize (most : Int) = mI at *
  go_enter Tryz.func79, Tryz.ntmps79
  go_wp2_with fail
  go_loopg [5, 18] n (fun gg v5 v18 wr => ∃ (i : Nat) (a5 : Option Addr) (n5 c5 : Nat), i + gg = n ∧ v5 = .slice a5 n5 c5 ∧ v18 = .int .i64 (i : Int) ∧ Hid (∃ vs, Below w.heap.size w wr ∧ Own encT3 77 wr w.heap.size (.slice a5 n5 c5) vs ∧ PartsIn encPv w w.heap.size vs ((List.range i).map (partOf l n))))
  case atStart => exact ⟨0, none, 0, 0, by omega, rfl, rfl, ⟨[], HST.out⟩⟩
  case round =>
    obtain ⟨i, a5, n5, c5, hig, rfl, rfl, HS⟩ := hrel
    clear HST
    cases gk with
    | zero =>
      have hin : i = n := by omega
      have hiI : ¬ (i : Int) < (n : Int) := by omega
      subst hin
      go_wp2_with fail
      go_ret
      obtain ⟨vs, h1, h2, h3⟩ := HS.out
      exact ⟨_, rfl, vs, h2, by rw [HFIN.out]; exact h3, h1⟩
    | succ gg =>
      have hiI : (i : Int) < (n : Int) := by omega
      have hin : i < n := by omega
      obtain ⟨F, hF⟩ : ∃ F : Nat, F = N * i / n := ⟨_, rfl⟩
      obtain ⟨T, hT⟩ : ∃ T : Nat, T = N * (i + 1) / n := ⟨_, rfl⟩
      have hFT : F ≤ T := by rw [hF, hT]; exact place_mono N n i
      have hTN : T ≤ N := by rw [hT]; exact place_le N n (i + 1) (by omega) (by omega)
      obtain ⟨X, hX⟩ : ∃ X : Int, X = (N : Int) * (i : Int) := ⟨_, rfl⟩
      obtain ⟨Y, hY⟩ : ∃ Y : Int, Y = (N : Int) * ((i : Int) + 1) := ⟨_, rfl⟩
      have hX0 : 0 ≤ X ∧ X ≤ 10000000000 := by
        have h1 : N * i ≤ 100000 * 100000 := Nat.mul_le_mul (by omega) (by omega)
        have h2 : X = ((N * i : Nat) : Int) := by rw [hX]; simp
        omega
      have hY0 : 0 ≤ Y ∧ Y ≤ 10000000000 := by
        have h1 : N * (i + 1) ≤ 100000 * 100000 := Nat.mul_le_mul (by omega) (by omega)
        have h2 : Y = ((N * (i + 1) : Nat) : Int) := by rw [hY]; simp
        omega
      have hXF : X.tdiv (n : Int) = (F : Int) := by rw [hX, hF, Int.natCast_ediv, Int.tdiv_eq_ediv_of_nonneg (by rw [← hX]; exact hX0.1)]; simp
      have hYT : Y.tdiv (n : Int) = (T : Int) := by rw [hY, hT, Int.natCast_ediv, Int.tdiv_eq_ediv_of_nonneg (by rw [← hY]; exact hY0.1)]; simp
      have hXw : IntKind.i64.wrap ((N : Int) * (i : Int)) = X := by rw [← hX, IntKind.wrap_i64]; omega
      have hYw : IntKind.i64.wrap ((N : Int) * ((i : Int) + 1)) = Y := by rw [← hY, IntKind.wrap_i64]; omega
      have hiw : IntKind.i64.wrap ((i : Int) + 1) = (i : Int) + 1 := by rw [IntKind.wrap_i64]; omega
      have HPT : Hid (partOf l n i = (l.drop F).take (T - F)) := (show _ = _ by rw [partOf, ← HN.out, ← hF, ← hT])
      have HMID : Hid (SlB encPv w w.heap.size (.slice (if T - F = 0 then ad else ad.map (·.add (F * 27))) (T - F) (T - F)) ((l.drop F).take (T - F))) := HSL.out.mid F T hFT (by rw [← HN.out]; exact hTN)
      have hTF0 : ¬ T - F = 0 := by
        intro e
        have h1 : partOf l n i ∈ shareP l most := by rw [HFIN.out]; exact List.mem_map.2 ⟨i, List.mem_range.2 hin, rfl⟩
        have h2 := share_pos l most (by omega) _ h1
        rw [HPT.out, e, List.take_zero] at h2
        exact h2 rfl
      have hFT1 : F < T := by omega
      have hTC : T ≤ cap := by omega
      have hTCI : (T : Int) ≤ (cap : Int) := by omega
      have hFTI : (F : Int) < (T : Int) := by omega
      have hFI : (F : Int) ≤ (T : Int) := by omega
      have hTI : (T : Int) ≤ (N : Int) := by omega
      have hn0 : ¬ (n : Int) = 0 := by omega
      clear hF hT hX hY
      go_upto_region 6 with fail
      go_quiet (fail)
      obtain ⟨vs, hb0, ho0, hp0⟩ := HS.out
      have HB0 : Hid (Below w.heap.size w (wr.drewN nq)) := hb0.trans ⟨rfl, rfl, rfl, Nat.le_refl _, fun _ _ => rfl⟩
      have HO0 : Hid (Own encT3 77 (wr.drewN nq) w.heap.size (.slice a5 n5 c5) vs) := ho0.below ⟨rfl, rfl, rfl, Nat.le_refl _, fun _ _ => rfl⟩
      have HP0 : Hid (PartsIn encPv w w.heap.size vs ((List.range i).map (partOf l n))) := hp0
      have HLV : Hid (vs.length + 1 ≤ 1000000) := (show _ ≤ _ by have := hp0.1; simp at this; omega)
      clear hb0 ho0 hp0 HS
      generalize wr.drewN nq = w1 at *
      go_wp2_with (first
        | (refine build_c1 rowVV rfl _ rfl (ad.map (·.add (F * 27)), T - F, T - F) _ rfl rfl ?_; intro x5 o5 b5 s5; clear s5; have HO5 : Hid (Own encT3 77 x5 w.heap.size (.slice a5 n5 c5) vs) := HO0.out.below b5; have HB5 : Hid (Below w.heap.size w x5) := HB0.out.trans (b5.mono HB0.out.size); have HL5 : Hid (SlB encT3 x5 x5.heap.size (.slice (some ⟨w1.heap.size, 0, none⟩) 1 1) [(ad.map (·.add (F * 27)), T - F, T - F)]) := o5.slB; clear o5)
        | (at_builtin; refine append_sl rowVV rfl _ _ rfl w.heap.size (.slice a5 n5 c5) vs [(ad.map (·.add (F * 27)), T - F, T - F)] rfl HO5.out (.slice (some ⟨w1.heap.size, 0, none⟩) 1 1) rfl x5.heap.size HL5.out HLV.out (by decide) HB5.out.size ?_; intro v6 x6 ho6 gr6; obtain ⟨a6, c6, rfl⟩ := ho6.form))
      go_roundg gg
      case measure => omega
      case rel =>
        refine ⟨i + 1, _, _, _, by omega, rfl, congrArg (Value.int .i64) (by first | omega | (unfold wrap64; omega)), ?_⟩
        rw [List.length_append, List.length_singleton] at ho6
        refine ⟨_, HB5.out.grown gr6 HB5.out.size (fun k hk => (HO5.out.lt k hk).1), ho6, ?_⟩
        rw [List.range_succ, List.map_append]
        refine HP0.out.snoc ?_
        have h1 := HMID.out
        rw [if_neg hTF0] at h1
        show SlB _ _ _ _ (partOf l n i)
        rw [HPT.out]
        exact h1
end Go.Proofs.YtjhdnpplmlddaaaGreat
