/- The document's Diff, Join, alike and Merge. -/
import Derived.Test.YtbodbdcmkicmaaaDlP
namespace Go.Proofs.Ytbodbdcmkicmaaa
set_option linter.unusedVariables false
open Go.RowKit

theorem fmp_take {f : Pa → Option Ch} (pre : List Ch) (l : List Pa) (k : Nat) (h : k < l.length) : (pre ++ (l.take (k + 1)).filterMap f).foldl (putA Ch.n) [] = (f l[k]).toList.foldl (putA Ch.n) ((pre ++ (l.take k).filterMap f).foldl (putA Ch.n) []) := by
  rw [fm_take f l k h, ← List.append_assoc, List.foldl_append]
theorem fmp_len {f : Pa → Option Ch} (pre : List Ch) (l : List Pa) : ((pre ++ l.filterMap f).foldl (putA Ch.n) []).length ≤ pre.length + l.length := by
  have h1 := puts_len0 Ch.n (pre ++ l.filterMap f)
  have h2 := List.length_filterMap_le f l
  rw [List.length_append] at h1
  omega
theorem plain_gone (K : Kz) : (⟨K.k, K.h, [], true⟩ : Ch).plain = ⟨K.k, K.h, [], true⟩ := rfl
theorem plain_put (K : Kz) (v : List UInt8) : (⟨K.k, K.h, v, false⟩ : Ch).plain = ⟨K.k, K.h, v, false⟩ := rfl
theorem neq_str (a b : List UInt8) (w : World) (x y : Operand) {f : Operand → Value} {o : Oper} (t' : TypeId) (ho : o.op = .binOp .neq 9 x y t') (hx : f x = .string (str a)) (hy : f y = .string (str b)) : (execOp f o).run Try.prog w = .ok (.value (.bool (!decide (a = b)))) w := by
  unfold execOp
  rw [ho]
  simp only [hx, hy]
  go_simp
  rw [str_toList, str_toList]
  by_cases e : a = b <;> simp [e]
section
variable {ops : Array Oper} {rest : List Oper} {o : Oper} {a : Act} {w : World} {Q : Exit → Act → World → Prop}
theorem ne_str_op (x y : Operand) (t' : TypeId) (ho : o.op = .binOp .neq 9 x y t') (hgd : Region.wanted o (yielded ops a.tmps) = true) (p q : List UInt8) (hx : a.eval x = .string (str p)) (hy : a.eval y = .string (str q))
    (h : wpList Try.prog ops Q rest (a.put o.dst (.bool (!decide (p = q)))) w) : wpList Try.prog ops Q (o :: rest) a w :=
  BigFrame.wpList_want hgd fun _ hK' => by unfold Oper.wp; rw [neq_str p q w x y t' ho hx hy]; exact hK' _ _ h
end
set_option maxRecDepth 100000 in
set_option maxHeartbeats 8000000 in
theorem rdiff_calls (w : World) (ua ub : Value) (a b : List Pa) (ha : Sl encP w ua a) (hb : Sl encP w ub b) (hla : a.length ≤ 2000) (hlb : b.length ≤ 2000) :
    Calls Try.prog 19 #[ua, ub] w fun e w' => ∃ v d, e = .returned v ∧ Sl encC w' v d ∧ DiffIs a b d ∧ d.length ≤ a.length + b.length ∧ Below w.heap.size w w' := by
  have hM := rmap_calls w ua a ha (by omega)
  have HSB : Hid (Sl encP w ub b) := hb
  clear ha hb
  have hInfo : ∀ p : Pa, (Try.prog.info? 41).map (·.size) = some (bc p.k).length := fun p => by rw [bc_length, p.h]; exact Try.key_info
  go_enter Try.func19, Try.ntmps19
  go_upto_region 2 with (first
    | (go_at_call 14; refine hM.mono ?_; clear hM; rintro e w0 ⟨v0, A, rfl, s0, i0, l0, b0⟩))
  have hM2 := rmap_calls w0 ub b (HSB.out.called b0) (by omega)
  go_wp2_with (first
    | (go_at_call 14; refine hM2.mono ?_; clear hM2; rintro e w1 ⟨v1, B, rfl, s1, i1, l1, b1⟩))
  have HBW : Hid (Below w.heap.size w w1) := b0.trans (b1.mono b0.size)
  have HA : Hid (MapIs a A ∧ MapIs b B ∧ A.length ≤ a.length ∧ B.length ≤ b.length) := ⟨i0, i1, l0, l1⟩
  have sA := s0.called b1
  have HLA : Hid (A.length ≤ 2000 ∧ B.length ≤ 2000) := ⟨by omega, by omega⟩
  obtain ⟨ada, cpa, rfl, hca, hma⟩ := sl_form sA
  obtain ⟨adb, cpb, rfl, hcb, hmb⟩ := sl_form s1
  have HIA : Hid (∀ i (hi : i < A.length), ∃ g off, ada = some ⟨g, off, none⟩ ∧ g < w1.heap.size ∧ w1.rangeAt g (off + i * 25) (encP.c A[i])) := fun i hi => SlB.at sA i hi
  have HIB : Hid (∀ i (hi : i < B.length), ∃ g off, adb = some ⟨g, off, none⟩ ∧ g < w1.heap.size ∧ w1.rangeAt g (off + i * 25) (encP.c B[i])) := fun i hi => SlB.at s1 i hi
  have HSA : Hid (Sl encP w1 (.slice ada A.length cpa) A ∧ Sl encP w1 (.slice adb B.length cpb) B) := ⟨sA, s1⟩
  obtain ⟨N, hN⟩ : ∃ N : Nat, N = A.length := ⟨_, rfl⟩
  obtain ⟨M, hM⟩ : ∃ M : Nat, M = B.length := ⟨_, rfl⟩
  have HN : Hid (N = A.length ∧ M = B.length) := ⟨hN, hM⟩
  rw [← hN, ← hM] at HSA
  rw [← hN] at hca hma ⊢
  rw [← hM] at hcb hmb ⊢
  have hN2 : N ≤ 2000 := by have := HLA.out; omega
  have hM2 : M ≤ 2000 := by have := HLA.out; omega
  clear hN hM s0 s1 sA b0 b1 i0 i1 l0 l1 HSB
  generalize hW1 : w1 = W at *
  clear hW1
  have HST : Hid (Below W.heap.size W W ∧ Sl encC W (.slice none 0 0) (([] ++ (A.take 0).filterMap (dfA B)).foldl (putA Ch.n) [])) := ⟨Below.refl _ _, SlB.nil _ _ _⟩
  go_loopg [5, 6] N (fun g s5 i wr => ∃ k : Nat, k + g = N ∧ i = .int .i64 (k : Int) ∧ Hid (Below W.heap.size W wr ∧ Sl encC wr s5 (([] ++ (A.take k).filterMap (dfA B)).foldl (putA Ch.n) [])))
  case atStart => exact ⟨0, by omega, rfl, HST.out⟩
  case round =>
    obtain ⟨k, hkg, rfl, HE⟩ := hrel
    clear HST
    cases gk with
    | zero =>
      have hkN : k = N := by omega
      subst hkN
      have hE := HE.out
      rw [List.take_of_length_le (by have := HN.out; omega), List.nil_append] at hE
      have HS2 : Hid (Below W.heap.size W wr ∧ Sl encC wr u5 ((A.filterMap (dfA B) ++ (B.take 0).filterMap (dfB A)).foldl (putA Ch.n) [])) := (show _ ∧ _ by simpa using hE)
      clear hE HE HIA
      go_wp2_with fail
      go_loopg [5, 9] M (fun g s5 i wr => ∃ j : Nat, j + g = M ∧ i = .int .i64 (j : Int) ∧ Hid (Below W.heap.size W wr ∧ Sl encC wr s5 ((A.filterMap (dfA B) ++ (B.take j).filterMap (dfB A)).foldl (putA Ch.n) [])))
      case atStart => exact ⟨0, by omega, rfl, HS2.out⟩
      case round =>
        obtain ⟨j, hjg, rfl, HX⟩ := hrel
        clear HS2
        cases gk with
        | zero =>
          have hjM : j = M := by omega
          subst hjM
          go_wp2_with fail
          go_ret
          have hX := HX.out
          rw [List.take_of_length_le (by have := HN.out; omega)] at hX
          refine ⟨_, _, rfl, hX.2, diff_is HA.out.1 HA.out.2.1, ?_, HBW.out.trans (hX.1.mono HBW.out.size)⟩
          have h1 := fmp_len (f := dfB A) (A.filterMap (dfA B)) B
          have h2 := List.length_filterMap_le (dfA B) A
          have h3 := HA.out.2.2
          omega
        | succ g =>
          have hjI : (j : Int) < (M : Int) := by omega
          have hj0 : (0 : Int) ≤ (j : Int) := by omega
          have hjl : j < B.length := by have := HN.out; omega
          obtain ⟨g0, off, rfl, hg0, hat⟩ := HIB.out j hjl
          have hr1 : wr.rangeAt g0 (off + j * 25) (encP.c B[j]) := range_same' hat (HX.out.1.block g0 hg0)
          have HAT : Hid (W.rangeAt g0 (off + j * 25) (encP.c B[j])) := hat
          have HTK := fmp_take (f := dfB A) (A.filterMap (dfA B)) B j hjl
          have hlen : ((A.filterMap (dfA B) ++ (B.take j).filterMap (dfB A)).foldl (putA Ch.n) []).length ≤ 4000 := by
            have h1 := fmp_len (f := dfB A) (A.filterMap (dfA B)) (B.take j)
            have h2 := List.length_filterMap_le (dfA B) A
            have h3 := HLA.out
            simp only [List.length_take] at h1
            omega
          have HDF : Hid (dfB A B[j] = match look Pa.n A (B[j]).n with | none => some ⟨(B[j]).k, (B[j]).h, (B[j]).v, false⟩ | some _ => none) := rfl
          generalize B[j] = p at *
          generalize (A.filterMap (dfA B) ++ (B.take j).filterMap (dfB A)).foldl (putA Ch.n) [] = L at *
          have HTK : Hid ((A.filterMap (dfA B) ++ (B.take (j + 1)).filterMap (dfB A)).foldl (putA Ch.n) [] = (dfB A p).toList.foldl (putA Ch.n) L) := HTK
          have hG := get_calls wr (.slice (some ⟨g0, off, none⟩) M cpb) B p.kz (HSA.out.2.called HX.out.1) HA.out.2.1.1 (by have := HLA.out; omega)
          have hGA := get_calls wr (.slice ada k cpa) A p.kz (HSA.out.1.called HX.out.1) HA.out.1.1 (by have := HLA.out; omega)
          clear hG hat hjl
          cases hlk : look Pa.n A p.kz.n with
          | some q =>
            have HSTEP : Hid ((A.filterMap (dfA B) ++ (B.take (j + 1)).filterMap (dfB A)).foldl (putA Ch.n) [] = L) := (show _ = _ by rw [HTK.out, HDF.out, show p.n = p.kz.n from rfl, hlk]; rfl)
            have hgb : gotB A p.kz = true := by unfold gotB; rw [hlk]; rfl
            rw [hgb] at hGA
            have HB : Hid (Below W.heap.size W wr ∧ Sl encC wr u5 L) := HX.out
            clear HX HTK HDF hlk hgb
            go_wp2_with (first
              | (refine load_part _ rfl g0 (off + j * 25) rfl rfl _ p.h (range_kP hr1) ?_)
              | (go_at_call 26; refine hGA.mono ?_; clear hGA; rintro e w2 ⟨rfl, b2⟩))
            go_roundg g
            case measure => omega
            case rel => exact ⟨j + 1, by omega, congrArg (Value.int .i64) (by omega), (show Below W.heap.size W w2 ∧ Sl encC w2 u5 ((A.filterMap (dfA B) ++ (B.take (j + 1)).filterMap (dfB A)).foldl (putA Ch.n) []) from ⟨HB.out.1.trans (b2.mono HB.out.1.size), by rw [HSTEP.out]; exact HB.out.2.called b2⟩)⟩
          | none =>
            have HSTEP : Hid ((A.filterMap (dfA B) ++ (B.take (j + 1)).filterMap (dfB A)).foldl (putA Ch.n) [] = putA Ch.n L p.chg) := (show _ = _ by rw [HTK.out, HDF.out, show p.n = p.kz.n from rfl, hlk]; rfl)
            have hgb : gotB A p.kz = false := by unfold gotB; rw [hlk]; rfl
            rw [hgb] at hGA
            have HB : Hid (Below W.heap.size W wr ∧ Sl encC wr u5 L) := HX.out
            clear HX HTK HDF hlk hgb
            go_upto_region 17 with (first
              | (refine load_part _ rfl g0 (off + j * 25) rfl rfl _ p.h (range_kP hr1) ?_)
              | (go_at_call 26; refine hGA.mono ?_; clear hGA; rintro e w2 ⟨rfl, b2⟩))
            have HB1 : Hid (Below W.heap.size W w2 ∧ Sl encC w2 u5 L) := ⟨HB.out.1.trans (b2.mono HB.out.1.size), HB.out.2.called b2⟩
            have hr2 : w2.rangeAt g0 (off + j * 25) (encP.c p) := range_same' HAT.out (HB1.out.1.block g0 hg0)
            have cv := range_vP hr2
            have HR : Hid (w2.rangeAt g0 (off + j * 25) (bc p.k) ∧ w2.cell? ⟨g0, off + j * 25 + 24, none⟩ = some (.string (str p.v))) := ⟨range_kP hr2, cv⟩
            clear hr1 hr2 HB b2
            refine wp_region_noPanic ?_
            refine wp_region_held_drew (S := (fun yy => yy.rangeAt g0 (off + j * 25) (bc p.k) ∧ yy.cell? ⟨g0, off + j * 25 + 24, none⟩ = some (.string (str p.v)))) (by kernel_rfl) HR.out (fun hHeld => ?_)
            refine wpAnyH_take (i := 0) (v := ?_) rfl (by kernel_rfl) (by kernel_rfl) (by kernel_rfl) (fun _ _ _ h => h) (Or.inl ⟨by rfl, ?_⟩) hHeld ?_
            case refine_2 => (intro w hSw; (try dsimp only at hSw); go_simp; try (with_reducible rfl))
            ((try simp only); (try simp only [List.getElem_toArray]); (try simp only [List.getElem_cons_succ]); (try simp only [List.getElem_cons_zero]); (try simp only [Act.put]); (try simp only [List.setIfInBounds_toArray]); (try simp only [List.set_cons_succ]); (try simp only [List.set_cons_zero]))
            refine wpAnyH_take (i := 1) (v := ?_) rfl (by kernel_rfl) (by kernel_rfl) (by kernel_rfl) (fun _ _ _ h => h) (Or.inl ⟨by rfl, ?_⟩) hHeld ?_
            case refine_2 => (intro w hSw; (try dsimp only at hSw); go_simp; try (with_reducible rfl))
            ((try simp only); (try simp only [List.getElem_toArray]); (try simp only [List.getElem_cons_succ]); (try simp only [List.getElem_cons_zero]); (try simp only [Act.put]); (try simp only [List.setIfInBounds_toArray]); (try simp only [List.set_cons_succ]); (try simp only [List.set_cons_zero]))
            refine wpAnyH_take (i := 2) (v := ?_) rfl (by kernel_rfl) (by kernel_rfl) (by kernel_rfl) (fun _ _ _ h => h) (Or.inl ⟨by rfl, ?_⟩) hHeld ?_
            case refine_2 => (intro w hSw; (try dsimp only at hSw); go_simp; try (with_reducible rfl))
            ((try simp only); (try simp only [List.getElem_toArray]); (try simp only [List.getElem_cons_succ]); (try simp only [List.getElem_cons_zero]); (try simp only [Act.put]); (try simp only [List.setIfInBounds_toArray]); (try simp only [List.set_cons_succ]); (try simp only [List.set_cons_zero]))
            refine wpAnyH_take (i := 3) (v := ?_) rfl (by kernel_rfl) (by kernel_rfl) (by kernel_rfl) (fun _ _ _ h => h) (Or.inl ⟨by rfl, ?_⟩) hHeld ?_
            case refine_2 => (intro w hSw; (try dsimp only at hSw); go_simp; try (with_reducible rfl))
            ((try simp only); (try simp only [List.getElem_toArray]); (try simp only [List.getElem_cons_succ]); (try simp only [List.getElem_cons_zero]); (try simp only [Act.put]); (try simp only [List.setIfInBounds_toArray]); (try simp only [List.set_cons_succ]); (try simp only [List.set_cons_zero]))
            refine wpAnyH_take (i := 4) (v := ?_) rfl (by kernel_rfl) (by kernel_rfl) (by kernel_rfl) (fun _ _ _ h => h) (Or.inl ⟨by rfl, ?_⟩) hHeld ?_
            case refine_2 => (intro w hSw; (try dsimp only at hSw); go_simp; try (with_reducible rfl))
            ((try simp only); (try simp only [List.getElem_toArray]); (try simp only [List.getElem_cons_succ]); (try simp only [List.getElem_cons_zero]); (try simp only [Act.put]); (try simp only [List.setIfInBounds_toArray]); (try simp only [List.set_cons_succ]); (try simp only [List.set_cons_zero]))
            refine wpAnyH_take (i := 5) rfl (by kernel_rfl) (by kernel_rfl) (by kernel_rfl) (fun _ _ _ h => h) (yieldsIf_load_mid (by rfl) _ _ rfl _ _ rfl _ _ (fun _ h => h.1) Try.underlying41 rfl (hInfo p)) hHeld ?_
            ((try simp only); (try simp only [List.getElem_toArray]); (try simp only [List.getElem_cons_succ]); (try simp only [List.getElem_cons_zero]); (try simp only [Act.put]); (try simp only [List.setIfInBounds_toArray]); (try simp only [List.set_cons_succ]); (try simp only [List.set_cons_zero]))
            refine wpAnyH_take (i := 6) (v := ?_) rfl (by kernel_rfl) (by kernel_rfl) (by kernel_rfl) (fun _ _ _ h => h) (Or.inl ⟨by rfl, ?_⟩) hHeld ?_
            case refine_2 => (intro w hSw; (try dsimp only at hSw); obtain ⟨_, hS1⟩ := hSw; go_simp; try (with_reducible rfl))
            ((try simp only); (try simp only [List.getElem_toArray]); (try simp only [List.getElem_cons_succ]); (try simp only [List.getElem_cons_zero]); (try simp only [Act.put]); (try simp only [List.setIfInBounds_toArray]); (try simp only [List.set_cons_succ]); (try simp only [List.set_cons_zero]))
            refine wpAnyH_take (i := 7) (v := ?_) rfl (by kernel_rfl) (by kernel_rfl) (by kernel_rfl) (fun _ _ _ h => h) (Or.inl ⟨by rfl, ?_⟩) hHeld ?_
            case refine_2 => (intro w hSw; (try dsimp only at hSw); obtain ⟨_, hS1⟩ := hSw; go_simp; try (with_reducible rfl))
            ((try simp only); (try simp only [List.getElem_toArray]); (try simp only [List.getElem_cons_succ]); (try simp only [List.getElem_cons_zero]); (try simp only [Act.put]); (try simp only [List.setIfInBounds_toArray]); (try simp only [List.set_cons_succ]); (try simp only [List.set_cons_zero]))
            refine wpAnyH_take (i := 8) (v := ?_) rfl (by kernel_rfl) (by kernel_rfl) (by kernel_rfl) (fun _ _ _ h => h) (Or.inl ⟨by rfl, ?_⟩) hHeld ?_
            case refine_2 => (intro w hSw; (try dsimp only at hSw); obtain ⟨_, hS1⟩ := hSw; go_simp; try (with_reducible rfl))
            ((try simp only); (try simp only [List.getElem_toArray]); (try simp only [List.getElem_cons_succ]); (try simp only [List.getElem_cons_zero]); (try simp only [Act.put]); (try simp only [List.setIfInBounds_toArray]); (try simp only [List.set_cons_succ]); (try simp only [List.set_cons_zero]))
            refine wpAnyH_take (i := 9) (v := ?_) rfl (by kernel_rfl) (by kernel_rfl) (by kernel_rfl) (fun _ _ _ h => h) (Or.inl ⟨by rfl, ?_⟩) hHeld ?_
            case refine_2 => (intro w hSw; (try dsimp only at hSw); obtain ⟨_, hS1⟩ := hSw; go_simp; try (with_reducible rfl))
            ((try simp only); (try simp only [List.getElem_toArray]); (try simp only [List.getElem_cons_succ]); (try simp only [List.getElem_cons_zero]); (try simp only [Act.put]); (try simp only [List.setIfInBounds_toArray]); (try simp only [List.set_cons_succ]); (try simp only [List.set_cons_zero]))
            refine wpAnyH_take (i := 10) (v := ?_) rfl (by kernel_rfl) (by kernel_rfl) (by kernel_rfl) (fun _ _ _ h => h) (Or.inl ⟨by rfl, ?_⟩) hHeld ?_
            case refine_2 => (intro w hSw; (try dsimp only at hSw); obtain ⟨_, hS1⟩ := hSw; go_simp; try (with_reducible rfl))
            ((try simp only); (try simp only [List.getElem_toArray]); (try simp only [List.getElem_cons_succ]); (try simp only [List.getElem_cons_zero]); (try simp only [Act.put]); (try simp only [List.setIfInBounds_toArray]); (try simp only [List.set_cons_succ]); (try simp only [List.set_cons_zero]))
            refine wpAnyH_take (i := 11) (v := .agg (encC.c p.chg).toArray) rfl (by kernel_rfl) (by kernel_rfl) (by kernel_rfl) (fun _ _ _ h => h) (Or.inl ⟨by rfl, fun w _ => exec_build rfl (by simp only [List.map_toArray, List.map_cons, List.map_nil]; exact built_put p.chg rfl) w⟩) hHeld ?_
            ((try simp only); (try simp only [List.getElem_toArray]); (try simp only [List.getElem_cons_succ]); (try simp only [List.getElem_cons_zero]); (try simp only [Act.put]); (try simp only [List.setIfInBounds_toArray]); (try simp only [List.set_cons_succ]); (try simp only [List.set_cons_zero]))
            have HB0 : Hid (Below W.heap.size W w2.drew ∧ Sl encC w2.drew u5 L ∧ w2.drew.rangeAt g0 (off + j * 25) (bc p.k) ∧ w2.drew.cell? ⟨g0, off + j * 25 + 24, none⟩ = some (.string (str p.v))) := ⟨HB1.out.1.drew, HB1.out.2.called ⟨rfl, rfl, rfl, Nat.le_refl _, fun _ _ => rfl⟩, HR.out⟩
            have hP := with_calls w2.drew u5 L p.chg HB0.out.2.1 (by omega)
            clear HB1 HR cv
            generalize w2.drew = y0 at *
            refine wpAnyH_ready (rs := [12]) (by kernel_rfl) (by simp) (AllReadyH.cons rfl (fun K hK => ?_) AllReadyH.nil)
            rw [if_pos (by rfl)]
            ((try simp only); (try simp only [List.getElem_toArray]); (try simp only [List.getElem_cons_succ]); (try simp only [List.getElem_cons_zero]); (try simp only [Act.put]); (try simp only [List.setIfInBounds_toArray]); (try simp only [List.set_cons_succ]); (try simp only [List.set_cons_zero]))
            go_simp
            refine hP.mono ?_
            rintro e y1 ⟨v7, rfl, o7, c1⟩
            have hg1 : g0 < y0.heap.size := Nat.lt_of_lt_of_le hg0 HB0.out.1.size
            have HB2 : Hid (Below W.heap.size W y1 ∧ Sl encC y1 v7 (putA Ch.n L p.chg)) := ⟨HB0.out.1.trans (c1.mono HB0.out.1.size), o7.slB⟩
            refine hK.out _ _ ⟨range_same' HB0.out.2.2.1 (c1.block g0 hg1), (c1.cell (p := ⟨g0, off + j * 25 + 24, none⟩) hg1).trans HB0.out.2.2.2⟩ (fun hHeld => ?_)
            clear hK K c1 HB0 hg1 hP o7
            ((try simp only); (try simp only [List.getElem_toArray]); (try simp only [List.getElem_cons_succ]); (try simp only [List.getElem_cons_zero]); (try simp only [Act.put]); (try simp only [List.setIfInBounds_toArray]); (try simp only [List.set_cons_succ]); (try simp only [List.set_cons_zero]))
            refine wpAnyH_take (i := 13) (v := ?_) rfl (by kernel_rfl) (by kernel_rfl) (by kernel_rfl) (fun _ _ _ h => h) (Or.inl ⟨by rfl, ?_⟩) hHeld ?_
            case refine_2 => (intro w hSw; (try dsimp only at hSw); go_simp; try (with_reducible rfl))
            ((try simp only); (try simp only [List.getElem_toArray]); (try simp only [List.getElem_cons_succ]); (try simp only [List.getElem_cons_zero]); (try simp only [Act.put]); (try simp only [List.setIfInBounds_toArray]); (try simp only [List.set_cons_succ]); (try simp only [List.set_cons_zero]))
            refine wpAnyH_done (by kernel_rfl) ?_ _
            refine NoPanic.normal ?_
            go_wp2_with fail
            go_roundg g
            case measure => omega
            case rel => exact ⟨j + 1, by omega, congrArg (Value.int .i64) (by omega), (show Below W.heap.size W y1 ∧ Sl encC y1 v7 ((A.filterMap (dfA B) ++ (B.take (j + 1)).filterMap (dfB A)).foldl (putA Ch.n) []) from ⟨HB2.out.1, by rw [HSTEP.out]; exact HB2.out.2⟩)⟩
    | succ g =>
      have hkI : (k : Int) < (N : Int) := by omega
      have hk0 : (0 : Int) ≤ (k : Int) := by omega
      have hkl : k < A.length := by have := HN.out; omega
      obtain ⟨g0, off, rfl, hg0, hat⟩ := HIA.out k hkl
      have hr1 : wr.rangeAt g0 (off + k * 25) (encP.c A[k]) := range_same' hat (HE.out.1.block g0 hg0)
      have HAT : Hid (W.rangeAt g0 (off + k * 25) (encP.c A[k])) := hat
      have HTK := fmp_take (f := dfA B) [] A k hkl
      have hlen : (([] ++ (A.take k).filterMap (dfA B)).foldl (putA Ch.n) []).length ≤ 4000 := by
        have h1 := fmp_len (f := dfA B) [] (A.take k)
        have h3 := HLA.out
        simp only [List.length_take, List.length_nil] at h1
        omega
      have HDF : Hid (dfA B A[k] = match look Pa.n B (A[k]).n with | none => some ⟨(A[k]).k, (A[k]).h, [], true⟩ | some q => if q.v = (A[k]).v then none else some ⟨(A[k]).k, (A[k]).h, q.v, false⟩) := rfl
      generalize A[k] = p at *
      generalize ([] ++ (A.take k).filterMap (dfA B)).foldl (putA Ch.n) [] = L at *
      have HTK : Hid (([] ++ (A.take (k + 1)).filterMap (dfA B)).foldl (putA Ch.n) [] = (dfA B p).toList.foldl (putA Ch.n) L) := HTK
      have hG := get_calls wr (.slice adb M cpb) B p.kz (HSA.out.2.called HE.out.1) HA.out.2.1.1 (by have := HLA.out; omega)
      have HB : Hid (Below W.heap.size W wr ∧ Sl encC wr u5 L) := HE.out
      clear hat hkl HE
      cases hlk : look Pa.n B p.kz.n with
      | none =>
        have HSTEP : Hid (([] ++ (A.take (k + 1)).filterMap (dfA B)).foldl (putA Ch.n) [] = putA Ch.n L ⟨p.k, p.h, [], true⟩) := (show _ = _ by rw [HTK.out, HDF.out, show p.n = p.kz.n from rfl, hlk]; rfl)
        have hgb : gotB B p.kz = false := by unfold gotB; rw [hlk]; rfl
        rw [hgb] at hG
        clear HTK HDF hlk hgb
        go_upto_region 9 with (first
          | (refine load_part _ rfl g0 (off + k * 25) rfl rfl _ p.h (range_kP hr1) ?_)
          | (go_at_call 26; refine hG.mono ?_; clear hG; rintro e w2 ⟨rfl, b2⟩))
        have HB1 : Hid (Below W.heap.size W w2 ∧ Sl encC w2 u5 L) := ⟨HB.out.1.trans (b2.mono HB.out.1.size), HB.out.2.called b2⟩
        have hr2 : w2.rangeAt g0 (off + k * 25) (encP.c p) := range_same' HAT.out (HB1.out.1.block g0 hg0)
        have hW := with_calls w2 u5 L ⟨p.kz.k, p.kz.h, [], true⟩ HB1.out.2 (by omega)
        rw [plain_gone p.kz] at hW
        clear hr1 HB b2
        go_wp2_with (first
          | (refine load_part _ rfl g0 (off + k * 25) rfl rfl _ p.h (range_kP hr2) ?_)
          | (refine build_gone rfl _ _ rfl p.kz rfl rfl ?_)
          | (go_at_call 33; refine hW.mono ?_; clear hW; rintro e w3 ⟨v3, rfl, o3, b3⟩))
        go_roundg g
        case measure => omega
        case rel => exact ⟨k + 1, by omega, congrArg (Value.int .i64) (by omega), (show Below W.heap.size W w3 ∧ Sl encC w3 v3 ((([] : List Ch) ++ (A.take (k + 1)).filterMap (dfA B)).foldl (putA Ch.n) []) from ⟨HB1.out.1.trans (b3.mono HB1.out.1.size), by rw [HSTEP.out]; exact o3.slB⟩)⟩
      | some q =>
        have hgb : gotB B p.kz = true := by unfold gotB; rw [hlk]; rfl
        have hgv : gotV B p.kz = q.v := by unfold gotV; rw [hlk]; rfl
        rw [hgb, hgv] at hG
        go_upto_region 10 with (first
          | (refine load_part _ rfl g0 (off + k * 25) rfl rfl _ p.h (range_kP hr1) ?_)
          | (go_at_call 26; refine hG.mono ?_; clear hG; rintro e w2 ⟨rfl, b2⟩))
        have HB1 : Hid (Below W.heap.size W w2 ∧ Sl encC w2 u5 L) := ⟨HB.out.1.trans (b2.mono HB.out.1.size), HB.out.2.called b2⟩
        have hr2 : w2.rangeAt g0 (off + k * 25) (encP.c p) := range_same' HAT.out (HB1.out.1.block g0 hg0)
        have cv := range_vP hr2
        clear hr1 HB b2 hgb hgv
        by_cases hqp : q.v = p.v
        · have HSTEP : Hid (([] ++ (A.take (k + 1)).filterMap (dfA B)).foldl (putA Ch.n) [] = L) := (show _ = _ by rw [HTK.out, HDF.out, show p.n = p.kz.n from rfl, hlk]; simp only [hqp, if_true]; rfl)
          have hd : decide (q.v = p.v) = true := decide_eq_true hqp
          have HFIN : Hid (Below W.heap.size W w2 ∧ Sl encC w2 u5 (([] ++ (A.take (k + 1)).filterMap (dfA B)).foldl (putA Ch.n) [])) := by
            refine ⟨HB1.out.1, ?_⟩
            rw [HSTEP.out]
            exact HB1.out.2
          clear HTK HDF hlk hqp
          go_wp2_with (first
            | (refine ne_str_op _ _ _ rfl rfl q.v p.v rfl rfl ?_; rw [hd]))
          go_roundg g
          case measure => omega
          case rel => exact ⟨k + 1, by omega, congrArg (Value.int .i64) (by omega), HFIN⟩
        · have HSTEP : Hid (([] ++ (A.take (k + 1)).filterMap (dfA B)).foldl (putA Ch.n) [] = putA Ch.n L ⟨p.k, p.h, q.v, false⟩) := (show _ = _ by rw [HTK.out, HDF.out, show p.n = p.kz.n from rfl, hlk]; simp only [hqp, if_false]; rfl)
          have hd : decide (q.v = p.v) = false := decide_eq_false hqp
          have hW := with_calls w2 u5 L ⟨p.kz.k, p.kz.h, q.v, false⟩ HB1.out.2 (by omega)
          rw [plain_put p.kz q.v] at hW
          clear HTK HDF hlk hqp
          go_wp2_with (first
            | (refine ne_str_op _ _ _ rfl rfl q.v p.v rfl rfl ?_; rw [hd])
            | (refine load_part _ rfl g0 (off + k * 25) rfl rfl _ p.h (range_kP hr2) ?_)
            | (refine build_put rfl _ _ rfl ⟨p.k, p.h, q.v, false⟩ rfl rfl rfl ?_)
            | (go_at_call 33; refine hW.mono ?_; clear hW; rintro e w3 ⟨v3, rfl, o3, b3⟩))
          go_roundg g
          case measure => omega
          case rel => exact ⟨k + 1, by omega, congrArg (Value.int .i64) (by omega), (show Below W.heap.size W w3 ∧ Sl encC w3 v3 ((([] : List Ch) ++ (A.take (k + 1)).filterMap (dfA B)).foldl (putA Ch.n) []) from ⟨HB1.out.1.trans (b3.mono HB1.out.1.size), by rw [HSTEP.out]; exact o3.slB⟩)⟩
set_option maxRecDepth 100000 in
set_option maxHeartbeats 4000000 in
theorem rjoin_calls (w : World) (u : Value) (cs : List (Value × List Ch)) (h : SlS w w.heap.size u cs) (hn : cs.length ≤ 1000) (hl : (cs.flatMap (·.2)).length ≤ 5000) :
    Calls Try.prog 21 #[u] w fun e w' => ∃ v d, e = .returned v ∧ Sl encC w' v d ∧ JoinIs (cs.flatMap (·.2)) d ∧ d.length ≤ (cs.flatMap (·.2)).length ∧ Below w.heap.size w w' := by
  obtain ⟨⟨ad, cap, rfl, hcap, hmax, hcell⟩, heach⟩ := h
  obtain ⟨N, hN⟩ : ∃ N : Nat, N = cs.length := ⟨_, rfl⟩
  rw [← hN] at hcap hmax hn ⊢
  have HN : Hid (N = cs.length) := hN
  have HI : Hid (∀ i (hi : i < cs.length), ∃ g off, ad = some ⟨g, off, none⟩ ∧ g < w.heap.size ∧ w.cell? ⟨g, off + i, none⟩ = some (cs[i]).1) := fun i hi => by
    rcases hcell with rfl | ⟨g, off, e, hg, hc⟩
    · cases hi
    · exact ⟨g, off, e, hg, hc i hi⟩
  have HE : Hid (∀ i (hi : i < cs.length), SlB encC w w.heap.size (cs[i]).1 (cs[i]).2) := fun i hi => heach _ (List.getElem_mem hi)
  have HLL : Hid ((cs.flatMap (·.2)).length ≤ 5000) := hl
  have HS : Hid (Below w.heap.size w w ∧ Sl encC w (.slice none 0 0) ((((cs.take 0).flatMap (·.2)).map Ch.plain).foldl (putA Ch.n) [])) := ⟨Below.refl _ _, SlB.nil _ _ _⟩
  clear hN heach hcell hl
  go_enter Try.func21, Try.ntmps21
  go_wp2_with fail
  go_loopg [3, 4] N (fun gg s3 i wr => ∃ k : Nat, k + gg = N ∧ i = .int .i64 (k : Int) ∧ Hid (Below w.heap.size w wr ∧ Sl encC wr s3 ((((cs.take k).flatMap (·.2)).map Ch.plain).foldl (putA Ch.n) [])))
  case atStart => exact ⟨0, by omega, rfl, HS.out⟩
  case round =>
    obtain ⟨k, hkg, rfl, HX⟩ := hrel
    clear HS
    cases gk with
    | zero =>
      have hkN : k = N := by omega
      subst hkN
      have hX := HX.out
      rw [List.take_of_length_le (by have := HN.out; omega)] at hX
      have HX2 : Hid (Below w.heap.size w wr ∧ Sl encC wr u3 (((cs.flatMap (·.2)).map Ch.plain).foldl (putA Ch.n) [])) := hX
      clear hX HX
      go_wp2_with fail
      go_ret
      refine ⟨_, _, rfl, HX2.out.2, join_is _, ?_, HX2.out.1⟩
      have h1 := puts_len0 Ch.n ((cs.flatMap (·.2)).map Ch.plain)
      rwa [List.length_map] at h1
    | succ gg =>
      have hltI : (k : Int) < (N : Int) := by omega
      have hkl : k < cs.length := by have := HN.out; omega
      obtain ⟨g0, off, rfl, hg0, hat⟩ := HI.out k hkl
      have hsl := HE.out k hkl
      have HFT := flats_take cs k hkl
      have HFL := flats_len cs k hkl
      have HFB := flats_le cs (k + 1)
      have hLL := HLL.out
      obtain ⟨ad2, cap2, hv2, hcap2, hmax2, _, _⟩ := id hsl
      rw [hv2] at hat hsl
      have HC : Hid (∀ i (hi : i < (cs[k]).2.length), ∃ g off, ad2 = some ⟨g, off, none⟩ ∧ g < w.heap.size ∧ w.rangeAt g (off + i * 26) (encC.c (cs[k]).2[i])) := fun i hi => SlB.at hsl i hi
      have hpl := puts_len0 Ch.n (((cs.take k).flatMap (·.2)).map Ch.plain)
      rw [List.length_map] at hpl
      generalize (cs[k]).2 = c at *
      generalize hL0 : (((cs.take k).flatMap (·.2)).map Ch.plain).foldl (putA Ch.n) [] = L0 at *
      generalize hn0 : ((cs.take k).flatMap (·.2)).length = n0 at *
      obtain ⟨M, hM⟩ : ∃ M : Nat, M = c.length := ⟨_, rfl⟩
      rw [← hM] at hcap2 hmax2 hat HFL
      have HM : Hid (M = c.length) := hM
      have hb5 : n0 + M ≤ 5000 := by omega
      have HFT : Hid ((((cs.take (k + 1)).flatMap (·.2)).map Ch.plain).foldl (putA Ch.n) [] = (c.map Ch.plain).foldl (putA Ch.n) L0) := HFT
      have HCE : Hid (w.cell? ⟨g0, off + k, none⟩ = some (.slice ad2 M cap2)) := hat
      have HS2 : Hid (Below w.heap.size w wr ∧ Sl encC wr u3 (((c.take 0).map Ch.plain).foldl (putA Ch.n) L0)) := HX.out
      have HLN : Hid (∀ j, j ≤ M → (((c.take j).map Ch.plain).foldl (putA Ch.n) L0).length ≤ 5000) := fun j hj => by
        have h1 := puts_len Ch.n ((c.take j).map Ch.plain) L0
        simp only [List.length_map, List.length_take] at h1
        omega
      clear hkl hM hsl hv2 HX HFB hLL hL0 hn0 hat
      go_wp2_with fail
      go_loopg [3, 5] M (fun g2 s3 i wr => ∃ j : Nat, j + g2 = M ∧ i = .int .i64 (j : Int) ∧ Hid (Below w.heap.size w wr ∧ Sl encC wr s3 (((c.take j).map Ch.plain).foldl (putA Ch.n) L0)))
      case atStart => exact ⟨0, by omega, rfl, HS2.out⟩
      case round =>
        obtain ⟨j, hjg, rfl, HY⟩ := hrel
        clear HS2
        have hce : wr.cell? ⟨g0, off + k, none⟩ = some (.slice ad2 M cap2) := (HY.out.1.cell (p := ⟨g0, off + k, none⟩) hg0).trans HCE.out
        cases gk with
        | zero =>
          have hjM : j = M := by omega
          subst hjM
          go_wp2_with fail
          go_roundg gg
          case measure => omega
          case rel =>
            refine ⟨k + 1, by omega, congrArg (Value.int .i64) (by omega), ?_⟩
            have hY := HY.out
            rw [List.take_of_length_le (by have := HM.out; omega)] at hY
            exact (show Below w.heap.size w wr ∧ Sl encC wr _ ((((cs.take (k + 1)).flatMap (·.2)).map Ch.plain).foldl (putA Ch.n) []) from ⟨hY.1, by rw [HFT.out]; exact hY.2⟩)
        | succ g2 =>
          have hjI : (j : Int) < (M : Int) := by omega
          have hjl : j < c.length := by have := HM.out; omega
          obtain ⟨g1, off1, rfl, hg1, hat1⟩ := HC.out j hjl
          have hr1 : wr.rangeAt g1 (off1 + j * 26) (encC.c c[j]) := range_same' hat1 (HY.out.1.block g1 hg1)
          have HTK : Hid (((c.take (j + 1)).map Ch.plain).foldl (putA Ch.n) L0 = putA Ch.n (((c.take j).map Ch.plain).foldl (putA Ch.n) L0) (c[j]).plain) := plains_take c L0 j hjl
          have hln := HLN.out j (by omega)
          generalize c[j] = p at *
          generalize ((c.take j).map Ch.plain).foldl (putA Ch.n) L0 = L at *
          have hW := with_calls wr u3 L p HY.out.2 (by omega)
          have HB : Hid (Below w.heap.size w wr) := HY.out.1
          clear hat1 hjl HY
          go_wp2_with (first
            | (refine load_el elC _ rfl g1 (off1 + j * 26) rfl rfl p hr1 ?_)
            | (go_at_call 33; refine hW.mono ?_; clear hW; rintro e w3 ⟨v3, rfl, o3, b3⟩))
          go_roundg g2
          case measure => omega
          case rel => exact ⟨j + 1, by omega, congrArg (Value.int .i64) (by omega), (show Below w.heap.size w w3 ∧ Sl encC w3 v3 (((c.take (j + 1)).map Ch.plain).foldl (putA Ch.n) L0) from ⟨HB.out.trans (b3.mono HB.out.size), by rw [HTK.out]; exact o3.slB⟩)⟩
end Go.Proofs.Ytbodbdcmkicmaaa
