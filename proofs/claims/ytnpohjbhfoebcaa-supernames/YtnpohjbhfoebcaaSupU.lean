/- Same, and a superblock that is cut. -/
import Derived.Test.YtnpohjbhfoebcaaSupT
namespace Go.Proofs.Ytnpohjbhfoebcaa
set_option linter.unusedVariables false
open Go.RowKit

theorem exec_ne_snap {ρ : Operand → Value} {o : Oper} (x y : Operand) (t' : TypeId) (ho : o.op = .binOp .neq 40 x y t') (a b : Snp) (hx : ρ x = .agg (snc a).toArray) (hy : ρ y = .agg (snc b).toArray) (w : World) : (execOp ρ o).run Try.prog w = .ok (.value (.bool (!(a == b)))) w := by
  unfold execOp
  rw [ho]
  have hm : Try.prog.eqGuardType Try.prog.depth 40 = false := by kernel_rfl
  simp only [hx, hy, Sem.run_bind, run_eqGuard_agg w .neq 40 x y _ _ hm, run_neq_struct, eq_snap 9998 a b w, Result.andThen_ok, Sem.run_pure]
theorem take_eq_step {l m : List Snp} {k : Nat} (hk : k < l.length) (hm : k < m.length) (h : l.take k = m.take k) (e : l[k] = m[k]) : l.take (k + 1) = m.take (k + 1) := by
  rw [List.take_succ_eq_append_getElem hk, List.take_succ_eq_append_getElem hm, h, e]
theorem wrap_step (k N : Nat) (h : k < N) (hN : N ≤ 9223372036854775807) : wrap64 ((k : Int) + 1) = (k : Int) + 1 := by
  unfold wrap64
  omega
theorem ne_at {l m : List Snp} {k : Nat} (hk : k < l.length) (hm : k < m.length) (e : ¬ l[k] = m[k]) : ¬ l = m := fun h => e (by subst h; rfl)
set_option maxHeartbeats 8000000 in
set_option maxRecDepth 100000 in
theorem same_calls (w : World) (A B : Sup) (av bv : Value) (hA : Sna w av A.l) (hB : Sna w bv B.l) :
    Calls Try.prog 11 #[uv A av, uv B bv] w fun e w' => e = .returned (.bool (decide (A = B))) ∧ Below w.heap.size w w' := by
  obtain ⟨ra, ⟨aa, ca, rfl, _, amax, hina⟩, hra⟩ := hA
  obtain ⟨rb, ⟨ab, cb, rfl, _, bmax, hinb⟩, hrb⟩ := hB
  obtain ⟨g1, r1, x1, c1, l⟩ := A
  obtain ⟨g2, r2, x2, c2, m⟩ := B
  simp only at hina hinb amax bmax
  have bel : ∀ o p, Below w.heap.size w ((w.alloc o).alloc p) := fun o p => ((Below.refl _ w).alloc (Nat.le_refl _) _).alloc (by simp) _
  have BEL : Hid (∀ o p, Below w.heap.size w ((w.alloc o).alloc p)) := bel
  have HA : Hid (l = [] ∨ ∃ g off, aa = some ⟨g, off, none⟩ ∧ ra = some g ∧ g < w.heap.size ∧ ∀ i (hi : i < l.length), SnpAt w g (off + i * 3) l[i]) := hina
  have HB : Hid (m = [] ∨ ∃ g off, ab = some ⟨g, off, none⟩ ∧ rb = some g ∧ g < w.heap.size ∧ ∀ i (hi : i < m.length), SnpAt w g (off + i * 3) m[i]) := hinb
  clear hina hinb bel
  by_cases q1 : g1 = g2
  rotate_left
  · have f : (g1 == g2) = false := by simpa using q1
    go_enter Try.func11, Try.ntmps11
    go_wp2
    go_ret
    exact ⟨rfl, BEL.out _ _⟩
  subst q1
  by_cases q2 : r1 = r2
  rotate_left
  · have f : (r1 == r2) = false := by simpa using q2
    go_enter Try.func11, Try.ntmps11
    go_wp2
    go_ret
    exact ⟨rfl, BEL.out _ _⟩
  subst q2
  by_cases q3 : x1 = x2
  rotate_left
  · have f : (x1 == x2) = false := by simpa using q3
    go_enter Try.func11, Try.ntmps11
    go_wp2
    go_ret
    exact ⟨rfl, BEL.out _ _⟩
  subst q3
  by_cases q4 : c1 = c2
  rotate_left
  · have f : (c1 == c2) = false := by simpa using q4
    go_enter Try.func11, Try.ntmps11
    go_wp2
    go_ret
    exact ⟨rfl, BEL.out _ _⟩
  subst q4
  by_cases q5 : l.length = m.length
  rotate_left
  · have f : (((l.length : Nat) : Int) == ((m.length : Nat) : Int)) = false := by simpa using fun e : ((l.length : Nat) : Int) = ((m.length : Nat) : Int) => q5 (by omega)
    have f2 : (l.length == m.length) = false := by simpa using q5
    go_enter Try.func11, Try.ntmps11
    go_wp2
    go_ret
    exact ⟨by rw [decide_eq_false (fun e => q5 (by cases e; rfl))]; rfl, BEL.out _ _⟩
  obtain ⟨N, hN⟩ : ∃ N : Nat, N = l.length := ⟨_, rfl⟩
  have HD : Hid (decide ((⟨g1, r1, x1, c1, l⟩ : Sup) = ⟨g1, r1, x1, c1, m⟩) = decide (l = m)) := (show _ = _ by simp)
  have HN1 : Hid (N = l.length) := hN
  have HN2 : Hid (N = m.length) := (show N = m.length by omega)
  rw [← q5, ← hN]
  have HMX : Hid (N ≤ 9223372036854775807) := (show N ≤ _ by unfold maxLen at amax; omega)
  clear hN q5 amax bmax hra hrb
  go_enter Try.func11, Try.ntmps11
  go_upto_region 4 with fail
  have KA : ((w.alloc (.cells #[.int .i64 g1, .int .i64 r1, .int .i64 x1, .int .i64 c1, .slice aa N ca] 24)).alloc (.cells #[.int .i64 g1, .int .i64 r1, .int .i64 x1, .int .i64 c1, .slice ab N cb] 24)).cell? ⟨w.heap.size, 4, none⟩ = some (.slice aa N ca) := by
    rw [cell_of_row _ w.heap.size 4 _ _ _ ((Below.heap_alloc _ _ _ (by simp)).trans (heap_alloc_new _ _))]
    rfl
  have KB : ((w.alloc (.cells #[.int .i64 g1, .int .i64 r1, .int .i64 x1, .int .i64 c1, .slice aa N ca] 24)).alloc (.cells #[.int .i64 g1, .int .i64 r1, .int .i64 x1, .int .i64 c1, .slice ab N cb] 24)).cell? ⟨w.heap.size + 1, 4, none⟩ = some (.slice ab N cb) := by
    have e : (w.alloc (.cells #[.int .i64 g1, .int .i64 r1, .int .i64 x1, .int .i64 c1, .slice aa N ca] 24)).heap.size = w.heap.size + 1 := by simp
    rw [← e, cell_of_row _ _ 4 _ _ _ (heap_alloc_new _ _)]
    rfl
  have B0 := BEL.out (.cells #[.int .i64 g1, .int .i64 r1, .int .i64 x1, .int .i64 c1, .slice aa N ca] 24) (.cells #[.int .i64 g1, .int .i64 r1, .int .i64 x1, .int .i64 c1, .slice ab N cb] 24)
  generalize (w.alloc (.cells #[.int .i64 g1, .int .i64 r1, .int .i64 x1, .int .i64 c1, .slice aa N ca] 24)).alloc (.cells #[.int .i64 g1, .int .i64 r1, .int .i64 x1, .int .i64 c1, .slice ab N cb] 24) = W at *
  clear BEL
  go_loopw [5] (fun i wr => ∃ (k n : Nat), k ≤ N ∧ i = .int .i64 (k : Int) ∧ wr = W.drewN n ∧ Hid (l.take k = m.take k)) (fun i _ => N - (intOf i).toNat)
  case atStart => exact ⟨0, 0, Nat.zero_le _, rfl, rfl, (show l.take 0 = m.take 0 by simp)⟩
  case round =>
    obtain ⟨k, n, hk, rfl, rfl, HT⟩ := hrel
    by_cases hlt : k < N
    · have hkl : k < l.length := by rw [← HN1.out]; exact hlt
      have hkm : k < m.length := by rw [← HN2.out]; exact hlt
      obtain ⟨ga, oa, rfl, gla, hat⟩ : ∃ g off, aa = some ⟨g, off, none⟩ ∧ g < w.heap.size ∧ SnpAt w g (off + k * 3) l[k] := by
        rcases HA.out with e | ⟨g, off, h1, _, h2, h3⟩
        · rw [e] at hkl; simp at hkl
        · exact ⟨g, off, h1, h2, h3 k hkl⟩
      obtain ⟨gb, ob, rfl, glb, hbt⟩ : ∃ g off, ab = some ⟨g, off, none⟩ ∧ g < w.heap.size ∧ SnpAt w g (off + k * 3) m[k] := by
        rcases HB.out with e | ⟨g, off, h1, _, h2, h3⟩
        · rw [e] at hkm; simp at hkm
        · exact ⟨g, off, h1, h2, h3 k hkm⟩
      have sA : SnpAt (W.drewN n).drew ga (oa + k * 3) l[k] := hat.same (B0.block ga gla)
      have sB : SnpAt (W.drewN n).drew gb (ob + k * 3) m[k] := hbt.same (B0.block gb glb)
      have cA : (W.drewN n).drew.cell? ⟨w.heap.size, 4, none⟩ = some (.slice (some ⟨ga, oa, none⟩) N ca) := KA
      have cB : (W.drewN n).drew.cell? ⟨w.heap.size + 1, 4, none⟩ = some (.slice (some ⟨gb, ob, none⟩) N cb) := KB
      have HS : Hid (l[k] = m[k] → l.take (k + 1) = m.take (k + 1)) := fun e => take_eq_step hkl hkm HT.out e
      have HNE : Hid (¬ l[k] = m[k] → ¬ l = m) := fun e => ne_at hkl hkm e
      clear hat hbt
      generalize l[k] = s at *
      generalize m[k] = t at *
      have kA : (W.drewN n).cell? ⟨w.heap.size, 4, none⟩ = some (.slice (some ⟨ga, oa, none⟩) N ca) := KA
      go_upto_region 6 with fail
      refine wp_region_noPanic ?_
      refine wp_region_held_drew (S := (fun y => y.cell? ⟨w.heap.size, 4, none⟩ = some (.slice (some ⟨ga, oa, none⟩) N ca) ∧ y.cell? ⟨w.heap.size + 1, 4, none⟩ = some (.slice (some ⟨gb, ob, none⟩) N cb) ∧ SnpAt y ga (oa + k * 3) s ∧ SnpAt y gb (ob + k * 3) t)) (by kernel_rfl) ⟨cA, cB, sA, sB⟩ (fun hHeld => ?_)
      refine wpAnyH_take (i := 0) (v := ?_) rfl (by kernel_rfl) (by kernel_rfl) (by kernel_rfl) (fun _ _ _ h => h) (Or.inl ⟨by rfl, ?_⟩) hHeld ?_
      case refine_2 => (intro w hSw; (try dsimp only at hSw); obtain ⟨k1, k2, ⟨k3, k4, k5⟩, k6, k7, k8⟩ := hSw; go_simp; try (with_reducible rfl))
      ((try simp only); (try simp only [List.getElem_toArray]); (try simp only [List.getElem_cons_succ]); (try simp only [List.getElem_cons_zero]); (try simp only [Act.put]); (try simp only [List.setIfInBounds_toArray]); (try simp only [List.set_cons_succ]); (try simp only [List.set_cons_zero]))
      refine wpAnyH_take (i := 1) (v := ?_) rfl (by kernel_rfl) (by kernel_rfl) (by kernel_rfl) (fun _ _ _ h => h) (Or.inl ⟨by rfl, ?_⟩) hHeld ?_
      case refine_2 => (intro w hSw; (try dsimp only at hSw); obtain ⟨k1, k2, ⟨k3, k4, k5⟩, k6, k7, k8⟩ := hSw; go_simp; try (with_reducible rfl))
      ((try simp only); (try simp only [List.getElem_toArray]); (try simp only [List.getElem_cons_succ]); (try simp only [List.getElem_cons_zero]); (try simp only [Act.put]); (try simp only [List.setIfInBounds_toArray]); (try simp only [List.set_cons_succ]); (try simp only [List.set_cons_zero]))
      refine wpAnyH_take (i := 2) (v := ?_) rfl (by kernel_rfl) (by kernel_rfl) (by kernel_rfl) (fun _ _ _ h => h) (Or.inl ⟨by rfl, ?_⟩) hHeld ?_
      case refine_2 => (intro w hSw; (try dsimp only at hSw); obtain ⟨k1, k2, ⟨k3, k4, k5⟩, k6, k7, k8⟩ := hSw; go_simp; try (with_reducible rfl))
      ((try simp only); (try simp only [List.getElem_toArray]); (try simp only [List.getElem_cons_succ]); (try simp only [List.getElem_cons_zero]); (try simp only [Act.put]); (try simp only [List.setIfInBounds_toArray]); (try simp only [List.set_cons_succ]); (try simp only [List.set_cons_zero]))
      refine wpAnyH_take (i := 3) (v := ?_) rfl (by kernel_rfl) (by kernel_rfl) (by kernel_rfl) (fun _ _ _ h => h) (Or.inl ⟨by rfl, ?_⟩) hHeld ?_
      case refine_2 => (intro w hSw; (try dsimp only at hSw); obtain ⟨k1, k2, ⟨k3, k4, k5⟩, k6, k7, k8⟩ := hSw; go_simp; try (with_reducible rfl))
      ((try simp only); (try simp only [List.getElem_toArray]); (try simp only [List.getElem_cons_succ]); (try simp only [List.getElem_cons_zero]); (try simp only [Act.put]); (try simp only [List.setIfInBounds_toArray]); (try simp only [List.set_cons_succ]); (try simp only [List.set_cons_zero]))
      refine wpAnyH_take (i := 4) (v := ?_) rfl (by kernel_rfl) (by kernel_rfl) (by kernel_rfl) (fun _ _ _ h => h) (Or.inl ⟨by rfl, ?_⟩) hHeld ?_
      case refine_2 => (intro w hSw; (try dsimp only at hSw); obtain ⟨k1, k2, ⟨k3, k4, k5⟩, k6, k7, k8⟩ := hSw; go_simp; try (with_reducible rfl))
      ((try simp only); (try simp only [List.getElem_toArray]); (try simp only [List.getElem_cons_succ]); (try simp only [List.getElem_cons_zero]); (try simp only [Act.put]); (try simp only [List.setIfInBounds_toArray]); (try simp only [List.set_cons_succ]); (try simp only [List.set_cons_zero]))
      refine wpAnyH_take (i := 5) (v := ?_) rfl (by kernel_rfl) (by kernel_rfl) (by kernel_rfl) (fun _ _ _ h => h) (Or.inl ⟨by rfl, ?_⟩) hHeld ?_
      case refine_2 => (intro w hSw; (try dsimp only at hSw); obtain ⟨k1, k2, ⟨k3, k4, k5⟩, k6, k7, k8⟩ := hSw; go_simp; try (with_reducible rfl))
      ((try simp only); (try simp only [List.getElem_toArray]); (try simp only [List.getElem_cons_succ]); (try simp only [List.getElem_cons_zero]); (try simp only [Act.put]); (try simp only [List.setIfInBounds_toArray]); (try simp only [List.set_cons_succ]); (try simp only [List.set_cons_zero]))
      refine wpAnyH_take (i := 6) (v := ?_) rfl (by kernel_rfl) (by kernel_rfl) (by kernel_rfl) (fun _ _ _ h => h) (Or.inl ⟨by rfl, ?_⟩) hHeld ?_
      case refine_2 => (intro w hSw; (try dsimp only at hSw); obtain ⟨k1, k2, ⟨k3, k4, k5⟩, k6, k7, k8⟩ := hSw; go_simp; try (with_reducible rfl))
      ((try simp only); (try simp only [List.getElem_toArray]); (try simp only [List.getElem_cons_succ]); (try simp only [List.getElem_cons_zero]); (try simp only [Act.put]); (try simp only [List.setIfInBounds_toArray]); (try simp only [List.set_cons_succ]); (try simp only [List.set_cons_zero]))
      refine wpAnyH_take (i := 7) (v := ?_) rfl (by kernel_rfl) (by kernel_rfl) (by kernel_rfl) (fun _ _ _ h => h) (Or.inl ⟨by rfl, ?_⟩) hHeld ?_
      case refine_2 => (intro w hSw; (try dsimp only at hSw); obtain ⟨k1, k2, ⟨k3, k4, k5⟩, k6, k7, k8⟩ := hSw; go_simp; try (with_reducible rfl))
      ((try simp only); (try simp only [List.getElem_toArray]); (try simp only [List.getElem_cons_succ]); (try simp only [List.getElem_cons_zero]); (try simp only [Act.put]); (try simp only [List.setIfInBounds_toArray]); (try simp only [List.set_cons_succ]); (try simp only [List.set_cons_zero]))
      refine wpAnyH_take (i := 8) (v := ?_) rfl (by kernel_rfl) (by kernel_rfl) (by kernel_rfl) (fun _ _ _ h => h) (Or.inl ⟨by rfl, ?_⟩) hHeld ?_
      case refine_2 => (intro w hSw; (try dsimp only at hSw); obtain ⟨k1, k2, ⟨k3, k4, k5⟩, k6, k7, k8⟩ := hSw; go_simp; try (with_reducible rfl))
      ((try simp only); (try simp only [List.getElem_toArray]); (try simp only [List.getElem_cons_succ]); (try simp only [List.getElem_cons_zero]); (try simp only [Act.put]); (try simp only [List.setIfInBounds_toArray]); (try simp only [List.set_cons_succ]); (try simp only [List.set_cons_zero]))
      refine wpAnyH_take (i := 9) (v := ?_) rfl (by kernel_rfl) (by kernel_rfl) (by kernel_rfl) (fun _ _ _ h => h) (Or.inl ⟨by rfl, ?_⟩) hHeld ?_
      case refine_2 => (intro w hSw; (try dsimp only at hSw); obtain ⟨k1, k2, ⟨k3, k4, k5⟩, k6, k7, k8⟩ := hSw; go_simp; try (with_reducible rfl))
      ((try simp only); (try simp only [List.getElem_toArray]); (try simp only [List.getElem_cons_succ]); (try simp only [List.getElem_cons_zero]); (try simp only [Act.put]); (try simp only [List.setIfInBounds_toArray]); (try simp only [List.set_cons_succ]); (try simp only [List.set_cons_zero]))
      refine wpAnyH_take (i := 10) (v := .bool (!(s == t))) rfl (by kernel_rfl) (by kernel_rfl) (by kernel_rfl) (fun _ _ _ h => h) (Or.inl ⟨by rfl, fun w _ => exec_ne_snap _ _ _ rfl s t rfl rfl w⟩) hHeld ?_
      ((try simp only); (try simp only [List.getElem_toArray]); (try simp only [List.getElem_cons_succ]); (try simp only [List.getElem_cons_zero]); (try simp only [Act.put]); (try simp only [List.setIfInBounds_toArray]); (try simp only [List.set_cons_succ]); (try simp only [List.set_cons_zero]))
      refine wpAnyH_done (by kernel_rfl) ?_ _
      refine NoPanic.normal ?_
      by_cases hst : s = t
      · have e : (s == t) = true := by simpa using hst
        rw [e]
        go_wp2
        go_round
        case rel => exact ⟨k + 1, n + 1, (show k + 1 ≤ N from hlt), (by rw [wrap_step k N hlt HMX.out]; rfl), rfl, HS.out hst⟩
        case measure => (rw [wrap_step k N hlt HMX.out]; clear HMX; simp [intOf]; omega)
      · have e : (s == t) = false := by simpa using hst
        rw [e]
        go_wp2
        go_ret
        exact ⟨by rw [HD.out, decide_eq_false (HNE.out hst)]; rfl, below_drewN (below_drewN B0 n) 1⟩
    · have e : k = N := by omega
      subst e
      have kA : (W.drewN n).cell? ⟨w.heap.size, 4, none⟩ = some (.slice aa k ca) := KA
      go_wp2
      go_ret
      have e2 : l = m := by
        have := HT.out
        rw [List.take_of_length_le (by have := HN1.out; omega), List.take_of_length_le (by have := HN2.out; omega)] at this
        exact this
      exact ⟨by rw [HD.out, decide_eq_true e2]; rfl, below_drewN B0 n⟩
end Go.Proofs.Ytnpohjbhfoebcaa
