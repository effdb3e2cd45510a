/- The landed refs and the document's, side by side: one step on both; do both tell the same? -/
import Derived.Test.YtpgepejleklpfaaRpF
namespace Go.Proofs.Ytpgepejleklpfaa
set_option linter.unusedVariables false
open Go.RowKit
attribute [local go_sem ↓] Go.wp_at_zero Go.wp_at_succ

structure Pr2 (w : World) (p b q : Nat) (lv : Value) (B K : Nat) (S : RfS) : Prop where
  r : RQ w p b B K S
  d : RD w q lv S.blocks S.L B
  qp : q ≠ p
  qb : q ≠ b
  lf : ∀ k, lv.ownBlock = some k → k ≠ p ∧ k ≠ b
  bq : B ≤ q
theorem Pr2.len {w : World} {p b q B K : Nat} {lv : Value} {S : RfS} (h : Pr2 w p b q lv B K S) : S.L.length ≤ K := h.r.rf.mp.size
theorem Pr2.size {w : World} {p b q B K : Nat} {lv : Value} {S : RfS} (h : Pr2 w p b q lv B K S) : B ≤ w.heap.size := h.r.size
theorem Pr2.kept {w w' : World} {p b q B K : Nat} {lv : Value} {S : RfS} (h : Pr2 w p b q lv B K S) (hk : ∀ k, k = p ∨ k = b ∨ k = q ∨ lv.ownBlock = some k → w'.heap[k]? = w.heap[k]?) : Pr2 w' p b q lv B K S :=
  ⟨⟨h.r.rf.kept (hk p (.inl rfl)) (hk b (.inr (.inl rfl))), h.r.bp, h.r.bb⟩, h.d.kept (hk q (.inr (.inr (.inl rfl)))) (fun k e => hk k (.inr (.inr (.inr e)))), h.qp, h.qb, h.lf, h.bq⟩
theorem Pr2.lts {w : World} {p b q B K : Nat} {lv : Value} {S : RfS} (h : Pr2 w p b q lv B K S) {k : Nat} (hk : k = p ∨ k = b ∨ k = q ∨ lv.ownBlock = some k) : k < w.heap.size := by
  rcases hk with e | e | e | e
  · rw [e]; exact h.r.lt.1
  · rw [e]; exact h.r.lt.2
  · rw [e]; exact h.d.lt
  · exact (h.d.row.lt k e).2
theorem Pr2.below {w w' : World} {p b q B K C : Nat} {lv : Value} {S : RfS} (h : Pr2 w p b q lv B K S) (hb : Below C w w') (hC : w.heap.size ≤ C) : Pr2 w' p b q lv B K S := h.kept fun k hk => hb.block k (by have := h.lts hk; omega)
/-- What a step on both comes to. -/
def PGo (w : World) (p b q : Nat) (lv : Value) (B K : Nat) (S' : RfS) (w' : World) : Prop :=
  ∃ lv', Pr2 w' p b q lv' B (K + 1) S' ∧ (∀ k, lv'.ownBlock = some k → lv.ownBlock = some k ∨ w.heap.size ≤ k) ∧ Below B w w' ∧ ∀ k, k < w.heap.size → k ≠ p → k ≠ b → k ≠ q → w'.heap[k]? = w.heap[k]?
theorem pgo_of {w w1 w2 : World} {p b q B K : Nat} {lv : Value} {S S' : RfS} (h : Pr2 w p b q lv B K S) (g1 : QGo w p b B K S' w1) (hB : S'.blocks = S.blocks) (g2 : DGo w1 q lv S.blocks S'.L B w2) : PGo w p b q lv B K S' w2 := by
  obtain ⟨r1, b1, t1⟩ := g1
  obtain ⟨lv', d2, t2, f2⟩ := g2
  have hs := t1.size
  have hlt := h.r.lt
  have hq := h.d.lt
  refine ⟨lv', ⟨⟨r1.rf.kept (t2.block p (by omega) h.qp.symm (by simp)) (t2.block b (by omega) h.qb.symm (by simp)), r1.bp, r1.bb⟩, by rw [hB]; exact d2, h.qp, h.qb, fun k hk => ?_, h.bq⟩, fun k hk => ?_, b1.trans (t2.below (by have := r1.size; omega) h.bq (by simp)), fun k hk k1 k2 k3 => ?_⟩
  · rcases f2 k hk with e | e
    · exact h.lf k e
    · exact ⟨by omega, by omega⟩
  · rcases f2 k hk with e | e
    · exact .inl e
    · exact .inr (by omega)
  · exact (t2.block k (by omega) k3 (by simp)).trans (t1.block k hk k1 (fun e => k2 (by cases e; rfl)))
theorem Pr2.second {w w1 : World} {p b q B K : Nat} {lv : Value} {S S' : RfS} (h : Pr2 w p b q lv B K S) (g1 : QGo w p b B K S' w1) : RD w1 q lv S.blocks S.L B :=
  h.d.kept (g1.2.2.block q h.d.lt h.qp (fun e => h.qb (by cases e; rfl))) (fun k hk => g1.2.2.block k (h.d.row.lt k hk).2 (h.lf k hk).1 (fun e => (h.lf k hk).2 (by cases e; rfl)))

set_option maxHeartbeats 2000000 in
set_option maxRecDepth 100000 in
theorem lsame_calls (w : World) (p b q : Nat) (lv : Value) (B K : Nat) (S : RfS) (n : Int) (h : Pr2 w p b q lv B K S) (hK : K ≤ 900) (hn : I64 n) : Calls Try.prog 14 #[.pointer (some ⟨p, 0, none⟩), .pointer (some ⟨q, 0, none⟩), .int .i64 n] w fun e w' => e = .returned (.bool true) ∧ Below w.heap.size w w' := by
  have HP : Hid (Pr2 w p b q lv B K S) := h
  have hL : S.L.length ≤ 900 := by have := h.len; omega
  have HOK : Hid (S.Ok K) := h.r.rf.ok
  have HZ : Hid (cnt S.L 1 = 0) := h.r.rf.ok.out (.inl (by omega))
  clear h
  go_enter Try.func14, Try.ntmps14
  go_upto_region 2 with (first
    | (go_at_call 21; refine (usedQ _ p _ _ _ _ HP.out.r (by omega)).mono ?_; rintro e w1 ⟨v1, rfl, i1, b1⟩; have HP1 : Hid (Pr2 w1 p b q lv B K S) := HP.out.below b1 (Nat.le_refl _); have HI1 : Hid (IntsAt w1 v1 S.usedL) := i1.ints; clear i1)
    | (go_at_call 30; refine (rused_calls _ q lv S.blocks S.L B HP1.out.d (by omega)).mono ?_; rintro e w2 ⟨v2, rfl, i2, b2⟩; have HP2 : Hid (Pr2 w2 p b q lv B K S) := HP1.out.below b2 (Nat.le_refl _); have HI2 : Hid (IntsAt w2 v1 S.usedL ∧ IntsAt w2 v2 S.usedL) := ⟨HI1.out.below b2, i2.ints⟩; clear i2)
    | (go_at_call 29; refine (numbers_calls _ v1 v2 S.usedL HI2.out.1 HI2.out.2).mono ?_; rintro e w3 ⟨rfl, n3, rfl⟩))
  have HB2 : Hid (Below w.heap.size w w2) := b1.trans (b2.mono b1.size)
  have HP3 : Hid (Pr2 (w2.drewN n3) p b q lv B K S) := HP2.out.below (below_drewN0 w2 n3) (Nat.le_refl _)
  have HB3 : Hid (Below w.heap.size w (w2.drewN n3)) := below_drewN HB2.out n3
  clear b1 b2 HP1 HP2 HI1 HI2 HB2
  generalize w2.drewN n3 = w3 at *
  go_wp2_with fail
  refine (freeQ _ p _ _ _ _ HP3.out.r (by omega)).mono ?_
  rintro e w4 ⟨rfl, _, b4⟩
  have HP4 : Hid (Pr2 w4 p b q lv B K S) := HP3.out.below b4 (Nat.le_refl _)
  have HB4 : Hid (Below w.heap.size w w4) := HB3.out.trans (b4.mono HB3.out.size)
  clear b4 HP3 HB3
  go_wp2_with fail
  refine (rfree_calls _ q lv S K B HP4.out.d HOK.out (by omega)).mono ?_
  rintro e w5 ⟨rfl, n5, rfl⟩
  have HP5 : Hid (Pr2 (w4.drewN n5) p b q lv B K S) := HP4.out.below (below_drewN0 w4 n5) (Nat.le_refl _)
  have HB5 : Hid (Below w.heap.size w (w4.drewN n5)) := below_drewN HB4.out n5
  clear HP4 HB4
  generalize w4.drewN n5 = w5 at *
  generalize S.free = fr at *
  go_wp2_with fail
  refine (countQ _ p _ _ _ _ n HP5.out.r hn).mono ?_
  rintro e w6 ⟨rfl, rfl⟩
  go_wp2_with fail
  refine (rcount_calls _ q lv S.blocks S.L B n HP5.out.d).mono ?_
  rintro e w7 ⟨rfl, rfl⟩
  generalize cnt S.L n = cn at *
  go_wp2_with fail
  refine (countQ _ p _ _ _ _ 1 HP5.out.r ⟨by omega, by omega⟩).mono ?_
  rintro e w8 ⟨rfl, rfl⟩
  rw [HZ.out]
  obtain ⟨_, c1⟩ := cells2 HP5.out.d.blk
  obtain ⟨la, lc, rfl⟩ := HP5.out.d.form
  obtain ⟨N, hN⟩ : ∃ N, N = S.L.length := ⟨_, rfl⟩
  have HN : Hid (N = S.L.length) := hN
  rw [← hN] at c1 hL
  clear hN
  go_wp2_with fail
  go_loopg [8] N (fun g i wr => ∃ k m : Nat, k + g = N ∧ i = .int .i64 (k : Int) ∧ wr = w8.drewN m)
  case atStart => exact ⟨0, 0, by omega, rfl, rfl⟩
  case round =>
    obtain ⟨k, m, hk, rfl, rfl⟩ := hrel
    have f1 : (w8.drewN m).cell? ⟨q, 1, none⟩ = some (.slice la N lc) := c1
    cases gk with
    | zero =>
      have e : k = N := by omega
      subst e
      go_wp2_with fail
      go_ret
      exact ⟨rfl, below_drewN HB5.out m⟩
    | succ g =>
      have hlt : (k : Int) < (N : Int) := by omega
      have hkl : k < S.L.length := by have := HN.out; omega
      obtain ⟨g1, x1, e1, hx1, a1, a2⟩ := HP5.out.d.at hkl
      have e3 : la = some ⟨g1, 0, none⟩ ∧ lc = x1 := by cases e1; exact ⟨rfl, rfl⟩
      obtain ⟨rfl, rfl⟩ := e3
      rw [← HN.out] at hx1
      have A1 : (w8.drewN m).drew.cell? ⟨g1, k * 2, none⟩ = some (.int .i64 S.L[k].1) := a1
      have A2 : (w8.drewN m).drew.cell? ⟨g1, k * 2 + 1, none⟩ = some (.int .i64 S.L[k].2) := a2
      have A3 : (w8.drewN m).drew.cell? ⟨q, 1, none⟩ = some (.slice (some ⟨g1, 0, none⟩) N lc) := c1
      have hpp : Pr2 (w8.drewN m).drew p b q (.slice (some ⟨g1, 0, none⟩) S.L.length lc) B K S := HP5.out.kept fun _ _ => rfl
      have hin := HOK.out.inB S.L[k] (List.getElem_mem hkl)
      have hb2 := HOK.out.b2
      have hcc := countQ (w8.drewN m).drew p _ _ _ _ S.L[k].1 hpp.r ⟨by omega, by omega⟩
      rw [cnt_mem HOK.out.rise (List.getElem_mem hkl)] at hcc
      generalize S.L[k] = x at *
      clear a1 a2 hpp hin hb2 e1
      go_wp2_with fail
      go_region_held3 (fun w' => w'.cell? ⟨g1, k * 2, none⟩ = some (.int .i64 x.1) ∧ w'.cell? ⟨g1, k * 2 + 1, none⟩ = some (.int .i64 x.2) ∧ w'.cell? ⟨q, 1, none⟩ = some (.slice (some ⟨g1, 0, none⟩) N lc)) (exact ⟨A1, A2, A3⟩)
        (first | (go_at_call 19; refine hcc.mono ?_; rintro e w9 ⟨rfl, rfl⟩))
      go_wp2
      go_roundg g
      case measure => omega
      case rel => exact ⟨k + 1, m + 1, by omega, by go_num, rfl⟩
end Go.Proofs.Ytpgepejleklpfaa
