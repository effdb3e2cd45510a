/- One step on the landed refs and on the document's. -/
import Derived.Test.YtpgepejleklpfaaRpG
namespace Go.Proofs.Ytpgepejleklpfaa
set_option linter.unusedVariables false
open Go.RowKit
attribute [local go_sem ↓] Go.wp_at_zero Go.wp_at_succ

/-- A step, as plain data. -/
def RfS.step (S : RfS) (kd n : Int) : RfS := if kd = 1 then S.inc n else if kd = 2 then S.dec n else if kd = 3 then S.mark n else S.take
theorem cell_two {w : World} {b : Nat} {x y : Value} {t : TypeId} (h : w.heap[b]? = some (.cells #[x, y] t (0, 0))) : w.cell? ⟨b, 0, none⟩ = some x ∧ w.cell? ⟨b, 1, none⟩ = some y := cells2 h
theorem pgo_from {w w1 w2 : World} {p b q B K : Nat} {lv : Value} {S' : RfS} (hb : Below w.heap.size w w1) (hB : B ≤ w.heap.size) (g : PGo w1 p b q lv B K S' w2) : PGo w p b q lv B K S' w2 := by
  obtain ⟨lv', h1, h2, h3, h4⟩ := g
  have hs := hb.size
  exact ⟨lv', h1, fun k hk => by rcases h2 k hk with e | e; exact .inl e; exact .inr (by omega), (hb.mono hB).trans h3, fun k hk k1 k2 k3 => (h4 k (by omega) k1 k2 k3).trans (hb.block k hk)⟩
theorem box_kept {w2 w3 : World} {q bx : Nat} {lv : Value} {B' : Int} {L' : PL} {B : Nat} {u : Value} (o : w2.cell? ⟨bx, 1, none⟩ = some u) (g : DGo w2 q lv B' L' B w3) (h1 : bx < w2.heap.size) (h2 : bx ≠ q) : w3.cell? ⟨bx, 1, none⟩ = some u := by
  obtain ⟨_, _, t3, _⟩ := g
  exact (World.cell?_of_block (t3.block bx h1 h2 (by simp))).trans o
set_option maxHeartbeats 4000000 in
set_option maxRecDepth 100000 in
theorem does_calls (w : World) (p b q : Nat) (lv : Value) (B K : Nat) (S : RfS) (kd n : Int) (h0 : Pr2 w p b q lv B K S) (hK : K ≤ 900) (hn : I64 n) : Calls Try.prog 13 #[.pointer (some ⟨p, 0, none⟩), .pointer (some ⟨q, 0, none⟩), .agg #[.int .i64 kd, .int .i64 n]] w fun e w' => e = .returned (.bool true) ∧ PGo w p b q lv B K (S.step kd n) w' := by
  have hbox : Below w.heap.size w (w.alloc (.cells #[.int .i64 kd, .int .i64 n] 31)) := (Below.refl _ w).alloc (Nat.le_refl _) _
  have h : Pr2 (w.alloc (.cells #[.int .i64 kd, .int .i64 n] 31)) p b q lv B K S := h0.below hbox (Nat.le_refl _)
  obtain ⟨o0, o1⟩ := cells2 (heap_alloc_new w (.cells #[.int .i64 kd, .int .i64 n] 31))
  have hl0 := h0.r.lt
  have hq0 := h0.d.lt
  have HFR : Hid (∀ w2, PGo (w.alloc (.cells #[.int .i64 kd, .int .i64 n] 31)) p b q lv B K (S.step kd n) w2 → PGo w p b q lv B K (S.step kd n) w2) := fun w2 g => pgo_from hbox h0.size g
  have hL : S.L.length ≤ 900 := by have := h0.len; omega
  have HP : Hid (Pr2 (w.alloc (.cells #[.int .i64 kd, .int .i64 n] 31)) p b q lv B K S) := h
  have HOK : Hid (S.Ok K) := h.r.rf.ok
  have HSZ : Hid (B ≤ (w.alloc (.cells #[.int .i64 kd, .int .i64 n] 31)).heap.size) := h.size
  have HBX : Hid (∀ w2, Touch p (some b) (w.alloc (.cells #[.int .i64 kd, .int .i64 n] 31)) w2 → w2.cell? ⟨w.heap.size, 1, none⟩ = some (.int .i64 n)) := fun w2 t => (World.cell?_of_block (t.block w.heap.size (by simp) (by omega) (fun e => by cases e; omega))).trans o1
  have HS1 : Hid (w.heap.size < (w.alloc (.cells #[.int .i64 kd, .int .i64 n] 31)).heap.size) := (show _ < _ by simp)
  clear h0 h hbox
  go_enter Try.func13, Try.ntmps13
  go_upto_region 2 with fail
  have HX : Hid (w.heap.size = w.heap.size) := rfl
  generalize w.alloc (.cells #[.int .i64 kd, .int .i64 n] 31) = w1 at *
  generalize hbx : w.heap.size = bx at *
  clear HX
  by_cases k1 : kd = 1
  · subst k1
    have HE : Hid (S.step 1 n = S.inc n) := rfl
    have o1d : w1.drew.cell? ⟨bx, 1, none⟩ = some (.int .i64 n) := o1
    have HPd : Hid (Pr2 w1.drew p b q lv B K S) := HP.out.kept fun _ _ => rfl
    go_wp2_with fail
    go_region_held3 (fun w' => w'.cell? ⟨bx, 1, none⟩ = some (.int .i64 n)) (first | exact o1d | exact o2)
      (first
        | (go_at_call 23; refine (incQ _ p _ _ _ _ n HPd.out.r hn (by omega)).mono ?_; rintro e w2 ⟨rfl, g2⟩; have HG2 : Hid (QGo w1.drew p b B K (S.inc n) w2) := g2; have o2 := HBX.out w2 ⟨g2.2.2.os, g2.2.2.tape, g2.2.2.output, g2.2.2.size, g2.2.2.block⟩; have HD2 : Hid (RD w2 q lv S.blocks S.L B) := HPd.out.second g2; have hs2 : B ≤ w2.heap.size := g2.1.size; clear g2)
        | (go_at_call 25; refine (rinc_calls _ q lv S K B n HD2.out HOK.out (by omega) (by omega) hs2).mono ?_; rintro e w3 ⟨rfl, g3⟩; have HG3 : Hid (DGo w2 q lv S.blocks (S.inc n).L B w3) := g3; have o2 : w3.cell? ⟨bx, 1, none⟩ = some (.int .i64 n) := box_kept o2 g3 (by have := HG2.out.2.2.size; have := HS1.out; have e9 : w1.drew.heap.size = w1.heap.size := rfl; omega) (by omega); clear g3))
    go_wp2_with fail
    go_ret
    refine ⟨by simp, HFR.out _ ?_⟩
    have := pgo_of (w := w1.drew) HPd.out HG2.out (RfS.inc_blocks S n) HG3.out
    rw [HE.out]
    exact pgo_from (Below.refl _ w1).drew HSZ.out this
  · by_cases k2 : kd = 2
    · subst k2
      have HE : Hid (S.step 2 n = S.dec n) := rfl
      go_wp2_with fail
      refine (decQ _ p _ _ _ _ n HP.out.r hn (by omega)).mono ?_
      rintro e w2 ⟨rfl, g2⟩
      have HG2 : Hid (QGo w1 p b B K (S.dec n) w2) := g2
      have o2 := HBX.out w2 g2.2.2
      have HD2 : Hid (RD w2 q lv S.blocks S.L B) := HP.out.second g2
      have hs2 : B ≤ w2.heap.size := g2.1.size
      clear g2
      go_wp2_with fail
      refine (rdec_calls _ q lv S K B n HD2.out HOK.out (by omega) (by omega) hs2).mono ?_
      rintro e w3 ⟨rfl, g3⟩
      have HG3 : Hid (DGo w2 q lv S.blocks (S.dec n).L B w3) := g3
      clear g3
      go_wp2_with fail
      go_ret
      refine ⟨by simp, HFR.out _ ?_⟩
      rw [HE.out]
      exact pgo_of (w := w1) HP.out HG2.out (RfS.dec_blocks S n) HG3.out
    · by_cases k3 : kd = 3
      · subst k3
        have HE : Hid (S.step 3 n = S.mark n) := rfl
        go_wp2_with fail
        refine (markQ _ p _ _ _ _ n HP.out.r hn (by omega)).mono ?_
        rintro e w2 ⟨rfl, g2⟩
        have HG2 : Hid (QGo w1 p b B K (S.mark n) w2) := g2
        have o2 := HBX.out w2 g2.2.2
        have HD2 : Hid (RD w2 q lv S.blocks S.L B) := HP.out.second g2
        have hs2 : B ≤ w2.heap.size := g2.1.size
        clear g2
        go_wp2_with fail
        refine (rmark_calls _ q lv S K B n HD2.out HOK.out (by omega) (by omega) hs2).mono ?_
        rintro e w3 ⟨rfl, g3⟩
        have HG3 : Hid (DGo w2 q lv S.blocks (S.mark n).L B w3) := g3
        clear g3
        go_wp2_with fail
        go_ret
        refine ⟨by simp, HFR.out _ ?_⟩
        rw [HE.out]
        exact pgo_of (w := w1) HP.out HG2.out (RfS.mark_blocks S n) HG3.out
      · have HE : Hid (S.step kd n = S.take) := by show _ = _; unfold RfS.step; rw [if_neg k1, if_neg k2, if_neg k3]
        have n1 : (kd == 1) = false := by simpa using k1
        have n2 : (kd == 2) = false := by simpa using k2
        have n3 : (kd == 3) = false := by simpa using k3
        clear k1 k2 k3
        go_wp2_with fail
        refine (takeQ _ p _ _ _ _ HP.out.r (by omega)).mono ?_
        rintro e w2 ⟨rfl, g2⟩
        have HG2 : Hid (QGo w1 p b B K S.take w2) := g2
        have o2 := HBX.out w2 g2.2.2
        have HD2 : Hid (RD w2 q lv S.blocks S.L B) := HP.out.second g2
        have hs2 : B ≤ w2.heap.size := g2.1.size
        clear g2
        go_wp2_with fail
        refine (rtake_calls _ q lv S K B HD2.out HOK.out (by omega) hs2).mono ?_
        rintro e w3 ⟨rfl, g3⟩
        have HG3 : Hid (DGo w2 q lv S.blocks S.take.L B w3) := g3
        clear g3
        go_wp2_with fail
        go_ret
        refine ⟨by simp, HFR.out _ ?_⟩
        rw [HE.out]
        exact pgo_of (w := w1) HP.out HG2.out rfl HG3.out
end Go.Proofs.Ytpgepejleklpfaa
