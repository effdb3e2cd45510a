/- For DevicePlays: do both tell the same of themselves? -/
import Derived.Test.YtmemhckkfhlnmaaPlaysA
namespace Go.Proofs.Ytmemhckkfhlnmaa
set_option linter.unusedVariables false
open Go.RowKit
attribute [local go_sem ↓] Go.wp_at_zero Go.wp_at_succ

set_option maxHeartbeats 2000000 in
set_option maxRecDepth 100000 in
theorem same_calls (w : World) (p q : Nat) (D : DS) (M S : Nat → Prop) (h : Pair w p D q D M S) (hcl : D.calls ≤ 1000000) :
    Calls Try.prog 15 #[.pointer (some ⟨p, 0, none⟩), .pointer (some ⟨q, 0, none⟩)] w fun e w' => e = .returned (.bool true) ∧ Below w.heap.size w w' := by
  obtain ⟨r, T, lv, ov, ns, h1, h2, _⟩ := h.ex
  obtain ⟨c0, c1, c2, c3, c4, _⟩ := cell9 h2.blk
  obtain ⟨oa, oc, rfl⟩ := own_form3 h2.orow
  obtain ⟨la, lc, rfl⟩ := own_form3 h2.lrow
  have HB : Hid (∀ w' : World, w'.heap = w.heap → Calls Try.prog 28 #[.pointer (some ⟨p, 0, none⟩)] w' fun e w'' => e = .returned (.int .i64 D.blocks) ∧ w'' = w') := fun w' e => blocks_calls w' p D r T (h1.kept fun k _ => by rw [e])
  have HU : Hid (∀ w' : World, w'.heap = w.heap → Calls Try.prog 23 #[.pointer (some ⟨p, 0, none⟩)] w' fun e w'' => e = .returned (.bool (!D.down)) ∧ w'' = w') := fun w' e => up_calls w' p D r T (h1.kept fun k _ => by rw [e])
  have HO : Hid (∀ w' : World, w'.heap = w.heap → Calls Try.prog 24 #[.pointer (some ⟨p, 0, none⟩)] w' fun e w'' => e = .returned (.int .i64 (D.loose.length : Int)) ∧ w'' = w') := fun w' e => loose_calls w' p D r T (h1.kept fun k _ => by rw [e])
  have HC : Hid (∀ w' : World, w'.heap = w.heap → Calls Try.prog 29 #[.pointer (some ⟨p, 0, none⟩)] w' fun e w'' => e = .returned (.int .i64 D.calls) ∧ w'' = w') := fun w' e => count_calls w' p D r T (h1.kept fun k _ => by rw [e])
  have HRd : Hid (∀ w1 n, Below w.heap.size w w1 → I64 n → Calls Try.prog 36 #[.pointer (some ⟨p, 0, none⟩), .pointer (some ⟨q, 0, none⟩), .int .i64 n] w1 fun e w' => e = .returned (.bool true) ∧ Below w1.heap.size w1 w') := fun w1 n hb hn => reads_calls w1 p q D M S n (h.below hb (Nat.le_refl _)) hcl hn
  have HL : Hid (∀ w1, Below w.heap.size w w1 → w1.cell? ⟨q, 1, none⟩ = some (.slice la ns.length lc)) := fun w1 hb => (World.cell?_of_block (hb.block q (lt_block h2.blk))).trans c1
  have HN : Hid (∀ w1, Below w.heap.size w w1 → ∀ k (hk : k < ns.length), ∃ g m, la = some ⟨g, 0, none⟩ ∧ w1.cell? ⟨g, k * 3, none⟩ = some (.int .i64 m) ∧ I64 m) := fun w1 hb k hk => by
    obtain ⟨g, c, e⟩ := row_somewhere h2.lrow (by omega)
    cases e
    refine ⟨g, ns[k], rfl, (World.cell?_of_block (hb.block g (h2.lrow.lt g rfl).2)).trans ((h2.lrow.cellAt (k * 3) (by omega)).trans (lcells_at D.fl D.nw ns k hk).1), ?_⟩
    have := h2.inB ns[k] (List.getElem_mem hk)
    have := h1.ok.b2
    exact ⟨by omega, by omega⟩
  have hnl : (ns.length : Int) ≤ 1000000 := by have := h2.ln; omega
  have hd : ((!D.down) == D.down) = false := by cases D.down <;> rfl
  clear h h1 h2
  generalize D.loose.length = OL at *
  generalize ns.length = NL at *
  go_enter Try.func15, Try.ntmps15
  go_wp2_with fail
  go_quiet (first
    | (go_at_call 28; exact Calls.quiet_of_same (HB.out _ rfl))
    | (go_at_call 23; exact Calls.quiet_of_same (HU.out _ rfl))
    | (go_at_call 24; exact Calls.quiet_of_same (HO.out _ rfl))
    | (go_at_call 29; exact Calls.quiet_of_same (HC.out _ rfl)))
  have B0 : Below w.heap.size w (w.drewN nq) := ⟨rfl, rfl, rfl, Nat.le_refl _, fun _ _ => rfl⟩
  generalize w.drewN nq = W0 at *
  clear HB HU HO HC c0 c1 c2 c3 c4
  go_wp2_with fail
  go_loopw [5] (fun i wr => ∃ (k : Int), -1 ≤ k ∧ k ≤ 10 ∧ i = .int .i64 k ∧ Below w.heap.size w wr)
    (fun i _ => (10 - intOf i).toNat)
  case atStart => exact ⟨-1, by omega, by omega, rfl, B0⟩
  case round =>
    obtain ⟨k, hk0, hk1, rfl, hbel⟩ := hrel
    by_cases hk5 : k < 10
    · have hR := HRd.out wr k hbel ⟨by omega, by omega⟩
      go_wp2_with (go_at_call 36; refine hR.mono ?_; rintro e w1 ⟨rfl, b1⟩)
      go_roundw
      case rel => exact ⟨k + 1, by omega, by omega, by go_num, hbel.trans (b1.mono hbel.size)⟩
      case measure => simp [intOf]; omega
    · go_wp2_with fail
      go_loopw [7] (fun i wx => ∃ (j : Nat), j ≤ NL ∧ i = .int .i64 (j : Int) ∧ Below w.heap.size w wx)
        (fun i _ => NL - (intOf i).toNat)
      case atStart => exact ⟨0, Nat.zero_le _, rfl, hbel⟩
      case round =>
        obtain ⟨j, hj, rfl, hbx⟩ := hrel
        have d1 := HL.out _ hbx
        by_cases hj5 : j < NL
        · obtain ⟨g, m, rfl, hcm, hm⟩ := HN.out _ hbx j hj5
          have hji : (j : Int) < (NL : Int) := by omega
          have hR := HRd.out _ m hbx hm
          go_wp2_with (go_at_call 36; refine hR.mono ?_; rintro e w1 ⟨rfl, b1⟩)
          go_roundw
          case rel => exact ⟨j + 1, by omega, by go_num, hbx.trans (b1.mono hbx.size)⟩
          case measure => simp [intOf]; omega
        · have hji : ¬ ((j : Int) < (NL : Int)) := by omega
          go_wp2
          go_ret
          exact ⟨rfl, hbx⟩
end Go.Proofs.Ytmemhckkfhlnmaa
