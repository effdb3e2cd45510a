/- What each call on the landed device comes to, continued: New, the count of calls, Flush. -/
import Derived.Test.YtmemhckkfhlnmaaDevOps
import Derived.StillTailTactics
namespace Go.Proofs.Ytmemhckkfhlnmaa
set_option linter.unusedVariables false
open Go.RowKit
attribute [local go_sem ↓] Go.wp_at_zero Go.wp_at_succ

def newR (s : Nat) : DR := ⟨s, s + 1, .slice none 0 0, 0, 0, 0, 0, 0, fun _ => none, fun _ => none⟩
def newW (w : World) (b : Int) : World := ((w.alloc (.map #[] 0)).alloc (.map #[] 0)).alloc (.cells #[.int .i64 b, .map (some w.heap.size), .map (some (w.heap.size + 1)), .slice none 0 0, .int .i64 0, .bool false, .int .i64 0, .int .u64 0, .int .i64 0, .int .i64 0] 60)
theorem new_is (w : World) (n b : Int) (hb : b = (DS.new n).blocks) : Dev (newW w b) (w.heap.size + 2) (DS.new n) (newR w.heap.size) (fun _ => False) ∧ Below w.heap.size w (newW w b) := by
  subst hb
  have hs : (newW w (DS.new n).blocks).heap.size = w.heap.size + 3 := by simp [newW]
  refine ⟨?_, ((((Below.refl _ _).alloc (Nat.le_refl _) _).alloc (by simp) _).alloc (by simp; omega) _)⟩
  exact {
    ok := DS.new_ok n
    blk := by
      have h1 := heap_alloc_new ((w.alloc (.map #[] 0)).alloc (.map #[] 0)) (.cells (devCells (DS.new n) (newR w.heap.size)) 60)
      have h2 : ((w.alloc (.map #[] 0)).alloc (.map #[] 0)).heap.size = w.heap.size + 2 := by simp
      rw [h2] at h1
      exact h1
    mf := by
      have := MapV.made w
      refine this.kept ?_
      unfold newW
      rw [Below.heap_alloc _ _ _ (by simp; omega), Below.heap_alloc _ _ _ (by simp)]
    ml := by
      have := MapV.made (w.alloc (.map #[] 0))
      have e : (w.alloc (.map #[] 0)).heap.size = w.heap.size + 1 := by simp
      rw [e] at this
      refine this.kept ?_
      unfold newW
      rw [Below.heap_alloc _ _ _ (by simp)]
    row := World.ownsRow_nil _ _ _ _
    arm := fun h => absurd rfl h
    rm := ⟨by show (0 : Int) ≤ 0; omega, by show (0 : Int) ≤ 18446744073709551615; omega⟩
    rt := ⟨by show -9223372036854775808 ≤ (0 : Int); omega, by show (0 : Int) ≤ 9223372036854775807; omega⟩
    ry := ⟨by show -9223372036854775808 ≤ (0 : Int); omega, by show (0 : Int) ≤ 9223372036854775807; omega⟩
    ra := by show (0 : Int) ≤ 9223372036854775807; omega
    cf := by show (0 : Int) + 0 ≤ 0; omega
    cl := by show (0 : Int) ≤ 0; omega
    inL := fun k => ⟨fun e => (by cases e), fun e => (by cases e)⟩
    atL := fun k v e => by cases e
    atF := fun k v e => by cases e
    noF := fun k _ => by simp only [DS.new]
    inB := fun k e => by cases e
    pf := by simp [newR]
    pl := by simp [newR]
    fl := by simp [newR]
    po := fun k e => by cases e
    tt := fun k e => e.elim }
set_option maxHeartbeats 400000 in
theorem new_calls (w : World) (n : Int) (hn : I64 n) : Calls Try.prog 10 #[.int .i64 n] w fun e w' => e = .returned (.pointer (some ⟨w.heap.size + 2, 0, none⟩)) ∧ Dev w' (w.heap.size + 2) (DS.new n) (newR w.heap.size) (fun _ => False) ∧ Below w.heap.size w w' := by
  have R := new_is w n
  unfold newW at R
  have e : (DS.new n).blocks = max (min n 4294967296) 1 := rfl
  rw [e] at R
  have hmm := @run_makeMap Try.prog
  clear e hn
  go_enter Try.func10, Try.ntmps10
  go_wp2
  all_goals
    go_ret
    refine ⟨rfl, R _ (by omega)⟩

/-- A call that goes on, in one form for every device that is not at its last call. -/
theorem DS.tick_goes {D : DS} (h : D.Ok) (hd : D.down = false) (ha : D.armed ≠ 1) : D.tick = ({ D with calls := D.calls + 1, armed := max (D.armed - 1) 0 }, true) := by
  unfold DS.tick
  rw [if_neg (by rw [hd]; simp)]
  by_cases h0 : D.armed = 0
  · rw [if_pos h0]
    have : max (D.armed - 1) 0 = D.armed := by omega
    rw [this]
  · rw [if_neg h0, if_neg ha]
    have := h.a0
    have : max (D.armed - 1) 0 = D.armed - 1 := by omega
    rw [this]
set_option maxHeartbeats 1000000 in
theorem tick_calls (w : World) (p : Nat) (D : DS) (r : DR) (T : Nat → Prop) (h : Dev w p D r T) (hcl : D.calls ≤ 999999) :
    Calls Try.prog 40 #[.pointer (some ⟨p, 0, none⟩)] w fun e w' => e = .returned (.bool D.tick.2) ∧ DGo p w r T D.tick.1 w' := by
  obtain ⟨c0, c1, c2, c3, c4, c5, c6, c7, c8, c9⟩ := cell10 h.blk
  cases hd : D.down with
  | true =>
    rw [hd] at c5
    have E : Hid (D.tick = (D, false)) := by show _ = _; unfold DS.tick; rw [if_pos hd]
    have R : DGo p w r T D w := ⟨r, T, h, Fr.refl _ _, fun k hk => .inl hk, fun k hk => .inl hk⟩
    clear h hd
    go_enter Try.func40, Try.ntmps40
    go_wp2
    go_ret
    rw [E.out]
    exact ⟨rfl, R⟩
  | false =>
    rw [hd] at c5
    have hc0 := h.ok.c0
    have ha0 := h.ok.a0
    have ha1 := h.ra
    have f4 := free10 h.blk 4
    have f6 := free10 h.blk 6
    by_cases ha : D.armed = 1
    · rw [ha] at c6
      have hok : ({ D with calls := D.calls + 1 } : DS).Ok := ⟨h.ok.b1, h.ok.b2, h.ok.lf, h.ok.ln, h.ok.still, h.ok.once, h.ok.a0, by simp only; omega, by have := h.ok.lc; simp only; omega⟩
      obtain ⟨m1, m2, m3⟩ := h.arm (by omega)
      have E : Hid (D.tick = (({ D with calls := D.calls + 1 } : DS).crash r.m r.t r.y, false)) := by
        show _ = _
        unfold DS.tick
        rw [if_neg (by rw [hd]; simp), if_neg (by omega), if_pos ha, m1, m2, m3]
      obtain ⟨r1, T1, g1, g2, g3, g4⟩ := h.turn (w' := w.setCell ⟨p, 4, none⟩ (.int .i64 (D.calls + 1))) { D with calls := D.calls + 1 } r.m r.t r.y (by simp [World.setCell, Array.getElem?_modify, h.blk, devCells]) ((OnlyP.refl _ _).setCell _ _) hok rfl rfl rfl rfl h.arm h.rm h.rt h.ry h.ra (by simp only; omega)
      have hC := crash_calls (w.setCell ⟨p, 4, none⟩ (.int .i64 (D.calls + 1))).drew p _ r1 T1 r.m r.t r.y (g1.kept fun _ _ => rfl) (by simp only; omega) h.rm h.rt h.ry
      have hb' : (w.setCell ⟨p, 4, none⟩ (.int .i64 (D.calls + 1))).heap[p]? = some (.cells (devCells { D with calls := D.calls + 1 } r) 60 (0, 0)) := by simp [World.setCell, Array.getElem?_modify, h.blk, devCells]
      have d1 := (cell10 hb').2.2.2.2.2.2.2
      clear h hd hb'
      go_enter Try.func40, Try.ntmps40
      go_wp2
      obtain ⟨d7, d8, d9⟩ := d1
      generalize hW : w.setCell ⟨p, 4, none⟩ (.int .i64 (D.calls + 1)) = W at *
      have d7' : ({ heap := W.heap, tape := W.tape, drawn := W.drawn + 1, os := W.os, output := W.output } : World).cell? ⟨p, 7, none⟩ = some (.int .u64 r.m) := d7
      have d8' : ({ heap := W.heap, tape := W.tape, drawn := W.drawn + 1, os := W.os, output := W.output } : World).cell? ⟨p, 8, none⟩ = some (.int .i64 r.t) := d8
      have d9' : ({ heap := W.heap, tape := W.tape, drawn := W.drawn + 1, os := W.os, output := W.output } : World).cell? ⟨p, 9, none⟩ = some (.int .i64 r.y) := d9
      clear m1 m2 m3
      go_still_tail 16, (by kernel_rfl)
      go_wp2_with (go_at_call 16; refine hC.mono ?_; rintro e w2 ⟨rfl, hg⟩)
      go_ret
      rw [E.out]
      exact ⟨rfl, DGo.trans (w1 := W.drew) ⟨g2.os, g2.tape, g2.output, g2.size, g2.block⟩ g3 g4 hg⟩
    · have hne : (D.armed == 1) = false := by simp [ha]
      have E : Hid (D.tick = ({ D with calls := D.calls + 1, armed := max (D.armed - 1) 0 }, true)) := DS.tick_goes h.ok hd ha
      have hok := h.ok.tick
      rw [DS.tick_goes h.ok hd ha] at hok
      have R : ∀ a, a = max (D.armed - 1) 0 → DGo p w r T { D with calls := D.calls + 1, armed := max (D.armed - 1) 0 } ((w.setCell ⟨p, 4, none⟩ (.int .i64 (D.calls + 1))).setCell ⟨p, 6, none⟩ (.int .i64 a)) := fun a e => by
        subst e
        exact h.turn _ r.m r.t r.y (by simp [World.setCell, Array.getElem?_modify, h.blk, devCells]) (((OnlyP.refl _ _).setCell _ _).setCell _ _) hok rfl rfl rfl rfl (fun h0 => h.arm (fun e => h0 (by simp only [e]; omega))) h.rm h.rt h.ry (by simp only; omega) (by simp only; omega)
      clear h hd hok
      go_enter Try.func40, Try.ntmps40
      go_wp2
      all_goals
        go_ret
        rw [E.out]
        exact ⟨rfl, R _ (by omega)⟩
set_option maxHeartbeats 1000000 in
theorem tick_true (w : World) (p : Nat) (D : DS) (r : DR) (T : Nat → Prop) (h : Dev w p D r T) (hcl : D.calls ≤ 999999) (hb : D.tick.2 = true) :
    Calls Try.prog 40 #[.pointer (some ⟨p, 0, none⟩)] w fun e w' => e = .returned (.bool true) ∧ Dev w' p D.tick.1 r T ∧ OnlyP p w w' := by
  obtain ⟨c0, c1, c2, c3, c4, c5, c6, c7, c8, c9⟩ := cell10 h.blk
  have hd : D.down = false := by
    cases hd : D.down with
    | false => rfl
    | true => unfold DS.tick at hb; rw [if_pos hd] at hb; cases hb
  have ha : D.armed ≠ 1 := fun ha => by
    unfold DS.tick at hb
    rw [if_neg (by rw [hd]; simp), if_neg (by omega), if_pos ha] at hb
    cases hb
  rw [hd] at c5
  have hc0 := h.ok.c0
  have ha0 := h.ok.a0
  have ha1 := h.ra
  have f4 := free10 h.blk 4
  have f6 := free10 h.blk 6
  have hne : (D.armed == 1) = false := by simp [ha]
  have E : Hid (D.tick = ({ D with calls := D.calls + 1, armed := max (D.armed - 1) 0 }, true)) := DS.tick_goes h.ok hd ha
  have hok := h.ok.tick
  rw [DS.tick_goes h.ok hd ha] at hok
  have R : ∀ a, a = max (D.armed - 1) 0 → Dev ((w.setCell ⟨p, 4, none⟩ (.int .i64 (D.calls + 1))).setCell ⟨p, 6, none⟩ (.int .i64 a)) p { D with calls := D.calls + 1, armed := max (D.armed - 1) 0 } r T ∧ OnlyP p w ((w.setCell ⟨p, 4, none⟩ (.int .i64 (D.calls + 1))).setCell ⟨p, 6, none⟩ (.int .i64 a)) := fun a e => by
    subst e
    have ho : OnlyP p w ((w.setCell ⟨p, 4, none⟩ (.int .i64 (D.calls + 1))).setCell ⟨p, 6, none⟩ (.int .i64 (max (D.armed - 1) 0))) := ((OnlyP.refl _ _).setCell _ _).setCell _ _
    exact ⟨h.turn0 _ r.m r.t r.y (by simp [World.setCell, Array.getElem?_modify, h.blk, devCells]) ho hok rfl rfl rfl rfl (fun h0 => h.arm (fun e => h0 (by simp only [e]; omega))) h.rm h.rt h.ry (by simp only; omega) (by simp only; omega), ho⟩
  clear h hd hok hb
  go_enter Try.func40, Try.ntmps40
  go_wp2
  all_goals
    go_ret
    rw [E.out]
    exact ⟨rfl, R _ (by omega)⟩
end Go.Proofs.Ytmemhckkfhlnmaa
