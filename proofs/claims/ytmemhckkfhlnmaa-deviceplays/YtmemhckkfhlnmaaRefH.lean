/- The document's own device: the count of calls, Flush, Write. -/
import Derived.Test.YtmemhckkfhlnmaaRefG
namespace Go.Proofs.Ytmemhckkfhlnmaa
set_option linter.unusedVariables false
open Go.RowKit
attribute [local go_sem ↓] Go.wp_at_zero Go.wp_at_succ

theorem DS.crash_keeps (D : DS) (m t y : Int) : (D.crash m t y).mask = D.mask ∧ (D.crash m t y).torn = D.torn ∧ (D.crash m t y).bytes = D.bytes := by
  unfold DS.crash
  split <;> exact ⟨rfl, rfl, rfl⟩
theorem RGo.told {q : Nat} {w w' : World} {lv ov : Value} {D' : DS} (h : RGo q w lv ov D' w') : w'.cell? ⟨q, 6, none⟩ = some (.int .u64 D'.mask) ∧ w'.cell? ⟨q, 7, none⟩ = some (.int .i64 D'.torn) ∧ w'.cell? ⟨q, 8, none⟩ = some (.int .i64 D'.bytes) := by
  obtain ⟨lv', ov', ns', h1, _⟩ := h
  exact (cell9 h1.blk).2.2.2.2.2.2
theorem RGo.trans {q : Nat} {w w1 w' : World} {lv ov : Value} {D' : DS} (h1 : Fr (RMine q lv ov) w w1) (h : RGo q w1 lv ov D' w') : RGo q w lv ov D' w' := by
  obtain ⟨lv', ov', ns', g1, g2, g3⟩ := h
  exact ⟨lv', ov', ns', g1, h1.trans g2 fun k hk => .inl hk, fun k hk => by
    rcases g3 k hk with e | e
    · exact .inl e
    · exact .inr (by have := h1.size; omega)⟩
theorem Fr.drew {S : Nat → Prop} {w w' : World} (h : Fr S w w') : Fr S w w'.drew := ⟨h.os, h.tape, h.output, h.size, h.block⟩
set_option maxHeartbeats 1000000 in
theorem rfalls_true (w : World) (q : Nat) (D : DS) (lv ov : Value) (ns : List Int) (h : RD w q D lv ov ns) (hcl : D.calls ≤ 999999) (hb : D.tick.2 = true) :
    Calls Try.prog 46 #[.pointer (some ⟨q, 0, none⟩)] w fun e w' => e = .returned (.bool false) ∧ RD w' q D.tick.1 lv ov ns ∧ OnlyP q w w' := by
  obtain ⟨c0, c1, c2, c3, c4, c5, c6, c7, c8⟩ := cell9 h.blk
  have hd : D.down = false := by
    cases hd : D.down with
    | false => rfl
    | true => unfold DS.tick at hb; rw [if_pos hd] at hb; cases hb
  have ha : D.armed ≠ 1 := fun ha => by
    unfold DS.tick at hb
    rw [if_neg (by rw [hd]; simp), if_neg (by omega), if_pos ha] at hb
    cases hb
  rw [hd] at c3
  have hc0 := h.ok.c0
  have ha0 := h.ok.a0
  have ha1 := h.ra
  have f4 := free9 h.blk 4
  have f5 := free9 h.blk 5
  have E : Hid (D.tick = ({ D with calls := D.calls + 1, armed := max (D.armed - 1) 0 }, true)) := DS.tick_goes h.ok hd ha
  have hok := h.ok.tick
  rw [DS.tick_goes h.ok hd ha] at hok
  by_cases ha2 : D.armed > 0
  · have hne : (D.armed - 1 == 0) = false := by simp; omega
    have R : RD ((w.setCell ⟨q, 4, none⟩ (.int .i64 (D.calls + 1))).setCell ⟨q, 5, none⟩ (.int .i64 (D.armed - 1))) q { D with calls := D.calls + 1, armed := max (D.armed - 1) 0 } lv ov ns ∧ OnlyP q w ((w.setCell ⟨q, 4, none⟩ (.int .i64 (D.calls + 1))).setCell ⟨q, 5, none⟩ (.int .i64 (D.armed - 1))) := by
      have ho : OnlyP q w ((w.setCell ⟨q, 4, none⟩ (.int .i64 (D.calls + 1))).setCell ⟨q, 5, none⟩ (.int .i64 (D.armed - 1))) := ((OnlyP.refl _ _).setCell _ _).setCell _ _
      have e : max (D.armed - 1) 0 = D.armed - 1 := by omega
      exact ⟨h.turn _ (by rw [e]; simp [World.setCell, Array.getElem?_modify, h.blk, refCells]) ho hok rfl rfl rfl rfl h.rm h.rt h.ry (by show max (D.armed - 1) 0 ≤ _; omega) (by show D.calls ≤ D.calls + 1; omega), ho⟩
    clear h hd hok hb
    go_enter Try.func46, Try.ntmps46
    go_wp2
    go_ret
    rw [E.out]
    exact ⟨rfl, R⟩
  · have R : RD (w.setCell ⟨q, 4, none⟩ (.int .i64 (D.calls + 1))) q { D with calls := D.calls + 1, armed := max (D.armed - 1) 0 } lv ov ns ∧ OnlyP q w (w.setCell ⟨q, 4, none⟩ (.int .i64 (D.calls + 1))) := by
      have ho : OnlyP q w (w.setCell ⟨q, 4, none⟩ (.int .i64 (D.calls + 1))) := (OnlyP.refl _ _).setCell _ _
      have e : max (D.armed - 1) 0 = D.armed := by omega
      exact ⟨h.turn _ (by rw [e]; simp [World.setCell, Array.getElem?_modify, h.blk, refCells]) ho hok rfl rfl rfl rfl h.rm h.rt h.ry (by show max (D.armed - 1) 0 ≤ _; omega) (by show D.calls ≤ D.calls + 1; omega), ho⟩
    clear h hd hok hb
    go_enter Try.func46, Try.ntmps46
    go_wp2
    go_ret
    rw [E.out]
    exact ⟨rfl, R⟩
set_option maxHeartbeats 1000000 in
theorem rfalls_false (w : World) (q : Nat) (D : DS) (lv ov : Value) (ns : List Int) (h : RD w q D lv ov ns) (hcl : D.calls ≤ 999999) (hb : D.tick.2 = false) :
    Calls Try.prog 46 #[.pointer (some ⟨q, 0, none⟩)] w fun e w' => e = .returned (.bool true) ∧ RGo q w lv ov D.tick.1 w' := by
  obtain ⟨c0, c1, c2, c3, c4, c5, c6, c7, c8⟩ := cell9 h.blk
  cases hd : D.down with
  | true =>
    rw [hd] at c3
    have E : Hid (D.tick = (D, false)) := by show _ = _; unfold DS.tick; rw [if_pos hd]
    have R : RGo q w lv ov D w := RGo.of h (OnlyP.refl _ _)
    clear h hd hb
    go_enter Try.func46, Try.ntmps46
    go_wp2
    go_ret
    rw [E.out]
    exact ⟨rfl, R⟩
  | false =>
    have ha : D.armed = 1 := by
      unfold DS.tick at hb
      rw [if_neg (by rw [hd]; simp)] at hb
      by_cases h0 : D.armed = 0
      · rw [if_pos h0] at hb; cases hb
      · rw [if_neg h0] at hb
        by_cases h1 : D.armed = 1
        · exact h1
        · rw [if_neg h1] at hb; cases hb
    rw [hd] at c3
    rw [ha] at c5
    have hc0 := h.ok.c0
    have f4 := free9 h.blk 4
    have f5 := free9 h.blk 5
    have hok : ({ D with calls := D.calls + 1, armed := 0 } : DS).Ok := ⟨h.ok.b1, h.ok.b2, h.ok.lf, h.ok.ln, h.ok.still, h.ok.once, Int.le_refl _, by show 0 ≤ D.calls + 1; omega, by have := h.ok.lc; show (D.loose.length : Int) ≤ D.calls + 1; omega⟩
    have E : Hid (D.tick = (({ D with calls := D.calls + 1, armed := 0 } : DS).crash D.mask D.torn D.bytes, false)) := by
      show _ = _
      unfold DS.tick
      rw [if_neg (by rw [hd]; simp), if_neg (by omega), if_pos ha]
      unfold DS.crash
      simp only [hd]
      rfl
    have ho : OnlyP q w ((w.setCell ⟨q, 4, none⟩ (.int .i64 (D.calls + 1))).setCell ⟨q, 5, none⟩ (.int .i64 0)) := ((OnlyP.refl _ _).setCell _ _).setCell _ _
    have R := h.turn (w' := ((w.setCell ⟨q, 4, none⟩ (.int .i64 (D.calls + 1))).setCell ⟨q, 5, none⟩ (.int .i64 0))) { D with calls := D.calls + 1, armed := 0 } (by simp [World.setCell, Array.getElem?_modify, h.blk, refCells]) ho hok rfl rfl rfl rfl h.rm h.rt h.ry (by show (0 : Int) ≤ _; omega) (by show D.calls ≤ D.calls + 1; omega)
    have hC : ∀ W', W'.heap = ((w.setCell ⟨q, 4, none⟩ (.int .i64 (D.calls + 1))).setCell ⟨q, 5, none⟩ (.int .i64 0)).heap → Calls Try.prog 17 #[.pointer (some ⟨q, 0, none⟩), .int .u64 D.mask, .int .i64 D.torn, .int .i64 D.bytes] W' fun e w' => e = .returned (.tuple #[]) ∧ RGo q W' lv ov (({ D with calls := D.calls + 1, armed := 0 } : DS).crash D.mask D.torn D.bytes) w' := fun W' e =>
      rcrash_calls W' q _ lv ov ns D.mask D.torn D.bytes (R.kept fun k _ => by rw [e]) (by show D.calls + 1 ≤ _; omega) h.rm
    have HC : Hid (_) := hC
    have kp : Hid (_) := DS.crash_keeps ({ D with calls := D.calls + 1, armed := 0 } : DS) D.mask D.torn D.bytes
    obtain ⟨_, _, _, _, _, _, d6, d7, d8⟩ := cell9 R.blk
    clear h hd hb R hC hok ha
    go_enter Try.func46, Try.ntmps46
    go_wp2_with fail
    generalize (w.setCell ⟨q, 4, none⟩ (.int .i64 (D.calls + 1))).setCell ⟨q, 5, none⟩ (.int .i64 0) = W at *
    go_region_held3 (fun w' => w'.cell? ⟨q, 6, none⟩ = some (.int .u64 D.mask) ∧ w'.cell? ⟨q, 7, none⟩ = some (.int .i64 D.torn) ∧ w'.cell? ⟨q, 8, none⟩ = some (.int .i64 D.bytes)) (first | exact k5 | go_keep)
      (first | (go_at_call 17; refine (HC.out _ ?_).mono ?_; rfl; rintro e w5 ⟨rfl, h5⟩; have k5 := h5.told; rw [kp.out.1, kp.out.2.1, kp.out.2.2] at k5))
    all_goals
      go_wp2
      go_ret
      rw [E.out]
      exact ⟨rfl, RGo.trans ho.fr.drew h5⟩

/-- What is flushed, behind so many of the list. -/
def fluAt (D : DS) (ns : List Int) (k : Nat) (n : Int) : List UInt8 := if n ∈ ns.take k then D.nw n else D.fl n
theorem flu_step (D : DS) (ns : List Int) (nd : ns.Nodup) (k : Nat) (hk : k < ns.length) :
    (lcells (fluAt D ns k) D.nw ns).set (k * 3 + 1) (.string (str (D.nw ns[k]))) = lcells (fluAt D ns (k + 1)) D.nw ns := by
  rw [(lcells_set _ _ ns nd k hk _).1]
  refine lcells_congr _ _ _ _ ns fun n _ => ⟨?_, rfl⟩
  unfold upd fluAt
  by_cases e : n = ns[k]
  · rw [if_pos e, if_pos ((mem_take_succ k hk n).2 (.inr e)), e]
  · rw [if_neg e]
    by_cases e2 : n ∈ ns.take k
    · rw [if_pos e2, if_pos ((mem_take_succ k hk n).2 (.inl e2))]
    · rw [if_neg e2, if_neg (fun h => by rcases (mem_take_succ k hk n).1 h with h | h; exact e2 h; exact e h)]
theorem rflush_end {w wr : World} {q : Nat} {D : DS} {lv ov : Value} {ns : List Int} (h : RD w q D lv ov ns) (blk : wr.heap[q]? = some (.cells (refCells D lv ov) 63 (0, 0))) (lrow : wr.ownsRow 0 69 3 lv ns.length (lcells (fluAt D ns ns.length) D.nw ns)) (fr : Fr (RMine q lv ov) w wr) :
    RGo q w lv ov { D with fl := D.nw, loose := [] } (wr.setCell ⟨q, 2, none⟩ (.slice none 0 0)) := by
  have ho : OnlyP q wr (wr.setCell ⟨q, 2, none⟩ (.slice none 0 0)) := (OnlyP.refl _ _).setCell _ _
  refine ⟨lv, .slice none 0 0, ns, ?_, ⟨ho.os.trans fr.os, ho.tape.trans fr.tape, ho.output.trans fr.output, by rw [ho.size]; exact fr.size, fun k hk hn => (ho.block k (fun e => hn (.inl e))).trans (fr.block k hk hn)⟩, fun k hk => ?_⟩
  · exact {
      ok := ⟨h.ok.b1, h.ok.b2, h.ok.ln, h.ok.ln, fun _ _ => rfl, List.nodup_nil, h.ok.a0, h.ok.c0, by have := h.ok.c0; simpa using this⟩
      blk := by simp [World.setCell, Array.getElem?_modify, blk, refCells]
      lrow := by
        have := row_kept3 (w' := wr.setCell ⟨q, 2, none⟩ (.slice none 0 0)) lrow fun k e => ho.block k (fun e' => h.ql (by rw [e, e']))
        rw [lcells_congr _ _ D.nw D.nw ns fun n hn => ⟨by unfold fluAt; rw [List.take_length, if_pos hn], rfl⟩] at this
        exact this
      orow := World.ownsRow_nil _ _ _ _
      rm := h.rm
      rt := h.rt
      ry := h.ry
      ra := h.ra
      nd := h.nd
      sub := fun n e => by cases e
      out := fun n hn => ⟨(h.out n hn).2, (h.out n hn).2⟩
      ln := h.ln
      inB := h.inB
      ql := h.ql
      qo := fun e => by cases e
      lo := fun k _ e => by cases e }
  · rcases hk with hk | hk | hk
    · exact .inl (.inl hk)
    · exact .inl (.inr (.inl hk))
    · cases hk
set_option maxHeartbeats 2000000 in
set_option maxRecDepth 100000 in
theorem rflush_calls (w : World) (q : Nat) (D : DS) (lv ov : Value) (ns : List Int) (h : RD w q D lv ov ns) (hcl : D.calls ≤ 999999) :
    Calls Try.prog 34 #[.pointer (some ⟨q, 0, none⟩)] w fun e w' => e = .returned (.int .i64 D.flush.2) ∧ RGo q w lv ov D.flush.1 w' := by
  cases hb : D.tick.2 with
  | false =>
    have hT := rfalls_false w q D lv ov ns h hcl hb
    have E : Hid (D.flush = (D.tick.1, 11)) := by show _ = _; unfold DS.flush; rw [if_pos hb]
    clear h hb
    go_enter Try.func34, Try.ntmps34
    go_wp2_with (go_at_call 46; refine hT.mono ?_; rintro e w1 ⟨rfl, hg⟩)
    go_ret
    rw [E.out]
    exact ⟨rfl, hg⟩
  | true =>
    have hT := rfalls_true w q D lv ov ns h hcl hb
    have E : Hid (D.flush = ({ D.tick.1 with fl := D.tick.1.nw, loose := [] }, 0)) := by show _ = _; unfold DS.flush; rw [if_neg (by rw [hb]; simp)]
    have hc1 : D.tick.1.calls ≤ 1000000 := by rw [(DS.tick_on hb).1]; omega
    clear h hb
    generalize D.tick.1 = D1 at *
    go_enter Try.func34, Try.ntmps34
    go_wp2_with (go_at_call 46; refine hT.mono ?_; rintro e w1 ⟨rfl, hg, ho⟩)
    obtain ⟨la, lc, rfl⟩ := own_form3 hg.lrow
    have hnl : (ns.length : Int) ≤ 1000000 := by have := hg.ln; omega
    have HG : Hid (RD w1 q D1 (.slice la ns.length lc) ov ns) := hg
    have HO : Hid (OnlyP q w w1) := ho
    clear hg ho hT
    go_loopw [4] (fun i wr => ∃ (k : Nat), k ≤ ns.length ∧ i = .int .i64 (k : Int) ∧ wr.heap[q]? = some (.cells (refCells D1 (.slice la ns.length lc) ov) 63 (0, 0)) ∧ wr.ownsRow 0 69 3 (.slice la ns.length lc) ns.length (lcells (fluAt D1 ns k) D1.nw ns) ∧ Fr (RMine q (.slice la ns.length lc) ov) w1 wr)
      (fun i _ => ns.length - (intOf i).toNat)
    case atStart =>
      refine ⟨0, Nat.zero_le _, rfl, HG.out.blk, ?_, Fr.refl _ _⟩
      rw [lcells_congr _ _ D1.fl D1.nw ns fun n _ => ⟨by unfold fluAt; simp, rfl⟩]
      exact HG.out.lrow
    case round =>
      obtain ⟨k, hk, rfl, hB, hL, hF⟩ := hrel
      obtain ⟨c0, c1, c2, _⟩ := cell9 hB
      by_cases hk5 : k < ns.length
      · obtain ⟨lg, lc', e⟩ := row_somewhere hL (by omega)
        cases e
        obtain ⟨l0, l1, l2⟩ := lcells_at (fluAt D1 ns k) D1.nw ns k hk5
        have m1 := (hL.cellAt (k * 3 + 1) (by omega)).trans l1
        have m2 := (hL.cellAt (k * 3 + 2) (by omega)).trans l2
        have lf1 := hL.frozenAt (k * 3 + 1)
        have hql : lg ≠ q := fun e => HG.out.ql (by rw [e]; rfl)
        have n1 : q ≠ lg := Ne.symm hql
        have hki : (k : Int) < (ns.length : Int) := by omega
        have hstep : Hid ((wr.setCell ⟨lg, k * 3 + 1, none⟩ (.string (str (D1.nw ns[k])))).heap[q]? = some (.cells (refCells D1 (.slice (some ⟨lg, 0, none⟩) ns.length lc) ov) 63 (0, 0)) ∧ (wr.setCell ⟨lg, k * 3 + 1, none⟩ (.string (str (D1.nw ns[k])))).ownsRow 0 69 3 (.slice (some ⟨lg, 0, none⟩) ns.length lc) ns.length (lcells (fluAt D1 ns (k + 1)) D1.nw ns) ∧ Fr (RMine q (.slice (some ⟨lg, 0, none⟩) ns.length lc) ov) w1 (wr.setCell ⟨lg, k * 3 + 1, none⟩ (.string (str (D1.nw ns[k]))))) := by
          have st := hL.stored (k * 3 + 1) (.string (str (D1.nw ns[k])))
          rw [flu_step D1 ns HG.out.nd k hk5] at st
          refine ⟨(Below.heap_setCell _ _ _ _ (by simpa using n1)).trans hB, st.1, ⟨hF.os, hF.tape, hF.output, by have := hF.size; simpa [World.setCell] using this, fun i hi hn => (Below.heap_setCell _ _ _ _ (by simp; intro e; exact hn (.inr (.inl (by rw [e]; rfl))))).trans (hF.block i hi hn)⟩⟩
        have kz : (wr.setCell ⟨lg, k * 3 + 1, none⟩ (.string (str (D1.nw ns[k])))).cell? ⟨lg, k * 3 + 2, none⟩ = some (.string (str (D1.nw ns[k]))) := (World.cell?_setCell_other _ _ _ _ (by simp)).trans m2
        generalize ns[k] = m at *
        clear hB hL hF l0 l1 l2
        go_wp2_with fail
        go_region_held3 (fun w' => w'.cell? ⟨q, 1, none⟩ = some (.slice (some ⟨lg, 0, none⟩) ns.length lc) ∧ w'.cell? ⟨lg, k * 3 + 2, none⟩ = some (.string (str (D1.nw m)))) (first | go_keep | (refine ⟨?_, kz⟩; go_keep)) (fail)
        all_goals
          generalize wr.setCell ⟨lg, k * 3 + 1, none⟩ (.string (str (D1.nw m))) = We at *
          clear c0 c1 c2 m1 m2 lf1 kz
          go_wp2
          go_roundw
          case rel => exact ⟨k + 1, by omega, by go_num, hstep.out.1, hstep.out.2.1, hstep.out.2.2.drew⟩
          case measure => simp [intOf]; omega
      · have e : k = ns.length := by omega
        subst e
        have hki : ¬ ((ns.length : Int) < (ns.length : Int)) := by omega
        have f2 := free9 hB 2
        have R := rflush_end HG.out hB hL hF
        have R2 := RGo.trans HO.out.fr R
        clear hB hL hF R
        go_wp2
        go_ret
        rw [E.out]
        exact ⟨rfl, R2⟩
end Go.Proofs.Ytmemhckkfhlnmaa
