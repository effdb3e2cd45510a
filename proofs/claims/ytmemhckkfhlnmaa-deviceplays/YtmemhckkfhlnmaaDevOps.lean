/- What each call on the landed device comes to. -/
import Derived.Test.YtmemhckkfhlnmaaDevSettle
import Derived.Test.YtmemhckkfhlnmaaMasks
namespace Go.Proofs.Ytmemhckkfhlnmaa
set_option linter.unusedVariables false
open Go.RowKit
attribute [local go_sem ↓] Go.wp_at_zero Go.wp_at_succ

/-- How many new bytes of the i-th loose block stay in a crash. -/
def stay (mask torn bytes : Int) (i : Nat) : Nat := if (i : Int) = torn then (min (max bytes 0) 512).toNat else if bitOf mask i = true then 512 else 0
theorem stay_le (mask torn bytes : Int) (i : Nat) : stay mask torn bytes i ≤ 512 := by
  unfold stay
  split
  · omega
  · split <;> omega
theorem cell_one {w : World} {b : Nat} {x : Value} {t : TypeId} (h : w.heap[b]? = some (.cells #[x] t (0, 0))) : w.cell? ⟨b, 0, none⟩ = some x := by simp [World.cell?, h]
set_option maxHeartbeats 400000 in
theorem flush_part (w : World) (i : Int) : Calls Try.prog 41 #[.int .i64 i] w fun e w' => e = .returned (.int .i64 512) ∧ w' = w := by
  go_enter Try.func41, Try.ntmps41
  go_wp2
  go_ret
  exact ⟨rfl, rfl⟩
theorem and1 (a : Int) (h0 : 0 ≤ a) (h1 : a ≤ 18446744073709551615) : bits .and .u64 a 1 = a % 2 := by
  show IntKind.u64.wrap ((BitVec.ofInt 64 a &&& BitVec.ofInt 64 ((1 : Nat) : Int)).toNat : Nat) = a % 2
  rw [and_ones a 1 1 (by decide)]
  have e : IntKind.u64.wrap (((a % ((2 ^ 64 : Nat) : Int)).toNat % 2 ^ 1 : Nat) : Int) = (((a % ((2 ^ 64 : Nat) : Int)).toNat % 2 ^ 1 : Nat) : Int) := by
    simp only [IntKind.wrap_u64]
    omega
  rw [e]
  omega
theorem bit_is (mask : Int) (i : Nat) (h0 : 0 ≤ mask) (h1 : mask ≤ 18446744073709551615) : (bits BinOp.and IntKind.u64 (mask / 2 ^ (i % 64)) 1 == 1) = bitOf mask i := by
  unfold bitOf
  have hp : (0 : Int) < 2 ^ (i % 64) := Int.pow_pos (by omega)
  have ha : 0 ≤ mask / 2 ^ (i % 64) := Int.ediv_nonneg h0 (Int.le_of_lt hp)
  have hb : mask / 2 ^ (i % 64) ≤ 18446744073709551615 := Int.le_trans (Int.ediv_le_self _ h0) h1
  rw [and1 _ ha hb]
set_option maxHeartbeats 1000000 in
theorem crash_part (w : World) (bm bt bb : Nat) (mask torn bytes : Int) (i : Nat) (h1 : w.cell? ⟨bm, 0, none⟩ = some (.int .u64 mask)) (h2 : w.cell? ⟨bt, 0, none⟩ = some (.int .i64 torn)) (h3 : w.cell? ⟨bb, 0, none⟩ = some (.int .i64 bytes)) (hi : i < 1000001) (hm0 : 0 ≤ mask) (hm1 : mask ≤ 18446744073709551615) :
    Calls Try.prog 38 #[.int .i64 (i : Int), .pointer (some ⟨bt, 0, none⟩), .pointer (some ⟨bb, 0, none⟩), .pointer (some ⟨bm, 0, none⟩)] w fun e w' => e = .returned (.int .i64 (stay mask torn bytes i : Int)) ∧ w' = w := by
  by_cases e : (i : Int) = torn
  · have E : Hid (stay mask torn bytes i = (min (max bytes 0) 512).toNat) := by show _ = _; unfold stay; rw [if_pos e]
    have he : ((i : Int) == torn) = true := by simp [e]
    clear e
    go_enter Try.func38, Try.ntmps38
    go_wp2
    all_goals
      go_ret
      refine ⟨?_, rfl⟩
      rw [E.out]
      exact congrArg (fun z => Ending.returned (Value.int .i64 z)) (by omega)
  · have he : ((i : Int) == torn) = false := by simp [e]
    cases hb : bitOf mask i with
    | true =>
      have E : Hid (stay mask torn bytes i = 512) := by show _ = _; unfold stay; rw [if_neg e, if_pos hb]
      have hb' : (bits BinOp.and IntKind.u64 (mask / 2 ^ (i % 64)) 1 == 1) = true := by rw [bit_is mask i hm0 hm1]; exact hb
      clear e hb
      go_enter Try.func38, Try.ntmps38
      go_wp2
      go_ret
      exact ⟨by rw [E.out]; rfl, rfl⟩
    | false =>
      have E : Hid (stay mask torn bytes i = 0) := by show _ = _; unfold stay; rw [if_neg e, if_neg (by simp [hb])]
      have hb' : (bits BinOp.and IntKind.u64 (mask / 2 ^ (i % 64)) 1 == 1) = false := by rw [bit_is mask i hm0 hm1]; exact hb
      clear e hb
      go_enter Try.func38, Try.ntmps38
      go_wp2
      go_ret
      exact ⟨by rw [E.out]; rfl, rfl⟩

/-- What a call that changes a device comes to. -/
def DGo (p : Nat) (w : World) (r : DR) (T : Nat → Prop) (D' : DS) (w' : World) : Prop :=
  ∃ r' U, Dev w' p D' r' U ∧ Fr (Mine p r) w w' ∧ Near' (Mine p r) (Mine p r') w.heap.size ∧ Near' T U w.heap.size
/-- Nothing but block p has turned. -/
structure OnlyP (p : Nat) (w w' : World) : Prop where
  os : w'.os = w.os
  tape : w'.tape = w.tape
  output : w'.output = w.output
  size : w'.heap.size = w.heap.size
  block : ∀ k, k ≠ p → w'.heap[k]? = w.heap[k]?
theorem OnlyP.refl (p : Nat) (w : World) : OnlyP p w w := ⟨rfl, rfl, rfl, rfl, fun _ _ => rfl⟩
theorem OnlyP.setCell {p : Nat} {w w' : World} (h : OnlyP p w w') (o : Nat) (u : Value) : OnlyP p w (w'.setCell ⟨p, o, none⟩ u) :=
  ⟨h.os, h.tape, h.output, by simp [World.setCell]; exact h.size, fun k hk => by rw [Below.heap_setCell _ _ _ _ (by simpa using hk)]; exact h.block k hk⟩
theorem Dev.turn0 {w w' : World} {p : Nat} {D : DS} {r : DR} {T : Nat → Prop} (h : Dev w p D r T) (D' : DS) (m t y : Int) (blk : w'.heap[p]? = some (.cells (devCells D' { r with m := m, t := t, y := y }) 60 (0, 0))) (ho : OnlyP p w w') (ok : D'.Ok)
    (e1 : D'.loose = D.loose) (e2 : D'.fl = D.fl) (e3 : D'.nw = D.nw) (e4 : D'.blocks = D.blocks) (arm : D'.armed ≠ 0 → m = D'.mask ∧ t = D'.torn ∧ y = D'.bytes) (rm : 0 ≤ m ∧ m ≤ 18446744073709551615) (rt : I64 t) (ry : I64 y) (ra : D'.armed ≤ 9223372036854775807) (hc : D.calls ≤ D'.calls) :
    Dev w' p D' { r with m := m, t := t, y := y } T := by
  exact {
    ok := ok
    blk := blk
    mf := h.mf.kept (ho.block _ (Ne.symm h.pf))
    ml := h.ml.kept (ho.block _ (Ne.symm h.pl))
    row := by rw [e1]; exact row_kept h.row fun k e => ho.block k (h.po k e).1
    arm := arm
    rm := rm
    rt := rt
    ry := ry
    ra := ra
    cf := by rw [e1]; have := h.cf; simp only; omega
    cl := by have := h.cl; simp only; omega
    inL := by rw [e1]; exact h.inL
    atL := fun n v e => by
      obtain ⟨g, h1, h2⟩ := h.atL n v e
      rw [e3]
      exact ⟨g, h1, h2.kept fun k hk => by cases hk; exact ho.block g (h.tt g h1).2.1⟩
    atF := fun n v e => by
      obtain ⟨g, h1, h2⟩ := h.atF n v e
      rw [e2]
      exact ⟨g, h1, h2.kept fun k hk => by cases hk; exact ho.block g (h.tt g h1).2.1⟩
    noF := by rw [e2]; exact h.noF
    inB := by rw [e1, e4]; exact h.inB
    pf := h.pf
    pl := h.pl
    fl := h.fl
    po := h.po
    tt := fun k hk => ⟨by rw [ho.size]; exact (h.tt k hk).1, (h.tt k hk).2⟩ }
theorem Dev.turn {w w' : World} {p : Nat} {D : DS} {r : DR} {T : Nat → Prop} (h : Dev w p D r T) (D' : DS) (m t y : Int) (blk : w'.heap[p]? = some (.cells (devCells D' { r with m := m, t := t, y := y }) 60 (0, 0))) (ho : OnlyP p w w') (ok : D'.Ok)
    (e1 : D'.loose = D.loose) (e2 : D'.fl = D.fl) (e3 : D'.nw = D.nw) (e4 : D'.blocks = D.blocks) (arm : D'.armed ≠ 0 → m = D'.mask ∧ t = D'.torn ∧ y = D'.bytes) (rm : 0 ≤ m ∧ m ≤ 18446744073709551615) (rt : I64 t) (ry : I64 y) (ra : D'.armed ≤ 9223372036854775807) (hc : D.calls ≤ D'.calls) :
    DGo p w r T D' w' :=
  ⟨{ r with m := m, t := t, y := y }, T, h.turn0 D' m t y blk ho ok e1 e2 e3 e4 arm rm rt ry ra hc, ⟨ho.os, ho.tape, ho.output, by rw [ho.size]; exact Nat.le_refl _, fun k _ hn => ho.block k (fun e => hn (.inl e))⟩, fun k hk => .inl hk, fun k hk => .inl hk⟩
/-- One call behind another. -/
theorem DGo.trans {p : Nat} {w w1 w' : World} {r r1 : DR} {T T1 : Nat → Prop} {D' : DS} (h1 : Fr (Mine p r) w w1) (h2 : Near' (Mine p r) (Mine p r1) w.heap.size) (h3 : Near' T T1 w.heap.size) (h : DGo p w1 r1 T1 D' w') : DGo p w r T D' w' := by
  obtain ⟨r', U, g1, g2, g3, g4⟩ := h
  exact ⟨r', U, g1, h1.trans g2 h2, h2.trans g3 h1.size, h3.trans g4 h1.size⟩
theorem DGo.from_below {p : Nat} {w w1 w' : World} {r : DR} {T : Nat → Prop} {D' : DS} (hb : Below w.heap.size w w1) (h : DGo p w1 r T D' w') : DGo p w r T D' w' :=
  h.trans ⟨hb.os, hb.tape, hb.output, hb.size, fun k hk _ => hb.block k hk⟩ (fun k hk => .inl hk) (fun k hk => .inl hk)

set_option maxHeartbeats 400000 in
theorem start_calls (w : World) (p : Nat) (D : DS) (r : DR) (T : Nat → Prop) (h : Dev w p D r T) : Calls Try.prog 18 #[.pointer (some ⟨p, 0, none⟩)] w fun e w' => e = .returned (.tuple #[]) ∧ DGo p w r T D.start w' := by
  have R : DGo p w r T D.start (w.setCell ⟨p, 5, none⟩ (.bool false)) := h.turn D.start r.m r.t r.y (by simp [World.setCell, Array.getElem?_modify, h.blk, devCells, DS.start]) ((OnlyP.refl _ _).setCell _ _) h.ok.start rfl rfl rfl rfl h.arm h.rm h.rt h.ry h.ra (Int.le_refl _)
  obtain ⟨c0, c1, c2, c3, c4, c5, _⟩ := cell10 h.blk
  have f5 := free10 h.blk 5
  clear h
  go_enter Try.func18, Try.ntmps18
  go_wp2
  go_end0
  exact ⟨rfl, R⟩
set_option maxHeartbeats 400000 in
theorem arm_calls (w : World) (p : Nat) (D : DS) (r : DR) (T : Nat → Prop) (n mask torn bytes : Int) (h : Dev w p D r T) (hn : I64 n) (hm : 0 ≤ mask ∧ mask ≤ 18446744073709551615) (ht : I64 torn) (hy : I64 bytes) :
    Calls Try.prog 27 #[.pointer (some ⟨p, 0, none⟩), .int .i64 n, .int .u64 mask, .int .i64 torn, .int .i64 bytes] w fun e w' => e = .returned (.tuple #[]) ∧ DGo p w r T (D.arm n mask torn bytes) w' := by
  obtain ⟨c0, c1, c2, c3, c4, c5, c6, c7, c8, c9⟩ := cell10 h.blk
  have f6 := free10 h.blk 6
  have f7 := free10 h.blk 7
  have f8 := free10 h.blk 8
  have f9 := free10 h.blk 9
  have R : ∀ a, a = max n 0 → DGo p w r T (D.arm n mask torn bytes) ((((w.setCell ⟨p, 6, none⟩ (.int .i64 a)).setCell ⟨p, 7, none⟩ (.int .u64 mask)).setCell ⟨p, 8, none⟩ (.int .i64 torn)).setCell ⟨p, 9, none⟩ (.int .i64 bytes)) := fun a ha =>
    h.turn (D.arm n mask torn bytes) mask torn bytes (by subst ha; simp [World.setCell, Array.getElem?_modify, h.blk, devCells, DS.arm]) (((((OnlyP.refl _ _).setCell _ _).setCell _ _).setCell _ _).setCell _ _) (h.ok.arm _ _ _ _) rfl rfl rfl rfl (fun _ => ⟨rfl, rfl, rfl⟩) hm ht hy (by have := hn.2; show max n 0 ≤ _; omega) (Int.le_refl _)
  clear h
  go_enter Try.func27, Try.ntmps27
  go_wp2
  all_goals
    go_end0
    exact ⟨rfl, R _ (by omega)⟩

theorem DS.crash_eq {D : DS} (h : D.Ok) (hd : D.down = false) (mask torn bytes : Int) : D.crash mask torn bytes = { D.settle (stay mask torn bytes) with down := true, armed := 0 } := by
  have e : D.settled mask torn bytes = D.mid (stay mask torn bytes) D.loose.length := by
    funext n
    have h1 := h.lf n
    have h2 := h.ln n
    unfold DS.settled DS.mid DS.kept stay
    rw [List.take_length]
    by_cases hm : n ∈ D.loose
    · rw [if_pos hm, if_pos hm]
      by_cases ht : (D.loose.idxOf n : Int) = torn
      · rw [if_pos ht, if_pos ht]
      · rw [if_neg ht, if_neg ht]
        by_cases hb : bitOf mask (D.loose.idxOf n) = true
        · rw [if_pos hb, if_pos hb, List.take_of_length_le (by omega), List.drop_of_length_le (by omega), List.append_nil]
        · rw [if_neg hb, if_neg hb]
          rfl
    · rw [if_neg hm, if_neg hm]
  unfold DS.crash DS.settle
  rw [if_neg (by rw [hd]; simp), e]
theorem box_cell {w : World} {b : Nat} {x : Value} {t : TypeId} (h : w.heap[b]? = some (.cells #[x] t (0, 0))) : w.cell? ⟨b, 0, none⟩ = some x := cell_one h
/-- The three boxes of a crash. -/
def boxes (w : World) (mask torn bytes : Int) : World := ((w.alloc (.cells #[.int .u64 mask] 28)).alloc (.cells #[.int .i64 torn] 3)).alloc (.cells #[.int .i64 bytes] 3)
theorem boxes_at (w : World) (mask torn bytes : Int) : (boxes w mask torn bytes).heap[w.heap.size]? = some (.cells #[.int .u64 mask] 28 (0, 0)) ∧ (boxes w mask torn bytes).heap[w.heap.size + 1]? = some (.cells #[.int .i64 torn] 3 (0, 0)) ∧ (boxes w mask torn bytes).heap[w.heap.size + 2]? = some (.cells #[.int .i64 bytes] 3 (0, 0)) ∧ (boxes w mask torn bytes).heap.size = w.heap.size + 3 ∧ Below w.heap.size w (boxes w mask torn bytes) := by
  unfold boxes
  refine ⟨?_, ?_, ?_, by simp, ((((Below.refl _ _).alloc (Nat.le_refl _) _).alloc (by simp) _).alloc (by simp; omega) _)⟩
  · rw [Below.heap_alloc _ _ _ (by simp; omega), Below.heap_alloc _ _ _ (by simp)]
    exact heap_alloc_new _ _
  · rw [Below.heap_alloc _ _ _ (by simp)]
    have := heap_alloc_new (w.alloc (.cells #[.int .u64 mask] 28)) (.cells #[.int .i64 torn] 3)
    simpa using this
  · have := heap_alloc_new ((w.alloc (.cells #[.int .u64 mask] 28)).alloc (.cells #[.int .i64 torn] 3)) (.cells #[.int .i64 bytes] 3)
    simpa using this
set_option maxHeartbeats 1000000 in
theorem crash_calls (w : World) (p : Nat) (D : DS) (r : DR) (T : Nat → Prop) (mask torn bytes : Int) (h : Dev w p D r T) (hcl : D.calls ≤ 1000000) (hm : 0 ≤ mask ∧ mask ≤ 18446744073709551615) (ht : I64 torn) (hy : I64 bytes) :
    Calls Try.prog 16 #[.pointer (some ⟨p, 0, none⟩), .int .u64 mask, .int .i64 torn, .int .i64 bytes] w fun e w' => e = .returned (.tuple #[]) ∧ DGo p w r T (D.crash mask torn bytes) w' := by
  obtain ⟨b1, b2, b3, b4, b5⟩ := boxes_at w mask torn bytes
  have h3 : Dev (boxes w mask torn bytes) p D r T := h.below b5 (Nat.le_refl _)
  obtain ⟨c0, c1, c2, c3, c4, c5, _⟩ := cell10 h3.blk
  cases hd : D.down with
  | true =>
    rw [hd] at c5
    have R : DGo p w r T (D.crash mask torn bytes) (boxes w mask torn bytes) := by
      unfold DS.crash
      rw [if_pos hd]
      exact DGo.from_below b5 ⟨r, T, h3, Fr.refl _ _, fun k hk => .inl hk, fun k hk => .inl hk⟩
    clear h h3 hd b1 b2 b3 b4 b5
    unfold boxes at *
    go_enter Try.func16, Try.ntmps16
    go_wp2
    ((try simp only [Exit.inBlock, Exit.then]); refine bodyPost_ret (results_none rfl _ _ _) rfl ?_)
    exact ⟨rfl, R⟩
  | false =>
    rw [hd] at c5
    have hmf := h.mf.lt
    have hml := h.ml.lt
    have hset := settle_calls (boxes w mask torn bytes) p D r T h3 38 #[.pointer (some ⟨w.heap.size + 1, 0, none⟩), .pointer (some ⟨w.heap.size + 2, 0, none⟩), .pointer (some ⟨w.heap.size, 0, none⟩)] (stay mask torn bytes) (stay_le _ _ _) hcl (enters_of Try.func38 (by kernel_rfl) rfl)
      (fun i wr hi hfr => crash_part wr w.heap.size (w.heap.size + 1) (w.heap.size + 2) mask torn bytes i (cell_one ((hfr.block _ (by omega) (by simp; omega)).trans b1)) (cell_one ((hfr.block _ (by omega) (by simp; omega)).trans b2)) (cell_one ((hfr.block _ (by omega) (by simp; omega)).trans b3)) (by have := h.ok.lc; omega) hm.1 hm.2)
    have R : ∀ ws, DGo p (boxes w mask torn bytes) r T (D.settle (stay mask torn bytes)) ws → ∃ blkD r', ws.heap[p]? = some (.cells (devCells blkD r') 60 (0, 0)) ∧ DGo p w r T (D.crash mask torn bytes) (((((ws.setCell ⟨p, 5, none⟩ (.bool true)).setCell ⟨p, 6, none⟩ (.int .i64 0)).setCell ⟨p, 7, none⟩ (.int .u64 0)).setCell ⟨p, 8, none⟩ (.int .i64 0)).setCell ⟨p, 9, none⟩ (.int .i64 0)) := by
      rintro ws ⟨r', U, g1, g2, g3, g4⟩
      refine ⟨_, r', g1.blk, DGo.from_below b5 (DGo.trans g2 g3 g4 ?_)⟩
      rw [DS.crash_eq h.ok hd]
      refine g1.turn _ 0 0 0 (by simp [World.setCell, Array.getElem?_modify, g1.blk, devCells]) ((((((OnlyP.refl _ _).setCell _ _).setCell _ _).setCell _ _).setCell _ _).setCell _ _) ?_ rfl rfl rfl rfl (fun h0 => absurd rfl h0) ⟨by omega, by omega⟩ ⟨by omega, by omega⟩ ⟨by omega, by omega⟩ (by simp only; omega) (Int.le_refl _)
      have := h.ok.crash mask torn bytes
      rw [DS.crash_eq h.ok hd] at this
      exact this
    clear h h3 hd b1 b2 b3 b4 b5 hmf hml
    unfold boxes at *
    go_enter Try.func16, Try.ntmps16
    go_wp2_with (go_at_call 37; refine hset.mono ?_; rintro e ws ⟨rfl, hg⟩; obtain ⟨blkD, r', hbk, R2⟩ := R ws hg; obtain ⟨k0, k1, k2, k3, k4, k5, k6, k7, k8, k9⟩ := cell10 hbk; have kf5 := free10 hbk 5; have kf6 := free10 hbk 6; have kf7 := free10 hbk 7; have kf8 := free10 hbk 8; have kf9 := free10 hbk 9; clear hg R hbk)
    go_end0
    exact ⟨rfl, R2⟩
end Go.Proofs.Ytmemhckkfhlnmaa
