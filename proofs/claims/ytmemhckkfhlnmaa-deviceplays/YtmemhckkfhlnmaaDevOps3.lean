/- What each call on the landed device comes to, continued: Flush, Write. -/
import Derived.Test.YtmemhckkfhlnmaaDevOps2
namespace Go.Proofs.Ytmemhckkfhlnmaa
set_option linter.unusedVariables false
open Go.RowKit
attribute [local go_sem ↓] Go.wp_at_zero Go.wp_at_succ

theorem DS.settle_all {D : DS} (h : D.Ok) : D.settle (fun _ => 512) = { D with fl := D.nw, loose := [] } := by
  have e : D.mid (fun _ => 512) D.loose.length = D.nw := by
    funext n
    have h1 := h.lf n
    have h2 := h.ln n
    unfold DS.mid DS.kept
    rw [List.take_length]
    by_cases hm : n ∈ D.loose
    · rw [if_pos hm, List.take_of_length_le (by show _ ≤ 512; omega), List.drop_of_length_le (by show _ ≤ 512; omega), List.append_nil]
    · rw [if_neg hm, h.still n hm]
  unfold DS.settle
  rw [e]
set_option maxHeartbeats 1000000 in
theorem flush_calls (w : World) (p : Nat) (D : DS) (r : DR) (T : Nat → Prop) (h : Dev w p D r T) (hcl : D.calls ≤ 999999) :
    Calls Try.prog 20 #[.pointer (some ⟨p, 0, none⟩)] w fun e w' => e = .returned (.int .i64 D.flush.2) ∧ DGo p w r T D.flush.1 w' := by
  have hT := tick_calls w p D r T h hcl
  cases hb : D.tick.2 with
  | false =>
    have E : Hid (D.flush = (D.tick.1, 11)) := by show _ = _; unfold DS.flush; rw [if_pos hb]
    rw [hb] at hT
    clear h hb
    go_enter Try.func20, Try.ntmps20
    go_wp2_with (go_at_call 40; refine hT.mono ?_; rintro e w1 ⟨rfl, hg⟩)
    go_ret
    rw [E.out]
    exact ⟨rfl, hg⟩
  | true =>
    have ht := DS.tick_on hb
    have hc1 : D.tick.1.calls ≤ 1000000 := by rw [ht.1]; omega
    have E : Hid (D.flush = ({ D.tick.1 with fl := D.tick.1.nw, loose := [] }, 0)) := by show _ = _; unfold DS.flush; rw [if_neg (by rw [hb]; simp)]
    rw [hb] at hT
    clear h hb ht hcl
    go_enter Try.func20, Try.ntmps20
    go_wp2_with fail
    refine hT.mono ?_
    rintro e w1 ⟨rfl, r1, T1, g1, g2, g3, g4⟩
    have hS := settle_calls w1 p D.tick.1 r1 T1 g1 41 #[] (fun _ => 512) (fun _ => Nat.le_refl _) hc1 (enters_of Try.func41 (by kernel_rfl) rfl) (fun i wr _ _ => flush_part wr i)
    go_wp2_with (go_at_call 37; refine hS.mono ?_; rintro e w2 ⟨rfl, hg⟩)
    go_ret
    rw [E.out]
    rw [DS.settle_all g1.ok] at hg
    exact ⟨rfl, DGo.trans g2 g3 g4 hg⟩

theorem put_end {w1 w3 w4 w5 : World} {p : Nat} {D : DS} {r : DR} {T : Nat → Prop} (h : Dev w1 p D r T) {n : Int} {b : List UInt8} (hb : b.length = 512) (hin : 0 ≤ n ∧ n < D.blocks) (hlc : (r.nf : Int) + D.loose.length + 1 ≤ D.calls) (hnc : (r.nl : Int) + 1 ≤ D.calls) {nv : Value}
    (hos : w3.os = w1.os ∧ w3.tape = w1.tape ∧ w3.output = w1.output ∧ w1.heap.size ≤ w3.heap.size)
    (hblk : w3.heap[p]? = some (.cells (devCells D { r with ov := nv }) 60 (0, 0))) (hrow : w3.ownsRow 0 3 1 nv (D.put n b).loose.length (ic (D.put n b).loose)) (hnv : ∀ k, nv.ownBlock = some k → r.ov.ownBlock = some k ∨ w1.heap.size ≤ k)
    (h13 : ∀ k, k < w1.heap.size → k ≠ p → r.ov.ownBlock ≠ some k → w3.heap[k]? = w1.heap[k]?) {g cap : Nat} (hg : w3.drew.heap.size ≤ g) (ho4 : w4.ownsRow w3.drew.heap.size 5 1 (.slice (some ⟨g, 0, none⟩) 512 cap) 512 (bc b)) (hb4 : Below w3.drew.heap.size w3.drew w4)
    (hm5 : MapV w5 r.lb (r.nl + 1) (putAt r.L n (.slice (some ⟨g, 0, none⟩) 512 cap))) (hg5 : w4.grownBy w5 (some r.lb)) : DGo p w1 r T (D.put n b) w5 := by
  have hz3 : w3.drew.heap.size = w3.heap.size := rfl
  have hs4 := hb4.size
  have hs5 := hg5.size
  have hp1 := lt_block h.blk
  have hp3 := lt_block hblk
  have hf1 := h.mf.lt
  have hl1 := h.ml.lt
  have hg4 : g < w4.heap.size := (ho4.lt g rfl).2
  have h35 : ∀ k, k < w3.heap.size → k ≠ r.lb → w5.heap[k]? = w3.heap[k]? := fun k hk hn => (hg5.block k (by omega) (fun e => by cases e; exact hn rfl)).trans (hb4.block k (by omega))
  have h15 : ∀ k, k < w1.heap.size → k ≠ p → r.ov.ownBlock ≠ some k → k ≠ r.lb → w5.heap[k]? = w1.heap[k]? := fun k hk h1 h2 h3 => (h35 k (by omega) h3).trans (h13 k hk h1 h2)
  have hov : ∀ k, r.ov.ownBlock = some k → k < w1.heap.size := fun k hk => (h.row.lt k hk).2
  have hnl : ∀ k, nv.ownBlock = some k → k < w3.heap.size ∧ k ≠ p ∧ k ≠ r.fb ∧ k ≠ r.lb := fun k hk => by
    have h1 := (hrow.lt k hk).2
    rcases hnv k hk with e | e
    · have := h.po k e
      exact ⟨h1, this⟩
    · exact ⟨h1, by omega, by omega, by omega⟩
  have hv4 : BytesIn w4 (.slice (some ⟨g, 0, none⟩) 512 cap) b (some g) := by
    have : w4.ownsRow w3.drew.heap.size 5 1 (.slice (some ⟨g, 0, none⟩) 512 cap) b.length (bc b) := by rw [hb]; exact ho4
    exact own_bytes this
  have hv5 : BytesIn w5 (.slice (some ⟨g, 0, none⟩) 512 cap) b (some g) := hv4.kept fun k e => by cases e; exact hg5.block g hg4 (fun e => by cases e; omega)
  have hok : (D.put n b).Ok := h.ok.put n b hb (by omega)
  have hput : (D.put n b).nw n = b := by simp [DS.put]
  have hputo : ∀ k, k ≠ n → (D.put n b).nw k = D.nw k := fun k hk => by simp [DS.put, hk]
  have hln : ((D.put n b).loose.length : Int) ≤ D.loose.length + 1 := by
    unfold DS.put
    simp only
    split
    · omega
    · simp
  refine ⟨{ r with ov := nv, nl := r.nl + 1, L := putAt r.L n (.slice (some ⟨g, 0, none⟩) 512 cap) }, fun k => T k ∨ k = g, ?_, ?_, ?_, ?_⟩
  · exact {
      ok := hok
      blk := (h35 p hp3 h.pl).trans hblk
      mf := h.mf.kept (h15 r.fb hf1 (Ne.symm h.pf) (fun e => (h.po _ e).2.1 rfl) h.fl)
      ml := hm5
      row := row_kept hrow fun k hk => h35 k (hnl k hk).1 (hnl k hk).2.2.2
      arm := h.arm
      rm := h.rm
      rt := h.rt
      ry := h.ry
      ra := h.ra
      cf := by show (r.nf : Int) + (D.put n b).loose.length ≤ D.calls; omega
      cl := by show ((r.nl + 1 : Nat) : Int) ≤ D.calls; omega
      inL := fun k => by
        show (putAt r.L n _ k).isSome = true ↔ k ∈ (if n ∈ D.loose then D.loose else D.loose ++ [n])
        unfold putAt
        have h1 := h.inL k
        by_cases e : k = n
        · subst e
          rw [if_pos rfl]
          split <;> simp_all
        · rw [if_neg e]
          split
          · exact h1
          · rw [h1]; simp [e]
      atL := fun k v hk => by
        have hk' : putAt r.L n (.slice (some ⟨g, 0, none⟩) 512 cap) k = some v := hk
        unfold putAt at hk'
        by_cases e : k = n
        · subst e
          rw [if_pos rfl] at hk'
          cases hk'
          exact ⟨g, .inr rfl, by rw [hput]; exact hv5⟩
        · rw [if_neg e] at hk'
          obtain ⟨j, h1, h2⟩ := h.atL k v hk'
          have h3 := h.tt j h1
          exact ⟨j, .inl h1, by rw [hputo k e]; exact h2.kept fun i hi => by cases hi; exact h15 j h3.1 h3.2.1 h3.2.2.2.2 h3.2.2.2.1⟩
      atF := fun k v hk => by
        obtain ⟨j, h1, h2⟩ := h.atF k v hk
        have h3 := h.tt j h1
        exact ⟨j, .inl h1, h2.kept fun i hi => by cases hi; exact h15 j h3.1 h3.2.1 h3.2.2.2.2 h3.2.2.2.1⟩
      noF := h.noF
      inB := fun k hk => by
        have hk' : k ∈ (if n ∈ D.loose then D.loose else D.loose ++ [n]) := hk
        by_cases e : n ∈ D.loose
        · rw [if_pos e] at hk'; exact h.inB k hk'
        · rw [if_neg e] at hk'
          rcases List.mem_append.1 hk' with h1 | h1
          · exact h.inB k h1
          · rw [List.mem_singleton] at h1; subst h1; exact hin
      pf := h.pf
      pl := h.pl
      fl := h.fl
      po := fun k hk => (hnl k hk).2
      tt := fun k hk => by
        rcases hk with hk | rfl
        · have h3 := h.tt k hk
          refine ⟨by omega, h3.2.1, h3.2.2.1, h3.2.2.2.1, fun e => ?_⟩
          rcases hnv k e with e2 | e2
          · exact h3.2.2.2.2 e2
          · omega
        · refine ⟨by omega, by omega, by show k ≠ r.fb; omega, by show k ≠ r.lb; omega, fun e => ?_⟩
          have := (hnl k e).1
          omega }
  · refine ⟨hg5.os.trans (hb4.os.trans hos.1), hg5.tape.trans (hb4.tape.trans hos.2.1), hg5.output.trans (hb4.output.trans hos.2.2.1), by omega, fun k hk hn => ?_⟩
    exact h15 k hk (fun e => hn (.inl e)) (fun e => hn (.inr (.inr (.inr e)))) (fun e => hn (.inr (.inr (.inl e))))
  · intro k hk
    rcases hk with e | e | e | e
    · exact .inl (.inl e)
    · exact .inl (.inr (.inl e))
    · exact .inl (.inr (.inr (.inl e)))
    · rcases hnv k e with e2 | e2
      · exact .inl (.inr (.inr (.inr e2)))
      · exact .inr e2
  · intro k hk
    rcases hk with hk | rfl
    · exact .inl hk
    · exact .inr (by omega)

theorem order_end {w1 w2 : World} {p g5 cap5 : Nat} {D : DS} {r : DR} {T : Nat → Prop} {n : Int} {b : List UInt8} {o : Obj} (g1 : Dev w1 p D r T) (hmem : n ∉ D.loose) {C : World → Prop}
    (hown : w2.ownsRow 0 3 1 (.slice (some ⟨g5, 0, none⟩) (D.loose.length + 1) cap5) (D.loose.length + 1) (ic D.loose ++ [.int .i64 n])) (hgrow : (w1.alloc o).grownBy w2 r.ov.ownBlock) (hat : r.ov.ownBlock = some g5 ∨ g5 = (w1.alloc o).heap.size)
    (HE : ∀ (w3 : World) (nv : Value), (w3.os = w1.os ∧ w3.tape = w1.tape ∧ w3.output = w1.output ∧ w1.heap.size ≤ w3.heap.size) → w3.heap[p]? = some (.cells (devCells D { r with ov := nv }) 60 (0, 0)) → w3.ownsRow 0 3 1 nv (D.put n b).loose.length (ic (D.put n b).loose) → (∀ k, nv.ownBlock = some k → r.ov.ownBlock = some k ∨ w1.heap.size ≤ k) → (∀ k, k < w1.heap.size → k ≠ p → r.ov.ownBlock ≠ some k → w3.heap[k]? = w1.heap[k]?) → C w3) :
    w2.cell? ⟨p, 3, none⟩ = some r.ov ∧ w2.frozen? ⟨p, 3, none⟩ = false ∧ C (w2.setCell ⟨p, 3, none⟩ (.slice (some ⟨g5, 0, none⟩) (D.loose.length + 1) cap5)) ∧ (w2.setCell ⟨p, 3, none⟩ (.slice (some ⟨g5, 0, none⟩) (D.loose.length + 1) cap5)).cell? ⟨p, 2, none⟩ = some (.map (some r.lb)) := by
  have hp := lt_block g1.blk
  have hz : (w1.alloc o).heap.size = w1.heap.size + 1 := by simp
  have hgs := hgrow.size
  have hblk2 : w2.heap[p]? = some (.cells (devCells D r) 60 (0, 0)) := ((hgrow.block p (by omega) (fun e => (g1.po p e.symm).1 rfl)).trans (Below.heap_alloc w1 o p hp)).trans g1.blk
  have hset : ∀ k, k ≠ p → (w2.setCell ⟨p, 3, none⟩ (.slice (some ⟨g5, 0, none⟩) (D.loose.length + 1) cap5)).heap[k]? = w2.heap[k]? := fun k hk => Below.heap_setCell _ _ _ _ (by simpa using hk)
  have hb3 := set10_3 (.slice (some ⟨g5, 0, none⟩) (D.loose.length + 1) cap5) hblk2
  have hgp : g5 ≠ p := by
    rcases hat with e | e
    · exact (g1.po _ e).1
    · omega
  have e : (D.put n b).loose = D.loose ++ [n] := by unfold DS.put; simp [hmem]
  refine ⟨(cell10 hblk2).2.2.2.1, free10 hblk2 3, HE _ _ ⟨hgrow.os, hgrow.tape, hgrow.output, by simp [World.setCell]; omega⟩ hb3 ?_ ?_ ?_, (cell10 hb3).2.2.1⟩
  · rw [e]
    have e2 : ic (D.loose ++ [n]) = ic D.loose ++ [.int .i64 n] := by simp [ic]
    rw [e2, List.length_append, List.length_singleton]
    exact row_kept hown fun k hk => by cases hk; exact hset g5 hgp
  · intro k hk
    have hk' : some g5 = some k := hk
    cases hk'
    rcases hat with e | e
    · exact .inl e
    · exact .inr (by omega)
  · intro k hk h1 h2
    rw [hset k h1]
    exact (hgrow.block k (by omega) (fun e => h2 e.symm)).trans (Below.heap_alloc w1 o k hk)
theorem lookS {w : World} {b n : Nat} {f : Int → Option Value} (h : MapV w b n f) {k : Int} (hk : I64 k) : ∃ v, (Instr.lookup 56 (.map (some b)) (.int .i64 k) true).run Try.prog w = .ok (.tuple #[v, .bool (f k).isSome]) w := ⟨_, h.look hk⟩
set_option maxHeartbeats 2000000 in
theorem write_calls (w : World) (p : Nat) (D : DS) (r : DR) (T : Nat → Prop) (n : Int) (sv : Value) (b : List UInt8) (r0 : Option Nat) (h : Dev w p D r T) (hsv : BytesIn w sv b r0) (hr0 : ∀ k, r0 = some k → ¬ Mine p r k) (hcl : D.calls ≤ 999999) (hbl : b.length ≤ 512) (hn : I64 n) :
    Calls Try.prog 21 #[.pointer (some ⟨p, 0, none⟩), .int .i64 n, sv] w fun e w' => e = .returned (.int .i64 (D.write n b).2) ∧ DGo p w r T (D.write n b).1 w' := by
  have hT := tick_calls w p D r T h hcl
  have hlc0 := h.ok.lc
  have hlc := h.cf
  have hnc := h.cl
  obtain ⟨ad, cap, hsvE, hcap, hsv2⟩ := hsv
  cases hb : D.tick.2 with
  | false =>
    have E : Hid (D.write n b = (D.tick.1, 11)) := by show _ = _; unfold DS.write; rw [if_pos hb]
    rw [hb] at hT
    clear h hb
    go_enter Try.func21, Try.ntmps21
    go_wp2_with (go_at_call 40; refine hT.mono ?_; rintro e w1 ⟨rfl, hg⟩)
    go_ret
    rw [E.out]
    exact ⟨rfl, hg⟩
  | true =>
    have ht := DS.tick_on hb
    obtain ⟨ht1, ht2, ht3, ht4, ht5, ht6⟩ := ht
    have hT' := tick_true w p D r T h hcl hb
    have hlc1 : (r.nf : Int) + D.tick.1.loose.length + 1 ≤ D.tick.1.calls := by rw [ht1, ht2]; omega
    have hnc1 : (r.nl : Int) + 1 ≤ D.tick.1.calls := by rw [ht1]; omega
    have hlen1 : (D.tick.1.loose.length : Int) ≤ 999999 := by rw [ht2]; omega
    have hmine : ∀ k, Mine p r k → k < w.heap.size := fun k hk => h.mine_lt hk
    clear hT h
    go_enter Try.func21, Try.ntmps21
    go_wp2_with fail
    refine hT'.mono ?_
    rintro e w1 ⟨rfl, g1, g2⟩
    have hH := has_calls w1 p D.tick.1 r T n g1
    have hfrom : ∀ {D' : DS} {w' : World}, DGo p w1 r T D' w' → DGo p w r T D' w' := fun hg => DGo.trans ⟨g2.os, g2.tape, g2.output, by rw [g2.size]; exact Nat.le_refl _, fun k _ hk => g2.block k (fun e => hk (.inl e))⟩ (fun k hk => .inl hk) (fun k hk => .inl hk) hg
    subst hsvE
    by_cases hbad : n < 0 ∨ D.blocks ≤ n ∨ b.length ≠ 512
    · have E : Hid (D.write n b = (D.tick.1, 1)) := by show _ = _; unfold DS.write; rw [if_neg (by rw [hb]; simp), if_pos hbad]
      have R : DGo p w r T D.tick.1 w1 := hfrom ⟨r, T, g1, Fr.refl _ _, fun k hk => .inl hk, fun k hk => .inl hk⟩
      cases hB : D.tick.1.hasB n with
      | false =>
        rw [hB] at hH
        clear hT' hsv2 g1 g2 hb hB hfrom hmine
        go_wp2_with (go_at_call 42; refine hH.mono ?_; rintro e w1' ⟨rfl, rfl⟩)
        go_ret
        rw [E.out]
        exact ⟨rfl, R⟩
      | true =>
        have hl : b.length ≠ 512 := by
          unfold DS.hasB at hB
          simp [ht6] at hB
          omega
        have hl2 : ((b.length : Int) == 512) = false := by simp; omega
        have hl3 : ((b.length : Int) != 512) = true := by simp; omega
        rw [hB] at hH
        clear hT' hsv2 g1 g2 hb hB hbad hfrom hmine
        generalize b.length = bl at *
        go_wp2_with (go_at_call 42; refine hH.mono ?_; rintro e w1' ⟨rfl, rfl⟩)
        go_ret
        rw [E.out]
        exact ⟨rfl, R⟩
    · have hg0 : 0 ≤ n := by omega
      have hg1 : n < D.blocks := by omega
      have hg2 : b.length = 512 := by omega
      have E : Hid (D.write n b = (D.tick.1.put n b, 0)) := by show _ = _; unfold DS.write; rw [if_neg (by rw [hb]; simp), if_neg hbad]
      have hB : D.tick.1.hasB n = true := by unfold DS.hasB; simp [ht6]; omega
      have hin : 0 ≤ n ∧ n < D.tick.1.blocks := by rw [ht6]; exact ⟨hg0, hg1⟩
      rw [hB] at hH
      rw [hg2] at hcap
      rcases hsv2 with ⟨_, e2, _⟩ | ⟨g, off, rfl, e4, e5, e6⟩
      · subst e2; cases hg2
      have hgm := hr0 g e4
      have e6' : ∀ j u, (bc b)[j]? = some u → w1.cell? ⟨g, off + j, none⟩ = some u := fun j u hu => (World.cell?_of_block (g2.block g (fun e => hgm (.inl e)))).trans (e6 j u hu)
      have hgs : g < w1.heap.size := by rw [g2.size]; exact e5
      rw [hg2]
      have hnm : r.nl < maxLen := by unfold maxLen; omega
      clear hT' hbad e6 hB hr0 hcl hlc0 hlc hnc hbl ht1 ht2 ht3 ht4 ht5 ht6
      generalize D.tick.1 = D1 at *
      obtain ⟨k0, k1, k2, k3, _⟩ := cell10 g1.blk
      have kf3 := free10 g1.blk 3
      have hpl := lt_block g1.blk
      have hll := g1.ml.lt
      -- the end, from the world behind the order
      have hEnd : ∀ (w3 : World) (nv : Value), (w3.os = w1.os ∧ w3.tape = w1.tape ∧ w3.output = w1.output ∧ w1.heap.size ≤ w3.heap.size) → w3.heap[p]? = some (.cells (devCells D1 { r with ov := nv }) 60 (0, 0)) → w3.ownsRow 0 3 1 nv (D1.put n b).loose.length (ic (D1.put n b).loose) → (∀ k, nv.ownBlock = some k → r.ov.ownBlock = some k ∨ w1.heap.size ≤ k) → (∀ k, k < w1.heap.size → k ≠ p → r.ov.ownBlock ≠ some k → w3.heap[k]? = w1.heap[k]?) →
          Calls Try.prog 43 #[.slice (some ⟨g, off, none⟩) 512 cap] w3.drew fun e w4 => ∃ g4 cap4, e = .returned (.slice (some ⟨g4, 0, none⟩) 512 cap4) ∧ ∃ w5, (Instr.mapUpdate 56 (.map (some r.lb)) (.int .i64 n) (.slice (some ⟨g4, 0, none⟩) 512 cap4)).run Try.prog w4 = .ok () w5 ∧ w4.cell? ⟨p, 2, none⟩ = some (.map (some r.lb)) ∧ w5.cell? ⟨p, 2, none⟩ = some (.map (some r.lb)) ∧ DGo p w1 r T (D1.put n b) w5 := by
        intro w3 nv hos hblk hrow hnv h13
        have hgo : r.ov.ownBlock ≠ some g := fun e => hgm (.inr (.inr (.inr e)))
        have hgp : g ≠ p := fun e => hgm (.inl e)
        have hll3 : r.lb < w3.heap.size := by have := hos.2.2.2; omega
        have hb3 : w3.heap[r.lb]? = w1.heap[r.lb]? := h13 r.lb hll (Ne.symm g1.pl) (fun e => (g1.po _ e).2.2 rfl)
        have hcl := clone_calls w3.drew g off cap b (by omega) (by omega) (fun j u hu => (World.cell?_of_block (h13 g hgs hgp hgo)).trans (e6' j u hu))
        rw [hg2] at hcl
        refine hcl.mono ?_
        rintro e w4 ⟨g4, cap4, rfl, hg4, ho4, hb4⟩
        rw [hg2] at ho4
        have hp3 := lt_block hblk
        obtain ⟨w5, hrun, hm5, hg5⟩ := MapV.store (g1.ml.kept ((hb4.block r.lb hll3).trans hb3)) hnm hn (.slice (some ⟨g4, 0, none⟩) 512 cap4)
        have hc4 : w4.cell? ⟨p, 2, none⟩ = some (.map (some r.lb)) := (World.cell?_of_block (hb4.block p hp3)).trans (cell10 hblk).2.2.1
        refine ⟨g4, cap4, by rw [hg2], w5, hrun, hc4, ?_, put_end g1 hg2 hin hlc1 hnc1 hos hblk hrow hnv h13 hg4 ho4 hb4 hm5 hg5⟩
        exact hg5.cell hc4 (fun e => by cases e; exact g1.pl rfl)
      have HE : Hid (_) := hEnd
      clear hEnd
      cases hL : r.L n with
      | some v =>
        have hlk := lookM g1.ml hn hL
        have hmem : n ∈ D1.loose := (g1.inL n).1 (by rw [hL]; rfl)
        have hC := HE.out w1 r.ov ⟨rfl, rfl, rfl, Nat.le_refl _⟩ g1.blk (by have e : (D1.put n b).loose = D1.loose := (by unfold DS.put; simp [hmem]); rw [e]; exact g1.row) (fun k hk => .inl hk) (fun k _ _ _ => rfl)
        have d1 : w1.drew.cell? ⟨p, 2, none⟩ = some (.map (some r.lb)) := k2
        go_wp2_with (go_at_call 42; refine hH.mono ?_; rintro e w1' ⟨rfl, rfl⟩)
        go_region_held3 (fun w' => w'.cell? ⟨p, 2, none⟩ = some (.map (some r.lb))) (first | exact k2 | exact d4 | exact d5 | fail)
          (first | (go_at_call 43; refine hC.mono ?_; rintro e w4 ⟨g4, cap4, rfl, w5, hrun, d4, d5, hg⟩))
        go_wp2
        go_ret
        rw [E.out]
        exact ⟨rfl, hfrom hg⟩
      | none =>
        have hlk := lookN g1.ml hn hL
        have hmem : n ∉ D1.loose := fun hm => by have := (g1.inL n).2 hm; rw [hL] at this; cases this
        obtain ⟨i0, hi, hz0, hz1, hz2⟩ := info_parts Try.info_i64
        go_wp2_with (first | (go_at_call 42; refine hH.mono ?_; rintro e w1' ⟨rfl, rfl⟩) | (at_builtin; refine wpList_append_lies _ rfl _ _ 38 rfl 0 3 i0 (.int .i64 0) 1 8 Try.underlying38 hi hz0 hz1 hz2 rfl (by omega) r.ov D1.loose.length (ic D1.loose) rfl (g1.row.alloc _) ⟨_, 0, none⟩ 1 1 [.int .i64 n] rfl rfl (World.news_of_block (cs := #[_]) (heap_alloc_new _ _)) (by intro u hu; simp at hu; subst hu; rfl) (by omega) (by unfold maxLen; omega) (by omega) (by simp) _ rfl ?_; intro g5 cap5 w2 hown2 hgrow2 hat2 hlt2; obtain ⟨x3, xf3, hC, y2⟩ := order_end g1 hmem hown2 hgrow2 hat2 HE.out))
        go_region_held3 (fun w' => w'.cell? ⟨p, 2, none⟩ = some (.map (some r.lb))) (first | exact y2 | exact d4 | exact d5 | fail)
          (first | (go_at_call 43; refine hC.mono ?_; rintro e w4 ⟨g4, cap4, rfl, w5, hrun, d4, d5, hg⟩))
        go_wp2
        go_ret
        rw [E.out]
        exact ⟨rfl, hfrom hg⟩
end Go.Proofs.Ytmemhckkfhlnmaa
