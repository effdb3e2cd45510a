import Derived.Test.YtjhdnpplmlddaaaGreatB24
import Derived.Test.YtjhdnpplmlddaaaGreatB23
/- What the calls that change counts come to: Inc, Mark, Dec, Take. -/
namespace Go.Proofs.YtjhdnpplmlddaaaGreat
set_option linter.unusedVariables false
open Go.RowKit
attribute [local go_sem ↓] Go.wp_at_zero Go.wp_at_succ

theorem Rf.put {w w' : World} {p b K : Nat} {S : RfS} (h : Rf w p b K S) {n c : Int} (hm : MapR w' b (K + 1) (putL S.L n c)) (hg : w.grownBy w' (some b)) (hn : 2 ≤ n ∧ n < S.blocks) (hc : 1 ≤ c ∧ c ≤ (K : Int) + 1) :
    RGo w p b K ⟨S.blocks, putL S.L n c, S.low⟩ w' :=
  ⟨⟨h.ok.put hn hc, (hg.block p h.lt.1 (fun e => h.pb (by cases e; rfl))).trans h.blk, hm, h.pb⟩, (Touch.refl _ _ _).grown hg⟩
theorem Rf.same {w : World} {p b K : Nat} {S : RfS} (h : Rf w p b K S) : RGo w p b K S w := ⟨h.mono (Nat.le_succ _), Touch.refl _ _ _⟩

set_option maxHeartbeats 1000000 in
theorem inc_calls (w : World) (p b K : Nat) (S : RfS) (n : Int) (h : Rf w p b K S) (hn : I64 n) (hK : K ≤ 1000000) : Calls Tryz.prog 121 #[.pointer (some ⟨p, 0, none⟩), .int .i64 n] w fun e w' => e = .returned (.int .i64 (S.need n)) ∧ RGo w p b K (S.inc n) w' := by
  obtain ⟨_, c1, _⟩ := cells3 h.blk
  have hl := h.mp.look hn
  have hh := needed_calls w p b K S n h hn
  by_cases hz : S.need n = 0
  · have E : Hid (S.inc n = ⟨S.blocks, putL S.L n (cnt S.L n + 1), S.low⟩) := by show _ = _; unfold RfS.inc; rw [if_pos hz]
    have hc := h.ok.cnt0 n
    have HR : Hid (∀ w', MapR w' b (K + 1) (putL S.L n (cnt S.L n + 1)) → w.grownBy w' (some b) → RGo w p b K ⟨S.blocks, putL S.L n (cnt S.L n + 1), S.low⟩ w') := fun w' h1 h2 => h.put h1 h2 (RfS.has_iff.1 (RfS.need_zero hz).1) ⟨by omega, by omega⟩
    have HM : Hid (MapR w b K S.L) := h.mp
    have c2 : cnt S.L n ≤ 1000000 := by omega
    have c3 := hc.1
    rw [hz] at hh
    have HZ : Hid (S.need n = 0) := hz
    clear hc hz h
    generalize hcc : cnt S.L n = c at *
    clear hcc
    go_enter Tryz.func121, Tryz.ntmps121
    go_wp2_with (first | (go_at_call 123; refine hh.mono ?_; rintro e w1 ⟨rfl, rfl⟩) | (at_mapUpdate; refine wpList_store_r _ rfl _ _ _ rfl b K S.L rfl HM.out (by unfold maxLen; omega) n hn rfl (c + 1) ⟨by omega, by omega⟩ rfl ?_; intro w2 hm2 hg2))
    go_ret
    exact ⟨by rw [HZ.out]; rfl, by rw [E.out]; exact HR.out _ hm2 hg2⟩
  · have E : Hid (S.inc n = S) := by show _ = _; unfold RfS.inc; rw [if_neg hz]
    have HS : Hid (RGo w p b K S w) := h.same
    have hz2 : (S.need n == 0) = false := by simpa using hz
    clear hz h hl c1
    generalize S.need n = c at *
    go_enter Tryz.func121, Tryz.ntmps121
    go_wp2_with (first | (go_at_call 123; refine hh.mono ?_; rintro e w1 ⟨rfl, rfl⟩))
    go_ret
    exact ⟨rfl, by rw [E.out]; exact HS.out⟩

set_option maxHeartbeats 1000000 in
set_option maxRecDepth 100000 in
theorem dec_calls (w : World) (p b K : Nat) (S : RfS) (n : Int) (h : Rf w p b K S) (hn : I64 n) (hK : K ≤ 1000000) : Calls Tryz.prog 120 #[.pointer (some ⟨p, 0, none⟩), .int .i64 n] w fun e w' => e = .returned (.tuple #[.bool (S.last n), .int .i64 (S.need n)]) ∧ RGo w p b K (S.dec n) w' := by
  obtain ⟨_, c1, _⟩ := cells3 h.blk
  have hl := h.mp.look hn
  have hh := needed_calls w p b K S n h hn
  by_cases hz : S.need n = 0
  · have hc := h.ok.cnt0 n
    have hc0 := (RfS.need_zero hz).2
    have hin := RfS.has_iff.1 (RfS.need_zero hz).1
    have HM : Hid (MapR w b K S.L) := h.mp
    have HZ : Hid (S.need n = 0) := hz
    have HG : Hid (∀ w', MapR w' b (K + 1) (putL S.L n (cnt S.L n - 1)) → w.grownBy w' (some b) → w'.cell? ⟨p, 1, none⟩ = some (.map (some b)) ∧ (Instr.lookup 106 (.map (some b)) (.int .i64 n) false).run Tryz.prog w' = .ok (.int .i64 (cnt S.L n - 1)) w') := fun w' h1 h2 => by
      have h4 := h1.look hn
      rw [cnt_put h.ok.rise, if_pos rfl] at h4
      refine ⟨?_, h4⟩
      exact (cells3 ((h2.block p h.lt.1 (fun e => h.pb (by cases e; rfl))).trans h.blk)).2.1
    rw [hz] at hh
    by_cases h1 : cnt S.L n = 1
    · have E : Hid (S.dec n = ⟨S.blocks, delL S.L n, min S.low n⟩ ∧ S.last n = true) := by
        refine ⟨?_, ?_⟩
        · unfold RfS.dec; rw [if_pos hz, if_pos h1]
        · unfold RfS.last; simp [hz, h1]
      have HR : Hid (∀ w' w'', MapR w' b (K + 1) (putL S.L n 0) → w.grownBy w' (some b) → MapR w'' b (K + 1) (delL (putL S.L n 0) n) → w'.grownBy w'' (some b) → w''.cell? ⟨p, 2, none⟩ = some (.int .i64 S.low) ∧ w''.frozen? ⟨p, 2, none⟩ = false ∧ ∀ m, m = min S.low n → RGo w p b K ⟨S.blocks, delL S.L n, min S.low n⟩ (w''.setCell ⟨p, 2, none⟩ (.int .i64 m))) := fun w' w'' a1 a2 a3 a4 => by
        have e1 := (a2.block p h.lt.1 (fun e => h.pb (by cases e; rfl))).trans h.blk
        have e2 := (a4.block p (lt_block e1) (fun e => h.pb (by cases e; rfl))).trans e1
        refine ⟨(cells3 e2).2.2, (free3 e2).2.2, fun m hm => ?_⟩
        subst hm
        rw [del_put] at a3
        refine ⟨⟨(h.ok.del n hin.1).mono (Nat.le_succ _), (set3 e2).2.2, a3.kept ?_, h.pb⟩, (((Touch.refl _ _ _).grown a2).grown a4).setCell _ _⟩
        exact Below.heap_setCell _ _ _ _ (by simpa using h.pb.symm)
      have l1 : 2 ≤ S.low := h.ok.l1
      have l2 : S.low ≤ S.blocks := h.ok.l2
      have l3 := h.ok.b2
      rw [h1] at HG hl
      have n1 := hin.1
      have n2 := hin.2
      clear h hz hc hc0 h1 hin
      generalize S.low = lo at *
      generalize S.blocks = bl at *
      go_enter Tryz.func120, Tryz.ntmps120
      go_wp2_with (first | (go_at_call 123; refine hh.mono ?_; rintro e w1 ⟨rfl, rfl⟩) | (at_mapUpdate; go_loud (refine wpList_store_r _ rfl _ _ _ rfl b K S.L rfl HM.out (by unfold maxLen; omega) n hn rfl 0 ⟨by omega, by omega⟩ rfl ?_; intro w2 hm2 hg2; obtain ⟨k2, x2⟩ := HG.out _ hm2 hg2; have HM2 : Hid (MapR w2 b (K + 1) (putL S.L n 0)) := hm2; have HG2 : Hid (World.grownBy _ w2 (some b)) := hg2; clear hm2 hg2)) | (at_delete; refine wpList_delete_r _ rfl _ _ rfl b (K + 1) (putL S.L n 0) rfl HM2.out n hn rfl ?_; intro w3 hm3 hg3; obtain ⟨k3, k4, k5⟩ := HR.out _ _ HM2.out HG2.out hm3 hg3; clear hm3 hg3))
      all_goals
        go_ret2
        exact ⟨by rw [E.out.2, HZ.out]; rfl, by rw [E.out.1]; exact k5 _ (by omega)⟩
    · have E : Hid (S.dec n = ⟨S.blocks, putL S.L n (cnt S.L n - 1), S.low⟩ ∧ S.last n = false) := by
        refine ⟨?_, ?_⟩
        · unfold RfS.dec; rw [if_pos hz, if_neg h1]
        · unfold RfS.last; simp [h1]
      have HR : Hid (∀ w', MapR w' b (K + 1) (putL S.L n (cnt S.L n - 1)) → w.grownBy w' (some b) → RGo w p b K ⟨S.blocks, putL S.L n (cnt S.L n - 1), S.low⟩ w') := fun w' a1 a2 => h.put a1 a2 hin ⟨by omega, by omega⟩
      have c2 : cnt S.L n ≤ 1000000 := by omega
      have c3 : 2 ≤ cnt S.L n := by omega
      clear h hz hc hc0 h1
      generalize hcc : cnt S.L n = c at *
      clear hcc
      go_enter Tryz.func120, Tryz.ntmps120
      go_wp2_with (first | (go_at_call 123; refine hh.mono ?_; rintro e w1 ⟨rfl, rfl⟩) | (at_mapUpdate; refine wpList_store_r _ rfl _ _ _ rfl b K S.L rfl HM.out (by unfold maxLen; omega) n hn rfl (c - 1) ⟨by omega, by omega⟩ rfl ?_; intro w2 hm2 hg2; obtain ⟨k2, x2⟩ := HG.out _ hm2 hg2; have R2 := HR.out _ hm2 hg2; clear hm2 hg2))
      go_ret2
      exact ⟨by rw [E.out.2, HZ.out]; rfl, by rw [E.out.1]; exact R2⟩
  · have E : Hid (S.dec n = S ∧ S.last n = false) := by
      refine ⟨?_, ?_⟩
      · unfold RfS.dec; rw [if_neg hz]
      · unfold RfS.last; simp [hz]
    have HS : Hid (RGo w p b K S w) := h.same
    have hz2 : (S.need n == 0) = false := by simpa using hz
    clear hz h hl c1
    generalize S.need n = c at *
    go_enter Tryz.func120, Tryz.ntmps120
    go_wp2_with (first | (go_at_call 123; refine hh.mono ?_; rintro e w1 ⟨rfl, rfl⟩))
    go_ret2
    exact ⟨by rw [E.out.2]; rfl, by rw [E.out.1]; exact HS.out⟩
end Go.Proofs.YtjhdnpplmlddaaaGreat
/- What Take comes to: the closure that tells whether a block is free, the search for the least one. -/
namespace Go.Proofs.YtjhdnpplmlddaaaGreat
set_option linter.unusedVariables false
open Go.RowKit
attribute [local go_sem ↓] Go.wp_at_zero Go.wp_at_succ

set_option maxHeartbeats 400000 in
theorem closure_calls (w : World) (p b K q : Nat) (L : PL) (n : Int) (c1 : w.cell? ⟨p, 1, none⟩ = some (.map (some b))) (hq : w.cell? ⟨q, 0, none⟩ = some (.pointer (some ⟨p, 0, none⟩))) (hm : MapR w b K L) (hn : I64 n) :
    Calls Tryz.prog 125 #[.int .i64 n, .pointer (some ⟨q, 0, none⟩)] w fun e w' => e = .returned (.bool (cnt L n == 0)) ∧ w' = w := by
  have hl := hm.look hn
  clear hm
  generalize cnt L n = c at *
  go_enter Tryz.func125, Tryz.ntmps125
  go_wp2
  go_ret
  exact ⟨rfl, rfl⟩

theorem lst_step {f : Int → Bool} {lo j hi : Int} (h : j < hi) (hf : f j = false) (E : lst f lo (hi - lo).toNat = lst f j (hi - j).toNat) : lst f lo (hi - lo).toNat = lst f (j + 1) (hi - (j + 1)).toNat := by
  rw [E]
  have e : (hi - j).toNat = (hi - (j + 1)).toNat + 1 := by omega
  rw [e, lst, if_neg (by rw [hf]; simp)]
theorem lst_hit {f : Int → Bool} {lo j hi : Int} (h : j < hi) (hf : f j = true) (E : lst f lo (hi - lo).toNat = lst f j (hi - j).toNat) : lst f lo (hi - lo).toNat = j := by
  rw [E]
  have e : (hi - j).toNat = (hi - (j + 1)).toNat + 1 := by omega
  rw [e, lst, if_pos hf]
theorem lst_end {f : Int → Bool} {lo hi : Int} (E : lst f lo (hi - lo).toNat = lst f hi (hi - hi).toNat) : lst f lo (hi - lo).toNat = hi := by
  rw [E]
  have e : (hi - hi).toNat = 0 := by omega
  rw [e, lst]
set_option maxHeartbeats 1000000 in
set_option maxRecDepth 100000 in
theorem least_calls (w : World) (q : Nat) (f : Int → Bool) (lo hi : Int) (h1 : 2 ≤ lo) (h2 : lo ≤ hi) (h3 : hi ≤ 4294967296)
    (hc : ∀ n, 2 ≤ n → n < hi → Calls Tryz.prog 125 #[.int .i64 n, .pointer (some ⟨q, 0, none⟩)] w fun e w' => e = .returned (.bool (f n)) ∧ w' = w) :
    Calls Tryz.prog 124 #[.int .i64 lo, .int .i64 hi, .func (.func 125) #[] #[.pointer (some ⟨q, 0, none⟩)]] w fun e w' => e = .returned (.int .i64 (lst f lo (hi - lo).toNat)) ∧ w' = w := by
  have eg : ∀ args w, (callFunc 125 args).run Tryz.prog w = .ok (.enter 125 args) w := enters_of Tryz.func125 (by kernel_rfl) rfl
  obtain ⟨N, hN⟩ : ∃ N : Nat, (N : Int) = hi - lo := ⟨(hi - lo).toNat, by omega⟩
  have HC : Hid (∀ n, 2 ≤ n → n < hi → Calls Tryz.prog 125 #[.int .i64 n, .pointer (some ⟨q, 0, none⟩)] w fun e w' => e = .returned (.bool (f n)) ∧ w' = w) := hc
  clear hc
  have HN : Hid ((N : Int) = hi - lo) := hN
  clear hN
  go_enter Tryz.func124, Tryz.ntmps124
  go_wp2
  go_loopg [7] N (fun g i wr => ∃ j : Int, lo ≤ j ∧ j + (g : Int) = hi ∧ i = .int .i64 j ∧ wr = w ∧ Hid (lst f lo (hi - lo).toNat = lst f j (hi - j).toNat))
  case atStart => exact ⟨lo, by omega, by have := HN.out; omega, rfl, rfl, (show _ = _ from rfl)⟩
  case round =>
    obtain ⟨j, hj0, hj, rfl, rfl, HE⟩ := hrel
    cases gk with
    | zero =>
      have e : j = hi := by omega
      subst e
      have E2 : Hid (lst f lo (j - lo).toNat = j) := lst_end HE.out
      clear HE
      go_wp2_with fail
      go_ret
      exact ⟨by rw [E2.out]; rfl, rfl⟩
    | succ g =>
      have hlt : j < hi := by omega
      have hcc := HC.out j (by omega) hlt
      cases hf : f j with
      | true =>
        have E2 : Hid (lst f lo (hi - lo).toNat = j) := lst_hit hlt hf HE.out
        rw [hf] at hcc
        clear HE
        go_wp2_with (go_at_call 125; refine hcc.mono ?_; rintro e w1 ⟨rfl, rfl⟩)
        go_ret
        exact ⟨by rw [E2.out]; rfl, rfl⟩
      | false =>
        have E2 : Hid (lst f lo (hi - lo).toNat = lst f (j + 1) (hi - (j + 1)).toNat) := lst_step hlt hf HE.out
        rw [hf] at hcc
        clear HE
        go_wp2_with (go_at_call 125; refine hcc.mono ?_; rintro e w1 ⟨rfl, rfl⟩)
        go_roundg g
        case measure => omega
        case rel => exact ⟨j + 1, by omega, by omega, rfl, rfl, E2⟩

theorem cell_one {w : World} {b : Nat} {x : Value} {t : TypeId} (h : w.heap[b]? = some (.cells #[x] t (0, 0))) : w.cell? ⟨b, 0, none⟩ = some x := by simp [World.cell?, h]
theorem RGo.of_setCell {w w1 : World} {p b K : Nat} {S : RfS} (h : Rf w1 p b K S) (ht : Touch p (some b) w w1) (x : Int) (S' : RfS) (hb : S'.blocks = S.blocks) (hL : S'.L = S.L) (hx : S'.low = x) (hok : S'.Ok (K + 1)) : RGo w p b K S' (w1.setCell ⟨p, 2, none⟩ (.int .i64 x)) := by
  refine ⟨⟨hok, ?_, ?_, h.pb⟩, ht.setCell _ _⟩
  · rw [hb, hx]; exact (set3 h.blk).2.2
  · rw [hL]
    exact (h.mp.mono (Nat.le_succ _)).kept (Below.heap_setCell _ _ _ _ (by simpa using h.pb.symm))
set_option maxHeartbeats 2000000 in
set_option maxRecDepth 100000 in
theorem take_calls (w : World) (p b K : Nat) (S : RfS) (h : Rf w p b K S) (hK : K ≤ 1000000) : Calls Tryz.prog 122 #[.pointer (some ⟨p, 0, none⟩)] w fun e w' => e = .returned (.tuple #[.int .i64 S.tookN, .bool S.took]) ∧ RGo w p b K S.take w' := by
  have hlt := h.lt
  have hB : Below w.heap.size w (w.alloc (.cells #[.pointer (some ⟨p, 0, none⟩)] 67)).drew := ((Below.refl _ w).alloc (Nat.le_refl _) _).drew
  have h1 : Rf (w.alloc (.cells #[.pointer (some ⟨p, 0, none⟩)] 67)).drew p b K S := h.below hB (Nat.le_refl _)
  have hT : Touch p (some b) w (w.alloc (.cells #[.pointer (some ⟨p, 0, none⟩)] 67)).drew := ((Touch.refl _ _ _).alloc _).drew
  have hq : (w.alloc (.cells #[.pointer (some ⟨p, 0, none⟩)] 67)).drew.cell? ⟨w.heap.size, 0, none⟩ = some (.pointer (some ⟨p, 0, none⟩)) := cell_one (heap_alloc_new _ _)
  obtain ⟨c0, c1, c2⟩ := cells3 h1.blk
  have hcl := least_calls (w.alloc (.cells #[.pointer (some ⟨p, 0, none⟩)] 67)).drew w.heap.size (fun n => cnt S.L n == 0) S.low S.blocks h.ok.l1 h.ok.l2 h.ok.b2
    (fun n n1 n2 => closure_calls _ p b K w.heap.size S.L n c1 hq h1.mp ⟨by omega, by have := h.ok.b2; omega⟩)
  have HN : Hid (lst (fun n => cnt S.L n == 0) S.low (S.blocks - S.low).toNat = S.next) := rfl
  rw [HN.out] at hcl
  obtain ⟨a1, a2, a3, a4⟩ := h.ok.next
  have b2 := h.ok.b2
  have f2 := (free3 h1.blk).2.2
  by_cases he : S.next = S.blocks
  · have E : Hid (S.take = ⟨S.blocks, S.L, S.next⟩ ∧ S.tookN = 0 ∧ S.took = false) := ⟨by unfold RfS.take; rw [if_pos he], by unfold RfS.tookN; rw [if_pos he], by unfold RfS.took; rw [he]; simp⟩
    have HR : Hid (RGo w p b K ⟨S.blocks, S.L, S.next⟩ ((w.alloc (.cells #[.pointer (some ⟨p, 0, none⟩)] 67)).drew.setCell ⟨p, 2, none⟩ (.int .i64 S.next))) := RGo.of_setCell h1 hT S.next _ rfl rfl rfl (by have := h.ok.take; rw [E.out.1] at this; exact this)
    have e2 : (S.next == S.blocks) = true := by simpa using he
    clear h h1 hB hT he
    go_enter Tryz.func122, Tryz.ntmps122
    go_wp2_with fail
    go_region_held3 (fun w' => w'.cell? ⟨w.heap.size, 0, none⟩ = some (.pointer (some ⟨p, 0, none⟩)) ∧ w'.cell? ⟨p, 0, none⟩ = some (.int .i64 S.blocks) ∧ w'.cell? ⟨p, 2, none⟩ = some (.int .i64 S.low)) (exact ⟨hq, c0, c2⟩)
      (first | (go_at_call 124; refine hcl.mono ?_; rintro e w1 ⟨rfl, rfl⟩))
    have HL : Hid (w.heap.size ≠ p) := by show _ ≠ _; omega
    generalize (w.alloc (.cells #[.pointer (some ⟨p, 0, none⟩)] 67)).drew = W at *
    generalize w.heap.size = q at *
    have q1 := HL.out
    have q2 := q1.symm
    clear hcl hlt
    go_wp2
    go_ret2
    exact ⟨by rw [E.out.2.1, E.out.2.2]; rfl, by rw [E.out.1]; exact HR.out⟩
  · have E : Hid (S.take = ⟨S.blocks, putL S.L S.next 1, S.next⟩ ∧ S.tookN = S.next ∧ S.took = true) := ⟨by unfold RfS.take; rw [if_neg he], by unfold RfS.tookN; rw [if_neg he], by unfold RfS.took; simpa using he⟩
    have hS1 : RGo w p b K ⟨S.blocks, S.L, S.next⟩ ((w.alloc (.cells #[.pointer (some ⟨p, 0, none⟩)] 67)).drew.setCell ⟨p, 2, none⟩ (.int .i64 S.next)) := RGo.of_setCell h1 hT S.next _ rfl rfl rfl (by have := h.ok.mono (Nat.le_succ K); exact ⟨this.b1, this.b2, this.rise, this.inB, a1, a2, a3⟩)
    have HM : Hid (MapR ((w.alloc (.cells #[.pointer (some ⟨p, 0, none⟩)] 67)).drew.setCell ⟨p, 2, none⟩ (.int .i64 S.next)) b K S.L) := h1.mp.kept (Below.heap_setCell _ _ _ _ (by simpa using h.pb.symm))
    have HR : Hid (∀ w', MapR w' b (K + 1) (putL S.L S.next 1) → ((w.alloc (.cells #[.pointer (some ⟨p, 0, none⟩)] 67)).drew.setCell ⟨p, 2, none⟩ (.int .i64 S.next)).grownBy w' (some b) → RGo w p b K ⟨S.blocks, putL S.L S.next 1, S.next⟩ w') := fun w' x1 x2 => by
      refine ⟨⟨by have := h.ok.take; rw [E.out.1] at this; exact this, (x2.block p hS1.1.lt.1 (fun e => h.pb (by cases e; rfl))).trans hS1.1.blk, x1, h.pb⟩, hS1.2.grown x2⟩
    have e2 : (S.next == S.blocks) = false := by simpa using he
    clear h h1 hB hT he hS1
    go_enter Tryz.func122, Tryz.ntmps122
    go_wp2_with fail
    go_region_held3 (fun w' => w'.cell? ⟨w.heap.size, 0, none⟩ = some (.pointer (some ⟨p, 0, none⟩)) ∧ w'.cell? ⟨p, 0, none⟩ = some (.int .i64 S.blocks) ∧ w'.cell? ⟨p, 2, none⟩ = some (.int .i64 S.low)) (exact ⟨hq, c0, c2⟩)
      (first | (go_at_call 124; refine hcl.mono ?_; rintro e w1 ⟨rfl, rfl⟩))
    have HL : Hid (w.heap.size ≠ p) := by show _ ≠ _; omega
    generalize (w.alloc (.cells #[.pointer (some ⟨p, 0, none⟩)] 67)).drew = W at *
    generalize w.heap.size = q at *
    have q1 := HL.out
    have q2 := q1.symm
    clear hcl hlt a3 a4
    go_wp2_with (at_mapUpdate; refine wpList_store_r _ rfl _ _ _ rfl b K S.L rfl HM.out (by unfold maxLen; omega) S.next ⟨by omega, by omega⟩ rfl 1 ⟨by omega, by omega⟩ rfl ?_; intro w2 hm2 hg2)
    go_ret2
    exact ⟨by rw [E.out.2.1, E.out.2.2]; rfl, by rw [E.out.1]; exact HR.out _ hm2 hg2⟩
end Go.Proofs.YtjhdnpplmlddaaaGreat
/- The Memory of package tree. -/
namespace Go.Proofs.YtjhdnpplmlddaaaGreat
set_option linter.unusedVariables false
open Go.RowKit

/-- An element as it is. -/
def rawElem (v : Value) : Option (DataW Value × List MemPlace) := some (.held v, [])
theorem klit_ne {a b : Int} (h : a ≠ b) : klit a ≠ klit b := fun e => h (by unfold klit at e; cases e; rfl)
abbrev nodZ : Value := nv nilN (.slice none 0 0) (.slice none 0 0)
theorem klitN_key (k : Int) : WideAt.IsKeyLit (klit k) := trivial
/-- Block b is a map of at most n entries: at each key what f tells. -/
def MapN (w : World) (b n : Nat) (f : Int → Option Value) : Prop :=
  ∃ D : DataW Value, w.ownsMap Tryz.prog 3 rawElem b n D ∧ ∀ k, Maps.has D (klit k) = (f k).isSome ∧ ∀ v, f k = some v → ∀ z, D.atKey (klit k) z = .held v
theorem MapN.lt {w : World} {b n : Nat} {f : Int → Option Value} (h : MapN w b n f) : b < w.heap.size := by
  obtain ⟨D, h, _⟩ := h
  exact h.lt
theorem MapN.kept {w w' : World} {b n : Nat} {f : Int → Option Value} (h : MapN w b n f) (hb : w'.heap[b]? = w.heap[b]?) : MapN w' b n f := by
  obtain ⟨D, ⟨es, clock, h1, h2⟩, h3⟩ := h
  exact ⟨D, ⟨es, clock, hb.trans h1, h2⟩, h3⟩
theorem MapN.mono {w : World} {b n n' : Nat} {f : Int → Option Value} (h : MapN w b n f) (hn : n ≤ n') : MapN w b n' f := by
  obtain ⟨D, h1, h3⟩ := h
  exact ⟨D, h1.mono hn, h3⟩
theorem MapN.made (w : World) : MapN (w.alloc (.map #[] 0)) w.heap.size 0 (fun _ => none) :=
  ⟨_, World.ownsMap_made w _ _ _, fun k => ⟨rfl, fun v h => by cases h⟩⟩
theorem held_inj {v x : Value} (h : (DataW.held v : DataW Value) = .held x) : v = x := by cases h; rfl
theorem zero_node (w : World) : (zeroValue 60).run Tryz.prog w = .ok nodZ w := by kernel_rfl
theorem MapN.look {w : World} {b n : Nat} {f : Int → Option Value} (h : MapN w b n f) {k : Int} (hk : I64 k) :
    (Instr.lookup 69 (.map (some b)) (.int .i64 k) true).run Tryz.prog w = .ok (.tuple #[(f k).getD nodZ, .bool (f k).isSome]) w := by
  obtain ⟨D, ho, hf⟩ := h
  obtain ⟨v, ps, hrun, hv⟩ := ho.look_ok (t := 69) keyed_int Tryz.underlying69 (zero_node w) (zd := .held nodZ) (zp := []) rfl (key_is hk)
  rw [hrun, (hf k).1]
  unfold rawElem at hv
  simp only [Option.some.injEq, Prod.mk.injEq] at hv
  have e : v = (f k).getD nodZ := by
    cases hfk : f k with
    | none =>
      have h1 : Maps.has D (klit k) = false := by rw [(hf k).1, hfk]; rfl
      rw [Maps.atKey_of_not_has h1] at hv
      exact held_inj hv.1
    | some x =>
      rw [(hf k).2 x hfk] at hv
      exact held_inj hv.1
  rw [e]
theorem MapN.look1 {w : World} {b n : Nat} {f : Int → Option Value} (h : MapN w b n f) {k : Int} (hk : I64 k) :
    (Instr.lookup 69 (.map (some b)) (.int .i64 k) false).run Tryz.prog w = .ok ((f k).getD nodZ) w := by
  obtain ⟨D, ho, hf⟩ := h
  obtain ⟨v, ps, hrun, hv⟩ := ho.lookup (t := 69) keyed_int Tryz.underlying69 (zero_node w) (zd := .held nodZ) (zp := []) rfl (key_is hk)
  rw [hrun]
  unfold rawElem at hv
  simp only [Option.some.injEq, Prod.mk.injEq] at hv
  have e : v = (f k).getD nodZ := by
    cases hfk : f k with
    | none =>
      have h1 : Maps.has D (klit k) = false := by rw [(hf k).1, hfk]; rfl
      rw [Maps.atKey_of_not_has h1] at hv
      exact held_inj hv.1
    | some x =>
      rw [(hf k).2 x hfk] at hv
      exact held_inj hv.1
  rw [e]
/-- f with another value at one key; without one. -/
def putAt (f : Int → Option Value) (k : Int) (v : Value) : Int → Option Value := fun j => if j = k then some v else f j
def delAt (f : Int → Option Value) (k : Int) : Int → Option Value := fun j => if j = k then none else f j
theorem MapN.store {w : World} {b n : Nat} {f : Int → Option Value} (h : MapN w b n f) (hn : n < maxLen) {k : Int} (hk : I64 k) (v : Value) :
    ∃ w', (Instr.mapUpdate 69 (.map (some b)) (.int .i64 k) v).run Tryz.prog w = .ok () w' ∧ MapN w' b (n + 1) (putAt f k v) ∧ w.grownBy w' (some b) := by
  obtain ⟨D, ho, hf⟩ := h
  obtain ⟨w', hrun, ho', ht⟩ := ho.store (t := 69) keyed_int Tryz.underlying69 hn (key_is hk) (val := v) (d := .held v) (ps := []) rfl
  refine ⟨w', hrun, ⟨_, ho', fun j => ?_⟩, ht.grown⟩
  unfold putAt
  by_cases e : j = k
  · subst e
    rw [Maps.has_put_same ho.isMap (klitN_key _), if_pos rfl]
    refine ⟨rfl, fun x hx z => ?_⟩
    cases hx
    exact Maps.atKey_put_same ho.isMap (klitN_key _) _ z
  · rw [Maps.has_put_other (klit_ne e), if_neg e]
    refine ⟨(hf j).1, fun x hx z => ?_⟩
    rw [Maps.atKey_put_other (klit_ne e)]
    exact (hf j).2 x hx z
theorem MapN.drop {w : World} {b n : Nat} {f : Int → Option Value} (h : MapN w b n f) {k : Int} (hk : I64 k) (ty : TypeId) :
    ∃ w', (Builtin.delete_ #[69, 3] ty #[.map (some b), .int .i64 k]).run Tryz.prog w = .ok (.tuple #[]) w' ∧ MapN w' b n (delAt f k) ∧ w.grownBy w' (some b) := by
  obtain ⟨D, ho, hf⟩ := h
  obtain ⟨w', hrun, ho', ht⟩ := ho.drop (t := 69) keyed_int Tryz.underlying69 (key_is hk) ty
  refine ⟨w', hrun, ⟨_, ho', fun j => ?_⟩, ht.grown⟩
  unfold delAt
  by_cases e : j = k
  · subst e
    rw [Maps.has_del_same, if_pos rfl]
    exact ⟨rfl, fun x hx => by cases hx⟩
  · rw [Maps.has_del_other (klit_ne e), if_neg e]
    refine ⟨(hf j).1, fun x hx z => ?_⟩
    rw [Maps.atKey_del_other (klit_ne e)]
    exact (hf j).2 x hx z
/-- A store at the operation, for the walk. -/
theorem wpList_store_n (w : World) {ops : Array Oper} {rest : List Oper} {o : Oper} {a : Act} {Q : Exit → Act → World → Prop} (hg : o.guard = none) (m x v : Operand) (hop : o.op = Op.mapUpdate 69 m x v)
    (b n : Nat) (f : Int → Option Value) (hm : a.eval m = .map (some b)) (h : MapN w b n f) (hn : n < maxLen) (k : Int) (hk : I64 k) (hx : a.eval x = .int .i64 k) (u : Value) (hv : a.eval v = u)
    (hK : ∀ w', MapN w' b (n + 1) (putAt f k u) → w.grownBy w' (some b) → wpList Tryz.prog ops Q rest (a.put o.dst undef) w') : wpList Tryz.prog ops Q (o :: rest) a w := by
  refine wpList_plain hg fun K' hK' => ?_
  obtain ⟨w', hrun, r1, r2⟩ := h.store hn hk u
  unfold Oper.wp
  simp [execOp, hop, hm, hx, hv, hrun, Result.andThen]
  exact hK' _ _ (hK w' r1 r2)
/-- A delete at the operation, for the walk. -/
theorem wpList_delete_n (w : World) {ops : Array Oper} {rest : List Oper} {o : Oper} {a : Act} {Q : Exit → Act → World → Prop} (hg : o.guard = none) (m x : Operand)
    (hop : o.op = Op.call { callee := Callee.builtin Builtin.delete, args := #[m, x], argTypes := #[69, 3] })
    (b n : Nat) (f : Int → Option Value) (hm : a.eval m = .map (some b)) (h : MapN w b n f) (k : Int) (hk : I64 k) (hx : a.eval x = .int .i64 k)
    (hK : ∀ w', MapN w' b n (delAt f k) → w.grownBy w' (some b) → wpList Tryz.prog ops Q rest (a.put o.dst (.tuple #[])) w') : wpList Tryz.prog ops Q (o :: rest) a w := by
  refine wpList_plain hg fun K' hK' => ?_
  obtain ⟨w', hrun, r1, r2⟩ := h.drop hk o.type
  unfold Oper.wp
  simp [execOp, hop, resolve, invoke, builtin, hm, hx, hrun, Result.andThen]
  exact hK' _ _ (hK w' r1 r2)
/-- A node that a memory has: plain, with its two slices. -/
abbrev NV := Nod × Value × Value
def nvOf (x : NV) : Value := nv x.1 x.2.1 x.2.2
/-- A memory: its struct in block p, refs in q and b, the nodes' map in m. -/
structure Mm (w : World) (p q b m K L : Nat) (S : RfS) (N : Int → Option NV) : Prop where
  blk : w.heap[p]? = some (.cells #[.pointer (some ⟨q, 0, none⟩), .map (some m)] 71 (0, 0))
  rf : Rf w q b K S
  mp : MapN w m L (fun n => (N n).map nvOf)
  pt : ∀ n x, N n = some x → Parts w x.1 x.2.1 x.2.2 ∧ (NilOk x.2.1 ∧ NilOk x.2.2) ∧ (x.1.ps.length ≤ 20 ∧ x.1.ks.length ≤ 20) ∧ Lim (fun k => k ≠ p ∧ k ≠ q ∧ k ≠ b ∧ k ≠ m) x.2.1 ∧ Lim (fun k => k ≠ p ∧ k ≠ q ∧ k ≠ b ∧ k ≠ m) x.2.2
  ap : p ≠ q ∧ p ≠ b ∧ p ≠ m ∧ q ≠ m ∧ b ≠ m
section
variable {w y z : World} {p q b m K L : Nat} {S : RfS} {N : Int → Option NV}
theorem Mm.lt (h : Mm w p q b m K L S N) : p < w.heap.size ∧ q < w.heap.size ∧ b < w.heap.size ∧ m < w.heap.size := ⟨lt_block h.blk, h.rf.lt.1, h.rf.lt.2, h.mp.lt⟩
theorem Mm.below (h : Mm y p q b m K L S N) {B : Nat} (bl : Below B y z) (hB : y.heap.size ≤ B) : Mm z p q b m K L S N := by
  have hl := h.lt
  exact ⟨(bl.block p (by omega)).trans h.blk, h.rf.below bl hB, h.mp.kept (bl.block m (by omega)), fun n x hx => ⟨(h.pt n x hx).1.below (bl.mono hB), (h.pt n x hx).2⟩, h.ap⟩
theorem Mm.cells (h : Mm w p q b m K L S N) : w.cell? ⟨p, 0, none⟩ = some (.pointer (some ⟨q, 0, none⟩)) ∧ w.cell? ⟨p, 1, none⟩ = some (.map (some m)) := cells2 h.blk
end
/-- Of the blocks that were there all but the memory's own are as they were. -/
structure FrM (q b m : Nat) (w w' : World) : Prop where
  os : w'.os = w.os
  tape : w'.tape = w.tape
  output : w'.output = w.output
  size : w.heap.size ≤ w'.heap.size
  block : ∀ k, k < w.heap.size → k ≠ q → k ≠ b → k ≠ m → w'.heap[k]? = w.heap[k]?
theorem FrM.of_below {q b m : Nat} {w w' : World} (h : Below w.heap.size w w') : FrM q b m w w' := ⟨h.os, h.tape, h.output, h.size, fun k hk _ _ _ => h.block k hk⟩
theorem FrM.trans {q b m : Nat} {x y z : World} (h : FrM q b m x y) (k : FrM q b m y z) : FrM q b m x z := ⟨k.os.trans h.os, k.tape.trans h.tape, k.output.trans h.output, Nat.le_trans h.size k.size, fun i hi h1 h2 h3 => (k.block i (by have := h.size; omega) h1 h2 h3).trans (h.block i hi h1 h2 h3)⟩
theorem FrM.of_touch {q b m : Nat} {w w' : World} (h : Touch q (some b) w w') : FrM q b m w w' := ⟨h.os, h.tape, h.output, h.size, fun k hk h1 h2 _ => h.block k hk h1 (fun e => by cases e; exact h2 rfl)⟩
theorem FrM.of_grown {q b m : Nat} {w w' : World} (h : w.grownBy w' (some m)) : FrM q b m w w' := ⟨h.os, h.tape, h.output, h.size, fun k hk _ _ h3 => h.block k hk (fun e => by cases e; exact h3 rfl)⟩
/-- What is kept of a memory's nodes where only its own blocks turn. -/
theorem Mm.parts {y z : World} {p q b m K L : Nat} {S : RfS} {N : Int → Option NV} (h : Mm y p q b m K L S N) (f : FrM q b m y z) {n : Int} {x : NV} (hx : N n = some x) : Parts z x.1 x.2.1 x.2.2 := by
  obtain ⟨hp, _, _, l1, l2⟩ := h.pt n x hx
  exact ⟨hp.p.keptL (fun a k c e h0 => f.block _ (hp.p.lim a k c e h0) (l1 a k c e h0).2.1 (l1 a k c e h0).2.2.1 (l1 a k c e h0).2.2.2) f.size, hp.q.keptL (fun a k c e h0 => f.block _ (hp.q.lim a k c e h0) (l2 a k c e h0).2.1 (l2 a k c e h0).2.2.1 (l2 a k c e h0).2.2.2) f.size⟩
set_option maxHeartbeats 1000000 in
theorem mcount_calls (w : World) (p q b m K L : Nat) (S : RfS) (N : Int → Option NV) (n : Int) (h : Mm w p q b m K L S N) (hn : I64 n) : Calls Tryz.prog 21 #[.pointer (some ⟨p, 0, none⟩), .int .i64 n] w fun e w' => e = .returned (.int .i64 (cnt S.L n)) ∧ w' = w := by
  obtain ⟨c0, c1⟩ := h.cells
  have hc := count_calls w q b K S n h.rf hn
  clear h
  go_enter Tryz.func21, Tryz.ntmps21
  go_wp2_with (go_at_call 44; refine hc.mono ?_; rintro e w1 ⟨rfl, rfl⟩)
  go_ret
  exact ⟨rfl, rfl⟩
set_option maxHeartbeats 1000000 in
theorem mfree_calls (w : World) (p q b m K L : Nat) (S : RfS) (N : Int → Option NV) (h : Mm w p q b m K L S N) (hK : K ≤ 1000000) : Calls Tryz.prog 17 #[.pointer (some ⟨p, 0, none⟩)] w fun e w' => e = .returned (.int .i64 S.free) ∧ Below w.heap.size w w' := by
  obtain ⟨c0, c1⟩ := h.cells
  have hc := free_calls w q b K S h.rf hK
  clear h
  go_enter Tryz.func17, Tryz.ntmps17
  go_wp2_with (go_at_call 37; refine hc.mono ?_; rintro e w1 ⟨rfl, k, rfl⟩)
  go_ret
  exact ⟨rfl, below_drewN (Below.refl _ _) k⟩
/-- What Inc and Dec tell: the memory's own code. -/
def incE (S : RfS) (n : Int) : Int := if S.need n = 0 then 0 else 1
set_option maxHeartbeats 1000000 in
theorem minc_calls (w : World) (p q b m K L : Nat) (S : RfS) (N : Int → Option NV) (n : Int) (h : Mm w p q b m K L S N) (hn : I64 n) (hK : K ≤ 1000000) : Calls Tryz.prog 118 #[.pointer (some ⟨p, 0, none⟩), .int .i64 n] w fun e w' => e = .returned (.int .i64 (incE S n)) ∧ Mm w' p q b m (K + 1) L (S.inc n) N ∧ FrM q b m w w' := by
  obtain ⟨c0, c1⟩ := h.cells
  have hc := inc_calls w q b K S n h.rf hn hK
  have HM : Hid (Mm w p q b m K L S N) := h
  have HE : Hid (incE S n = if S.need n = 0 then 0 else 1) := rfl
  have HG : Hid (∀ z, RGo w q b K (S.inc n) z → Mm z p q b m (K + 1) L (S.inc n) N ∧ FrM q b m w z) := fun z hz => by
    have f : FrM q b m w z := FrM.of_touch hz.2
    have hl := HM.out.lt
    have ha := HM.out.ap
    exact ⟨⟨(f.block p hl.1 ha.1 ha.2.1 ha.2.2.1).trans HM.out.blk, hz.1, HM.out.mp.kept (hz.2.block m hl.2.2.2 (fun e => ha.2.2.2.1 e.symm) (fun e => by cases e; exact ha.2.2.2.2 rfl)), fun k x hx => ⟨HM.out.parts f hx, (HM.out.pt k x hx).2⟩, ha⟩, f⟩
  clear h
  by_cases h0 : S.need n = 0
  · rw [h0] at hc
    have HF : Hid (incE S n = 0) := (show _ = _ by rw [HE.out, if_pos h0])
    clear h0
    go_enter Tryz.func118, Tryz.ntmps118
    go_wp2_with (go_at_call 121; refine hc.mono ?_; rintro e w1 ⟨rfl, g1⟩)
    go_ret
    exact ⟨by rw [HF.out]; rfl, HG.out _ g1⟩
  · have h0' : (S.need n != 0) = true := by simpa using h0
    have HF : Hid (incE S n = 1) := (show _ = _ by rw [HE.out, if_neg h0])
    clear h0
    go_enter Tryz.func118, Tryz.ntmps118
    go_wp2_with (go_at_call 121; refine hc.mono ?_; rintro e w1 ⟨rfl, g1⟩)
    go_ret
    exact ⟨by rw [HF.out]; rfl, HG.out _ g1⟩
end Go.Proofs.YtjhdnpplmlddaaaGreat
