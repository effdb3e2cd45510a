/- What Take comes to: the closure that tells whether a block is free, the search for the least one. -/
import Derived.Test.YtpgepejleklpfaaRfC
namespace Go.Proofs.Ytpgepejleklpfaa
set_option linter.unusedVariables false
open Go.RowKit
attribute [local go_sem ↓] Go.wp_at_zero Go.wp_at_succ

set_option maxHeartbeats 400000 in
theorem closure_calls (w : World) (p b K q : Nat) (L : PL) (n : Int) (c1 : w.cell? ⟨p, 1, none⟩ = some (.map (some b))) (hq : w.cell? ⟨q, 0, none⟩ = some (.pointer (some ⟨p, 0, none⟩))) (hm : MapR w b K L) (hn : I64 n) :
    Calls Try.prog 36 #[.int .i64 n, .pointer (some ⟨q, 0, none⟩)] w fun e w' => e = .returned (.bool (cnt L n == 0)) ∧ w' = w := by
  have hl := hm.look hn
  clear hm
  generalize cnt L n = c at *
  go_enter Try.func36, Try.ntmps36
  go_wp2
  go_ret
  exact ⟨rfl, rfl⟩

theorem lst_step {f : Int → Bool} {lo j hi : Int} (h : j < hi) (hf : f j = false) (E : lst f lo (hi - lo).toNat = lst f j (hi - j).toNat) : lst f lo (hi - lo).toNat = lst f (j + 1) (hi - (j + 1)).toNat := by
  rw [E]
  have e : (hi - j).toNat = (hi - (j + 1)).toNat + 1 := by omega
  rw [e, lst, if_neg (by rw [hf]; simp)]
theorem lst_hit {f : Int → Bool} {lo j hi : Int} (h : j < hi) (hf : f j = true) (E : lst f lo (hi - lo).toNat = lst f j (hi - j).toNat) : lst f lo (hi - lo).toNat = j := by
  rw [E]
  have e : (hi - j).toNat = (hi - (j + 1)).toNat + 1 := by omega
  rw [e, lst, if_pos hf]
theorem lst_end {f : Int → Bool} {lo hi : Int} (E : lst f lo (hi - lo).toNat = lst f hi (hi - hi).toNat) : lst f lo (hi - lo).toNat = hi := by
  rw [E]
  have e : (hi - hi).toNat = 0 := by omega
  rw [e, lst]
set_option maxHeartbeats 1000000 in
set_option maxRecDepth 100000 in
theorem least_calls (w : World) (q : Nat) (f : Int → Bool) (lo hi : Int) (h1 : 2 ≤ lo) (h2 : lo ≤ hi) (h3 : hi ≤ 4294967296)
    (hc : ∀ n, 2 ≤ n → n < hi → Calls Try.prog 36 #[.int .i64 n, .pointer (some ⟨q, 0, none⟩)] w fun e w' => e = .returned (.bool (f n)) ∧ w' = w) :
    Calls Try.prog 35 #[.int .i64 lo, .int .i64 hi, .func (.func 36) #[] #[.pointer (some ⟨q, 0, none⟩)]] w fun e w' => e = .returned (.int .i64 (lst f lo (hi - lo).toNat)) ∧ w' = w := by
  have eg : ∀ args w, (callFunc 36 args).run Try.prog w = .ok (.enter 36 args) w := enters_of Try.func36 (by kernel_rfl) rfl
  obtain ⟨N, hN⟩ : ∃ N : Nat, (N : Int) = hi - lo := ⟨(hi - lo).toNat, by omega⟩
  have HC : Hid (∀ n, 2 ≤ n → n < hi → Calls Try.prog 36 #[.int .i64 n, .pointer (some ⟨q, 0, none⟩)] w fun e w' => e = .returned (.bool (f n)) ∧ w' = w) := hc
  clear hc
  have HN : Hid ((N : Int) = hi - lo) := hN
  clear hN
  go_enter Try.func35, Try.ntmps35
  go_wp2
  go_loopg [7] N (fun g i wr => ∃ j : Int, lo ≤ j ∧ j + (g : Int) = hi ∧ i = .int .i64 j ∧ wr = w ∧ Hid (lst f lo (hi - lo).toNat = lst f j (hi - j).toNat))
  case atStart => exact ⟨lo, by omega, by have := HN.out; omega, rfl, rfl, (show _ = _ from rfl)⟩
  case round =>
    obtain ⟨j, hj0, hj, rfl, rfl, HE⟩ := hrel
    cases gk with
    | zero =>
      have e : j = hi := by omega
      subst e
      have E2 : Hid (lst f lo (j - lo).toNat = j) := lst_end HE.out
      clear HE
      go_wp2_with fail
      go_ret
      exact ⟨by rw [E2.out]; rfl, rfl⟩
    | succ g =>
      have hlt : j < hi := by omega
      have hcc := HC.out j (by omega) hlt
      cases hf : f j with
      | true =>
        have E2 : Hid (lst f lo (hi - lo).toNat = j) := lst_hit hlt hf HE.out
        rw [hf] at hcc
        clear HE
        go_wp2_with (go_at_call 36; refine hcc.mono ?_; rintro e w1 ⟨rfl, rfl⟩)
        go_ret
        exact ⟨by rw [E2.out]; rfl, rfl⟩
      | false =>
        have E2 : Hid (lst f lo (hi - lo).toNat = lst f (j + 1) (hi - (j + 1)).toNat) := lst_step hlt hf HE.out
        rw [hf] at hcc
        clear HE
        go_wp2_with (go_at_call 36; refine hcc.mono ?_; rintro e w1 ⟨rfl, rfl⟩)
        go_roundg g
        case measure => omega
        case rel => exact ⟨j + 1, by omega, by omega, rfl, rfl, E2⟩

theorem cell_one {w : World} {b : Nat} {x : Value} {t : TypeId} (h : w.heap[b]? = some (.cells #[x] t (0, 0))) : w.cell? ⟨b, 0, none⟩ = some x := by simp [World.cell?, h]
theorem RGo.of_setCell {w w1 : World} {p b K : Nat} {S : RfS} (h : Rf w1 p b K S) (ht : Touch p (some b) w w1) (x : Int) (S' : RfS) (hb : S'.blocks = S.blocks) (hL : S'.L = S.L) (hx : S'.low = x) (hok : S'.Ok (K + 1)) : RGo w p b K S' (w1.setCell ⟨p, 2, none⟩ (.int .i64 x)) := by
  refine ⟨⟨hok, ?_, ?_, h.pb⟩, ht.setCell _ _⟩
  · rw [hb, hx]; exact (set3 h.blk).2.2
  · rw [hL]
    exact (h.mp.mono (Nat.le_succ _)).kept (Below.heap_setCell _ _ _ _ (by simpa using h.pb.symm))
set_option maxHeartbeats 2000000 in
set_option maxRecDepth 100000 in
theorem take_calls (w : World) (p b K : Nat) (S : RfS) (h : Rf w p b K S) (hK : K ≤ 1000000) : Calls Try.prog 18 #[.pointer (some ⟨p, 0, none⟩)] w fun e w' => e = .returned (.tuple #[.int .i64 S.tookN, .bool S.took]) ∧ RGo w p b K S.take w' := by
  have hlt := h.lt
  have hB : Below w.heap.size w (w.alloc (.cells #[.pointer (some ⟨p, 0, none⟩)] 24)).drew := ((Below.refl _ w).alloc (Nat.le_refl _) _).drew
  have h1 : Rf (w.alloc (.cells #[.pointer (some ⟨p, 0, none⟩)] 24)).drew p b K S := h.below hB (Nat.le_refl _)
  have hT : Touch p (some b) w (w.alloc (.cells #[.pointer (some ⟨p, 0, none⟩)] 24)).drew := ((Touch.refl _ _ _).alloc _).drew
  have hq : (w.alloc (.cells #[.pointer (some ⟨p, 0, none⟩)] 24)).drew.cell? ⟨w.heap.size, 0, none⟩ = some (.pointer (some ⟨p, 0, none⟩)) := cell_one (heap_alloc_new _ _)
  obtain ⟨c0, c1, c2⟩ := cells3 h1.blk
  have hcl := least_calls (w.alloc (.cells #[.pointer (some ⟨p, 0, none⟩)] 24)).drew w.heap.size (fun n => cnt S.L n == 0) S.low S.blocks h.ok.l1 h.ok.l2 h.ok.b2
    (fun n n1 n2 => closure_calls _ p b K w.heap.size S.L n c1 hq h1.mp ⟨by omega, by have := h.ok.b2; omega⟩)
  have HN : Hid (lst (fun n => cnt S.L n == 0) S.low (S.blocks - S.low).toNat = S.next) := rfl
  rw [HN.out] at hcl
  obtain ⟨a1, a2, a3, a4⟩ := h.ok.next
  have b2 := h.ok.b2
  have f2 := (free3 h1.blk).2.2
  by_cases he : S.next = S.blocks
  · have E : Hid (S.take = ⟨S.blocks, S.L, S.next⟩ ∧ S.tookN = 0 ∧ S.took = false) := ⟨by unfold RfS.take; rw [if_pos he], by unfold RfS.tookN; rw [if_pos he], by unfold RfS.took; rw [he]; simp⟩
    have HR : Hid (RGo w p b K ⟨S.blocks, S.L, S.next⟩ ((w.alloc (.cells #[.pointer (some ⟨p, 0, none⟩)] 24)).drew.setCell ⟨p, 2, none⟩ (.int .i64 S.next))) := RGo.of_setCell h1 hT S.next _ rfl rfl rfl (by have := h.ok.take; rw [E.out.1] at this; exact this)
    have e2 : (S.next == S.blocks) = true := by simpa using he
    clear h h1 hB hT he
    go_enter Try.func18, Try.ntmps18
    go_wp2_with fail
    go_region_held3 (fun w' => w'.cell? ⟨w.heap.size, 0, none⟩ = some (.pointer (some ⟨p, 0, none⟩)) ∧ w'.cell? ⟨p, 0, none⟩ = some (.int .i64 S.blocks) ∧ w'.cell? ⟨p, 2, none⟩ = some (.int .i64 S.low)) (exact ⟨hq, c0, c2⟩)
      (first | (go_at_call 35; refine hcl.mono ?_; rintro e w1 ⟨rfl, rfl⟩))
    have HL : Hid (w.heap.size ≠ p) := by show _ ≠ _; omega
    generalize (w.alloc (.cells #[.pointer (some ⟨p, 0, none⟩)] 24)).drew = W at *
    generalize w.heap.size = q at *
    have q1 := HL.out
    have q2 := q1.symm
    clear hcl hlt
    go_wp2
    go_ret2
    exact ⟨by rw [E.out.2.1, E.out.2.2]; rfl, by rw [E.out.1]; exact HR.out⟩
  · have E : Hid (S.take = ⟨S.blocks, putL S.L S.next 1, S.next⟩ ∧ S.tookN = S.next ∧ S.took = true) := ⟨by unfold RfS.take; rw [if_neg he], by unfold RfS.tookN; rw [if_neg he], by unfold RfS.took; simpa using he⟩
    have hS1 : RGo w p b K ⟨S.blocks, S.L, S.next⟩ ((w.alloc (.cells #[.pointer (some ⟨p, 0, none⟩)] 24)).drew.setCell ⟨p, 2, none⟩ (.int .i64 S.next)) := RGo.of_setCell h1 hT S.next _ rfl rfl rfl (by have := h.ok.mono (Nat.le_succ K); exact ⟨this.b1, this.b2, this.rise, this.inB, a1, a2, a3⟩)
    have HM : Hid (MapR ((w.alloc (.cells #[.pointer (some ⟨p, 0, none⟩)] 24)).drew.setCell ⟨p, 2, none⟩ (.int .i64 S.next)) b K S.L) := h1.mp.kept (Below.heap_setCell _ _ _ _ (by simpa using h.pb.symm))
    have HR : Hid (∀ w', MapR w' b (K + 1) (putL S.L S.next 1) → ((w.alloc (.cells #[.pointer (some ⟨p, 0, none⟩)] 24)).drew.setCell ⟨p, 2, none⟩ (.int .i64 S.next)).grownBy w' (some b) → RGo w p b K ⟨S.blocks, putL S.L S.next 1, S.next⟩ w') := fun w' x1 x2 => by
      refine ⟨⟨by have := h.ok.take; rw [E.out.1] at this; exact this, (x2.block p hS1.1.lt.1 (fun e => h.pb (by cases e; rfl))).trans hS1.1.blk, x1, h.pb⟩, hS1.2.grown x2⟩
    have e2 : (S.next == S.blocks) = false := by simpa using he
    clear h h1 hB hT he hS1
    go_enter Try.func18, Try.ntmps18
    go_wp2_with fail
    go_region_held3 (fun w' => w'.cell? ⟨w.heap.size, 0, none⟩ = some (.pointer (some ⟨p, 0, none⟩)) ∧ w'.cell? ⟨p, 0, none⟩ = some (.int .i64 S.blocks) ∧ w'.cell? ⟨p, 2, none⟩ = some (.int .i64 S.low)) (exact ⟨hq, c0, c2⟩)
      (first | (go_at_call 35; refine hcl.mono ?_; rintro e w1 ⟨rfl, rfl⟩))
    have HL : Hid (w.heap.size ≠ p) := by show _ ≠ _; omega
    generalize (w.alloc (.cells #[.pointer (some ⟨p, 0, none⟩)] 24)).drew = W at *
    generalize w.heap.size = q at *
    have q1 := HL.out
    have q2 := q1.symm
    clear hcl hlt a3 a4
    go_wp2_with (at_mapUpdate; refine wpList_store_r _ rfl _ _ _ rfl b K S.L rfl HM.out (by unfold maxLen; omega) S.next ⟨by omega, by omega⟩ rfl 1 ⟨by omega, by omega⟩ rfl ?_; intro w2 hm2 hg2)
    go_ret2
    exact ⟨by rw [E.out.2.1, E.out.2.2]; rfl, by rw [E.out.1]; exact HR.out _ hm2 hg2⟩
end Go.Proofs.Ytpgepejleklpfaa
