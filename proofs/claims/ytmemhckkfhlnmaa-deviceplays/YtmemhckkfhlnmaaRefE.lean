/- What each call on the document's own device comes to: New, at, Read, Start, Arm. -/
import Derived.Test.YtmemhckkfhlnmaaRefD
namespace Go.Proofs.Ytmemhckkfhlnmaa
set_option linter.unusedVariables false
open Go.RowKit
attribute [local go_sem ↓] Go.wp_at_zero Go.wp_at_succ

/-- What a call that changes it comes to. -/
def RGo (q : Nat) (w : World) (lv ov : Value) (D' : DS) (w' : World) : Prop :=
  ∃ lv' ov' ns', RD w' q D' lv' ov' ns' ∧ Fr (RMine q lv ov) w w' ∧ Near' (RMine q lv ov) (RMine q lv' ov') w.heap.size
/-- A row that is not empty lies somewhere. -/
theorem row_somewhere {w : World} {base s : Nat} {e : TypeId} {v : Value} {n : Nat} {xs : List Value} (h : w.ownsRow base e s v n xs) (hn : 0 < n) : ∃ g c, v = .slice (some ⟨g, 0, none⟩) n c := by
  rcases h.2 with ⟨rfl, h0⟩ | ⟨g, cap, cur, rfl, _⟩
  · omega
  · exact ⟨_, _, rfl⟩
set_option maxHeartbeats 400000 in
theorem rat_gen (w : World) (q : Nat) (lv : Value) (fl nw : Int → List UInt8) (ns : List Int) (n : Int) (c1 : w.cell? ⟨q, 1, none⟩ = some lv) (hr : w.ownsRow 0 69 3 lv ns.length (lcells fl nw ns)) (hl : ns.length ≤ 1000000) (nd : ns.Nodup) :
    Calls Try.prog 39 #[.pointer (some ⟨q, 0, none⟩), .int .i64 n] w fun e w' => e = .returned (.int .i64 (atIx ns n)) ∧ w' = w := by
  obtain ⟨a, c, rfl⟩ := own_form3 hr
  go_enter Try.func39, Try.ntmps39
  go_wp2
  go_loopw [5] (fun i wr => ∃ (k : Nat), k ≤ ns.length ∧ i = .int .i64 (k : Int) ∧ wr = w ∧ Hid (∀ i (hi : i < ns.length), i < k → ns[i] ≠ n))
    (fun i _ => ns.length - (intOf i).toNat)
  case atStart => exact ⟨0, Nat.zero_le _, rfl, rfl, fun _ _ h => by omega⟩
  case round =>
    obtain ⟨k, hk, rfl, rfl, HX⟩ := hrel
    by_cases hk5 : k < ns.length
    · obtain ⟨g, c', e⟩ := row_somewhere hr (by omega)
      cases e
      have hki : (k : Int) < (ns.length : Int) := by omega
      have hc := (hr.cellAt (k * 3) (by omega)).trans (lcells_at fl nw ns k hk5).1
      have HE : Hid (atIx ns n = (k : Int) ∨ ns[k] ≠ n) := by
        show _ ∨ _
        by_cases e : ns[k] = n
        · exact .inl (atIx_at ns nd n k hk5 e)
        · exact .inr e
      have HN : Hid (∀ i (hi : i < ns.length), i < k + 1 → (ns[k] ≠ n) → ns[i] ≠ n) := fun i hi hik hne => by
        by_cases e : i = k
        · subst e; exact hne
        · exact HX.out i hi (by omega)
      generalize hm : ns[k] = m at *
      clear hr hm
      by_cases e : m = n
      · have e1 : (m == n) = true := by simp [e]
        go_wp2
        go_ret
        rcases HE.out with h | h
        · exact ⟨by rw [h]; rfl, rfl⟩
        · exact absurd e h
      · have e1 : (m == n) = false := by simp [e]
        go_wp2
        go_roundw
        case rel => exact ⟨k + 1, by omega, by go_num, by trivial, fun i hi hik => HN.out i hi hik e⟩
        case measure => simp [intOf]; omega
    · have hki : ¬ ((k : Int) < (ns.length : Int)) := by omega
      have E : Hid (atIx ns n = -1) := atIx_none ns n fun i hi => HX.out i hi (by omega)
      clear hr HX nd
      go_wp2
      go_ret
      exact ⟨by rw [E.out]; rfl, rfl⟩
theorem rat_calls (w : World) (q : Nat) (D : DS) (lv ov : Value) (ns : List Int) (n : Int) (h : RD w q D lv ov ns) (hcl : D.calls ≤ 1000000) :
    Calls Try.prog 39 #[.pointer (some ⟨q, 0, none⟩), .int .i64 n] w fun e w' => e = .returned (.int .i64 (atIx ns n)) ∧ w' = w :=
  rat_gen w q lv D.fl D.nw ns n (cell9 h.blk).2.1 h.lrow (by have := h.ln; omega) h.nd
set_option maxHeartbeats 400000 in
theorem rread_calls (w : World) (q : Nat) (D : DS) (lv ov : Value) (ns : List Int) (n : Int) (h : RD w q D lv ov ns) (hcl : D.calls ≤ 1000000) :
    Calls Try.prog 47 #[.pointer (some ⟨q, 0, none⟩), .int .i64 n] w fun e w' => e = .returned (.tuple #[.string (str (D.read n).1), .int .i64 (D.read n).2]) ∧ Below w.heap.size w w' := by
  obtain ⟨c0, c1, c2, c3, _⟩ := cell9 h.blk
  have hA := rat_calls w q D lv ov ns n h hcl
  have hN := noughts_calls w
  cases hd : D.down with
  | true =>
    rw [hd] at c3
    have E : Hid (D.read n = ([], 11)) := by show _ = _; unfold DS.read; rw [if_pos hd]
    clear h hA hN
    go_enter Try.func47, Try.ntmps47
    go_wp2
    go_ret2
    rw [E.out]
    exact ⟨rfl, below_refl _⟩
  | false =>
    rw [hd] at c3
    by_cases hb : n < 0 ∨ D.blocks ≤ n
    · have E : Hid (D.read n = ([], 1)) := by show _ = _; unfold DS.read; rw [if_neg (by rw [hd]; simp), if_pos hb]
      clear h hA hN
      by_cases hn0 : n < 0
      · clear hb
        go_enter Try.func47, Try.ntmps47
        go_wp2
        go_ret2
        rw [E.out]
        exact ⟨rfl, below_refl _⟩
      · have hn1 : D.blocks ≤ n := by omega
        clear hb
        go_enter Try.func47, Try.ntmps47
        go_wp2
        go_ret2
        rw [E.out]
        exact ⟨rfl, below_refl _⟩
    · have E : Hid (D.read n = (D.nw n, 0)) := by show _ = _; unfold DS.read; rw [if_neg (by rw [hd]; simp), if_neg hb]
      have hn0 : ¬ n < 0 := by omega
      have hn1 : ¬ D.blocks ≤ n := by omega
      by_cases hm : n ∈ ns
      · have hj := List.idxOf_lt_length_of_mem hm
        have hA' : atIx ns n = (ns.idxOf n : Int) := by unfold atIx; rw [if_pos hm]
        have hne : ns[ns.idxOf n] = n := List.getElem_idxOf hj
        rw [hA'] at hA
        obtain ⟨g, c, rfl⟩ := row_somewhere h.lrow (by omega)
        have hc := (h.lrow.cellAt (ns.idxOf n * 3 + 2) (by omega)).trans (lcells_at D.fl D.nw ns _ hj).2.2
        rw [hne] at hc
        generalize ns.idxOf n = j at *
        have hji : (j : Int) < (ns.length : Int) := by omega
        have hj0 : ¬ ((j : Int) < 0) := by omega
        clear h hN hb hA' hne hm
        generalize ns.length = L at *
        go_enter Try.func47, Try.ntmps47
        go_wp2_with (go_at_call 39; refine hA.mono ?_; rintro e w1 ⟨rfl, rfl⟩)
        go_ret2
        rw [E.out]
        exact ⟨rfl, below_refl _⟩
      · have hA' : atIx ns n = -1 := by unfold atIx; rw [if_neg hm]
        have HO : Hid (D.nw n = nought) := (h.out n hm).2
        rw [hA'] at hA
        clear h hb hA'
        generalize nought = N at *
        go_enter Try.func47, Try.ntmps47
        go_wp2_with (first | (go_at_call 39; refine hA.mono ?_; rintro e w1 ⟨rfl, rfl⟩) | (go_at_call 25; refine hN.mono ?_; rintro e w2 ⟨rfl, b2⟩))
        go_ret2
        rw [E.out, HO.out]
        exact ⟨rfl, b2⟩
end Go.Proofs.Ytmemhckkfhlnmaa
