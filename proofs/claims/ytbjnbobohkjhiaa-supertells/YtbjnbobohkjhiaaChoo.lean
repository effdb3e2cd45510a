/- SuperChooses, walked. -/
import Derived.Test.YtbjnbobohkjhiaaRefCh
namespace Go.Proofs.Ytbjnbobohkjhiaa
set_option linter.unusedVariables false
open Go.RowKit

/-- A slice of bytes that came in, or was cut. -/
def ArgB (w : World) (a : Option Addr) (n cap : Nat) (L : List UInt8) : Prop :=
  n = L.length ∧ n ≤ cap ∧ (a = none → L = [] ∧ cap = 0) ∧ ∀ x, a = some x → ∀ j u, (bc L)[j]? = some u → x.block < w.heap.size ∧ w.cell? (x.add j) = some u
theorem ArgB.below {w w' : World} {a : Option Addr} {n cap : Nat} {L : List UInt8} (h : ArgB w a n cap L) (hb : Below w.heap.size w w') : ArgB w' a n cap L :=
  ⟨h.1, h.2.1, h.2.2.1, fun x hx j u hu => by
    obtain ⟨h1, h2⟩ := h.2.2.2 x hx j u hu
    have e : (x.add j).block = x.block := by unfold Addr.add; split <;> rfl
    exact ⟨by have := hb.size; omega, (World.cell?_of_block (by rw [e]; exact hb.block x.block h1)).trans h2⟩⟩
theorem ArgB.cut {w : World} {a : Option Addr} {n cap : Nat} {L : List UInt8} (h : ArgB w a n cap L) (m : Nat) (hm : m ≤ n) : ArgB w a m cap (L.take m) := by
  obtain ⟨h1, h2, h3, h4⟩ := h
  refine ⟨by simp; omega, by omega, fun e => by rw [(h3 e).1]; simp [(h3 e).2], fun x hx j u hu => h4 x hx j u (bc_take hu)⟩
/-- append of such bytes behind an empty slice of its own. -/
theorem append_arg {ops : Array Oper} {rest : List Oper} {o : Oper} {a : Act} {w : World} {Q : Exit → Act → World → Prop} (hgd : o.guard = none) (s x : Operand) (ho : o.op = .call { callee := .builtin .append, args := #[s, x], argTypes := #[25, 25] })
    (W : World) (hw : w = W.alloc (.cells #[] 5)) (hs : a.eval s = .slice (some ⟨W.heap.size, 0, none⟩) 0 0) (ad : Option Addr) (n cap : Nat) (L : List UInt8) (hx : a.eval x = .slice ad n cap) (hL : ArgB w ad n cap L) (hn : n ≤ 600)
    (h : ∀ v' w', Byt w' v' L → (∃ a' c', v' = .slice a' n c') → Below W.heap.size W w' → wpList Try.prog ops Q rest (a.put o.dst v') w') : wpList Try.prog ops Q (o :: rest) a w := by
  obtain ⟨i0, hi, hz0, hz1, hz2⟩ := info_parts Try.info_u8
  obtain ⟨h1, h2, h3, h4⟩ := hL
  subst hw
  have own0 := own_empty W W.heap.size (Nat.le_refl _)
  have bel0 : Below W.heap.size W (W.alloc (.cells #[] 5)) := (Below.refl _ _).alloc (Nat.le_refl _) _
  cases ad with
  | none =>
    obtain ⟨rfl, rfl⟩ := h3 rfl
    simp only [List.length_nil] at h1
    subst h1
    refine wpList_append_own_none hgd s x 25 ho W.heap.size 5 i0 1 Try.underlying25 hi (.slice (some ⟨W.heap.size, 0, none⟩) 0 0) 0 [] hs own0 hx ?_
    exact h _ _ (own_byt own0) ⟨_, _, rfl⟩ bel0
  | some y =>
    subst h1
    refine wpList_append_own _ hgd s x 25 ho W.heap.size 5 i0 (.int .u8 0) 1 1 Try.underlying25 hi hz0 hz1 hz2 rfl (by decide) (.slice (some ⟨W.heap.size, 0, none⟩) 0 0) 0 [] hs own0 y L.length cap (bc L) hx (by rw [bc_length]; omega) (fun j u hu => (h4 y rfl j u hu).2) (bc_one L) (by unfold maxLen; omega) (by omega) (by simp) ?_
    intro v' w' hown' hgrow _
    have hown : w'.ownsRow W.heap.size 5 1 v' L.length (bc L) := by simpa using hown'
    refine h v' w' (own_byt hown) (own_form hown) (bel0.grown hgrow (by simp) (fun k hk => by simp [Value.ownBlock] at hk; omega))
theorem conv_arg {w : World} {ad : Option Addr} {n cap : Nat} {L : List UInt8} (h : ArgB w ad n cap L) : (convert 25 9 (.slice ad n cap)).run Try.prog w = .ok (.string (str L)) w := by
  obtain ⟨h1, h2, h3, h4⟩ := h
  subst h1
  cases ad with
  | none =>
    obtain ⟨rfl, rfl⟩ := h3 rfl
    exact conv_bytes (r := none) (bytes_nil w none)
  | some y =>
    by_cases h0 : L = []
    · subst h0
      have hl : (loadCells y 0).run Try.prog w = .ok #[] w := by simpa using run_loadCells_list (P := Try.prog) w y [] (by simp)
      rw [List.length_nil, run_convert_bytes_string w 25 9 5 _ 0 cap Try.underlying25 Try.underlying5 Try.underlying9]
      simp [Conv.bytesToString, hl]
      rfl
    · have hl : 0 < L.length := by cases L; exact absurd rfl h0; simp
      have hc := (h4 y rfl 0 _ (bc_at L 0 hl))
      have spotless : y.spot = none := by simpa [Addr.add] using World.cell?_spot hc.2
      obtain ⟨g, off, sp⟩ := y
      simp only at spotless
      subst spotless
      exact conv_bytes (r := some g) ⟨some ⟨g, off, none⟩, cap, rfl, h2, .inr ⟨g, off, rfl, rfl, hc.1, fun j u hu => by have := (h4 _ rfl j u hu).2; rwa [add_lit] at this⟩⟩
set_option maxHeartbeats 8000000 in
set_option maxRecDepth 100000 in
theorem chooses_le_le (w : World) (y1 : Addr) (n1 c1 : Nat) (L1 : List UInt8) (h1 : ArgB w (some y1) n1 c1 L1) (b1 : n1 ≤ 600) (y2 : Addr) (n2 c2 : Nat) (L2 : List UInt8) (h2 : ArgB w (some y2) n2 c2 L2) (b2 : n2 ≤ 600) :
    Calls Try.prog 4 #[.slice (some y1) n1 c1, .slice (some y2) n2 c2] w fun e w' => e = .returned (.bool true) ∧ Below w.heap.size w w' := by
  have hc1 : (n1 : Int) ≤ (c1 : Int) := by have := h1.2.1; omega
  have hi1 : (n1 : Int) ≤ 600 := by omega
  have X1 : Hid (ArgB w (some y1) n1 c1 L1) := h1
  have le1 : L1.length ≤ 600 := by have := h1.1; omega
  clear h1
  have hc2 : (n2 : Int) ≤ (c2 : Int) := by have := h2.2.1; omega
  have hi2 : (n2 : Int) ≤ 600 := by omega
  have X2 : Hid (ArgB w (some y2) n2 c2 L2) := h2
  have le2 : L2.length ≤ 600 := by have := h2.1; omega
  clear h2
  go_enter Try.func4, Try.ntmps4
  go_upto_region 4 with (go_at_call 9; refine (shown_calls _).mono ?_; rintro e w1 ⟨rfl, bs⟩)
  have hA := X1.out.below bs
  have hB := X2.out.below bs
  have bA0 : Below w1.heap.size w1 (w1.alloc (.cells #[] 5)) := (Below.refl _ _).alloc (Nat.le_refl _) _
  have HA : Hid (ArgB w1 (some y1) n1 c1 L1) := hA
  have HB : Hid (ArgB w1 (some y2) n2 c2 L2) := hB
  clear hA hB X1 X2
  go_upto_region 5 with (first
    | (have _q := bB; first
      | (go_at_call 18; refine (choose_byt byA byB).mono ?_; intro e w4 ho4; obtain ⟨sv4, rfl, sn4, b4⟩ := ho4.sna; clear ho4)
      | (refine store_sup rfl _ _ rfl w4.heap.size rfl ((chooseP L1 L2).getD nilU) sv4 rfl sn4.one nilU (.slice none 0 0) (HasU.new w4 nilU (.slice none 0 0) _ rfl rfl) ?_; intro x4 hu4 tx4 sx4))
    | (have _q := bA; at_builtin; refine append_arg rfl (.tmp 26) (.tmp 27) rfl w2 rfl rfl (some y2) n2 c2 L2 rfl ((HB.out.below bA).below ((Below.refl _ _).alloc (Nat.le_refl _) _)) (by omega) ?_; intro v3 w3 byB hf3 bB; obtain ⟨a3, c3, rfl⟩ := hf3; have byA := (byA0.below bB))
    | (at_builtin; refine append_arg rfl (.tmp 23) (.tmp 24) rfl w1 rfl rfl (some y1) n1 c1 L1 rfl (HA.out.below bA0) (by omega) ?_; intro v2 w2 byA0 hf2 bA; obtain ⟨a2', c2', rfl⟩ := hf2))
  have BX : Below w1.heap.size w1 x4 := below_on bA bA.size (below_on bB bB.size (step_below b4 _ tx4))
  have H4 : Held w x4 [(w4.heap.size, (chooseP L1 L2).getD nilU, sv4)] [] [(sv4, ((chooseP L1 L2).getD nilU).l)] := by
    have := ((((((Held.start w).called bs).called bA).called bB).called b4).addS sn4).stored hu4 tx4
    exact this
  have hcvA := conv_arg (HA.out.below BX)
  have hcvB := conv_arg (HB.out.below BX)
  have hrc := rchoose_calls x4 L1 L2 (by omega) (by omega)
  clear hu4 tx4 sx4 sn4 b4 bA bB byA byB byA0 BX HA HB bA0
  generalize chooseP L1 L2 = V at *
  generalize w4.heap.size = d4 at *
  go_upto_region 6 with (first
    | (go_at_call 19; refine hrc.mono ?_; intro e w5 ho5; obtain ⟨sv5, rfl, sn5, b5⟩ := ho5.sna; clear ho5)
    | (refine store_sup rfl _ _ rfl w5.heap.size rfl (V.getD nilU) sv5 rfl sn5.one nilU (.slice none 0 0) (HasU.new w5 nilU (.slice none 0 0) _ rfl rfl) ?_; intro x5 hu5 tx5 sx5))
  have H5 := ((H4.called b5).addS sn5).stored hu5 tx5
  clear H4 hrc hcvA hcvB b5 sn5 hu5 tx5 sx5
  generalize w5.heap.size = d5 at *
  have u4 := H5.u (d4, V.getD nilU, sv4) (by simp)
  have u5 := H5.u (d5, V.getD nilU, sv5) (by simp)
  have hsame := same_calls x5 (V.getD nilU) (V.getD nilU) sv4 sv5 (H5.s (sv4, (V.getD nilU).l) (by simp)) (H5.s (sv5, (V.getD nilU).l) (by simp))
  rw [decide_eq_true (rfl : V.getD nilU = V.getD nilU)] at hsame
  go_wp2_with (first
    | (refine load_sup _ rfl d4 rfl rfl _ _ u4 ?_)
    | (refine load_sup _ rfl d5 rfl rfl _ _ u5 ?_)
    | (go_at_call 15; refine hsame.mono ?_; rintro e w6 ⟨rfl, b6⟩))
  go_ret
  exact ⟨rfl, (H5.called b6).bel⟩
set_option maxHeartbeats 8000000 in
set_option maxRecDepth 100000 in
theorem chooses_le_gt (w : World) (y1 : Addr) (n1 c1 : Nat) (L1 : List UInt8) (h1 : ArgB w (some y1) n1 c1 L1) (b1 : n1 ≤ 600) (y2 : Addr) (n2 c2 : Nat) (L2 : List UInt8) (h2 : ArgB w (some y2) n2 c2 L2) (b2 : 600 < n2) :
    Calls Try.prog 4 #[.slice (some y1) n1 c1, .slice (some y2) n2 c2] w fun e w' => e = .returned (.bool true) ∧ Below w.heap.size w w' := by
  have hc1 : (n1 : Int) ≤ (c1 : Int) := by have := h1.2.1; omega
  have hi1 : (n1 : Int) ≤ 600 := by omega
  have X1 : Hid (ArgB w (some y1) n1 c1 L1) := h1
  have le1 : L1.length ≤ 600 := by have := h1.1; omega
  clear h1
  have hc2 : (600 : Int) ≤ (c2 : Int) := by have := h2.2.1; omega
  have hi2 : ¬ (n2 : Int) ≤ 600 := by omega
  have hj2 : (600 : Int) < (n2 : Int) := by omega
  have X2 : Hid (ArgB w (some y2) 600 c2 (L2.take 600)) := h2.cut 600 (by omega)
  have le2 : (L2.take 600).length ≤ 600 := by simp; omega
  clear h2
  generalize L2.take 600 = M2 at *
  go_enter Try.func4, Try.ntmps4
  go_upto_region 4 with (go_at_call 9; refine (shown_calls _).mono ?_; rintro e w1 ⟨rfl, bs⟩)
  have hA := X1.out.below bs
  have hB := X2.out.below bs
  have bA0 : Below w1.heap.size w1 (w1.alloc (.cells #[] 5)) := (Below.refl _ _).alloc (Nat.le_refl _) _
  have HA : Hid (ArgB w1 (some y1) n1 c1 L1) := hA
  have HB : Hid (ArgB w1 (some y2) 600 c2 M2) := hB
  clear hA hB X1 X2
  go_upto_region 5 with (first
    | (have _q := bB; first
      | (go_at_call 18; refine (choose_byt byA byB).mono ?_; intro e w4 ho4; obtain ⟨sv4, rfl, sn4, b4⟩ := ho4.sna; clear ho4)
      | (refine store_sup rfl _ _ rfl w4.heap.size rfl ((chooseP L1 M2).getD nilU) sv4 rfl sn4.one nilU (.slice none 0 0) (HasU.new w4 nilU (.slice none 0 0) _ rfl rfl) ?_; intro x4 hu4 tx4 sx4))
    | (have _q := bA; at_builtin; refine append_arg rfl (.tmp 26) (.tmp 27) rfl w2 rfl rfl (some y2) 600 c2 M2 rfl ((HB.out.below bA).below ((Below.refl _ _).alloc (Nat.le_refl _) _)) (by omega) ?_; intro v3 w3 byB hf3 bB; obtain ⟨a3, c3, rfl⟩ := hf3; have byA := (byA0.below bB))
    | (at_builtin; refine append_arg rfl (.tmp 23) (.tmp 24) rfl w1 rfl rfl (some y1) n1 c1 L1 rfl (HA.out.below bA0) (by omega) ?_; intro v2 w2 byA0 hf2 bA; obtain ⟨a2', c2', rfl⟩ := hf2))
  have BX : Below w1.heap.size w1 x4 := below_on bA bA.size (below_on bB bB.size (step_below b4 _ tx4))
  have H4 : Held w x4 [(w4.heap.size, (chooseP L1 M2).getD nilU, sv4)] [] [(sv4, ((chooseP L1 M2).getD nilU).l)] := by
    have := ((((((Held.start w).called bs).called bA).called bB).called b4).addS sn4).stored hu4 tx4
    exact this
  have hcvA := conv_arg (HA.out.below BX)
  have hcvB := conv_arg (HB.out.below BX)
  have hrc := rchoose_calls x4 L1 M2 (by omega) (by omega)
  clear hu4 tx4 sx4 sn4 b4 bA bB byA byB byA0 BX HA HB bA0
  generalize chooseP L1 M2 = V at *
  generalize w4.heap.size = d4 at *
  go_upto_region 6 with (first
    | (go_at_call 19; refine hrc.mono ?_; intro e w5 ho5; obtain ⟨sv5, rfl, sn5, b5⟩ := ho5.sna; clear ho5)
    | (refine store_sup rfl _ _ rfl w5.heap.size rfl (V.getD nilU) sv5 rfl sn5.one nilU (.slice none 0 0) (HasU.new w5 nilU (.slice none 0 0) _ rfl rfl) ?_; intro x5 hu5 tx5 sx5))
  have H5 := ((H4.called b5).addS sn5).stored hu5 tx5
  clear H4 hrc hcvA hcvB b5 sn5 hu5 tx5 sx5
  generalize w5.heap.size = d5 at *
  have u4 := H5.u (d4, V.getD nilU, sv4) (by simp)
  have u5 := H5.u (d5, V.getD nilU, sv5) (by simp)
  have hsame := same_calls x5 (V.getD nilU) (V.getD nilU) sv4 sv5 (H5.s (sv4, (V.getD nilU).l) (by simp)) (H5.s (sv5, (V.getD nilU).l) (by simp))
  rw [decide_eq_true (rfl : V.getD nilU = V.getD nilU)] at hsame
  go_wp2_with (first
    | (refine load_sup _ rfl d4 rfl rfl _ _ u4 ?_)
    | (refine load_sup _ rfl d5 rfl rfl _ _ u5 ?_)
    | (go_at_call 15; refine hsame.mono ?_; rintro e w6 ⟨rfl, b6⟩))
  go_ret
  exact ⟨rfl, (H5.called b6).bel⟩
set_option maxHeartbeats 8000000 in
set_option maxRecDepth 100000 in
theorem chooses_le_no (w : World) (y1 : Addr) (n1 c1 : Nat) (L1 : List UInt8) (h1 : ArgB w (some y1) n1 c1 L1) (b1 : n1 ≤ 600) :
    Calls Try.prog 4 #[.slice (some y1) n1 c1, .slice none 0 0] w fun e w' => e = .returned (.bool true) ∧ Below w.heap.size w w' := by
  have hc1 : (n1 : Int) ≤ (c1 : Int) := by have := h1.2.1; omega
  have hi1 : (n1 : Int) ≤ 600 := by omega
  have X1 : Hid (ArgB w (some y1) n1 c1 L1) := h1
  have le1 : L1.length ≤ 600 := by have := h1.1; omega
  clear h1
  have X2 : Hid (ArgB w none 0 0 ([] : List UInt8)) := ⟨rfl, Nat.le_refl _, fun _ => ⟨rfl, rfl⟩, fun x hx => by cases hx⟩
  have le2 : ([] : List UInt8).length ≤ 600 := by simp
  go_enter Try.func4, Try.ntmps4
  go_upto_region 4 with (go_at_call 9; refine (shown_calls _).mono ?_; rintro e w1 ⟨rfl, bs⟩)
  have hA := X1.out.below bs
  have hB := X2.out.below bs
  have bA0 : Below w1.heap.size w1 (w1.alloc (.cells #[] 5)) := (Below.refl _ _).alloc (Nat.le_refl _) _
  have HA : Hid (ArgB w1 (some y1) n1 c1 L1) := hA
  have HB : Hid (ArgB w1 none 0 0 ([] : List UInt8)) := hB
  clear hA hB X1 X2
  go_upto_region 5 with (first
    | (have _q := bB; first
      | (go_at_call 18; refine (choose_byt byA byB).mono ?_; intro e w4 ho4; obtain ⟨sv4, rfl, sn4, b4⟩ := ho4.sna; clear ho4)
      | (refine store_sup rfl _ _ rfl w4.heap.size rfl ((chooseP L1 ([] : List UInt8)).getD nilU) sv4 rfl sn4.one nilU (.slice none 0 0) (HasU.new w4 nilU (.slice none 0 0) _ rfl rfl) ?_; intro x4 hu4 tx4 sx4))
    | (have _q := bA; at_builtin; refine append_arg rfl (.tmp 26) (.tmp 27) rfl w2 rfl rfl none 0 0 ([] : List UInt8) rfl ((HB.out.below bA).below ((Below.refl _ _).alloc (Nat.le_refl _) _)) (by omega) ?_; intro v3 w3 byB hf3 bB; obtain ⟨a3, c3, rfl⟩ := hf3; have byA := (byA0.below bB))
    | (at_builtin; refine append_arg rfl (.tmp 23) (.tmp 24) rfl w1 rfl rfl (some y1) n1 c1 L1 rfl (HA.out.below bA0) (by omega) ?_; intro v2 w2 byA0 hf2 bA; obtain ⟨a2', c2', rfl⟩ := hf2))
  have BX : Below w1.heap.size w1 x4 := below_on bA bA.size (below_on bB bB.size (step_below b4 _ tx4))
  have H4 : Held w x4 [(w4.heap.size, (chooseP L1 ([] : List UInt8)).getD nilU, sv4)] [] [(sv4, ((chooseP L1 ([] : List UInt8)).getD nilU).l)] := by
    have := ((((((Held.start w).called bs).called bA).called bB).called b4).addS sn4).stored hu4 tx4
    exact this
  have hcvA := conv_arg (HA.out.below BX)
  have hcvB := conv_arg (HB.out.below BX)
  have hrc := rchoose_calls x4 L1 ([] : List UInt8) (by omega) (by omega)
  clear hu4 tx4 sx4 sn4 b4 bA bB byA byB byA0 BX HA HB bA0
  generalize chooseP L1 ([] : List UInt8) = V at *
  generalize w4.heap.size = d4 at *
  go_upto_region 6 with (first
    | (go_at_call 19; refine hrc.mono ?_; intro e w5 ho5; obtain ⟨sv5, rfl, sn5, b5⟩ := ho5.sna; clear ho5)
    | (refine store_sup rfl _ _ rfl w5.heap.size rfl (V.getD nilU) sv5 rfl sn5.one nilU (.slice none 0 0) (HasU.new w5 nilU (.slice none 0 0) _ rfl rfl) ?_; intro x5 hu5 tx5 sx5))
  have H5 := ((H4.called b5).addS sn5).stored hu5 tx5
  clear H4 hrc hcvA hcvB b5 sn5 hu5 tx5 sx5
  generalize w5.heap.size = d5 at *
  have u4 := H5.u (d4, V.getD nilU, sv4) (by simp)
  have u5 := H5.u (d5, V.getD nilU, sv5) (by simp)
  have hsame := same_calls x5 (V.getD nilU) (V.getD nilU) sv4 sv5 (H5.s (sv4, (V.getD nilU).l) (by simp)) (H5.s (sv5, (V.getD nilU).l) (by simp))
  rw [decide_eq_true (rfl : V.getD nilU = V.getD nilU)] at hsame
  go_wp2_with (first
    | (refine load_sup _ rfl d4 rfl rfl _ _ u4 ?_)
    | (refine load_sup _ rfl d5 rfl rfl _ _ u5 ?_)
    | (go_at_call 15; refine hsame.mono ?_; rintro e w6 ⟨rfl, b6⟩))
  go_ret
  exact ⟨rfl, (H5.called b6).bel⟩
set_option maxHeartbeats 8000000 in
set_option maxRecDepth 100000 in
theorem chooses_gt_le (w : World) (y1 : Addr) (n1 c1 : Nat) (L1 : List UInt8) (h1 : ArgB w (some y1) n1 c1 L1) (b1 : 600 < n1) (y2 : Addr) (n2 c2 : Nat) (L2 : List UInt8) (h2 : ArgB w (some y2) n2 c2 L2) (b2 : n2 ≤ 600) :
    Calls Try.prog 4 #[.slice (some y1) n1 c1, .slice (some y2) n2 c2] w fun e w' => e = .returned (.bool true) ∧ Below w.heap.size w w' := by
  have hc1 : (600 : Int) ≤ (c1 : Int) := by have := h1.2.1; omega
  have hi1 : ¬ (n1 : Int) ≤ 600 := by omega
  have hj1 : (600 : Int) < (n1 : Int) := by omega
  have X1 : Hid (ArgB w (some y1) 600 c1 (L1.take 600)) := h1.cut 600 (by omega)
  have le1 : (L1.take 600).length ≤ 600 := by simp; omega
  clear h1
  generalize L1.take 600 = M1 at *
  have hc2 : (n2 : Int) ≤ (c2 : Int) := by have := h2.2.1; omega
  have hi2 : (n2 : Int) ≤ 600 := by omega
  have X2 : Hid (ArgB w (some y2) n2 c2 L2) := h2
  have le2 : L2.length ≤ 600 := by have := h2.1; omega
  clear h2
  go_enter Try.func4, Try.ntmps4
  go_upto_region 4 with (go_at_call 9; refine (shown_calls _).mono ?_; rintro e w1 ⟨rfl, bs⟩)
  have hA := X1.out.below bs
  have hB := X2.out.below bs
  have bA0 : Below w1.heap.size w1 (w1.alloc (.cells #[] 5)) := (Below.refl _ _).alloc (Nat.le_refl _) _
  have HA : Hid (ArgB w1 (some y1) 600 c1 M1) := hA
  have HB : Hid (ArgB w1 (some y2) n2 c2 L2) := hB
  clear hA hB X1 X2
  go_upto_region 5 with (first
    | (have _q := bB; first
      | (go_at_call 18; refine (choose_byt byA byB).mono ?_; intro e w4 ho4; obtain ⟨sv4, rfl, sn4, b4⟩ := ho4.sna; clear ho4)
      | (refine store_sup rfl _ _ rfl w4.heap.size rfl ((chooseP M1 L2).getD nilU) sv4 rfl sn4.one nilU (.slice none 0 0) (HasU.new w4 nilU (.slice none 0 0) _ rfl rfl) ?_; intro x4 hu4 tx4 sx4))
    | (have _q := bA; at_builtin; refine append_arg rfl (.tmp 26) (.tmp 27) rfl w2 rfl rfl (some y2) n2 c2 L2 rfl ((HB.out.below bA).below ((Below.refl _ _).alloc (Nat.le_refl _) _)) (by omega) ?_; intro v3 w3 byB hf3 bB; obtain ⟨a3, c3, rfl⟩ := hf3; have byA := (byA0.below bB))
    | (at_builtin; refine append_arg rfl (.tmp 23) (.tmp 24) rfl w1 rfl rfl (some y1) 600 c1 M1 rfl (HA.out.below bA0) (by omega) ?_; intro v2 w2 byA0 hf2 bA; obtain ⟨a2', c2', rfl⟩ := hf2))
  have BX : Below w1.heap.size w1 x4 := below_on bA bA.size (below_on bB bB.size (step_below b4 _ tx4))
  have H4 : Held w x4 [(w4.heap.size, (chooseP M1 L2).getD nilU, sv4)] [] [(sv4, ((chooseP M1 L2).getD nilU).l)] := by
    have := ((((((Held.start w).called bs).called bA).called bB).called b4).addS sn4).stored hu4 tx4
    exact this
  have hcvA := conv_arg (HA.out.below BX)
  have hcvB := conv_arg (HB.out.below BX)
  have hrc := rchoose_calls x4 M1 L2 (by omega) (by omega)
  clear hu4 tx4 sx4 sn4 b4 bA bB byA byB byA0 BX HA HB bA0
  generalize chooseP M1 L2 = V at *
  generalize w4.heap.size = d4 at *
  go_upto_region 6 with (first
    | (go_at_call 19; refine hrc.mono ?_; intro e w5 ho5; obtain ⟨sv5, rfl, sn5, b5⟩ := ho5.sna; clear ho5)
    | (refine store_sup rfl _ _ rfl w5.heap.size rfl (V.getD nilU) sv5 rfl sn5.one nilU (.slice none 0 0) (HasU.new w5 nilU (.slice none 0 0) _ rfl rfl) ?_; intro x5 hu5 tx5 sx5))
  have H5 := ((H4.called b5).addS sn5).stored hu5 tx5
  clear H4 hrc hcvA hcvB b5 sn5 hu5 tx5 sx5
  generalize w5.heap.size = d5 at *
  have u4 := H5.u (d4, V.getD nilU, sv4) (by simp)
  have u5 := H5.u (d5, V.getD nilU, sv5) (by simp)
  have hsame := same_calls x5 (V.getD nilU) (V.getD nilU) sv4 sv5 (H5.s (sv4, (V.getD nilU).l) (by simp)) (H5.s (sv5, (V.getD nilU).l) (by simp))
  rw [decide_eq_true (rfl : V.getD nilU = V.getD nilU)] at hsame
  go_wp2_with (first
    | (refine load_sup _ rfl d4 rfl rfl _ _ u4 ?_)
    | (refine load_sup _ rfl d5 rfl rfl _ _ u5 ?_)
    | (go_at_call 15; refine hsame.mono ?_; rintro e w6 ⟨rfl, b6⟩))
  go_ret
  exact ⟨rfl, (H5.called b6).bel⟩
set_option maxHeartbeats 8000000 in
set_option maxRecDepth 100000 in
theorem chooses_gt_gt (w : World) (y1 : Addr) (n1 c1 : Nat) (L1 : List UInt8) (h1 : ArgB w (some y1) n1 c1 L1) (b1 : 600 < n1) (y2 : Addr) (n2 c2 : Nat) (L2 : List UInt8) (h2 : ArgB w (some y2) n2 c2 L2) (b2 : 600 < n2) :
    Calls Try.prog 4 #[.slice (some y1) n1 c1, .slice (some y2) n2 c2] w fun e w' => e = .returned (.bool true) ∧ Below w.heap.size w w' := by
  have hc1 : (600 : Int) ≤ (c1 : Int) := by have := h1.2.1; omega
  have hi1 : ¬ (n1 : Int) ≤ 600 := by omega
  have hj1 : (600 : Int) < (n1 : Int) := by omega
  have X1 : Hid (ArgB w (some y1) 600 c1 (L1.take 600)) := h1.cut 600 (by omega)
  have le1 : (L1.take 600).length ≤ 600 := by simp; omega
  clear h1
  generalize L1.take 600 = M1 at *
  have hc2 : (600 : Int) ≤ (c2 : Int) := by have := h2.2.1; omega
  have hi2 : ¬ (n2 : Int) ≤ 600 := by omega
  have hj2 : (600 : Int) < (n2 : Int) := by omega
  have X2 : Hid (ArgB w (some y2) 600 c2 (L2.take 600)) := h2.cut 600 (by omega)
  have le2 : (L2.take 600).length ≤ 600 := by simp; omega
  clear h2
  generalize L2.take 600 = M2 at *
  go_enter Try.func4, Try.ntmps4
  go_upto_region 4 with (go_at_call 9; refine (shown_calls _).mono ?_; rintro e w1 ⟨rfl, bs⟩)
  have hA := X1.out.below bs
  have hB := X2.out.below bs
  have bA0 : Below w1.heap.size w1 (w1.alloc (.cells #[] 5)) := (Below.refl _ _).alloc (Nat.le_refl _) _
  have HA : Hid (ArgB w1 (some y1) 600 c1 M1) := hA
  have HB : Hid (ArgB w1 (some y2) 600 c2 M2) := hB
  clear hA hB X1 X2
  go_upto_region 5 with (first
    | (have _q := bB; first
      | (go_at_call 18; refine (choose_byt byA byB).mono ?_; intro e w4 ho4; obtain ⟨sv4, rfl, sn4, b4⟩ := ho4.sna; clear ho4)
      | (refine store_sup rfl _ _ rfl w4.heap.size rfl ((chooseP M1 M2).getD nilU) sv4 rfl sn4.one nilU (.slice none 0 0) (HasU.new w4 nilU (.slice none 0 0) _ rfl rfl) ?_; intro x4 hu4 tx4 sx4))
    | (have _q := bA; at_builtin; refine append_arg rfl (.tmp 26) (.tmp 27) rfl w2 rfl rfl (some y2) 600 c2 M2 rfl ((HB.out.below bA).below ((Below.refl _ _).alloc (Nat.le_refl _) _)) (by omega) ?_; intro v3 w3 byB hf3 bB; obtain ⟨a3, c3, rfl⟩ := hf3; have byA := (byA0.below bB))
    | (at_builtin; refine append_arg rfl (.tmp 23) (.tmp 24) rfl w1 rfl rfl (some y1) 600 c1 M1 rfl (HA.out.below bA0) (by omega) ?_; intro v2 w2 byA0 hf2 bA; obtain ⟨a2', c2', rfl⟩ := hf2))
  have BX : Below w1.heap.size w1 x4 := below_on bA bA.size (below_on bB bB.size (step_below b4 _ tx4))
  have H4 : Held w x4 [(w4.heap.size, (chooseP M1 M2).getD nilU, sv4)] [] [(sv4, ((chooseP M1 M2).getD nilU).l)] := by
    have := ((((((Held.start w).called bs).called bA).called bB).called b4).addS sn4).stored hu4 tx4
    exact this
  have hcvA := conv_arg (HA.out.below BX)
  have hcvB := conv_arg (HB.out.below BX)
  have hrc := rchoose_calls x4 M1 M2 (by omega) (by omega)
  clear hu4 tx4 sx4 sn4 b4 bA bB byA byB byA0 BX HA HB bA0
  generalize chooseP M1 M2 = V at *
  generalize w4.heap.size = d4 at *
  go_upto_region 6 with (first
    | (go_at_call 19; refine hrc.mono ?_; intro e w5 ho5; obtain ⟨sv5, rfl, sn5, b5⟩ := ho5.sna; clear ho5)
    | (refine store_sup rfl _ _ rfl w5.heap.size rfl (V.getD nilU) sv5 rfl sn5.one nilU (.slice none 0 0) (HasU.new w5 nilU (.slice none 0 0) _ rfl rfl) ?_; intro x5 hu5 tx5 sx5))
  have H5 := ((H4.called b5).addS sn5).stored hu5 tx5
  clear H4 hrc hcvA hcvB b5 sn5 hu5 tx5 sx5
  generalize w5.heap.size = d5 at *
  have u4 := H5.u (d4, V.getD nilU, sv4) (by simp)
  have u5 := H5.u (d5, V.getD nilU, sv5) (by simp)
  have hsame := same_calls x5 (V.getD nilU) (V.getD nilU) sv4 sv5 (H5.s (sv4, (V.getD nilU).l) (by simp)) (H5.s (sv5, (V.getD nilU).l) (by simp))
  rw [decide_eq_true (rfl : V.getD nilU = V.getD nilU)] at hsame
  go_wp2_with (first
    | (refine load_sup _ rfl d4 rfl rfl _ _ u4 ?_)
    | (refine load_sup _ rfl d5 rfl rfl _ _ u5 ?_)
    | (go_at_call 15; refine hsame.mono ?_; rintro e w6 ⟨rfl, b6⟩))
  go_ret
  exact ⟨rfl, (H5.called b6).bel⟩
set_option maxHeartbeats 8000000 in
set_option maxRecDepth 100000 in
theorem chooses_gt_no (w : World) (y1 : Addr) (n1 c1 : Nat) (L1 : List UInt8) (h1 : ArgB w (some y1) n1 c1 L1) (b1 : 600 < n1) :
    Calls Try.prog 4 #[.slice (some y1) n1 c1, .slice none 0 0] w fun e w' => e = .returned (.bool true) ∧ Below w.heap.size w w' := by
  have hc1 : (600 : Int) ≤ (c1 : Int) := by have := h1.2.1; omega
  have hi1 : ¬ (n1 : Int) ≤ 600 := by omega
  have hj1 : (600 : Int) < (n1 : Int) := by omega
  have X1 : Hid (ArgB w (some y1) 600 c1 (L1.take 600)) := h1.cut 600 (by omega)
  have le1 : (L1.take 600).length ≤ 600 := by simp; omega
  clear h1
  generalize L1.take 600 = M1 at *
  have X2 : Hid (ArgB w none 0 0 ([] : List UInt8)) := ⟨rfl, Nat.le_refl _, fun _ => ⟨rfl, rfl⟩, fun x hx => by cases hx⟩
  have le2 : ([] : List UInt8).length ≤ 600 := by simp
  go_enter Try.func4, Try.ntmps4
  go_upto_region 4 with (go_at_call 9; refine (shown_calls _).mono ?_; rintro e w1 ⟨rfl, bs⟩)
  have hA := X1.out.below bs
  have hB := X2.out.below bs
  have bA0 : Below w1.heap.size w1 (w1.alloc (.cells #[] 5)) := (Below.refl _ _).alloc (Nat.le_refl _) _
  have HA : Hid (ArgB w1 (some y1) 600 c1 M1) := hA
  have HB : Hid (ArgB w1 none 0 0 ([] : List UInt8)) := hB
  clear hA hB X1 X2
  go_upto_region 5 with (first
    | (have _q := bB; first
      | (go_at_call 18; refine (choose_byt byA byB).mono ?_; intro e w4 ho4; obtain ⟨sv4, rfl, sn4, b4⟩ := ho4.sna; clear ho4)
      | (refine store_sup rfl _ _ rfl w4.heap.size rfl ((chooseP M1 ([] : List UInt8)).getD nilU) sv4 rfl sn4.one nilU (.slice none 0 0) (HasU.new w4 nilU (.slice none 0 0) _ rfl rfl) ?_; intro x4 hu4 tx4 sx4))
    | (have _q := bA; at_builtin; refine append_arg rfl (.tmp 26) (.tmp 27) rfl w2 rfl rfl none 0 0 ([] : List UInt8) rfl ((HB.out.below bA).below ((Below.refl _ _).alloc (Nat.le_refl _) _)) (by omega) ?_; intro v3 w3 byB hf3 bB; obtain ⟨a3, c3, rfl⟩ := hf3; have byA := (byA0.below bB))
    | (at_builtin; refine append_arg rfl (.tmp 23) (.tmp 24) rfl w1 rfl rfl (some y1) 600 c1 M1 rfl (HA.out.below bA0) (by omega) ?_; intro v2 w2 byA0 hf2 bA; obtain ⟨a2', c2', rfl⟩ := hf2))
  have BX : Below w1.heap.size w1 x4 := below_on bA bA.size (below_on bB bB.size (step_below b4 _ tx4))
  have H4 : Held w x4 [(w4.heap.size, (chooseP M1 ([] : List UInt8)).getD nilU, sv4)] [] [(sv4, ((chooseP M1 ([] : List UInt8)).getD nilU).l)] := by
    have := ((((((Held.start w).called bs).called bA).called bB).called b4).addS sn4).stored hu4 tx4
    exact this
  have hcvA := conv_arg (HA.out.below BX)
  have hcvB := conv_arg (HB.out.below BX)
  have hrc := rchoose_calls x4 M1 ([] : List UInt8) (by omega) (by omega)
  clear hu4 tx4 sx4 sn4 b4 bA bB byA byB byA0 BX HA HB bA0
  generalize chooseP M1 ([] : List UInt8) = V at *
  generalize w4.heap.size = d4 at *
  go_upto_region 6 with (first
    | (go_at_call 19; refine hrc.mono ?_; intro e w5 ho5; obtain ⟨sv5, rfl, sn5, b5⟩ := ho5.sna; clear ho5)
    | (refine store_sup rfl _ _ rfl w5.heap.size rfl (V.getD nilU) sv5 rfl sn5.one nilU (.slice none 0 0) (HasU.new w5 nilU (.slice none 0 0) _ rfl rfl) ?_; intro x5 hu5 tx5 sx5))
  have H5 := ((H4.called b5).addS sn5).stored hu5 tx5
  clear H4 hrc hcvA hcvB b5 sn5 hu5 tx5 sx5
  generalize w5.heap.size = d5 at *
  have u4 := H5.u (d4, V.getD nilU, sv4) (by simp)
  have u5 := H5.u (d5, V.getD nilU, sv5) (by simp)
  have hsame := same_calls x5 (V.getD nilU) (V.getD nilU) sv4 sv5 (H5.s (sv4, (V.getD nilU).l) (by simp)) (H5.s (sv5, (V.getD nilU).l) (by simp))
  rw [decide_eq_true (rfl : V.getD nilU = V.getD nilU)] at hsame
  go_wp2_with (first
    | (refine load_sup _ rfl d4 rfl rfl _ _ u4 ?_)
    | (refine load_sup _ rfl d5 rfl rfl _ _ u5 ?_)
    | (go_at_call 15; refine hsame.mono ?_; rintro e w6 ⟨rfl, b6⟩))
  go_ret
  exact ⟨rfl, (H5.called b6).bel⟩
set_option maxHeartbeats 8000000 in
set_option maxRecDepth 100000 in
theorem chooses_no_le (w : World) (y2 : Addr) (n2 c2 : Nat) (L2 : List UInt8) (h2 : ArgB w (some y2) n2 c2 L2) (b2 : n2 ≤ 600) :
    Calls Try.prog 4 #[.slice none 0 0, .slice (some y2) n2 c2] w fun e w' => e = .returned (.bool true) ∧ Below w.heap.size w w' := by
  have X1 : Hid (ArgB w none 0 0 ([] : List UInt8)) := ⟨rfl, Nat.le_refl _, fun _ => ⟨rfl, rfl⟩, fun x hx => by cases hx⟩
  have le1 : ([] : List UInt8).length ≤ 600 := by simp
  have hc2 : (n2 : Int) ≤ (c2 : Int) := by have := h2.2.1; omega
  have hi2 : (n2 : Int) ≤ 600 := by omega
  have X2 : Hid (ArgB w (some y2) n2 c2 L2) := h2
  have le2 : L2.length ≤ 600 := by have := h2.1; omega
  clear h2
  go_enter Try.func4, Try.ntmps4
  go_upto_region 4 with (go_at_call 9; refine (shown_calls _).mono ?_; rintro e w1 ⟨rfl, bs⟩)
  have hA := X1.out.below bs
  have hB := X2.out.below bs
  have bA0 : Below w1.heap.size w1 (w1.alloc (.cells #[] 5)) := (Below.refl _ _).alloc (Nat.le_refl _) _
  have HA : Hid (ArgB w1 none 0 0 ([] : List UInt8)) := hA
  have HB : Hid (ArgB w1 (some y2) n2 c2 L2) := hB
  clear hA hB X1 X2
  go_upto_region 5 with (first
    | (have _q := bB; first
      | (go_at_call 18; refine (choose_byt byA byB).mono ?_; intro e w4 ho4; obtain ⟨sv4, rfl, sn4, b4⟩ := ho4.sna; clear ho4)
      | (refine store_sup rfl _ _ rfl w4.heap.size rfl ((chooseP ([] : List UInt8) L2).getD nilU) sv4 rfl sn4.one nilU (.slice none 0 0) (HasU.new w4 nilU (.slice none 0 0) _ rfl rfl) ?_; intro x4 hu4 tx4 sx4))
    | (have _q := bA; at_builtin; refine append_arg rfl (.tmp 26) (.tmp 27) rfl w2 rfl rfl (some y2) n2 c2 L2 rfl ((HB.out.below bA).below ((Below.refl _ _).alloc (Nat.le_refl _) _)) (by omega) ?_; intro v3 w3 byB hf3 bB; obtain ⟨a3, c3, rfl⟩ := hf3; have byA := (byA0.below bB))
    | (at_builtin; refine append_arg rfl (.tmp 23) (.tmp 24) rfl w1 rfl rfl none 0 0 ([] : List UInt8) rfl (HA.out.below bA0) (by omega) ?_; intro v2 w2 byA0 hf2 bA; obtain ⟨a2', c2', rfl⟩ := hf2))
  have BX : Below w1.heap.size w1 x4 := below_on bA bA.size (below_on bB bB.size (step_below b4 _ tx4))
  have H4 : Held w x4 [(w4.heap.size, (chooseP ([] : List UInt8) L2).getD nilU, sv4)] [] [(sv4, ((chooseP ([] : List UInt8) L2).getD nilU).l)] := by
    have := ((((((Held.start w).called bs).called bA).called bB).called b4).addS sn4).stored hu4 tx4
    exact this
  have hcvA := conv_arg (HA.out.below BX)
  have hcvB := conv_arg (HB.out.below BX)
  have hrc := rchoose_calls x4 ([] : List UInt8) L2 (by omega) (by omega)
  clear hu4 tx4 sx4 sn4 b4 bA bB byA byB byA0 BX HA HB bA0
  generalize chooseP ([] : List UInt8) L2 = V at *
  generalize w4.heap.size = d4 at *
  go_upto_region 6 with (first
    | (go_at_call 19; refine hrc.mono ?_; intro e w5 ho5; obtain ⟨sv5, rfl, sn5, b5⟩ := ho5.sna; clear ho5)
    | (refine store_sup rfl _ _ rfl w5.heap.size rfl (V.getD nilU) sv5 rfl sn5.one nilU (.slice none 0 0) (HasU.new w5 nilU (.slice none 0 0) _ rfl rfl) ?_; intro x5 hu5 tx5 sx5))
  have H5 := ((H4.called b5).addS sn5).stored hu5 tx5
  clear H4 hrc hcvA hcvB b5 sn5 hu5 tx5 sx5
  generalize w5.heap.size = d5 at *
  have u4 := H5.u (d4, V.getD nilU, sv4) (by simp)
  have u5 := H5.u (d5, V.getD nilU, sv5) (by simp)
  have hsame := same_calls x5 (V.getD nilU) (V.getD nilU) sv4 sv5 (H5.s (sv4, (V.getD nilU).l) (by simp)) (H5.s (sv5, (V.getD nilU).l) (by simp))
  rw [decide_eq_true (rfl : V.getD nilU = V.getD nilU)] at hsame
  go_wp2_with (first
    | (refine load_sup _ rfl d4 rfl rfl _ _ u4 ?_)
    | (refine load_sup _ rfl d5 rfl rfl _ _ u5 ?_)
    | (go_at_call 15; refine hsame.mono ?_; rintro e w6 ⟨rfl, b6⟩))
  go_ret
  exact ⟨rfl, (H5.called b6).bel⟩
set_option maxHeartbeats 8000000 in
set_option maxRecDepth 100000 in
theorem chooses_no_gt (w : World) (y2 : Addr) (n2 c2 : Nat) (L2 : List UInt8) (h2 : ArgB w (some y2) n2 c2 L2) (b2 : 600 < n2) :
    Calls Try.prog 4 #[.slice none 0 0, .slice (some y2) n2 c2] w fun e w' => e = .returned (.bool true) ∧ Below w.heap.size w w' := by
  have X1 : Hid (ArgB w none 0 0 ([] : List UInt8)) := ⟨rfl, Nat.le_refl _, fun _ => ⟨rfl, rfl⟩, fun x hx => by cases hx⟩
  have le1 : ([] : List UInt8).length ≤ 600 := by simp
  have hc2 : (600 : Int) ≤ (c2 : Int) := by have := h2.2.1; omega
  have hi2 : ¬ (n2 : Int) ≤ 600 := by omega
  have hj2 : (600 : Int) < (n2 : Int) := by omega
  have X2 : Hid (ArgB w (some y2) 600 c2 (L2.take 600)) := h2.cut 600 (by omega)
  have le2 : (L2.take 600).length ≤ 600 := by simp; omega
  clear h2
  generalize L2.take 600 = M2 at *
  go_enter Try.func4, Try.ntmps4
  go_upto_region 4 with (go_at_call 9; refine (shown_calls _).mono ?_; rintro e w1 ⟨rfl, bs⟩)
  have hA := X1.out.below bs
  have hB := X2.out.below bs
  have bA0 : Below w1.heap.size w1 (w1.alloc (.cells #[] 5)) := (Below.refl _ _).alloc (Nat.le_refl _) _
  have HA : Hid (ArgB w1 none 0 0 ([] : List UInt8)) := hA
  have HB : Hid (ArgB w1 (some y2) 600 c2 M2) := hB
  clear hA hB X1 X2
  go_upto_region 5 with (first
    | (have _q := bB; first
      | (go_at_call 18; refine (choose_byt byA byB).mono ?_; intro e w4 ho4; obtain ⟨sv4, rfl, sn4, b4⟩ := ho4.sna; clear ho4)
      | (refine store_sup rfl _ _ rfl w4.heap.size rfl ((chooseP ([] : List UInt8) M2).getD nilU) sv4 rfl sn4.one nilU (.slice none 0 0) (HasU.new w4 nilU (.slice none 0 0) _ rfl rfl) ?_; intro x4 hu4 tx4 sx4))
    | (have _q := bA; at_builtin; refine append_arg rfl (.tmp 26) (.tmp 27) rfl w2 rfl rfl (some y2) 600 c2 M2 rfl ((HB.out.below bA).below ((Below.refl _ _).alloc (Nat.le_refl _) _)) (by omega) ?_; intro v3 w3 byB hf3 bB; obtain ⟨a3, c3, rfl⟩ := hf3; have byA := (byA0.below bB))
    | (at_builtin; refine append_arg rfl (.tmp 23) (.tmp 24) rfl w1 rfl rfl none 0 0 ([] : List UInt8) rfl (HA.out.below bA0) (by omega) ?_; intro v2 w2 byA0 hf2 bA; obtain ⟨a2', c2', rfl⟩ := hf2))
  have BX : Below w1.heap.size w1 x4 := below_on bA bA.size (below_on bB bB.size (step_below b4 _ tx4))
  have H4 : Held w x4 [(w4.heap.size, (chooseP ([] : List UInt8) M2).getD nilU, sv4)] [] [(sv4, ((chooseP ([] : List UInt8) M2).getD nilU).l)] := by
    have := ((((((Held.start w).called bs).called bA).called bB).called b4).addS sn4).stored hu4 tx4
    exact this
  have hcvA := conv_arg (HA.out.below BX)
  have hcvB := conv_arg (HB.out.below BX)
  have hrc := rchoose_calls x4 ([] : List UInt8) M2 (by omega) (by omega)
  clear hu4 tx4 sx4 sn4 b4 bA bB byA byB byA0 BX HA HB bA0
  generalize chooseP ([] : List UInt8) M2 = V at *
  generalize w4.heap.size = d4 at *
  go_upto_region 6 with (first
    | (go_at_call 19; refine hrc.mono ?_; intro e w5 ho5; obtain ⟨sv5, rfl, sn5, b5⟩ := ho5.sna; clear ho5)
    | (refine store_sup rfl _ _ rfl w5.heap.size rfl (V.getD nilU) sv5 rfl sn5.one nilU (.slice none 0 0) (HasU.new w5 nilU (.slice none 0 0) _ rfl rfl) ?_; intro x5 hu5 tx5 sx5))
  have H5 := ((H4.called b5).addS sn5).stored hu5 tx5
  clear H4 hrc hcvA hcvB b5 sn5 hu5 tx5 sx5
  generalize w5.heap.size = d5 at *
  have u4 := H5.u (d4, V.getD nilU, sv4) (by simp)
  have u5 := H5.u (d5, V.getD nilU, sv5) (by simp)
  have hsame := same_calls x5 (V.getD nilU) (V.getD nilU) sv4 sv5 (H5.s (sv4, (V.getD nilU).l) (by simp)) (H5.s (sv5, (V.getD nilU).l) (by simp))
  rw [decide_eq_true (rfl : V.getD nilU = V.getD nilU)] at hsame
  go_wp2_with (first
    | (refine load_sup _ rfl d4 rfl rfl _ _ u4 ?_)
    | (refine load_sup _ rfl d5 rfl rfl _ _ u5 ?_)
    | (go_at_call 15; refine hsame.mono ?_; rintro e w6 ⟨rfl, b6⟩))
  go_ret
  exact ⟨rfl, (H5.called b6).bel⟩
set_option maxHeartbeats 8000000 in
set_option maxRecDepth 100000 in
theorem chooses_no_no (w : World) :
    Calls Try.prog 4 #[.slice none 0 0, .slice none 0 0] w fun e w' => e = .returned (.bool true) ∧ Below w.heap.size w w' := by
  have X1 : Hid (ArgB w none 0 0 ([] : List UInt8)) := ⟨rfl, Nat.le_refl _, fun _ => ⟨rfl, rfl⟩, fun x hx => by cases hx⟩
  have le1 : ([] : List UInt8).length ≤ 600 := by simp
  have X2 : Hid (ArgB w none 0 0 ([] : List UInt8)) := ⟨rfl, Nat.le_refl _, fun _ => ⟨rfl, rfl⟩, fun x hx => by cases hx⟩
  have le2 : ([] : List UInt8).length ≤ 600 := by simp
  go_enter Try.func4, Try.ntmps4
  go_upto_region 4 with (go_at_call 9; refine (shown_calls _).mono ?_; rintro e w1 ⟨rfl, bs⟩)
  have hA := X1.out.below bs
  have hB := X2.out.below bs
  have bA0 : Below w1.heap.size w1 (w1.alloc (.cells #[] 5)) := (Below.refl _ _).alloc (Nat.le_refl _) _
  have HA : Hid (ArgB w1 none 0 0 ([] : List UInt8)) := hA
  have HB : Hid (ArgB w1 none 0 0 ([] : List UInt8)) := hB
  clear hA hB X1 X2
  go_upto_region 5 with (first
    | (have _q := bB; first
      | (go_at_call 18; refine (choose_byt byA byB).mono ?_; intro e w4 ho4; obtain ⟨sv4, rfl, sn4, b4⟩ := ho4.sna; clear ho4)
      | (refine store_sup rfl _ _ rfl w4.heap.size rfl ((chooseP ([] : List UInt8) ([] : List UInt8)).getD nilU) sv4 rfl sn4.one nilU (.slice none 0 0) (HasU.new w4 nilU (.slice none 0 0) _ rfl rfl) ?_; intro x4 hu4 tx4 sx4))
    | (have _q := bA; at_builtin; refine append_arg rfl (.tmp 26) (.tmp 27) rfl w2 rfl rfl none 0 0 ([] : List UInt8) rfl ((HB.out.below bA).below ((Below.refl _ _).alloc (Nat.le_refl _) _)) (by omega) ?_; intro v3 w3 byB hf3 bB; obtain ⟨a3, c3, rfl⟩ := hf3; have byA := (byA0.below bB))
    | (at_builtin; refine append_arg rfl (.tmp 23) (.tmp 24) rfl w1 rfl rfl none 0 0 ([] : List UInt8) rfl (HA.out.below bA0) (by omega) ?_; intro v2 w2 byA0 hf2 bA; obtain ⟨a2', c2', rfl⟩ := hf2))
  have BX : Below w1.heap.size w1 x4 := below_on bA bA.size (below_on bB bB.size (step_below b4 _ tx4))
  have H4 : Held w x4 [(w4.heap.size, (chooseP ([] : List UInt8) ([] : List UInt8)).getD nilU, sv4)] [] [(sv4, ((chooseP ([] : List UInt8) ([] : List UInt8)).getD nilU).l)] := by
    have := ((((((Held.start w).called bs).called bA).called bB).called b4).addS sn4).stored hu4 tx4
    exact this
  have hcvA := conv_arg (HA.out.below BX)
  have hcvB := conv_arg (HB.out.below BX)
  have hrc := rchoose_calls x4 ([] : List UInt8) ([] : List UInt8) (by omega) (by omega)
  clear hu4 tx4 sx4 sn4 b4 bA bB byA byB byA0 BX HA HB bA0
  generalize chooseP ([] : List UInt8) ([] : List UInt8) = V at *
  generalize w4.heap.size = d4 at *
  go_upto_region 6 with (first
    | (go_at_call 19; refine hrc.mono ?_; intro e w5 ho5; obtain ⟨sv5, rfl, sn5, b5⟩ := ho5.sna; clear ho5)
    | (refine store_sup rfl _ _ rfl w5.heap.size rfl (V.getD nilU) sv5 rfl sn5.one nilU (.slice none 0 0) (HasU.new w5 nilU (.slice none 0 0) _ rfl rfl) ?_; intro x5 hu5 tx5 sx5))
  have H5 := ((H4.called b5).addS sn5).stored hu5 tx5
  clear H4 hrc hcvA hcvB b5 sn5 hu5 tx5 sx5
  generalize w5.heap.size = d5 at *
  have u4 := H5.u (d4, V.getD nilU, sv4) (by simp)
  have u5 := H5.u (d5, V.getD nilU, sv5) (by simp)
  have hsame := same_calls x5 (V.getD nilU) (V.getD nilU) sv4 sv5 (H5.s (sv4, (V.getD nilU).l) (by simp)) (H5.s (sv5, (V.getD nilU).l) (by simp))
  rw [decide_eq_true (rfl : V.getD nilU = V.getD nilU)] at hsame
  go_wp2_with (first
    | (refine load_sup _ rfl d4 rfl rfl _ _ u4 ?_)
    | (refine load_sup _ rfl d5 rfl rfl _ _ u5 ?_)
    | (go_at_call 15; refine hsame.mono ?_; rintro e w6 ⟨rfl, b6⟩))
  go_ret
  exact ⟨rfl, (H5.called b6).bel⟩
theorem chooses_walk (w : World) (a1 a2 : Option Addr) (n1 n2 c1 c2 : Nat) (L1 L2 : List UInt8) (h1 : ArgB w a1 n1 c1 L1) (h2 : ArgB w a2 n2 c2 L2) :
    Calls Try.prog 4 #[.slice a1 n1 c1, .slice a2 n2 c2] w fun e w' => e = .returned (.bool true) ∧ Below w.heap.size w w' := by
  have z1 : a1 = none → n1 = 0 ∧ c1 = 0 := fun e => ⟨by have := h1.1; rw [(h1.2.2.1 e).1] at this; exact this, (h1.2.2.1 e).2⟩
  have z2 : a2 = none → n2 = 0 ∧ c2 = 0 := fun e => ⟨by have := h2.1; rw [(h2.2.2.1 e).1] at this; exact this, (h2.2.2.1 e).2⟩
  cases a1 with
  | none =>
    obtain ⟨rfl, rfl⟩ := z1 rfl
    cases a2 with
    | none =>
      obtain ⟨rfl, rfl⟩ := z2 rfl
      exact chooses_no_no w
    | some y2 =>
      by_cases b2 : n2 ≤ 600
      · exact chooses_no_le w y2 n2 c2 L2 h2 b2
      · exact chooses_no_gt w y2 n2 c2 L2 h2 (by omega)
  | some y1 =>
    by_cases b1 : n1 ≤ 600
    · cases a2 with
      | none =>
        obtain ⟨rfl, rfl⟩ := z2 rfl
        exact chooses_le_no w y1 n1 c1 L1 h1 b1
      | some y2 =>
        by_cases b2 : n2 ≤ 600
        · exact chooses_le_le w y1 n1 c1 L1 h1 b1 y2 n2 c2 L2 h2 b2
        · exact chooses_le_gt w y1 n1 c1 L1 h1 b1 y2 n2 c2 L2 h2 (by omega)
    · have b1' : 600 < n1 := by omega
      cases a2 with
      | none =>
        obtain ⟨rfl, rfl⟩ := z2 rfl
        exact chooses_gt_no w y1 n1 c1 L1 h1 b1'
      | some y2 =>
        by_cases b2 : n2 ≤ 600
        · exact chooses_gt_le w y1 n1 c1 L1 h1 b1' y2 n2 c2 L2 h2 b2
        · exact chooses_gt_gt w y1 n1 c1 L1 h1 b1' y2 n2 c2 L2 h2 (by omega)
end Go.Proofs.Ytbjnbobohkjhiaa
