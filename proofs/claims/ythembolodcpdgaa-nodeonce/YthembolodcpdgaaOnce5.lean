/- NodeOnce, walked. -/
import Derived.Test.YthembolodcpdgaaArgN
namespace Go.Proofs.Ythembolodcpdgaa
set_option linter.unusedVariables false
open Go.RowKit

set_option maxHeartbeats 16000000 in
set_option maxRecDepth 100000 in
theorem once5_le (w : World) (y : Addr) (n c : Nat) (L : List UInt8) (h1 : ArgB w (some y) n c L) (hn : n ≤ 600) :
    Calls Try.prog 5 #[.slice (some y) n c] w fun e w' => e = .returned (.bool true) ∧ Below w.heap.size w w' := by
  have hc1 : (n : Int) ≤ (c : Int) := by have := h1.2.1; omega
  have hm1 : min (n : Int) 600 = (n : Int) := by omega
  have X1 : Hid (ArgB w (some y) n c L) := h1
  have le1 : L.length ≤ 600 := by have := h1.1; omega
  clear h1
  go_enter Try.func5, Try.ntmps5
  go_upto_region 3 with (go_at_call 9; refine (shown_calls _).mono ?_; rintro e w1 ⟨rfl, b1⟩)
  have A1 : Hid (ArgB w1 (some y) n c L) := X1.out.below b1
  clear X1
  go_upto_region 4 with (first
    | (at_builtin; refine append_arg rfl (.tmp 15) (.tmp 16) rfl w1 rfl rfl (some y) n c L rfl (A1.out.below ((Below.refl _ _).alloc (Nat.le_refl _) _)) (by omega) ?_; intro v2 w2 by2 hf2 b2; obtain ⟨a2, c2, rfl⟩ := hf2; have hO := of_byt by2 (by omega); have HO : Hid (Calls Try.prog 13 #[.slice a2 n c2] w2 (OfTo w2 (ofN L))) := hO; clear hO)
    | (go_at_call 13; refine HO.out.mono ?_; rintro e w3 ⟨pv3, qv3, rfl, pa3, b3⟩)
    | (refine store_node rfl _ _ rfl w3.heap.size rfl ((ofN L).getD nilN) pv3 qv3 rfl pa3.p.one pa3.q.one nilN (.slice none 0 0) (.slice none 0 0) (HasN.new w3 nilN _ _ _ rfl rfl rfl) ?_; intro x3 hu3 tx3 sx3))
  have H3 := (((((Held.start w).called b1).called b2).called b3).addS pa3).stored hu3 tx3
  have A3 : Hid (ArgB x3 (some y) n c L) := ((A1.out.below b2).below b3).below (step_below (Below.refl _ w3) _ tx3)
  clear A1 HO by2 b1 b2 b3 pa3 hu3 tx3 sx3
  generalize w3.heap.size = d3 at *
  cases hV : ofN L with
  | none =>
    rw [hV] at H3
    have PA := H3.s (nilN, pv3, qv3) (by simp)
    obtain ⟨ap, cp, e1⟩ := PA.lenP
    obtain ⟨aq, cq, e2⟩ := PA.lenQ
    have e1' : pv3 = .slice ap 0 cp := e1
    have e2' : qv3 = .slice aq 0 cq := e2
    subst e1' e2'
    obtain ⟨k0, k1, k2⟩ := (H3.u (d3, nilN, .slice ap 0 cp, .slice aq 0 cq) (by simp)).cells
    have k0' : x3.cell? ⟨d3, 0, none⟩ = some (.int .i64 0) := k0
    have BB := H3.bel
    have en := code_none
    clear H3 PA e1 e2 k0 A3
    go_wp2
    go_ret
    exact ⟨rfl, BB⟩
  | some x =>
    obtain ⟨hr, hk, he⟩ := enc_of hV
    rw [hV] at H3
    have HE : Hid (enc x = L) := he
    have hu := H3.u (d3, x, pv3, qv3) (by simp)
    have hB := bytes_nod (H3.s (x, pv3, qv3) (by simp))
    rw [hr] at hB
    have ec := code_some x
    clear hV he hk
    go_upto_region 7 with (first
      | (refine load_node _ rfl d3 rfl rfl _ _ _ hu ?_)
      | (go_at_call 11; refine hB.mono ?_; rintro e w4 ⟨b4, ⟨hf, _⟩ | ⟨_, a4, c4, rfl, _, by4⟩⟩; · cases hf))
    have H4 := (H3.called b4).addB by4
    have A4 : Hid (ArgB w4 (some y) n c L) := A3.out.below b4
    clear H3 A3 hB hu by4 b4
    have hu := H4.u (d3, x, pv3, qv3) (by simp)
    have hR := right_calls w4 x pv3 qv3 (H4.s (x, pv3, qv3) (by simp))
    rw [hr] at hR
    go_wp2_with (first
      | (refine load_node _ rfl d3 rfl rfl _ _ _ hu ?_)
      | (go_at_call 19; refine hR.mono ?_; rintro e w5 ⟨rfl, b5⟩; have H5 := H4.called b5; have cv1 := (H5.b (.slice a4 512 c4, enc x) (by simp)).conv; have cv2 := conv_arg (A4.out.below b5); rw [HE.out] at cv1))
    go_ret
    exact ⟨rfl, H5.bel⟩
set_option maxHeartbeats 16000000 in
set_option maxRecDepth 100000 in
theorem once5_gt (w : World) (y : Addr) (n c : Nat) (L : List UInt8) (h1 : ArgB w (some y) n c L) (hn : 600 < n) :
    Calls Try.prog 5 #[.slice (some y) n c] w fun e w' => e = .returned (.bool true) ∧ Below w.heap.size w w' := by
  have hc1 : (600 : Int) ≤ (c : Int) := by have := h1.2.1; omega
  have hm1 : min (n : Int) 600 = 600 := by omega
  have X1 : Hid (ArgB w (some y) 600 c (L.take 600)) := h1.cut 600 (by omega)
  have le1 : (L.take 600).length ≤ 600 := by simp; omega
  clear h1
  generalize L.take 600 = M at *
  go_enter Try.func5, Try.ntmps5
  go_upto_region 3 with (go_at_call 9; refine (shown_calls _).mono ?_; rintro e w1 ⟨rfl, b1⟩)
  have A1 : Hid (ArgB w1 (some y) 600 c M) := X1.out.below b1
  clear X1
  go_upto_region 4 with (first
    | (at_builtin; refine append_arg rfl (.tmp 15) (.tmp 16) rfl w1 rfl rfl (some y) 600 c M rfl (A1.out.below ((Below.refl _ _).alloc (Nat.le_refl _) _)) (by omega) ?_; intro v2 w2 by2 hf2 b2; obtain ⟨a2, c2, rfl⟩ := hf2; have hO := of_byt by2 (by omega); have HO : Hid (Calls Try.prog 13 #[.slice a2 600 c2] w2 (OfTo w2 (ofN M))) := hO; clear hO)
    | (go_at_call 13; refine HO.out.mono ?_; rintro e w3 ⟨pv3, qv3, rfl, pa3, b3⟩)
    | (refine store_node rfl _ _ rfl w3.heap.size rfl ((ofN M).getD nilN) pv3 qv3 rfl pa3.p.one pa3.q.one nilN (.slice none 0 0) (.slice none 0 0) (HasN.new w3 nilN _ _ _ rfl rfl rfl) ?_; intro x3 hu3 tx3 sx3))
  have H3 := (((((Held.start w).called b1).called b2).called b3).addS pa3).stored hu3 tx3
  have A3 : Hid (ArgB x3 (some y) 600 c M) := ((A1.out.below b2).below b3).below (step_below (Below.refl _ w3) _ tx3)
  clear A1 HO by2 b1 b2 b3 pa3 hu3 tx3 sx3
  generalize w3.heap.size = d3 at *
  cases hV : ofN M with
  | none =>
    rw [hV] at H3
    have PA := H3.s (nilN, pv3, qv3) (by simp)
    obtain ⟨ap, cp, e1⟩ := PA.lenP
    obtain ⟨aq, cq, e2⟩ := PA.lenQ
    have e1' : pv3 = .slice ap 0 cp := e1
    have e2' : qv3 = .slice aq 0 cq := e2
    subst e1' e2'
    obtain ⟨k0, k1, k2⟩ := (H3.u (d3, nilN, .slice ap 0 cp, .slice aq 0 cq) (by simp)).cells
    have k0' : x3.cell? ⟨d3, 0, none⟩ = some (.int .i64 0) := k0
    have BB := H3.bel
    have en := code_none
    clear H3 PA e1 e2 k0 A3
    go_wp2
    go_ret
    exact ⟨rfl, BB⟩
  | some x =>
    obtain ⟨hr, hk, he⟩ := enc_of hV
    rw [hV] at H3
    have HE : Hid (enc x = M) := he
    have hu := H3.u (d3, x, pv3, qv3) (by simp)
    have hB := bytes_nod (H3.s (x, pv3, qv3) (by simp))
    rw [hr] at hB
    have ec := code_some x
    clear hV he hk
    go_upto_region 7 with (first
      | (refine load_node _ rfl d3 rfl rfl _ _ _ hu ?_)
      | (go_at_call 11; refine hB.mono ?_; rintro e w4 ⟨b4, ⟨hf, _⟩ | ⟨_, a4, c4, rfl, _, by4⟩⟩; · cases hf))
    have H4 := (H3.called b4).addB by4
    have A4 : Hid (ArgB w4 (some y) 600 c M) := A3.out.below b4
    clear H3 A3 hB hu by4 b4
    have hu := H4.u (d3, x, pv3, qv3) (by simp)
    have hR := right_calls w4 x pv3 qv3 (H4.s (x, pv3, qv3) (by simp))
    rw [hr] at hR
    go_wp2_with (first
      | (refine load_node _ rfl d3 rfl rfl _ _ _ hu ?_)
      | (go_at_call 19; refine hR.mono ?_; rintro e w5 ⟨rfl, b5⟩; have H5 := H4.called b5; have cv1 := (H5.b (.slice a4 512 c4, enc x) (by simp)).conv; have cv2 := conv_arg (A4.out.below b5); rw [HE.out] at cv1))
    go_ret
    exact ⟨rfl, H5.bel⟩
set_option maxHeartbeats 16000000 in
set_option maxRecDepth 100000 in
theorem once5_no (w : World) :
    Calls Try.prog 5 #[.slice none 0 0] w fun e w' => e = .returned (.bool true) ∧ Below w.heap.size w w' := by
  have X1 : Hid (ArgB w none 0 0 ([] : List UInt8)) := ⟨rfl, Nat.le_refl _, fun _ => ⟨rfl, rfl⟩, fun x hx => by cases hx⟩
  have le1 : ([] : List UInt8).length ≤ 600 := by simp
  have hm1 : min (0 : Int) 600 = 0 := by decide
  go_enter Try.func5, Try.ntmps5
  go_upto_region 3 with (go_at_call 9; refine (shown_calls _).mono ?_; rintro e w1 ⟨rfl, b1⟩)
  have A1 : Hid (ArgB w1 none 0 0 ([] : List UInt8)) := X1.out.below b1
  clear X1
  go_upto_region 4 with (first
    | (at_builtin; refine append_arg rfl (.tmp 15) (.tmp 16) rfl w1 rfl rfl none 0 0 ([] : List UInt8) rfl (A1.out.below ((Below.refl _ _).alloc (Nat.le_refl _) _)) (by omega) ?_; intro v2 w2 by2 hf2 b2; obtain ⟨a2, c2, rfl⟩ := hf2; have hO := of_byt by2 (by omega); have HO : Hid (Calls Try.prog 13 #[.slice a2 0 c2] w2 (OfTo w2 (ofN ([] : List UInt8)))) := hO; clear hO)
    | (go_at_call 13; refine HO.out.mono ?_; rintro e w3 ⟨pv3, qv3, rfl, pa3, b3⟩)
    | (refine store_node rfl _ _ rfl w3.heap.size rfl ((ofN ([] : List UInt8)).getD nilN) pv3 qv3 rfl pa3.p.one pa3.q.one nilN (.slice none 0 0) (.slice none 0 0) (HasN.new w3 nilN _ _ _ rfl rfl rfl) ?_; intro x3 hu3 tx3 sx3))
  have H3 := (((((Held.start w).called b1).called b2).called b3).addS pa3).stored hu3 tx3
  have A3 : Hid (ArgB x3 none 0 0 ([] : List UInt8)) := ((A1.out.below b2).below b3).below (step_below (Below.refl _ w3) _ tx3)
  clear A1 HO by2 b1 b2 b3 pa3 hu3 tx3 sx3
  generalize w3.heap.size = d3 at *
  cases hV : ofN ([] : List UInt8) with
  | none =>
    rw [hV] at H3
    have PA := H3.s (nilN, pv3, qv3) (by simp)
    obtain ⟨ap, cp, e1⟩ := PA.lenP
    obtain ⟨aq, cq, e2⟩ := PA.lenQ
    have e1' : pv3 = .slice ap 0 cp := e1
    have e2' : qv3 = .slice aq 0 cq := e2
    subst e1' e2'
    obtain ⟨k0, k1, k2⟩ := (H3.u (d3, nilN, .slice ap 0 cp, .slice aq 0 cq) (by simp)).cells
    have k0' : x3.cell? ⟨d3, 0, none⟩ = some (.int .i64 0) := k0
    have BB := H3.bel
    have en := code_none
    clear H3 PA e1 e2 k0 A3
    go_wp2
    go_ret
    exact ⟨rfl, BB⟩
  | some x =>
    obtain ⟨hr, hk, he⟩ := enc_of hV
    rw [hV] at H3
    have HE : Hid (enc x = ([] : List UInt8)) := he
    have hu := H3.u (d3, x, pv3, qv3) (by simp)
    have hB := bytes_nod (H3.s (x, pv3, qv3) (by simp))
    rw [hr] at hB
    have ec := code_some x
    clear hV he hk
    go_upto_region 7 with (first
      | (refine load_node _ rfl d3 rfl rfl _ _ _ hu ?_)
      | (go_at_call 11; refine hB.mono ?_; rintro e w4 ⟨b4, ⟨hf, _⟩ | ⟨_, a4, c4, rfl, _, by4⟩⟩; · cases hf))
    have H4 := (H3.called b4).addB by4
    have A4 : Hid (ArgB w4 none 0 0 ([] : List UInt8)) := A3.out.below b4
    clear H3 A3 hB hu by4 b4
    have hu := H4.u (d3, x, pv3, qv3) (by simp)
    have hR := right_calls w4 x pv3 qv3 (H4.s (x, pv3, qv3) (by simp))
    rw [hr] at hR
    go_wp2_with (first
      | (refine load_node _ rfl d3 rfl rfl _ _ _ hu ?_)
      | (go_at_call 19; refine hR.mono ?_; rintro e w5 ⟨rfl, b5⟩; have H5 := H4.called b5; have cv1 := (H5.b (.slice a4 512 c4, enc x) (by simp)).conv; have cv2 := conv_arg (A4.out.below b5); rw [HE.out] at cv1))
    go_ret
    exact ⟨rfl, H5.bel⟩
theorem once5_walk (w : World) (ad : Option Addr) (n c : Nat) (L : List UInt8) (h1 : ArgB w ad n c L) :
    Calls Try.prog 5 #[.slice ad n c] w fun e w' => e = .returned (.bool true) ∧ Below w.heap.size w w' := by
  cases ad with
  | none =>
    obtain ⟨a1, _, a3, _⟩ := h1
    obtain ⟨rfl, rfl⟩ := a3 rfl
    simp only [List.length_nil] at a1
    subst a1
    exact once5_no w
  | some y =>
    by_cases h : n ≤ 600
    · exact once5_le w y n c L h1 h
    · exact once5_gt w y n c L h1 (by omega)
end Go.Proofs.Ythembolodcpdgaa
