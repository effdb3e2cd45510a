/- shown answers true. -/
import Derived.Test.YtnpohjbhfoebcaaSupN
namespace Go.Proofs.Ytnpohjbhfoebcaa
set_option linter.unusedVariables false
open Go.RowKit

theorem build_to {ops : Array Oper} {rest : List Oper} {o : Oper} {a : Act} {w : World} {Q : Exit → Act → World → Prop} (hgd : o.guard = none) (t : TypeId) (parts : Array (Nat × Operand)) (ho : o.op = .build t parts) (C : Array Value)
    (hb : Try.prog.built t (parts.map fun (i, x) => (i, a.eval x)).toList = some C) (h : wpList Try.prog ops Q rest (a.put o.dst (.agg C)) w) : wpList Try.prog ops Q (o :: rest) a w := by
  refine wpList_plain hgd fun K hK => ?_
  refine wp_build t parts ho (by rw [hb]; rfl) ?_
  rw [hb]
  exact hK _ _ h
theorem bytes_nil (w : World) (r : Option Nat) : BytesIn w (.slice none 0 0) [] r := ⟨none, 0, rfl, Nat.le_refl _, .inl ⟨rfl, rfl, rfl⟩⟩
theorem ofP_nil : ofP [] = none := by
  cases h : ofP [] with
  | none => rfl
  | some S =>
    obtain ⟨h1, h2⟩ := (of_iff _ _).1 h
    have := (fits h1).enc
    rw [h2] at this
    cases this
theorem validP_nil (n : Int) : validP [] n = none := by rw [validP, ofP_nil]; rfl
theorem validP_enc (S : Sup) (h : right S = true) (n : Int) : validP (enc S) n = if S.g % 2 = n then some S else none := by rw [validP, of_enc S h]; rfl
/-- Bytes that are owned, and stay. -/
theorem own_in {w w' : World} {base n : Nat} {sv : Value} {L : List UInt8} (h : w.ownsRow base 5 1 sv n (bc L)) (hb : Below w.heap.size w w') : BytesIn w' sv L sv.ownBlock ∧ ∀ k, sv.ownBlock = some k → k < w'.heap.size := by
  have e : n = L.length := by have := h.1; rw [bc_length] at this; omega
  subst e
  refine ⟨(own_bytes h).kept fun k hk => hb.block k (h.lt k hk).2, fun k hk => ?_⟩
  have := (h.lt k hk).2
  have := hb.size
  omega
theorem in_cut {w : World} {a : Option Addr} {c : Nat} {L : List UInt8} {r : Option Nat} (n : Nat) (h : BytesIn w (.slice a L.length c) L r) (hn : n ≤ L.length) (h0 : 0 < L.length) : BytesIn w (.slice a n c) (L.take n) r := by
  obtain ⟨ad, cap, e, hc, hh⟩ := h
  cases e
  refine ⟨a, c, by simp [hn], by simp; omega, ?_⟩
  rcases hh with ⟨_, e, _⟩ | ⟨g, off, h1, h2, h3, h4⟩
  · rw [e] at h0; simp at h0
  · exact .inr ⟨g, off, h1, h2, h3, fun j u hu => h4 j u (bc_take hu)⟩
theorem step_below {x w' y : World} (b : Below x.heap.size x w') (o : Obj) (t : Touch w'.heap.size none (w'.alloc o) y) : Below x.heap.size x y := below_rowed (b.alloc b.size o) t b.size (Nat.le_refl _)
theorem below_on {B : Nat} {w x y : World} (h : Below B w x) (hB : B ≤ x.heap.size) (k : Below x.heap.size x y) : Below B w y := h.trans (k.mono hB)
def sup1 : Sup := ⟨1, 0, 2, 0, []⟩
theorem sup1_right : right sup1 = true := by decide
theorem sup1_20 : str ((enc sup1).take 20) = ⟨#[0, 0, 0, 0, 0, 0, 0, 1, 87, 65, 73, 78, 0, 0, 0, 0, 0, 0, 0, 2]⟩ := by decide +kernel
theorem sup1_511 : (enc sup1)[511]? = some 1 := by decide +kernel
set_option maxHeartbeats 8000000 in
set_option maxRecDepth 100000 in
theorem shown_calls (w : World) : Calls Try.prog 5 #[] w fun e w' => e = .returned (.bool true) ∧ Below w.heap.size w w' := by
  have HL : Hid ((enc sup1).length = 512) := (fits sup1_right).enc
  go_enter Try.func5, Try.ntmps5
  go_upto_region 2 with (first
    | (refine build_to rfl _ _ rfl (uc sup1 (.slice none 0 0)) (by kernel_rfl) ?_)
    | (go_at_call 9; refine (bytes_calls _ (.slice none 0 0) sup1 none ⟨none, 0, rfl, Nat.le_refl _, Nat.zero_le _, .inl rfl⟩ (fun k hk => by cases hk)).mono ?_; rintro e w1 ⟨b1, ⟨hf, _⟩ | ⟨_, a, c, rfl, ho⟩⟩; · exact absurd hf (by rw [sup1_right]; simp)))
  have O1 : Hid (w1.ownsRow w.heap.size 5 1 (.slice a 512 c) 512 (bc (enc sup1))) := ho
  clear ho
  have in1 : ∀ x, Below w1.heap.size w1 x → BytesIn x (.slice a 512 c) (enc sup1) (Value.slice a 512 c).ownBlock ∧ ∀ k, (Value.slice a 512 c).ownBlock = some k → k < x.heap.size := fun x hx => own_in O1.out hx
  have IN : Hid (∀ x, Below w1.heap.size w1 x → BytesIn x (.slice a 512 c) (enc sup1) (Value.slice a 512 c).ownBlock ∧ ∀ k, (Value.slice a 512 c).ownBlock = some k → k < x.heap.size) := in1
  clear in1
  go_upto_region 3 with (first
    | (go_at_call 12; refine (of_calls _ _ (enc sup1) _ (IN.out _ (Below.refl _ _)).1 (IN.out _ (Below.refl _ _)).2).mono ?_; rw [of_enc _ sup1_right]; rintro e w2 ⟨sv2, r2, rfl, sn2, hr2, b2⟩)
    | (refine store_sup rfl _ _ rfl w2.heap.size rfl sup1 sv2 rfl sn2.one nilU (.slice none 0 0) (HasU.new w2 nilU (.slice none 0 0) _ rfl rfl) ?_; intro x2 hu2 tx2 sx2))
  have B2 : Below w1.heap.size w1 x2 := step_below b2 _ tx2
  clear b2 sn2 hr2 tx2 sx2
  go_upto_region 4 with (first
    | (go_at_call 12; refine (of_calls _ _ [] none (bytes_nil _ _) (fun k hk => by cases hk)).mono ?_; rw [ofP_nil]; rintro e w3 ⟨sv3, r3, rfl, sn3, hr3, b3⟩)
    | (refine store_sup rfl _ _ rfl w3.heap.size rfl nilU sv3 rfl sn3.one nilU (.slice none 0 0) (HasU.new w3 nilU (.slice none 0 0) _ rfl rfl) ?_; intro x3 hu3 tx3 sx3))
  have B3 : Below x2.heap.size x2 x3 := step_below b3 _ tx3
  have hu2' := hu2.below B3 hu2.lt
  have B13 : Below w1.heap.size w1 x3 := below_on B2 B2.size B3
  clear b3 sn3 hr3 tx3 sx3 hu3 hu2 B2 B3
  have ch1 : chooseP [] (enc sup1) = some sup1 := by
    rw [chooseP, validP_nil, validP_enc _ sup1_right]
    rfl
  have ch2 : chooseP (enc sup1) [] = none := by
    rw [chooseP, validP_nil, validP_enc _ sup1_right]
    rfl
  have C1 : Hid (chooseP [] (enc sup1) = some sup1) := ch1
  have C2 : Hid (chooseP (enc sup1) [] = none) := ch2
  clear ch1 ch2
  go_upto_region 5 with (first
    | (go_at_call 10; refine (choose_calls _ _ _ [] (enc sup1) none _ (bytes_nil _ _) (fun k hk => by cases hk) (IN.out _ B13).1 (IN.out _ B13).2).mono ?_; rw [C1.out]; rintro e w4 ⟨sv4, r4, rfl, sn4, hr4, b4⟩)
    | (refine store_sup rfl _ _ rfl w4.heap.size rfl sup1 sv4 rfl sn4.one nilU (.slice none 0 0) (HasU.new w4 nilU (.slice none 0 0) _ rfl rfl) ?_; intro x4 hu4 tx4 sx4))
  have B4 : Below x3.heap.size x3 x4 := step_below b4 _ tx4
  have hu2 := hu2'.below B4 hu2'.lt
  have B14 : Below w1.heap.size w1 x4 := below_on B13 B13.size B4
  clear b4 sn4 hr4 tx4 sx4 hu2' B13 B4
  go_upto_region 6 with (first
    | (go_at_call 10; refine (choose_calls _ _ _ (enc sup1) [] _ none (IN.out _ B14).1 (IN.out _ B14).2 (bytes_nil _ _) (fun k hk => by cases hk)).mono ?_; rw [C2.out]; rintro e w5 ⟨sv5, r5, rfl, sn5, hr5, b5⟩)
    | (refine store_sup rfl _ _ rfl w5.heap.size rfl nilU sv5 rfl sn5.one nilU (.slice none 0 0) (HasU.new w5 nilU (.slice none 0 0) _ rfl rfl) ?_; intro x5 hu5 tx5 sx5))
  have B5 : Below x4.heap.size x4 x5 := step_below b5 _ tx5
  have hu2' := hu2.below B5 hu2.lt
  have hu4' := hu4.below B5 hu4.lt
  have B15 : Below w1.heap.size w1 x5 := below_on B14 B14.size B5
  clear b5 sn5 hr5 tx5 sx5 hu5 hu2 hu4 B14 B5
  go_upto_region 7 with (first
    | (refine build_to rfl _ _ rfl (uc nilU (.slice none 0 0)) (by kernel_rfl) ?_)
    | (go_at_call 9; refine (bytes_calls _ (.slice none 0 0) nilU none ⟨none, 0, rfl, Nat.le_refl _, Nat.zero_le _, .inl rfl⟩ (fun k hk => by cases hk)).mono ?_; rintro e w6 ⟨b6, ⟨_, rfl⟩ | ⟨hf, _⟩⟩; rotate_left; · exact absurd hf (by decide)))
  have hu2 := hu2'.below b6 hu2'.lt
  have hu4 := hu4'.below b6 hu4'.lt
  have B16 : Below w1.heap.size w1 w6 := below_on B15 B15.size b6
  have B06 : Below w.heap.size w w6 := below_on b1 b1.size B16
  obtain ⟨q0, _, q2, _⟩ := hu2.cells
  obtain ⟨p0, _⟩ := hu4.cells
  have hin := (IN.out _ B16).1
  rw [← HL.out] at hin
  have hcv := conv_bytes (in_cut 20 hin (by have := HL.out; omega) (by have := HL.out; omega))
  rw [sup1_20] at hcv
  have hc511 : ∃ g off, a = some ⟨g, off, none⟩ ∧ w6.cell? ⟨g, off + 511, none⟩ = some (.int .u8 1) ∧ 512 ≤ c := by
    obtain ⟨ad, cap, e, hcap, hh⟩ := hin
    cases e
    rcases hh with ⟨_, e, _⟩ | ⟨g, off, h1, _, _, h4⟩
    · have := HL.out; rw [e] at this; cases this
    · refine ⟨g, off, h1, h4 511 _ ?_, by have := HL.out; omega⟩
      simp only [bc, List.getElem?_map, sup1_511]
      rfl
  obtain ⟨g, off, rfl, c511, hcap⟩ := hc511
  have hc20 : (20 : Int) ≤ (c : Int) := by omega
  simp only [sup1] at q0 q2 p0
  have ec1 : code (some sup1) = 0 := rfl
  have ec2 : code none = 12 := rfl
  clear hin O1 IN HL
  go_wp2
  go_ret
  exact ⟨rfl, B06⟩
end Go.Proofs.Ytnpohjbhfoebcaa
