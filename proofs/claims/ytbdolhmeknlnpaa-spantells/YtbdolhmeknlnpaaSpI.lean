/- What the laws lean on: of, shown, cut, join. -/
import Derived.Test.YtbdolhmeknlnpaaSpH
namespace Go.Proofs.Ytbdolhmeknlnpaa
set_option linter.unusedVariables false
open Go.RowKit

theorem build_one {ops : Array Oper} {rest : List Oper} {o : Oper} {a : Act} {w : World} {Q : Exit → Act → World → Prop} (hg : o.guard = none) (ty : TypeId) (i : Nat) (x : Operand) (ho : o.op = .build ty #[(i, x)]) (vx : Value) (hx : a.eval x = vx) (C : Array Value) (hb : Try.prog.built ty [(i, vx)] = some C)
    (h : wpList Try.prog ops Q rest (a.put o.dst (.agg C)) w) : wpList Try.prog ops Q (o :: rest) a w := build_to hg ty _ ho [(i, vx)] (by simp [hx]) C hb h
def ofS (x y : UInt8) : Sp := ⟨x :: zs 23, y :: zs 23, false, rfl, rfl⟩
theorem Try.key1_built (x : Int) : Try.prog.built 30 [(0, .int .u8 x)] = some (Value.int .u8 x :: bc (zs 23)).toArray := by kernel_rfl
theorem key1 (x : UInt8) (X : Int) (hX : X = (x.toNat : Int)) : Try.prog.built 30 [(0, .int .u8 X)] = some (bc (x :: zs 23)).toArray := by rw [Try.key1_built, hX]; rfl
set_option maxHeartbeats 1000000 in
theorem of_calls (x y : UInt8) (X Y : Int) (hX : X = (x.toNat : Int)) (hY : Y = (y.toNat : Int)) (w : World) : Calls Try.prog 25 #[.int .u8 X, .int .u8 Y] w fun e w' => e = .returned (spv (ofS x y)) ∧ Below w.heap.size w w' := by
  have k1 := key1 x X hX
  have k2 := key1 y Y hY
  have h1 : (x :: zs 23).length = 24 := rfl
  have h2 : (y :: zs 23).length = 24 := rfl
  have HF : Hid (ofS x y = ⟨x :: zs 23, y :: zs 23, false, h1, h2⟩) := rfl
  generalize ofS x y = Z at *
  generalize x :: zs 23 = KX at *
  generalize y :: zs 23 = KY at *
  have K1 : Hid (Try.prog.built 30 [(0, .int .u8 X)] = some (bc KX).toArray) := k1
  have K2 : Hid (Try.prog.built 30 [(0, .int .u8 Y)] = some (bc KY).toArray) := k2
  clear k1 k2 hX hY
  go_enter Try.func25, Try.ntmps25
  go_wp2_with (first
    | (refine build_one rfl 30 0 (.tmp 5) rfl (.int .u8 X) rfl _ K1.out ?_)
    | (refine build_one rfl 30 0 (.tmp 7) rfl (.int .u8 Y) rfl _ K2.out ?_)
    | (refine build2 rfl _ _ rfl KX KY rfl rfl h1 h2 ?_)
    | (refine store_span rfl _ _ rfl w.heap.size rfl KX KY false rfl h1 h2 (zs 24) (zs 24) false (zero_hasS w w.heap.size rfl) ?_; intro w4 h4 t4 s4))
  refine ret_span rfl _ _ _ _ rfl h4 rfl ⟨by rw [HF.out], ?_⟩
  exact below_touched (below_made (Below.refl _ w) (Nat.le_refl _) _) t4 (Nat.le_refl _) (Nat.le_refl _)
theorem num_zs : ∀ n, num (zs n) = 0
  | 0 => rfl
  | n + 1 => by
    rw [show zs (n + 1) = 0 :: zs n from rfl, num_cons, num_zs n]
    simp
theorem num_one (x : UInt8) : num (x :: zs 23) = x.toNat * 256 ^ 23 := by rw [num_cons, num_zs, zs_length]; simp
theorem of_inb (x y : UInt8) (k : Int) : (ofS x y).inb k = (decide (((x.toNat * 256 ^ 23 : Nat) : Int) ≤ k) && decide (k < ((y.toNat * 256 ^ 23 : Nat) : Int))) := by
  simp only [Sp.inb, ofS, num_one, Bool.false_or]
theorem shown_one {R : List Sp} (h : Is R (mem [ofS 98 100, ofS 97 99])) : R = [ofS 97 100] := by
  refine h.unique (m := [ofS 97 100]) (h := mem [ofS 97 100]) ⟨⟨by omega, .inr ⟨rfl, ?_, trivial⟩⟩, fun _ _ => rfl⟩ fun K _ => ?_
  · simp only [ofS, num_one]
    have : (0 : Nat) < 256 ^ 23 := pow_pos256 23
    generalize 256 ^ 23 = P at *
    simp
    omega
  · simp only [mem_cons, mem_nil, of_inb]
    have : (0 : Nat) < 256 ^ 23 := pow_pos256 23
    generalize 256 ^ 23 = P at *
    generalize (num K : Int) = k
    rw [Bool.eq_iff_iff]
    simp
    omega
theorem shown_two {R : List Sp} (h : Is R (fun x => mem [ofS 97 100] x && !mem [ofS 98 99] x)) : R = [ofS 97 98, ofS 99 100] := by
  refine h.unique (m := [ofS 97 98, ofS 99 100]) (h := mem [ofS 97 98, ofS 99 100]) ⟨⟨by omega, .inr ⟨rfl, ?_, ?_, .inr ⟨rfl, ?_, trivial⟩⟩⟩, fun _ _ => rfl⟩ fun K _ => ?_
  · simp only [ofS, num_one]
    have : (0 : Nat) < 256 ^ 23 := pow_pos256 23
    generalize 256 ^ 23 = P at *
    simp
    omega
  · simp only [ofS, num_one]
    have : (0 : Nat) < 256 ^ 23 := pow_pos256 23
    generalize 256 ^ 23 = P at *
    simp
    omega
  · simp only [ofS, num_one]
    have : (0 : Nat) < 256 ^ 23 := pow_pos256 23
    generalize 256 ^ 23 = P at *
    simp
    omega
  · simp only [mem_cons, mem_nil, of_inb]
    have : (0 : Nat) < 256 ^ 23 := pow_pos256 23
    generalize 256 ^ 23 = P at *
    generalize (num K : Int) = k
    rw [Bool.eq_iff_iff]
    simp
    omega
theorem shown_three {t : Bool} (h : touchP [ofS 97 100] [ofS 97 98, ofS 99 100] t) : t = true := by
  cases t with
  | true => rfl
  | false =>
    exfalso
    refine h.2 rfl (97 :: zs 23) rfl ?_ ?_
    · simp only [mem_cons, mem_nil, of_inb, num_one]
      have : (0 : Nat) < 256 ^ 23 := pow_pos256 23
      generalize 256 ^ 23 = P at *
      simp
      omega
    · simp only [mem_cons, mem_nil, of_inb, num_one]
      have : (0 : Nat) < 256 ^ 23 := pow_pos256 23
      generalize 256 ^ 23 = P at *
      simp
      omega
theorem shown_four {t : Bool} (h : touchP [ofS 97 98, ofS 99 100] [ofS 98 99] t) : t = false := by
  cases t with
  | false => rfl
  | true =>
    obtain ⟨K, _, h1, h2⟩ := h.1 rfl
    simp only [mem_cons, mem_nil, of_inb] at h1 h2
    have : (0 : Nat) < 256 ^ 23 := pow_pos256 23
    generalize 256 ^ 23 = P at *
    generalize (num K : Int) = k at *
    simp at h1 h2
    omega
theorem exec_eq_self {ρ : Operand → Value} {o : Oper} (x y : Operand) (t' : TypeId) (ho : o.op = .binOp .eql 35 x y t') (s : Sp) (hx : ρ x = spv s) (hy : ρ y = spv s) (w : World) : (execOp ρ o).run Try.prog w = .ok (.value (.bool true)) w := by
  have := exec_eq_sp x y t' ho s s hx hy w
  rwa [decide_eq_true rfl] at this
/-- What shown holds in memory. -/
structure Sw (w y : World) (gc cc gl cl : Nat) : Prop where
  bel : Below w.heap.size w y
  c : Own encS 35 y w.heap.size (.slice (some ⟨gc, 0, none⟩) 1 cc) [ofS 97 100]
  l : Own encS 35 y w.heap.size (.slice (some ⟨gl, 0, none⟩) 2 cl) [ofS 97 98, ofS 99 100]
theorem Sw.called {w y z : World} {gc cc gl cl : Nat} (h : Sw w y gc cc gl cl) (b : Below y.heap.size y z) : Sw w z gc cc gl cl := ⟨h.bel.trans (b.mono h.bel.size), h.c.below b, h.l.below b⟩
theorem own_at {w : World} {base g cap n : Nat} {l : List Sp} (h : Own encS 35 w base (.slice (some ⟨g, 0, none⟩) n cap) l) (i : Nat) (hi : i < l.length) : w.rangeAt g (i * 49) (encS.c l[i]) := by
  obtain ⟨g', off', e1, _, hr⟩ := SlB.at h.slB i hi
  cases e1
  simpa using hr
theorem own_form {w : World} {base : Nat} {v : Value} {l : List Sp} (h : Own encS 35 w base v l) (hl : l ≠ []) : ∃ g cap, v = .slice (some ⟨g, 0, none⟩) l.length cap ∧ l.length ≤ cap := by
  rcases h.2 with ⟨_, h0⟩ | ⟨g, cap, cur, hv, _, _, hn, _⟩
  · exact absurd (List.eq_nil_of_length_eq_zero h0) hl
  · exact ⟨g, cap, hv, hn⟩
set_option maxRecDepth 100000 in
set_option maxHeartbeats 16000000 in
theorem shown_calls (w : World) : Calls Try.prog 9 #[] w fun e w' => e = .returned (.bool true) ∧ Below w.heap.size w w' := by
  go_enter Try.func9, Try.ntmps9
  go_upto_region 2 with (first
    | (go_at_call 25; have _q := b1; refine (of_calls 97 99 97 99 rfl rfl _).mono ?_; rintro e w2 ⟨rfl, b2⟩)
    | (go_at_call 25; refine (of_calls 98 100 98 100 rfl rfl _).mono ?_; rintro e w1 ⟨rfl, b1⟩)
    | (refine build_el2 rowS rfl _ _ rfl (ofS 98 100) (ofS 97 99) rfl rfl (by decide) ?_; intro w3 o3 b3 s3; have hC := clean_calls w3 _ _ o3.slB (by decide))
    | (go_at_call 12; refine hC.mono ?_; clear hC; rintro e w4 ⟨v4, R4, rfl, o4, b4, i4, l4⟩))
  have e4 := shown_one i4
  subst e4
  have B4 : Below w.heap.size w w4 := ((b1.trans (b2.mono b1.size)).trans (b3.mono (Nat.le_trans b1.size b2.size))).trans (b4.mono (Nat.le_trans b1.size (Nat.le_trans b2.size b3.size)))
  have O4 : Own encS 35 w4 w.heap.size v4 [ofS 97 100] := o4.mono (Nat.le_trans b1.size (Nat.le_trans b2.size b3.size))
  clear o4 i4 l4 b1 b2 b3 b4 o3 s3
  obtain ⟨gc, cc, rfl, hcc⟩ := own_form O4 (by simp)
  simp only [List.length_cons, List.length_nil, Nat.zero_add] at *
  go_upto_region 3 with (first
    | (go_at_call 25; have _q := b1; refine (of_calls 98 99 98 99 rfl rfl _).mono ?_; rintro e w7 ⟨rfl, b3⟩)
    | (go_at_call 25; refine (of_calls 97 100 97 100 rfl rfl _).mono ?_; rintro e w5 ⟨rfl, b1⟩)
    | (have _q := b3; refine build_el1 rowS rfl _ rfl (ofS 98 99) rfl (by decide) ?_; intro w8 o8 b8 s8 k8; have hC := lesss_calls w8 _ _ _ _ ((o6.below b3).below b8).slB o8.slB (by decide))
    | (refine build_el1 rowS rfl _ rfl (ofS 97 100) rfl (by decide) ?_; intro w6 o6 b6 s6 k6)
    | (go_at_call 16; refine hC.mono ?_; clear hC; rintro e w9 ⟨v9, R9, rfl, o9, b9, i9, l9⟩))
  have e9 := shown_two i9
  subst e9
  have Q1 := Nat.le_trans b1.size b6.size
  have Q2 := Nat.le_trans Q1 b3.size
  have Q3 := Nat.le_trans Q2 b8.size
  have B9 : Below w4.heap.size w4 w9 := (((b1.trans (b6.mono b1.size)).trans (b3.mono Q1)).trans (b8.mono Q2)).trans (b9.mono Q3)
  have O9 : Own encS 35 w9 w.heap.size v9 [ofS 97 98, ofS 99 100] := o9.mono (Nat.le_trans B4.size Q3)
  obtain ⟨gl, cl, rfl, hcl⟩ := own_form O9 (by simp)
  simp only [List.length_cons, List.length_nil, Nat.zero_add] at *
  have G : Sw w w9 gc cc gl cl := ⟨B4.trans (B9.mono B4.size), O4.below B9, O9⟩
  clear o9 i9 l9 b1 b3 b6 b8 b9 o6 o8 s6 s8 k6 k8 Q1 Q2 Q3 B9 O9 B4 O4
  have hi : ∀ s : Sp, (Try.prog.info? 35).map (·.size) = some (encS.c s).length := fun s => by rw [encS.len]; exact Try.span_info
  go_upto_region 3 with fail
  refine wp_region_noPanic ?_
  refine wp_region_held_drew (S := (fun yy => Sw w yy gc cc gl cl)) (by kernel_rfl) ⟨G.bel.drew, G.c, G.l⟩ (fun hHeld => ?_)
  clear G
  generalize w9.drew = x9 at *
  refine wpAnyH_take (i := 0) (v := ?_) rfl (by kernel_rfl) (by kernel_rfl) (by kernel_rfl) (fun _ _ _ h => h) (Or.inl ⟨by rfl, ?_⟩) hHeld ?_
  case refine_2 => (intro w hSw; (try dsimp only at hSw); go_simp; try (with_reducible rfl))
  ((try simp only); (try simp only [List.getElem_toArray]); (try simp only [List.getElem_cons_succ]); (try simp only [List.getElem_cons_zero]); (try simp only [Act.put]); (try simp only [List.setIfInBounds_toArray]); (try simp only [List.set_cons_succ]); (try simp only [List.set_cons_zero]))
  refine wpAnyH_take (i := 1) (v := ?_) rfl (by kernel_rfl) (by kernel_rfl) (by kernel_rfl) (fun _ _ _ h => h) (Or.inl ⟨by rfl, ?_⟩) hHeld ?_
  case refine_2 => (intro w hSw; (try dsimp only at hSw); go_simp; try (with_reducible rfl))
  ((try simp only); (try simp only [List.getElem_toArray]); (try simp only [List.getElem_cons_succ]); (try simp only [List.getElem_cons_zero]); (try simp only [Act.put]); (try simp only [List.setIfInBounds_toArray]); (try simp only [List.set_cons_succ]); (try simp only [List.set_cons_zero]))
  refine wpAnyH_take (i := 2) (v := ?_) rfl (by kernel_rfl) (by kernel_rfl) (by kernel_rfl) (fun _ _ _ h => h) (Or.inl ⟨by rfl, ?_⟩) hHeld ?_
  case refine_2 => (intro w hSw; (try dsimp only at hSw); go_simp; try (with_reducible rfl))
  ((try simp only); (try simp only [List.getElem_toArray]); (try simp only [List.getElem_cons_succ]); (try simp only [List.getElem_cons_zero]); (try simp only [Act.put]); (try simp only [List.setIfInBounds_toArray]); (try simp only [List.set_cons_succ]); (try simp only [List.set_cons_zero]))
  refine wpAnyH_take (i := 3) (v := ?_) rfl (by kernel_rfl) (by kernel_rfl) (by kernel_rfl) (fun _ _ _ h => h) (Or.inl ⟨by rfl, ?_⟩) hHeld ?_
  case refine_2 => (intro w hSw; (try dsimp only at hSw); go_simp; try (with_reducible rfl))
  ((try simp only); (try simp only [List.getElem_toArray]); (try simp only [List.getElem_cons_succ]); (try simp only [List.getElem_cons_zero]); (try simp only [Act.put]); (try simp only [List.setIfInBounds_toArray]); (try simp only [List.set_cons_succ]); (try simp only [List.set_cons_zero]))
  refine wpAnyH_take (i := 4) (v := ?_) rfl (by kernel_rfl) (by kernel_rfl) (by kernel_rfl) (fun _ _ _ h => h) (Or.inl ⟨by rfl, ?_⟩) hHeld ?_
  case refine_2 => (intro w hSw; (try dsimp only at hSw); go_simp; try (with_reducible rfl))
  ((try simp only); (try simp only [List.getElem_toArray]); (try simp only [List.getElem_cons_succ]); (try simp only [List.getElem_cons_zero]); (try simp only [Act.put]); (try simp only [List.setIfInBounds_toArray]); (try simp only [List.set_cons_succ]); (try simp only [List.set_cons_zero]))
  refine wpAnyH_take (i := 5) (v := ?_) rfl (by kernel_rfl) (by kernel_rfl) (by kernel_rfl) (fun _ _ _ h => h) (Or.inl ⟨by rfl, ?_⟩) hHeld ?_
  case refine_2 => (intro w hSw; (try dsimp only at hSw); go_simp; try (with_reducible rfl))
  ((try simp only); (try simp only [List.getElem_toArray]); (try simp only [List.getElem_cons_succ]); (try simp only [List.getElem_cons_zero]); (try simp only [Act.put]); (try simp only [List.setIfInBounds_toArray]); (try simp only [List.set_cons_succ]); (try simp only [List.set_cons_zero]))
  refine wpAnyH_take (i := 6) rfl (by kernel_rfl) (by kernel_rfl) (by kernel_rfl) (fun _ _ _ h => h) (yieldsIf_load_mid (by rfl) _ _ rfl _ _ rfl _ _ (fun _ h => by have := own_at h.c 0 (by decide); simpa using this) Try.underlying35 rfl (hi _)) hHeld ?_
  ((try simp only); (try simp only [List.getElem_toArray]); (try simp only [List.getElem_cons_succ]); (try simp only [List.getElem_cons_zero]); (try simp only [Act.put]); (try simp only [List.setIfInBounds_toArray]); (try simp only [List.set_cons_succ]); (try simp only [List.set_cons_zero]))
  refine wpAnyH_ready (rs := [7]) (by kernel_rfl) (by simp) (AllReadyH.cons rfl (fun K hK => ?_) AllReadyH.nil)
  rw [if_pos (by rfl)]
  ((try simp only); (try simp only [List.getElem_toArray]); (try simp only [List.getElem_cons_succ]); (try simp only [List.getElem_cons_zero]); (try simp only [Act.put]); (try simp only [List.setIfInBounds_toArray]); (try simp only [List.set_cons_succ]); (try simp only [List.set_cons_zero]))
  go_simp
  refine (of_calls 97 100 97 100 rfl rfl _).mono ?_
  rintro e x10 ⟨rfl, bl⟩
  refine hK.out _ _ (hHeld.called bl) (fun hHeld => ?_)
  clear hK K
  ((try simp only); (try simp only [List.getElem_toArray]); (try simp only [List.getElem_cons_succ]); (try simp only [List.getElem_cons_zero]); (try simp only [Act.put]); (try simp only [List.setIfInBounds_toArray]); (try simp only [List.set_cons_succ]); (try simp only [List.set_cons_zero]))
  clear bl
  refine wpAnyH_take (i := 8) (v := .bool true) rfl (by kernel_rfl) (by kernel_rfl) (by kernel_rfl) (fun _ _ _ h => h) (Or.inl ⟨by rfl, fun w _ => exec_eq_self _ _ _ rfl (ofS 97 100) rfl rfl w⟩) hHeld ?_
  ((try simp only); (try simp only [List.getElem_toArray]); (try simp only [List.getElem_cons_succ]); (try simp only [List.getElem_cons_zero]); (try simp only [Act.put]); (try simp only [List.setIfInBounds_toArray]); (try simp only [List.set_cons_succ]); (try simp only [List.set_cons_zero]))
  refine wpAnyH_take (i := 9) (v := ?_) rfl (by kernel_rfl) (by kernel_rfl) (by kernel_rfl) (fun _ _ _ h => h) (Or.inl ⟨by rfl, ?_⟩) hHeld ?_
  case refine_2 => (intro w hSw; (try dsimp only at hSw); go_simp; try (with_reducible rfl))
  ((try simp only); (try simp only [List.getElem_toArray]); (try simp only [List.getElem_cons_succ]); (try simp only [List.getElem_cons_zero]); (try simp only [Act.put]); (try simp only [List.setIfInBounds_toArray]); (try simp only [List.set_cons_succ]); (try simp only [List.set_cons_zero]))
  refine wpAnyH_take (i := 10) (v := ?_) rfl (by kernel_rfl) (by kernel_rfl) (by kernel_rfl) (fun _ _ _ h => h) (Or.inl ⟨by rfl, ?_⟩) hHeld ?_
  case refine_2 => (intro w hSw; (try dsimp only at hSw); go_simp; try (with_reducible rfl))
  ((try simp only); (try simp only [List.getElem_toArray]); (try simp only [List.getElem_cons_succ]); (try simp only [List.getElem_cons_zero]); (try simp only [Act.put]); (try simp only [List.setIfInBounds_toArray]); (try simp only [List.set_cons_succ]); (try simp only [List.set_cons_zero]))
  refine wpAnyH_take (i := 11) (v := ?_) rfl (by kernel_rfl) (by kernel_rfl) (by kernel_rfl) (fun _ _ _ h => h) (Or.inl ⟨by rfl, ?_⟩) hHeld ?_
  case refine_2 => (intro w hSw; (try dsimp only at hSw); go_simp; try (with_reducible rfl))
  ((try simp only); (try simp only [List.getElem_toArray]); (try simp only [List.getElem_cons_succ]); (try simp only [List.getElem_cons_zero]); (try simp only [Act.put]); (try simp only [List.setIfInBounds_toArray]); (try simp only [List.set_cons_succ]); (try simp only [List.set_cons_zero]))
  refine wpAnyH_take (i := 12) (v := ?_) rfl (by kernel_rfl) (by kernel_rfl) (by kernel_rfl) (fun _ _ _ h => h) (Or.inl ⟨by rfl, ?_⟩) hHeld ?_
  case refine_2 => (intro w hSw; (try dsimp only at hSw); go_simp; try (with_reducible rfl))
  ((try simp only); (try simp only [List.getElem_toArray]); (try simp only [List.getElem_cons_succ]); (try simp only [List.getElem_cons_zero]); (try simp only [Act.put]); (try simp only [List.setIfInBounds_toArray]); (try simp only [List.set_cons_succ]); (try simp only [List.set_cons_zero]))
  refine wpAnyH_take (i := 13) (v := ?_) rfl (by kernel_rfl) (by kernel_rfl) (by kernel_rfl) (fun _ _ _ h => h) (Or.inl ⟨by rfl, ?_⟩) hHeld ?_
  case refine_2 => (intro w hSw; (try dsimp only at hSw); go_simp; try (with_reducible rfl))
  ((try simp only); (try simp only [List.getElem_toArray]); (try simp only [List.getElem_cons_succ]); (try simp only [List.getElem_cons_zero]); (try simp only [Act.put]); (try simp only [List.setIfInBounds_toArray]); (try simp only [List.set_cons_succ]); (try simp only [List.set_cons_zero]))
  refine wpAnyH_take (i := 14) (v := ?_) rfl (by kernel_rfl) (by kernel_rfl) (by kernel_rfl) (fun _ _ _ h => h) (Or.inl ⟨by rfl, ?_⟩) hHeld ?_
  case refine_2 => (intro w hSw; (try dsimp only at hSw); go_simp; try (with_reducible rfl))
  ((try simp only); (try simp only [List.getElem_toArray]); (try simp only [List.getElem_cons_succ]); (try simp only [List.getElem_cons_zero]); (try simp only [Act.put]); (try simp only [List.setIfInBounds_toArray]); (try simp only [List.set_cons_succ]); (try simp only [List.set_cons_zero]))
  refine wpAnyH_take (i := 15) (v := ?_) rfl (by kernel_rfl) (by kernel_rfl) (by kernel_rfl) (fun _ _ _ h => h) (Or.inl ⟨by rfl, ?_⟩) hHeld ?_
  case refine_2 => (intro w hSw; (try dsimp only at hSw); go_simp; try (with_reducible rfl))
  ((try simp only); (try simp only [List.getElem_toArray]); (try simp only [List.getElem_cons_succ]); (try simp only [List.getElem_cons_zero]); (try simp only [Act.put]); (try simp only [List.setIfInBounds_toArray]); (try simp only [List.set_cons_succ]); (try simp only [List.set_cons_zero]))
  refine wpAnyH_take (i := 16) (v := ?_) rfl (by kernel_rfl) (by kernel_rfl) (by kernel_rfl) (fun _ _ _ h => h) (Or.inl ⟨by rfl, ?_⟩) hHeld ?_
  case refine_2 => (intro w hSw; (try dsimp only at hSw); go_simp; try (with_reducible rfl))
  ((try simp only); (try simp only [List.getElem_toArray]); (try simp only [List.getElem_cons_succ]); (try simp only [List.getElem_cons_zero]); (try simp only [Act.put]); (try simp only [List.setIfInBounds_toArray]); (try simp only [List.set_cons_succ]); (try simp only [List.set_cons_zero]))
  refine wpAnyH_take (i := 17) (v := ?_) rfl (by kernel_rfl) (by kernel_rfl) (by kernel_rfl) (fun _ _ _ h => h) (Or.inl ⟨by rfl, ?_⟩) hHeld ?_
  case refine_2 => (intro w hSw; (try dsimp only at hSw); go_simp; try (with_reducible rfl))
  ((try simp only); (try simp only [List.getElem_toArray]); (try simp only [List.getElem_cons_succ]); (try simp only [List.getElem_cons_zero]); (try simp only [Act.put]); (try simp only [List.setIfInBounds_toArray]); (try simp only [List.set_cons_succ]); (try simp only [List.set_cons_zero]))
  refine wpAnyH_take (i := 18) rfl (by kernel_rfl) (by kernel_rfl) (by kernel_rfl) (fun _ _ _ h => h) (yieldsIf_load_mid (by rfl) _ _ rfl _ _ rfl _ _ (fun _ h => by have := own_at h.l 0 (by decide); simpa using this) Try.underlying35 rfl (hi _)) hHeld ?_
  ((try simp only); (try simp only [List.getElem_toArray]); (try simp only [List.getElem_cons_succ]); (try simp only [List.getElem_cons_zero]); (try simp only [Act.put]); (try simp only [List.setIfInBounds_toArray]); (try simp only [List.set_cons_succ]); (try simp only [List.set_cons_zero]))
  refine wpAnyH_ready (rs := [19]) (by kernel_rfl) (by simp) (AllReadyH.cons rfl (fun K hK => ?_) AllReadyH.nil)
  rw [if_pos (by rfl)]
  ((try simp only); (try simp only [List.getElem_toArray]); (try simp only [List.getElem_cons_succ]); (try simp only [List.getElem_cons_zero]); (try simp only [Act.put]); (try simp only [List.setIfInBounds_toArray]); (try simp only [List.set_cons_succ]); (try simp only [List.set_cons_zero]))
  go_simp
  refine (of_calls 97 98 97 98 rfl rfl _).mono ?_
  rintro e x11 ⟨rfl, bl⟩
  refine hK.out _ _ (hHeld.called bl) (fun hHeld => ?_)
  clear hK K
  ((try simp only); (try simp only [List.getElem_toArray]); (try simp only [List.getElem_cons_succ]); (try simp only [List.getElem_cons_zero]); (try simp only [Act.put]); (try simp only [List.setIfInBounds_toArray]); (try simp only [List.set_cons_succ]); (try simp only [List.set_cons_zero]))
  clear bl
  refine wpAnyH_take (i := 20) (v := .bool true) rfl (by kernel_rfl) (by kernel_rfl) (by kernel_rfl) (fun _ _ _ h => h) (Or.inl ⟨by rfl, fun w _ => exec_eq_self _ _ _ rfl (ofS 97 98) rfl rfl w⟩) hHeld ?_
  ((try simp only); (try simp only [List.getElem_toArray]); (try simp only [List.getElem_cons_succ]); (try simp only [List.getElem_cons_zero]); (try simp only [Act.put]); (try simp only [List.setIfInBounds_toArray]); (try simp only [List.set_cons_succ]); (try simp only [List.set_cons_zero]))
  refine wpAnyH_take (i := 21) (v := ?_) rfl (by kernel_rfl) (by kernel_rfl) (by kernel_rfl) (fun _ _ _ h => h) (Or.inl ⟨by rfl, ?_⟩) hHeld ?_
  case refine_2 => (intro w hSw; (try dsimp only at hSw); go_simp; try (with_reducible rfl))
  ((try simp only); (try simp only [List.getElem_toArray]); (try simp only [List.getElem_cons_succ]); (try simp only [List.getElem_cons_zero]); (try simp only [Act.put]); (try simp only [List.setIfInBounds_toArray]); (try simp only [List.set_cons_succ]); (try simp only [List.set_cons_zero]))
  refine wpAnyH_take (i := 22) (v := ?_) rfl (by kernel_rfl) (by kernel_rfl) (by kernel_rfl) (fun _ _ _ h => h) (Or.inl ⟨by rfl, ?_⟩) hHeld ?_
  case refine_2 => (intro w hSw; (try dsimp only at hSw); go_simp; try (with_reducible rfl))
  ((try simp only); (try simp only [List.getElem_toArray]); (try simp only [List.getElem_cons_succ]); (try simp only [List.getElem_cons_zero]); (try simp only [Act.put]); (try simp only [List.setIfInBounds_toArray]); (try simp only [List.set_cons_succ]); (try simp only [List.set_cons_zero]))
  refine wpAnyH_take (i := 23) (v := ?_) rfl (by kernel_rfl) (by kernel_rfl) (by kernel_rfl) (fun _ _ _ h => h) (Or.inl ⟨by rfl, ?_⟩) hHeld ?_
  case refine_2 => (intro w hSw; (try dsimp only at hSw); go_simp; try (with_reducible rfl))
  ((try simp only); (try simp only [List.getElem_toArray]); (try simp only [List.getElem_cons_succ]); (try simp only [List.getElem_cons_zero]); (try simp only [Act.put]); (try simp only [List.setIfInBounds_toArray]); (try simp only [List.set_cons_succ]); (try simp only [List.set_cons_zero]))
  refine wpAnyH_take (i := 24) (v := ?_) rfl (by kernel_rfl) (by kernel_rfl) (by kernel_rfl) (fun _ _ _ h => h) (Or.inl ⟨by rfl, ?_⟩) hHeld ?_
  case refine_2 => (intro w hSw; (try dsimp only at hSw); go_simp; try (with_reducible rfl))
  ((try simp only); (try simp only [List.getElem_toArray]); (try simp only [List.getElem_cons_succ]); (try simp only [List.getElem_cons_zero]); (try simp only [Act.put]); (try simp only [List.setIfInBounds_toArray]); (try simp only [List.set_cons_succ]); (try simp only [List.set_cons_zero]))
  refine wpAnyH_take (i := 25) rfl (by kernel_rfl) (by kernel_rfl) (by kernel_rfl) (fun _ _ _ h => h) (yieldsIf_load_mid (by rfl) _ _ rfl _ _ rfl _ _ (fun _ h => by have := own_at h.l 1 (by decide); simpa using this) Try.underlying35 rfl (hi _)) hHeld ?_
  ((try simp only); (try simp only [List.getElem_toArray]); (try simp only [List.getElem_cons_succ]); (try simp only [List.getElem_cons_zero]); (try simp only [Act.put]); (try simp only [List.setIfInBounds_toArray]); (try simp only [List.set_cons_succ]); (try simp only [List.set_cons_zero]))
  refine wpAnyH_ready (rs := [26]) (by kernel_rfl) (by simp) (AllReadyH.cons rfl (fun K hK => ?_) AllReadyH.nil)
  rw [if_pos (by rfl)]
  ((try simp only); (try simp only [List.getElem_toArray]); (try simp only [List.getElem_cons_succ]); (try simp only [List.getElem_cons_zero]); (try simp only [Act.put]); (try simp only [List.setIfInBounds_toArray]); (try simp only [List.set_cons_succ]); (try simp only [List.set_cons_zero]))
  go_simp
  refine (of_calls 99 100 99 100 rfl rfl _).mono ?_
  rintro e x12 ⟨rfl, bl⟩
  refine hK.out _ _ (hHeld.called bl) (fun hHeld => ?_)
  clear hK K
  ((try simp only); (try simp only [List.getElem_toArray]); (try simp only [List.getElem_cons_succ]); (try simp only [List.getElem_cons_zero]); (try simp only [Act.put]); (try simp only [List.setIfInBounds_toArray]); (try simp only [List.set_cons_succ]); (try simp only [List.set_cons_zero]))
  clear bl
  refine wpAnyH_take (i := 27) (v := .bool true) rfl (by kernel_rfl) (by kernel_rfl) (by kernel_rfl) (fun _ _ _ h => h) (Or.inl ⟨by rfl, fun w _ => exec_eq_self _ _ _ rfl (ofS 99 100) rfl rfl w⟩) hHeld ?_
  ((try simp only); (try simp only [List.getElem_toArray]); (try simp only [List.getElem_cons_succ]); (try simp only [List.getElem_cons_zero]); (try simp only [Act.put]); (try simp only [List.setIfInBounds_toArray]); (try simp only [List.set_cons_succ]); (try simp only [List.set_cons_zero]))
  refine wpAnyH_take (i := 28) (v := ?_) rfl (by kernel_rfl) (by kernel_rfl) (by kernel_rfl) (fun _ _ _ h => h) (Or.inl ⟨by rfl, ?_⟩) hHeld ?_
  case refine_2 => (intro w hSw; (try dsimp only at hSw); go_simp; try (with_reducible rfl))
  ((try simp only); (try simp only [List.getElem_toArray]); (try simp only [List.getElem_cons_succ]); (try simp only [List.getElem_cons_zero]); (try simp only [Act.put]); (try simp only [List.setIfInBounds_toArray]); (try simp only [List.set_cons_succ]); (try simp only [List.set_cons_zero]))
  refine wpAnyH_take (i := 29) (v := ?_) rfl (by kernel_rfl) (by kernel_rfl) (by kernel_rfl) (fun _ _ _ h => h) (Or.inl ⟨by rfl, ?_⟩) hHeld ?_
  case refine_2 => (intro w hSw; (try dsimp only at hSw); go_simp; try (with_reducible rfl))
  ((try simp only); (try simp only [List.getElem_toArray]); (try simp only [List.getElem_cons_succ]); (try simp only [List.getElem_cons_zero]); (try simp only [Act.put]); (try simp only [List.setIfInBounds_toArray]); (try simp only [List.set_cons_succ]); (try simp only [List.set_cons_zero]))
  refine wpAnyH_take (i := 30) (v := ?_) rfl (by kernel_rfl) (by kernel_rfl) (by kernel_rfl) (fun _ _ _ h => h) (Or.inl ⟨by rfl, ?_⟩) hHeld ?_
  case refine_2 => (intro w hSw; (try dsimp only at hSw); go_simp; try (with_reducible rfl))
  ((try simp only); (try simp only [List.getElem_toArray]); (try simp only [List.getElem_cons_succ]); (try simp only [List.getElem_cons_zero]); (try simp only [Act.put]); (try simp only [List.setIfInBounds_toArray]); (try simp only [List.set_cons_succ]); (try simp only [List.set_cons_zero]))
  refine wpAnyH_take (i := 31) (v := ?_) rfl (by kernel_rfl) (by kernel_rfl) (by kernel_rfl) (fun _ _ _ h => h) (Or.inl ⟨by rfl, ?_⟩) hHeld ?_
  case refine_2 => (intro w hSw; (try dsimp only at hSw); go_simp; try (with_reducible rfl))
  ((try simp only); (try simp only [List.getElem_toArray]); (try simp only [List.getElem_cons_succ]); (try simp only [List.getElem_cons_zero]); (try simp only [Act.put]); (try simp only [List.setIfInBounds_toArray]); (try simp only [List.set_cons_succ]); (try simp only [List.set_cons_zero]))
  refine wpAnyH_ready (rs := [32]) (by kernel_rfl) (by simp) (AllReadyH.cons rfl (fun K hK => ?_) AllReadyH.nil)
  rw [if_pos (by rfl)]
  ((try simp only); (try simp only [List.getElem_toArray]); (try simp only [List.getElem_cons_succ]); (try simp only [List.getElem_cons_zero]); (try simp only [Act.put]); (try simp only [List.setIfInBounds_toArray]); (try simp only [List.set_cons_succ]); (try simp only [List.set_cons_zero]))
  go_simp
  refine (touch_calls _ _ _ _ _ hHeld.c.slB hHeld.l.slB (by decide)).mono ?_
  rintro e x13 ⟨t1, rfl, ht1, bl⟩
  have e1 := shown_three ht1
  subst e1
  refine hK.out _ _ (hHeld.called bl) (fun hHeld => ?_)
  clear hK K
  ((try simp only); (try simp only [List.getElem_toArray]); (try simp only [List.getElem_cons_succ]); (try simp only [List.getElem_cons_zero]); (try simp only [Act.put]); (try simp only [List.setIfInBounds_toArray]); (try simp only [List.set_cons_succ]); (try simp only [List.set_cons_zero]))
  clear bl ht1
  refine wpAnyH_take (i := 33) (v := ?_) rfl (by kernel_rfl) (by kernel_rfl) (by kernel_rfl) (fun _ _ _ h => h) (Or.inl ⟨by rfl, ?_⟩) hHeld ?_
  case refine_2 => (intro w hSw; (try dsimp only at hSw); go_simp; try (with_reducible rfl))
  ((try simp only); (try simp only [List.getElem_toArray]); (try simp only [List.getElem_cons_succ]); (try simp only [List.getElem_cons_zero]); (try simp only [Act.put]); (try simp only [List.setIfInBounds_toArray]); (try simp only [List.set_cons_succ]); (try simp only [List.set_cons_zero]))
  refine wpAnyH_take (i := 34) (v := ?_) rfl (by kernel_rfl) (by kernel_rfl) (by kernel_rfl) (fun _ _ _ h => h) (Or.inl ⟨by rfl, ?_⟩) hHeld ?_
  case refine_2 => (intro w hSw; (try dsimp only at hSw); go_simp; try (with_reducible rfl))
  ((try simp only); (try simp only [List.getElem_toArray]); (try simp only [List.getElem_cons_succ]); (try simp only [List.getElem_cons_zero]); (try simp only [Act.put]); (try simp only [List.setIfInBounds_toArray]); (try simp only [List.set_cons_succ]); (try simp only [List.set_cons_zero]))
  refine wpAnyH_take (i := 35) (v := ?_) rfl (by kernel_rfl) (by kernel_rfl) (by kernel_rfl) (fun _ _ _ h => h) (Or.inl ⟨by rfl, ?_⟩) hHeld ?_
  case refine_2 => (intro w hSw; (try dsimp only at hSw); go_simp; try (with_reducible rfl))
  ((try simp only); (try simp only [List.getElem_toArray]); (try simp only [List.getElem_cons_succ]); (try simp only [List.getElem_cons_zero]); (try simp only [Act.put]); (try simp only [List.setIfInBounds_toArray]); (try simp only [List.set_cons_succ]); (try simp only [List.set_cons_zero]))
  refine wpAnyH_ready (rs := [36]) (by kernel_rfl) (by simp) (AllReadyH.cons rfl (fun K hK => ?_) AllReadyH.nil)
  rw [if_pos (by rfl)]
  ((try simp only); (try simp only [List.getElem_toArray]); (try simp only [List.getElem_cons_succ]); (try simp only [List.getElem_cons_zero]); (try simp only [Act.put]); (try simp only [List.setIfInBounds_toArray]); (try simp only [List.set_cons_succ]); (try simp only [List.set_cons_zero]))
  go_simp
  refine (of_calls 98 99 98 99 rfl rfl _).mono ?_
  rintro e x14 ⟨rfl, bl⟩
  refine hK.out _ _ (hHeld.called bl) (fun hHeld => ?_)
  clear hK K
  ((try simp only); (try simp only [List.getElem_toArray]); (try simp only [List.getElem_cons_succ]); (try simp only [List.getElem_cons_zero]); (try simp only [Act.put]); (try simp only [List.setIfInBounds_toArray]); (try simp only [List.set_cons_succ]); (try simp only [List.set_cons_zero]))
  clear bl
  refine wpAnyH_ready (rs := [37]) (by kernel_rfl) (by simp) (AllReadyH.cons rfl (fun K hK => ?_) AllReadyH.nil)
  rw [if_pos (by rfl)]
  ((try simp only); (try simp only [List.getElem_toArray]); (try simp only [List.getElem_cons_succ]); (try simp only [List.getElem_cons_zero]); (try simp only [Act.put]); (try simp only [List.setIfInBounds_toArray]); (try simp only [List.set_cons_succ]); (try simp only [List.set_cons_zero]))
  refine wp_build_el1 rowS _ rfl (ofS 98 99) rfl (by decide) ?_
  intro x15 o15 b15 s15
  refine hK.out _ _ (hHeld.called b15) (fun hHeld => ?_)
  clear hK K
  ((try simp only); (try simp only [List.getElem_toArray]); (try simp only [List.getElem_cons_succ]); (try simp only [List.getElem_cons_zero]); (try simp only [Act.put]); (try simp only [List.setIfInBounds_toArray]); (try simp only [List.set_cons_succ]); (try simp only [List.set_cons_zero]))
  refine wpAnyH_ready (rs := [38]) (by kernel_rfl) (by simp) (AllReadyH.cons rfl (fun K hK => ?_) AllReadyH.nil)
  rw [if_pos (by rfl)]
  ((try simp only); (try simp only [List.getElem_toArray]); (try simp only [List.getElem_cons_succ]); (try simp only [List.getElem_cons_zero]); (try simp only [Act.put]); (try simp only [List.setIfInBounds_toArray]); (try simp only [List.set_cons_succ]); (try simp only [List.set_cons_zero]))
  go_simp
  refine (touch_calls _ _ _ _ _ hHeld.l.slB o15.slB (by decide)).mono ?_
  rintro e x16 ⟨t2, rfl, ht2, bl⟩
  have e2 := shown_four ht2
  subst e2
  refine hK.out _ _ (hHeld.called bl) (fun hHeld => ?_)
  clear hK K
  ((try simp only); (try simp only [List.getElem_toArray]); (try simp only [List.getElem_cons_succ]); (try simp only [List.getElem_cons_zero]); (try simp only [Act.put]); (try simp only [List.setIfInBounds_toArray]); (try simp only [List.set_cons_succ]); (try simp only [List.set_cons_zero]))
  clear bl ht2
  refine wpAnyH_take (i := 39) (v := ?_) rfl (by kernel_rfl) (by kernel_rfl) (by kernel_rfl) (fun _ _ _ h => h) (Or.inl ⟨by rfl, ?_⟩) hHeld ?_
  case refine_2 => (intro w hSw; (try dsimp only at hSw); go_simp; try (with_reducible rfl))
  ((try simp only); (try simp only [List.getElem_toArray]); (try simp only [List.getElem_cons_succ]); (try simp only [List.getElem_cons_zero]); (try simp only [Act.put]); (try simp only [List.setIfInBounds_toArray]); (try simp only [List.set_cons_succ]); (try simp only [List.set_cons_zero]))
  refine wpAnyH_take (i := 40) (v := ?_) rfl (by kernel_rfl) (by kernel_rfl) (by kernel_rfl) (fun _ _ _ h => h) (Or.inl ⟨by rfl, ?_⟩) hHeld ?_
  case refine_2 => (intro w hSw; (try dsimp only at hSw); go_simp; try (with_reducible rfl))
  ((try simp only); (try simp only [List.getElem_toArray]); (try simp only [List.getElem_cons_succ]); (try simp only [List.getElem_cons_zero]); (try simp only [Act.put]); (try simp only [List.setIfInBounds_toArray]); (try simp only [List.set_cons_succ]); (try simp only [List.set_cons_zero]))
  refine wpAnyH_take (i := 41) (v := ?_) rfl (by kernel_rfl) (by kernel_rfl) (by kernel_rfl) (fun _ _ _ h => h) (Or.inl ⟨by rfl, ?_⟩) hHeld ?_
  case refine_2 => (intro w hSw; (try dsimp only at hSw); go_simp; try (with_reducible rfl))
  ((try simp only); (try simp only [List.getElem_toArray]); (try simp only [List.getElem_cons_succ]); (try simp only [List.getElem_cons_zero]); (try simp only [Act.put]); (try simp only [List.setIfInBounds_toArray]); (try simp only [List.set_cons_succ]); (try simp only [List.set_cons_zero]))
  refine wpAnyH_done (by kernel_rfl) ?_ _
  refine NoPanic.normal ?_
  go_wp2_with fail
  go_ret
  exact ⟨rfl, hHeld.bel⟩
set_option maxHeartbeats 2000000 in
/-- At most thirty spans, their own. -/
theorem cut_calls (w : World) (u : Value) (l : List Sp) (h : Sl encS w u l) : Calls Try.prog 10 #[u] w fun e w' => ∃ v, e = .returned v ∧ Own encS 35 w' w.heap.size v (l.take 30) ∧ Below w.heap.size w w' := by
  have hlen : (l.take 30).length ≤ 30 := by simp; omega
  have HS : Hid (Sl encS w u l) := h
  obtain ⟨ad, cap, rfl, hcap, hmax, q1, q2⟩ := h
  have hm : min ((l.length : Nat) : Int) 30 = ((min l.length 30 : Nat) : Int) := by omega
  have hT : SlB encS (w.alloc (.cells #[] 35)) w.heap.size (.slice ad (min l.length 30) cap) (l.take 30) := by
    have := (HS.out.take (min l.length 30) (by omega)).below ((Below.refl _ w).alloc (Nat.le_refl _) (.cells #[] 35))
    have e : l.take (min l.length 30) = l.take 30 := by
      by_cases h : l.length ≤ 30
      · rw [Nat.min_eq_left h, List.take_length, List.take_of_length_le h]
      · rw [Nat.min_eq_right (by omega)]
    rwa [e] at this
  have own0 : Own encS 35 (w.alloc (.cells #[] 35)) w.heap.size (.slice (some ⟨w.heap.size, 0, none⟩) 0 0) [] := World.ownsRow_made (base := w.heap.size) (e := 35) (size := 49) w #[] 0 (Nat.le_refl _) (by unfold maxLen; omega) rfl
  have HT : Hid (SlB encS (w.alloc (.cells #[] 35)) w.heap.size (.slice ad (min l.length 30) cap) (l.take 30)) := hT
  have HO : Hid (Own encS 35 (w.alloc (.cells #[] 35)) w.heap.size (.slice (some ⟨w.heap.size, 0, none⟩) 0 0) []) := own0
  have hmin : min l.length 30 ≤ l.length ∧ min l.length 30 ≤ 30 := by omega
  clear q1 q2 hT own0 HS
  unfold maxLen at hmax
  generalize l.take 30 = L at *
  generalize min l.length 30 = m at *
  obtain ⟨hm1, hm2⟩ := hmin
  have hm3 : (m : Int) ≤ (cap : Int) := by omega
  have hm0 : (0 : Int) ≤ (m : Int) := by omega
  go_enter Try.func10, Try.ntmps10
  go_wp2_with (first
    | (at_builtin; refine append_sl rowS rfl _ _ rfl w.heap.size (.slice (some ⟨w.heap.size, 0, none⟩) 0 0) [] L rfl HO.out _ rfl w.heap.size HT.out (by simp; omega) (by decide) (by simp) ?_; intro v' w' o' g'))
  go_ret
  rw [List.nil_append] at o'
  exact ⟨v', rfl, o', ((Below.refl _ w).alloc (Nat.le_refl _) _).grown g' (by simp) (fun k hk => by simp [Value.ownBlock] at hk; omega)⟩
set_option maxHeartbeats 2000000 in
/-- Two lists behind one another. -/
theorem join_calls (w : World) (u u' : Value) (l m : List Sp) (h : Sl encS w u l) (h' : Sl encS w u' m) (hl : l.length + m.length ≤ 1000000) : Calls Try.prog 24 #[u, u'] w fun e w' => ∃ v, e = .returned v ∧ Own encS 35 w' w.heap.size v (l ++ m) ∧ Below w.heap.size w w' := by
  have b1 : Below w.heap.size w (w.alloc (.cells #[] 35)) := (Below.refl _ w).alloc (Nat.le_refl _) _
  have H1 : Hid (SlB encS (w.alloc (.cells #[] 35)) w.heap.size u l) := h.below b1
  have H2 : Hid (SlB encS (w.alloc (.cells #[] 35)) w.heap.size u' m) := h'.below b1
  have own0 : Own encS 35 (w.alloc (.cells #[] 35)) w.heap.size (.slice (some ⟨w.heap.size, 0, none⟩) 0 0) [] := World.ownsRow_made (base := w.heap.size) (e := 35) (size := 49) w #[] 0 (Nat.le_refl _) (by unfold maxLen; omega) rfl
  have HO : Hid (Own encS 35 (w.alloc (.cells #[] 35)) w.heap.size (.slice (some ⟨w.heap.size, 0, none⟩) 0 0) []) := own0
  have HB : Hid (Below w.heap.size w (w.alloc (.cells #[] 35))) := b1
  obtain ⟨ad, cap, rfl, _⟩ := h
  obtain ⟨ad', cap', rfl, _⟩ := h'
  clear b1 own0
  go_enter Try.func24, Try.ntmps24
  go_wp2_with (first
    | (at_builtin; have _q := g1; refine append_sl rowS rfl _ _ rfl w.heap.size v1 l m rfl o1 _ rfl w.heap.size (H2.out.below ((Below.refl _ _).grown g1 (by simp) (fun k hk => by simp [Value.ownBlock] at hk; omega))) hl (by decide) (by have := g1.size; simp at this; omega) ?_; intro v2 w2 o2 g2)
    | (at_builtin; refine append_sl rowS rfl _ _ rfl w.heap.size (.slice (some ⟨w.heap.size, 0, none⟩) 0 0) [] l rfl HO.out _ rfl w.heap.size H1.out (by simp; omega) (by decide) (by simp) ?_; intro v1 w1 o1 g1; rw [List.nil_append] at o1))
  go_ret
  refine ⟨v2, rfl, o2, ?_⟩
  have B1 : Below w.heap.size w w1 := HB.out.grown g1 (by simp) (fun k hk => by simp [Value.ownBlock] at hk; omega)
  exact B1.grown g2 B1.size (fun k hk => (o1.lt k hk).1)
end Go.Proofs.Ytbdolhmeknlnpaa
