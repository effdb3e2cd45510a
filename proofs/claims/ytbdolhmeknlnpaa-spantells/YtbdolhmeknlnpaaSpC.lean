/- look: the edges of all spans of a list are told. -/
import Derived.Test.YtbdolhmeknlnpaaSpB
import Derived.Deep.LoopGhost
namespace Go.Proofs.Ytbdolhmeknlnpaa
set_option linter.unusedVariables false
open Go.RowKit

def sp0 : Sp := ⟨zs 24, zs 24, false, rfl, rfl⟩
theorem wrap_next {k N : Nat} (h : k < N) (hN : N ≤ maxLen) : wrap64 ((k : Int) + 1) = ((k + 1 : Nat) : Int) := by unfold maxLen at hN; unfold wrap64; omega
/-- The edges so far, and what may have changed since. -/
structure EVs (w : World) (p : Nat) (r0 : Option Nat) (es : List Ed) (x : World) : Prop where
  at_ : ∃ v, EV x p v es ∧ Near r0 v.ownBlock w.heap.size
  t : Touch p r0 w x
theorem EVs.start {w : World} {p : Nat} {v : Value} {es : List Ed} (h : EV w p v es) : EVs w p v.ownBlock es w := ⟨⟨v, h, Near.refl _ _⟩, Touch.refl _ _ _⟩
theorem EVs.below {w x y : World} {p : Nat} {r0 : Option Nat} {es : List Ed} (h : EVs w p r0 es x) (b : Below x.heap.size x y) : EVs w p r0 es y := by
  obtain ⟨⟨v, h1, h2⟩, h3⟩ := h
  exact ⟨⟨v, h1.below b, h2⟩, ⟨b.os.trans h3.os, b.tape.trans h3.tape, b.output.trans h3.output, Nat.le_trans h3.size b.size, fun k hk hp hr => (b.block k (by have := h3.size; omega)).trans (h3.block k hk hp hr)⟩⟩
theorem EVs.told {g : Nat} {mk : (K : List UInt8) → K.length = 24 → Int → Ed} {p : Nat} (T : Tell g mk p) {w x : World} {r0 : Option Nat} {es : List Ed} (h : EVs w p r0 es x) (K : List UInt8) (hK : K.length = 24) (m : Int) (hl : es.length + 1 ≤ 1000000) :
    Calls Try.prog g #[kv K, .int .i64 m, .pointer (some ⟨p, 0, none⟩)] x fun e y => e = .returned (.tuple #[]) ∧ EVs w p r0 (es ++ [mk K hK m]) y ∧ ∀ b s, InB encS 35 x b s → w.heap.size ≤ b → (∀ v, EV x p v es → v.ownBlock ≠ some b) → InB encS 35 y b s ∧ ∀ v, EV y p v (es ++ [mk K hK m]) → v.ownBlock ≠ some b := by
  obtain ⟨⟨v, h1, h2⟩, h3⟩ := h
  refine (T x v es K hK m h1 hl).mono ?_
  rintro e y ⟨rfl, v', h4, t, n⟩
  refine ⟨rfl, ⟨⟨v', h4, h2.trans n h3.size⟩, ?_⟩, fun b s hb hlt hv => ⟨hb.touch t ?_ (hv v h1), fun v2 hv2 e => ?_⟩⟩
  · have hn : Near r0 v.ownBlock w.heap.size := h2
    exact h3.trans t hn
  · intro e
    subst e
    have e1 := hb.blk
    rw [h1.var] at e1
    have e2 := congrArg (fun o : Option Obj => match o with | some (.cells c _ _) => c.size | _ => 0) e1
    simp [encS, sc, bc_length, s.hF, s.hT] at e2
  · have e3 : v2 = v' := by
      have := hv2.var.symm.trans h4.var
      simpa using this
    subst e3
    rcases n b e with q | q
    · exact hv v h1 q
    · have := hb.lt
      omega
theorem looks_take (mk : (K : List UInt8) → K.length = 24 → Int → Ed) (l : List Sp) (k : Nat) (h : k < l.length) : looks mk (l.take (k + 1)) = looks mk (l.take k) ++ tells mk l[k] := by
  rw [List.take_succ_eq_append_getElem h, looks_snoc]
theorem EV.uniq {w : World} {p : Nat} {v v' : Value} {es es' : List Ed} (h : EV w p v es) (h' : EV w p v' es') : v = v' := by
  have := h.var.symm.trans h'.var
  simpa using this
set_option maxRecDepth 100000 in
set_option maxHeartbeats 8000000 in
theorem look_calls (g : Nat) (mk : (K : List UInt8) → K.length = 24 → Int → Ed) (p : Nat) (T : Tell g mk p) (eg : ∀ args w, (callFunc g args).run Try.prog w = .ok (.enter g args) w) (w : World) (u : Value) (l : List Sp) (hl : SlB encS w p u l) (v0 : Value) (es : List Ed) (h : EV w p v0 es) (hlen : es.length + 2 * l.length + 2 ≤ 1000000) :
    Calls Try.prog 39 #[u, .func (.func g) #[] #[.pointer (some ⟨p, 0, none⟩)]] w fun e w' => e = .returned (.tuple #[]) ∧ EVs w p v0.ownBlock (es ++ looks mk l) w' := by
  have hl' := hl
  obtain ⟨ad, cap, rfl, hcap, hmax, _, _⟩ := hl'
  obtain ⟨N, hN⟩ : ∃ N : Nat, N = l.length := ⟨_, rfl⟩
  rw [← hN] at hcap hmax ⊢
  have HN : Hid (N = l.length) := hN
  have HM : Hid (∀ k : Nat, k < N → wrap64 ((k : Int) + 1) = ((k + 1 : Nat) : Int)) := fun k hk => wrap_next hk hmax
  have HI : Hid (∀ i (hi : i < l.length), ∃ g off, ad = some ⟨g, off, none⟩ ∧ g < p ∧ w.rangeAt g (off + i * 49) (encS.c l[i])) := fun i hi => SlB.at hl i hi
  have HS : Hid (EVs w p v0.ownBlock es w) := EVs.start h
  have HP : Hid (p < w.heap.size ∧ ∀ k, v0.ownBlock = some k → p + 1 ≤ k) := ⟨h.lt, fun k hk => (h.row k hk).1⟩
  have HT : Hid (Tell g mk p) := T
  have HL : Hid (es.length + 2 * N + 2 ≤ 1000000) := by rw [hN]; exact hlen
  clear hN hl h T hlen
  go_enter Try.func39, Try.ntmps39
  go_wp2
  go_loopg [8] N (fun gg i wr => ∃ k : Nat, k + gg = N ∧ i = .int .i64 (k : Int) ∧ Hid (EVs w p v0.ownBlock (es ++ looks mk (l.take k)) wr))
  case atStart => exact ⟨0, by omega, rfl, (show EVs w p v0.ownBlock (es ++ looks mk (l.take 0)) w by simpa [looks] using HS.out)⟩
  case round =>
    obtain ⟨k, hkg, rfl, HE⟩ := hrel
    cases gk with
    | zero =>
      have hkN : k = N := by omega
      subst hkN
      go_wp2_with fail
      go_end0
      refine ⟨rfl, ?_⟩
      have := HE.out
      rwa [HN.out, List.take_length] at this
    | succ gg =>
      have hlt : k < N := by omega
      have hltI : (k : Int) < (N : Int) := by omega
      have hkl : k < l.length := by rw [← HN.out]; exact hlt
      obtain ⟨g0, off, rfl, hg0, hat⟩ := HI.out k hkl
      have HR : Hid (wr.rangeAt g0 (off + k * 49) (encS.c l[k])) := range_same' hat (HE.out.t.block g0 (by have := HP.out.1; omega) (by omega) (fun e => by have := HP.out.2 g0 e; omega))
      have HTK : Hid (looks mk (l.take (k + 1)) = looks mk (l.take k) ++ tells mk l[k]) := looks_take mk l k hkl
      have HLN : Hid ((es ++ looks mk (l.take k)).length + 2 ≤ 1000000) := by
        show (es ++ looks mk (l.take k)).length + 2 ≤ 1000000
        have h1 := looks_len mk (l.take k)
        have h2 := HL.out
        rw [List.length_append]
        rw [List.length_take] at h1
        omega
      have HKS := HM.out k hlt
      have HKS : Hid (wrap64 ((k : Int) + 1) = ((k + 1 : Nat) : Int)) := HKS
      generalize l[k] = s at *
      generalize looks mk (l.take k) = lk at *
      clear hat hkl
      go_upto_region 3 with (first
        | (refine load_el elS _ rfl g0 (off + k * 49) rfl rfl s HR.out ?_)
        | (refine store_el elS rfl _ _ rfl wr.heap.size rfl s rfl sp0 (InB.new encS _ wr sp0 _ rfl) ?_; intro x1 hu1 tx1 sx1))
      have HX : Hid (EVs w p v0.ownBlock (es ++ lk) x1) := HE.out.below (((Below.refl _ wr).alloc (Nat.le_refl _) _).trans (tx1.below (by simp) (Nat.le_refl _) (by simp)))
      have hsz : x1.heap.size = wr.heap.size + 1 := by rw [sx1]; simp
      have hwr : w.heap.size ≤ wr.heap.size := HE.out.t.size
      have HV : Hid (∀ v, EV x1 p v (es ++ lk) → v.ownBlock ≠ some wr.heap.size) := by
        obtain ⟨⟨v, h1, _⟩, _⟩ := HE.out
        intro v' hv' e
        have h2 := h1.below (((Below.refl _ wr).alloc (Nat.le_refl _) _).trans (tx1.below (by simp) (Nat.le_refl _) (by simp)))
        have := h2.uniq hv'
        subst this
        have := (h1.row _ e).2
        omega
      have hc0 := isEmpty_calls x1 s
      clear tx1 sx1 HE HR
      generalize wr.heap.size = q at *
      have HU : Hid (InB encS 35 x1 q s) := hu1
      cases hse : s.empty with
      | true =>
        have HTL : Hid (tells mk s = []) := (show _ = _ by rw [tells, hse]; rfl)
        rw [hse] at hc0
        go_wp2_with (first
          | (refine load_el elS _ rfl q 0 rfl rfl s hu1.range ?_)
          | (go_at_call 55; refine hc0.mono ?_; clear hc0; rintro e w2 ⟨rfl, b2⟩))
        go_roundg gg
        case measure => omega
        case rel => exact ⟨k + 1, by omega, congrArg (Value.int .i64) HKS.out, (show EVs w p v0.ownBlock (es ++ looks mk (l.take (k + 1))) w2 by rw [HTK.out, HTL.out, List.append_nil]; exact HX.out.below b2)⟩
      | false =>
        rw [hse] at hc0
        go_upto_region 4 with (first
          | (refine load_el elS _ rfl q 0 rfl rfl s hu1.range ?_)
          | (go_at_call 55; refine hc0.mono ?_; clear hc0; rintro e w2 ⟨rfl, b2⟩))
        have HU2 : Hid (InB encS 35 w2 q s) := hu1.below b2 hu1.lt
        have hu2 := hu1.below b2 hu1.lt
        have HX2 : Hid (EVs w p v0.ownBlock (es ++ lk) w2) := HX.out.below b2
        have HV2 : Hid (∀ v, EV w2 p v (es ++ lk) → v.ownBlock ≠ some q) := by
          obtain ⟨⟨v, h1, _⟩, _⟩ := HX.out
          intro v' hv'
          have := (h1.below b2).uniq hv'
          subst this
          exact HV.out v h1
        have hc1 := EVs.told HT.out HX2.out s.F s.hF 1 (by have := HLN.out; omega)
        clear b2 HX HV HU hu1 hsz
        cases he : s.e with
        | true =>
          have HTL : Hid (tells mk s = [mk s.F s.hF 1]) := (show _ = _ by rw [tells, hse, he]; rfl)
          have hEnd : ∀ y, InB encS 35 y q s → y.cell? ⟨q, 48, none⟩ = some (.bool true) := fun y hy => by have := range_E hy.range; rw [he] at this; simpa using this
          go_wp2_with (first
            | (refine load_part _ rfl q 0 rfl rfl _ s.hF (range_F hu2.range) ?_)
            | (go_at_fn g; refine hc1.mono ?_; clear hc1; rintro e w3 ⟨rfl, h3, k3⟩; have hu3 := (k3 q s HU2.out hwr HV2.out).1; have cE := hEnd w3 hu3))
          go_roundg gg
          case measure => omega
          case rel => exact ⟨k + 1, by omega, congrArg (Value.int .i64) HKS.out, (show EVs w p v0.ownBlock (es ++ looks mk (l.take (k + 1))) w3 by rw [HTK.out, HTL.out, ← List.append_assoc]; exact h3)⟩
        | false =>
          have HTL : Hid (tells mk s = [mk s.F s.hF 1, mk s.T s.hT (-1)]) := (show _ = _ by rw [tells, hse, he]; rfl)
          have hEnd : ∀ y, InB encS 35 y q s → y.cell? ⟨q, 48, none⟩ = some (.bool false) := fun y hy => by have := range_E hy.range; rw [he] at this; simpa using this
          go_upto_region 6 with (first
            | (refine load_part _ rfl q 0 rfl rfl _ s.hF (range_F hu2.range) ?_)
            | (go_at_fn g; refine hc1.mono ?_; clear hc1; rintro e w3 ⟨rfl, h3, k3⟩; have hu3 := (k3 q s HU2.out hwr HV2.out).1; have cE := hEnd w3 hu3))
          have hc2 := EVs.told HT.out h3 s.T s.hT (-1) (by have := HLN.out; simp only [List.length_append, List.length_cons, List.length_nil] at this ⊢; omega)
          clear cE hEnd k3
          go_wp2_with (first
            | (refine load_part _ rfl q 24 rfl rfl _ s.hT (by have := range_T hu3.range; simpa using this) ?_)
            | (go_at_fn g; refine hc2.mono ?_; clear hc2; rintro e w4 ⟨rfl, h4, _⟩))
          go_roundg gg
          case measure => omega
          case rel => exact ⟨k + 1, by omega, congrArg (Value.int .i64) HKS.out, (show EVs w p v0.ownBlock (es ++ looks mk (l.take (k + 1))) w4 by rw [HTK.out, HTL.out, ← List.append_assoc]; have := h4; simp only [List.append_assoc, List.cons_append, List.nil_append] at this ⊢; exact this)⟩
end Go.Proofs.Ytbdolhmeknlnpaa
