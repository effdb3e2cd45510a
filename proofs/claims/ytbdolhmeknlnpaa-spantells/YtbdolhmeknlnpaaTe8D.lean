/- The document's bounds. -/
import Derived.Test.YtbdolhmeknlnpaaTe8C
namespace Go.Proofs.Ytbdolhmeknlnpaa
set_option linter.unusedVariables false
open Go.RowKit

set_option maxRecDepth 100000 in
set_option maxHeartbeats 1000000 in
theorem bounds_calls (w : World) (u : Value) (l : List Sp) (h : Sl encS w u l) (hl : l.length ≤ 1000) : Calls Try.prog 28 #[u] w fun e w' => ∃ v, e = .returned v ∧ Sl encT w' v (boundsP l) ∧ Below w.heap.size w w' := by
  have HS : Hid (Sl encS w u l) := h
  obtain ⟨ad, cap, rfl, hcap, hmax, _, _⟩ := h
  have HG : Hid (∀ i (hi : i < l.length), ∃ g off, ad = some ⟨g, off, none⟩ ∧ g < w.heap.size ∧ w.rangeAt g (off + i * 49) (encS.c l[i])) := fun i hi => SlB.at HS.out i hi
  obtain ⟨N, hN⟩ : ∃ N : Nat, N = l.length := ⟨_, rfl⟩
  have HN : Hid (N = l.length) := hN
  rw [← hN] at hcap hmax hl ⊢
  have HM : Hid (∀ k : Nat, k < N → wrap64 ((k : Int) + 1) = ((k + 1 : Nat) : Int)) := fun k hk => wrap_next hk hmax
  clear hN hmax
  go_enter Try.func28, Try.ntmps28
  go_wp2_with fail
  go_loopg [3, 4] N (fun gg v i wr => ∃ k : Nat, k + gg = N ∧ i = .int .i64 (k : Int) ∧ Hid (Below w.heap.size w wr ∧ Sl encT wr v (boundsP (l.take k))))
  case atStart => exact ⟨0, by omega, rfl, ⟨Below.refl _ _, SlB.nil _ _ _⟩⟩
  case round =>
    obtain ⟨k, hkg, rfl, HL⟩ := hrel
    cases gk with
    | zero =>
      have hkN : k = N := by omega
      subst hkN
      go_wp2_with fail
      go_ret
      have h1 := HL.out.2
      rw [List.take_of_length_le (by have := HN.out; omega)] at h1
      exact ⟨_, rfl, h1, HL.out.1⟩
    | succ gg =>
      have hlt : k < N := by omega
      have hltI : (k : Int) < (N : Int) := by omega
      have hk0 : (0 : Int) ≤ (k : Int) := by omega
      have hkl : k < l.length := by have := HN.out; omega
      obtain ⟨g, off, rfl, hg, hr⟩ := HG.out k hkl
      have rS : wr.rangeAt g (off + k * 49) (encS.c l[k]) := range_same' hr (HL.out.1.block g hg)
      have conv : (convert 53 9 (.slice (some ⟨g, off + k * 49, none⟩) 24 24)).run Try.prog wr = .ok (.string (str (l[k]).F)) wr := conv_part (range_F rS) (l[k]).hF 24
      have HKS : Hid (wrap64 ((k : Int) + 1) = ((k + 1 : Nat) : Int)) := HM.out k hlt
      have HTK : Hid (boundsP (l.take (k + 1)) = boundsStep (boundsP (l.take k)) l[k]) := (by rw [List.take_succ_eq_append_getElem hkl, bounds_snoc] : _ = _)
      have HLn : Hid ((boundsP (l.take k)).length ≤ 2000) := (by have h1 := bounds_len (l.take k); rw [List.length_take] at h1; omega : _ ≤ _)
      have hless : Op.bytesLess (str (l[k]).F).toList (str (l[k]).bt.b).toList = decide ((l[k]).bf.v < (l[k]).bt.v) := by rw [str_toList, str_toList]; exact Bd.less (l[k]).bf (l[k]).bt
      have HW1 : Hid (∀ y v O, Sl encT y v O → O.length ≤ 100000 → Calls Try.prog 47 #[v, .string (str (l[k]).F)] y fun e w' => ∃ v', e = .returned v' ∧ Sl encT w' v' (withP O (l[k]).bf) ∧ Below y.heap.size y w') := fun y v O h h2 => with_calls y v O h (l[k]).bf h2
      have HW2 : Hid (∀ y v O, Sl encT y v O → O.length ≤ 100000 → Calls Try.prog 47 #[v, .string (str (l[k]).bt.b)] y fun e w' => ∃ v', e = .returned v' ∧ Sl encT w' v' (withP O (l[k]).bt) ∧ Below y.heap.size y w') := fun y v O h h2 => with_calls y v O h (l[k]).bt h2
      have HTO : Hid (∀ y, Calls Try.prog 46 #[spv (l[k])] y fun e w' => e = .returned (.string (str (l[k]).bt.b)) ∧ Below y.heap.size y w') := fun y => to_calls y _
      clear hr
      generalize l[k] = s at *
      generalize boundsP (l.take k) = O at *
      generalize str s.F = SF at *
      generalize str s.bt.b = ST at *
      have hb0 : Below wr.heap.size wr wr := Below.refl _ _
      by_cases hb : s.bf.v < s.bt.v
      · rw [decide_eq_true hb] at hless
        have HBS : Hid (boundsStep O s = withP (withP O s.bf) s.bt) := (if_pos hb : _ = _)
        clear hb
        go_wp2_with (first
          | (refine load_el elS _ rfl g (off + k * 49) rfl rfl s rS ?_)
          | (go_at_call 46; refine (HTO.out _).mono ?_; rintro e y ⟨rfl, b1⟩; clear rS; have hc1 := HW1.out y _ O (Sl.called HL.out.2 b1) (by have := HLn.out; omega))
          | (go_at_call 47; refine hc1.mono ?_; clear hc1; rintro e y1 ⟨v1, rfl, s1, b2⟩; have hc2 := HW2.out y1 v1 _ s1 (by have := HLn.out; have := with_len O s.bf; omega))
          | (go_at_call 47; refine hc2.mono ?_; clear hc2; rintro e y2 ⟨v2, rfl, s2, b3⟩))
        go_roundg gg
        case measure => omega
        case rel =>
          have c2 := b1.trans (b2.mono b1.size)
          have c3 := c2.trans (b3.mono c2.size)
          exact ⟨k + 1, by omega, congrArg (Value.int .i64) (by omega), ⟨HL.out.1.trans (c3.mono HL.out.1.size), by rw [HTK.out, HBS.out]; exact s2⟩⟩
      · rw [decide_eq_false hb] at hless
        have HBS : Hid (boundsStep O s = O) := (if_neg hb : _ = _)
        clear hb
        go_wp2_with (first
          | (refine load_el elS _ rfl g (off + k * 49) rfl rfl s rS ?_)
          | (go_at_call 46; refine (HTO.out _).mono ?_; rintro e y ⟨rfl, b1⟩; clear rS))
        go_roundg gg
        case measure => omega
        case rel => exact ⟨k + 1, by omega, congrArg (Value.int .i64) (by omega), ⟨HL.out.1.trans (b1.mono HL.out.1.size), by rw [HTK.out, HBS.out]; exact Sl.called HL.out.2 b1⟩⟩
end Go.Proofs.Ytbdolhmeknlnpaa
