import Derived.Test.YtdmindhjmjnagaaGreatDoorB33
/- X8D X8E -/
namespace Go.Proofs.YtdmindhjmjnagaaGreatDoor
set_option linter.unusedVariables false
set_option maxRecDepth 1000000
set_option maxHeartbeats 32000000
section
open Go.RowKit
theorem bounds_calls (w : World) (u : Value) (l : List Sp) (h : Sl encS w u l) (hl : l.length ≤ 1000) : Calls Tryz.prog 113 #[u] w fun e w' => ∃ v, e = .returned v ∧ Sl encT w' v (boundsP l) ∧ Below w.heap.size w w' := by
 have HS : Hid (Sl encS w u l) := h
 obtain ⟨ad, cap, rfl, hcap, hmax, _, _⟩ := h
 have HG : Hid (∀ i (hi : i < l.length), ∃ g off, ad = some ⟨g, off, none⟩ ∧ g < w.heap.size ∧ w.rangeAt g (off + i * 49) (encS.c l[i])) := fun i hi => SlB.at HS.out i hi
 obtain ⟨N, hN⟩ : ∃ N : Nat, N = l.length := ⟨_, rfl⟩
 have HN : Hid (N = l.length) := hN
 rw [← hN] at hcap hmax hl ⊢
 have HM : Hid (∀ k : Nat, k < N → wrap64 ((k : Int) + 1) = ((k + 1 : Nat) : Int)) := fun k hk => wrap_next hk hmax
 clear hN hmax
 go_enter Tryz.func113, Tryz.ntmps113
 go_wp2_with fail
 go_loopg [3, 4] N (fun gg v i wr => ∃ k : Nat, k + gg = N ∧ i = .int .i64 (k : Int) ∧ Hid (Below w.heap.size w wr ∧ Sl encT wr v (boundsP (l.take k))))
 case atStart => exact ⟨0, by omega, rfl, ⟨Below.refl _ _, SlB.nil _ _ _⟩⟩
 case round =>
  obtain ⟨k, hkg, rfl, HL⟩ := hrel
  cases gk with
  | zero =>
   have hkN : k = N := by omega
   subst hkN
   go_wp2_with fail
   go_ret
   have h1 := HL.out.2
   rw [List.take_of_length_le (by have := HN.out; omega)] at h1
   exact ⟨_, rfl, h1, HL.out.1⟩
  | succ gg =>
   have hlt : k < N := by omega
   have hltI : (k : Int) < (N : Int) := by omega
   have hk0 : (0 : Int) ≤ (k : Int) := by omega
   have hkl : k < l.length := by have := HN.out; omega
   obtain ⟨g, off, rfl, hg, hr⟩ := HG.out k hkl
   have rS : wr.rangeAt g (off + k * 49) (encS.c l[k]) := range_same' hr (HL.out.1.block g hg)
   have conv : (convert 49 9 (.slice (some ⟨g, off + k * 49, none⟩) 24 24)).run Tryz.prog wr = .ok (.string (str (l[k]).F)) wr := conv_part (range_F rS) (l[k]).hF 24
   have HKS : Hid (wrap64 ((k : Int) + 1) = ((k + 1 : Nat) : Int)) := HM.out k hlt
   have HTK : Hid (boundsP (l.take (k + 1)) = boundsStep (boundsP (l.take k)) l[k]) := (by rw [List.take_succ_eq_append_getElem hkl, bounds_snoc] : _ = _)
   have HLn : Hid ((boundsP (l.take k)).length ≤ 2000) := (by have h1 := bounds_len (l.take k); rw [List.length_take] at h1; omega : _ ≤ _)
   have hless : Op.bytesLess (str (l[k]).F).toList (str (l[k]).bt.b).toList = decide ((l[k]).bf.v < (l[k]).bt.v) := by rw [str_toList, str_toList]; exact Bd.less (l[k]).bf (l[k]).bt
   have HW1 : Hid (∀ y v O, Sl encT y v O → O.length ≤ 100000 → Calls Tryz.prog 149 #[v, .string (str (l[k]).F)] y fun e w' => ∃ v', e = .returned v' ∧ Sl encT w' v' (withP O (l[k]).bf) ∧ Below y.heap.size y w') := fun y v O h h2 => with_calls y v O h (l[k]).bf h2
   have HW2 : Hid (∀ y v O, Sl encT y v O → O.length ≤ 100000 → Calls Tryz.prog 149 #[v, .string (str (l[k]).bt.b)] y fun e w' => ∃ v', e = .returned v' ∧ Sl encT w' v' (withP O (l[k]).bt) ∧ Below y.heap.size y w') := fun y v O h h2 => with_calls y v O h (l[k]).bt h2
   have HTO : Hid (∀ y, Calls Tryz.prog 148 #[spv (l[k])] y fun e w' => e = .returned (.string (str (l[k]).bt.b)) ∧ Below y.heap.size y w') := fun y => to_calls y _
   clear hr
   generalize l[k] = s at *
   generalize boundsP (l.take k) = O at *
   generalize str s.F = SF at *
   generalize str s.bt.b = ST at *
   have hb0 : Below wr.heap.size wr wr := Below.refl _ _
   by_cases hb : s.bf.v < s.bt.v
   · rw [decide_eq_true hb] at hless
     have HBS : Hid (boundsStep O s = withP (withP O s.bf) s.bt) := (if_pos hb : _ = _)
     clear hb
     go_wp2_with (first
      | (refine load_el elS _ rfl g (off + k * 49) rfl rfl s rS ?_)
      | (go_at_call 148; refine (HTO.out _).mono ?_; rintro e y ⟨rfl, b1⟩; clear rS; have hc1 := HW1.out y _ O (Sl.called HL.out.2 b1) (by have := HLn.out; omega))
      | (go_at_call 149; refine hc1.mono ?_; clear hc1; rintro e y1 ⟨v1, rfl, s1, b2⟩; have hc2 := HW2.out y1 v1 _ s1 (by have := HLn.out; have := with_len O s.bf; omega))
      | (go_at_call 149; refine hc2.mono ?_; clear hc2; rintro e y2 ⟨v2, rfl, s2, b3⟩))
     go_roundg gg
     case measure => omega
     case rel =>
      have c2 := b1.trans (b2.mono b1.size)
      have c3 := c2.trans (b3.mono c2.size)
      exact ⟨k + 1, by omega, congrArg (Value.int .i64) (by omega), ⟨HL.out.1.trans (c3.mono HL.out.1.size), by rw [HTK.out, HBS.out]; exact s2⟩⟩
   · rw [decide_eq_false hb] at hless
     have HBS : Hid (boundsStep O s = O) := (if_neg hb : _ = _)
     clear hb
     go_wp2_with (first
      | (refine load_el elS _ rfl g (off + k * 49) rfl rfl s rS ?_)
      | (go_at_call 148; refine (HTO.out _).mono ?_; rintro e y ⟨rfl, b1⟩; clear rS))
     go_roundg gg
     case measure => omega
     case rel => exact ⟨k + 1, by omega, congrArg (Value.int .i64) (by omega), ⟨HL.out.1.trans (b1.mono HL.out.1.size), by rw [HTK.out, HBS.out]; exact Sl.called HL.out.2 b1⟩⟩
end
section
open Go.RowKit
structure Cuts (C : List Bd) (g : Int → Bool) : Prop where
 rise : Rise C
 piece : ∀ i (h : i + 1 < C.length) (x : Int), (C[i]).v ≤ x → x < (C[i + 1]).v → g x = g (C[i]).v
 out : ∀ x : Int, x < topV → ((∀ y ∈ C, x < y.v) ∨ (∀ y ∈ C, y.v ≤ x)) → g x = false
structure WiK (g : Int → Bool) (C : List Bd) (k : Nat) (out : List Sp) : Prop where
 at' : ∀ h : k < C.length, Wi g out C[k]
 nil : C = [] → out = []
 len : out.length ≤ k
theorem WiK.start {g : Int → Bool} {C : List Bd} (h : Cuts C g) : WiK g C 0 [] := by
 refine ⟨fun hk => ⟨⟨List.Pairwise.nil, by simp⟩, by simp, fun x h0 h1 => ?_⟩, fun _ => rfl, Nat.le_refl _⟩
 by_cases q : x < (C[0]).v
 · rw [h.out x h1 (.inl fun y hy => ?_)]
   · simp [mem]
   · cases C with
     | nil => cases hy
     | cons c r =>
      have hr := List.pairwise_cons.1 h.rise
      simp at q
      rcases List.mem_cons.1 hy with rfl | hy
      · exact q
      · have := hr.1 y hy
        omega
 · simp [mem, q]
theorem Cuts.lt {g : Int → Bool} {C : List Bd} (h : Cuts C g) (i : Nat) (hi : i + 1 < C.length) : (C[i]).v < (C[i + 1]).v := (List.pairwise_iff_getElem.1 h.rise) i (i + 1) (by omega) hi (by omega)
theorem Cuts.key {g : Int → Bool} {C : List Bd} (h : Cuts C g) (i : Nat) (hi : i + 1 < C.length) : (C[i]).b.length = 24 := by
 have h1 := h.lt i hi
 have h2 := (C[i + 1]).low
 exact key_of (by omega)
theorem WiK.no {g : Int → Bool} {C : List Bd} {k : Nat} {out : List Sp} (hc : Cuts C g) (h : WiK g C k out) (hk : k + 1 < C.length) (hg : g (C[k]).v = false) : WiK g C (k + 1) out :=
 ⟨fun _ => (h.at' (by omega)).no (hc.lt k hk) fun x h1 h2 => by rw [hc.piece k hk x h1 h2, hg], h.nil, by have := h.len; omega⟩
theorem WiK.yes {g : Int → Bool} {C : List Bd} {k : Nat} {out : List Sp} (hc : Cuts C g) (h : WiK g C k out) (hk : k + 1 < C.length) (hg : g (C[k]).v = true) : WiK g C (k + 1) (stepW out C[k] C[k + 1] (hc.key k hk)) :=
 ⟨fun _ => (h.at' (by omega)).yes _ (hc.lt k hk) fun x h1 h2 => by rw [hc.piece k hk x h1 h2, hg], fun e => by subst e; simp at hk, by have := h.len; have := stepW_len out C[k] C[k + 1] (hc.key k hk); omega⟩
theorem WiK.is {g : Int → Bool} {C : List Bd} {out : List Sp} (hc : Cuts C g) (h : WiK g C (C.length - 1) out) : Is out g := by
 by_cases h0 : C.length = 0
 · have e := List.eq_nil_of_length_eq_zero h0
   have := h.nil e
   subst this
   refine SetV.is ⟨List.Pairwise.nil, by simp⟩ fun K hK => ?_
   rw [hc.out _ (key_top K hK) (.inl (by rw [e]; simp))]
   rfl
 · have w := h.at' (by omega)
   refine w.s.is fun K hK => ?_
   rw [w.m _ (by omega) (key_top K hK)]
   by_cases q : (num K : Int) < (C[C.length - 1]).v
   · simp [q]
   · rw [hc.out _ (key_top K hK) (.inr fun y hy => ?_)]
     · simp
     · obtain ⟨i, hi, rfl⟩ := List.getElem_of_mem hy
       rcases Nat.lt_or_ge i (C.length - 1) with q2 | q2
       · have := (List.pairwise_iff_getElem.1 hc.rise) i (C.length - 1) hi (by omega) q2
         omega
       · have : i = C.length - 1 := by omega
         subst this
         omega
end
end Go.Proofs.YtdmindhjmjnagaaGreatDoor
