/- Map, Apply and Join of package delta. -/
import Derived.Test.YtbodbdcmkicmaaaDlE
namespace Go.Proofs.Ytbodbdcmkicmaaa
set_option linter.unusedVariables false
open Go.RowKit

theorem puts_len {α : Type} (key : α → Int) (l m : List α) : (l.foldl (putA key) m).length ≤ m.length + l.length := by
  induction l generalizing m with
  | nil => simp
  | cons a l ih =>
    have h1 := ih (putA key m a)
    have h2 := putA_len key m a
    rw [List.foldl_cons, List.length_cons]
    omega
theorem puts_len0 {α : Type} (key : α → Int) (l : List α) : (l.foldl (putA key) []).length ≤ l.length := by
  have := puts_len key l []
  simpa using this
theorem steps_len (c : List Ch) (m : List Pa) : (c.foldl stepA m).length ≤ m.length + c.length := by
  induction c generalizing m with
  | nil => simp
  | cons a l ih =>
    have h1 := ih (stepA m a)
    have h2 : (stepA m a).length ≤ m.length + 1 := by
      unfold stepA
      split
      · have := delA_len Pa.n m a.n; omega
      · exact putA_len Pa.n m a.pa
    rw [List.foldl_cons, List.length_cons]
    omega
set_option maxHeartbeats 1000000 in
theorem map_calls (w : World) (u : Value) (l : List Pa) (h : Sl encP w u l) (hl : l.length ≤ 10000) :
    Calls Try.prog 13 #[u] w fun e w' => ∃ v m, e = .returned v ∧ Own encP 48 w' w.heap.size v m ∧ MapIs l m ∧ m.length ≤ l.length ∧ Below w.heap.size w w' := by
  have hT := taken_calls w u l h (by omega)
  clear h
  go_enter Try.func13, Try.ntmps13
  go_wp2_with (first
    | (go_at_call 28; refine hR.mono ?_; clear hR; rintro e w2 ⟨v, rfl, h2, b2⟩)
    | (go_at_call 29; refine hT.mono ?_; clear hT; rintro e w1 ⟨rfl, m1, b1⟩
       have hR := risingP_calls w1 w.heap.size l.length _ m1 (by omega) (by have := puts_len0 Pa.n l; omega)))
  go_ret
  exact ⟨v, _, rfl, h2.lower b1.size, map_is l, puts_len0 Pa.n l, b1.trans (b2.mono b1.size)⟩
theorem steps_take (c : List Ch) (m : List Pa) (k : Nat) (h : k < c.length) : (c.take (k + 1)).foldl stepA m = stepA ((c.take k).foldl stepA m) c[k] := by
  rw [List.take_succ_eq_append_getElem h, List.foldl_append]
  rfl
set_option maxRecDepth 100000 in
set_option maxHeartbeats 4000000 in
theorem apply_calls (w : World) (u uc : Value) (l : List Pa) (c : List Ch) (h : Sl encP w u l) (hc : Sl encC w uc c) (hl : l.length ≤ 10000) (hcl : c.length ≤ 10000) :
    Calls Try.prog 15 #[u, uc] w fun e w' => ∃ v m, e = .returned v ∧ Own encP 48 w' w.heap.size v m ∧ ApplyIs l c m ∧ m.length ≤ l.length + c.length ∧ Below w.heap.size w w' := by
  have hT := taken_calls w u l h (by omega)
  have hc' := hc
  obtain ⟨ad, cap, rfl, hcap, hmax, _, _⟩ := hc'
  have hml := puts_len0 Pa.n l
  have HMI : Hid (MapIs l (l.foldl (putA Pa.n) [])) := map_is l
  generalize l.foldl (putA Pa.n) [] = M at *
  have HL : Hid (M.length ≤ l.length) := hml
  obtain ⟨n0, hn0⟩ : ∃ n0, n0 = l.length := ⟨_, rfl⟩
  rw [← hn0] at hT hl HL
  have HN0 : Hid (n0 = l.length) := hn0
  have HI : Hid (∀ i (hi : i < c.length), ∃ g off, ad = some ⟨g, off, none⟩ ∧ g < w.heap.size ∧ w.rangeAt g (off + i * 26) (encC.c c[i])) := fun i hi => SlB.at hc i hi
  obtain ⟨N, hN⟩ : ∃ N : Nat, N = c.length := ⟨_, rfl⟩
  rw [← hN] at hcap hmax hcl ⊢
  have HN : Hid (N = c.length) := hN
  clear h hc hml hn0 hN
  go_enter Try.func15, Try.ntmps15
  go_wp2_with (first
    | (go_at_call 29; refine hT.mono ?_; clear hT; rintro e w1 ⟨rfl, m1, b1⟩))
  have HST : Hid (Below w.heap.size w w1 ∧ MapA encP Pa.n w1 w.heap.size (n0 + 0) ((c.take 0).foldl stepA M)) := ⟨b1, m1⟩
  clear m1 b1
  go_loopg [12] N (fun gg i wr => ∃ k : Nat, k + gg = N ∧ i = .int .i64 (k : Int) ∧ Hid (Below w.heap.size w wr ∧ MapA encP Pa.n wr w.heap.size (n0 + k) ((c.take k).foldl stepA M)))
  case atStart => exact ⟨0, by omega, rfl, HST.out⟩
  case round =>
    obtain ⟨k, hkg, rfl, HE⟩ := hrel
    cases gk with
    | zero =>
      have hkN : k = N := by omega
      subst hkN
      have hR := risingP_calls wr w.heap.size (n0 + k) _ HE.out.2 (by omega) (by have h1 := steps_len (c.take k) M; have h2 := HL.out; have h3 : (c.take k).length ≤ k := by simp; omega
                                                                                 omega)
      go_wp2_with (first
        | (go_at_call 28; refine hR.mono ?_; clear hR; rintro e w2 ⟨v, rfl, h2, b2⟩))
      go_ret
      have e1 : c.take k = c := List.take_of_length_le (by have := HN.out; omega)
      rw [e1] at h2
      refine ⟨v, _, rfl, h2.lower HE.out.1.size, apply_is HMI.out c, ?_, HE.out.1.trans (b2.mono HE.out.1.size)⟩
      have h3 := steps_len c M
      have h4 := HL.out
      have h5 := HN0.out
      have h6 := HN.out
      omega
    | succ gg =>
      have hlt : k < N := by omega
      have hltI : (k : Int) < (N : Int) := by omega
      have hkl : k < c.length := by rw [← HN.out]; exact hlt
      obtain ⟨g0, off, rfl, hg0, hat⟩ := HI.out k hkl
      have HR : Hid (wr.rangeAt g0 (off + k * 26) (encC.c c[k])) := range_same' hat (HE.out.1.block g0 hg0)
      have HTK : Hid ((c.take (k + 1)).foldl stepA M = stepA ((c.take k).foldl stepA M) c[k]) := steps_take c M k hkl
      generalize c[k] = p at *
      generalize (c.take k).foldl stepA M = L at *
      clear hat hkl
      go_upto_region 5 with (first
        | (refine load_el elC _ rfl g0 (off + k * 26) rfl rfl p HR.out ?_)
        | (refine store_el elC rfl _ _ rfl wr.heap.size rfl p rfl ch0 (InB.new encC _ wr ch0 _ rfl) ?_; intro x1 hu1 tx1 sx1))
      have BX : Below wr.heap.size wr x1 := ((Below.refl _ wr).alloc (Nat.le_refl _) _).trans (tx1.below (by simp) (Nat.le_refl _) (by simp))
      have hb1 : Below w.heap.size w x1 := HE.out.1.trans (BX.mono HE.out.1.size)
      have hm1 := HE.out.2.below BX (Nat.le_refl _)
      obtain ⟨cv, cg⟩ := range_vC hu1.range
      simp only [Nat.zero_add] at cv cg
      clear HE HR tx1 sx1 BX
      generalize wr.heap.size = q at *
      cases hpg : p.g with
      | true =>
        rw [hpg] at cg
        have HSA : Hid (stepA L p = delA Pa.n L p.n) := (show _ = _ by unfold stepA; rw [if_pos hpg])
        go_wp2_with (first
          | (refine load_part _ rfl q 0 rfl rfl _ p.h (range_kC hu1.range) ?_)
          | (at_delete; refine drop_a tyP rfl _ _ rfl w.heap.size (n0 + k) L rfl hm1 p.kz rfl ?_; intro x2 hm2 gr2))
        go_roundg gg
        case measure => omega
        case rel => exact ⟨k + 1, by omega, congrArg (Value.int .i64) (by omega), (show Below w.heap.size w x2 ∧ MapA encP Pa.n x2 w.heap.size (n0 + (k + 1)) ((c.take (k + 1)).foldl stepA M) from ⟨hb1.grown gr2 hb1.size (fun j hj => by cases hj; exact Nat.le_refl _), by rw [HTK.out, HSA.out]; exact hm2.mono (by omega)⟩)⟩
      | false =>
        rw [hpg] at cg
        have HSA : Hid (stepA L p = putA Pa.n L p.pa) := (show _ = _ by unfold stepA; rw [if_neg (by rw [hpg]; simp)])
        go_wp2_with (first
          | (refine load_part _ rfl q 0 rfl rfl _ p.h (range_kC hu1.range) ?_)
          | (refine build_p rfl _ _ rfl p.pa rfl rfl ?_)
          | (refine store_a tyP rfl _ _ _ rfl w.heap.size (n0 + k) L rfl hm1 (by omega) p.kz rfl p.pa rfl rfl ?_; intro x2 hm2 gr2))
        go_roundg gg
        case measure => omega
        case rel => exact ⟨k + 1, by omega, congrArg (Value.int .i64) (by omega), (show Below w.heap.size w x2 ∧ MapA encP Pa.n x2 w.heap.size (n0 + (k + 1)) ((c.take (k + 1)).foldl stepA M) from ⟨hb1.grown gr2 hb1.size (fun j hj => by cases hj; exact Nat.le_refl _), by rw [HTK.out, HSA.out]; exact hm2⟩)⟩
end Go.Proofs.Ytbodbdcmkicmaaa
