/- What is cut is not read: the walk of PackCuts. -/
import Derived.Test.YtjcipamnidomkabShown
import Derived.Test.YtjcipamnidomkabBeMath
import Derived.Test.YtjcipamnidomkabMasks
namespace Go.Proofs.Ytjcipamnidomkab
set_option linter.unusedVariables false
open Go.RowKit

theorem cut_size (t : ByteArray) (n : Nat) (h : n ≤ t.size) : (t.extract 0 n).size = n := by simp; omega
theorem text_new (T : ByteArray) (h : T.size ≤ 255) : WS.text ⟨300, [], false⟩ T = ⟨300, be T.size 1 ++ T.data.toList, false⟩ := by
  have hb : T.data.toList.length = T.size := by simp
  unfold WS.text WS.byte
  rw [if_neg (by omega)]
  have e : WS.put ⟨300, [], false⟩ (be ((T.size : Int)).toNat 1) = ⟨300, be T.size 1, false⟩ := by
    unfold WS.put
    rw [if_neg (by simp), if_pos (by rw [be_length]; simp), Int.toNat_natCast]
    simp
  rw [e]
  unfold WS.put
  rw [if_neg (by simp), if_pos (by simp only [hb, be_length]; omega)]
theorem BytesIn.pre {w : World} {ad : Option Addr} {cap n m : Nat} {L : List UInt8} {r : Option Nat} (h : BytesIn w (.slice ad n cap) L r) (hm : m ≤ L.length) : BytesIn w (.slice ad m cap) (L.take m) r := by
  obtain ⟨ad', cap', e, h2, h3⟩ := h
  simp only [Value.slice.injEq] at e
  obtain ⟨rfl, rfl, rfl⟩ := e
  have hl : (L.take m).length = m := by rw [List.length_take]; omega
  refine ⟨ad, cap, by rw [hl], by omega, ?_⟩
  rcases h3 with ⟨e1, e2, e3⟩ | ⟨g, off, e1, e2, e3, e4⟩
  · exact .inl ⟨e1, by rw [e2]; simp, e3⟩
  · exact .inr ⟨g, off, e1, e2, e3, fun j u hu => e4 j u (bc_take hu)⟩
theorem own_cap {w : World} {base : Nat} {e : TypeId} {a : Option Addr} {n c : Nat} {xs : List Value} (h : w.ownsRow base e 1 (.slice a n c) n xs) : n ≤ c := by
  rcases h.2 with ⟨e1, e2⟩ | ⟨g, cap, cur, e1, _, _, e2, _⟩
  · omega
  · simp only [Value.slice.injEq] at e1
    omega
theorem got_of (L : List UInt8) (n : Nat) (h : n ≤ L.length) : RS.got ⟨L, false⟩ n = L.take n ∧ RS.take ⟨L, false⟩ n = ⟨L.drop n, false⟩ := by
  unfold RS.got RS.take
  have hc : ¬ (false = true ∨ (n : Int) < 0 ∨ ((L.length : Nat) : Int) < n) := by simp; omega
  rw [if_neg hc, if_neg hc, Int.toNat_natCast]
  exact ⟨rfl, rfl⟩
theorem over_of (L : List UInt8) (n : Int) (h : (L.length : Int) < n) : RS.got ⟨L, false⟩ n = [] ∧ RS.take ⟨L, false⟩ n = ⟨[], true⟩ := by
  unfold RS.got RS.take
  rw [if_pos (.inr (.inr h)), if_pos (.inr (.inr h))]
  exact ⟨rfl, rfl⟩
theorem bad_of (n : Int) : RS.got ⟨[], true⟩ n = [] ∧ RS.take ⟨[], true⟩ n = ⟨[], true⟩ := by
  unfold RS.got RS.take
  rw [if_pos (.inl rfl), if_pos (.inl rfl)]
  exact ⟨rfl, rfl⟩
theorem text_cut (x : List UInt8) (m : Nat) (hx : x.length ≤ 255) (hm : m ≤ x.length) : RS.text ⟨(be x.length 1 ++ x).take m, false⟩ = [] ∧ RS.atext ⟨(be x.length 1 ++ x).take m, false⟩ = ⟨[], true⟩ := by
  unfold RS.text RS.atext
  cases m with
  | zero =>
    have h1 := over_of ((be x.length 1 ++ x).take 0) 1 (by simp)
    rw [h1.2]
    exact bad_of _
  | succ m =>
    have hl : ((be x.length 1 ++ x).take (m + 1)).length = m + 1 := by
      rw [List.length_take, List.length_append, be_length]
      omega
    have e1 : (be x.length 1 ++ x).take (m + 1) = be x.length 1 ++ x.take m := by simp [be]
    have h1 := got_of ((be x.length 1 ++ x).take (m + 1)) 1 (by omega)
    have g1 : RS.got ⟨(be x.length 1 ++ x).take (m + 1), false⟩ 1 = be x.length 1 := by
      refine h1.1.trans ?_
      rw [e1]
      simp [be]
    have t1 : RS.take ⟨(be x.length 1 ++ x).take (m + 1), false⟩ 1 = ⟨x.take m, false⟩ := by
      refine h1.2.trans ?_
      rw [e1]
      simp [be]
    rw [g1, t1, num_be 1 x.length (by omega)]
    exact over_of (x.take m) x.length (by simp; omega)
theorem text_whole (x : List UInt8) (hx : x.length ≤ 255) : RS.text ⟨be x.length 1 ++ x, false⟩ = x ∧ RS.atext ⟨be x.length 1 ++ x, false⟩ = ⟨[], false⟩ := by
  unfold RS.text RS.atext
  have h1 := got_of (be x.length 1 ++ x) 1 (by rw [List.length_append, be_length]; omega)
  have g1 : RS.got ⟨be x.length 1 ++ x, false⟩ 1 = be x.length 1 := h1.1.trans (by simp [be])
  have t1 : RS.take ⟨be x.length 1 ++ x, false⟩ 1 = ⟨x, false⟩ := h1.2.trans (by simp [be])
  rw [g1, t1, num_be 1 x.length (by omega)]
  have h2 := got_of x x.length (Nat.le_refl _)
  rw [h2.1, h2.2]
  simp

theorem WrS.len {w : World} {p : Nat} {S : WS} {r : Option Nat} (h : WrS w p S r) : (S.l.length : Int) ≤ 2147483647 := by
  obtain ⟨sv, h1, h2, h3, h4, h5, h6⟩ := h
  omega

set_option maxHeartbeats 1000000 in
set_option maxRecDepth 100000 in
theorem cuts_short (s : ByteArray) (at' : Int) (w : World) (hs : (s.size : Int) ≤ 9223372036854775807) (h255 : (s.size : Int) ≤ 255) :
    Calls Try.prog 3 #[.string s, .int .i64 at'] w fun e w' => e = .returned (.bool true) ∧ Below w.heap.size w w' := by
  obtain ⟨A, hA, hA0, hA1⟩ : ∃ A : Int, bits .and .i64 at' 1023 = A ∧ 0 ≤ A ∧ A ≤ 1023 := ⟨_, and1023 at', by omega, by omega⟩
  obtain ⟨E, hE⟩ : ∃ E, be s.size 1 ++ s.data.toList = E := ⟨_, rfl⟩
  have Htn : Hid (WS.text ⟨300, [], false⟩ s = ⟨300, E, false⟩) := (text_new s (by omega)).trans (by rw [hE])
  have hb : s.data.toList.length = s.size := by simp
  have hEl : E.length = s.size + 1 := by rw [← hE, List.length_append, be_length, hb]; omega
  have hne : ((E.length : Int) != (s.size : Int) + 1) = false := by rw [bne_eq_false_iff_eq]; omega
  obtain ⟨m, hm, hm2⟩ : ∃ m : Nat, A % (E.length : Int) = (m : Int) ∧ m ≤ s.size := ⟨(A % (E.length : Int)).toNat, by have := Int.emod_nonneg A (show (E.length : Int) ≠ 0 by omega); omega, by have := Int.emod_lt_of_pos A (show 0 < (E.length : Int) by omega); omega⟩
  have hpos : 0 < (E.length : Int) := by omega
  have hmi : (m : Int) ≤ (E.length : Int) := by omega
  have htc := text_cut s.data.toList m (by omega) (by omega)
  have htw := text_whole s.data.toList (by omega)
  rw [hb, hE] at htc htw
  have Htc : Hid (RS.text ⟨E.take m, false⟩ = [] ∧ RS.atext ⟨E.take m, false⟩ = ⟨[], true⟩) := htc
  have Htw : Hid (RS.text ⟨E, false⟩ = s.data.toList ∧ RS.atext ⟨E, false⟩ = ⟨[], false⟩) := htw
  clear hE hEl htc htw
  go_enter Try.func3, Try.ntmps3
  go_wp2_with (first
    | (go_at_call 4; refine (shown_calls _).mono ?_; rintro e w0 ⟨rfl, b0⟩)
    | (go_at_call 5; refine (new_calls _ 300 (by omega) (by omega)).mono ?_; rintro e w1 ⟨rfl, h1, b1⟩)
    | (go_at_call 6; refine (text_calls _ w0.heap.size s _ none h1 (by omega)).mono ?_; rintro e w2 ⟨rfl, r2, h2, t2, n2⟩; rw [Htn.out] at h2)
    | (go_at_call 7; refine (done_ok _ w0.heap.size _ r2 h2 rfl).mono ?_; rintro e w3 ⟨a3, c3, rfl, o3, b3⟩; have hc3 := own_cap o3))
  have s0 := b0.size
  have s1 := b1.size
  have s2 := t2.size
  have s3 := b3.size
  have bel3 : Below w.heap.size w w3 := ((b0.trans (b1.mono s0)).trans (t2.below (by omega) s0 (fun k hk => by cases hk))).trans (b3.mono (by omega))
  have o3lt := o3.lt
  refine (read_calls _ _ (E.take m) _ (BytesIn.pre (own_bytes o3) (by omega)) (by rw [List.length_take]; omega)).mono ?_
  rintro e w4 ⟨q, rr, rfl, h4, b4, q4, k4⟩
  go_wp2_with fail
  have s4 := b4.size
  refine (read_calls _ _ E _ ((own_bytes o3).below b4 (fun k hk => (o3lt k hk).2)) (by have := h2.len; simp only at this; omega)).mono ?_
  rintro e w5 ⟨q', rr', rfl, h5, b5, q5, k5⟩
  have s5 := b5.size
  have h4q := h4.lt
  have h4' := h4.below b5 h4q (fun k hk => (k4 k hk).2)
  have bel5 := (bel3.trans (b4.mono (by omega))).trans (b5.mono (by omega))
  clear o3 h1 h2 h4 b0 b1 b3 t2 n2 bel3 o3lt
  go_wp2_with fail
  refine (text_reads _ q _ rr h4').mono ?_
  rintro e w6 ⟨rfl, h6, t6⟩
  rw [Htc.out.2] at h6
  simp only [Htc.out.1]
  have s6 := t6.size
  have h5' : RdS w6 q' ⟨E, false⟩ rr' := h5.kept (t6.block q' h5.lt (by omega) (by simp)) (fun k hk => t6.block k (by have := (k5 k hk).2; omega) (by have := (k5 k hk).1; omega) (by simp))
  go_wp2_with fail
  refine (text_reads _ q' _ rr' h5').mono ?_
  rintro e w7 ⟨rfl, h7, t7⟩
  rw [Htw.out.2] at h7
  simp only [Htw.out.1, str_data]
  have h6' : RdS w7 q ⟨[], true⟩ rr := h6.kept (t7.block q h6.lt (by omega) (by simp)) (fun k hk => t7.block k (by have := (k4 k hk).2; omega) (by have := (k4 k hk).2; omega) (by simp))
  have bel7 := (bel5.trans (t6.below (by omega) (by omega) (fun k hk => by cases hk))).trans (t7.below (by have := t6.size; omega) (by omega) (fun k hk => by cases hk))
  have hse : str [] = ⟨#[]⟩ := rfl
  rw [hse]
  clear hse
  go_wp2_with fail
  refine (wrong_reads _ q _ rr h6').mono ?_
  rintro e w8 ⟨rfl, rfl⟩
  go_wp2_with fail
  refine (wrong_reads _ q' _ rr' h7).mono ?_
  rintro e w9 ⟨rfl, rfl⟩
  go_wp2_with fail
  refine (left_reads _ q' _ rr' h7).mono ?_
  rintro e w10 ⟨rfl, rfl⟩
  go_wp2
  go_ret
  exact ⟨by simp, bel7⟩
set_option maxHeartbeats 1000000 in
set_option maxRecDepth 100000 in
theorem cuts_long (s : ByteArray) (at' : Int) (w : World) (hs : (s.size : Int) ≤ 9223372036854775807) (h255 : ¬ (s.size : Int) ≤ 255) :
    Calls Try.prog 3 #[.string s, .int .i64 at'] w fun e w' => e = .returned (.bool true) ∧ Below w.heap.size w w' := by
  obtain ⟨A, hA, hA0, hA1⟩ : ∃ A : Int, bits .and .i64 at' 1023 = A ∧ 0 ≤ A ∧ A ≤ 1023 := ⟨_, and1023 at', by omega, by omega⟩
  have hsz : (s.extract 0 255).size = 255 := cut_size s 255 (by omega)
  obtain ⟨E, hE⟩ : ∃ E, be (s.extract 0 255).size 1 ++ (s.extract 0 255).data.toList = E := ⟨_, rfl⟩
  have Htn : Hid (WS.text ⟨300, [], false⟩ (s.extract 0 255) = ⟨300, E, false⟩) := (text_new (s.extract 0 255) (by omega)).trans (by rw [hE])
  have hb : (s.extract 0 255).data.toList.length = (s.extract 0 255).size := by simp
  have hEl : E.length = (s.extract 0 255).size + 1 := by rw [← hE, List.length_append, be_length, hb]; omega
  have hne : ((E.length : Int) != ((s.extract 0 255).size : Int) + 1) = false := by rw [bne_eq_false_iff_eq]; omega
  obtain ⟨m, hm, hm2⟩ : ∃ m : Nat, A % (E.length : Int) = (m : Int) ∧ m ≤ (s.extract 0 255).size := ⟨(A % (E.length : Int)).toNat, by have := Int.emod_nonneg A (show (E.length : Int) ≠ 0 by omega); omega, by have := Int.emod_lt_of_pos A (show 0 < (E.length : Int) by omega); omega⟩
  have hpos : 0 < (E.length : Int) := by omega
  have hmi : (m : Int) ≤ (E.length : Int) := by omega
  have htc := text_cut (s.extract 0 255).data.toList m (by omega) (by omega)
  have htw := text_whole (s.extract 0 255).data.toList (by omega)
  rw [hb, hE] at htc htw
  have Htc : Hid (RS.text ⟨E.take m, false⟩ = [] ∧ RS.atext ⟨E.take m, false⟩ = ⟨[], true⟩) := htc
  have Htw : Hid (RS.text ⟨E, false⟩ = (s.extract 0 255).data.toList ∧ RS.atext ⟨E, false⟩ = ⟨[], false⟩) := htw
  clear hE hEl htc htw
  go_enter Try.func3, Try.ntmps3
  go_wp2_with (first
    | (go_at_call 4; refine (shown_calls _).mono ?_; rintro e w0 ⟨rfl, b0⟩)
    | (go_at_call 5; refine (new_calls _ 300 (by omega) (by omega)).mono ?_; rintro e w1 ⟨rfl, h1, b1⟩)
    | (go_at_call 6; refine (text_calls _ w0.heap.size (s.extract 0 255) _ none h1 (by omega)).mono ?_; rintro e w2 ⟨rfl, r2, h2, t2, n2⟩; rw [Htn.out] at h2)
    | (go_at_call 7; refine (done_ok _ w0.heap.size _ r2 h2 rfl).mono ?_; rintro e w3 ⟨a3, c3, rfl, o3, b3⟩; have hc3 := own_cap o3))
  have s0 := b0.size
  have s1 := b1.size
  have s2 := t2.size
  have s3 := b3.size
  have bel3 : Below w.heap.size w w3 := ((b0.trans (b1.mono s0)).trans (t2.below (by omega) s0 (fun k hk => by cases hk))).trans (b3.mono (by omega))
  have o3lt := o3.lt
  refine (read_calls _ _ (E.take m) _ (BytesIn.pre (own_bytes o3) (by omega)) (by rw [List.length_take]; omega)).mono ?_
  rintro e w4 ⟨q, rr, rfl, h4, b4, q4, k4⟩
  go_wp2_with fail
  have s4 := b4.size
  refine (read_calls _ _ E _ ((own_bytes o3).below b4 (fun k hk => (o3lt k hk).2)) (by have := h2.len; simp only at this; omega)).mono ?_
  rintro e w5 ⟨q', rr', rfl, h5, b5, q5, k5⟩
  have s5 := b5.size
  have h4q := h4.lt
  have h4' := h4.below b5 h4q (fun k hk => (k4 k hk).2)
  have bel5 := (bel3.trans (b4.mono (by omega))).trans (b5.mono (by omega))
  clear o3 h1 h2 h4 b0 b1 b3 t2 n2 bel3 o3lt
  go_wp2_with fail
  refine (text_reads _ q _ rr h4').mono ?_
  rintro e w6 ⟨rfl, h6, t6⟩
  rw [Htc.out.2] at h6
  simp only [Htc.out.1]
  have s6 := t6.size
  have h5' : RdS w6 q' ⟨E, false⟩ rr' := h5.kept (t6.block q' h5.lt (by omega) (by simp)) (fun k hk => t6.block k (by have := (k5 k hk).2; omega) (by have := (k5 k hk).1; omega) (by simp))
  go_wp2_with fail
  refine (text_reads _ q' _ rr' h5').mono ?_
  rintro e w7 ⟨rfl, h7, t7⟩
  rw [Htw.out.2] at h7
  simp only [Htw.out.1, str_data]
  have h6' : RdS w7 q ⟨[], true⟩ rr := h6.kept (t7.block q h6.lt (by omega) (by simp)) (fun k hk => t7.block k (by have := (k4 k hk).2; omega) (by have := (k4 k hk).2; omega) (by simp))
  have bel7 := (bel5.trans (t6.below (by omega) (by omega) (fun k hk => by cases hk))).trans (t7.below (by have := t6.size; omega) (by omega) (fun k hk => by cases hk))
  have hse : str [] = ⟨#[]⟩ := rfl
  rw [hse]
  clear hse
  go_wp2_with fail
  refine (wrong_reads _ q _ rr h6').mono ?_
  rintro e w8 ⟨rfl, rfl⟩
  go_wp2_with fail
  refine (wrong_reads _ q' _ rr' h7).mono ?_
  rintro e w9 ⟨rfl, rfl⟩
  go_wp2_with fail
  refine (left_reads _ q' _ rr' h7).mono ?_
  rintro e w10 ⟨rfl, rfl⟩
  go_wp2
  go_ret
  exact ⟨by simp, bel7⟩
theorem cuts_walk (s : ByteArray) (at' : Int) (w : World) (hs : s.size ≤ maxLen) :
    Calls Try.prog 3 #[.string s, .int .i64 at'] w fun e w' => e = .returned (.bool true) ∧ Below w.heap.size w w' := by
  unfold maxLen at hs
  by_cases h : (s.size : Int) ≤ 255
  · exact cuts_short s at' w (by omega) h
  · exact cuts_long s at' w (by omega) h
end Go.Proofs.Ytjcipamnidomkab
