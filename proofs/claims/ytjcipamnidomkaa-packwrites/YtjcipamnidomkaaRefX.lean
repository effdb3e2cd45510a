/- The document's own writer, call by call, in the words of WS. -/
import Derived.Test.YtjcipamnidomkaaRefW
import Derived.Test.YtjcipamnidomkaaArgs
import Derived.Deep.QuietTactic
import Derived.BigQuiet
import Derived.Deep.RegionLaw
import Derived.Deep.OwnRows
namespace Go.Proofs.Ytjcipamnidomkaa
set_option linter.unusedVariables false
open Go.RowKit

/-- The document's writer in block q, in the state S. -/
def KR (w : World) (q : Nat) (S : WS) : Prop :=
  ∃ s : ByteArray, w.heap[q]? = some (.cells #[.string s, .int .i64 S.m, .bool S.bad] 59 (0, 0)) ∧ (S.bad = false → s = str S.l ∧ (S.l.length : Int) ≤ S.m) ∧ 0 ≤ S.m ∧ S.m ≤ 2147483647
def KG (q : Nat) (w : World) (S : WS) (w' : World) : Prop := KR w' q S ∧ Touch q none w w'
theorem KR.kept {w w' : World} {q : Nat} {S : WS} (h : KR w q S) (hq : w'.heap[q]? = w.heap[q]?) : KR w' q S := by
  obtain ⟨s, h1, h2⟩ := h
  exact ⟨s, hq.trans h1, h2⟩
theorem KR.lt {w : World} {q : Nat} {S : WS} (h : KR w q S) : q < w.heap.size := by
  obtain ⟨s, h1, _⟩ := h
  exact lt_of_block h1
theorem KG.drewN {w w' : World} {q : Nat} {S : WS} {k : Nat} (h : KG q (w.drewN k) S w') : KG q w S w' := ⟨h.1, ⟨h.2.os, h.2.tape, h.2.output, h.2.size, h.2.block⟩⟩
theorem KG.trans {w w1 w2 : World} {q : Nat} {S1 S2 : WS} (h : Touch q none w w1) (k : KG q w1 S2 w2) : KG q w S2 w2 := ⟨k.1, h.trans k.2 (Near.none _ _)⟩
/-- It goes wrong. -/
theorem KR.failed {w : World} {q : Nat} {S S' : WS} (h : KR w q S) (hm : S'.m = S.m) (hb : S'.bad = true) : KG q w S' (w.setCell ⟨q, 2, none⟩ (.bool true)) := by
  obtain ⟨s, h1, h2, h3⟩ := h
  refine ⟨⟨s, ?_, (fun e => by rw [hb] at e; cases e), by rw [hm]; exact h3⟩, (Touch.refl _ _ _).setCell _ _⟩
  rw [hm, hb]
  exact (set3 h1).2.2

set_option maxHeartbeats 400000 in
theorem knew_calls (w : World) (n : Int) (h0 : 0 ≤ n) (h1 : n ≤ 2147483647) :
    Calls Try.prog 11 #[.int .i64 n] w fun e w' => e = .returned (.pointer (some ⟨w.heap.size, 0, none⟩)) ∧ KR w' w.heap.size ⟨n, [], false⟩ ∧ Below w.heap.size w w' := by
  go_enter Try.func11, Try.ntmps11
  go_wp2
  go_ret
  exact ⟨rfl, ⟨⟨#[]⟩, heap_alloc_new _ _, fun _ => ⟨rfl, by simpa using h0⟩, h0, h1⟩, (Below.refl _ _).alloc (Nat.le_refl _) _⟩

set_option maxHeartbeats 400000 in
theorem kput_bad (w : World) (q : Nat) (s x : ByteArray) (m : Int) (may : Bool) (h : w.heap[q]? = some (.cells #[.string s, .int .i64 m, .bool true] 59 (0, 0))) :
    Calls Try.prog 44 #[.pointer (some ⟨q, 0, none⟩), .string x, .bool may] w fun e w' => e = .returned (.tuple #[]) ∧ ∃ k, w' = (w.drewN k).setCell ⟨q, 2, none⟩ (.bool true) := by
  obtain ⟨c0, c1, c2⟩ := cells3 h
  obtain ⟨f0, f1, f2⟩ := free3 h
  clear h
  go_enter Try.func44, Try.ntmps44
  go_wp2
  go_quiet (fail)
  go_wp2
  ((try simp only [Exit.inBlock, Exit.then]); refine bodyPost_ret (results_none rfl _ _ _) rfl ?_)
  exact ⟨rfl, _, rfl⟩
set_option maxHeartbeats 400000 in
theorem kput_not (w : World) (q : Nat) (s x : ByteArray) (m : Int) (h : w.heap[q]? = some (.cells #[.string s, .int .i64 m, .bool false] 59 (0, 0))) :
    Calls Try.prog 44 #[.pointer (some ⟨q, 0, none⟩), .string x, .bool false] w fun e w' => e = .returned (.tuple #[]) ∧ ∃ k, w' = (w.drewN k).setCell ⟨q, 2, none⟩ (.bool true) := by
  obtain ⟨c0, c1, c2⟩ := cells3 h
  obtain ⟨f0, f1, f2⟩ := free3 h
  clear h
  go_enter Try.func44, Try.ntmps44
  go_wp2
  go_quiet (fail)
  go_wp2
  ((try simp only [Exit.inBlock, Exit.then]); refine bodyPost_ret (results_none rfl _ _ _) rfl ?_)
  exact ⟨rfl, _, rfl⟩
set_option maxHeartbeats 400000 in
theorem kput_full (w : World) (q : Nat) (s x : ByteArray) (m : Int) (h : w.heap[q]? = some (.cells #[.string s, .int .i64 m, .bool false] 59 (0, 0)))
    (hm0 : 0 ≤ m) (hm1 : m ≤ 2147483647) (hs : (s.size : Int) ≤ m) (hx : m - s.size < x.size) :
    Calls Try.prog 44 #[.pointer (some ⟨q, 0, none⟩), .string x, .bool true] w fun e w' => e = .returned (.tuple #[]) ∧ ∃ k, w' = (w.drewN k).setCell ⟨q, 2, none⟩ (.bool true) := by
  obtain ⟨c0, c1, c2⟩ := cells3 h
  obtain ⟨f0, f1, f2⟩ := free3 h
  clear h
  go_enter Try.func44, Try.ntmps44
  go_wp2
  go_quiet (fail)
  go_wp2
  ((try simp only [Exit.inBlock, Exit.then]); refine bodyPost_ret (results_none rfl _ _ _) rfl ?_)
  exact ⟨rfl, _, rfl⟩
set_option maxHeartbeats 400000 in
theorem kput_ok (w : World) (q : Nat) (s x : ByteArray) (m : Int) (h : w.heap[q]? = some (.cells #[.string s, .int .i64 m, .bool false] 59 (0, 0)))
    (hm0 : 0 ≤ m) (hm1 : m ≤ 2147483647) (hs : (s.size : Int) ≤ m) (hx : (x.size : Int) ≤ m - s.size) :
    Calls Try.prog 44 #[.pointer (some ⟨q, 0, none⟩), .string x, .bool true] w fun e w' => e = .returned (.tuple #[]) ∧ ∃ k, w' = (w.drewN k).setCell ⟨q, 0, none⟩ (.string (s ++ x)) := by
  obtain ⟨c0, c1, c2⟩ := cells3 h
  obtain ⟨f0, f1, f2⟩ := free3 h
  clear h
  have hsum : (s.size : Int) + (x.size : Int) ≤ 9223372036854775807 := by omega
  go_enter Try.func44, Try.ntmps44
  go_wp2
  go_quiet (fail)
  go_wp2
  go_end0
  exact ⟨rfl, _, rfl⟩

theorem str_append (l : List UInt8) (x : ByteArray) : str l ++ x = str (l ++ x.data.toList) := by
  apply Go.WideShapes.bytes_inj
  rw [str_list]
  simp [str]
/-- put: bytes, if they may be, and have room. -/
theorem kput_calls (w : World) (q : Nat) (x : ByteArray) (may : Bool) (S : WS) (h : KR w q S) :
    Calls Try.prog 44 #[.pointer (some ⟨q, 0, none⟩), .string x, .bool may] w fun e w' => e = .returned (.tuple #[]) ∧ KG q w (if may = true then S.put x.data.toList else S.fail) w' := by
  obtain ⟨m, l, bad⟩ := S
  have h' := h
  obtain ⟨s, h1, h2, h3, h4⟩ := h
  have hb : x.data.toList.length = x.size := by simp
  cases bad with
  | true =>
    refine (kput_bad w q s x m may h1).mono ?_
    rintro e w' ⟨rfl, k, rfl⟩
    refine ⟨rfl, KG.drewN (k := k) (KR.failed (S := ⟨m, l, true⟩) h' ?_ ?_)⟩
    · cases may
      · rfl
      · rw [if_pos rfl, put_bad _ rfl]
    · cases may
      · rfl
      · rw [if_pos rfl, put_bad _ rfl]
  | false =>
    obtain ⟨hs, hl⟩ := h2 rfl
    simp only at hs hl h1 h3 h4
    have hss : s.size = l.length := by rw [hs, str_size]
    cases may with
    | false =>
      refine (kput_not w q s x m h1).mono ?_
      rintro e w' ⟨rfl, k, rfl⟩
      exact ⟨rfl, KG.drewN (k := k) (KR.failed (S := ⟨m, l, false⟩) h' rfl rfl)⟩
    | true =>
      rw [if_pos rfl]
      by_cases hf : (l.length : Int) + x.size ≤ m
      · refine (kput_ok w q s x m h1 h3 h4 (by omega) (by omega)).mono ?_
        rintro e w' ⟨rfl, k, rfl⟩
        have e : WS.put ⟨m, l, false⟩ x.data.toList = ⟨m, l ++ x.data.toList, false⟩ := by
          unfold WS.put
          rw [if_neg (by simp), if_pos (by rw [hb]; exact hf)]
        rw [e]
        refine ⟨rfl, KG.drewN (k := k) ⟨⟨_, (set3 h1).1, fun _ => ⟨by rw [hs, str_append], by simp; omega⟩, h3, h4⟩, (Touch.refl _ _ _).setCell _ _⟩⟩
      · refine (kput_full w q s x m h1 h3 h4 (by omega) (by omega)).mono ?_
        rintro e w' ⟨rfl, k, rfl⟩
        have e : WS.put ⟨m, l, false⟩ x.data.toList = ⟨m, [], true⟩ := by
          unfold WS.put
          rw [if_neg (by simp), if_neg (by rw [hb]; exact hf)]
          rfl
        rw [e]
        exact ⟨rfl, KG.drewN (k := k) (KR.failed (S := ⟨m, l, false⟩) h' rfl rfl)⟩

theorem kput_yes (w : World) (q : Nat) (x : ByteArray) (S : WS) (h : KR w q S) :
    Calls Try.prog 44 #[.pointer (some ⟨q, 0, none⟩), .string x, .bool true] w fun e w' => e = .returned (.tuple #[]) ∧ KG q w (S.put x.data.toList) w' := kput_calls w q x true S h
theorem kput_no (w : World) (q : Nat) (x : ByteArray) (S : WS) (h : KR w q S) :
    Calls Try.prog 44 #[.pointer (some ⟨q, 0, none⟩), .string x, .bool false] w fun e w' => e = .returned (.tuple #[]) ∧ KG q w S.fail w' := kput_calls w q x false S h
theorem big_calls (w : World) (v : Int) (n : Nat) (hn : n ≤ 8) (h0 : 0 ≤ v) (hv : v ≤ 18446744073709551615) :
    Calls Try.prog 45 #[.int .u64 v, .int .i64 (n : Int)] w fun e w' => e = .returned (.string (str (be v.toNat n))) ∧ Below w.heap.size w w' := by
  obtain ⟨k, rfl⟩ := Int.eq_ofNat_of_zero_le h0
  rw [Int.toNat_natCast]
  exact big_calls' w k n hn (show k < 18446744073709551616 by omega)
theorem KR.below {w w' : World} {q : Nat} {S : WS} (h : KR w q S) (hb : Below w.heap.size w w') : KR w' q S := h.kept (hb.block q h.lt)
theorem touch_below {w w1 w2 : World} {q : Nat} (hb : Below w.heap.size w w1) (h : Touch q none w1 w2) (hq : q < w.heap.size) : Touch q none w w2 :=
  ⟨h.os.trans hb.os, h.tape.trans hb.tape, h.output.trans hb.output, Nat.le_trans hb.size h.size, fun k hk h1 h2 => (h.block k (by have := hb.size; omega) h1 h2).trans (hb.block k hk)⟩

set_option maxHeartbeats 400000 in
theorem kbyte_neg (w : World) (q : Nat) (v : Int) (S : WS) (h : KR w q S) (hv : v < 0) (hv1 : -9223372036854775808 ≤ v) :
    Calls Try.prog 13 #[.pointer (some ⟨q, 0, none⟩), .int .i64 v] w fun e w' => e = .returned (.tuple #[]) ∧ KG q w S.fail w' := by
  have hq := h.lt
  have hwr : IntKind.u64.wrap v = v + 18446744073709551616 := (by rw [IntKind.wrap_u64]; omega)
  have hn0 : decide (0 ≤ v) = false := by simp; omega
  go_enter Try.func13, Try.ntmps13
  go_wp2_with (first
    | (go_at_call 45; refine (big_calls _ (v + 18446744073709551616) 1 (by omega) (by omega) (by omega)).mono ?_; rintro e w1 ⟨rfl, b1⟩)
    | (go_at_call 44; refine (kput_no _ q _ S (h.below b1)).mono ?_; rintro e w2 ⟨rfl, hg⟩))
  go_end0
  exact ⟨rfl, hg.1, touch_below b1 hg.2 hq⟩
set_option maxHeartbeats 400000 in
theorem kbyte_big (w : World) (q : Nat) (v : Int) (S : WS) (h : KR w q S) (hv : 256 ≤ v) (hv1 : v ≤ 9223372036854775807) :
    Calls Try.prog 13 #[.pointer (some ⟨q, 0, none⟩), .int .i64 v] w fun e w' => e = .returned (.tuple #[]) ∧ KG q w S.fail w' := by
  have hq := h.lt
  have hn0 : 0 ≤ v := by omega
  have hn1 : decide (v ≤ 255) = false := by simp; omega
  go_enter Try.func13, Try.ntmps13
  go_wp2_with (first
    | (go_at_call 45; refine (big_calls _ v 1 (by omega) (by omega) (by omega)).mono ?_; rintro e w1 ⟨rfl, b1⟩)
    | (go_at_call 44; refine (kput_no _ q _ S (h.below b1)).mono ?_; rintro e w2 ⟨rfl, hg⟩))
  go_end0
  exact ⟨rfl, hg.1, touch_below b1 hg.2 hq⟩
set_option maxHeartbeats 400000 in
theorem kbyte_ok (w : World) (q : Nat) (v : Int) (S : WS) (h : KR w q S) (hv0 : 0 ≤ v) (hv1 : v ≤ 255) :
    Calls Try.prog 13 #[.pointer (some ⟨q, 0, none⟩), .int .i64 v] w fun e w' => e = .returned (.tuple #[]) ∧ KG q w (S.put (be v.toNat 1)) w' := by
  have hq := h.lt
  go_enter Try.func13, Try.ntmps13
  go_wp2_with (first
    | (go_at_call 45; refine (big_calls _ v 1 (by omega) (by omega) (by omega)).mono ?_; rintro e w1 ⟨rfl, b1⟩)
    | (go_at_call 44; refine (kput_yes _ q _ S (h.below b1)).mono ?_; rintro e w2 ⟨rfl, hg⟩))
  go_end0
  rw [str_list] at hg
  exact ⟨rfl, hg.1, touch_below b1 hg.2 hq⟩
theorem kbyte_calls (w : World) (q : Nat) (v : Int) (S : WS) (h : KR w q S) (h0 : -9223372036854775808 ≤ v) (h1 : v ≤ 9223372036854775807) :
    Calls Try.prog 13 #[.pointer (some ⟨q, 0, none⟩), .int .i64 v] w fun e w' => e = .returned (.tuple #[]) ∧ KG q w (S.byte v) w' := by
  unfold WS.byte
  by_cases hn : v < 0
  · rw [if_pos (.inl hn)]; exact kbyte_neg w q v S h hn h0
  · by_cases hb : 256 ≤ v
    · rw [if_pos (.inr hb)]; exact kbyte_big w q v S h hb h1
    · rw [if_neg (by omega)]; exact kbyte_ok w q v S h (by omega) (by omega)

set_option maxHeartbeats 400000 in
theorem kword_neg (w : World) (q : Nat) (v : Int) (S : WS) (h : KR w q S) (hv : v < 0) (hv1 : -9223372036854775808 ≤ v) :
    Calls Try.prog 15 #[.pointer (some ⟨q, 0, none⟩), .int .i64 v] w fun e w' => e = .returned (.tuple #[]) ∧ KG q w S.fail w' := by
  have hq := h.lt
  have hwr : IntKind.u64.wrap v = v + 18446744073709551616 := (by rw [IntKind.wrap_u64]; omega)
  have hn0 : decide (0 ≤ v) = false := by simp; omega
  go_enter Try.func15, Try.ntmps15
  go_wp2_with (first
    | (go_at_call 45; refine (big_calls _ (v + 18446744073709551616) 4 (by omega) (by omega) (by omega)).mono ?_; rintro e w1 ⟨rfl, b1⟩)
    | (go_at_call 44; refine (kput_no _ q _ S (h.below b1)).mono ?_; rintro e w2 ⟨rfl, hg⟩))
  go_end0
  exact ⟨rfl, hg.1, touch_below b1 hg.2 hq⟩
set_option maxHeartbeats 400000 in
theorem kword_big (w : World) (q : Nat) (v : Int) (S : WS) (h : KR w q S) (hv : 4294967296 ≤ v) (hv1 : v ≤ 9223372036854775807) :
    Calls Try.prog 15 #[.pointer (some ⟨q, 0, none⟩), .int .i64 v] w fun e w' => e = .returned (.tuple #[]) ∧ KG q w S.fail w' := by
  have hq := h.lt
  have hn0 : 0 ≤ v := by omega
  have hn1 : decide (v ≤ 4294967295) = false := by simp; omega
  go_enter Try.func15, Try.ntmps15
  go_wp2_with (first
    | (go_at_call 45; refine (big_calls _ v 4 (by omega) (by omega) (by omega)).mono ?_; rintro e w1 ⟨rfl, b1⟩)
    | (go_at_call 44; refine (kput_no _ q _ S (h.below b1)).mono ?_; rintro e w2 ⟨rfl, hg⟩))
  go_end0
  exact ⟨rfl, hg.1, touch_below b1 hg.2 hq⟩
set_option maxHeartbeats 400000 in
theorem kword_ok (w : World) (q : Nat) (v : Int) (S : WS) (h : KR w q S) (hv0 : 0 ≤ v) (hv1 : v ≤ 4294967295) :
    Calls Try.prog 15 #[.pointer (some ⟨q, 0, none⟩), .int .i64 v] w fun e w' => e = .returned (.tuple #[]) ∧ KG q w (S.put (be v.toNat 4)) w' := by
  have hq := h.lt
  go_enter Try.func15, Try.ntmps15
  go_wp2_with (first
    | (go_at_call 45; refine (big_calls _ v 4 (by omega) (by omega) (by omega)).mono ?_; rintro e w1 ⟨rfl, b1⟩)
    | (go_at_call 44; refine (kput_yes _ q _ S (h.below b1)).mono ?_; rintro e w2 ⟨rfl, hg⟩))
  go_end0
  rw [str_list] at hg
  exact ⟨rfl, hg.1, touch_below b1 hg.2 hq⟩
theorem kword_calls (w : World) (q : Nat) (v : Int) (S : WS) (h : KR w q S) (h0 : -9223372036854775808 ≤ v) (h1 : v ≤ 9223372036854775807) :
    Calls Try.prog 15 #[.pointer (some ⟨q, 0, none⟩), .int .i64 v] w fun e w' => e = .returned (.tuple #[]) ∧ KG q w (S.word v) w' := by
  unfold WS.word
  by_cases hn : v < 0
  · rw [if_pos (.inl hn)]; exact kword_neg w q v S h hn h0
  · by_cases hb : 4294967296 ≤ v
    · rw [if_pos (.inr hb)]; exact kword_big w q v S h hb h1
    · rw [if_neg (by omega)]; exact kword_ok w q v S h (by omega) (by omega)

set_option maxHeartbeats 400000 in
theorem klong_calls (w : World) (q : Nat) (v : Int) (S : WS) (h : KR w q S) (h0 : 0 ≤ v) (h1 : v ≤ 18446744073709551615) :
    Calls Try.prog 17 #[.pointer (some ⟨q, 0, none⟩), .int .u64 v] w fun e w' => e = .returned (.tuple #[]) ∧ KG q w (S.long v.toNat) w' := by
  have hq := h.lt
  go_enter Try.func17, Try.ntmps17
  go_wp2_with (first
    | (go_at_call 45; refine (big_calls _ v 8 (by omega) h0 h1).mono ?_; rintro e w1 ⟨rfl, b1⟩)
    | (go_at_call 44; refine (kput_yes _ q _ S (h.below b1)).mono ?_; rintro e w2 ⟨rfl, hg⟩))
  go_end0
  rw [str_list] at hg
  exact ⟨rfl, hg.1, touch_below b1 hg.2 hq⟩
set_option maxHeartbeats 400000 in
theorem kraw_calls (w : World) (q : Nat) (t : ByteArray) (S : WS) (h : KR w q S) :
    Calls Try.prog 21 #[.pointer (some ⟨q, 0, none⟩), .string t] w fun e w' => e = .returned (.tuple #[]) ∧ KG q w (S.put t.data.toList) w' := by
  go_enter Try.func21, Try.ntmps21
  go_wp2_with (go_at_call 44; refine (kput_yes _ q t S h).mono ?_; rintro e w2 ⟨rfl, hg⟩)
  go_end0
  exact ⟨rfl, hg⟩
theorem text_once (S : WS) (t : ByteArray) (h : t.size ≤ 255) : S.text t = S.put (be t.size 1 ++ t.data.toList) := by
  obtain ⟨m, l, bad⟩ := S
  cases bad with
  | true =>
    unfold WS.text WS.byte
    rw [if_neg (by omega), put_bad _ rfl, put_bad _ rfl, put_bad _ rfl]
  | false =>
    by_cases hf : (l.length : Int) + 1 + t.size ≤ m
    · rw [text_fits m l t hf h]
      unfold WS.put
      rw [if_neg (by simp), if_pos (by rw [List.length_append, be_length]; simp; omega), List.append_assoc]
    · have hb := text_over m l t (by omega) h
      have hl : (WS.text ⟨m, l, false⟩ t) = ⟨m, [], true⟩ := by
        unfold WS.text WS.byte
        rw [if_neg (by omega)]
        by_cases h1 : (l.length : Int) + 1 ≤ m
        · have e : WS.put ⟨m, l, false⟩ (be ((t.size : Int)).toNat 1) = ⟨m, l ++ be t.size 1, false⟩ := by
            unfold WS.put
            rw [if_neg (by simp), if_pos (by rw [be_length]; simp; omega), Int.toNat_natCast]
          rw [e]
          unfold WS.put
          rw [if_neg (by simp), if_neg (by rw [List.length_append, be_length]; simp; omega)]
          rfl
        · have e : WS.put ⟨m, l, false⟩ (be ((t.size : Int)).toNat 1) = ⟨m, [], true⟩ := by
            unfold WS.put
            rw [if_neg (by simp), if_neg (by rw [be_length]; simp; omega)]
            rfl
          rw [e, put_bad _ rfl]
      rw [hl]
      unfold WS.put
      rw [if_neg (by simp), if_neg (by rw [List.length_append, be_length]; simp; omega)]
      rfl
theorem text_long (S : WS) (t : ByteArray) (h : 255 < t.size) : S.text t = S.fail := by
  unfold WS.text WS.byte
  rw [if_pos (.inr (by omega)), put_bad _ rfl]
set_option maxHeartbeats 400000 in
theorem ktext_ok (w : World) (q : Nat) (t : ByteArray) (S : WS) (h : KR w q S) (ht : (t.size : Int) ≤ 255) :
    Calls Try.prog 19 #[.pointer (some ⟨q, 0, none⟩), .string t] w fun e w' => e = .returned (.tuple #[]) ∧ KG q w (S.text t) w' := by
  have hq := h.lt
  have hsz : (str (be t.size 1)).size = 1 := by rw [str_size, be_length]
  go_enter Try.func19, Try.ntmps19
  go_wp2_with (first
    | (go_at_call 45; refine (big_calls _ t.size 1 (by omega) (by omega) (by omega)).mono ?_; rintro e w1 ⟨rfl, b1⟩; rw [Int.toNat_natCast])
    | (go_at_call 44; refine (kput_yes _ q _ S (h.below b1)).mono ?_; rintro e w2 ⟨rfl, hg⟩))
  go_end0
  rw [str_append, str_list, ← text_once S t (by omega)] at hg
  exact ⟨rfl, hg.1, touch_below b1 hg.2 hq⟩
set_option maxHeartbeats 400000 in
theorem ktext_long (w : World) (q : Nat) (t : ByteArray) (S : WS) (h : KR w q S) (ht : ¬ (t.size : Int) ≤ 255) (ht1 : (t.size : Int) ≤ 140737488351232) :
    Calls Try.prog 19 #[.pointer (some ⟨q, 0, none⟩), .string t] w fun e w' => e = .returned (.tuple #[]) ∧ KG q w (S.text t) w' := by
  have hq := h.lt
  have hsz : (str (be t.size 1)).size = 1 := by rw [str_size, be_length]
  have hd : decide ((t.size : Int) ≤ 255) = false := by simp; omega
  go_enter Try.func19, Try.ntmps19
  go_wp2_with (first
    | (go_at_call 45; refine (big_calls _ t.size 1 (by omega) (by omega) (by omega)).mono ?_; rintro e w1 ⟨rfl, b1⟩; rw [Int.toNat_natCast])
    | (go_at_call 44; refine (kput_no _ q _ S (h.below b1)).mono ?_; rintro e w2 ⟨rfl, hg⟩))
  go_end0
  rw [text_long S t (by omega)]
  exact ⟨rfl, hg.1, touch_below b1 hg.2 hq⟩
theorem ktext_calls (w : World) (q : Nat) (t : ByteArray) (S : WS) (h : KR w q S) (ht1 : (t.size : Int) ≤ 140737488351232) :
    Calls Try.prog 19 #[.pointer (some ⟨q, 0, none⟩), .string t] w fun e w' => e = .returned (.tuple #[]) ∧ KG q w (S.text t) w' := by
  by_cases ht : (t.size : Int) ≤ 255
  · exact ktext_ok w q t S h ht
  · exact ktext_long w q t S h ht ht1

set_option maxHeartbeats 400000 in
theorem kdone_bad (w : World) (q : Nat) (S : WS) (h : KR w q S) (hb : S.bad = true) :
    Calls Try.prog 25 #[.pointer (some ⟨q, 0, none⟩)] w fun e w' => e = .returned (.tuple #[.string ⟨#[]⟩, .bool false]) ∧ w' = w := by
  obtain ⟨s, h1, _⟩ := h
  rw [hb] at h1
  obtain ⟨c0, c1, c2⟩ := cells3 h1
  clear h1 hb
  go_enter Try.func25, Try.ntmps25
  go_wp2
  go_ret2
  exact ⟨rfl, rfl⟩
set_option maxHeartbeats 400000 in
theorem kdone_ok (w : World) (q : Nat) (S : WS) (h : KR w q S) (hb : S.bad = false) :
    Calls Try.prog 25 #[.pointer (some ⟨q, 0, none⟩)] w fun e w' => e = .returned (.tuple #[.string (str S.l), .bool true]) ∧ w' = w := by
  obtain ⟨s, h1, h2, _⟩ := h
  obtain ⟨rfl, _⟩ := h2 hb
  rw [hb] at h1
  obtain ⟨c0, c1, c2⟩ := cells3 h1
  clear h1 hb h2
  go_enter Try.func25, Try.ntmps25
  go_wp2
  go_ret2
  exact ⟨rfl, rfl⟩

set_option maxHeartbeats 400000 in
theorem kfill_bad (w : World) (q : Nat) (n : Int) (s : ByteArray) (m : Int) (h : w.heap[q]? = some (.cells #[.string s, .int .i64 m, .bool true] 59 (0, 0))) :
    Calls Try.prog 23 #[.pointer (some ⟨q, 0, none⟩), .int .i64 n] w fun e w' => e = .returned (.tuple #[]) ∧ w' = w.setCell ⟨q, 2, none⟩ (.bool true) := by
  obtain ⟨c0, c1, c2⟩ := cells3 h
  obtain ⟨f0, f1, f2⟩ := free3 h
  clear h
  go_enter Try.func23, Try.ntmps23
  go_wp2
  ((try simp only [Exit.inBlock, Exit.then]); refine bodyPost_ret (results_none rfl _ _ _) rfl ?_)
  exact ⟨rfl, rfl⟩
set_option maxHeartbeats 400000 in
theorem kfill_neg (w : World) (q : Nat) (n : Int) (s : ByteArray) (m : Int) (h : w.heap[q]? = some (.cells #[.string s, .int .i64 m, .bool false] 59 (0, 0))) (hn : n < (s.size : Int)) :
    Calls Try.prog 23 #[.pointer (some ⟨q, 0, none⟩), .int .i64 n] w fun e w' => e = .returned (.tuple #[]) ∧ w' = w.setCell ⟨q, 2, none⟩ (.bool true) := by
  obtain ⟨c0, c1, c2⟩ := cells3 h
  obtain ⟨f0, f1, f2⟩ := free3 h
  clear h
  go_enter Try.func23, Try.ntmps23
  go_wp2
  ((try simp only [Exit.inBlock, Exit.then]); refine bodyPost_ret (results_none rfl _ _ _) rfl ?_)
  exact ⟨rfl, rfl⟩
set_option maxHeartbeats 400000 in
theorem kfill_full (w : World) (q : Nat) (n : Int) (s : ByteArray) (m : Int) (h : w.heap[q]? = some (.cells #[.string s, .int .i64 m, .bool false] 59 (0, 0))) (hn : ¬ n < (s.size : Int)) (hm : m < n) :
    Calls Try.prog 23 #[.pointer (some ⟨q, 0, none⟩), .int .i64 n] w fun e w' => e = .returned (.tuple #[]) ∧ w' = w.setCell ⟨q, 2, none⟩ (.bool true) := by
  obtain ⟨c0, c1, c2⟩ := cells3 h
  obtain ⟨f0, f1, f2⟩ := free3 h
  clear h
  go_enter Try.func23, Try.ntmps23
  go_wp2
  ((try simp only [Exit.inBlock, Exit.then]); refine bodyPost_ret (results_none rfl _ _ _) rfl ?_)
  exact ⟨rfl, rfl⟩
set_option maxHeartbeats 400000 in
theorem kfill_ok (w : World) (q d : Nat) (n : Int) (s : ByteArray) (m : Int) (h : w.heap[q]? = some (.cells #[.string s, .int .i64 m, .bool false] 59 (0, 0))) (hm1 : m ≤ 2147483647) (hm : n ≤ m) (hd : n - (s.size : Int) = (d : Int)) :
    Calls Try.prog 23 #[.pointer (some ⟨q, 0, none⟩), .int .i64 n] w fun e w' => e = .returned (.tuple #[]) ∧ Touch q none w w' ∧ w'.heap[q]? = some (.cells #[.string (s ++ str (List.replicate d 0)), .int .i64 m, .bool false] 59 (0, 0)) := by
  have hq := lt_of_block h
  obtain ⟨c0, c1, c2⟩ := cells3 h
  obtain ⟨f0, f1, f2⟩ := free3 h
  have hn : ¬ n < (s.size : Int) := by omega
  have hnm : ¬ m < n := by omega
  have hmk := run_make_row' (P := Try.prog) 34 5 (.int .u8 0) 1 Try.underlying34 Try.info_u8 rfl .i64 .i64 d (by omega) (by omega)
  have hcv : (convert 34 9 (.slice (some ⟨w.heap.size, 0, none⟩) d d)).run Try.prog ((w.alloc (.cells (madeCells #[.int .u8 0] d) 5)).drew) = .ok (.string (str (List.replicate d 0))) ((w.alloc (.cells (madeCells #[.int .u8 0] d) 5)).drew) := by
    refine conv_bytes (r := some w.heap.size) ⟨_, d, by simp, by simp, .inr ⟨w.heap.size, 0, rfl, rfl, by simp, fun j u hu => ?_⟩⟩
    have hj := bc_get hu
    rw [bc_at _ _ hj] at hu
    have hc := cell_of_row (w.alloc (.cells (madeCells #[.int .u8 0] d) 5)) w.heap.size (0 + j) (madeCells #[.int .u8 0] d) 5 (0, 0) (heap_alloc_new _ _)
    refine Eq.trans (show _ = _ from hc) ?_
    rw [← Array.getElem?_toList, toList_madeCells_one]
    simp at hj
    simpa [hj] using hu
  have hsz : (str (List.replicate d 0)).size = d := by rw [str_size]; simp
  have hsum : (s.size : Int) + (d : Int) ≤ 9223372036854775807 := by omega
  go_enter Try.func23, Try.ntmps23
  go_wp2
  go_region
  go_end0
  refine ⟨rfl, (((Touch.refl _ _ _).setCell _ _).alloc _).drew, ?_⟩
  refine (Below.heap_alloc _ _ q (by simpa [World.setCell] using hq)).trans ?_
  exact (set3 h).1
theorem kfill_calls (w : World) (q : Nat) (n : Int) (S : WS) (h : KR w q S) :
    Calls Try.prog 23 #[.pointer (some ⟨q, 0, none⟩), .int .i64 n] w fun e w' => e = .returned (.tuple #[]) ∧ KG q w (S.fill n) w' := by
  obtain ⟨m, l, bad⟩ := S
  have h' := h
  obtain ⟨s, h1, h2, h3, h4⟩ := h
  have fm : (WS.fill ⟨m, l, bad⟩ n).m = m := by
    unfold WS.fill WS.put WS.fail
    split
    · rfl
    · split
      · rfl
      · split <;> rfl
  cases bad with
  | true =>
    refine (kfill_bad w q n s m h1).mono ?_
    rintro e w' ⟨rfl, rfl⟩
    refine ⟨rfl, KR.failed (S := ⟨m, l, true⟩) h' fm ?_⟩
    unfold WS.fill
    split
    · rfl
    · rw [put_bad _ rfl]
  | false =>
    obtain ⟨hs, hl⟩ := h2 rfl
    simp only at hs hl h1 h3 h4
    have hss : s.size = l.length := by rw [hs, str_size]
    by_cases hn : n < (s.size : Int)
    · refine (kfill_neg w q n s m h1 hn).mono ?_
      rintro e w' ⟨rfl, rfl⟩
      refine ⟨rfl, KR.failed (S := ⟨m, l, false⟩) h' fm ?_⟩
      unfold WS.fill
      rw [if_pos (by simp only; omega)]
      rfl
    · by_cases hm : m < n
      · refine (kfill_full w q n s m h1 hn hm).mono ?_
        rintro e w' ⟨rfl, rfl⟩
        refine ⟨rfl, KR.failed (S := ⟨m, l, false⟩) h' fm ?_⟩
        unfold WS.fill WS.put
        rw [if_neg (by simp only; omega), if_neg (by simp), if_neg (by simp only [List.length_replicate]; omega)]
        rfl
      · refine (kfill_ok w q (n - s.size).toNat n s m h1 h4 (by omega) (by omega)).mono ?_
        rintro e w' ⟨rfl, ht, hq⟩
        have e : WS.fill ⟨m, l, false⟩ n = ⟨m, l ++ List.replicate (n - s.size).toNat 0, false⟩ := by
          unfold WS.fill WS.put
          rw [if_neg (by simp only; omega), if_neg (by simp), if_pos (by simp only [List.length_replicate]; omega), hss]
        rw [e]
        refine ⟨rfl, ⟨_, hq, fun _ => ⟨?_, ?_⟩, h3, h4⟩, ht⟩
        · rw [hs, str_append, str_list]
        · simp only [List.length_append, List.length_replicate]
          omega
end Go.Proofs.Ytjcipamnidomkaa
