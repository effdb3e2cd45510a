/- The document's own writer, call by call, in the words of WS. -/
import Derived.Test.YtgijkgcekfbgeaaDoorRefW
import Derived.Test.YtgijkgcekfbgeaaDoorArgs
import Derived.Deep.QuietTactic
import Derived.BigQuiet
import Derived.Deep.RegionLaw
import Derived.Deep.OwnRows
namespace Go.Proofs.YtgijkgcekfbgeaaDoor
set_option linter.unusedVariables false
open Go.RowKit

/-- The document's writer in block q, in the state S. -/
def KR (w : World) (q : Nat) (S : WS) : Prop :=
  ∃ s : ByteArray, w.heap[q]? = some (.cells #[.string s, .int .i64 S.m, .bool S.bad] 62 (0, 0)) ∧ (S.bad = false → s = str S.l ∧ (S.l.length : Int) ≤ S.m) ∧ 0 ≤ S.m ∧ S.m ≤ 2147483647
def KG (q : Nat) (w : World) (S : WS) (w' : World) : Prop := KR w' q S ∧ Touch q none w w'
theorem KR.kept {w w' : World} {q : Nat} {S : WS} (h : KR w q S) (hq : w'.heap[q]? = w.heap[q]?) : KR w' q S := by
  obtain ⟨s, h1, h2⟩ := h
  exact ⟨s, hq.trans h1, h2⟩
theorem KR.lt {w : World} {q : Nat} {S : WS} (h : KR w q S) : q < w.heap.size := by
  obtain ⟨s, h1, _⟩ := h
  exact lt_of_block h1
theorem KG.drewN {w w' : World} {q : Nat} {S : WS} {k : Nat} (h : KG q (w.drewN k) S w') : KG q w S w' := ⟨h.1, ⟨h.2.os, h.2.tape, h.2.output, h.2.size, h.2.block⟩⟩
theorem KG.trans {w w1 w2 : World} {q : Nat} {S1 S2 : WS} (h : Touch q none w w1) (k : KG q w1 S2 w2) : KG q w S2 w2 := ⟨k.1, h.trans k.2 (Near.none _ _)⟩
/-- It goes wrong. -/
theorem KR.failed {w : World} {q : Nat} {S S' : WS} (h : KR w q S) (hm : S'.m = S.m) (hb : S'.bad = true) : KG q w S' (w.setCell ⟨q, 2, none⟩ (.bool true)) := by
  obtain ⟨s, h1, h2, h3⟩ := h
  refine ⟨⟨s, ?_, (fun e => by rw [hb] at e; cases e), by rw [hm]; exact h3⟩, (Touch.refl _ _ _).setCell _ _⟩
  rw [hm, hb]
  exact (set3 h1).2.2

set_option maxHeartbeats 400000 in
theorem knew_calls (w : World) (n : Int) (h0 : 0 ≤ n) (h1 : n ≤ 2147483647) :
    Calls Tryd.prog 27 #[.int .i64 n] w fun e w' => e = .returned (.pointer (some ⟨w.heap.size, 0, none⟩)) ∧ KR w' w.heap.size ⟨n, [], false⟩ ∧ Below w.heap.size w w' := by
  go_enter Tryd.func27, Tryd.ntmps27
  go_wp2
  go_ret
  exact ⟨rfl, ⟨⟨#[]⟩, heap_alloc_new _ _, fun _ => ⟨rfl, by simpa using h0⟩, h0, h1⟩, (Below.refl _ _).alloc (Nat.le_refl _) _⟩

set_option maxHeartbeats 400000 in
theorem kput_bad (w : World) (q : Nat) (s x : ByteArray) (m : Int) (may : Bool) (h : w.heap[q]? = some (.cells #[.string s, .int .i64 m, .bool true] 62 (0, 0))) :
    Calls Tryd.prog 43 #[.pointer (some ⟨q, 0, none⟩), .string x, .bool may] w fun e w' => e = .returned (.tuple #[]) ∧ ∃ k, w' = (w.drewN k).setCell ⟨q, 2, none⟩ (.bool true) := by
  obtain ⟨c0, c1, c2⟩ := cells3 h
  obtain ⟨f0, f1, f2⟩ := free3 h
  clear h
  go_enter Tryd.func43, Tryd.ntmps43
  go_wp2
  go_quiet (fail)
  go_wp2
  ((try simp only [Exit.inBlock, Exit.then]); refine bodyPost_ret (results_none rfl _ _ _) rfl ?_)
  exact ⟨rfl, _, rfl⟩
set_option maxHeartbeats 400000 in
theorem kput_not (w : World) (q : Nat) (s x : ByteArray) (m : Int) (h : w.heap[q]? = some (.cells #[.string s, .int .i64 m, .bool false] 62 (0, 0))) :
    Calls Tryd.prog 43 #[.pointer (some ⟨q, 0, none⟩), .string x, .bool false] w fun e w' => e = .returned (.tuple #[]) ∧ ∃ k, w' = (w.drewN k).setCell ⟨q, 2, none⟩ (.bool true) := by
  obtain ⟨c0, c1, c2⟩ := cells3 h
  obtain ⟨f0, f1, f2⟩ := free3 h
  clear h
  go_enter Tryd.func43, Tryd.ntmps43
  go_wp2
  go_quiet (fail)
  go_wp2
  ((try simp only [Exit.inBlock, Exit.then]); refine bodyPost_ret (results_none rfl _ _ _) rfl ?_)
  exact ⟨rfl, _, rfl⟩
set_option maxHeartbeats 400000 in
theorem kput_full (w : World) (q : Nat) (s x : ByteArray) (m : Int) (h : w.heap[q]? = some (.cells #[.string s, .int .i64 m, .bool false] 62 (0, 0)))
    (hm0 : 0 ≤ m) (hm1 : m ≤ 2147483647) (hs : (s.size : Int) ≤ m) (hx : m - s.size < x.size) :
    Calls Tryd.prog 43 #[.pointer (some ⟨q, 0, none⟩), .string x, .bool true] w fun e w' => e = .returned (.tuple #[]) ∧ ∃ k, w' = (w.drewN k).setCell ⟨q, 2, none⟩ (.bool true) := by
  obtain ⟨c0, c1, c2⟩ := cells3 h
  obtain ⟨f0, f1, f2⟩ := free3 h
  clear h
  go_enter Tryd.func43, Tryd.ntmps43
  go_wp2
  go_quiet (fail)
  go_wp2
  ((try simp only [Exit.inBlock, Exit.then]); refine bodyPost_ret (results_none rfl _ _ _) rfl ?_)
  exact ⟨rfl, _, rfl⟩
set_option maxHeartbeats 400000 in
theorem kput_ok (w : World) (q : Nat) (s x : ByteArray) (m : Int) (h : w.heap[q]? = some (.cells #[.string s, .int .i64 m, .bool false] 62 (0, 0)))
    (hm0 : 0 ≤ m) (hm1 : m ≤ 2147483647) (hs : (s.size : Int) ≤ m) (hx : (x.size : Int) ≤ m - s.size) :
    Calls Tryd.prog 43 #[.pointer (some ⟨q, 0, none⟩), .string x, .bool true] w fun e w' => e = .returned (.tuple #[]) ∧ ∃ k, w' = (w.drewN k).setCell ⟨q, 0, none⟩ (.string (s ++ x)) := by
  obtain ⟨c0, c1, c2⟩ := cells3 h
  obtain ⟨f0, f1, f2⟩ := free3 h
  clear h
  have hsum : (s.size : Int) + (x.size : Int) ≤ 9223372036854775807 := by omega
  go_enter Tryd.func43, Tryd.ntmps43
  go_wp2
  go_quiet (fail)
  go_wp2
  go_end0
  exact ⟨rfl, _, rfl⟩

theorem str_append (l : List UInt8) (x : ByteArray) : str l ++ x = str (l ++ x.data.toList) := by
  apply Go.WideShapes.bytes_inj
  rw [str_list]
  simp [str]
/-- put: bytes, if they may be, and have room. -/
theorem kput_calls (w : World) (q : Nat) (x : ByteArray) (may : Bool) (S : WS) (h : KR w q S) :
    Calls Tryd.prog 43 #[.pointer (some ⟨q, 0, none⟩), .string x, .bool may] w fun e w' => e = .returned (.tuple #[]) ∧ KG q w (if may = true then S.put x.data.toList else S.fail) w' := by
  obtain ⟨m, l, bad⟩ := S
  have h' := h
  obtain ⟨s, h1, h2, h3, h4⟩ := h
  have hb : x.data.toList.length = x.size := by simp
  cases bad with
  | true =>
    refine (kput_bad w q s x m may h1).mono ?_
    rintro e w' ⟨rfl, k, rfl⟩
    refine ⟨rfl, KG.drewN (k := k) (KR.failed (S := ⟨m, l, true⟩) h' ?_ ?_)⟩
    · cases may
      · rfl
      · rw [if_pos rfl, put_bad _ rfl]
    · cases may
      · rfl
      · rw [if_pos rfl, put_bad _ rfl]
  | false =>
    obtain ⟨hs, hl⟩ := h2 rfl
    simp only at hs hl h1 h3 h4
    have hss : s.size = l.length := by rw [hs, str_size]
    cases may with
    | false =>
      refine (kput_not w q s x m h1).mono ?_
      rintro e w' ⟨rfl, k, rfl⟩
      exact ⟨rfl, KG.drewN (k := k) (KR.failed (S := ⟨m, l, false⟩) h' rfl rfl)⟩
    | true =>
      rw [if_pos rfl]
      by_cases hf : (l.length : Int) + x.size ≤ m
      · refine (kput_ok w q s x m h1 h3 h4 (by omega) (by omega)).mono ?_
        rintro e w' ⟨rfl, k, rfl⟩
        have e : WS.put ⟨m, l, false⟩ x.data.toList = ⟨m, l ++ x.data.toList, false⟩ := by
          unfold WS.put
          rw [if_neg (by simp), if_pos (by rw [hb]; exact hf)]
        rw [e]
        refine ⟨rfl, KG.drewN (k := k) ⟨⟨_, (set3 h1).1, fun _ => ⟨by rw [hs, str_append], by simp; omega⟩, h3, h4⟩, (Touch.refl _ _ _).setCell _ _⟩⟩
      · refine (kput_full w q s x m h1 h3 h4 (by omega) (by omega)).mono ?_
        rintro e w' ⟨rfl, k, rfl⟩
        have e : WS.put ⟨m, l, false⟩ x.data.toList = ⟨m, [], true⟩ := by
          unfold WS.put
          rw [if_neg (by simp), if_neg (by rw [hb]; exact hf)]
          rfl
        rw [e]
        exact ⟨rfl, KG.drewN (k := k) (KR.failed (S := ⟨m, l, false⟩) h' rfl rfl)⟩

theorem kput_yes (w : World) (q : Nat) (x : ByteArray) (S : WS) (h : KR w q S) :
    Calls Tryd.prog 43 #[.pointer (some ⟨q, 0, none⟩), .string x, .bool true] w fun e w' => e = .returned (.tuple #[]) ∧ KG q w (S.put x.data.toList) w' := kput_calls w q x true S h
theorem kput_no (w : World) (q : Nat) (x : ByteArray) (S : WS) (h : KR w q S) :
    Calls Tryd.prog 43 #[.pointer (some ⟨q, 0, none⟩), .string x, .bool false] w fun e w' => e = .returned (.tuple #[]) ∧ KG q w S.fail w' := kput_calls w q x false S h
theorem big_calls (w : World) (v : Int) (n : Nat) (hn : n ≤ 8) (h0 : 0 ≤ v) (hv : v ≤ 18446744073709551615) :
    Calls Tryd.prog 44 #[.int .u64 v, .int .i64 (n : Int)] w fun e w' => e = .returned (.string (str (be v.toNat n))) ∧ Below w.heap.size w w' := by
  obtain ⟨k, rfl⟩ := Int.eq_ofNat_of_zero_le h0
  rw [Int.toNat_natCast]
  exact big_calls' w k n hn (show k < 18446744073709551616 by omega)
theorem KR.below {w w' : World} {q : Nat} {S : WS} (h : KR w q S) (hb : Below w.heap.size w w') : KR w' q S := h.kept (hb.block q h.lt)
theorem touch_below {w w1 w2 : World} {q : Nat} (hb : Below w.heap.size w w1) (h : Touch q none w1 w2) (hq : q < w.heap.size) : Touch q none w w2 :=
  ⟨h.os.trans hb.os, h.tape.trans hb.tape, h.output.trans hb.output, Nat.le_trans hb.size h.size, fun k hk h1 h2 => (h.block k (by have := hb.size; omega) h1 h2).trans (hb.block k hk)⟩

set_option maxHeartbeats 400000 in
theorem kbyte_neg (w : World) (q : Nat) (v : Int) (S : WS) (h : KR w q S) (hv : v < 0) (hv1 : -9223372036854775808 ≤ v) :
    Calls Tryd.prog 28 #[.pointer (some ⟨q, 0, none⟩), .int .i64 v] w fun e w' => e = .returned (.tuple #[]) ∧ KG q w S.fail w' := by
  have hq := h.lt
  have hwr : IntKind.u64.wrap v = v + 18446744073709551616 := (by rw [IntKind.wrap_u64]; omega)
  have hn0 : decide (0 ≤ v) = false := by simp; omega
  go_enter Tryd.func28, Tryd.ntmps28
  go_wp2_with (first
    | (go_at_call 44; refine (big_calls _ (v + 18446744073709551616) 1 (by omega) (by omega) (by omega)).mono ?_; rintro e w1 ⟨rfl, b1⟩)
    | (go_at_call 43; refine (kput_no _ q _ S (h.below b1)).mono ?_; rintro e w2 ⟨rfl, hg⟩))
  go_end0
  exact ⟨rfl, hg.1, touch_below b1 hg.2 hq⟩
set_option maxHeartbeats 400000 in
theorem kbyte_big (w : World) (q : Nat) (v : Int) (S : WS) (h : KR w q S) (hv : 256 ≤ v) (hv1 : v ≤ 9223372036854775807) :
    Calls Tryd.prog 28 #[.pointer (some ⟨q, 0, none⟩), .int .i64 v] w fun e w' => e = .returned (.tuple #[]) ∧ KG q w S.fail w' := by
  have hq := h.lt
  have hn0 : 0 ≤ v := by omega
  have hn1 : decide (v ≤ 255) = false := by simp; omega
  go_enter Tryd.func28, Tryd.ntmps28
  go_wp2_with (first
    | (go_at_call 44; refine (big_calls _ v 1 (by omega) (by omega) (by omega)).mono ?_; rintro e w1 ⟨rfl, b1⟩)
    | (go_at_call 43; refine (kput_no _ q _ S (h.below b1)).mono ?_; rintro e w2 ⟨rfl, hg⟩))
  go_end0
  exact ⟨rfl, hg.1, touch_below b1 hg.2 hq⟩
set_option maxHeartbeats 400000 in
theorem kbyte_ok (w : World) (q : Nat) (v : Int) (S : WS) (h : KR w q S) (hv0 : 0 ≤ v) (hv1 : v ≤ 255) :
    Calls Tryd.prog 28 #[.pointer (some ⟨q, 0, none⟩), .int .i64 v] w fun e w' => e = .returned (.tuple #[]) ∧ KG q w (S.put (be v.toNat 1)) w' := by
  have hq := h.lt
  go_enter Tryd.func28, Tryd.ntmps28
  go_wp2_with (first
    | (go_at_call 44; refine (big_calls _ v 1 (by omega) (by omega) (by omega)).mono ?_; rintro e w1 ⟨rfl, b1⟩)
    | (go_at_call 43; refine (kput_yes _ q _ S (h.below b1)).mono ?_; rintro e w2 ⟨rfl, hg⟩))
  go_end0
  rw [str_list] at hg
  exact ⟨rfl, hg.1, touch_below b1 hg.2 hq⟩
theorem kbyte_calls (w : World) (q : Nat) (v : Int) (S : WS) (h : KR w q S) (h0 : -9223372036854775808 ≤ v) (h1 : v ≤ 9223372036854775807) :
    Calls Tryd.prog 28 #[.pointer (some ⟨q, 0, none⟩), .int .i64 v] w fun e w' => e = .returned (.tuple #[]) ∧ KG q w (S.byte v) w' := by
  unfold WS.byte
  by_cases hn : v < 0
  · rw [if_pos (.inl hn)]; exact kbyte_neg w q v S h hn h0
  · by_cases hb : 256 ≤ v
    · rw [if_pos (.inr hb)]; exact kbyte_big w q v S h hb h1
    · rw [if_neg (by omega)]; exact kbyte_ok w q v S h (by omega) (by omega)

set_option maxHeartbeats 400000 in
theorem kword_neg (w : World) (q : Nat) (v : Int) (S : WS) (h : KR w q S) (hv : v < 0) (hv1 : -9223372036854775808 ≤ v) :
    Calls Tryd.prog 30 #[.pointer (some ⟨q, 0, none⟩), .int .i64 v] w fun e w' => e = .returned (.tuple #[]) ∧ KG q w S.fail w' := by
  have hq := h.lt
  have hwr : IntKind.u64.wrap v = v + 18446744073709551616 := (by rw [IntKind.wrap_u64]; omega)
  have hn0 : decide (0 ≤ v) = false := by simp; omega
  go_enter Tryd.func30, Tryd.ntmps30
  go_wp2_with (first
    | (go_at_call 44; refine (big_calls _ (v + 18446744073709551616) 4 (by omega) (by omega) (by omega)).mono ?_; rintro e w1 ⟨rfl, b1⟩)
    | (go_at_call 43; refine (kput_no _ q _ S (h.below b1)).mono ?_; rintro e w2 ⟨rfl, hg⟩))
  go_end0
  exact ⟨rfl, hg.1, touch_below b1 hg.2 hq⟩
set_option maxHeartbeats 400000 in
theorem kword_big (w : World) (q : Nat) (v : Int) (S : WS) (h : KR w q S) (hv : 4294967296 ≤ v) (hv1 : v ≤ 9223372036854775807) :
    Calls Tryd.prog 30 #[.pointer (some ⟨q, 0, none⟩), .int .i64 v] w fun e w' => e = .returned (.tuple #[]) ∧ KG q w S.fail w' := by
  have hq := h.lt
  have hn0 : 0 ≤ v := by omega
  have hn1 : decide (v ≤ 4294967295) = false := by simp; omega
  go_enter Tryd.func30, Tryd.ntmps30
  go_wp2_with (first
    | (go_at_call 44; refine (big_calls _ v 4 (by omega) (by omega) (by omega)).mono ?_; rintro e w1 ⟨rfl, b1⟩)
    | (go_at_call 43; refine (kput_no _ q _ S (h.below b1)).mono ?_; rintro e w2 ⟨rfl, hg⟩))
  go_end0
  exact ⟨rfl, hg.1, touch_below b1 hg.2 hq⟩
set_option maxHeartbeats 400000 in
theorem kword_ok (w : World) (q : Nat) (v : Int) (S : WS) (h : KR w q S) (hv0 : 0 ≤ v) (hv1 : v ≤ 4294967295) :
    Calls Tryd.prog 30 #[.pointer (some ⟨q, 0, none⟩), .int .i64 v] w fun e w' => e = .returned (.tuple #[]) ∧ KG q w (S.put (be v.toNat 4)) w' := by
  have hq := h.lt
  go_enter Tryd.func30, Tryd.ntmps30
  go_wp2_with (first
    | (go_at_call 44; refine (big_calls _ v 4 (by omega) (by omega) (by omega)).mono ?_; rintro e w1 ⟨rfl, b1⟩)
    | (go_at_call 43; refine (kput_yes _ q _ S (h.below b1)).mono ?_; rintro e w2 ⟨rfl, hg⟩))
  go_end0
  rw [str_list] at hg
  exact ⟨rfl, hg.1, touch_below b1 hg.2 hq⟩
theorem kword_calls (w : World) (q : Nat) (v : Int) (S : WS) (h : KR w q S) (h0 : -9223372036854775808 ≤ v) (h1 : v ≤ 9223372036854775807) :
    Calls Tryd.prog 30 #[.pointer (some ⟨q, 0, none⟩), .int .i64 v] w fun e w' => e = .returned (.tuple #[]) ∧ KG q w (S.word v) w' := by
  unfold WS.word
  by_cases hn : v < 0
  · rw [if_pos (.inl hn)]; exact kword_neg w q v S h hn h0
  · by_cases hb : 4294967296 ≤ v
    · rw [if_pos (.inr hb)]; exact kword_big w q v S h hb h1
    · rw [if_neg (by omega)]; exact kword_ok w q v S h (by omega) (by omega)

theorem text_once (S : WS) (t : ByteArray) (h : t.size ≤ 255) : S.text t = S.put (be t.size 1 ++ t.data.toList) := by
  obtain ⟨m, l, bad⟩ := S
  cases bad with
  | true =>
    unfold WS.text WS.byte
    rw [if_neg (by omega), put_bad _ rfl, put_bad _ rfl, put_bad _ rfl]
  | false =>
    by_cases hf : (l.length : Int) + 1 + t.size ≤ m
    · rw [text_fits m l t hf h]
      unfold WS.put
      rw [if_neg (by simp), if_pos (by rw [List.length_append, be_length]; simp; omega), List.append_assoc]
    · have hb := text_over m l t (by omega) h
      have hl : (WS.text ⟨m, l, false⟩ t) = ⟨m, [], true⟩ := by
        unfold WS.text WS.byte
        rw [if_neg (by omega)]
        by_cases h1 : (l.length : Int) + 1 ≤ m
        · have e : WS.put ⟨m, l, false⟩ (be ((t.size : Int)).toNat 1) = ⟨m, l ++ be t.size 1, false⟩ := by
            unfold WS.put
            rw [if_neg (by simp), if_pos (by rw [be_length]; simp; omega), Int.toNat_natCast]
          rw [e]
          unfold WS.put
          rw [if_neg (by simp), if_neg (by rw [List.length_append, be_length]; simp; omega)]
          rfl
        · have e : WS.put ⟨m, l, false⟩ (be ((t.size : Int)).toNat 1) = ⟨m, [], true⟩ := by
            unfold WS.put
            rw [if_neg (by simp), if_neg (by rw [be_length]; simp; omega)]
            rfl
          rw [e, put_bad _ rfl]
      rw [hl]
      unfold WS.put
      rw [if_neg (by simp), if_neg (by rw [List.length_append, be_length]; simp; omega)]
      rfl
theorem text_long (S : WS) (t : ByteArray) (h : 255 < t.size) : S.text t = S.fail := by
  unfold WS.text WS.byte
  rw [if_pos (.inr (by omega)), put_bad _ rfl]
set_option maxHeartbeats 400000 in
theorem kdone_bad (w : World) (q : Nat) (S : WS) (h : KR w q S) (hb : S.bad = true) :
    Calls Tryd.prog 29 #[.pointer (some ⟨q, 0, none⟩)] w fun e w' => e = .returned (.tuple #[.string ⟨#[]⟩, .bool false]) ∧ w' = w := by
  obtain ⟨s, h1, _⟩ := h
  rw [hb] at h1
  obtain ⟨c0, c1, c2⟩ := cells3 h1
  clear h1 hb
  go_enter Tryd.func29, Tryd.ntmps29
  go_wp2
  go_ret2
  exact ⟨rfl, rfl⟩
set_option maxHeartbeats 400000 in
theorem kdone_ok (w : World) (q : Nat) (S : WS) (h : KR w q S) (hb : S.bad = false) :
    Calls Tryd.prog 29 #[.pointer (some ⟨q, 0, none⟩)] w fun e w' => e = .returned (.tuple #[.string (str S.l), .bool true]) ∧ w' = w := by
  obtain ⟨s, h1, h2, _⟩ := h
  obtain ⟨rfl, _⟩ := h2 hb
  rw [hb] at h1
  obtain ⟨c0, c1, c2⟩ := cells3 h1
  clear h1 hb h2
  go_enter Tryd.func29, Tryd.ntmps29
  go_wp2
  go_ret2
  exact ⟨rfl, rfl⟩

end Go.Proofs.YtgijkgcekfbgeaaDoor
