import Derived.Test.YtgicanpggndbeaaGreatB10
import Derived.Deep.QuietTactic
import Derived.BigQuiet
import Derived.Deep.RegionLaw
import Derived.Deep.OwnRows
import Derived.Test.YtgicanpggndbeaaGreatChecked
import Derived.Lib.TrimByte
import Derived.Lib.ConvBytes
import Derived.Test.YtgicanpggndbeaaGreatB01
import Derived.Test.YtgicanpggndbeaaGreatB07
import Derived.Lib.SmallJoins
/- The document's own writer, call by call, in the words of WS. -/
namespace Go.Proofs.YtgicanpggndbeaaGreat
set_option linter.unusedVariables false
set_option maxRecDepth 100000
open Go.RowKit
theorem put_bad (s : WS) (h : s.bad = true) (x : List UInt8) : s.put x = s := by unfold WS.put; rw [if_pos h]
/-- The document's writer in block q, in the state S. -/
def KR (w : World) (q : Nat) (S : WS) : Prop :=
 ∃ s : ByteArray, w.heap[q]? = some (.cells #[.string s, .int .i64 S.m, .bool S.bad] 176 (0, 0)) ∧ (S.bad = false → s = str S.l ∧ (S.l.length : Int) ≤ S.m) ∧ 0 ≤ S.m ∧ S.m ≤ 2147483647
def KG (q : Nat) (w : World) (S : WS) (w' : World) : Prop := KR w' q S ∧ Touch q none w w'
theorem KR.kept {w w' : World} {q : Nat} {S : WS} (h : KR w q S) (hq : w'.heap[q]? = w.heap[q]?) : KR w' q S := by
 obtain ⟨s, h1, h2⟩ := h
 exact ⟨s, hq.trans h1, h2⟩
theorem KR.lt {w : World} {q : Nat} {S : WS} (h : KR w q S) : q < w.heap.size := by
 obtain ⟨s, h1, _⟩ := h
 exact lt_of_block h1
theorem KG.drewN {w w' : World} {q : Nat} {S : WS} {k : Nat} (h : KG q (w.drewN k) S w') : KG q w S w' := ⟨h.1, ⟨h.2.os, h.2.tape, h.2.output, h.2.size, h.2.block⟩⟩
/-- It goes wrong. -/
theorem KR.failed {w : World} {q : Nat} {S S' : WS} (h : KR w q S) (hm : S'.m = S.m) (hb : S'.bad = true) : KG q w S' (w.setCell ⟨q, 2, none⟩ (.bool true)) := by
 obtain ⟨s, h1, h2, h3⟩ := h
 refine ⟨⟨s, ?_, (fun e => by rw [hb] at e; cases e), by rw [hm]; exact h3⟩, (Touch.refl _ _ _).setCell _ _⟩
 rw [hm, hb]
 exact (set3 h1).2.2

set_option maxHeartbeats 400000 in
theorem knew_calls (w : World) (n : Int) (h0 : 0 ≤ n) (h1 : n ≤ 2147483647) :
    Calls Tryz.prog 70 #[.int .i64 n] w fun e w' => e = .returned (.pointer (some ⟨w.heap.size, 0, none⟩)) ∧ KR w' w.heap.size ⟨n, [], false⟩ ∧ Below w.heap.size w w' := by
 go_enter Tryz.func70, Tryz.ntmps70
 go_wp2
 go_ret
 first
   | exact ⟨rfl, ⟨⟨#[]⟩, heap_alloc_new _ _, fun _ => ⟨rfl, by simpa using h0⟩, h0, h1⟩, (Below.refl _ _).alloc (Nat.le_refl _) _⟩
   | (rw [show max n 0 = n by omega]; exact ⟨rfl, ⟨⟨#[]⟩, heap_alloc_new _ _, fun _ => ⟨rfl, by simpa using h0⟩, h0, h1⟩, (Below.refl _ _).alloc (Nat.le_refl _) _⟩)

set_option maxHeartbeats 400000 in
theorem kput_bad (w : World) (q : Nat) (s x : ByteArray) (m : Int) (may : Bool) (h : w.heap[q]? = some (.cells #[.string s, .int .i64 m, .bool true] 176 (0, 0))) :
    Calls Tryz.prog 111 #[.pointer (some ⟨q, 0, none⟩), .string x, .bool may] w fun e w' => e = .returned (.tuple #[]) ∧ ∃ k, w' = (w.drewN k).setCell ⟨q, 2, none⟩ (.bool true) := by
 obtain ⟨c0, c1, c2⟩ := cells3 h
 obtain ⟨f0, f1, f2⟩ := free3 h
 clear h
 go_enter Tryz.func111, Tryz.ntmps111
 go_wp2
 go_quiet (fail)
 go_wp2
 ((try simp only [Exit.inBlock, Exit.then]); refine bodyPost_ret (results_none rfl _ _ _) rfl ?_)
 exact ⟨rfl, _, rfl⟩
set_option maxHeartbeats 400000 in
theorem kput_not (w : World) (q : Nat) (s x : ByteArray) (m : Int) (h : w.heap[q]? = some (.cells #[.string s, .int .i64 m, .bool false] 176 (0, 0))) :
    Calls Tryz.prog 111 #[.pointer (some ⟨q, 0, none⟩), .string x, .bool false] w fun e w' => e = .returned (.tuple #[]) ∧ ∃ k, w' = (w.drewN k).setCell ⟨q, 2, none⟩ (.bool true) := by
 obtain ⟨c0, c1, c2⟩ := cells3 h
 obtain ⟨f0, f1, f2⟩ := free3 h
 clear h
 go_enter Tryz.func111, Tryz.ntmps111
 go_wp2
 go_quiet (fail)
 go_wp2
 ((try simp only [Exit.inBlock, Exit.then]); refine bodyPost_ret (results_none rfl _ _ _) rfl ?_)
 exact ⟨rfl, _, rfl⟩
set_option maxHeartbeats 400000 in
theorem kput_full (w : World) (q : Nat) (s x : ByteArray) (m : Int) (h : w.heap[q]? = some (.cells #[.string s, .int .i64 m, .bool false] 176 (0, 0)))
    (hm0 : 0 ≤ m) (hm1 : m ≤ 2147483647) (hs : (s.size : Int) ≤ m) (hx : m - s.size < x.size) :
    Calls Tryz.prog 111 #[.pointer (some ⟨q, 0, none⟩), .string x, .bool true] w fun e w' => e = .returned (.tuple #[]) ∧ ∃ k, w' = (w.drewN k).setCell ⟨q, 2, none⟩ (.bool true) := by
 obtain ⟨c0, c1, c2⟩ := cells3 h
 obtain ⟨f0, f1, f2⟩ := free3 h
 clear h
 go_enter Tryz.func111, Tryz.ntmps111
 go_wp2
 go_quiet (fail)
 go_wp2
 ((try simp only [Exit.inBlock, Exit.then]); refine bodyPost_ret (results_none rfl _ _ _) rfl ?_)
 exact ⟨rfl, _, rfl⟩
set_option maxHeartbeats 400000 in
theorem kput_ok (w : World) (q : Nat) (s x : ByteArray) (m : Int) (h : w.heap[q]? = some (.cells #[.string s, .int .i64 m, .bool false] 176 (0, 0)))
    (hm0 : 0 ≤ m) (hm1 : m ≤ 2147483647) (hs : (s.size : Int) ≤ m) (hx : (x.size : Int) ≤ m - s.size) :
    Calls Tryz.prog 111 #[.pointer (some ⟨q, 0, none⟩), .string x, .bool true] w fun e w' => e = .returned (.tuple #[]) ∧ ∃ k, w' = (w.drewN k).setCell ⟨q, 0, none⟩ (.string (s ++ x)) := by
 obtain ⟨c0, c1, c2⟩ := cells3 h
 obtain ⟨f0, f1, f2⟩ := free3 h
 clear h
 have hsum : (s.size : Int) + (x.size : Int) ≤ 9223372036854775807 := by omega
 go_enter Tryz.func111, Tryz.ntmps111
 go_wp2
 go_quiet (fail)
 go_wp2
 go_end0
 exact ⟨rfl, _, rfl⟩

theorem str_append (l : List UInt8) (x : ByteArray) : str l ++ x = str (l ++ x.data.toList) := by
 apply Go.WideShapes.bytes_inj
 rw [str_list]
 simp [str]
/-- put: bytes, if they may be, and have room. -/
theorem kput_calls (w : World) (q : Nat) (x : ByteArray) (may : Bool) (S : WS) (h : KR w q S) :
    Calls Tryz.prog 111 #[.pointer (some ⟨q, 0, none⟩), .string x, .bool may] w fun e w' => e = .returned (.tuple #[]) ∧ KG q w (if may = true then S.put x.data.toList else S.fail) w' := by
 obtain ⟨m, l, bad⟩ := S
 have h' := h
 obtain ⟨s, h1, h2, h3, h4⟩ := h
 have hb : x.data.toList.length = x.size := by simp
 cases bad with
 | true =>
  refine (kput_bad w q s x m may h1).mono ?_
  rintro e w' ⟨rfl, k, rfl⟩
  refine ⟨rfl, KG.drewN (k := k) (KR.failed (S := ⟨m, l, true⟩) h' ?_ ?_)⟩
  · cases may
    · rfl
    · rw [if_pos rfl, put_bad _ rfl]
  · cases may
    · rfl
    · rw [if_pos rfl, put_bad _ rfl]
 | false =>
  obtain ⟨hs, hl⟩ := h2 rfl
  simp only at hs hl h1 h3 h4
  have hss : s.size = l.length := by rw [hs, str_size]
  cases may with
  | false =>
   refine (kput_not w q s x m h1).mono ?_
   rintro e w' ⟨rfl, k, rfl⟩
   exact ⟨rfl, KG.drewN (k := k) (KR.failed (S := ⟨m, l, false⟩) h' rfl rfl)⟩
  | true =>
   rw [if_pos rfl]
   by_cases hf : (l.length : Int) + x.size ≤ m
   · refine (kput_ok w q s x m h1 h3 h4 (by omega) (by omega)).mono ?_
     rintro e w' ⟨rfl, k, rfl⟩
     have e : WS.put ⟨m, l, false⟩ x.data.toList = ⟨m, l ++ x.data.toList, false⟩ := by
      unfold WS.put
      rw [if_neg (by simp), if_pos (by rw [hb]; exact hf)]
     rw [e]
     refine ⟨rfl, KG.drewN (k := k) ⟨⟨_, (set3 h1).1, fun _ => ⟨by rw [hs, str_append], by simp; omega⟩, h3, h4⟩, (Touch.refl _ _ _).setCell _ _⟩⟩
   · refine (kput_full w q s x m h1 h3 h4 (by omega) (by omega)).mono ?_
     rintro e w' ⟨rfl, k, rfl⟩
     have e : WS.put ⟨m, l, false⟩ x.data.toList = ⟨m, [], true⟩ := by
      unfold WS.put
      rw [if_neg (by simp), if_neg (by rw [hb]; exact hf)]
      rfl
     rw [e]
     exact ⟨rfl, KG.drewN (k := k) (KR.failed (S := ⟨m, l, false⟩) h' rfl rfl)⟩

theorem kput_yes (w : World) (q : Nat) (x : ByteArray) (S : WS) (h : KR w q S) :
    Calls Tryz.prog 111 #[.pointer (some ⟨q, 0, none⟩), .string x, .bool true] w fun e w' => e = .returned (.tuple #[]) ∧ KG q w (S.put x.data.toList) w' := kput_calls w q x true S h
theorem kput_no (w : World) (q : Nat) (x : ByteArray) (S : WS) (h : KR w q S) :
    Calls Tryz.prog 111 #[.pointer (some ⟨q, 0, none⟩), .string x, .bool false] w fun e w' => e = .returned (.tuple #[]) ∧ KG q w S.fail w' := kput_calls w q x false S h
theorem big_calls (w : World) (v : Int) (n : Nat) (hn : n ≤ 8) (h0 : 0 ≤ v) (hv : v ≤ 18446744073709551615) :
    Calls Tryz.prog 112 #[.int .u64 v, .int .i64 (n : Int)] w fun e w' => e = .returned (.string (str (be v.toNat n))) ∧ Below w.heap.size w w' := by
 obtain ⟨k, rfl⟩ := Int.eq_ofNat_of_zero_le h0
 rw [Int.toNat_natCast]
 exact big_calls' w k n hn (show k < 18446744073709551616 by omega)
theorem KR.below {w w' : World} {q : Nat} {S : WS} (h : KR w q S) (hb : Below w.heap.size w w') : KR w' q S := h.kept (hb.block q h.lt)
theorem touch_below {w w1 w2 : World} {q : Nat} (hb : Below w.heap.size w w1) (h : Touch q none w1 w2) (hq : q < w.heap.size) : Touch q none w w2 :=
 ⟨h.os.trans hb.os, h.tape.trans hb.tape, h.output.trans hb.output, Nat.le_trans hb.size h.size, fun k hk h1 h2 => (h.block k (by have := hb.size; omega) h1 h2).trans (hb.block k hk)⟩

set_option maxHeartbeats 400000 in
theorem kword_neg (w : World) (q : Nat) (v : Int) (S : WS) (h : KR w q S) (hv : v < 0) (hv1 : -9223372036854775808 ≤ v) :
    Calls Tryz.prog 71 #[.pointer (some ⟨q, 0, none⟩), .int .i64 v] w fun e w' => e = .returned (.tuple #[]) ∧ KG q w S.fail w' := by
 have hq := h.lt
 have hwr : IntKind.u64.wrap v = v + 18446744073709551616 := (by rw [IntKind.wrap_u64]; omega)
 have hn0 : decide (0 ≤ v) = false := by simp; omega
 go_enter Tryz.func71, Tryz.ntmps71
 go_wp2_with (first
  | (go_at_call 112; refine (big_calls _ (v + 18446744073709551616) 4 (by omega) (by omega) (by omega)).mono ?_; rintro e w1 ⟨rfl, b1⟩)
  | (go_at_call 111; refine (kput_no _ q _ S (h.below b1)).mono ?_; rintro e w2 ⟨rfl, hg⟩))
 go_end0
 exact ⟨rfl, hg.1, touch_below b1 hg.2 hq⟩
set_option maxHeartbeats 400000 in
theorem kword_big (w : World) (q : Nat) (v : Int) (S : WS) (h : KR w q S) (hv : 4294967296 ≤ v) (hv1 : v ≤ 9223372036854775807) :
    Calls Tryz.prog 71 #[.pointer (some ⟨q, 0, none⟩), .int .i64 v] w fun e w' => e = .returned (.tuple #[]) ∧ KG q w S.fail w' := by
 have hq := h.lt
 have hn0 : 0 ≤ v := by omega
 have hn1 : decide (v ≤ 4294967295) = false := by simp; omega
 go_enter Tryz.func71, Tryz.ntmps71
 go_wp2_with (first
  | (go_at_call 112; refine (big_calls _ v 4 (by omega) (by omega) (by omega)).mono ?_; rintro e w1 ⟨rfl, b1⟩)
  | (go_at_call 111; refine (kput_no _ q _ S (h.below b1)).mono ?_; rintro e w2 ⟨rfl, hg⟩))
 go_end0
 exact ⟨rfl, hg.1, touch_below b1 hg.2 hq⟩
set_option maxHeartbeats 400000 in
theorem kword_ok (w : World) (q : Nat) (v : Int) (S : WS) (h : KR w q S) (hv0 : 0 ≤ v) (hv1 : v ≤ 4294967295) :
    Calls Tryz.prog 71 #[.pointer (some ⟨q, 0, none⟩), .int .i64 v] w fun e w' => e = .returned (.tuple #[]) ∧ KG q w (S.put (be v.toNat 4)) w' := by
 have hq := h.lt
 go_enter Tryz.func71, Tryz.ntmps71
 go_wp2_with (first
  | (go_at_call 112; refine (big_calls _ v 4 (by omega) (by omega) (by omega)).mono ?_; rintro e w1 ⟨rfl, b1⟩)
  | (go_at_call 111; refine (kput_yes _ q _ S (h.below b1)).mono ?_; rintro e w2 ⟨rfl, hg⟩))
 go_end0
 rw [str_list] at hg
 exact ⟨rfl, hg.1, touch_below b1 hg.2 hq⟩
theorem x11word_calls (w : World) (q : Nat) (v : Int) (S : WS) (h : KR w q S) (h0 : -9223372036854775808 ≤ v) (h1 : v ≤ 9223372036854775807) :
    Calls Tryz.prog 71 #[.pointer (some ⟨q, 0, none⟩), .int .i64 v] w fun e w' => e = .returned (.tuple #[]) ∧ KG q w (S.word v) w' := by
 unfold WS.word
 by_cases hn : v < 0
 · rw [if_pos (.inl hn)]; exact kword_neg w q v S h hn h0
 · by_cases hb : 4294967296 ≤ v
   · rw [if_pos (.inr hb)]; exact kword_big w q v S h hb h1
   · rw [if_neg (by omega)]; exact kword_ok w q v S h (by omega) (by omega)

set_option maxHeartbeats 400000 in
theorem kdone_ok (w : World) (q : Nat) (S : WS) (h : KR w q S) (hb : S.bad = false) :
    Calls Tryz.prog 72 #[.pointer (some ⟨q, 0, none⟩)] w fun e w' => e = .returned (.tuple #[.string (str S.l), .bool true]) ∧ w' = w := by
 obtain ⟨s, h1, h2, _⟩ := h
 obtain ⟨rfl, _⟩ := h2 hb
 rw [hb] at h1
 obtain ⟨c0, c1, c2⟩ := cells3 h1
 clear h1 hb h2
 go_enter Tryz.func72, Tryz.ntmps72
 go_wp2
 go_ret2
 exact ⟨rfl, rfl⟩

end Go.Proofs.YtgicanpggndbeaaGreat
/- Inodes, entries' numbers and chunks as plain data: when one is right, its value, and that there is one of each (mathematics). -/
namespace Go.Proofs.YtgicanpggndbeaaGreat
set_option linter.unusedVariables false
set_option maxRecDepth 100000
open Go.RowKit

/-- An inode: a directory or not, its links, its size. -/
structure Ino where
 d : Bool
 l : Int
 s : Int
/-- The numbers that a reader of a text tells one behind the other. -/
def rd0 (L : List UInt8) : RS := ⟨L, false⟩
theorem got_app (a b : List UInt8) (n : Int) (hn : n = (a.length : Int)) : (rd0 (a ++ b)).got n = a ∧ (rd0 (a ++ b)).take n = rd0 b := by
 subst hn
 unfold RS.got RS.take rd0
 simp only
 have h : ¬ (false = true ∨ (a.length : Int) < 0 ∨ (((a ++ b).length : Nat) : Int) < (a.length : Int)) := by
  rw [List.length_append]
  rintro (h | h | h)
  · cases h
  · omega
  · omega
 rw [if_neg h, if_neg h]
 simp
/-- Numbers that an entry may have; their values. -/
def okNum (n : Int) : Bool := decide (1 ≤ n) && decide (n < 1073741824)
def numT (n : Int) : List UInt8 := if okNum n = true then be n.toNat 4 else []
def NmIs (L : List UInt8) (o : Option Int) : Prop := ∀ n, o = some n ↔ okNum n = true ∧ be n.toNat 4 = L
theorem NmIs.unique {L : List UInt8} {a b : Option Int} (h : NmIs L a) (k : NmIs L b) : a = b := by
 cases a with
 | none =>
  cases b with
  | none => rfl
  | some n => exact (h n).2 ((k n).1 rfl)
 | some n => exact ((k n).2 ((h n).1 rfl)).symm
def nmI (f : List UInt8 → Int) (L : List UInt8) : Option Int := if okNum (f L) = true ∧ be (f L).toNat 4 = L then some (f L) else none
theorem okNum_in {n : Int} (h : okNum n = true) : 1 ≤ n ∧ n < 1073741824 := by
 simpa only [okNum, Bool.and_eq_true, decide_eq_true_eq] using h
theorem nm_is {f : List UInt8 → Int} (hf : ∀ n, okNum n = true → f (be n.toNat 4) = n) (L : List UInt8) : NmIs L (nmI f L) := by
 intro n
 unfold nmI
 constructor
 · intro h
   split at h
   next hh => cases h; exact hh
   next => cases h
 · rintro ⟨h1, h2⟩
   have e : f L = n := by rw [← h2]; exact hf n h1
   rw [e, if_pos ⟨h1, h2⟩]
theorem word_back (n : Int) (h : okNum n = true) : (num ((rd0 (be n.toNat 4)).got 4) : Int) = n := by
 obtain ⟨h1, h2⟩ := okNum_in h
 obtain ⟨a1, _⟩ := got_app (be n.toNat 4) [] 4 (by rw [be_length]; rfl)
 rw [List.append_nil] at a1
 have p4 : (256 : Nat) ^ 4 = 4294967296 := by decide
 rw [a1, num_be 4 _ (by omega)]
 omega

end Go.Proofs.YtgicanpggndbeaaGreat
/- Package inode, call by call: first, written, reader, isFile, Value, Number. -/
namespace Go.Proofs.YtgicanpggndbeaaGreat
set_option linter.unusedVariables false
set_option maxRecDepth 100000
open Go.RowKit

set_option maxHeartbeats 400000 in
theorem first_long (w : World) (L : List UInt8) (n : Nat) (N : Int) (hN : N = (n : Int)) (hn : N ≤ ((str L).size : Int)) (hm : min N ((str L).size : Int) = N) :
    Calls Tryz.prog 126 #[.string (str L), .int .i64 N] w fun e w' => e = .returned (.string (str (L.take n))) ∧ w' = w := by
 have h0 : 0 ≤ N := by omega
 have e1 : (str L).extract 0 N.toNat = str (L.take n) := by rw [hN]; exact ext_take L n
 generalize str (L.take n) = R at *
 generalize str L = S at *
 clear hN
 go_enter Tryz.func126, Tryz.ntmps126
 go_wp2
 go_ret
 exact ⟨rfl, rfl⟩
set_option maxHeartbeats 400000 in
theorem first_short (w : World) (L : List UInt8) (N : Int) (hn : ((str L).size : Int) < N) :
    Calls Tryz.prog 126 #[.string (str L), .int .i64 N] w fun e w' => e = .returned (.string (str L)) ∧ w' = w := by
 have e1 : (str L).extract 0 (str L).size = str L := by rw [ext_take, str_size, List.take_length]
 generalize str L = S at *
 go_enter Tryz.func126, Tryz.ntmps126
 go_wp2
 go_ret
 first
   | exact ⟨rfl, rfl⟩
   | exact ⟨by rw [show min N (S.size : Int) = (S.size : Int) by omega]; exact congrArg (fun x => Ending.returned (.string x)) e1, rfl⟩
theorem first_calls (w : World) (L : List UInt8) (n : Nat) (N : Int) (hN : N = (n : Int)) :
    Calls Tryz.prog 126 #[.string (str L), .int .i64 N] w fun e w' => e = .returned (.string (str (L.take n))) ∧ w' = w := by
 by_cases h : n ≤ L.length
 · exact first_long w L n N hN (by rw [str_size]; omega) (by rw [str_size]; omega)
 · rw [List.take_of_length_le (by omega)]
   exact first_short w L N (by rw [str_size]; omega)

set_option maxHeartbeats 400000 in
theorem written_calls (w : World) (p : Nat) (S : WS) (r : Option Nat) (h : WrS w p S r) (hb : S.bad = false) :
    Calls Tryz.prog 66 #[.pointer (some ⟨p, 0, none⟩)] w fun e w' => e = .returned (.string (str S.l)) ∧ Below w.heap.size w w' := by
 have H := done_ok w p S r h hb
 clear h hb
 go_enter Tryz.func66, Tryz.ntmps66
 go_wp2_with fail
 refine H.mono ?_
 rintro e w1 ⟨a, c, rfl, ho, hbel⟩
 clear H
 have hc := conv_bytes (own_bytes ho)
 clear ho
 go_wp2
 go_ret
 exact ⟨rfl, hbel⟩

/-- An inode's value in memory. -/
abbrev iv (n : Ino) : Value := .agg #[.bool n.d, .int .i64 n.l, .int .i64 n.s]

/-- A writer of one's own, new since the world w. -/
def Wri (w w1 : World) (p : Nat) (S : WS) : Prop := ∃ r, WrS w1 p S r ∧ Below w.heap.size w w1 ∧ w.heap.size ≤ p
theorem Wri.of {w w0 w1 : World} {p : Nat} {S : WS} (hb : Below w.heap.size w w0) (h : WrS w1 p S none) (hp : p = w0.heap.size) (k : Below w0.heap.size w0 w1) : Wri w w1 p S :=
 ⟨none, h, hb.trans (k.mono hb.size), by rw [hp]; exact hb.size⟩
theorem Wri.to {w w1 w2 : World} {p : Nat} {S S' : WS} {r : Option Nat} (h1 : WrS w1 p S r) (h2 : Below w.heap.size w w1) (h3 : w.heap.size ≤ p) (g : WrG p w1 r S' w2) : Wri w w2 p S' := by
 obtain ⟨r', g1, g2, g3⟩ := g
 have hl := h1.lt
 exact ⟨r', g1, h2.trans (g2.below h2.size h3 fun k hk => by have := hl.2 k hk; omega), h3⟩
theorem wri_new {w w0 : World} (hb : Below w.heap.size w w0) (n : Int) (h0 : 0 ≤ n) (h1 : n ≤ 2147483647) :
    Calls Tryz.prog 64 #[.int .i64 n] w0 fun e w' => ∃ p, e = .returned (.pointer (some ⟨p, 0, none⟩)) ∧ Wri w w' p ⟨n, [], false⟩ := by
 refine (new_calls w0 n h0 h1).mono ?_
 rintro e w' ⟨rfl, h, k⟩
 exact ⟨_, rfl, Wri.of hb h rfl k⟩
theorem wri_word {w w1 : World} {p : Nat} {S : WS} (h : Wri w w1 p S) (v : Int) (hv : v ≤ 9223372036854775807) :
    Calls Tryz.prog 65 #[.pointer (some ⟨p, 0, none⟩), .int .i64 v] w1 fun e w' => e = .returned (.tuple #[]) ∧ Wri w w' p (S.word v) := by
 obtain ⟨r, h1, h2, h3⟩ := h
 refine (word_calls w1 p v S r h1 hv).mono ?_
 rintro e w' ⟨rfl, g⟩
 exact ⟨rfl, Wri.to h1 h2 h3 g⟩
theorem wri_written {w w1 : World} {p : Nat} {S : WS} (h : Wri w w1 p S) (L : List UInt8) (hS : S = ⟨S.m, L, false⟩) :
    Calls Tryz.prog 66 #[.pointer (some ⟨p, 0, none⟩)] w1 fun e w' => e = .returned (.string (str L)) ∧ Below w.heap.size w w' := by
 obtain ⟨r, h1, h2, h3⟩ := h
 refine (written_calls w1 p S r h1 (by rw [hS])).mono ?_
 rintro e w' ⟨rfl, g⟩
 exact ⟨by rw [hS], h2.trans (g.mono h2.size)⟩
theorem put_ok (m : Int) (L x : List UInt8) (h : (L.length : Int) + x.length ≤ m) : (⟨m, L, false⟩ : WS).put x = ⟨m, L ++ x, false⟩ := by
 unfold WS.put
 rw [if_neg (by simp), if_pos h]
theorem ws_num (n : Int) (h : okNum n = true) : (⟨4, [], false⟩ : WS).word n = ⟨4, numT n, false⟩ := by
 obtain ⟨h1, h2⟩ := okNum_in h
 rw [WS.word, if_neg (by omega), put_ok _ _ _ (by simp [be_length])]
 simp [numT, h]
end Go.Proofs.YtgicanpggndbeaaGreat
/- The library's contracts that package inode leans on: none is in this cut. -/
/- Package inode: Value, Number, Full, Trim. -/
namespace Go.Proofs.YtgicanpggndbeaaGreat
set_option linter.unusedVariables false
set_option maxRecDepth 100000
open Go.RowKit

set_option maxHeartbeats 400000 in
theorem number_no1 (w : World) (n : Int) (h : n < 1) :
    Calls Tryz.prog 32 #[.int .i64 n] w fun e w' => e = .returned (.tuple #[.string (str []), .bool false]) ∧ Below w.heap.size w w' := by
 go_enter Tryz.func32, Tryz.ntmps32
 go_wp2
 go_ret2
 exact ⟨rfl, Below.refl _ _⟩
set_option maxHeartbeats 400000 in
theorem number_no2 (w : World) (n : Int) (h : 1073741824 ≤ n) :
    Calls Tryz.prog 32 #[.int .i64 n] w fun e w' => e = .returned (.tuple #[.string (str []), .bool false]) ∧ Below w.heap.size w w' := by
 have h1 : ¬ n < 1 := by omega
 go_enter Tryz.func32, Tryz.ntmps32
 go_wp2
 go_ret2
 exact ⟨rfl, Below.refl _ _⟩
set_option maxHeartbeats 400000 in
theorem number_yes (w : World) (n : Int) (h : okNum n = true) (h1 : ¬ n < 1) (h2 : n < 1073741824) :
    Calls Tryz.prog 32 #[.int .i64 n] w fun e w' => e = .returned (.tuple #[.string (str (numT n)), .bool true]) ∧ Below w.heap.size w w' := by
 have hws := ws_num n h
 clear h
 go_enter Tryz.func32, Tryz.ntmps32
 go_wp2_with fail
 refine (wri_new (Below.refl _ _) 4 (by decide) (by decide)).mono ?_
 rintro e w1 ⟨p, rfl, H⟩
 go_wp2_with fail
 refine (wri_word H n (by omega)).mono ?_
 rintro e w2 ⟨rfl, H2⟩
 rw [hws] at H2
 clear hws H
 go_wp2_with fail
 refine (wri_written H2 _ rfl).mono ?_
 rintro e w6 ⟨rfl, H6⟩
 go_wp2
 go_ret2
 exact ⟨rfl, H6⟩
theorem inumber_calls (w : World) (n : Int) :
    Calls Tryz.prog 32 #[.int .i64 n] w fun e w' => e = .returned (.tuple #[.string (str (numT n)), .bool (okNum n)]) ∧ Below w.heap.size w w' := by
 by_cases h1 : n < 1
 · have e : okNum n = false := by rw [okNum, decide_eq_false (by omega)]; rfl
   rw [numT, e]
   exact number_no1 w n h1
 · by_cases h2 : n < 1073741824
   · have e : okNum n = true := by rw [okNum, decide_eq_true (by omega), decide_eq_true h2]; rfl
     rw [e]
     exact number_yes w n e h1 h2
   · have e : okNum n = false := by rw [okNum, decide_eq_false h2, Bool.and_false]
     rw [numT, e]
     exact number_no2 w n (by omega)

end Go.Proofs.YtgicanpggndbeaaGreat
/- Package inode: reader, said, Of, Numbered. -/
namespace Go.Proofs.YtgicanpggndbeaaGreat
set_option linter.unusedVariables false
set_option maxRecDepth 100000
open Go.RowKit

/-- A text as bytes, in a row of its own. -/
theorem conv_text (w : World) (L : List UInt8) : ∃ cap w1, (convert 9 140 (.string (str L))).run Tryz.prog w = .ok (.slice (some ⟨w.heap.size, 0, none⟩) L.length cap) w1 ∧ BytesIn w1 (.slice (some ⟨w.heap.size, 0, none⟩) L.length cap) L (some w.heap.size) ∧ Below w.heap.size w w1 := by
 have h := Lib.run_convert_string_bytes (P := Tryz.prog) w 9 140 5 (str L) Tryz.underlying9 Tryz.underlying140 Tryz.underlying5
 rw [str_size] at h
 refine ⟨_, _, h, ⟨_, _, rfl, grownCap_ge _ _ _ _, .inr ⟨w.heap.size, 0, rfl, rfl, by rw [Lib.bytesWorld_size]; omega, fun j u hu => ?_⟩⟩, ⟨rfl, rfl, rfl, by rw [Lib.bytesWorld_size]; omega, fun k hk => Lib.bytesWorld_at_old _ _ _ _ hk⟩⟩
 have hj := bc_get hu
 rw [Nat.zero_add, Lib.bytesWorld_cell w _ _ j (by rw [str_size]; exact hj), ← hu, bc_at L j hj, str_list]
 simp [List.getD, hj]
theorem upon_run {P : Program} {o : Oper} {a : Act} {K : Act → World → Prop} {Q : Exit → Act → World → Prop} {m : Sem Value} {w w' : World} {v : Value} (hr : m.run P w = .ok v w') (h : K (a.put o.dst v) w') : Oper.upon P o a K Q ((m.run P w).andThen fun a w' => Result.ok (Next.value a) w') := by
 rw [hr]
 simp only [Result.andThen]
 rw [Oper.upon_value]
 exact h

/-- A reader of one's own, new since the world w. -/
def Rea (w w1 : World) (q : Nat) (S : RS) : Prop := ∃ r, RdS w1 q S r ∧ Below w.heap.size w w1 ∧ w.heap.size ≤ q
theorem Rea.below {w w1 : World} {q : Nat} {S : RS} (h : Rea w w1 q S) : Below w.heap.size w w1 := by obtain ⟨r, _, h, _⟩ := h; exact h
set_option maxHeartbeats 400000 in
theorem reader_of (w : World) (L M : List UInt8) (N : Int) (HF : ∀ w, Calls Tryz.prog 126 #[.string (str L), .int .i64 N] w fun e w' => e = .returned (.string (str M)) ∧ w' = w) (hl : M.length ≤ 140737488351232) :
    Calls Tryz.prog 88 #[.string (str L), .int .i64 N] w fun e w' => ∃ q, e = .returned (.pointer (some ⟨q, 0, none⟩)) ∧ Rea w w' q (rd0 M) := by
 obtain ⟨cap, w1, hc, hb, hbel⟩ := conv_text w M
 have HR := read_calls w1 _ _ _ hb hl
 clear hb hl
 have HC : Hid ((convert 9 140 (.string (str M))).run Tryz.prog w = .ok (.slice (some ⟨w.heap.size, 0, none⟩) M.length cap) w1) := hc
 clear hc
 go_enter Tryz.func88, Tryz.ntmps88
 go_wp2_with fail
 refine (HF _).mono ?_
 rintro e w2 ⟨rfl, hw⟩
 rw [hw]
 clear hw HF
 go_wp2_with fail
 refine upon_run HC.out ?_
 go_wp2_with fail
 refine HR.mono ?_
 rintro e w3 ⟨q, r, rfl, h1, h2, h3, h4⟩
 clear HR HC
 go_wp2
 go_ret
 exact ⟨q, rfl, r, h1, hbel.trans (h2.mono hbel.size), Nat.le_trans hbel.size h3⟩
theorem reader_calls (w : World) (L : List UInt8) (n : Nat) (N : Int) (hN : N = (n : Int)) (hl : (L.take n).length ≤ 140737488351232) :
    Calls Tryz.prog 88 #[.string (str L), .int .i64 N] w fun e w' => ∃ q, e = .returned (.pointer (some ⟨q, 0, none⟩)) ∧ Rea w w' q (rd0 (L.take n)) :=
 reader_of w L _ N (fun w => first_calls w L n N hN) hl
theorem rea_word {w w1 : World} {q : Nat} {S : RS} (h : Rea w w1 q S) :
    Calls Tryz.prog 89 #[.pointer (some ⟨q, 0, none⟩)] w1 fun e w' => e = .returned (.int .i64 (num (S.got 4) : Int)) ∧ Rea w w' q (S.take 4) := by
 obtain ⟨r, h1, h2, h3⟩ := h
 refine (word_reads w1 q S r h1).mono ?_
 rintro e w' ⟨rfl, g1, g2⟩
 exact ⟨rfl, r, g1, h2.trans (g2.below h2.size h3 fun k hk => by cases hk), h3⟩

end Go.Proofs.YtgicanpggndbeaaGreat
/- Package inode: Of, Numbered. -/
namespace Go.Proofs.YtgicanpggndbeaaGreat
set_option linter.unusedVariables false
set_option maxRecDepth 100000
open Go.RowKit

theorem str_ne {a b : List UInt8} : ((str a).toList == (str b).toList) = (a == b) := by rw [str_toList, str_toList]
/-- What Numbered tells. -/
def NmTo (L : List UInt8) (w : World) (e : Ending) (w' : World) : Prop := ∃ o, NmIs L o ∧ e = .returned (.tuple #[.int .i64 (o.getD 0), .bool o.isSome]) ∧ Below w.heap.size w w'
set_option maxHeartbeats 800000 in
theorem numbered_of (w : World) (L M T : List UInt8) (N : Int) (HF : ∀ w, Calls Tryz.prog 88 #[.string (str L), .int .i64 4] w fun e w' => ∃ q, e = .returned (.pointer (some ⟨q, 0, none⟩)) ∧ Rea w w' q (rd0 M)) (hN : N = (num ((rd0 M).got 4) : Int))
    (ok b : Bool) (HV : ∀ w, Calls Tryz.prog 32 #[.int .i64 N] w fun e w' => e = .returned (.tuple #[.string (str T), .bool ok]) ∧ Below w.heap.size w w') (hb : b = true ∧ ok = true ∧ ((str T).toList == (str L).toList) = true ∨ b = false ∧ ok = false ∨ b = false ∧ ok = true ∧ ((str T).toList == (str L).toList) = false) :
    Calls Tryz.prog 49 #[.string (str L)] w fun e w' => e = .returned (.tuple #[.int .i64 (if b = true then N else 0), .bool b]) ∧ Below w.heap.size w w' := by
 go_enter Tryz.func49, Tryz.ntmps49
 go_wp2_with fail
 refine (HF _).mono ?_
 rintro e w1 ⟨q, rfl, H⟩
 clear HF
 go_wp2_with fail
 refine (rea_word H).mono ?_
 rw [← hN]
 clear hN
 rintro e w2 ⟨rfl, H2⟩
 go_wp2_with fail
 refine (HV _).mono ?_
 rintro e w3 ⟨rfl, H3⟩
 clear HV
 have HB := H2.below.trans (H3.mono H2.below.size)
 clear H H2 H3
 rcases hb with ⟨rfl, rfl, hne⟩ | ⟨rfl, rfl⟩ | ⟨rfl, rfl, hne⟩
 all_goals
  go_wp2
  go_ret2
  exact ⟨rfl, HB⟩
theorem numbered_calls (w : World) (L : List UInt8) :
    Calls Tryz.prog 49 #[.string (str L)] w fun e w' => NmTo L w e w' := by
 have HF := fun w => reader_calls w L 4 4 rfl (by rw [List.length_take]; omega)
 have hof := nm_is (f := fun L => (num ((rd0 (L.take 4)).got 4) : Int)) (fun n h => by
  show (num ((rd0 ((be n.toNat 4).take 4)).got 4) : Int) = n
  rw [List.take_of_length_le (by rw [be_length]; omega)]
  exact word_back n h) L
 unfold nmI at hof
 obtain ⟨N, hN⟩ : ∃ N : Int, N = (num ((rd0 (L.take 4)).got 4) : Int) := ⟨_, rfl⟩
 simp only [← hN] at hof
 by_cases hr : okNum N = true
 · have HV := fun w => inumber_calls w N
   rw [numT, if_pos hr, hr] at HV
   by_cases hv : be N.toNat 4 = L
   · refine (numbered_of w L _ _ N HF hN true true HV (.inl ⟨rfl, rfl, by rw [hv, str_ne]; simp⟩)).mono fun e w' ⟨h1, h2⟩ => ⟨_, hof, ?_, h2⟩
     rw [if_pos ⟨hr, hv⟩]
     exact h1
   · refine (numbered_of w L _ _ N HF hN true false HV (.inr (.inr ⟨rfl, rfl, by rw [str_ne]; simpa using hv⟩))).mono fun e w' ⟨h1, h2⟩ => ⟨_, hof, ?_, h2⟩
     rw [if_neg (fun h => hv h.2)]
     exact h1
 · have HV := fun w => inumber_calls w N
   refine (numbered_of w L _ _ N HF hN _ false HV (.inr (.inl ⟨rfl, by simpa using hr⟩))).mono fun e w' ⟨h1, h2⟩ => ⟨_, hof, ?_, h2⟩
   rw [if_neg (fun h => hr h.1)]
   exact h1
end Go.Proofs.YtgicanpggndbeaaGreat
/- The document's numbers. -/
namespace Go.Proofs.YtgicanpggndbeaaGreat
set_option linter.unusedVariables false
set_option maxRecDepth 100000
open Go.RowKit

theorem behind {w w1 w2 : World} (h : Below w.heap.size w w1) (k : Below w1.heap.size w1 w2) : Below w.heap.size w w2 := h.trans (k.mono h.size)
def Kri (w w1 : World) (q : Nat) (S : WS) : Prop := KR w1 q S ∧ Below w.heap.size w w1 ∧ w.heap.size ≤ q
theorem kri_new {w w0 : World} (hb : Below w.heap.size w w0) (n : Int) (h0 : 0 ≤ n) (h1 : n ≤ 2147483647) :
    Calls Tryz.prog 70 #[.int .i64 n] w0 fun e w' => ∃ p, e = .returned (.pointer (some ⟨p, 0, none⟩)) ∧ Kri w w' p ⟨n, [], false⟩ := by
 refine (knew_calls w0 n h0 h1).mono ?_
 rintro e w' ⟨rfl, h, k⟩
 exact ⟨_, rfl, h, behind hb k, hb.size⟩
theorem kri_word {w w1 : World} {p : Nat} {S : WS} (h : Kri w w1 p S) (v : Int) (hv0 : -9223372036854775808 ≤ v) (hv : v ≤ 9223372036854775807) :
    Calls Tryz.prog 71 #[.pointer (some ⟨p, 0, none⟩), .int .i64 v] w1 fun e w' => e = .returned (.tuple #[]) ∧ Kri w w' p (S.word v) := by
 obtain ⟨h1, h2, h3⟩ := h
 refine (x11word_calls w1 p v S h1 hv0 hv).mono ?_
 rintro e w' ⟨rfl, g1, g2⟩
 exact ⟨rfl, g1, h2.trans (g2.below h2.size h3 fun k hk => by cases hk), h3⟩
theorem kri_done {w w1 : World} {p : Nat} {S : WS} (h : Kri w w1 p S) (L : List UInt8) (hS : S = ⟨S.m, L, false⟩) :
    Calls Tryz.prog 72 #[.pointer (some ⟨p, 0, none⟩)] w1 fun e w' => e = .returned (.tuple #[.string (str L), .bool true]) ∧ Below w.heap.size w w' := by
 obtain ⟨h1, h2, h3⟩ := h
 refine (kdone_ok w1 p S h1 (by rw [hS])).mono ?_
 rintro e w' ⟨rfl, g⟩
 rw [g]
 exact ⟨by rw [hS], h2⟩
set_option maxHeartbeats 400000 in
theorem r11number_no (w : World) (n : Int) (h : n < 1 ∨ 1073741824 ≤ n) :
    Calls Tryz.prog 36 #[.int .i64 n] w fun e w' => e = .returned (.tuple #[.string (str []), .bool false]) ∧ Below w.heap.size w w' := by
 by_cases h1 : n < 1
 · clear h
   go_enter Tryz.func36, Tryz.ntmps36
   go_wp2
   go_ret2
   exact ⟨rfl, Below.refl _ _⟩
 · have h2 : 1073741824 ≤ n := by omega
   clear h
   go_enter Tryz.func36, Tryz.ntmps36
   go_wp2
   go_ret2
   exact ⟨rfl, Below.refl _ _⟩
set_option maxHeartbeats 400000 in
theorem r11number_yes (w : World) (n : Int) (h : okNum n = true) (h1 : ¬ n < 1) (h2 : n < 1073741824) :
    Calls Tryz.prog 36 #[.int .i64 n] w fun e w' => e = .returned (.tuple #[.string (str (numT n)), .bool true]) ∧ Below w.heap.size w w' := by
 have hws := ws_num n h
 clear h
 go_enter Tryz.func36, Tryz.ntmps36
 go_wp2_with fail
 refine (kri_new (Below.refl _ _) 4 (by decide) (by decide)).mono ?_
 rintro e w1 ⟨p, rfl, H⟩
 go_wp2_with fail
 refine (kri_word H n (by omega) (by omega)).mono ?_
 rintro e w2 ⟨rfl, H2⟩
 rw [hws] at H2
 clear hws H
 go_wp2_with fail
 refine (kri_done H2 _ rfl).mono ?_
 rintro e w6 ⟨rfl, H6⟩
 go_wp2
 go_ret2
 exact ⟨rfl, H6⟩
theorem r11number_calls (w : World) (n : Int) :
    Calls Tryz.prog 36 #[.int .i64 n] w fun e w' => e = .returned (.tuple #[.string (str (numT n)), .bool (okNum n)]) ∧ Below w.heap.size w w' := by
 by_cases h : okNum n = true
 · have := okNum_in h
   rw [h]
   exact r11number_yes w n h (by omega) (by omega)
 · have e : okNum n = false := by simpa using h
   rw [numT, e]
   refine r11number_no w n ?_
   simp only [okNum, Bool.and_eq_false_iff, decide_eq_false_iff_not] at e
   omega

/-- The document's reader, new since the world w. -/
def Qri (w w1 : World) (q : Nat) (t : RS) : Prop := KQ w1 q t ∧ Below w.heap.size w w1 ∧ w.heap.size ≤ q
theorem qri_word {w w1 : World} {q : Nat} {S : RS} (h : Qri w w1 q S) :
    Calls Tryz.prog 93 #[.pointer (some ⟨q, 0, none⟩)] w1 fun e w' => e = .returned (.int .i64 (num (S.got 4) : Int)) ∧ Qri w w' q (S.take 4) ∧ Touch q none w1 w' := by
 obtain ⟨h1, h2, h3⟩ := h
 refine (kword_reads w1 q S h1).mono ?_
 rintro e w' ⟨rfl, g1, g2⟩
 exact ⟨rfl, ⟨g1, h2.trans (g2.below h2.size h3 fun k hk => by cases hk), h3⟩, g2⟩
theorem qri_new (w : World) (L : List UInt8) : Qri w (w.alloc (.cells #[.string (str L), .bool false] 155)) w.heap.size (rd0 L) :=
 ⟨⟨heap_alloc_new _ _, fun h => by cases h⟩, (Below.refl _ _).alloc (Nat.le_refl _) _, Nat.le_refl _⟩
set_option maxHeartbeats 800000 in
theorem r11numbered_of (w : World) (L T : List UInt8) (N : Int) (hN : N = (num ((rd0 L).got 4) : Int))
    (ok b : Bool) (HV : ∀ w, Calls Tryz.prog 36 #[.int .i64 N] w fun e w' => e = .returned (.tuple #[.string (str T), .bool ok]) ∧ Below w.heap.size w w') (hb : b = true ∧ ok = true ∧ ((str T).toList == (str L).toList) = true ∨ b = false ∧ ok = false ∨ b = false ∧ ok = true ∧ ((str T).toList == (str L).toList) = false) :
    Calls Tryz.prog 51 #[.string (str L)] w fun e w' => e = .returned (.tuple #[.int .i64 (if b = true then N else 0), .bool b]) ∧ Below w.heap.size w w' := by
 have H := qri_new w L
 go_enter Tryz.func51, Tryz.ntmps51
 go_wp2_with fail
 refine (qri_word H).mono ?_
 rw [← hN]
 clear hN
 rintro e w2 ⟨rfl, H2, -⟩
 go_wp2_with fail
 refine (HV _).mono ?_
 rintro e w3 ⟨rfl, H3⟩
 clear HV
 have HB := behind H2.2.1 H3
 clear H H2 H3
 rcases hb with ⟨rfl, rfl, hne⟩ | ⟨rfl, rfl⟩ | ⟨rfl, rfl, hne⟩
 all_goals
  go_wp2
  go_ret2
  exact ⟨rfl, HB⟩
theorem r11numbered_calls (w : World) (L : List UInt8) :
    Calls Tryz.prog 51 #[.string (str L)] w fun e w' => NmTo L w e w' := by
 have hof := nm_is (f := fun L => (num ((rd0 L).got 4) : Int)) word_back L
 unfold nmI at hof
 obtain ⟨N, hN⟩ : ∃ N : Int, N = (num ((rd0 L).got 4) : Int) := ⟨_, rfl⟩
 simp only [← hN] at hof
 by_cases hr : okNum N = true
 · have HV := fun w => r11number_calls w N
   rw [numT, if_pos hr, hr] at HV
   by_cases hv : be N.toNat 4 = L
   · refine (r11numbered_of w L _ N hN true true HV (.inl ⟨rfl, rfl, by rw [hv, str_ne]; simp⟩)).mono fun e w' ⟨h1, h2⟩ => ⟨_, hof, ?_, h2⟩
     rw [if_pos ⟨hr, hv⟩]
     exact h1
   · refine (r11numbered_of w L _ N hN true false HV (.inr (.inr ⟨rfl, rfl, by rw [str_ne]; simpa using hv⟩))).mono fun e w' ⟨h1, h2⟩ => ⟨_, hof, ?_, h2⟩
     rw [if_neg (fun h => hv h.2)]
     exact h1
 · have HV := fun w => r11number_calls w N
   refine (r11numbered_of w L _ N hN _ false HV (.inr (.inl ⟨rfl, by simpa using hr⟩))).mono fun e w' ⟨h1, h2⟩ => ⟨_, hof, ?_, h2⟩
   rw [if_neg (fun h => hr h.1)]
   exact h1
end Go.Proofs.YtgicanpggndbeaaGreat
/- A slice of elements of k cells that came in: what the walk is told of it. -/
namespace Go.Proofs.YtgicanpggndbeaaGreat
set_option linter.unusedVariables false
set_option maxRecDepth 100000
open Go.ChangeShapes Go.WideShapes Go.ChangeAt Go.RowKit

set_option maxRecDepth 100000 in
theorem open_els {α : Type} {k : Nat} (E : Enc α k) (ts te : TypeId) (hu : Tryz.prog.underlying ts = some (.slice te)) (hk : Tryz.prog.cellsOf te = k) (hpos : 0 < k) {H : Type} {enc : TypeId × Value → H} {W : World} {base : Nat} {held : Bool} {a : Option Addr} {len cap : Nat} {d : DataW H} {p : List MemPlace}
    (hel : ∀ (fuel : Nat) (z : DataW H × List MemPlace) (cs : List Value), DataW.trod enc Tryz.prog W base (fun _ => true) held fuel te cs = some z → cs.length = k → ∃ x : α, cs = E.c x)
    (h : DataW.Trod enc Tryz.prog W base (fun _ => true) held ts (.slice a len cap) d p) : ∃ l : List α, Sl E W (.slice a len cap) l := by
 obtain ⟨fuel, hf⟩ := h
 rcases Go.Deep.open_slice hu hf with ⟨hcs, _⟩ | ⟨x, l, c, m, n, D, Pl, hcs, _, hl, hm, hmm, _, hx⟩
 · simp [Value.cells] at hcs
   obtain ⟨rfl, rfl, rfl⟩ := hcs
   exact ⟨[], SlB.nil _ _ _⟩
 · simp [Value.cells] at hcs
   obtain ⟨rfl, rfl, rfl⟩ := hcs
   have hm' : m = cap := by simpa using hmm
   subst hm'
   by_cases hl0 : len = 0
   · subst hl0
     exact ⟨[], ⟨_, _, rfl, Nat.zero_le _, Nat.zero_le _, (fun e => by cases e), .inl rfl⟩⟩
   have spotless : x.spot = none := by
    obtain ⟨cs0, h0, _⟩ := hx 0 (by omega)
    rw [hk] at h0
    obtain ⟨_, hl0, hc0⟩ := World.cells?_some h0
    have hc := hc0 0 (by omega)
    rw [List.getElem?_eq_getElem (by omega)] at hc
    simpa [Addr.add] using World.cell?_spot hc
   obtain ⟨b, off, spot⟩ := x
   simp only at spotless
   subst spotless
   have each : ∀ i, i < len → ∃ s : α, W.rangeAt b (off + i * k) (E.c s) ∧ b < W.heap.size := by
    intro i hi
    obtain ⟨cs', h1, h2⟩ := hx i (by omega)
    rw [hk, Addr.add_mid] at h1
    obtain ⟨_, hl1, hc1⟩ := World.cells?_some h1
    obtain ⟨s, hs⟩ := hel _ _ _ h2 hl1
    subst hs
    refine ⟨s, fun j v hv => ?_, ?_⟩
    · have hj := (List.getElem?_eq_some_iff.1 hv).1
      have := hc1 j (by rw [E.len] at hj; omega)
      rw [Addr.add_mid] at this
      rw [this]
      exact hv
    · have := hc1 0 (by omega)
      rw [List.getElem?_eq_getElem (by omega)] at this
      have := World.block_lt_of_cell? W _ this
      rw [Addr.add_mid] at this
      exact this
   have hL : (List.ofFn fun i : Fin len => (each i.1 i.2).choose).length = len := by simp
   refine ⟨List.ofFn fun i : Fin len => (each i.1 i.2).choose, ⟨_, m, by rw [hL], by rw [hL]; omega, by rw [hL]; omega, (fun e => by cases e), .inr ⟨b, off, rfl, (each 0 (by omega)).choose_spec.2, fun i hi => ?_⟩⟩⟩
   rw [List.getElem_ofFn]
   exact (each i (by simpa using hi)).choose_spec.1
set_option maxRecDepth 100000 in
theorem bytes_list (l : List Value) (h : ∀ v ∈ l, ∃ b : UInt8, v = .int .u8 (b.toNat : Int)) : ∃ K : List UInt8, l = bc K := by
 induction l with
 | nil => exact ⟨[], rfl⟩
 | cons v l ih =>
  obtain ⟨b, rfl⟩ := h v (by simp)
  obtain ⟨K, rfl⟩ := ih fun x hx => h x (by simp [hx])
  exact ⟨b :: K, rfl⟩
set_option maxRecDepth 100000 in
theorem trod_key {H : Type} {enc : TypeId × Value → H} {W : World} {base : Nat} {held : Bool} {fuel : Nat} {z : DataW H × List MemPlace} {cs : List Value} (hf : DataW.trod enc Tryz.prog W base (fun _ => true) held fuel 29 cs = some z) : ∃ K : List UInt8, K.length = 24 ∧ cs = bc K := by
 have k1 : Tryz.prog.cellsOf 5 = 1 := by kernel_rfl
 have k24 : Tryz.prog.cellsOf 29 = 24 := by kernel_rfl
 obtain ⟨xs, m, _, _, hl, hx, he⟩ := DataW.trod_array Tryz.underlying29 hf
 rw [k24] at hl
 rw [k1] at he
 obtain ⟨K, hK⟩ := bytes_list cs (fun v hv => by
  obtain ⟨i, hi, rfl⟩ := List.mem_iff_getElem.1 hv
  have h1 := he i (by omega)
  rw [Nat.mul_one, List.getElem?_eq_getElem (by omega)] at h1
  obtain ⟨n, e, _, wf⟩ := DataW.trod_int Tryz.underlying5 h1
  have e2 : cs[i] = .int .u8 n := by
   have := congrArg (fun l => l[0]?) e
   simpa [List.getElem?_take, List.getElem?_drop, hi] using this
  have hb := bounds_u8 wf
  refine ⟨UInt8.ofNat n.toNat, ?_⟩
  rw [e2, UInt8.toNat_ofNat']
  congr 1
  omega)
 exact ⟨K, by rw [hK, bc_length] at hl; exact hl, hK⟩
end Go.Proofs.YtgicanpggndbeaaGreat
