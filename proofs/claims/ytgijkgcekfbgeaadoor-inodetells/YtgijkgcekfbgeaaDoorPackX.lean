/- What each call on a pack.Writer comes to, in one word a call: the state of a writer as plain data. -/
import Derived.Test.YtgijkgcekfbgeaaDoorPackW
import Derived.Test.YtgijkgcekfbgeaaDoorAppL
import Derived.Laws.AppendOwnNone
namespace Go.Proofs.YtgijkgcekfbgeaaDoor
set_option linter.unusedVariables false
open Go.RowKit

/-- A writer as plain data: room, bytes, wrong. -/
structure WS where
  m : Int
  l : List UInt8
  bad : Bool
def WS.fail (s : WS) : WS := ⟨s.m, [], true⟩
def WS.put (s : WS) (x : List UInt8) : WS := if s.bad = true then s else if (s.l.length : Int) + x.length ≤ s.m then ⟨s.m, s.l ++ x, false⟩ else s.fail
def WS.byte (s : WS) (v : Int) : WS := if v < 0 ∨ 256 ≤ v then s.fail else s.put (be v.toNat 1)
def WS.word (s : WS) (v : Int) : WS := if v < 0 ∨ 4294967296 ≤ v then s.fail else s.put (be v.toNat 4)
def WS.long (s : WS) (v : Nat) : WS := s.put (be v 8)
def WS.text (s : WS) (t : ByteArray) : WS := (s.byte t.size).put t.data.toList
def WS.fill (s : WS) (n : Int) : WS := if n < s.l.length then s.fail else s.put (List.replicate (n - s.l.length).toNat 0)

def WrS (w : World) (p : Nat) (s : WS) (r : Option Nat) : Prop := WrAt w p s.m s.l s.bad r
def WrG (p : Nat) (w : World) (r : Option Nat) (s : WS) (w' : World) : Prop := ∃ r', WrS w' p s r' ∧ Touch p r w w' ∧ Near r r' w.heap.size
theorem WrG.of {p : Nat} {m : Int} {w w' : World} {r : Option Nat} {L : List UInt8} {bad : Bool} (h : WrTo p m w r L bad w') : WrG p w r ⟨m, L, bad⟩ w' := h
theorem WrG.trans {w w' w'' : World} {p : Nat} {s' : WS} {r r' : Option Nat} (ht : Touch p r w w') (hn : Near r r' w.heap.size) (k : WrG p w' r' s' w'') : WrG p w r s' w'' := by
  obtain ⟨r'', h1, h2, h3⟩ := k
  exact ⟨r'', h1, ht.trans h2 hn, hn.trans h3 ht.size⟩
theorem WrG.drewN {w w' : World} {p : Nat} {s : WS} {r : Option Nat} {k : Nat} (h : WrG p (w.drewN k) r s w') : WrG p w r s w' := by
  obtain ⟨r', h1, h2, h3⟩ := h
  exact ⟨r', h1, ⟨h2.os, h2.tape, h2.output, h2.size, h2.block⟩, h3⟩
theorem WrS.failed {w : World} {p : Nat} {s : WS} {r : Option Nat} (h : WrS w p s r) : WrG p w r s.fail ((w.setCell ⟨p, 2, none⟩ (.bool true)).setCell ⟨p, 1, none⟩ (.slice none 0 0)) := WrAt.failed h
theorem WrS.lt {w : World} {p : Nat} {s : WS} {r : Option Nat} (h : WrS w p s r) : p < w.heap.size ∧ ∀ k, r = some k → p < k ∧ k < w.heap.size := WrAt.lt h
theorem WrS.kept {w w' : World} {p : Nat} {s : WS} {r : Option Nat} (h : WrS w p s r) (hp : w'.heap[p]? = w.heap[p]?) (hr : ∀ k, r = some k → w'.heap[k]? = w.heap[k]?) : WrS w' p s r := WrAt.kept h hp hr

theorem number_calls (w : World) (p v n : Nat) (s : WS) (r : Option Nat) (h : WrS w p s r) (hn : n ≤ 8) :
    Calls Tryd.prog 56 #[.pointer (some ⟨p, 0, none⟩), .int .u64 (v : Int), .int .i64 (n : Int)] w fun e w' => e = .returned (.tuple #[]) ∧ WrG p w r (s.put (be v n)) w' := by
  obtain ⟨m, L, bad⟩ := s
  have hb := be_length v n
  unfold WS.put
  cases bad with
  | true => exact number_bad w p m v n L r h
  | false =>
    by_cases hl : (L.length : Int) + (be v n).length ≤ m
    · rw [if_neg (by simp), if_pos hl]
      exact number_ok w p m v n L r h (by rw [hb] at hl; exact hl) hn
    · rw [if_neg (by simp), if_neg hl]
      exact number_full w p m v n L r h (by rw [hb] at hl; omega)

theorem fail_calls (w : World) (p : Nat) (s : WS) (r : Option Nat) (h : WrS w p s r) :
    Calls Tryd.prog 55 #[.pointer (some ⟨p, 0, none⟩)] w fun e w' => e = .returned (.tuple #[]) ∧ WrG p w r s.fail w' := by
  obtain ⟨a, c, h1, _⟩ := WrAt.op h
  refine (fail_any w p s.m _ s.bad h1).mono ?_
  rintro e w' ⟨rfl, rfl⟩
  exact ⟨rfl, h.failed⟩


set_option maxHeartbeats 400000 in
theorem small1_neg (w : World) (p : Nat) (v : Int) (s : WS) (r : Option Nat) (h : WrS w p s r) (hv : v < 0) :
    Calls Tryd.prog 41 #[.pointer (some ⟨p, 0, none⟩), .int .i64 v, .int .i64 1] w fun e w' => e = .returned (.tuple #[]) ∧ WrG p w r s.fail w' := by
  go_enter Tryd.func41, Tryd.ntmps41
  go_wp2_with (go_at_call 55; refine (fail_calls _ p s r h).mono ?_; rintro e w' ⟨rfl, hg⟩)
  ((try simp only [Exit.inBlock, Exit.then]); refine bodyPost_ret (results_none rfl _ _ _) rfl ?_)
  exact ⟨rfl, hg⟩
set_option maxHeartbeats 400000 in
theorem small1_big (w : World) (p : Nat) (v : Int) (s : WS) (r : Option Nat) (h : WrS w p s r) (hv : 256 ≤ v) (hv2 : v ≤ 9223372036854775807) :
    Calls Tryd.prog 41 #[.pointer (some ⟨p, 0, none⟩), .int .i64 v, .int .i64 1] w fun e w' => e = .returned (.tuple #[]) ∧ WrG p w r s.fail w' := by
  have hq : (v / 256 != 0) = true := by rw [bne_iff_ne]; omega
  have hn : ¬ v < 0 := by omega
  go_enter Tryd.func41, Tryd.ntmps41
  go_wp2_with (go_at_call 55; refine (fail_calls _ p s r h).mono ?_; rintro e w' ⟨rfl, hg⟩)
  ((try simp only [Exit.inBlock, Exit.then]); refine bodyPost_ret (results_none rfl _ _ _) rfl ?_)
  exact ⟨rfl, hg⟩
set_option maxHeartbeats 400000 in
theorem small1_ok (w : World) (p : Nat) (v : Nat) (s : WS) (r : Option Nat) (h : WrS w p s r) (hv : v < 256) :
    Calls Tryd.prog 41 #[.pointer (some ⟨p, 0, none⟩), .int .i64 (v : Int), .int .i64 1] w fun e w' => e = .returned (.tuple #[]) ∧ WrG p w r (s.put (be v 1)) w' := by
  have hq : ((v : Int) / 256 != 0) = false := by rw [bne_eq_false_iff_eq]; omega
  have hn : ¬ (v : Int) < 0 := by omega
  go_enter Tryd.func41, Tryd.ntmps41
  go_wp2_with (go_at_call 56; refine (number_calls _ p v 1 s r h (by omega)).mono ?_; rintro e w' ⟨rfl, hg⟩)
  go_end0
  exact ⟨rfl, hg⟩
theorem small1_calls (w : World) (p : Nat) (v : Int) (s : WS) (r : Option Nat) (h : WrS w p s r) (hv : v ≤ 9223372036854775807) :
    Calls Tryd.prog 41 #[.pointer (some ⟨p, 0, none⟩), .int .i64 v, .int .i64 1] w fun e w' => e = .returned (.tuple #[]) ∧ WrG p w r (s.byte v) w' := by
  unfold WS.byte
  by_cases h0 : v < 0
  · rw [if_pos (.inl h0)]; exact small1_neg w p v s r h h0
  · by_cases h1 : 256 ≤ v
    · rw [if_pos (.inr h1)]; exact small1_big w p v s r h h1 hv
    · rw [if_neg (by omega)]
      obtain ⟨n, rfl⟩ := Int.eq_ofNat_of_zero_le (show 0 ≤ v by omega)
      rw [Int.toNat_natCast]
      exact small1_ok w p n s r h (by omega)
set_option maxHeartbeats 400000 in
theorem byte_calls (w : World) (p : Nat) (v : Int) (s : WS) (r : Option Nat) (h : WrS w p s r) (hv : v ≤ 9223372036854775807) :
    Calls Tryd.prog 22 #[.pointer (some ⟨p, 0, none⟩), .int .i64 v] w fun e w' => e = .returned (.tuple #[]) ∧ WrG p w r (s.byte v) w' := by
  go_enter Tryd.func22, Tryd.ntmps22
  go_wp2_with (go_at_call 41; refine (small1_calls _ p v s r h hv).mono ?_; rintro e w' ⟨rfl, hg⟩)
  go_end0
  exact ⟨rfl, hg⟩

set_option maxHeartbeats 400000 in
theorem small4_neg (w : World) (p : Nat) (v : Int) (s : WS) (r : Option Nat) (h : WrS w p s r) (hv : v < 0) :
    Calls Tryd.prog 41 #[.pointer (some ⟨p, 0, none⟩), .int .i64 v, .int .i64 4] w fun e w' => e = .returned (.tuple #[]) ∧ WrG p w r s.fail w' := by
  go_enter Tryd.func41, Tryd.ntmps41
  go_wp2_with (go_at_call 55; refine (fail_calls _ p s r h).mono ?_; rintro e w' ⟨rfl, hg⟩)
  ((try simp only [Exit.inBlock, Exit.then]); refine bodyPost_ret (results_none rfl _ _ _) rfl ?_)
  exact ⟨rfl, hg⟩
set_option maxHeartbeats 400000 in
theorem small4_big (w : World) (p : Nat) (v : Int) (s : WS) (r : Option Nat) (h : WrS w p s r) (hv : 4294967296 ≤ v) (hv2 : v ≤ 9223372036854775807) :
    Calls Tryd.prog 41 #[.pointer (some ⟨p, 0, none⟩), .int .i64 v, .int .i64 4] w fun e w' => e = .returned (.tuple #[]) ∧ WrG p w r s.fail w' := by
  have hq : (v / 4294967296 != 0) = true := by rw [bne_iff_ne]; omega
  have hn : ¬ v < 0 := by omega
  go_enter Tryd.func41, Tryd.ntmps41
  go_wp2_with (go_at_call 55; refine (fail_calls _ p s r h).mono ?_; rintro e w' ⟨rfl, hg⟩)
  ((try simp only [Exit.inBlock, Exit.then]); refine bodyPost_ret (results_none rfl _ _ _) rfl ?_)
  exact ⟨rfl, hg⟩
set_option maxHeartbeats 400000 in
theorem small4_ok (w : World) (p : Nat) (v : Nat) (s : WS) (r : Option Nat) (h : WrS w p s r) (hv : v < 4294967296) :
    Calls Tryd.prog 41 #[.pointer (some ⟨p, 0, none⟩), .int .i64 (v : Int), .int .i64 4] w fun e w' => e = .returned (.tuple #[]) ∧ WrG p w r (s.put (be v 4)) w' := by
  have hq : ((v : Int) / 4294967296 != 0) = false := by rw [bne_eq_false_iff_eq]; omega
  have hn : ¬ (v : Int) < 0 := by omega
  go_enter Tryd.func41, Tryd.ntmps41
  go_wp2_with (go_at_call 56; refine (number_calls _ p v 4 s r h (by omega)).mono ?_; rintro e w' ⟨rfl, hg⟩)
  go_end0
  exact ⟨rfl, hg⟩
theorem small4_calls (w : World) (p : Nat) (v : Int) (s : WS) (r : Option Nat) (h : WrS w p s r) (hv : v ≤ 9223372036854775807) :
    Calls Tryd.prog 41 #[.pointer (some ⟨p, 0, none⟩), .int .i64 v, .int .i64 4] w fun e w' => e = .returned (.tuple #[]) ∧ WrG p w r (s.word v) w' := by
  unfold WS.word
  by_cases h0 : v < 0
  · rw [if_pos (.inl h0)]; exact small4_neg w p v s r h h0
  · by_cases h1 : 4294967296 ≤ v
    · rw [if_pos (.inr h1)]; exact small4_big w p v s r h h1 hv
    · rw [if_neg (by omega)]
      obtain ⟨n, rfl⟩ := Int.eq_ofNat_of_zero_le (show 0 ≤ v by omega)
      rw [Int.toNat_natCast]
      exact small4_ok w p n s r h (by omega)
set_option maxHeartbeats 400000 in
theorem word_calls (w : World) (p : Nat) (v : Int) (s : WS) (r : Option Nat) (h : WrS w p s r) (hv : v ≤ 9223372036854775807) :
    Calls Tryd.prog 24 #[.pointer (some ⟨p, 0, none⟩), .int .i64 v] w fun e w' => e = .returned (.tuple #[]) ∧ WrG p w r (s.word v) w' := by
  go_enter Tryd.func24, Tryd.ntmps24
  go_wp2_with (go_at_call 41; refine (small4_calls _ p v s r h hv).mono ?_; rintro e w' ⟨rfl, hg⟩)
  go_end0
  exact ⟨rfl, hg⟩

/-- Behind an append to the writer's row and the store of the new value, whatever the new value is. -/
theorem wr_store {w w1 : World} {p : Nat} {m : Int} {L L' : List UInt8} {sv1 : Value} {a : Option Addr} {c N : Nat}
    (h1 : w.heap[p]? = some (.cells #[.int .i64 m, sv1, .bool false] 57 (0, 0))) (ho1 : w.ownsRow (p + 1) 5 1 sv1 L.length (bc L))
    (hown : w1.ownsRow (p + 1) 5 1 (.slice a N c) N (bc L')) (hN : N = L'.length) (hgrow : w.grownBy w1 sv1.ownBlock) (hat : (Value.slice a N c).ownBlock = sv1.ownBlock ∨ (Value.slice a N c).ownBlock = some w.heap.size)
    (hm0 : 0 ≤ m) (hm1 : m ≤ 2147483647) (hl : (L'.length : Int) ≤ m) : WrG p w sv1.ownBlock ⟨m, L', false⟩ (w1.setCell ⟨p, 1, none⟩ (.slice a N c)) := by
  subst hN
  have hp := lt_of_block h1
  have hpw1 : w1.heap[p]? = some (.cells #[.int .i64 m, sv1, .bool false] 57 (0, 0)) := by
    rw [hgrow.block p hp (fun e => by have := ho1.lt p e.symm; omega)]; exact h1
  refine ⟨_, ⟨_, (set3 hpw1).2.1, ?_, rfl, hm0, hm1, hl⟩, ((Touch.refl p _ w).grown hgrow).setCell _ _, ?_⟩
  · exact ownsRow_setCell_below hown (by simp) _
  · intro k hk
    rcases hat with e | e
    · exact .inl (e ▸ hk)
    · rw [e] at hk
      cases hk
      exact .inr (Nat.le_refl _)

set_option maxHeartbeats 400000 in
theorem raw_bad (w : World) (p : Nat) (t : ByteArray) (m : Int) (L : List UInt8) (r : Option Nat) (h : WrAt w p m L true r) :
    Calls Tryd.prog 39 #[.pointer (some ⟨p, 0, none⟩), .string t] w fun e w' => e = .returned (.tuple #[]) ∧ WrG p w r ⟨m, L, true⟩ w' := by
  obtain ⟨a, c, h1, _⟩ := h.op
  go_enter Tryd.func39, Tryd.ntmps39
  go_wp2_with (go_at_call 54; refine (fits_bad _ p m _ a L.length c (by exact h1)).mono ?_; rintro e w' ⟨rfl, k, rfl⟩)
  go_end0
  exact ⟨rfl, (h.drewN k).stays.drewN⟩
set_option maxHeartbeats 400000 in
theorem raw_full (w : World) (p : Nat) (t : ByteArray) (m : Int) (L : List UInt8) (r : Option Nat) (h : WrAt w p m L false r) (ht : t.size ≤ 140737488351232) (hn : m - L.length < t.size) :
    Calls Tryd.prog 39 #[.pointer (some ⟨p, 0, none⟩), .string t] w fun e w' => e = .returned (.tuple #[]) ∧ WrG p w r ⟨m, [], true⟩ w' := by
  obtain ⟨a, c, h1, _, _, hm0, hm1, hl⟩ := h.op
  go_enter Tryd.func39, Tryd.ntmps39
  go_wp2_with (go_at_call 54; refine (fits_full _ p m _ a L.length c (by exact h1) hm0 hm1 hl hn).mono ?_; rintro e w' ⟨rfl, k, rfl⟩)
  go_end0
  exact ⟨rfl, (h.drewN k).failed.drewN⟩
set_option maxHeartbeats 400000 in
theorem raw_ok (w : World) (p : Nat) (t : ByteArray) (m : Int) (L : List UInt8) (r : Option Nat) (h : WrAt w p m L false r) (hn : (L.length : Int) + t.size ≤ m) :
    Calls Tryd.prog 39 #[.pointer (some ⟨p, 0, none⟩), .string t] w fun e w' => e = .returned (.tuple #[]) ∧ WrG p w r ⟨m, L ++ t.data.toList, false⟩ w' := by
  obtain ⟨i0, hi, hz0, hz1, hz2⟩ := info_parts Tryd.info_u8
  obtain ⟨a, c, h1, ho, rfl, hm0, hm1, hl⟩ := h.op
  obtain ⟨c0, c1, c2⟩ := cells3 h1
  obtain ⟨f0, f1, f2⟩ := free3 h1
  have hp := lt_of_block h1
  go_enter Tryd.func39, Tryd.ntmps39
  go_wp2_with (first
    | (go_at_call 54; refine (fits_ok _ p m _ a L.length c (by exact h1) hm0 hm1 hl (by omega)).mono ?_; rintro e w' ⟨rfl, k, rfl⟩; obtain ⟨a', c', w1, hr, hown, hgrow, hat⟩ := run_append_str (P := Tryd.prog) (w.drewN k) (p + 1) 55 9 55 5 i0 Tryd.underlying55 Tryd.underlying9 hi hz0 hz1 hz2 (.slice a L.length c) L.length (bc L) ho t (by omega) (by simp; omega); have hfz : w1.frozen? ⟨p, 1, none⟩ = false := (hgrow.frozen_far ⟨p, 1, none⟩ (by simp; omega) (fun e => by have := ho.lt p e.symm; omega)).trans f1; have hcl := (hgrow.cell_far ⟨p, 1, none⟩ (by simp; omega) (fun e => by have := ho.lt p e.symm; omega)).trans c1)
    | (at_builtin; refine Lib.wpList_append_run _ rfl (.tmp 12) (.tmp 13) _ _ rfl _ _ rfl rfl _ _ hr ?_))
  go_end0
  refine ⟨rfl, WrG.drewN (k := k) (wr_store h1 ho ?_ ?_ hgrow hat hm0 hm1 ?_)⟩
  · rw [bc_append]; exact hown
  · simp
  · simpa using hn
theorem raw_calls (w : World) (p : Nat) (t : ByteArray) (s : WS) (r : Option Nat) (h : WrS w p s r) (ht : t.size ≤ 140737488351232) :
    Calls Tryd.prog 39 #[.pointer (some ⟨p, 0, none⟩), .string t] w fun e w' => e = .returned (.tuple #[]) ∧ WrG p w r (s.put t.data.toList) w' := by
  obtain ⟨m, L, bad⟩ := s
  have hb : t.data.toList.length = t.size := by simp
  unfold WS.put
  cases bad with
  | true => exact raw_bad w p t m L r h
  | false =>
    by_cases hl : (L.length : Int) + t.data.toList.length ≤ m
    · rw [if_neg (by simp), if_pos hl]
      exact raw_ok w p t m L r h (by rw [hb] at hl; exact hl)
    · rw [if_neg (by simp), if_neg hl]
      exact raw_full w p t m L r h ht (by rw [hb] at hl; omega)

set_option maxHeartbeats 400000 in
theorem fill_neg (w : World) (p : Nat) (n : Int) (s : WS) (r : Option Nat) (h : WrS w p s r) (hn : n < s.l.length) :
    Calls Tryd.prog 40 #[.pointer (some ⟨p, 0, none⟩), .int .i64 n] w fun e w' => e = .returned (.tuple #[]) ∧ WrG p w r s.fail w' := by
  obtain ⟨a, c, h1, _⟩ := WrAt.op h
  obtain ⟨c0, c1, c2⟩ := cells3 h1
  clear h1
  go_enter Tryd.func40, Tryd.ntmps40
  go_wp2_with (go_at_call 55; refine (fail_calls _ p s r h).mono ?_; rintro e w' ⟨rfl, hg⟩)
  ((try simp only [Exit.inBlock, Exit.then]); refine bodyPost_ret (results_none rfl _ _ _) rfl ?_)
  exact ⟨rfl, hg⟩
set_option maxHeartbeats 400000 in
theorem fill_bad (w : World) (p : Nat) (n : Int) (m : Int) (L : List UInt8) (r : Option Nat) (h : WrAt w p m L true r) (hn : L.length ≤ n) (hn2 : n ≤ 9223372036854775807) :
    Calls Tryd.prog 40 #[.pointer (some ⟨p, 0, none⟩), .int .i64 n] w fun e w' => e = .returned (.tuple #[]) ∧ WrG p w r ⟨m, L, true⟩ w' := by
  obtain ⟨a, c, h1, _⟩ := h.op
  obtain ⟨c0, c1, c2⟩ := cells3 h1
  go_enter Tryd.func40, Tryd.ntmps40
  go_wp2_with (go_at_call 54; refine (fits_bad _ p m _ a L.length c (by exact h1)).mono ?_; rintro e w' ⟨rfl, k, rfl⟩)
  go_end0
  exact ⟨rfl, (h.drewN k).stays.drewN⟩
set_option maxHeartbeats 400000 in
theorem fill_full (w : World) (p : Nat) (n m : Int) (L : List UInt8) (r : Option Nat) (h : WrAt w p m L false r) (hn : m < n) (hn2 : n ≤ 9223372036854775807) :
    Calls Tryd.prog 40 #[.pointer (some ⟨p, 0, none⟩), .int .i64 n] w fun e w' => e = .returned (.tuple #[]) ∧ WrG p w r ⟨m, [], true⟩ w' := by
  obtain ⟨a, c, h1, _, _, hm0, hm1, hl⟩ := h.op
  obtain ⟨c0, c1, c2⟩ := cells3 h1
  go_enter Tryd.func40, Tryd.ntmps40
  go_wp2_with (go_at_call 54; refine (fits_full _ p m _ a L.length c (by exact h1) hm0 hm1 hl (by omega)).mono ?_; rintro e w' ⟨rfl, k, rfl⟩)
  go_end0
  exact ⟨rfl, (h.drewN k).failed.drewN⟩
set_option maxHeartbeats 400000 in
theorem fill_ok (w : World) (p d : Nat) (n m : Int) (L : List UInt8) (r : Option Nat) (h : WrAt w p m L false r) (hn : n ≤ m) (hd : n - L.length = d) :
    Calls Tryd.prog 40 #[.pointer (some ⟨p, 0, none⟩), .int .i64 n] w fun e w' => e = .returned (.tuple #[]) ∧ WrG p w r ⟨m, L ++ List.replicate d 0, false⟩ w' := by
  obtain ⟨i0, hi, hz0, hz1, hz2⟩ := info_parts Tryd.info_u8
  obtain ⟨a, c, h1, ho, rfl, hm0, hm1, hl⟩ := h.op
  obtain ⟨c0, c1, c2⟩ := cells3 h1
  obtain ⟨f0, f1, f2⟩ := free3 h1
  have hp := lt_of_block h1
  have hnl : ¬ n < (L.length : Int) := by omega
  go_enter Tryd.func40, Tryd.ntmps40
  go_wp2_with (first
    | (go_at_call 54; refine (fits_ok _ p m _ a L.length c (by exact h1) hm0 hm1 hl (by omega)).mono ?_; rintro e w' ⟨rfl, k, rfl⟩; obtain ⟨a', c', w1, hr, hown, hgrow, hat⟩ := run_append_zeros (P := Tryd.prog) (w.drewN k) (p + 1) 55 3 55 5 i0 .i64 Tryd.underlying55 Tryd.underlying3 hi hz0 hz1 hz2 (.slice a L.length c) L.length (bc L) ho d (by omega) (by simp; omega); have hfz : w1.frozen? ⟨p, 1, none⟩ = false := (hgrow.frozen_far ⟨p, 1, none⟩ (by simp; omega) (fun e => by have := ho.lt p e.symm; omega)).trans f1; have hcl := (hgrow.cell_far ⟨p, 1, none⟩ (by simp; omega) (fun e => by have := ho.lt p e.symm; omega)).trans c1)
    | (at_builtin; refine Lib.wpList_append_run _ rfl (.tmp 28) (.tmp 29) _ _ rfl _ _ rfl rfl _ _ hr ?_))
  go_end0
  refine ⟨rfl, WrG.drewN (k := k) (wr_store h1 ho ?_ ?_ hgrow hat hm0 hm1 ?_)⟩
  · rw [bc_append, show bc (List.replicate d 0) = List.replicate d (.int .u8 0) from by simp [bc]]; exact hown
  · simp
  · simp; omega
theorem fill_calls (w : World) (p : Nat) (n : Int) (s : WS) (r : Option Nat) (h : WrS w p s r) (hn2 : n ≤ 9223372036854775807) :
    Calls Tryd.prog 40 #[.pointer (some ⟨p, 0, none⟩), .int .i64 n] w fun e w' => e = .returned (.tuple #[]) ∧ WrG p w r (s.fill n) w' := by
  unfold WS.fill
  by_cases hn : n < s.l.length
  · rw [if_pos hn]; exact fill_neg w p n s r h hn
  · rw [if_neg hn]
    obtain ⟨m, L, bad⟩ := s
    unfold WS.put
    simp only at hn
    cases bad with
    | true => exact fill_bad w p n m L r h (by omega) hn2
    | false =>
      by_cases hl : (L.length : Int) + (List.replicate (n - L.length).toNat (0 : UInt8)).length ≤ m
      · rw [if_neg (by simp), if_pos hl]
        rw [List.length_replicate] at hl
        exact fill_ok w p (n - L.length).toNat n m L r h (by omega) (by omega)
      · rw [if_neg (by simp), if_neg hl]
        rw [List.length_replicate] at hl
        exact fill_full w p n m L r h (by omega) hn2
end Go.Proofs.YtgijkgcekfbgeaaDoor
