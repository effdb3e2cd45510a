import Derived.Test.YtdmindhjmjnagabGreatDoorB11
import Derived.Test.YtdmindhjmjnagabGreatDoorB12
import Derived.Laws.AppendOwnNone
import Derived.Laws.BitsAllLaws
import Derived.Laws.BytesArg
import Derived.Test.YtdmindhjmjnagabGreatDoorB01
/- What each call on a pack.Writer comes to, in one word a call: the state of a writer as plain data. -/
namespace Go.Proofs.YtdmindhjmjnagabGreatDoor
set_option linter.unusedVariables false
set_option maxRecDepth 100000
open Go.RowKit

/-- A writer as plain data: room, bytes, wrong. -/
structure WS where
  m : Int
  l : List UInt8
  bad : Bool
def WS.fail (s : WS) : WS := ⟨s.m, [], true⟩
def WS.put (s : WS) (x : List UInt8) : WS := if s.bad = true then s else if (s.l.length : Int) + x.length ≤ s.m then ⟨s.m, s.l ++ x, false⟩ else s.fail
def WS.byte (s : WS) (v : Int) : WS := if v < 0 ∨ 256 ≤ v then s.fail else s.put (be v.toNat 1)
def WS.word (s : WS) (v : Int) : WS := if v < 0 ∨ 4294967296 ≤ v then s.fail else s.put (be v.toNat 4)
def WS.long (s : WS) (v : Nat) : WS := s.put (be v 8)
def WS.text (s : WS) (t : ByteArray) : WS := (s.byte t.size).put t.data.toList
def WS.fill (s : WS) (n : Int) : WS := if n < s.l.length then s.fail else s.put (List.replicate (n - s.l.length).toNat 0)

def WrS (w : World) (p : Nat) (s : WS) (r : Option Nat) : Prop := WrAt w p s.m s.l s.bad r
def WrG (p : Nat) (w : World) (r : Option Nat) (s : WS) (w' : World) : Prop := ∃ r', WrS w' p s r' ∧ Touch p r w w' ∧ Near r r' w.heap.size
theorem WrG.of {p : Nat} {m : Int} {w w' : World} {r : Option Nat} {L : List UInt8} {bad : Bool} (h : WrTo p m w r L bad w') : WrG p w r ⟨m, L, bad⟩ w' := h
theorem WrG.trans {w w' w'' : World} {p : Nat} {s' : WS} {r r' : Option Nat} (ht : Touch p r w w') (hn : Near r r' w.heap.size) (k : WrG p w' r' s' w'') : WrG p w r s' w'' := by
  obtain ⟨r'', h1, h2, h3⟩ := k
  exact ⟨r'', h1, ht.trans h2 hn, hn.trans h3 ht.size⟩
theorem WrG.drewN {w w' : World} {p : Nat} {s : WS} {r : Option Nat} {k : Nat} (h : WrG p (w.drewN k) r s w') : WrG p w r s w' := by
  obtain ⟨r', h1, h2, h3⟩ := h
  exact ⟨r', h1, ⟨h2.os, h2.tape, h2.output, h2.size, h2.block⟩, h3⟩
theorem WrS.failed {w : World} {p : Nat} {s : WS} {r : Option Nat} (h : WrS w p s r) : WrG p w r s.fail ((w.setCell ⟨p, 2, none⟩ (.bool true)).setCell ⟨p, 1, none⟩ (.slice none 0 0)) := WrAt.failed h
theorem WrS.lt {w : World} {p : Nat} {s : WS} {r : Option Nat} (h : WrS w p s r) : p < w.heap.size ∧ ∀ k, r = some k → p < k ∧ k < w.heap.size := WrAt.lt h
theorem WrS.kept {w w' : World} {p : Nat} {s : WS} {r : Option Nat} (h : WrS w p s r) (hp : w'.heap[p]? = w.heap[p]?) (hr : ∀ k, r = some k → w'.heap[k]? = w.heap[k]?) : WrS w' p s r := WrAt.kept h hp hr

theorem fail_calls (w : World) (p : Nat) (s : WS) (r : Option Nat) (h : WrS w p s r) :
    Calls Tryz.prog 91 #[.pointer (some ⟨p, 0, none⟩)] w fun e w' => e = .returned (.tuple #[]) ∧ WrG p w r s.fail w' := by
  obtain ⟨a, c, h1, _⟩ := WrAt.op h
  refine (fail_any w p s.m _ s.bad h1).mono ?_
  rintro e w' ⟨rfl, rfl⟩
  exact ⟨rfl, h.failed⟩


/-- Behind an append to the writer's row and the store of the new value, whatever the new value is. -/
theorem wr_store {w w1 : World} {p : Nat} {m : Int} {L L' : List UInt8} {sv1 : Value} {a : Option Addr} {c N : Nat}
    (h1 : w.heap[p]? = some (.cells #[.int .i64 m, sv1, .bool false] 151 (0, 0))) (ho1 : w.ownsRow (p + 1) 5 1 sv1 L.length (bc L))
    (hown : w1.ownsRow (p + 1) 5 1 (.slice a N c) N (bc L')) (hN : N = L'.length) (hgrow : w.grownBy w1 sv1.ownBlock) (hat : (Value.slice a N c).ownBlock = sv1.ownBlock ∨ (Value.slice a N c).ownBlock = some w.heap.size)
    (hm0 : 0 ≤ m) (hm1 : m ≤ 2147483647) (hl : (L'.length : Int) ≤ m) : WrG p w sv1.ownBlock ⟨m, L', false⟩ (w1.setCell ⟨p, 1, none⟩ (.slice a N c)) := by
  subst hN
  have hp := lt_of_block h1
  have hpw1 : w1.heap[p]? = some (.cells #[.int .i64 m, sv1, .bool false] 151 (0, 0)) := by
    rw [hgrow.block p hp (fun e => by have := ho1.lt p e.symm; omega)]; exact h1
  refine ⟨_, ⟨_, (set3 hpw1).2.1, ?_, rfl, hm0, hm1, hl⟩, ((Touch.refl p _ w).grown hgrow).setCell _ _, ?_⟩
  · exact ownsRow_setCell_below hown (by simp) _
  · intro k hk
    rcases hat with e | e
    · exact .inl (e ▸ hk)
    · rw [e] at hk
      cases hk
      exact .inr (Nat.le_refl _)

set_option maxHeartbeats 400000 in
theorem raw_bad (w : World) (p : Nat) (t : ByteArray) (m : Int) (L : List UInt8) (r : Option Nat) (h : WrAt w p m L true r) :
    Calls Tryz.prog 65 #[.pointer (some ⟨p, 0, none⟩), .string t] w fun e w' => e = .returned (.tuple #[]) ∧ WrG p w r ⟨m, L, true⟩ w' := by
  obtain ⟨a, c, h1, _⟩ := h.op
  go_enter Tryz.func65, Tryz.ntmps65
  go_wp2_with (go_at_call 90; refine (fits_bad _ p m _ a L.length c (by exact h1)).mono ?_; rintro e w' ⟨rfl, k, rfl⟩)
  go_end0
  exact ⟨rfl, (h.drewN k).stays.drewN⟩
set_option maxHeartbeats 400000 in
theorem raw_full (w : World) (p : Nat) (t : ByteArray) (m : Int) (L : List UInt8) (r : Option Nat) (h : WrAt w p m L false r) (ht : t.size ≤ 140737488351232) (hn : m - L.length < t.size) :
    Calls Tryz.prog 65 #[.pointer (some ⟨p, 0, none⟩), .string t] w fun e w' => e = .returned (.tuple #[]) ∧ WrG p w r ⟨m, [], true⟩ w' := by
  obtain ⟨a, c, h1, _, _, hm0, hm1, hl⟩ := h.op
  go_enter Tryz.func65, Tryz.ntmps65
  go_wp2_with (go_at_call 90; refine (fits_full _ p m _ a L.length c (by exact h1) hm0 hm1 hl hn).mono ?_; rintro e w' ⟨rfl, k, rfl⟩)
  go_end0
  exact ⟨rfl, (h.drewN k).failed.drewN⟩
set_option maxHeartbeats 400000 in
theorem raw_ok (w : World) (p : Nat) (t : ByteArray) (m : Int) (L : List UInt8) (r : Option Nat) (h : WrAt w p m L false r) (hn : (L.length : Int) + t.size ≤ m) :
    Calls Tryz.prog 65 #[.pointer (some ⟨p, 0, none⟩), .string t] w fun e w' => e = .returned (.tuple #[]) ∧ WrG p w r ⟨m, L ++ t.data.toList, false⟩ w' := by
  obtain ⟨i0, hi, hz0, hz1, hz2⟩ := info_parts Tryz.info_u8
  obtain ⟨a, c, h1, ho, rfl, hm0, hm1, hl⟩ := h.op
  obtain ⟨c0, c1, c2⟩ := cells3 h1
  obtain ⟨f0, f1, f2⟩ := free3 h1
  have hp := lt_of_block h1
  go_enter Tryz.func65, Tryz.ntmps65
  go_wp2_with (first
    | (go_at_call 90; refine (fits_ok _ p m _ a L.length c (by exact h1) hm0 hm1 hl (by omega)).mono ?_; rintro e w' ⟨rfl, k, rfl⟩; obtain ⟨a', c', w1, hr, hown, hgrow, hat⟩ := run_append_str (P := Tryz.prog) (w.drewN k) (p + 1) 36 9 36 5 i0 Tryz.underlying36 Tryz.underlying9 hi hz0 hz1 hz2 (.slice a L.length c) L.length (bc L) ho t (by omega) (by simp; omega); have hfz : w1.frozen? ⟨p, 1, none⟩ = false := (hgrow.frozen_far ⟨p, 1, none⟩ (by simp; omega) (fun e => by have := ho.lt p e.symm; omega)).trans f1; have hcl := (hgrow.cell_far ⟨p, 1, none⟩ (by simp; omega) (fun e => by have := ho.lt p e.symm; omega)).trans c1)
    | (at_builtin; refine Lib.wpList_append_run _ rfl (.tmp 12) (.tmp 13) _ _ rfl _ _ rfl rfl _ _ hr ?_))
  go_end0
  refine ⟨rfl, WrG.drewN (k := k) (wr_store h1 ho ?_ ?_ hgrow hat hm0 hm1 ?_)⟩
  · rw [bc_append]; exact hown
  · simp
  · simpa using hn
theorem raw_calls (w : World) (p : Nat) (t : ByteArray) (s : WS) (r : Option Nat) (h : WrS w p s r) (ht : t.size ≤ 140737488351232) :
    Calls Tryz.prog 65 #[.pointer (some ⟨p, 0, none⟩), .string t] w fun e w' => e = .returned (.tuple #[]) ∧ WrG p w r (s.put t.data.toList) w' := by
  obtain ⟨m, L, bad⟩ := s
  have hb : t.data.toList.length = t.size := by simp
  unfold WS.put
  cases bad with
  | true => exact raw_bad w p t m L r h
  | false =>
    by_cases hl : (L.length : Int) + t.data.toList.length ≤ m
    · rw [if_neg (by simp), if_pos hl]
      exact raw_ok w p t m L r h (by rw [hb] at hl; exact hl)
    · rw [if_neg (by simp), if_neg hl]
      exact raw_full w p t m L r h ht (by rw [hb] at hl; omega)

set_option maxHeartbeats 400000 in
theorem fill_neg (w : World) (p : Nat) (n : Int) (s : WS) (r : Option Nat) (h : WrS w p s r) (hn : n < s.l.length) :
    Calls Tryz.prog 66 #[.pointer (some ⟨p, 0, none⟩), .int .i64 n] w fun e w' => e = .returned (.tuple #[]) ∧ WrG p w r s.fail w' := by
  obtain ⟨a, c, h1, _⟩ := WrAt.op h
  obtain ⟨c0, c1, c2⟩ := cells3 h1
  clear h1
  go_enter Tryz.func66, Tryz.ntmps66
  go_wp2_with (go_at_call 91; refine (fail_calls _ p s r h).mono ?_; rintro e w' ⟨rfl, hg⟩)
  ((try simp only [Exit.inBlock, Exit.then]); refine bodyPost_ret (results_none rfl _ _ _) rfl ?_)
  exact ⟨rfl, hg⟩
set_option maxHeartbeats 400000 in
theorem fill_bad (w : World) (p : Nat) (n : Int) (m : Int) (L : List UInt8) (r : Option Nat) (h : WrAt w p m L true r) (hn : L.length ≤ n) (hn2 : n ≤ 9223372036854775807) :
    Calls Tryz.prog 66 #[.pointer (some ⟨p, 0, none⟩), .int .i64 n] w fun e w' => e = .returned (.tuple #[]) ∧ WrG p w r ⟨m, L, true⟩ w' := by
  obtain ⟨a, c, h1, _⟩ := h.op
  obtain ⟨c0, c1, c2⟩ := cells3 h1
  go_enter Tryz.func66, Tryz.ntmps66
  go_wp2_with (go_at_call 90; refine (fits_bad _ p m _ a L.length c (by exact h1)).mono ?_; rintro e w' ⟨rfl, k, rfl⟩)
  go_end0
  exact ⟨rfl, (h.drewN k).stays.drewN⟩
set_option maxHeartbeats 400000 in
theorem fill_full (w : World) (p : Nat) (n m : Int) (L : List UInt8) (r : Option Nat) (h : WrAt w p m L false r) (hn : m < n) (hn2 : n ≤ 9223372036854775807) :
    Calls Tryz.prog 66 #[.pointer (some ⟨p, 0, none⟩), .int .i64 n] w fun e w' => e = .returned (.tuple #[]) ∧ WrG p w r ⟨m, [], true⟩ w' := by
  obtain ⟨a, c, h1, _, _, hm0, hm1, hl⟩ := h.op
  obtain ⟨c0, c1, c2⟩ := cells3 h1
  go_enter Tryz.func66, Tryz.ntmps66
  go_wp2_with (go_at_call 90; refine (fits_full _ p m _ a L.length c (by exact h1) hm0 hm1 hl (by omega)).mono ?_; rintro e w' ⟨rfl, k, rfl⟩)
  go_end0
  exact ⟨rfl, (h.drewN k).failed.drewN⟩
set_option maxHeartbeats 400000 in
theorem fill_ok (w : World) (p d : Nat) (n m : Int) (L : List UInt8) (r : Option Nat) (h : WrAt w p m L false r) (hn : n ≤ m) (hd : n - L.length = d) :
    Calls Tryz.prog 66 #[.pointer (some ⟨p, 0, none⟩), .int .i64 n] w fun e w' => e = .returned (.tuple #[]) ∧ WrG p w r ⟨m, L ++ List.replicate d 0, false⟩ w' := by
  obtain ⟨i0, hi, hz0, hz1, hz2⟩ := info_parts Tryz.info_u8
  obtain ⟨a, c, h1, ho, rfl, hm0, hm1, hl⟩ := h.op
  obtain ⟨c0, c1, c2⟩ := cells3 h1
  obtain ⟨f0, f1, f2⟩ := free3 h1
  have hp := lt_of_block h1
  have hnl : ¬ n < (L.length : Int) := by omega
  go_enter Tryz.func66, Tryz.ntmps66
  go_wp2_with (first
    | (go_at_call 90; refine (fits_ok _ p m _ a L.length c (by exact h1) hm0 hm1 hl (by omega)).mono ?_; rintro e w' ⟨rfl, k, rfl⟩; obtain ⟨a', c', w1, hr, hown, hgrow, hat⟩ := run_append_zeros (P := Tryz.prog) (w.drewN k) (p + 1) 36 3 36 5 i0 .i64 Tryz.underlying36 Tryz.underlying3 hi hz0 hz1 hz2 (.slice a L.length c) L.length (bc L) ho d (by omega) (by simp; omega); have hfz : w1.frozen? ⟨p, 1, none⟩ = false := (hgrow.frozen_far ⟨p, 1, none⟩ (by simp; omega) (fun e => by have := ho.lt p e.symm; omega)).trans f1; have hcl := (hgrow.cell_far ⟨p, 1, none⟩ (by simp; omega) (fun e => by have := ho.lt p e.symm; omega)).trans c1)
    | (at_builtin; refine Lib.wpList_append_run _ rfl (.tmp 28) (.tmp 29) _ _ rfl _ _ rfl rfl _ _ hr ?_))
  go_end0
  refine ⟨rfl, WrG.drewN (k := k) (wr_store h1 ho ?_ ?_ hgrow hat hm0 hm1 ?_)⟩
  · rw [bc_append, show bc (List.replicate d 0) = List.replicate d (.int .u8 0) from by simp [bc]]; exact hown
  · simp
  · simp; omega
theorem fill_calls (w : World) (p : Nat) (n : Int) (s : WS) (r : Option Nat) (h : WrS w p s r) (hn2 : n ≤ 9223372036854775807) :
    Calls Tryz.prog 66 #[.pointer (some ⟨p, 0, none⟩), .int .i64 n] w fun e w' => e = .returned (.tuple #[]) ∧ WrG p w r (s.fill n) w' := by
  unfold WS.fill
  by_cases hn : n < s.l.length
  · rw [if_pos hn]; exact fill_neg w p n s r h hn
  · rw [if_neg hn]
    obtain ⟨m, L, bad⟩ := s
    unfold WS.put
    simp only at hn
    cases bad with
    | true => exact fill_bad w p n m L r h (by omega) hn2
    | false =>
      by_cases hl : (L.length : Int) + (List.replicate (n - L.length).toNat (0 : UInt8)).length ≤ m
      · rw [if_neg (by simp), if_pos hl]
        rw [List.length_replicate] at hl
        exact fill_ok w p (n - L.length).toNat n m L r h (by omega) (by omega)
      · rw [if_neg (by simp), if_neg hl]
        rw [List.length_replicate] at hl
        exact fill_full w p n m L r h (by omega) hn2
end Go.Proofs.YtdmindhjmjnagabGreatDoor
/- pack.New and Writer.Done: what they come to. -/
namespace Go.Proofs.YtdmindhjmjnagabGreatDoor
set_option linter.unusedVariables false
set_option maxRecDepth 100000
open Go.RowKit

theorem new_calls (w : World) (n : Int) (h0 : 0 ≤ n) (h1 : n ≤ 2147483647) :
    Calls Tryz.prog 64 #[.int .i64 n] w fun e w' => e = .returned (.pointer (some ⟨w.heap.size, 0, none⟩)) ∧ WrS w' w.heap.size ⟨n, [], false⟩ none ∧ Below w.heap.size w w' := by
  refine (new_any w n h0 h1).mono ?_
  rintro e w' ⟨rfl, rfl⟩
  exact ⟨rfl, ⟨_, heap_alloc_new _ _, World.ownsRow_nil _ _ _ _, rfl, h0, h1, by simpa using h0⟩, (Below.refl _ _).alloc (Nat.le_refl _) _⟩

set_option maxHeartbeats 400000 in
theorem done_bad (w : World) (p : Nat) (s : WS) (r : Option Nat) (h : WrS w p s r) (hb : s.bad = true) :
    Calls Tryz.prog 92 #[.pointer (some ⟨p, 0, none⟩)] w fun e w' => e = .returned (.tuple #[.slice none 0 0, .bool false]) ∧ w' = w := by
  obtain ⟨a, c, h1, _⟩ := WrAt.op h
  rw [hb] at h1
  obtain ⟨c0, c1, c2⟩ := cells3 h1
  clear h1 hb
  go_enter Tryz.func92, Tryz.ntmps92
  go_wp2
  go_ret2
  exact ⟨rfl, rfl⟩
set_option maxHeartbeats 400000 in
theorem done_none (w : World) (p c : Nat) (m : Int) (h1 : w.heap[p]? = some (.cells #[.int .i64 m, .slice none 0 0, .bool false] 151 (0, 0))) :
    Calls Tryz.prog 92 #[.pointer (some ⟨p, 0, none⟩)] w fun e w' => ∃ a c, e = .returned (.tuple #[.slice a 0 c, .bool true]) ∧ w'.ownsRow w.heap.size 5 1 (.slice a 0 c) 0 [] ∧ Below w.heap.size w w' := by
  obtain ⟨i0, hi, hz0, hz1, hz2⟩ := info_parts Tryz.info_u8
  obtain ⟨c0, c1, c2⟩ := cells3 h1
  have hp := lt_of_block h1
  clear h1
  go_enter Tryz.func92, Tryz.ntmps92
  go_wp2_with (at_builtin; refine wpList_append_own_none rfl (.tmp 8) (.tmp 12) 36 rfl w.heap.size 5 i0 1 Tryz.underlying36 hi (.slice (some ⟨w.heap.size, 0, none⟩) 0 0) 0 [] rfl (World.ownsRow_made w #[] 0 (Nat.le_refl _) (by unfold maxLen; omega) rfl) rfl ?_)
  go_ret2
  exact ⟨_, _, rfl, World.ownsRow_made w #[] 0 (Nat.le_refl _) (by unfold maxLen; omega) rfl, (Below.refl _ _).alloc (Nat.le_refl _) _⟩
set_option maxHeartbeats 400000 in
theorem done_some (w : World) (p c g : Nat) (m : Int) (L : List UInt8) (h1 : w.heap[p]? = some (.cells #[.int .i64 m, .slice (some ⟨g, 0, none⟩) L.length c, .bool false] 151 (0, 0))) (ho : w.ownsRow (p + 1) 5 1 (.slice (some ⟨g, 0, none⟩) L.length c) L.length (bc L)) (hl : (L.length : Int) ≤ 2147483647) :
    Calls Tryz.prog 92 #[.pointer (some ⟨p, 0, none⟩)] w fun e w' => ∃ a c, e = .returned (.tuple #[.slice a L.length c, .bool true]) ∧ w'.ownsRow w.heap.size 5 1 (.slice a L.length c) L.length (bc L) ∧ Below w.heap.size w w' := by
  obtain ⟨i0, hi, hz0, hz1, hz2⟩ := info_parts Tryz.info_u8
  obtain ⟨c0, c1, c2⟩ := cells3 h1
  have hp := lt_of_block h1
  have hg := (ho.lt g rfl).2
  clear h1
  have hcs : ∀ j u, (bc L)[j]? = some u → (w.alloc (.cells #[] 5)).cell? ((⟨g, 0, none⟩ : Addr).add j) = some u := (ho.alloc _).cells rfl
  go_enter Tryz.func92, Tryz.ntmps92
  go_wp2_with (at_builtin; refine wpList_append_own _ rfl (.tmp 8) (.tmp 12) 36 rfl w.heap.size 5 i0 (.int .u8 0) 1 1 Tryz.underlying36 hi hz0 hz1 hz2 rfl (by decide) (.slice (some ⟨w.heap.size, 0, none⟩) 0 0) 0 [] rfl (World.ownsRow_made w #[] 0 (Nat.le_refl _) (by unfold maxLen; omega) rfl) ⟨g, 0, none⟩ L.length c (bc L) rfl (by rw [bc_length]; omega) hcs (bc_one L) (by unfold maxLen; omega) (by omega) (by simp) ?_; intro v' w1 hown hgrow _)
  go_ret2
  obtain ⟨a, c', rfl⟩ := own_form hown
  refine ⟨a, c', ?_, ?_, ?_⟩
  · simp
  · simpa using hown
  · exact ((Below.refl _ _).alloc (Nat.le_refl _) _).grown hgrow (by simp) (fun k hk => by simp [Value.ownBlock] at hk; omega)

/-- Done of a writer that is right: its bytes, in a row of their own; nothing that was there has turned. -/
theorem done_ok (w : World) (p : Nat) (s : WS) (r : Option Nat) (h : WrS w p s r) (hb : s.bad = false) :
    Calls Tryz.prog 92 #[.pointer (some ⟨p, 0, none⟩)] w fun e w' => ∃ a c, e = .returned (.tuple #[.slice a s.l.length c, .bool true]) ∧ w'.ownsRow w.heap.size 5 1 (.slice a s.l.length c) s.l.length (bc s.l) ∧ Below w.heap.size w w' := by
  obtain ⟨sv, h1, ho, _, hm0, hm1, hl⟩ := h
  rw [hb] at h1
  rcases ho.2 with ⟨rfl, h0⟩ | ⟨g, cap, cur, rfl, _⟩
  · have e : s.l = [] := List.eq_nil_of_length_eq_zero h0
    rw [e]
    exact done_none w p 0 s.m h1
  · exact done_some w p cap g s.m s.l h1 ho (by omega)
end Go.Proofs.YtdmindhjmjnagabGreatDoor
/- What each call on a pack.Reader comes to: the state of a reader as plain data. -/
namespace Go.Proofs.YtdmindhjmjnagabGreatDoor
set_option linter.unusedVariables false
set_option maxRecDepth 100000
open Go.RowKit

/-- A reader as plain data: the bytes that are left, wrong. -/
structure RS where
  l : List UInt8
  bad : Bool

/-- A slice of bytes: they are L, and lie in the row r. -/
def BytesIn (w : World) (sv : Value) (L : List UInt8) (r : Option Nat) : Prop :=
  ∃ ad cap, sv = .slice ad L.length cap ∧ L.length ≤ cap ∧
    ((ad = none ∧ L = [] ∧ cap = 0) ∨ ∃ g off, ad = some ⟨g, off, none⟩ ∧ r = some g ∧ g < w.heap.size ∧ ∀ j u, (bc L)[j]? = some u → w.cell? ⟨g, off + j, none⟩ = some u)
theorem BytesIn.kept {w w' : World} {sv : Value} {L : List UInt8} {r : Option Nat} (h : BytesIn w sv L r) (hr : ∀ k, r = some k → w'.heap[k]? = w.heap[k]?) : BytesIn w' sv L r := by
  obtain ⟨ad, cap, h1, h2, h3⟩ := h
  refine ⟨ad, cap, h1, h2, ?_⟩
  rcases h3 with h3 | ⟨g, off, h4, h5, h6, h7⟩
  · exact .inl h3
  · have hb := hr g h5
    refine .inr ⟨g, off, h4, h5, ?_, fun j u hu => (World.cell?_of_block (w := w) hb).trans (h7 j u hu)⟩
    have h8 : w'.heap[g]? = some w.heap[g] := hb.trans (by simp [h6])
    exact (Array.getElem?_eq_some_iff.1 h8).1
def RS.got (s : RS) (n : Int) : List UInt8 := if s.bad = true ∨ n < 0 ∨ (s.l.length : Int) < n then [] else s.l.take n.toNat
def RS.take (s : RS) (n : Int) : RS := if s.bad = true ∨ n < 0 ∨ (s.l.length : Int) < n then ⟨[], true⟩ else ⟨s.l.drop n.toNat, false⟩
theorem RS.got_length (s : RS) (n : Int) : ((s.got n).length : Int) ≤ n ∨ (s.got n).length = 0 := by
  unfold RS.got
  split
  · exact .inr rfl
  · left
    simp
    omega
theorem bc_at (l : List UInt8) (j : Nat) (h : j < l.length) : (bc l)[j]? = some (.int .u8 (l[j].toNat : Int)) := by simp [bc, h]
theorem add_lit (g off n : Nat) : (⟨g, off, none⟩ : Addr).add n = ⟨g, off + n, none⟩ := by unfold Addr.add; split <;> simp_all
theorem bc_get {l : List UInt8} {j : Nat} {u : Value} (h : (bc l)[j]? = some u) : j < l.length := by
  have := (List.getElem?_eq_some_iff.1 h).1
  rwa [bc_length] at this
theorem bc_take {l : List UInt8} {n j : Nat} {u : Value} (h : (bc (l.take n))[j]? = some u) : (bc l)[j]? = some u := by
  have hj := bc_get h
  rw [List.length_take] at hj
  rw [bc_at _ _ (by rw [List.length_take]; omega)] at h
  rw [bc_at _ _ (by omega)]
  simpa using h
theorem bc_drop {l : List UInt8} {n j : Nat} {u : Value} (h : (bc (l.drop n))[j]? = some u) : (bc l)[n + j]? = some u := by
  have hj := bc_get h
  rw [List.length_drop] at hj
  rw [bc_at _ _ (by rw [List.length_drop]; omega)] at h
  rw [bc_at _ _ (by omega)]
  simpa using h

theorem or_byte (a b : Nat) (ha : a < 72057594037927936) (hb : b < 256) : bits .or .u64 ((a : Int) * 256) (b : Int) = ((256 * a + b : Nat) : Int) := by
  have e : ((a : Int) * 256) = ((256 * a : Nat) : Int) := by omega
  rw [e, u64_or_nat (256 * a) b (by omega) (by omega)]
  have := Nat.two_pow_add_eq_or_of_lt (i := 8) (b := b) (by omega) a
  rw [show (2 : Nat) ^ 8 = 256 from rfl] at this
  rw [this]
end Go.Proofs.YtdmindhjmjnagabGreatDoor
/- What each exported call on a pack.Reader comes to. -/
namespace Go.Proofs.YtdmindhjmjnagabGreatDoor
set_option linter.unusedVariables false
set_option maxRecDepth 100000
open Go.RowKit

theorem conv_bytes {w : World} {sv : Value} {L : List UInt8} {r : Option Nat} (h : BytesIn w sv L r) : (convert 36 9 sv).run Tryz.prog w = .ok (.string (str L)) w := by
  obtain ⟨ad, cap, rfl, hcap, hcs⟩ := h
  rcases hcs with ⟨rfl, rfl, rfl⟩ | ⟨g, off, rfl, _, _, hcell⟩
  · exact run_convert_bytes_nil w 36 5 Tryz.underlying36 Tryz.underlying5 0 0 9 Tryz.underlying9
  · have := run_convert_bytes_arg (P := Tryz.prog) w 36 5 Tryz.underlying36 Tryz.underlying5 g off L.length cap (L.map fun b => (b.toNat : Int)) (by simp) (fun i hi => by
      rw [hcell i _ (bc_at L i hi)]
      simp [hi]) 9 Tryz.underlying9
    rw [str_of] at this
    exact this

def RS.text (s : RS) : List UInt8 := (s.take 1).got (num (s.got 1))
def RS.atext (s : RS) : RS := (s.take 1).take (num (s.got 1))
theorem all_take (l : List UInt8) (k : Nat) (h : k < l.length) (h1 : (l.take k).all (· == 0) = true) (h2 : (((l[k]).toNat : Int) == 0) = true) : (l.take (k + 1)).all (· == 0) = true := by
  have e : l[k] = 0 := by
    have h3 : ((l[k]).toNat : Int) = 0 := by simpa using h2
    have h4 : (l[k]).toNat = (0 : UInt8).toNat := by simp; omega
    exact UInt8.toNat_inj.1 h4
  rw [take_snoc8 l k h, List.all_append, h1, e]
  rfl
theorem all_not (l : List UInt8) (k : Nat) (h : k < l.length) (h2 : (((l[k]).toNat : Int) == 0) = false) : l.all (· == 0) = false := by
  rw [List.all_eq_false]
  refine ⟨l[k], List.getElem_mem h, ?_⟩
  intro e
  have e2 : l[k] = 0 := by simpa using e
  rw [e2] at h2
  simp at h2
end Go.Proofs.YtdmindhjmjnagabGreatDoor
/- pack.Read: a reader of a copy of the bytes that it is given. -/
namespace Go.Proofs.YtdmindhjmjnagabGreatDoor
set_option linter.unusedVariables false
set_option maxRecDepth 100000
open Go.RowKit

theorem own_bytes {w : World} {base : Nat} {sv : Value} {L : List UInt8} (h : w.ownsRow base 5 1 sv L.length (bc L)) : BytesIn w sv L sv.ownBlock := by
  rcases h.2 with ⟨rfl, h0⟩ | ⟨g, cap, cur, rfl, hb, hg, hn, _⟩
  · exact ⟨none, 0, by rw [h0], by omega, .inl ⟨rfl, List.eq_nil_of_length_eq_zero h0, rfl⟩⟩
  · refine ⟨_, cap, rfl, hn, .inr ⟨g, 0, rfl, rfl, (h.lt g rfl).2, fun j u hu => ?_⟩⟩
    have := h.cells (g := g) rfl j u hu
    rw [add_lit] at this
    exact this

end Go.Proofs.YtdmindhjmjnagabGreatDoor
/- Inodes, entries' numbers and chunks as plain data: when one is right, its value, and that there is one of each (mathematics). -/
namespace Go.Proofs.YtdmindhjmjnagabGreatDoor
set_option linter.unusedVariables false
set_option maxRecDepth 100000
open Go.RowKit

/-- An inode: a directory or not, its links, its size. -/
structure Ino where
  d : Bool
  l : Int
  s : Int
theorem Ino.ext' {a b : Ino} (h1 : a.d = b.d) (h2 : a.l = b.l) (h3 : a.s = b.s) : a = b := by
  cases a; cases b; simp_all
def nilI : Ino := ⟨false, 0, 0⟩
def dirI : Ino := ⟨true, 0, 0⟩
def isDir (n : Ino) : Bool := n.d && decide (n.l = 0) && decide (n.s = 0)
def isFil (n : Ino) : Bool := !n.d && decide (1 ≤ n.l) && decide (n.l ≤ 65535) && decide (0 ≤ n.s) && decide (n.s ≤ 1048576)
def rightI (n : Ino) : Bool := isDir n || isFil n
/-- The value of an inode that is right. -/
def valI (n : Ino) : List UInt8 := if n.d = true then [1] else 2 :: (be n.l.toNat 4 ++ be n.s.toNat 4)
def valT (n : Ino) : List UInt8 := if rightI n = true then valI n else []
theorem isDir_eq {n : Ino} (h : isDir n = true) : n = dirI := by
  simp only [isDir, Bool.and_eq_true, decide_eq_true_eq] at h
  exact Ino.ext' h.1.1 h.1.2 h.2
theorem isFil_in {n : Ino} (h : isFil n = true) : n.d = false ∧ 1 ≤ n.l ∧ n.l ≤ 65535 ∧ 0 ≤ n.s ∧ n.s ≤ 1048576 := by
  simp only [isFil, Bool.and_eq_true, decide_eq_true_eq, Bool.not_eq_true'] at h
  exact ⟨h.1.1.1.1, h.1.1.1.2, h.1.1.2, h.1.2, h.2⟩
theorem right_cases {n : Ino} (h : rightI n = true) : n = dirI ∨ (n.d = false ∧ 1 ≤ n.l ∧ n.l ≤ 65535 ∧ 0 ≤ n.s ∧ n.s ≤ 1048576) := by
  rcases Bool.or_eq_true_iff.1 h with h | h
  · exact .inl (isDir_eq h)
  · exact .inr (isFil_in h)
theorem valI_length (n : Ino) : (valI n).length = if n.d = true then 1 else 9 := by
  unfold valI
  split <;> simp [be_length]
theorem valT_length (n : Ino) : (valT n).length ≤ 9 := by
  unfold valT
  split
  · rw [valI_length]; split <;> omega
  · simp

/-- What a reader tells of an inode's value: whichever of both ways it is read. -/
structure SaysI (f : List UInt8 → Ino) : Prop where
  back : ∀ n, rightI n = true → f (valI n) = n
/-- The inode whose value a text is, if there is one. -/
def OfIs (L : List UInt8) (o : Option Ino) : Prop := ∀ n, o = some n ↔ rightI n = true ∧ valI n = L
theorem OfIs.unique {L : List UInt8} {a b : Option Ino} (h : OfIs L a) (k : OfIs L b) : a = b := by
  cases a with
  | none =>
    cases b with
    | none => rfl
    | some n => exact (h n).2 ((k n).1 rfl)
  | some n => exact ((k n).2 ((h n).1 rfl)).symm
def ofI (f : List UInt8 → Ino) (L : List UInt8) : Option Ino := if rightI (f L) = true ∧ valI (f L) = L then some (f L) else none
theorem of_is {f : List UInt8 → Ino} (hf : SaysI f) (L : List UInt8) : OfIs L (ofI f L) := by
  intro n
  unfold ofI
  constructor
  · intro h
    split at h
    next hh => cases h; exact hh
    next => cases h
  · rintro ⟨h1, h2⟩
    have e : f L = n := by rw [← h2]; exact hf.back n h1
    rw [e, if_pos ⟨h1, h2⟩]

/-- The numbers that a reader of a text tells one behind the other. -/
def rd0 (L : List UInt8) : RS := ⟨L, false⟩
def saidI (L : List UInt8) : Ino :=
  if (num ((rd0 L).got 1) : Int) = 1 then dirI
  else if (num ((rd0 L).got 1) : Int) = 2 then ⟨false, num (((rd0 L).take 1).got 4), num ((((rd0 L).take 1).take 4).got 4)⟩
  else nilI
/-- The document's own. -/
def dsaidI (L : List UInt8) : Ino :=
  if (num ((rd0 L).got 1) : Int) = 1 then dirI
  else ⟨false, num (((rd0 L).take 1).got 4), num ((((rd0 L).take 1).take 4).got 4)⟩
theorem got_app (a b : List UInt8) (n : Int) (hn : n = (a.length : Int)) : (rd0 (a ++ b)).got n = a ∧ (rd0 (a ++ b)).take n = rd0 b := by
  subst hn
  unfold RS.got RS.take rd0
  simp only
  have h : ¬ (false = true ∨ (a.length : Int) < 0 ∨ (((a ++ b).length : Nat) : Int) < (a.length : Int)) := by
    rw [List.length_append]
    rintro (h | h | h)
    · cases h
    · omega
    · omega
  rw [if_neg h, if_neg h]
  simp
theorem read_file (n : Ino) (hd : n.d = false) (h1 : 1 ≤ n.l) (h2 : n.l ≤ 65535) (h3 : 0 ≤ n.s) (h4 : n.s ≤ 1048576) :
    (num ((rd0 (valI n)).got 1) : Int) = 2 ∧ (⟨false, num (((rd0 (valI n)).take 1).got 4), num ((((rd0 (valI n)).take 1).take 4).got 4)⟩ : Ino) = n := by
  have e : valI n = [2] ++ (be n.l.toNat 4 ++ (be n.s.toNat 4 ++ [])) := by simp [valI, hd]
  obtain ⟨a1, a2⟩ := got_app [2] (be n.l.toNat 4 ++ (be n.s.toNat 4 ++ [])) 1 rfl
  obtain ⟨b1, b2⟩ := got_app (be n.l.toNat 4) (be n.s.toNat 4 ++ []) 4 (by rw [be_length]; rfl)
  obtain ⟨c1, c2⟩ := got_app (be n.s.toNat 4) [] 4 (by rw [be_length]; rfl)
  rw [e, a1, a2, b1, b2, c1]
  have p4 : (256 : Nat) ^ 4 = 4294967296 := by decide
  rw [num_be 4 _ (by omega), num_be 4 _ (by omega)]
  exact ⟨rfl, Ino.ext' hd.symm (by show ((n.l.toNat : Nat) : Int) = n.l; omega) (by show ((n.s.toNat : Nat) : Int) = n.s; omega)⟩
theorem said_says : SaysI fun L => saidI (L.take 9) := by
  refine ⟨fun n h => ?_⟩
  have hl := valI_length n
  have ht : (valI n).take 9 = valI n := List.take_of_length_le (by rw [hl]; split <;> omega)
  show saidI ((valI n).take 9) = n
  rw [ht]
  rcases right_cases h with rfl | ⟨h0, h1, h2, h3, h4⟩
  · rfl
  · obtain ⟨r1, r2⟩ := read_file n h0 h1 h2 h3 h4
    unfold saidI
    rw [r1, if_neg (by decide), if_pos rfl]
    exact r2
theorem dsaid_says : SaysI dsaidI := by
  refine ⟨fun n h => ?_⟩
  rcases right_cases h with rfl | ⟨h0, h1, h2, h3, h4⟩
  · rfl
  · obtain ⟨r1, r2⟩ := read_file n h0 h1 h2 h3 h4
    unfold dsaidI
    rw [r1, if_neg (by decide)]
    exact r2
theorem num_lt4 (L : List UInt8) (h : L.length ≤ 4) : num L ≤ 4294967295 := by
  have h1 := num_lt L
  have h2 : 256 ^ L.length ≤ 256 ^ 4 := Nat.pow_le_pow_right (by omega) h
  have h3 : (256 : Nat) ^ 4 = 4294967296 := by decide
  omega
theorem got_le (s : RS) (n : Nat) : (s.got n).length ≤ n := by
  have := s.got_length n
  omega

/-- Numbers that an entry may have; their values. -/
def okNum (n : Int) : Bool := decide (1 ≤ n) && decide (n < 1073741824)
def numT (n : Int) : List UInt8 := if okNum n = true then be n.toNat 4 else []
def NmIs (L : List UInt8) (o : Option Int) : Prop := ∀ n, o = some n ↔ okNum n = true ∧ be n.toNat 4 = L
theorem NmIs.unique {L : List UInt8} {a b : Option Int} (h : NmIs L a) (k : NmIs L b) : a = b := by
  cases a with
  | none =>
    cases b with
    | none => rfl
    | some n => exact (h n).2 ((k n).1 rfl)
  | some n => exact ((k n).2 ((h n).1 rfl)).symm
def nmI (f : List UInt8 → Int) (L : List UInt8) : Option Int := if okNum (f L) = true ∧ be (f L).toNat 4 = L then some (f L) else none
theorem okNum_in {n : Int} (h : okNum n = true) : 1 ≤ n ∧ n < 1073741824 := by
  simpa only [okNum, Bool.and_eq_true, decide_eq_true_eq] using h
theorem nm_is {f : List UInt8 → Int} (hf : ∀ n, okNum n = true → f (be n.toNat 4) = n) (L : List UInt8) : NmIs L (nmI f L) := by
  intro n
  unfold nmI
  constructor
  · intro h
    split at h
    next hh => cases h; exact hh
    next => cases h
  · rintro ⟨h1, h2⟩
    have e : f L = n := by rw [← h2]; exact hf n h1
    rw [e, if_pos ⟨h1, h2⟩]
theorem word_back (n : Int) (h : okNum n = true) : (num ((rd0 (be n.toNat 4)).got 4) : Int) = n := by
  obtain ⟨h1, h2⟩ := okNum_in h
  obtain ⟨a1, _⟩ := got_app (be n.toNat 4) [] 4 (by rw [be_length]; rfl)
  rw [List.append_nil] at a1
  have p4 : (256 : Nat) ^ 4 = 4294967296 := by decide
  rw [a1, num_be 4 _ (by omega)]
  omega

/-- Two values that are the same are the same inode's. -/
theorem val_inj {a b : Ino} (ha : rightI a = true) (hb : rightI b = true) (h : valI a = valI b) : a = b := by
  rw [← dsaid_says.back a ha, ← dsaid_says.back b hb, h]
theorem num_inj4 {a b : Int} (ha : okNum a = true) (hb : okNum b = true) (h : be a.toNat 4 = be b.toNat 4) : a = b := by
  rw [← word_back a ha, ← word_back b hb, h]

/-- Noughts at the end, taken away. -/
def trimP (L : List UInt8) : List UInt8 := (L.reverse.dropWhile (· == 0)).reverse
end Go.Proofs.YtdmindhjmjnagabGreatDoor
/- (What was here lies in Be.) -/
namespace Go.Proofs.YtdmindhjmjnagabGreatDoor
set_option linter.unusedVariables false
set_option maxRecDepth 100000
end Go.Proofs.YtdmindhjmjnagabGreatDoor
/- What each call on the document's own reader (wainscotref01.Reader) comes to, in the words of RS. -/
namespace Go.Proofs.YtdmindhjmjnagabGreatDoor
set_option linter.unusedVariables false
set_option maxRecDepth 100000
open Go.RowKit

theorem ext_take (l : List UInt8) (n : Nat) : (str l).extract 0 n = str (l.take n) := by
  apply Go.WideShapes.bytes_inj
  simp [str]
theorem ext_drop (l : List UInt8) (n : Nat) : (str l).extract n (str l).size = str (l.drop n) := by
  apply Go.WideShapes.bytes_inj
  simp [str, ByteArray.size]
  rw [List.take_of_length_le (by simp)]
theorem knum_step (G : List UInt8) (k : Nat) (h : k < G.length) (h' : k < (str G).size) (hv : (num (G.take k) : Int) < 72057594037927936) :
    IntKind.u64.wrap (256 * (num (G.take k) : Int) + IntKind.u64.wrap (((str G)[k]'h').toNat : Int)) = (num (G.take (k + 1)) : Int) := by
  have e : ((str G)[k]'h') = G[k] := rfl
  have hb := (G[k]).toNat_lt
  rw [e, take_snoc8 G k h, num_snoc]
  have e1 : IntKind.u64.wrap ((G[k]).toNat : Int) = ((G[k]).toNat : Int) := by rw [IntKind.wrap_u64]; omega
  rw [e1, IntKind.wrap_u64]
  omega
theorem str_at (l : List UInt8) (k : Nat) (h : k < l.length) : ∃ h', ((str l)[k]'h').toNat = (l[k]).toNat := ⟨by rw [str_size]; exact h, rfl⟩

theorem byte_int (b : UInt8) : (IntKind.u8.wrap (b.toNat : Int)) = (b.toNat : Int) := by
  have := b.toNat_lt
  rw [IntKind.wrap_u8]
  omega
end Go.Proofs.YtdmindhjmjnagabGreatDoor
