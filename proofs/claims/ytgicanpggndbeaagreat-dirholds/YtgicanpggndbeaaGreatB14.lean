import Derived.Test.YtgicanpggndbeaaGreatB12
import Derived.Test.YtgicanpggndbeaaGreatB13
import Derived.Laws.AppendOwnNone
import Derived.Laws.BitsAllLaws
import Derived.Laws.BytesArg
/- What each call on a pack.Writer comes to, in one word a call: the state of a writer as plain data. -/
namespace Go.Proofs.YtgicanpggndbeaaGreat
set_option linter.unusedVariables false
set_option maxRecDepth 100000
open Go.RowKit

/-- A writer as plain data: room, bytes, wrong. -/
structure WS where
  m : Int
  l : List UInt8
  bad : Bool
def WS.fail (s : WS) : WS := ⟨s.m, [], true⟩
def WS.put (s : WS) (x : List UInt8) : WS := if s.bad = true then s else if (s.l.length : Int) + x.length ≤ s.m then ⟨s.m, s.l ++ x, false⟩ else s.fail
def WS.byte (s : WS) (v : Int) : WS := if v < 0 ∨ 256 ≤ v then s.fail else s.put (be v.toNat 1)
def WS.word (s : WS) (v : Int) : WS := if v < 0 ∨ 4294967296 ≤ v then s.fail else s.put (be v.toNat 4)
def WS.long (s : WS) (v : Nat) : WS := s.put (be v 8)
def WS.text (s : WS) (t : ByteArray) : WS := (s.byte t.size).put t.data.toList
def WS.fill (s : WS) (n : Int) : WS := if n < s.l.length then s.fail else s.put (List.replicate (n - s.l.length).toNat 0)

def WrS (w : World) (p : Nat) (s : WS) (r : Option Nat) : Prop := WrAt w p s.m s.l s.bad r
def WrG (p : Nat) (w : World) (r : Option Nat) (s : WS) (w' : World) : Prop := ∃ r', WrS w' p s r' ∧ Touch p r w w' ∧ Near r r' w.heap.size
theorem WrG.of {p : Nat} {m : Int} {w w' : World} {r : Option Nat} {L : List UInt8} {bad : Bool} (h : WrTo p m w r L bad w') : WrG p w r ⟨m, L, bad⟩ w' := h
theorem WrG.trans {w w' w'' : World} {p : Nat} {s' : WS} {r r' : Option Nat} (ht : Touch p r w w') (hn : Near r r' w.heap.size) (k : WrG p w' r' s' w'') : WrG p w r s' w'' := by
  obtain ⟨r'', h1, h2, h3⟩ := k
  exact ⟨r'', h1, ht.trans h2 hn, hn.trans h3 ht.size⟩
theorem WrG.drewN {w w' : World} {p : Nat} {s : WS} {r : Option Nat} {k : Nat} (h : WrG p (w.drewN k) r s w') : WrG p w r s w' := by
  obtain ⟨r', h1, h2, h3⟩ := h
  exact ⟨r', h1, ⟨h2.os, h2.tape, h2.output, h2.size, h2.block⟩, h3⟩
theorem WrS.failed {w : World} {p : Nat} {s : WS} {r : Option Nat} (h : WrS w p s r) : WrG p w r s.fail ((w.setCell ⟨p, 2, none⟩ (.bool true)).setCell ⟨p, 1, none⟩ (.slice none 0 0)) := WrAt.failed h
theorem WrS.lt {w : World} {p : Nat} {s : WS} {r : Option Nat} (h : WrS w p s r) : p < w.heap.size ∧ ∀ k, r = some k → p < k ∧ k < w.heap.size := WrAt.lt h
theorem WrS.kept {w w' : World} {p : Nat} {s : WS} {r : Option Nat} (h : WrS w p s r) (hp : w'.heap[p]? = w.heap[p]?) (hr : ∀ k, r = some k → w'.heap[k]? = w.heap[k]?) : WrS w' p s r := WrAt.kept h hp hr

theorem number_calls (w : World) (p v n : Nat) (s : WS) (r : Option Nat) (h : WrS w p s r) (hn : n ≤ 8) :
    Calls Tryz.prog 144 #[.pointer (some ⟨p, 0, none⟩), .int .u64 (v : Int), .int .i64 (n : Int)] w fun e w' => e = .returned (.tuple #[]) ∧ WrG p w r (s.put (be v n)) w' := by
  obtain ⟨m, L, bad⟩ := s
  have hb := be_length v n
  unfold WS.put
  cases bad with
  | true => exact number_bad w p m v n L r h
  | false =>
    by_cases hl : (L.length : Int) + (be v n).length ≤ m
    · rw [if_neg (by simp), if_pos hl]
      exact number_ok w p m v n L r h (by rw [hb] at hl; exact hl) hn
    · rw [if_neg (by simp), if_neg hl]
      exact number_full w p m v n L r h (by rw [hb] at hl; omega)

theorem fail_calls (w : World) (p : Nat) (s : WS) (r : Option Nat) (h : WrS w p s r) :
    Calls Tryz.prog 143 #[.pointer (some ⟨p, 0, none⟩)] w fun e w' => e = .returned (.tuple #[]) ∧ WrG p w r s.fail w' := by
  obtain ⟨a, c, h1, _⟩ := WrAt.op h
  refine (fail_any w p s.m _ s.bad h1).mono ?_
  rintro e w' ⟨rfl, rfl⟩
  exact ⟨rfl, h.failed⟩


set_option maxHeartbeats 400000 in
theorem small1_neg (w : World) (p : Nat) (v : Int) (s : WS) (r : Option Nat) (h : WrS w p s r) (hv : v < 0) :
    Calls Tryz.prog 108 #[.pointer (some ⟨p, 0, none⟩), .int .i64 v, .int .i64 1] w fun e w' => e = .returned (.tuple #[]) ∧ WrG p w r s.fail w' := by
  go_enter Tryz.func108, Tryz.ntmps108
  go_wp2_with (go_at_call 143; refine (fail_calls _ p s r h).mono ?_; rintro e w' ⟨rfl, hg⟩)
  ((try simp only [Exit.inBlock, Exit.then]); refine bodyPost_ret (results_none rfl _ _ _) rfl ?_)
  exact ⟨rfl, hg⟩
set_option maxHeartbeats 400000 in
theorem small1_big (w : World) (p : Nat) (v : Int) (s : WS) (r : Option Nat) (h : WrS w p s r) (hv : 256 ≤ v) (hv2 : v ≤ 9223372036854775807) :
    Calls Tryz.prog 108 #[.pointer (some ⟨p, 0, none⟩), .int .i64 v, .int .i64 1] w fun e w' => e = .returned (.tuple #[]) ∧ WrG p w r s.fail w' := by
  have hq : (v / 256 != 0) = true := by rw [bne_iff_ne]; omega
  have hn : ¬ v < 0 := by omega
  go_enter Tryz.func108, Tryz.ntmps108
  go_wp2_with (go_at_call 143; refine (fail_calls _ p s r h).mono ?_; rintro e w' ⟨rfl, hg⟩)
  ((try simp only [Exit.inBlock, Exit.then]); refine bodyPost_ret (results_none rfl _ _ _) rfl ?_)
  exact ⟨rfl, hg⟩
set_option maxHeartbeats 400000 in
theorem small1_ok (w : World) (p : Nat) (v : Nat) (s : WS) (r : Option Nat) (h : WrS w p s r) (hv : v < 256) :
    Calls Tryz.prog 108 #[.pointer (some ⟨p, 0, none⟩), .int .i64 (v : Int), .int .i64 1] w fun e w' => e = .returned (.tuple #[]) ∧ WrG p w r (s.put (be v 1)) w' := by
  have hq : ((v : Int) / 256 != 0) = false := by rw [bne_eq_false_iff_eq]; omega
  have hn : ¬ (v : Int) < 0 := by omega
  go_enter Tryz.func108, Tryz.ntmps108
  go_wp2_with (go_at_call 144; refine (number_calls _ p v 1 s r h (by omega)).mono ?_; rintro e w' ⟨rfl, hg⟩)
  go_end0
  exact ⟨rfl, hg⟩
theorem small1_calls (w : World) (p : Nat) (v : Int) (s : WS) (r : Option Nat) (h : WrS w p s r) (hv : v ≤ 9223372036854775807) :
    Calls Tryz.prog 108 #[.pointer (some ⟨p, 0, none⟩), .int .i64 v, .int .i64 1] w fun e w' => e = .returned (.tuple #[]) ∧ WrG p w r (s.byte v) w' := by
  unfold WS.byte
  by_cases h0 : v < 0
  · rw [if_pos (.inl h0)]; exact small1_neg w p v s r h h0
  · by_cases h1 : 256 ≤ v
    · rw [if_pos (.inr h1)]; exact small1_big w p v s r h h1 hv
    · rw [if_neg (by omega)]
      obtain ⟨n, rfl⟩ := Int.eq_ofNat_of_zero_le (show 0 ≤ v by omega)
      rw [Int.toNat_natCast]
      exact small1_ok w p n s r h (by omega)
set_option maxHeartbeats 400000 in
theorem small4_neg (w : World) (p : Nat) (v : Int) (s : WS) (r : Option Nat) (h : WrS w p s r) (hv : v < 0) :
    Calls Tryz.prog 108 #[.pointer (some ⟨p, 0, none⟩), .int .i64 v, .int .i64 4] w fun e w' => e = .returned (.tuple #[]) ∧ WrG p w r s.fail w' := by
  go_enter Tryz.func108, Tryz.ntmps108
  go_wp2_with (go_at_call 143; refine (fail_calls _ p s r h).mono ?_; rintro e w' ⟨rfl, hg⟩)
  ((try simp only [Exit.inBlock, Exit.then]); refine bodyPost_ret (results_none rfl _ _ _) rfl ?_)
  exact ⟨rfl, hg⟩
set_option maxHeartbeats 400000 in
theorem small4_big (w : World) (p : Nat) (v : Int) (s : WS) (r : Option Nat) (h : WrS w p s r) (hv : 4294967296 ≤ v) (hv2 : v ≤ 9223372036854775807) :
    Calls Tryz.prog 108 #[.pointer (some ⟨p, 0, none⟩), .int .i64 v, .int .i64 4] w fun e w' => e = .returned (.tuple #[]) ∧ WrG p w r s.fail w' := by
  have hq : (v / 4294967296 != 0) = true := by rw [bne_iff_ne]; omega
  have hn : ¬ v < 0 := by omega
  go_enter Tryz.func108, Tryz.ntmps108
  go_wp2_with (go_at_call 143; refine (fail_calls _ p s r h).mono ?_; rintro e w' ⟨rfl, hg⟩)
  ((try simp only [Exit.inBlock, Exit.then]); refine bodyPost_ret (results_none rfl _ _ _) rfl ?_)
  exact ⟨rfl, hg⟩
set_option maxHeartbeats 400000 in
theorem small4_ok (w : World) (p : Nat) (v : Nat) (s : WS) (r : Option Nat) (h : WrS w p s r) (hv : v < 4294967296) :
    Calls Tryz.prog 108 #[.pointer (some ⟨p, 0, none⟩), .int .i64 (v : Int), .int .i64 4] w fun e w' => e = .returned (.tuple #[]) ∧ WrG p w r (s.put (be v 4)) w' := by
  have hq : ((v : Int) / 4294967296 != 0) = false := by rw [bne_eq_false_iff_eq]; omega
  have hn : ¬ (v : Int) < 0 := by omega
  go_enter Tryz.func108, Tryz.ntmps108
  go_wp2_with (go_at_call 144; refine (number_calls _ p v 4 s r h (by omega)).mono ?_; rintro e w' ⟨rfl, hg⟩)
  go_end0
  exact ⟨rfl, hg⟩
theorem small4_calls (w : World) (p : Nat) (v : Int) (s : WS) (r : Option Nat) (h : WrS w p s r) (hv : v ≤ 9223372036854775807) :
    Calls Tryz.prog 108 #[.pointer (some ⟨p, 0, none⟩), .int .i64 v, .int .i64 4] w fun e w' => e = .returned (.tuple #[]) ∧ WrG p w r (s.word v) w' := by
  unfold WS.word
  by_cases h0 : v < 0
  · rw [if_pos (.inl h0)]; exact small4_neg w p v s r h h0
  · by_cases h1 : 4294967296 ≤ v
    · rw [if_pos (.inr h1)]; exact small4_big w p v s r h h1 hv
    · rw [if_neg (by omega)]
      obtain ⟨n, rfl⟩ := Int.eq_ofNat_of_zero_le (show 0 ≤ v by omega)
      rw [Int.toNat_natCast]
      exact small4_ok w p n s r h (by omega)
set_option maxHeartbeats 400000 in
theorem word_calls (w : World) (p : Nat) (v : Int) (s : WS) (r : Option Nat) (h : WrS w p s r) (hv : v ≤ 9223372036854775807) :
    Calls Tryz.prog 65 #[.pointer (some ⟨p, 0, none⟩), .int .i64 v] w fun e w' => e = .returned (.tuple #[]) ∧ WrG p w r (s.word v) w' := by
  go_enter Tryz.func65, Tryz.ntmps65
  go_wp2_with (go_at_call 108; refine (small4_calls _ p v s r h hv).mono ?_; rintro e w' ⟨rfl, hg⟩)
  go_end0
  exact ⟨rfl, hg⟩

/-- Behind an append to the writer's row and the store of the new value, whatever the new value is. -/
theorem wr_store {w w1 : World} {p : Nat} {m : Int} {L L' : List UInt8} {sv1 : Value} {a : Option Addr} {c N : Nat}
    (h1 : w.heap[p]? = some (.cells #[.int .i64 m, sv1, .bool false] 169 (0, 0))) (ho1 : w.ownsRow (p + 1) 5 1 sv1 L.length (bc L))
    (hown : w1.ownsRow (p + 1) 5 1 (.slice a N c) N (bc L')) (hN : N = L'.length) (hgrow : w.grownBy w1 sv1.ownBlock) (hat : (Value.slice a N c).ownBlock = sv1.ownBlock ∨ (Value.slice a N c).ownBlock = some w.heap.size)
    (hm0 : 0 ≤ m) (hm1 : m ≤ 2147483647) (hl : (L'.length : Int) ≤ m) : WrG p w sv1.ownBlock ⟨m, L', false⟩ (w1.setCell ⟨p, 1, none⟩ (.slice a N c)) := by
  subst hN
  have hp := lt_of_block h1
  have hpw1 : w1.heap[p]? = some (.cells #[.int .i64 m, sv1, .bool false] 169 (0, 0)) := by
    rw [hgrow.block p hp (fun e => by have := ho1.lt p e.symm; omega)]; exact h1
  refine ⟨_, ⟨_, (set3 hpw1).2.1, ?_, rfl, hm0, hm1, hl⟩, ((Touch.refl p _ w).grown hgrow).setCell _ _, ?_⟩
  · exact ownsRow_setCell_below hown (by simp) _
  · intro k hk
    rcases hat with e | e
    · exact .inl (e ▸ hk)
    · rw [e] at hk
      cases hk
      exact .inr (Nat.le_refl _)

end Go.Proofs.YtgicanpggndbeaaGreat
/- pack.New and Writer.Done: what they come to. -/
namespace Go.Proofs.YtgicanpggndbeaaGreat
set_option linter.unusedVariables false
set_option maxRecDepth 100000
open Go.RowKit

theorem new_calls (w : World) (n : Int) (h0 : 0 ≤ n) (h1 : n ≤ 2147483647) :
    Calls Tryz.prog 64 #[.int .i64 n] w fun e w' => e = .returned (.pointer (some ⟨w.heap.size, 0, none⟩)) ∧ WrS w' w.heap.size ⟨n, [], false⟩ none ∧ Below w.heap.size w w' := by
  refine (new_any w n h0 h1).mono ?_
  rintro e w' ⟨rfl, rfl⟩
  exact ⟨rfl, ⟨_, heap_alloc_new _ _, World.ownsRow_nil _ _ _ _, rfl, h0, h1, by simpa using h0⟩, (Below.refl _ _).alloc (Nat.le_refl _) _⟩

set_option maxHeartbeats 400000 in
theorem done_bad (w : World) (p : Nat) (s : WS) (r : Option Nat) (h : WrS w p s r) (hb : s.bad = true) :
    Calls Tryz.prog 109 #[.pointer (some ⟨p, 0, none⟩)] w fun e w' => e = .returned (.tuple #[.slice none 0 0, .bool false]) ∧ w' = w := by
  obtain ⟨a, c, h1, _⟩ := WrAt.op h
  rw [hb] at h1
  obtain ⟨c0, c1, c2⟩ := cells3 h1
  clear h1 hb
  go_enter Tryz.func109, Tryz.ntmps109
  go_wp2
  go_ret2
  exact ⟨rfl, rfl⟩
set_option maxHeartbeats 400000 in
theorem done_none (w : World) (p c : Nat) (m : Int) (h1 : w.heap[p]? = some (.cells #[.int .i64 m, .slice none 0 0, .bool false] 169 (0, 0))) :
    Calls Tryz.prog 109 #[.pointer (some ⟨p, 0, none⟩)] w fun e w' => ∃ a c, e = .returned (.tuple #[.slice a 0 c, .bool true]) ∧ w'.ownsRow w.heap.size 5 1 (.slice a 0 c) 0 [] ∧ Below w.heap.size w w' := by
  obtain ⟨i0, hi, hz0, hz1, hz2⟩ := info_parts Tryz.info_u8
  obtain ⟨c0, c1, c2⟩ := cells3 h1
  have hp := lt_of_block h1
  clear h1
  go_enter Tryz.func109, Tryz.ntmps109
  go_wp2_with (at_builtin; refine wpList_append_own_none rfl (.tmp 8) (.tmp 12) 140 rfl w.heap.size 5 i0 1 Tryz.underlying140 hi (.slice (some ⟨w.heap.size, 0, none⟩) 0 0) 0 [] rfl (World.ownsRow_made w #[] 0 (Nat.le_refl _) (by unfold maxLen; omega) rfl) rfl ?_)
  go_ret2
  exact ⟨_, _, rfl, World.ownsRow_made w #[] 0 (Nat.le_refl _) (by unfold maxLen; omega) rfl, (Below.refl _ _).alloc (Nat.le_refl _) _⟩
set_option maxHeartbeats 400000 in
theorem done_some (w : World) (p c g : Nat) (m : Int) (L : List UInt8) (h1 : w.heap[p]? = some (.cells #[.int .i64 m, .slice (some ⟨g, 0, none⟩) L.length c, .bool false] 169 (0, 0))) (ho : w.ownsRow (p + 1) 5 1 (.slice (some ⟨g, 0, none⟩) L.length c) L.length (bc L)) (hl : (L.length : Int) ≤ 2147483647) :
    Calls Tryz.prog 109 #[.pointer (some ⟨p, 0, none⟩)] w fun e w' => ∃ a c, e = .returned (.tuple #[.slice a L.length c, .bool true]) ∧ w'.ownsRow w.heap.size 5 1 (.slice a L.length c) L.length (bc L) ∧ Below w.heap.size w w' := by
  obtain ⟨i0, hi, hz0, hz1, hz2⟩ := info_parts Tryz.info_u8
  obtain ⟨c0, c1, c2⟩ := cells3 h1
  have hp := lt_of_block h1
  have hg := (ho.lt g rfl).2
  clear h1
  have hcs : ∀ j u, (bc L)[j]? = some u → (w.alloc (.cells #[] 5)).cell? ((⟨g, 0, none⟩ : Addr).add j) = some u := (ho.alloc _).cells rfl
  go_enter Tryz.func109, Tryz.ntmps109
  go_wp2_with (at_builtin; refine wpList_append_own _ rfl (.tmp 8) (.tmp 12) 140 rfl w.heap.size 5 i0 (.int .u8 0) 1 1 Tryz.underlying140 hi hz0 hz1 hz2 rfl (by decide) (.slice (some ⟨w.heap.size, 0, none⟩) 0 0) 0 [] rfl (World.ownsRow_made w #[] 0 (Nat.le_refl _) (by unfold maxLen; omega) rfl) ⟨g, 0, none⟩ L.length c (bc L) rfl (by rw [bc_length]; omega) hcs (bc_one L) (by unfold maxLen; omega) (by omega) (by simp) ?_; intro v' w1 hown hgrow _)
  go_ret2
  obtain ⟨a, c', rfl⟩ := own_form hown
  refine ⟨a, c', ?_, ?_, ?_⟩
  · simp
  · simpa using hown
  · exact ((Below.refl _ _).alloc (Nat.le_refl _) _).grown hgrow (by simp) (fun k hk => by simp [Value.ownBlock] at hk; omega)

/-- Done of a writer that is right: its bytes, in a row of their own; nothing that was there has turned. -/
theorem done_ok (w : World) (p : Nat) (s : WS) (r : Option Nat) (h : WrS w p s r) (hb : s.bad = false) :
    Calls Tryz.prog 109 #[.pointer (some ⟨p, 0, none⟩)] w fun e w' => ∃ a c, e = .returned (.tuple #[.slice a s.l.length c, .bool true]) ∧ w'.ownsRow w.heap.size 5 1 (.slice a s.l.length c) s.l.length (bc s.l) ∧ Below w.heap.size w w' := by
  obtain ⟨sv, h1, ho, _, hm0, hm1, hl⟩ := h
  rw [hb] at h1
  rcases ho.2 with ⟨rfl, h0⟩ | ⟨g, cap, cur, rfl, _⟩
  · have e : s.l = [] := List.eq_nil_of_length_eq_zero h0
    rw [e]
    exact done_none w p 0 s.m h1
  · exact done_some w p cap g s.m s.l h1 ho (by omega)
end Go.Proofs.YtgicanpggndbeaaGreat
/- What each call on a pack.Reader comes to: the state of a reader as plain data. -/
namespace Go.Proofs.YtgicanpggndbeaaGreat
set_option linter.unusedVariables false
set_option maxRecDepth 100000
open Go.RowKit

/-- A reader as plain data: the bytes that are left, wrong. -/
structure RS where
  l : List UInt8
  bad : Bool

/-- A slice of bytes: they are L, and lie in the row r. -/
def BytesIn (w : World) (sv : Value) (L : List UInt8) (r : Option Nat) : Prop :=
  ∃ ad cap, sv = .slice ad L.length cap ∧ L.length ≤ cap ∧
    ((ad = none ∧ L = [] ∧ cap = 0) ∨ ∃ g off, ad = some ⟨g, off, none⟩ ∧ r = some g ∧ g < w.heap.size ∧ ∀ j u, (bc L)[j]? = some u → w.cell? ⟨g, off + j, none⟩ = some u)
def RdS (w : World) (p : Nat) (s : RS) (r : Option Nat) : Prop :=
  ∃ sv, w.heap[p]? = some (.cells #[sv, .bool s.bad] 220 (0, 0)) ∧ BytesIn w sv s.l r ∧ (s.bad = true → s.l = []) ∧ r ≠ some p
def RdG (p : Nat) (w : World) (r : Option Nat) (s : RS) (w' : World) : Prop := RdS w' p s r ∧ Touch p none w w'

theorem BytesIn.kept {w w' : World} {sv : Value} {L : List UInt8} {r : Option Nat} (h : BytesIn w sv L r) (hr : ∀ k, r = some k → w'.heap[k]? = w.heap[k]?) : BytesIn w' sv L r := by
  obtain ⟨ad, cap, h1, h2, h3⟩ := h
  refine ⟨ad, cap, h1, h2, ?_⟩
  rcases h3 with h3 | ⟨g, off, h4, h5, h6, h7⟩
  · exact .inl h3
  · have hb := hr g h5
    refine .inr ⟨g, off, h4, h5, ?_, fun j u hu => (World.cell?_of_block (w := w) hb).trans (h7 j u hu)⟩
    have h8 : w'.heap[g]? = some w.heap[g] := hb.trans (by simp [h6])
    exact (Array.getElem?_eq_some_iff.1 h8).1
theorem RdS.kept {w w' : World} {p : Nat} {s : RS} {r : Option Nat} (h : RdS w p s r) (hp : w'.heap[p]? = w.heap[p]?) (hr : ∀ k, r = some k → w'.heap[k]? = w.heap[k]?) : RdS w' p s r := by
  obtain ⟨sv, h1, h2, h3, h4⟩ := h
  exact ⟨sv, hp.trans h1, h2.kept hr, h3, h4⟩
theorem RdS.lt {w : World} {p : Nat} {s : RS} {r : Option Nat} (h : RdS w p s r) : p < w.heap.size := by
  obtain ⟨sv, h1, _⟩ := h
  exact lt_of_block h1

def RS.got (s : RS) (n : Int) : List UInt8 := if s.bad = true ∨ n < 0 ∨ (s.l.length : Int) < n then [] else s.l.take n.toNat
def RS.take (s : RS) (n : Int) : RS := if s.bad = true ∨ n < 0 ∨ (s.l.length : Int) < n then ⟨[], true⟩ else ⟨s.l.drop n.toNat, false⟩
theorem RS.got_length (s : RS) (n : Int) : ((s.got n).length : Int) ≤ n ∨ (s.got n).length = 0 := by
  unfold RS.got
  split
  · exact .inr rfl
  · left
    simp
    omega
theorem bc_at (l : List UInt8) (j : Nat) (h : j < l.length) : (bc l)[j]? = some (.int .u8 (l[j].toNat : Int)) := by simp [bc, h]
theorem take_setCells {w : World} {p : Nat} {sv : Value} {b : Bool} {r : Option Nat} (h1 : w.heap[p]? = some (.cells #[sv, .bool b] 220 (0, 0))) (hr : r ≠ some p) :
    RdG p w r ⟨[], true⟩ ((w.setCell ⟨p, 1, none⟩ (.bool true)).setCell ⟨p, 0, none⟩ (.slice none 0 0)) :=
  ⟨⟨_, (set2 (set2 h1).2).1, ⟨none, 0, rfl, Nat.le_refl _, .inl ⟨rfl, rfl, rfl⟩⟩, fun _ => rfl, hr⟩, ((Touch.refl _ _ _).setCell _ _).setCell _ _⟩

set_option maxHeartbeats 400000 in
theorem take_no_bad (w : World) (p : Nat) (n : Int) (sv : Value) (h1 : w.heap[p]? = some (.cells #[sv, .bool true] 220 (0, 0))) :
    Calls Tryz.prog 152 #[.pointer (some ⟨p, 0, none⟩), .int .i64 n] w fun e w' => e = .returned (.slice none 0 0) ∧ w' = (w.setCell ⟨p, 1, none⟩ (.bool true)).setCell ⟨p, 0, none⟩ (.slice none 0 0) := by
  obtain ⟨c0, c1⟩ := cells2 h1
  obtain ⟨f0, f1⟩ := free2 h1
  clear h1
  go_enter Tryz.func152, Tryz.ntmps152
  go_wp2
  go_ret
  exact ⟨rfl, rfl⟩
set_option maxHeartbeats 400000 in
theorem take_no_neg (w : World) (p : Nat) (n : Int) (sv : Value) (h1 : w.heap[p]? = some (.cells #[sv, .bool false] 220 (0, 0))) (hn : n < 0) :
    Calls Tryz.prog 152 #[.pointer (some ⟨p, 0, none⟩), .int .i64 n] w fun e w' => e = .returned (.slice none 0 0) ∧ w' = (w.setCell ⟨p, 1, none⟩ (.bool true)).setCell ⟨p, 0, none⟩ (.slice none 0 0) := by
  obtain ⟨c0, c1⟩ := cells2 h1
  obtain ⟨f0, f1⟩ := free2 h1
  clear h1
  go_enter Tryz.func152, Tryz.ntmps152
  go_wp2
  go_ret
  exact ⟨rfl, rfl⟩
set_option maxHeartbeats 400000 in
theorem take_no_big (w : World) (p : Nat) (n : Int) (a : Option Addr) (l c : Nat) (h1 : w.heap[p]? = some (.cells #[.slice a l c, .bool false] 220 (0, 0))) (hn : (l : Int) < n) :
    Calls Tryz.prog 152 #[.pointer (some ⟨p, 0, none⟩), .int .i64 n] w fun e w' => e = .returned (.slice none 0 0) ∧ w' = (w.setCell ⟨p, 1, none⟩ (.bool true)).setCell ⟨p, 0, none⟩ (.slice none 0 0) := by
  obtain ⟨c0, c1⟩ := cells2 h1
  obtain ⟨f0, f1⟩ := free2 h1
  clear h1
  have h0 : ¬ n < 0 := by omega
  go_enter Tryz.func152, Tryz.ntmps152
  go_wp2
  go_ret
  exact ⟨rfl, rfl⟩
set_option maxHeartbeats 400000 in
theorem take_yes (w : World) (p n l c : Nat) (a : Option Addr) (h1 : w.heap[p]? = some (.cells #[.slice a l c, .bool false] 220 (0, 0))) (hn : n ≤ l) (hc : l ≤ c) :
    Calls Tryz.prog 152 #[.pointer (some ⟨p, 0, none⟩), .int .i64 (n : Int)] w fun e w' => e = .returned (.slice a n c) ∧ w' = w.setCell ⟨p, 0, none⟩ (.slice (if c = n then a else a.map (·.add n)) (l - n) (c - n)) := by
  obtain ⟨c0, c1⟩ := cells2 h1
  obtain ⟨f0, f1⟩ := free2 h1
  clear h1
  have h0 : ¬ (n : Int) < 0 := by omega
  have h2 : ¬ (l : Int) < (n : Int) := by omega
  by_cases hcn : c = n
  · subst hcn
    rw [if_pos rfl]
    go_enter Tryz.func152, Tryz.ntmps152
    go_wp2
    go_ret
    exact ⟨rfl, rfl⟩
  · rw [if_neg hcn]
    go_enter Tryz.func152, Tryz.ntmps152
    go_wp2
    go_ret
    exact ⟨rfl, rfl⟩

theorem add_lit (g off n : Nat) : (⟨g, off, none⟩ : Addr).add n = ⟨g, off + n, none⟩ := by unfold Addr.add; split <;> simp_all
theorem bc_get {l : List UInt8} {j : Nat} {u : Value} (h : (bc l)[j]? = some u) : j < l.length := by
  have := (List.getElem?_eq_some_iff.1 h).1
  rwa [bc_length] at this
theorem bc_take {l : List UInt8} {n j : Nat} {u : Value} (h : (bc (l.take n))[j]? = some u) : (bc l)[j]? = some u := by
  have hj := bc_get h
  rw [List.length_take] at hj
  rw [bc_at _ _ (by rw [List.length_take]; omega)] at h
  rw [bc_at _ _ (by omega)]
  simpa using h
theorem bc_drop {l : List UInt8} {n j : Nat} {u : Value} (h : (bc (l.drop n))[j]? = some u) : (bc l)[n + j]? = some u := by
  have hj := bc_get h
  rw [List.length_drop] at hj
  rw [bc_at _ _ (by rw [List.length_drop]; omega)] at h
  rw [bc_at _ _ (by omega)]
  simpa using h

/-- take: so many bytes, or none, and wrong. -/
theorem ptake_calls (w : World) (p : Nat) (n : Int) (s : RS) (r : Option Nat) (h : RdS w p s r) :
    Calls Tryz.prog 152 #[.pointer (some ⟨p, 0, none⟩), .int .i64 n] w fun e w' => ∃ sv, e = .returned sv ∧ BytesIn w' sv (s.got n) r ∧ RdG p w r (s.take n) w' := by
  obtain ⟨sv, h1, h2, h3, h4⟩ := h
  have nil : ∀ w', BytesIn w' (.slice none 0 0) [] r := fun w' => ⟨none, 0, rfl, Nat.le_refl _, .inl ⟨rfl, rfl, rfl⟩⟩
  obtain ⟨L, bad⟩ := s
  unfold RS.got RS.take
  simp only at h1 h2 h3 ⊢
  obtain ⟨ad, cap, rfl, hcap, hcs⟩ := h2
  cases bad with
  | true =>
    rw [if_pos (.inl rfl), if_pos (.inl rfl)]
    refine (take_no_bad w p n _ h1).mono ?_
    rintro e w' ⟨rfl, rfl⟩
    exact ⟨_, rfl, nil _, take_setCells h1 h4⟩
  | false =>
    by_cases hn : n < 0
    · rw [if_pos (.inr (.inl hn)), if_pos (.inr (.inl hn))]
      refine (take_no_neg w p n _ h1 hn).mono ?_
      rintro e w' ⟨rfl, rfl⟩
      exact ⟨_, rfl, nil _, take_setCells h1 h4⟩
    · by_cases hl : (L.length : Int) < n
      · rw [if_pos (.inr (.inr hl)), if_pos (.inr (.inr hl))]
        refine (take_no_big w p n ad L.length cap h1 hl).mono ?_
        rintro e w' ⟨rfl, rfl⟩
        exact ⟨_, rfl, nil _, take_setCells h1 h4⟩
      · have hc : ¬ (false = true ∨ n < 0 ∨ (L.length : Int) < n) := by simp; omega
        rw [if_neg hc, if_neg hc]
        obtain ⟨k, rfl⟩ := Int.eq_ofNat_of_zero_le (show 0 ≤ n by omega)
        rw [Int.toNat_natCast]
        refine (take_yes w p k L.length cap ad h1 (by omega) hcap).mono ?_
        rintro e w' ⟨rfl, rfl⟩
        have ht : (L.take k).length = k := by rw [List.length_take]; omega
        have hd : (L.drop k).length = L.length - k := List.length_drop
        have hblk : ∀ g, r = some g → (w.setCell ⟨p, 0, none⟩ (.slice (if cap = k then ad else ad.map (·.add k)) (L.length - k) (cap - k))).heap[g]? = w.heap[g]? := fun g hg => Below.heap_setCell _ _ _ _ (fun e => h4 (by rw [hg]; simp at e; rw [e]))
        have B1 : BytesIn w (.slice ad k cap) (L.take k) r := by
          refine ⟨ad, cap, by rw [ht], by omega, ?_⟩
          rcases hcs with ⟨ha, hL, hcp⟩ | ⟨g, off, ha, hg, hlt, hcell⟩
          · exact .inl ⟨ha, by rw [hL]; simp, hcp⟩
          · exact .inr ⟨g, off, ha, hg, hlt, fun j u hu => hcell j u (bc_take hu)⟩
        have B2 : BytesIn w (.slice (if cap = k then ad else ad.map (·.add k)) (L.length - k) (cap - k)) (L.drop k) r := by
          refine ⟨_, cap - k, by rw [hd], by omega, ?_⟩
          rcases hcs with ⟨ha, hL, hcp⟩ | ⟨g, off, ha, hg, hlt, hcell⟩
          · refine .inl ⟨?_, by rw [hL]; simp, by omega⟩
            rw [ha]; split <;> rfl
          · by_cases hck : cap = k
            · rw [if_pos hck]
              refine .inr ⟨g, off, ha, hg, hlt, fun j u hu => ?_⟩
              have := bc_get hu
              omega
            · rw [if_neg hck, ha]
              refine .inr ⟨g, off + k, by rw [Option.map_some, add_lit], hg, hlt, fun j u hu => ?_⟩
              rw [Nat.add_assoc]
              exact hcell (k + j) u (bc_drop hu)
        exact ⟨_, rfl, B1.kept hblk, ⟨_, (set2 h1).1, B2.kept hblk, (fun e => by cases e), h4⟩, (Touch.refl _ _ _).setCell _ _⟩

theorem or_byte (a b : Nat) (ha : a < 72057594037927936) (hb : b < 256) : bits .or .u64 ((a : Int) * 256) (b : Int) = ((256 * a + b : Nat) : Int) := by
  have e : ((a : Int) * 256) = ((256 * a : Nat) : Int) := by omega
  rw [e, u64_or_nat (256 * a) b (by omega) (by omega)]
  have := Nat.two_pow_add_eq_or_of_lt (i := 8) (b := b) (by omega) a
  rw [show (2 : Nat) ^ 8 = 256 from rfl] at this
  rw [this]
set_option maxHeartbeats 400000 in
theorem number_reads (w : World) (p n : Nat) (s : RS) (r : Option Nat) (h : RdS w p s r) (hn : n ≤ 8) :
    Calls Tryz.prog 127 #[.pointer (some ⟨p, 0, none⟩), .int .i64 (n : Int)] w fun e w' => e = .returned (.int .u64 (num (s.got n) : Int)) ∧ RdG p w r (s.take n) w' := by
  have hgl : (s.got n).length ≤ 8 := by rcases s.got_length n with e | e <;> omega
  go_enter Tryz.func127, Tryz.ntmps127
  go_wp2_with (go_at_call 152; refine (ptake_calls _ p n s r h).mono ?_; rintro e w1 ⟨sv, rfl, ⟨ad, cap, rfl, hcap, hcs⟩, hg⟩)
  have HG0 : Hid (s.got n = s.got n) := rfl
  generalize hG : s.got n = G at hgl hcap hcs ⊢
  have HG : Hid (s.got n = G) := hG
  clear hG HG0
  go_loop [5, 7, 12] (fun v _ i => ∃ k : Nat, k ≤ G.length ∧ i = .int .i64 k ∧ v = .int .u64 (num (G.take k) : Int)) (fun _ _ i => G.length - (intOf i).toNat)
  case atStart => exact ⟨0, Nat.zero_le _, rfl, rfl⟩
  case round =>
    obtain ⟨k, hk, rfl, rfl⟩ := hrel
    by_cases hlt : k < G.length
    · rcases hcs with ⟨_, hL, _⟩ | ⟨g, off, rfl, _, _, hcell⟩
      · rw [hL] at hlt; simp at hlt
      · have hc := hcell k _ (bc_at G k hlt)
        have hv := num_small7 (l := G.take k) (by rw [List.length_take]; omega)
        have hb := (G[k]).toNat_lt
        have HV : Hid (bits .or .u64 ((num (G.take k) : Int) * 256) ((G[k]).toNat : Int) = (num (G.take (k + 1)) : Int)) := by
          rw [take_snoc8 G k hlt, num_snoc]
          exact or_byte _ _ hv hb
        clear hcell
        go_wp2
        go_round
        case rel => exact ⟨k + 1, by omega, by go_num, by rw [HV.out]⟩
        case measure => simp [intOf]; omega
    · have e : k = G.length := by omega
      subst e
      go_wp2
      go_ret
      rw [HG.out]
      exact ⟨by simp, hg⟩
end Go.Proofs.YtgicanpggndbeaaGreat
/- What each exported call on a pack.Reader comes to. -/
namespace Go.Proofs.YtgicanpggndbeaaGreat
set_option linter.unusedVariables false
set_option maxRecDepth 100000
open Go.RowKit

theorem conv_bytes {w : World} {sv : Value} {L : List UInt8} {r : Option Nat} (h : BytesIn w sv L r) : (convert 140 9 sv).run Tryz.prog w = .ok (.string (str L)) w := by
  obtain ⟨ad, cap, rfl, hcap, hcs⟩ := h
  rcases hcs with ⟨rfl, rfl, rfl⟩ | ⟨g, off, rfl, _, _, hcell⟩
  · exact run_convert_bytes_nil w 140 5 Tryz.underlying140 Tryz.underlying5 0 0 9 Tryz.underlying9
  · have := run_convert_bytes_arg (P := Tryz.prog) w 140 5 Tryz.underlying140 Tryz.underlying5 g off L.length cap (L.map fun b => (b.toNat : Int)) (by simp) (fun i hi => by
      rw [hcell i _ (bc_at L i hi)]
      simp [hi]) 9 Tryz.underlying9
    rw [str_of] at this
    exact this

set_option maxHeartbeats 400000 in
theorem word_reads (w : World) (p : Nat) (s : RS) (r : Option Nat) (h : RdS w p s r) :
    Calls Tryz.prog 89 #[.pointer (some ⟨p, 0, none⟩)] w fun e w' => e = .returned (.int .i64 (num (s.got 4) : Int)) ∧ RdG p w r (s.take 4) w' := by
  have hs := num_small7 (l := s.got 4) (by rcases s.got_length 4 with e | e <;> omega)
  go_enter Tryz.func89, Tryz.ntmps89
  go_wp2_with (go_at_call 127; refine (number_reads _ p 4 s r h (by omega)).mono ?_; rintro e w1 ⟨rfl, hg⟩)
  go_ret
  exact ⟨rfl, hg⟩
def RS.text (s : RS) : List UInt8 := (s.take 1).got (num (s.got 1))
def RS.atext (s : RS) : RS := (s.take 1).take (num (s.got 1))
theorem RdG.trans {p : Nat} {w w1 w2 : World} {r : Option Nat} {s1 s2 : RS} (h : RdG p w r s1 w1) (k : RdG p w1 r s2 w2) : RdG p w r s2 w2 := ⟨k.1, h.2.trans k.2 (Near.none _ _)⟩
theorem all_take (l : List UInt8) (k : Nat) (h : k < l.length) (h1 : (l.take k).all (· == 0) = true) (h2 : (((l[k]).toNat : Int) == 0) = true) : (l.take (k + 1)).all (· == 0) = true := by
  have e : l[k] = 0 := by
    have h3 : ((l[k]).toNat : Int) = 0 := by simpa using h2
    have h4 : (l[k]).toNat = (0 : UInt8).toNat := by simp; omega
    exact UInt8.toNat_inj.1 h4
  rw [take_snoc8 l k h, List.all_append, h1, e]
  rfl
theorem all_not (l : List UInt8) (k : Nat) (h : k < l.length) (h2 : (((l[k]).toNat : Int) == 0) = false) : l.all (· == 0) = false := by
  rw [List.all_eq_false]
  refine ⟨l[k], List.getElem_mem h, ?_⟩
  intro e
  have e2 : l[k] = 0 := by simpa using e
  rw [e2] at h2
  simp at h2
end Go.Proofs.YtgicanpggndbeaaGreat
