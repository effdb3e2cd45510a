import Derived.Test.YtgicanpggndbeaaGreatB08
import Derived.Test.YtgicanpggndbeaaGreatB09
import Derived.Laws.AppendOwnNone
import Derived.Laws.BitsAllLaws
import Derived.Laws.BytesArg
import Derived.Test.YtgicanpggndbeaaGreatB01
import Derived.Laws.CopyOwn
/- What each call on a pack.Writer comes to, in one word a call: the state of a writer as plain data. -/
namespace Go.Proofs.YtgicanpggndbeaaGreat
set_option linter.unusedVariables false
set_option maxRecDepth 100000
open Go.RowKit

/-- A writer as plain data: room, bytes, wrong. -/
structure WS where
 m : Int
 l : List UInt8
 bad : Bool
def WS.fail (s : WS) : WS := ⟨s.m, [], true⟩
def WS.put (s : WS) (x : List UInt8) : WS := if s.bad = true then s else if (s.l.length : Int) + x.length ≤ s.m then ⟨s.m, s.l ++ x, false⟩ else s.fail
def WS.word (s : WS) (v : Int) : WS := if v < 0 ∨ 4294967296 ≤ v then s.fail else s.put (be v.toNat 4)
def WrS (w : World) (p : Nat) (s : WS) (r : Option Nat) : Prop := WrAt w p s.m s.l s.bad r
def WrG (p : Nat) (w : World) (r : Option Nat) (s : WS) (w' : World) : Prop := ∃ r', WrS w' p s r' ∧ Touch p r w w' ∧ Near r r' w.heap.size
theorem WrS.failed {w : World} {p : Nat} {s : WS} {r : Option Nat} (h : WrS w p s r) : WrG p w r s.fail ((w.setCell ⟨p, 2, none⟩ (.bool true)).setCell ⟨p, 1, none⟩ (.slice none 0 0)) := WrAt.failed h
theorem WrS.lt {w : World} {p : Nat} {s : WS} {r : Option Nat} (h : WrS w p s r) : p < w.heap.size ∧ ∀ k, r = some k → p < k ∧ k < w.heap.size := WrAt.lt h
theorem number_calls (w : World) (p v n : Nat) (s : WS) (r : Option Nat) (h : WrS w p s r) (hn : n ≤ 8) :
    Calls Tryz.prog 144 #[.pointer (some ⟨p, 0, none⟩), .int .u64 (v : Int), .int .i64 (n : Int)] w fun e w' => e = .returned (.tuple #[]) ∧ WrG p w r (s.put (be v n)) w' := by
 obtain ⟨m, L, bad⟩ := s
 have hb := be_length v n
 unfold WS.put
 cases bad with
 | true => exact number_bad w p m v n L r h
 | false =>
  by_cases hl : (L.length : Int) + (be v n).length ≤ m
  · rw [if_neg (by simp), if_pos hl]
    exact number_ok w p m v n L r h (by rw [hb] at hl; exact hl) hn
  · rw [if_neg (by simp), if_neg hl]
    exact number_full w p m v n L r h (by rw [hb] at hl; omega)

theorem fail_calls (w : World) (p : Nat) (s : WS) (r : Option Nat) (h : WrS w p s r) :
    Calls Tryz.prog 143 #[.pointer (some ⟨p, 0, none⟩)] w fun e w' => e = .returned (.tuple #[]) ∧ WrG p w r s.fail w' := by
 obtain ⟨a, c, h1, _⟩ := WrAt.op h
 refine (fail_any w p s.m _ s.bad h1).mono ?_
 rintro e w' ⟨rfl, rfl⟩
 exact ⟨rfl, h.failed⟩


set_option maxHeartbeats 400000 in
theorem small4_neg (w : World) (p : Nat) (v : Int) (s : WS) (r : Option Nat) (h : WrS w p s r) (hv : v < 0) :
    Calls Tryz.prog 108 #[.pointer (some ⟨p, 0, none⟩), .int .i64 v, .int .i64 4] w fun e w' => e = .returned (.tuple #[]) ∧ WrG p w r s.fail w' := by
 go_enter Tryz.func108, Tryz.ntmps108
 go_wp2_with (go_at_call 143; refine (fail_calls _ p s r h).mono ?_; rintro e w' ⟨rfl, hg⟩)
 ((try simp only [Exit.inBlock, Exit.then]); refine bodyPost_ret (results_none rfl _ _ _) rfl ?_)
 exact ⟨rfl, hg⟩
set_option maxHeartbeats 400000 in
theorem small4_big (w : World) (p : Nat) (v : Int) (s : WS) (r : Option Nat) (h : WrS w p s r) (hv : 4294967296 ≤ v) (hv2 : v ≤ 9223372036854775807) :
    Calls Tryz.prog 108 #[.pointer (some ⟨p, 0, none⟩), .int .i64 v, .int .i64 4] w fun e w' => e = .returned (.tuple #[]) ∧ WrG p w r s.fail w' := by
 have hq : (v / 4294967296 != 0) = true := by rw [bne_iff_ne]; omega
 have hn : ¬ v < 0 := by omega
 go_enter Tryz.func108, Tryz.ntmps108
 go_wp2_with (go_at_call 143; refine (fail_calls _ p s r h).mono ?_; rintro e w' ⟨rfl, hg⟩)
 ((try simp only [Exit.inBlock, Exit.then]); refine bodyPost_ret (results_none rfl _ _ _) rfl ?_)
 exact ⟨rfl, hg⟩
set_option maxHeartbeats 400000 in
theorem small4_ok (w : World) (p : Nat) (v : Nat) (s : WS) (r : Option Nat) (h : WrS w p s r) (hv : v < 4294967296) :
    Calls Tryz.prog 108 #[.pointer (some ⟨p, 0, none⟩), .int .i64 (v : Int), .int .i64 4] w fun e w' => e = .returned (.tuple #[]) ∧ WrG p w r (s.put (be v 4)) w' := by
 have hq : ((v : Int) / 4294967296 != 0) = false := by rw [bne_eq_false_iff_eq]; omega
 have hn : ¬ (v : Int) < 0 := by omega
 go_enter Tryz.func108, Tryz.ntmps108
 go_wp2_with (go_at_call 144; refine (number_calls _ p v 4 s r h (by omega)).mono ?_; rintro e w' ⟨rfl, hg⟩)
 go_end0
 exact ⟨rfl, hg⟩
theorem small4_calls (w : World) (p : Nat) (v : Int) (s : WS) (r : Option Nat) (h : WrS w p s r) (hv : v ≤ 9223372036854775807) :
    Calls Tryz.prog 108 #[.pointer (some ⟨p, 0, none⟩), .int .i64 v, .int .i64 4] w fun e w' => e = .returned (.tuple #[]) ∧ WrG p w r (s.word v) w' := by
 unfold WS.word
 by_cases h0 : v < 0
 · rw [if_pos (.inl h0)]; exact small4_neg w p v s r h h0
 · by_cases h1 : 4294967296 ≤ v
   · rw [if_pos (.inr h1)]; exact small4_big w p v s r h h1 hv
   · rw [if_neg (by omega)]
     obtain ⟨n, rfl⟩ := Int.eq_ofNat_of_zero_le (show 0 ≤ v by omega)
     rw [Int.toNat_natCast]
     exact small4_ok w p n s r h (by omega)
set_option maxHeartbeats 400000 in
theorem word_calls (w : World) (p : Nat) (v : Int) (s : WS) (r : Option Nat) (h : WrS w p s r) (hv : v ≤ 9223372036854775807) :
    Calls Tryz.prog 65 #[.pointer (some ⟨p, 0, none⟩), .int .i64 v] w fun e w' => e = .returned (.tuple #[]) ∧ WrG p w r (s.word v) w' := by
 go_enter Tryz.func65, Tryz.ntmps65
 go_wp2_with (go_at_call 108; refine (small4_calls _ p v s r h hv).mono ?_; rintro e w' ⟨rfl, hg⟩)
 go_end0
 exact ⟨rfl, hg⟩

end Go.Proofs.YtgicanpggndbeaaGreat
/- pack.New and Writer.Done: what they come to. -/
namespace Go.Proofs.YtgicanpggndbeaaGreat
set_option linter.unusedVariables false
set_option maxRecDepth 100000
open Go.RowKit

theorem new_calls (w : World) (n : Int) (h0 : 0 ≤ n) (h1 : n ≤ 2147483647) :
    Calls Tryz.prog 64 #[.int .i64 n] w fun e w' => e = .returned (.pointer (some ⟨w.heap.size, 0, none⟩)) ∧ WrS w' w.heap.size ⟨n, [], false⟩ none ∧ Below w.heap.size w w' := by
 refine (new_any w n h0 h1).mono ?_
 rintro e w' ⟨rfl, rfl⟩
 exact ⟨rfl, ⟨_, heap_alloc_new _ _, World.ownsRow_nil _ _ _ _, rfl, h0, h1, by simpa using h0⟩, (Below.refl _ _).alloc (Nat.le_refl _) _⟩

set_option maxHeartbeats 400000 in
theorem done_none (w : World) (p c : Nat) (m : Int) (h1 : w.heap[p]? = some (.cells #[.int .i64 m, .slice none 0 0, .bool false] 169 (0, 0))) :
    Calls Tryz.prog 109 #[.pointer (some ⟨p, 0, none⟩)] w fun e w' => ∃ a c, e = .returned (.tuple #[.slice a 0 c, .bool true]) ∧ w'.ownsRow w.heap.size 5 1 (.slice a 0 c) 0 [] ∧ Below w.heap.size w w' := by
 obtain ⟨i0, hi, hz0, hz1, hz2⟩ := info_parts Tryz.info_u8
 obtain ⟨c0, c1, c2⟩ := cells3 h1
 have hp := lt_of_block h1
 clear h1
 go_enter Tryz.func109, Tryz.ntmps109
 go_wp2_with (at_builtin; refine wpList_append_own_none rfl (.tmp 8) (.tmp 12) 140 rfl w.heap.size 5 i0 1 Tryz.underlying140 hi (.slice (some ⟨w.heap.size, 0, none⟩) 0 0) 0 [] rfl (World.ownsRow_made w #[] 0 (Nat.le_refl _) (by unfold maxLen; omega) rfl) rfl ?_)
 go_ret2
 exact ⟨_, _, rfl, World.ownsRow_made w #[] 0 (Nat.le_refl _) (by unfold maxLen; omega) rfl, (Below.refl _ _).alloc (Nat.le_refl _) _⟩
set_option maxHeartbeats 400000 in
theorem done_some (w : World) (p c g : Nat) (m : Int) (L : List UInt8) (h1 : w.heap[p]? = some (.cells #[.int .i64 m, .slice (some ⟨g, 0, none⟩) L.length c, .bool false] 169 (0, 0))) (ho : w.ownsRow (p + 1) 5 1 (.slice (some ⟨g, 0, none⟩) L.length c) L.length (bc L)) (hl : (L.length : Int) ≤ 2147483647) :
    Calls Tryz.prog 109 #[.pointer (some ⟨p, 0, none⟩)] w fun e w' => ∃ a c, e = .returned (.tuple #[.slice a L.length c, .bool true]) ∧ w'.ownsRow w.heap.size 5 1 (.slice a L.length c) L.length (bc L) ∧ Below w.heap.size w w' := by
 obtain ⟨i0, hi, hz0, hz1, hz2⟩ := info_parts Tryz.info_u8
 obtain ⟨c0, c1, c2⟩ := cells3 h1
 have hp := lt_of_block h1
 have hg := (ho.lt g rfl).2
 clear h1
 have hcs : ∀ j u, (bc L)[j]? = some u → (w.alloc (.cells #[] 5)).cell? ((⟨g, 0, none⟩ : Addr).add j) = some u := (ho.alloc _).cells rfl
 go_enter Tryz.func109, Tryz.ntmps109
 go_wp2_with (at_builtin; refine wpList_append_own _ rfl (.tmp 8) (.tmp 12) 140 rfl w.heap.size 5 i0 (.int .u8 0) 1 1 Tryz.underlying140 hi hz0 hz1 hz2 rfl (by decide) (.slice (some ⟨w.heap.size, 0, none⟩) 0 0) 0 [] rfl (World.ownsRow_made w #[] 0 (Nat.le_refl _) (by unfold maxLen; omega) rfl) ⟨g, 0, none⟩ L.length c (bc L) rfl (by rw [bc_length]; omega) hcs (bc_one L) (by unfold maxLen; omega) (by omega) (by simp) ?_; intro v' w1 hown hgrow _)
 go_ret2
 obtain ⟨a, c', rfl⟩ := own_form hown
 refine ⟨a, c', ?_, ?_, ?_⟩
 · simp
 · simpa using hown
 · exact ((Below.refl _ _).alloc (Nat.le_refl _) _).grown hgrow (by simp) (fun k hk => by simp [Value.ownBlock] at hk; omega)

/-- Done of a writer that is right: its bytes, in a row of their own; nothing that was there has turned. -/
theorem done_ok (w : World) (p : Nat) (s : WS) (r : Option Nat) (h : WrS w p s r) (hb : s.bad = false) :
    Calls Tryz.prog 109 #[.pointer (some ⟨p, 0, none⟩)] w fun e w' => ∃ a c, e = .returned (.tuple #[.slice a s.l.length c, .bool true]) ∧ w'.ownsRow w.heap.size 5 1 (.slice a s.l.length c) s.l.length (bc s.l) ∧ Below w.heap.size w w' := by
 obtain ⟨sv, h1, ho, _, hm0, hm1, hl⟩ := h
 rw [hb] at h1
 rcases ho.2 with ⟨rfl, h0⟩ | ⟨g, cap, cur, rfl, _⟩
 · have e : s.l = [] := List.eq_nil_of_length_eq_zero h0
   rw [e]
   exact done_none w p 0 s.m h1
 · exact done_some w p cap g s.m s.l h1 ho (by omega)
end Go.Proofs.YtgicanpggndbeaaGreat
/- What each call on a pack.Reader comes to: the state of a reader as plain data. -/
namespace Go.Proofs.YtgicanpggndbeaaGreat
set_option linter.unusedVariables false
set_option maxRecDepth 100000
open Go.RowKit

/-- A reader as plain data: the bytes that are left, wrong. -/
structure RS where
 l : List UInt8
 bad : Bool

/-- A slice of bytes: they are L, and lie in the row r. -/
def BytesIn (w : World) (sv : Value) (L : List UInt8) (r : Option Nat) : Prop :=
 ∃ ad cap, sv = .slice ad L.length cap ∧ L.length ≤ cap ∧
   ((ad = none ∧ L = [] ∧ cap = 0) ∨ ∃ g off, ad = some ⟨g, off, none⟩ ∧ r = some g ∧ g < w.heap.size ∧ ∀ j u, (bc L)[j]? = some u → w.cell? ⟨g, off + j, none⟩ = some u)
def RdS (w : World) (p : Nat) (s : RS) (r : Option Nat) : Prop :=
 ∃ sv, w.heap[p]? = some (.cells #[sv, .bool s.bad] 220 (0, 0)) ∧ BytesIn w sv s.l r ∧ (s.bad = true → s.l = []) ∧ r ≠ some p
def RdG (p : Nat) (w : World) (r : Option Nat) (s : RS) (w' : World) : Prop := RdS w' p s r ∧ Touch p none w w'

theorem BytesIn.kept {w w' : World} {sv : Value} {L : List UInt8} {r : Option Nat} (h : BytesIn w sv L r) (hr : ∀ k, r = some k → w'.heap[k]? = w.heap[k]?) : BytesIn w' sv L r := by
 obtain ⟨ad, cap, h1, h2, h3⟩ := h
 refine ⟨ad, cap, h1, h2, ?_⟩
 rcases h3 with h3 | ⟨g, off, h4, h5, h6, h7⟩
 · exact .inl h3
 · have hb := hr g h5
   refine .inr ⟨g, off, h4, h5, ?_, fun j u hu => (World.cell?_of_block (w := w) hb).trans (h7 j u hu)⟩
   have h8 : w'.heap[g]? = some w.heap[g] := hb.trans (by simp [h6])
   exact (Array.getElem?_eq_some_iff.1 h8).1
def RS.got (s : RS) (n : Int) : List UInt8 := if s.bad = true ∨ n < 0 ∨ (s.l.length : Int) < n then [] else s.l.take n.toNat
def RS.take (s : RS) (n : Int) : RS := if s.bad = true ∨ n < 0 ∨ (s.l.length : Int) < n then ⟨[], true⟩ else ⟨s.l.drop n.toNat, false⟩
theorem RS.got_length (s : RS) (n : Int) : ((s.got n).length : Int) ≤ n ∨ (s.got n).length = 0 := by
 unfold RS.got
 split
 · exact .inr rfl
 · left
   simp
   omega
theorem bc_at (l : List UInt8) (j : Nat) (h : j < l.length) : (bc l)[j]? = some (.int .u8 (l[j].toNat : Int)) := by simp [bc, h]
theorem take_setCells {w : World} {p : Nat} {sv : Value} {b : Bool} {r : Option Nat} (h1 : w.heap[p]? = some (.cells #[sv, .bool b] 220 (0, 0))) (hr : r ≠ some p) :
    RdG p w r ⟨[], true⟩ ((w.setCell ⟨p, 1, none⟩ (.bool true)).setCell ⟨p, 0, none⟩ (.slice none 0 0)) :=
 ⟨⟨_, (set2 (set2 h1).2).1, ⟨none, 0, rfl, Nat.le_refl _, .inl ⟨rfl, rfl, rfl⟩⟩, fun _ => rfl, hr⟩, ((Touch.refl _ _ _).setCell _ _).setCell _ _⟩

set_option maxHeartbeats 400000 in
theorem take_no_bad (w : World) (p : Nat) (n : Int) (sv : Value) (h1 : w.heap[p]? = some (.cells #[sv, .bool true] 220 (0, 0))) :
    Calls Tryz.prog 152 #[.pointer (some ⟨p, 0, none⟩), .int .i64 n] w fun e w' => e = .returned (.slice none 0 0) ∧ w' = (w.setCell ⟨p, 1, none⟩ (.bool true)).setCell ⟨p, 0, none⟩ (.slice none 0 0) := by
 obtain ⟨c0, c1⟩ := cells2 h1
 obtain ⟨f0, f1⟩ := free2 h1
 clear h1
 go_enter Tryz.func152, Tryz.ntmps152
 go_wp2
 go_ret
 exact ⟨rfl, rfl⟩
set_option maxHeartbeats 400000 in
theorem take_no_neg (w : World) (p : Nat) (n : Int) (sv : Value) (h1 : w.heap[p]? = some (.cells #[sv, .bool false] 220 (0, 0))) (hn : n < 0) :
    Calls Tryz.prog 152 #[.pointer (some ⟨p, 0, none⟩), .int .i64 n] w fun e w' => e = .returned (.slice none 0 0) ∧ w' = (w.setCell ⟨p, 1, none⟩ (.bool true)).setCell ⟨p, 0, none⟩ (.slice none 0 0) := by
 obtain ⟨c0, c1⟩ := cells2 h1
 obtain ⟨f0, f1⟩ := free2 h1
 clear h1
 go_enter Tryz.func152, Tryz.ntmps152
 go_wp2
 go_ret
 exact ⟨rfl, rfl⟩
set_option maxHeartbeats 400000 in
theorem take_no_big (w : World) (p : Nat) (n : Int) (a : Option Addr) (l c : Nat) (h1 : w.heap[p]? = some (.cells #[.slice a l c, .bool false] 220 (0, 0))) (hn : (l : Int) < n) :
    Calls Tryz.prog 152 #[.pointer (some ⟨p, 0, none⟩), .int .i64 n] w fun e w' => e = .returned (.slice none 0 0) ∧ w' = (w.setCell ⟨p, 1, none⟩ (.bool true)).setCell ⟨p, 0, none⟩ (.slice none 0 0) := by
 obtain ⟨c0, c1⟩ := cells2 h1
 obtain ⟨f0, f1⟩ := free2 h1
 clear h1
 have h0 : ¬ n < 0 := by omega
 go_enter Tryz.func152, Tryz.ntmps152
 go_wp2
 go_ret
 exact ⟨rfl, rfl⟩
set_option maxHeartbeats 400000 in
theorem take_yes (w : World) (p n l c : Nat) (a : Option Addr) (h1 : w.heap[p]? = some (.cells #[.slice a l c, .bool false] 220 (0, 0))) (hn : n ≤ l) (hc : l ≤ c) :
    Calls Tryz.prog 152 #[.pointer (some ⟨p, 0, none⟩), .int .i64 (n : Int)] w fun e w' => e = .returned (.slice a n c) ∧ w' = w.setCell ⟨p, 0, none⟩ (.slice (if c = n then a else a.map (·.add n)) (l - n) (c - n)) := by
 obtain ⟨c0, c1⟩ := cells2 h1
 obtain ⟨f0, f1⟩ := free2 h1
 clear h1
 have h0 : ¬ (n : Int) < 0 := by omega
 have h2 : ¬ (l : Int) < (n : Int) := by omega
 by_cases hcn : c = n
 · subst hcn
   rw [if_pos rfl]
   go_enter Tryz.func152, Tryz.ntmps152
   go_wp2
   go_ret
   exact ⟨rfl, rfl⟩
 · rw [if_neg hcn]
   go_enter Tryz.func152, Tryz.ntmps152
   go_wp2
   go_ret
   exact ⟨rfl, rfl⟩

theorem add_lit (g off n : Nat) : (⟨g, off, none⟩ : Addr).add n = ⟨g, off + n, none⟩ := by unfold Addr.add; split <;> simp_all
theorem bc_get {l : List UInt8} {j : Nat} {u : Value} (h : (bc l)[j]? = some u) : j < l.length := by
 have := (List.getElem?_eq_some_iff.1 h).1
 rwa [bc_length] at this
theorem bc_take {l : List UInt8} {n j : Nat} {u : Value} (h : (bc (l.take n))[j]? = some u) : (bc l)[j]? = some u := by
 have hj := bc_get h
 rw [List.length_take] at hj
 rw [bc_at _ _ (by rw [List.length_take]; omega)] at h
 rw [bc_at _ _ (by omega)]
 simpa using h
theorem bc_drop {l : List UInt8} {n j : Nat} {u : Value} (h : (bc (l.drop n))[j]? = some u) : (bc l)[n + j]? = some u := by
 have hj := bc_get h
 rw [List.length_drop] at hj
 rw [bc_at _ _ (by rw [List.length_drop]; omega)] at h
 rw [bc_at _ _ (by omega)]
 simpa using h

/-- take: so many bytes, or none, and wrong. -/
theorem ptake_calls (w : World) (p : Nat) (n : Int) (s : RS) (r : Option Nat) (h : RdS w p s r) :
    Calls Tryz.prog 152 #[.pointer (some ⟨p, 0, none⟩), .int .i64 n] w fun e w' => ∃ sv, e = .returned sv ∧ BytesIn w' sv (s.got n) r ∧ RdG p w r (s.take n) w' := by
 obtain ⟨sv, h1, h2, h3, h4⟩ := h
 have nil : ∀ w', BytesIn w' (.slice none 0 0) [] r := fun w' => ⟨none, 0, rfl, Nat.le_refl _, .inl ⟨rfl, rfl, rfl⟩⟩
 obtain ⟨L, bad⟩ := s
 unfold RS.got RS.take
 simp only at h1 h2 h3 ⊢
 obtain ⟨ad, cap, rfl, hcap, hcs⟩ := h2
 cases bad with
 | true =>
  rw [if_pos (.inl rfl), if_pos (.inl rfl)]
  refine (take_no_bad w p n _ h1).mono ?_
  rintro e w' ⟨rfl, rfl⟩
  exact ⟨_, rfl, nil _, take_setCells h1 h4⟩
 | false =>
  by_cases hn : n < 0
  · rw [if_pos (.inr (.inl hn)), if_pos (.inr (.inl hn))]
    refine (take_no_neg w p n _ h1 hn).mono ?_
    rintro e w' ⟨rfl, rfl⟩
    exact ⟨_, rfl, nil _, take_setCells h1 h4⟩
  · by_cases hl : (L.length : Int) < n
    · rw [if_pos (.inr (.inr hl)), if_pos (.inr (.inr hl))]
      refine (take_no_big w p n ad L.length cap h1 hl).mono ?_
      rintro e w' ⟨rfl, rfl⟩
      exact ⟨_, rfl, nil _, take_setCells h1 h4⟩
    · have hc : ¬ (false = true ∨ n < 0 ∨ (L.length : Int) < n) := by simp; omega
      rw [if_neg hc, if_neg hc]
      obtain ⟨k, rfl⟩ := Int.eq_ofNat_of_zero_le (show 0 ≤ n by omega)
      rw [Int.toNat_natCast]
      refine (take_yes w p k L.length cap ad h1 (by omega) hcap).mono ?_
      rintro e w' ⟨rfl, rfl⟩
      have ht : (L.take k).length = k := by rw [List.length_take]; omega
      have hd : (L.drop k).length = L.length - k := List.length_drop
      have hblk : ∀ g, r = some g → (w.setCell ⟨p, 0, none⟩ (.slice (if cap = k then ad else ad.map (·.add k)) (L.length - k) (cap - k))).heap[g]? = w.heap[g]? := fun g hg => Below.heap_setCell _ _ _ _ (fun e => h4 (by rw [hg]; simp at e; rw [e]))
      have B1 : BytesIn w (.slice ad k cap) (L.take k) r := by
       refine ⟨ad, cap, by rw [ht], by omega, ?_⟩
       rcases hcs with ⟨ha, hL, hcp⟩ | ⟨g, off, ha, hg, hlt, hcell⟩
       · exact .inl ⟨ha, by rw [hL]; simp, hcp⟩
       · exact .inr ⟨g, off, ha, hg, hlt, fun j u hu => hcell j u (bc_take hu)⟩
      have B2 : BytesIn w (.slice (if cap = k then ad else ad.map (·.add k)) (L.length - k) (cap - k)) (L.drop k) r := by
       refine ⟨_, cap - k, by rw [hd], by omega, ?_⟩
       rcases hcs with ⟨ha, hL, hcp⟩ | ⟨g, off, ha, hg, hlt, hcell⟩
       · refine .inl ⟨?_, by rw [hL]; simp, by omega⟩
         rw [ha]; split <;> rfl
       · by_cases hck : cap = k
         · rw [if_pos hck]
           refine .inr ⟨g, off, ha, hg, hlt, fun j u hu => ?_⟩
           have := bc_get hu
           omega
         · rw [if_neg hck, ha]
           refine .inr ⟨g, off + k, by rw [Option.map_some, add_lit], hg, hlt, fun j u hu => ?_⟩
           rw [Nat.add_assoc]
           exact hcell (k + j) u (bc_drop hu)
      exact ⟨_, rfl, B1.kept hblk, ⟨_, (set2 h1).1, B2.kept hblk, (fun e => by cases e), h4⟩, (Touch.refl _ _ _).setCell _ _⟩

theorem or_byte (a b : Nat) (ha : a < 72057594037927936) (hb : b < 256) : bits .or .u64 ((a : Int) * 256) (b : Int) = ((256 * a + b : Nat) : Int) := by
 have e : ((a : Int) * 256) = ((256 * a : Nat) : Int) := by omega
 rw [e, u64_or_nat (256 * a) b (by omega) (by omega)]
 have := Nat.two_pow_add_eq_or_of_lt (i := 8) (b := b) (by omega) a
 rw [show (2 : Nat) ^ 8 = 256 from rfl] at this
 rw [this]
set_option maxHeartbeats 400000 in
theorem number_reads (w : World) (p n : Nat) (s : RS) (r : Option Nat) (h : RdS w p s r) (hn : n ≤ 8) :
    Calls Tryz.prog 127 #[.pointer (some ⟨p, 0, none⟩), .int .i64 (n : Int)] w fun e w' => e = .returned (.int .u64 (num (s.got n) : Int)) ∧ RdG p w r (s.take n) w' := by
 have hgl : (s.got n).length ≤ 8 := by rcases s.got_length n with e | e <;> omega
 go_enter Tryz.func127, Tryz.ntmps127
 go_wp2_with (go_at_call 152; refine (ptake_calls _ p n s r h).mono ?_; rintro e w1 ⟨sv, rfl, ⟨ad, cap, rfl, hcap, hcs⟩, hg⟩)
 have HG0 : Hid (s.got n = s.got n) := rfl
 generalize hG : s.got n = G at hgl hcap hcs ⊢
 have HG : Hid (s.got n = G) := hG
 clear hG HG0
 go_loop [5, 7, 12] (fun v _ i => ∃ k : Nat, k ≤ G.length ∧ i = .int .i64 k ∧ v = .int .u64 (num (G.take k) : Int)) (fun _ _ i => G.length - (intOf i).toNat)
 case atStart => exact ⟨0, Nat.zero_le _, rfl, rfl⟩
 case round =>
  obtain ⟨k, hk, rfl, rfl⟩ := hrel
  by_cases hlt : k < G.length
  · rcases hcs with ⟨_, hL, _⟩ | ⟨g, off, rfl, _, _, hcell⟩
    · rw [hL] at hlt; simp at hlt
    · have hc := hcell k _ (bc_at G k hlt)
      have hv := num_small7 (l := G.take k) (by rw [List.length_take]; omega)
      have hb := (G[k]).toNat_lt
      have HV : Hid (bits .or .u64 ((num (G.take k) : Int) * 256) ((G[k]).toNat : Int) = (num (G.take (k + 1)) : Int)) := by
       rw [take_snoc8 G k hlt, num_snoc]
       exact or_byte _ _ hv hb
      clear hcell
      go_wp2
      go_round
      case rel => exact ⟨k + 1, by omega, by go_num, by rw [HV.out]⟩
      case measure => simp [intOf]; omega
  · have e : k = G.length := by omega
    subst e
    go_wp2
    go_ret
    rw [HG.out]
    exact ⟨by simp, hg⟩
end Go.Proofs.YtgicanpggndbeaaGreat
/- What each exported call on a pack.Reader comes to. -/
namespace Go.Proofs.YtgicanpggndbeaaGreat
set_option linter.unusedVariables false
set_option maxRecDepth 100000
open Go.RowKit

theorem conv_bytes {w : World} {sv : Value} {L : List UInt8} {r : Option Nat} (h : BytesIn w sv L r) : (convert 140 9 sv).run Tryz.prog w = .ok (.string (str L)) w := by
 obtain ⟨ad, cap, rfl, hcap, hcs⟩ := h
 rcases hcs with ⟨rfl, rfl, rfl⟩ | ⟨g, off, rfl, _, _, hcell⟩
 · exact run_convert_bytes_nil w 140 5 Tryz.underlying140 Tryz.underlying5 0 0 9 Tryz.underlying9
 · have := run_convert_bytes_arg (P := Tryz.prog) w 140 5 Tryz.underlying140 Tryz.underlying5 g off L.length cap (L.map fun b => (b.toNat : Int)) (by simp) (fun i hi => by
     rw [hcell i _ (bc_at L i hi)]
     simp [hi]) 9 Tryz.underlying9
   rw [str_of] at this
   exact this

set_option maxHeartbeats 400000 in
theorem word_reads (w : World) (p : Nat) (s : RS) (r : Option Nat) (h : RdS w p s r) :
    Calls Tryz.prog 89 #[.pointer (some ⟨p, 0, none⟩)] w fun e w' => e = .returned (.int .i64 (num (s.got 4) : Int)) ∧ RdG p w r (s.take 4) w' := by
 have hs := num_small7 (l := s.got 4) (by rcases s.got_length 4 with e | e <;> omega)
 go_enter Tryz.func89, Tryz.ntmps89
 go_wp2_with (go_at_call 127; refine (number_reads _ p 4 s r h (by omega)).mono ?_; rintro e w1 ⟨rfl, hg⟩)
 go_ret
 exact ⟨rfl, hg⟩
end Go.Proofs.YtgicanpggndbeaaGreat
/- pack.Read: a reader of a copy of the bytes that it is given. -/
namespace Go.Proofs.YtgicanpggndbeaaGreat
set_option linter.unusedVariables false
set_option maxRecDepth 100000
open Go.RowKit

theorem own_bytes {w : World} {base : Nat} {sv : Value} {L : List UInt8} (h : w.ownsRow base 5 1 sv L.length (bc L)) : BytesIn w sv L sv.ownBlock := by
 rcases h.2 with ⟨rfl, h0⟩ | ⟨g, cap, cur, rfl, hb, hg, hn, _⟩
 · exact ⟨none, 0, by rw [h0], by omega, .inl ⟨rfl, List.eq_nil_of_length_eq_zero h0, rfl⟩⟩
 · refine ⟨_, cap, rfl, hn, .inr ⟨g, 0, rfl, rfl, (h.lt g rfl).2, fun j u hu => ?_⟩⟩
   have := h.cells (g := g) rfl j u hu
   rw [add_lit] at this
   exact this

/-- What Read comes to. -/
def RdNew (w : World) (L : List UInt8) (e : Ending) (w' : World) : Prop :=
 ∃ q r, e = .returned (.pointer (some ⟨q, 0, none⟩)) ∧ RdS w' q ⟨L, false⟩ r ∧ Below w.heap.size w w' ∧ w.heap.size ≤ q ∧ ∀ k, r = some k → w.heap.size ≤ k ∧ k < w'.heap.size
theorem rd_new {w w1 : World} {a : Option Addr} {c : Nat} {L : List UInt8} (hown : w1.ownsRow w.heap.size 5 1 (.slice a L.length c) L.length (bc L)) (hb : Below w.heap.size w w1) {n : Nat} (hn : w1.heap.size = n) :
    RdNew w L (.returned (.pointer (some ⟨n, 0, none⟩))) (w1.alloc (.cells #[.slice a L.length c, .bool false] 220)) := by
 subst hn
 have hlt := hown.lt
 refine ⟨_, (Value.slice a L.length c).ownBlock, rfl, ⟨_, heap_alloc_new _ _, (own_bytes hown).kept (fun k hk => Below.heap_alloc _ _ _ (hlt k hk).2), (fun e => by cases e), fun e => ?_⟩, hb.alloc hb.size _, hb.size, fun k hk => ⟨(hlt k hk).1, by have := (hlt k hk).2; simp; omega⟩⟩
 have := (hlt _ e).2
 omega

set_option maxHeartbeats 400000 in
theorem read_none (w : World) : Calls Tryz.prog 125 #[.slice none 0 0] w fun e w' => RdNew w [] e w' := by
 obtain ⟨i0, hi, hz0, hz1, hz2⟩ := info_parts Tryz.info_u8
 have hm := World.ownsRow_made (base := w.heap.size) (e := 5) (size := 1) w #[] 0 (Nat.le_refl _) (by unfold maxLen; omega) rfl
 have R := rd_new (w := w) (L := []) hm ((Below.refl _ _).alloc (Nat.le_refl _) _) (n := w.heap.size + 1) (by simp)
 go_enter Tryz.func125, Tryz.ntmps125
 go_wp2_with (at_builtin; refine wpList_append_own_none rfl (.tmp 3) (.tmp 4) 140 rfl w.heap.size 5 i0 1 Tryz.underlying140 hi (.slice (some ⟨w.heap.size, 0, none⟩) 0 0) 0 [] rfl hm rfl ?_)
 go_ret
 exact R
set_option maxHeartbeats 400000 in
theorem read_some (w : World) (g off cap : Nat) (L : List UInt8) (hg : g < w.heap.size) (hl : L.length ≤ 140737488351232) (hcell : ∀ j u, (bc L)[j]? = some u → w.cell? ⟨g, off + j, none⟩ = some u) :
    Calls Tryz.prog 125 #[.slice (some ⟨g, off, none⟩) L.length cap] w fun e w' => RdNew w L e w' := by
 obtain ⟨i0, hi, hz0, hz1, hz2⟩ := info_parts Tryz.info_u8
 have hm := World.ownsRow_made (base := w.heap.size) (e := 5) (size := 1) w #[] 0 (Nat.le_refl _) (by unfold maxLen; omega) rfl
 have hcs : ∀ j u, (bc L)[j]? = some u → (w.alloc (.cells #[] 5)).cell? ((⟨g, off, none⟩ : Addr).add j) = some u := fun j u hu => by
  rw [add_lit, World.cell?_alloc_past _ _ _ hg]
  exact hcell j u hu
 clear hcell
 go_enter Tryz.func125, Tryz.ntmps125
 go_wp2_with (at_builtin; refine wpList_append_own _ rfl (.tmp 3) (.tmp 4) 140 rfl w.heap.size 5 i0 (.int .u8 0) 1 1 Tryz.underlying140 hi hz0 hz1 hz2 rfl (by decide) (.slice (some ⟨w.heap.size, 0, none⟩) 0 0) 0 [] rfl hm ⟨g, off, none⟩ L.length cap (bc L) rfl (by rw [bc_length]; omega) hcs (bc_one L) (by unfold maxLen; omega) (by omega) (by simp) ?_; intro v' w1 hown0 hgrow _; have hown : w1.ownsRow w.heap.size 5 1 v' L.length (bc L) := (by simpa using hown0); clear hown0; obtain ⟨a', c', rfl⟩ := own_form hown)
 go_ret
 exact rd_new hown (((Below.refl _ _).alloc (Nat.le_refl _) _).grown hgrow (by simp) (fun k hk => by simp [Value.ownBlock] at hk; omega)) rfl
theorem read_calls (w : World) (sv : Value) (L : List UInt8) (r : Option Nat) (h : BytesIn w sv L r) (hl : L.length ≤ 140737488351232) :
    Calls Tryz.prog 125 #[sv] w fun e w' => RdNew w L e w' := by
 obtain ⟨ad, cap, rfl, hcap, hcs⟩ := h
 rcases hcs with ⟨rfl, rfl, rfl⟩ | ⟨g, off, rfl, _, hg, hcell⟩
 · exact read_none w
 · exact read_some w g off cap L hg hl hcell
end Go.Proofs.YtgicanpggndbeaaGreat
/- (What was here lies in Be.) -/
namespace Go.Proofs.YtgicanpggndbeaaGreat
set_option linter.unusedVariables false
set_option maxRecDepth 100000
end Go.Proofs.YtgicanpggndbeaaGreat
/- What each call on the document's own reader (wainscotref01.Reader) comes to, in the words of RS. -/
namespace Go.Proofs.YtgicanpggndbeaaGreat
set_option linter.unusedVariables false
set_option maxRecDepth 100000
open Go.RowKit

/-- The document's reader in block q, in the state t. -/
def KQ (w : World) (q : Nat) (t : RS) : Prop := w.heap[q]? = some (.cells #[.string (str t.l), .bool t.bad] 155 (0, 0)) ∧ (t.bad = true → t.l = [])
def QG (q : Nat) (w : World) (t : RS) (w' : World) : Prop := KQ w' q t ∧ Touch q none w w'
set_option maxHeartbeats 400000 in
theorem ktake_bad (w : World) (q : Nat) (n : Int) (s : ByteArray) (h : w.heap[q]? = some (.cells #[.string s, .bool true] 155 (0, 0))) :
    Calls Tryz.prog 153 #[.pointer (some ⟨q, 0, none⟩), .int .i64 n] w fun e w' => e = .returned (.string ⟨#[]⟩) ∧ w' = (w.setCell ⟨q, 1, none⟩ (.bool true)).setCell ⟨q, 0, none⟩ (.string ⟨#[]⟩) := by
 obtain ⟨c0, c1⟩ := cells2 h
 obtain ⟨f0, f1⟩ := free2 h
 clear h
 go_enter Tryz.func153, Tryz.ntmps153
 go_wp2
 go_ret
 exact ⟨rfl, rfl⟩
set_option maxHeartbeats 400000 in
theorem ktake_neg (w : World) (q : Nat) (n : Int) (s : ByteArray) (h : w.heap[q]? = some (.cells #[.string s, .bool false] 155 (0, 0))) (hn : n < 0) :
    Calls Tryz.prog 153 #[.pointer (some ⟨q, 0, none⟩), .int .i64 n] w fun e w' => e = .returned (.string ⟨#[]⟩) ∧ w' = (w.setCell ⟨q, 1, none⟩ (.bool true)).setCell ⟨q, 0, none⟩ (.string ⟨#[]⟩) := by
 obtain ⟨c0, c1⟩ := cells2 h
 obtain ⟨f0, f1⟩ := free2 h
 clear h
 go_enter Tryz.func153, Tryz.ntmps153
 go_wp2
 go_ret
 exact ⟨rfl, rfl⟩
set_option maxHeartbeats 400000 in
theorem ktake_big (w : World) (q : Nat) (n : Int) (s : ByteArray) (h : w.heap[q]? = some (.cells #[.string s, .bool false] 155 (0, 0))) (hn0 : ¬ n < 0) (hn : (s.size : Int) < n) :
    Calls Tryz.prog 153 #[.pointer (some ⟨q, 0, none⟩), .int .i64 n] w fun e w' => e = .returned (.string ⟨#[]⟩) ∧ w' = (w.setCell ⟨q, 1, none⟩ (.bool true)).setCell ⟨q, 0, none⟩ (.string ⟨#[]⟩) := by
 obtain ⟨c0, c1⟩ := cells2 h
 obtain ⟨f0, f1⟩ := free2 h
 clear h
 go_enter Tryz.func153, Tryz.ntmps153
 go_wp2
 go_ret
 exact ⟨rfl, rfl⟩
set_option maxHeartbeats 400000 in
theorem ktake_ok (w : World) (q n : Nat) (s : ByteArray) (h : w.heap[q]? = some (.cells #[.string s, .bool false] 155 (0, 0))) (hn : (n : Int) ≤ (s.size : Int)) :
    Calls Tryz.prog 153 #[.pointer (some ⟨q, 0, none⟩), .int .i64 (n : Int)] w fun e w' => e = .returned (.string (s.extract 0 n)) ∧ w' = w.setCell ⟨q, 0, none⟩ (.string (s.extract n s.size)) := by
 obtain ⟨c0, c1⟩ := cells2 h
 obtain ⟨f0, f1⟩ := free2 h
 clear h
 have h0 : ¬ (n : Int) < 0 := by omega
 have h1 : ¬ (s.size : Int) < (n : Int) := by omega
 go_enter Tryz.func153, Tryz.ntmps153
 go_wp2
 go_ret
 exact ⟨rfl, rfl⟩
theorem ext_take (l : List UInt8) (n : Nat) : (str l).extract 0 n = str (l.take n) := by
 apply Go.WideShapes.bytes_inj
 simp [str]
theorem ext_drop (l : List UInt8) (n : Nat) : (str l).extract n (str l).size = str (l.drop n) := by
 apply Go.WideShapes.bytes_inj
 simp [str, ByteArray.size]
 rw [List.take_of_length_le (by simp)]
theorem ktake_calls (w : World) (q : Nat) (n : Int) (t : RS) (h : KQ w q t) :
    Calls Tryz.prog 153 #[.pointer (some ⟨q, 0, none⟩), .int .i64 n] w fun e w' => e = .returned (.string (str (t.got n))) ∧ QG q w (t.take n) w' := by
 obtain ⟨L, bad⟩ := t
 obtain ⟨h1, h2⟩ := h
 have no : QG q w ⟨[], true⟩ ((w.setCell ⟨q, 1, none⟩ (.bool true)).setCell ⟨q, 0, none⟩ (.string ⟨#[]⟩)) :=
  ⟨⟨(set2 (set2 h1).2).1, fun _ => rfl⟩, ((Touch.refl _ _ _).setCell _ _).setCell _ _⟩
 unfold RS.got RS.take
 simp only at h1 h2 ⊢
 cases bad with
 | true =>
  rw [if_pos (.inl rfl), if_pos (.inl rfl)]
  refine (ktake_bad w q n _ h1).mono ?_
  rintro e w' ⟨rfl, rfl⟩
  exact ⟨rfl, no⟩
 | false =>
  by_cases hn : n < 0
  · rw [if_pos (.inr (.inl hn)), if_pos (.inr (.inl hn))]
    refine (ktake_neg w q n _ h1 hn).mono ?_
    rintro e w' ⟨rfl, rfl⟩
    exact ⟨rfl, no⟩
  · by_cases hl : (L.length : Int) < n
    · rw [if_pos (.inr (.inr hl)), if_pos (.inr (.inr hl))]
      refine (ktake_big w q n _ h1 hn (by rw [str_size]; exact hl)).mono ?_
      rintro e w' ⟨rfl, rfl⟩
      exact ⟨rfl, no⟩
    · have hc : ¬ (false = true ∨ n < 0 ∨ (L.length : Int) < n) := by simp; omega
      rw [if_neg hc, if_neg hc]
      obtain ⟨k, rfl⟩ := Int.eq_ofNat_of_zero_le (show 0 ≤ n by omega)
      rw [Int.toNat_natCast]
      refine (ktake_ok w q k _ h1 (by rw [str_size]; omega)).mono ?_
      rintro e w' ⟨rfl, rfl⟩
      rw [ext_take, ext_drop]
      exact ⟨rfl, ⟨(set2 h1).1, fun e => by cases e⟩, (Touch.refl _ _ _).setCell _ _⟩

theorem knum_step (G : List UInt8) (k : Nat) (h : k < G.length) (h' : k < (str G).size) (hv : (num (G.take k) : Int) < 72057594037927936) :
    IntKind.u64.wrap (256 * (num (G.take k) : Int) + IntKind.u64.wrap (((str G)[k]'h').toNat : Int)) = (num (G.take (k + 1)) : Int) := by
 have e : ((str G)[k]'h') = G[k] := rfl
 have hb := (G[k]).toNat_lt
 rw [e, take_snoc8 G k h, num_snoc]
 have e1 : IntKind.u64.wrap ((G[k]).toNat : Int) = ((G[k]).toNat : Int) := by rw [IntKind.wrap_u64]; omega
 rw [e1, IntKind.wrap_u64]
 omega
set_option maxHeartbeats 400000 in
theorem knumber_calls (w : World) (q n : Nat) (t : RS) (h : KQ w q t) (hn : n ≤ 8) :
    Calls Tryz.prog 128 #[.pointer (some ⟨q, 0, none⟩), .int .i64 (n : Int)] w fun e w' => e = .returned (.int .u64 (num (t.got n) : Int)) ∧ QG q w (t.take n) w' := by
 have hgl : (t.got n).length ≤ 8 := by rcases t.got_length n with e | e <;> omega
 go_enter Tryz.func128, Tryz.ntmps128
 go_wp2_with (go_at_call 153; refine (ktake_calls _ q n t h).mono ?_; rintro e w1 ⟨rfl, hg⟩)
 generalize hG : t.got n = G at hgl ⊢
 have HG : Hid (t.got n = G) := hG
 clear hG
 have hsz : (str G).size = G.length := str_size G
 go_loop [6, 7] (fun v i => ∃ k : Nat, k ≤ G.length ∧ i = .int .i64 k ∧ v = .int .u64 (num (G.take k) : Int)) (fun _ i => G.length - (intOf i).toNat)
 case atStart => exact ⟨0, Nat.zero_le _, rfl, rfl⟩
 case round =>
  obtain ⟨k, hk, rfl, rfl⟩ := hrel
  by_cases hlt : k < G.length
  · have hv := num_small7 (l := G.take k) (by rw [List.length_take]; omega)
    have hvi : (num (G.take k) : Int) < 72057594037927936 := by omega
    clear hv
    have Hv : Hid ((num (G.take k) : Int) < 72057594037927936) := hvi
    go_wp2
    go_round
    case rel => exact ⟨k + 1, by omega, by go_num, congrArg (Value.int .u64) (knum_step G k hlt _ Hv.out)⟩
    case measure => simp [intOf]; omega
  · have e : k = G.length := by omega
    subst e
    go_wp2
    go_ret
    rw [HG.out]
    exact ⟨by simp, hg⟩

set_option maxHeartbeats 400000 in
theorem kword_reads (w : World) (q : Nat) (t : RS) (h : KQ w q t) :
    Calls Tryz.prog 93 #[.pointer (some ⟨q, 0, none⟩)] w fun e w' => e = .returned (.int .i64 (num (t.got 4) : Int)) ∧ QG q w (t.take 4) w' := by
 have hs := num_small7 (l := t.got 4) (by rcases t.got_length 4 with e | e <;> omega)
 go_enter Tryz.func93, Tryz.ntmps93
 go_wp2_with (go_at_call 128; refine (knumber_calls _ q 4 t h (by omega)).mono ?_; rintro e w1 ⟨rfl, hg⟩)
 go_ret
 exact ⟨rfl, hg⟩
end Go.Proofs.YtgicanpggndbeaaGreat
/- What each call on the document's own writer (wainscotref01.Writer) comes to, in the same words as for pack's. -/
namespace Go.Proofs.YtgicanpggndbeaaGreat
set_option linter.unusedVariables false
set_option maxRecDepth 100000
open Go.RowKit

theorem byte_wrap (x : Nat) : ((UInt8.ofNat x).toNat : Int) = (x : Int) % 256 := by simp

theorem be_get (v : Nat) : ∀ (n j : Nat), j < n → (be v n)[j]? = some (UInt8.ofNat (v / 256 ^ (n - 1 - j)))
 | 0, j, h => by omega
 | n + 1, 0, h => by simp [be]
 | n + 1, j + 1, h => by
  rw [be, List.getElem?_cons_succ, be_get v n j (by omega)]
  congr 4
  omega
theorem be_cells (v n : Nat) (xs : List Value) (hl : xs.length = n) (h : ∀ j, j < n → xs[j]? = some (.int .u8 ((UInt8.ofNat (v / 256 ^ (n - 1 - j))).toNat : Int))) : xs = bc (be v n) := by
 apply List.ext_getElem?
 intro j
 by_cases hj : j < n
 · rw [h j hj]
   unfold bc
   rw [List.getElem?_map, be_get v n j hj]
   rfl
 · rw [List.getElem?_eq_none (by omega), List.getElem?_eq_none (by rw [bc_length, be_length]; omega)]

set_option maxHeartbeats 400000 in
theorem big_calls' (w : World) (v n : Nat) (hn : n ≤ 8) (hv : Hid (v < 18446744073709551616)) :
    Calls Tryz.prog 112 #[.int .u64 (v : Int), .int .i64 (n : Int)] w fun e w' => e = .returned (.string (str (be v n))) ∧ Below w.heap.size w w' := by
 obtain ⟨i0, hi, hz0, hz1, hz2⟩ := info_parts Tryz.info_u8
 go_enter Tryz.func112, Tryz.ntmps112
 go_wp2_with (at_make; refine wpList_make_full _ rfl (.tmp 7) (.tmp 7) 140 rfl w.heap.size 5 i0 (.int .u8 0) 1 Tryz.underlying140 hi hz0 hz1 .i64 .i64 n n n rfl rfl rfl rfl (by rw [hz2]; omega) (by unfold maxLen; omega) (Nat.le_refl _) ?_; intro w1 hown hgrow)
 have hb1 : Below w.heap.size w w1 := (Below.refl _ _).grown hgrow (Nat.le_refl _) (fun k hk => by cases hk)
 clear hgrow
 go_loopw [0, 6] (fun u i wr => ∃ (k : Nat) (xs : List Value), k ≤ n ∧ i = .int .i64 (k : Int) ∧ u = .int .u64 ((v / 256 ^ (n - k) : Nat) : Int) ∧ wr.ownsRow w.heap.size 5 1 (.slice (some ⟨w.heap.size, 0, none⟩) n n) n xs ∧
     (∀ j, k ≤ j → j < n → xs[j]? = some (.int .u8 ((UInt8.ofNat (v / 256 ^ (n - 1 - j))).toNat : Int))) ∧ Below w.heap.size w wr)
   (fun _ i _ => (intOf i).toNat)
 case atStart => exact ⟨n, _, Nat.le_refl _, rfl, by simp, hown, fun j h1 h2 => by omega, hb1⟩
 case round =>
  obtain ⟨k, xs, hk, rfl, rfl, ho, hxs, hbel⟩ := hrel
  clear hown hb1
  by_cases hk0 : 0 < k
  · obtain ⟨i, rfl⟩ : ∃ i, k = i + 1 := ⟨k - 1, by omega⟩
    have hc := ho.cellAt i (by omega)
    have hfz := ho.frozenAt i
    have hxl : i < xs.length := by have := ho.1; omega
    rw [List.getElem?_eq_getElem hxl] at hc
    generalize hx : v / 256 ^ (n - (i + 1)) = x at *
    have hxb : (x : Int) ≤ 18446744073709551615 := by
     have h1 := Nat.div_le_self v (256 ^ (n - (i + 1)))
     have h2 := hv.out
     omega
    have Hx : Hid (v / 256 ^ (n - (i + 1)) = x) := hx
    clear hx
    go_wp2
    go_roundw
    case rel =>
     have hst := ho.stored i (.int .u8 ((x : Int) % 256))
     refine ⟨i, xs.set i (.int .u8 ((x : Int) % 256)), by omega, rfl, ?_, hst.1, fun j h1 h2 => ?_, hbel.grown hst.2 hbel.size (fun k hk => by cases hk; exact Nat.le_refl _)⟩
     · have e : v / 256 ^ (n - i) = x / 256 := by
         rw [← Hx.out, show n - i = n - (i + 1) + 1 by omega, Nat.pow_succ, Nat.div_div_eq_div_mul]
       rw [e]
       try rw [u64_nonneg (by omega) (by omega)]
       rfl
     · by_cases hji : j = i
       · subst hji
         rw [List.getElem?_set_self (by omega), byte_wrap, show n - 1 - j = n - (j + 1) by omega, Hx.out]
       · rw [List.getElem?_set_ne (by omega)]
         exact hxs j (by omega) h2
    case measure => simp [intOf]
  · have e : k = 0 := by omega
    subst e
    have hxe := be_cells v n xs (by have := ho.1; omega) (fun j hj => hxs j (by omega) hj)
    subst hxe
    have ho2 : wr.ownsRow w.heap.size 5 1 (.slice (some ⟨w.heap.size, 0, none⟩) n n) (be v n).length (bc (be v n)) := by rw [be_length]; exact ho
    have hcv := conv_bytes (own_bytes ho2)
    clear hxs ho2
    go_wp2
    go_ret
    exact ⟨rfl, hbel⟩
end Go.Proofs.YtgicanpggndbeaaGreat
