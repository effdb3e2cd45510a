import Derived.Test.YtdmindhjmjnagaaGreatDoorB07
import Derived.Test.YtdmindhjmjnagaaGreatDoorB08
import Derived.Laws.AppendOwnNone
import Derived.Laws.BitsAllLaws
import Derived.Laws.BytesArg
import Derived.Test.YtdmindhjmjnagaaGreatDoorB01
import Derived.Shelf.Strings.Trim
import Derived.Shelf.Strconv.Clone
import Derived.Ground.NamesProg
import Derived.Test.YtdmindhjmjnagaaGreatDoorChecked
import Derived.Lib.TrimByte
import Derived.Lib.ConvBytes
/- PackX PackD PackR PackQ PackRd InM BeMath RefR InA InL InB InC InD -/
namespace Go.Proofs.YtdmindhjmjnagaaGreatDoor
set_option linter.unusedVariables false
set_option maxRecDepth 1000000
set_option maxHeartbeats 32000000
section
open Go.RowKit
structure WS where
 m : Int
 l : List UInt8
 bad : Bool
def WS.fail (s : WS) : WS := ⟨s.m, [], true⟩
def WS.put (s : WS) (x : List UInt8) : WS := if s.bad = true then s else if (s.l.length : Int) + x.length ≤ s.m then ⟨s.m, s.l ++ x, false⟩ else s.fail
def WS.fill (s : WS) (n : Int) : WS := if n < s.l.length then s.fail else s.put (List.replicate (n - s.l.length).toNat 0)
def WrS (w : World) (p : Nat) (s : WS) (r : Option Nat) : Prop := WrAt w p s.m s.l s.bad r
def WrG (p : Nat) (w : World) (r : Option Nat) (s : WS) (w' : World) : Prop := ∃ r', WrS w' p s r' ∧ Touch p r w w' ∧ Near r r' w.heap.size
theorem WrG.drewN {w w' : World} {p : Nat} {s : WS} {r : Option Nat} {k : Nat} (h : WrG p (w.drewN k) r s w') : WrG p w r s w' := by
 obtain ⟨r', h1, h2, h3⟩ := h
 exact ⟨r', h1, ⟨h2.os, h2.tape, h2.output, h2.size, h2.block⟩, h3⟩
theorem WrS.failed {w : World} {p : Nat} {s : WS} {r : Option Nat} (h : WrS w p s r) : WrG p w r s.fail ((w.setCell ⟨p, 2, none⟩ (.bool true)).setCell ⟨p, 1, none⟩ (.slice none 0 0)) := WrAt.failed h
theorem WrS.lt {w : World} {p : Nat} {s : WS} {r : Option Nat} (h : WrS w p s r) : p < w.heap.size ∧ ∀ k, r = some k → p < k ∧ k < w.heap.size := WrAt.lt h
theorem fail_calls (w : World) (p : Nat) (s : WS) (r : Option Nat) (h : WrS w p s r) :
    Calls Tryz.prog 153 #[.pointer (some ⟨p, 0, none⟩)] w fun e w' => e = .returned (.tuple #[]) ∧ WrG p w r s.fail w' := by
 obtain ⟨a, c, h1, _⟩ := WrAt.op h
 refine (fail_any w p s.m _ s.bad h1).mono ?_
 rintro e w' ⟨rfl, rfl⟩
 exact ⟨rfl, h.failed⟩
theorem wr_store {w w1 : World} {p : Nat} {m : Int} {L L' : List UInt8} {sv1 : Value} {a : Option Addr} {c N : Nat}
    (h1 : w.heap[p]? = some (.cells #[.int .i64 m, sv1, .bool false] 211 (0, 0))) (ho1 : w.ownsRow (p + 1) 5 1 sv1 L.length (bc L))
    (hown : w1.ownsRow (p + 1) 5 1 (.slice a N c) N (bc L')) (hN : N = L'.length) (hgrow : w.grownBy w1 sv1.ownBlock) (hat : (Value.slice a N c).ownBlock = sv1.ownBlock ∨ (Value.slice a N c).ownBlock = some w.heap.size)
    (hm0 : 0 ≤ m) (hm1 : m ≤ 2147483647) (hl : (L'.length : Int) ≤ m) : WrG p w sv1.ownBlock ⟨m, L', false⟩ (w1.setCell ⟨p, 1, none⟩ (.slice a N c)) := by
 subst hN
 have hp := lt_of_block h1
 have hpw1 : w1.heap[p]? = some (.cells #[.int .i64 m, sv1, .bool false] 211 (0, 0)) := by
  rw [hgrow.block p hp (fun e => by have := ho1.lt p e.symm; omega)]; exact h1
 refine ⟨_, ⟨_, (set3 hpw1).2.1, ?_, rfl, hm0, hm1, hl⟩, ((Touch.refl p _ w).grown hgrow).setCell _ _, ?_⟩
 · exact ownsRow_setCell_below hown (by simp) _
 · intro k hk
   rcases hat with e | e
   · exact .inl (e ▸ hk)
   · rw [e] at hk
     cases hk
     exact .inr (Nat.le_refl _)
theorem raw_bad (w : World) (p : Nat) (t : ByteArray) (m : Int) (L : List UInt8) (r : Option Nat) (h : WrAt w p m L true r) :
    Calls Tryz.prog 119 #[.pointer (some ⟨p, 0, none⟩), .string t] w fun e w' => e = .returned (.tuple #[]) ∧ WrG p w r ⟨m, L, true⟩ w' := by
 obtain ⟨a, c, h1, _⟩ := h.op
 go_enter Tryz.func119, Tryz.ntmps119
 go_wp2_with (go_at_call 152; refine (fits_bad _ p m _ a L.length c (by exact h1)).mono ?_; rintro e w' ⟨rfl, k, rfl⟩)
 go_end0
 exact ⟨rfl, (h.drewN k).stays.drewN⟩
theorem raw_full (w : World) (p : Nat) (t : ByteArray) (m : Int) (L : List UInt8) (r : Option Nat) (h : WrAt w p m L false r) (ht : t.size ≤ 140737488351232) (hn : m - L.length < t.size) :
    Calls Tryz.prog 119 #[.pointer (some ⟨p, 0, none⟩), .string t] w fun e w' => e = .returned (.tuple #[]) ∧ WrG p w r ⟨m, [], true⟩ w' := by
 obtain ⟨a, c, h1, _, _, hm0, hm1, hl⟩ := h.op
 go_enter Tryz.func119, Tryz.ntmps119
 go_wp2_with (go_at_call 152; refine (fits_full _ p m _ a L.length c (by exact h1) hm0 hm1 hl hn).mono ?_; rintro e w' ⟨rfl, k, rfl⟩)
 go_end0
 exact ⟨rfl, (h.drewN k).failed.drewN⟩
theorem raw_ok (w : World) (p : Nat) (t : ByteArray) (m : Int) (L : List UInt8) (r : Option Nat) (h : WrAt w p m L false r) (hn : (L.length : Int) + t.size ≤ m) :
    Calls Tryz.prog 119 #[.pointer (some ⟨p, 0, none⟩), .string t] w fun e w' => e = .returned (.tuple #[]) ∧ WrG p w r ⟨m, L ++ t.data.toList, false⟩ w' := by
 obtain ⟨i0, hi, hz0, hz1, hz2⟩ := info_parts Tryz.info_u8
 obtain ⟨a, c, h1, ho, rfl, hm0, hm1, hl⟩ := h.op
 obtain ⟨c0, c1, c2⟩ := cells3 h1
 obtain ⟨f0, f1, f2⟩ := free3 h1
 have hp := lt_of_block h1
 go_enter Tryz.func119, Tryz.ntmps119
 go_wp2_with (first
  | (go_at_call 152; refine (fits_ok _ p m _ a L.length c (by exact h1) hm0 hm1 hl (by omega)).mono ?_; rintro e w' ⟨rfl, k, rfl⟩; obtain ⟨a', c', w1, hr, hown, hgrow, hat⟩ := run_append_str (P := Tryz.prog) (w.drewN k) (p + 1) 49 9 49 5 i0 Tryz.underlying49 Tryz.underlying9 hi hz0 hz1 hz2 (.slice a L.length c) L.length (bc L) ho t (by omega) (by simp; omega); have hfz : w1.frozen? ⟨p, 1, none⟩ = false := (hgrow.frozen_far ⟨p, 1, none⟩ (by simp; omega) (fun e => by have := ho.lt p e.symm; omega)).trans f1; have hcl := (hgrow.cell_far ⟨p, 1, none⟩ (by simp; omega) (fun e => by have := ho.lt p e.symm; omega)).trans c1)
  | (at_builtin; refine Lib.wpList_append_run _ rfl (.tmp 12) (.tmp 13) _ _ rfl _ _ rfl rfl _ _ hr ?_))
 go_end0
 refine ⟨rfl, WrG.drewN (k := k) (wr_store h1 ho ?_ ?_ hgrow hat hm0 hm1 ?_)⟩
 · rw [bc_append]; exact hown
 · simp
 · simpa using hn
theorem raw_calls (w : World) (p : Nat) (t : ByteArray) (s : WS) (r : Option Nat) (h : WrS w p s r) (ht : t.size ≤ 140737488351232) :
    Calls Tryz.prog 119 #[.pointer (some ⟨p, 0, none⟩), .string t] w fun e w' => e = .returned (.tuple #[]) ∧ WrG p w r (s.put t.data.toList) w' := by
 obtain ⟨m, L, bad⟩ := s
 have hb : t.data.toList.length = t.size := by simp
 unfold WS.put
 cases bad with
 | true => exact raw_bad w p t m L r h
 | false =>
  by_cases hl : (L.length : Int) + t.data.toList.length ≤ m
  · rw [if_neg (by simp), if_pos hl]
    exact raw_ok w p t m L r h (by rw [hb] at hl; exact hl)
  · rw [if_neg (by simp), if_neg hl]
    exact raw_full w p t m L r h ht (by rw [hb] at hl; omega)
theorem fill_neg (w : World) (p : Nat) (n : Int) (s : WS) (r : Option Nat) (h : WrS w p s r) (hn : n < s.l.length) :
    Calls Tryz.prog 120 #[.pointer (some ⟨p, 0, none⟩), .int .i64 n] w fun e w' => e = .returned (.tuple #[]) ∧ WrG p w r s.fail w' := by
 obtain ⟨a, c, h1, _⟩ := WrAt.op h
 obtain ⟨c0, c1, c2⟩ := cells3 h1
 clear h1
 go_enter Tryz.func120, Tryz.ntmps120
 go_wp2_with (go_at_call 153; refine (fail_calls _ p s r h).mono ?_; rintro e w' ⟨rfl, hg⟩)
 ((try simp only [Exit.inBlock, Exit.then]); refine bodyPost_ret (results_none rfl _ _ _) rfl ?_)
 exact ⟨rfl, hg⟩
theorem fill_bad (w : World) (p : Nat) (n : Int) (m : Int) (L : List UInt8) (r : Option Nat) (h : WrAt w p m L true r) (hn : L.length ≤ n) (hn2 : n ≤ 9223372036854775807) :
    Calls Tryz.prog 120 #[.pointer (some ⟨p, 0, none⟩), .int .i64 n] w fun e w' => e = .returned (.tuple #[]) ∧ WrG p w r ⟨m, L, true⟩ w' := by
 obtain ⟨a, c, h1, _⟩ := h.op
 obtain ⟨c0, c1, c2⟩ := cells3 h1
 go_enter Tryz.func120, Tryz.ntmps120
 go_wp2_with (go_at_call 152; refine (fits_bad _ p m _ a L.length c (by exact h1)).mono ?_; rintro e w' ⟨rfl, k, rfl⟩)
 go_end0
 exact ⟨rfl, (h.drewN k).stays.drewN⟩
theorem fill_full (w : World) (p : Nat) (n m : Int) (L : List UInt8) (r : Option Nat) (h : WrAt w p m L false r) (hn : m < n) (hn2 : n ≤ 9223372036854775807) :
    Calls Tryz.prog 120 #[.pointer (some ⟨p, 0, none⟩), .int .i64 n] w fun e w' => e = .returned (.tuple #[]) ∧ WrG p w r ⟨m, [], true⟩ w' := by
 obtain ⟨a, c, h1, _, _, hm0, hm1, hl⟩ := h.op
 obtain ⟨c0, c1, c2⟩ := cells3 h1
 go_enter Tryz.func120, Tryz.ntmps120
 go_wp2_with (go_at_call 152; refine (fits_full _ p m _ a L.length c (by exact h1) hm0 hm1 hl (by omega)).mono ?_; rintro e w' ⟨rfl, k, rfl⟩)
 go_end0
 exact ⟨rfl, (h.drewN k).failed.drewN⟩
theorem fill_ok (w : World) (p d : Nat) (n m : Int) (L : List UInt8) (r : Option Nat) (h : WrAt w p m L false r) (hn : n ≤ m) (hd : n - L.length = d) :
    Calls Tryz.prog 120 #[.pointer (some ⟨p, 0, none⟩), .int .i64 n] w fun e w' => e = .returned (.tuple #[]) ∧ WrG p w r ⟨m, L ++ List.replicate d 0, false⟩ w' := by
 obtain ⟨i0, hi, hz0, hz1, hz2⟩ := info_parts Tryz.info_u8
 obtain ⟨a, c, h1, ho, rfl, hm0, hm1, hl⟩ := h.op
 obtain ⟨c0, c1, c2⟩ := cells3 h1
 obtain ⟨f0, f1, f2⟩ := free3 h1
 have hp := lt_of_block h1
 have hnl : ¬ n < (L.length : Int) := by omega
 go_enter Tryz.func120, Tryz.ntmps120
 go_wp2_with (first
  | (go_at_call 152; refine (fits_ok _ p m _ a L.length c (by exact h1) hm0 hm1 hl (by omega)).mono ?_; rintro e w' ⟨rfl, k, rfl⟩; obtain ⟨a', c', w1, hr, hown, hgrow, hat⟩ := run_append_zeros (P := Tryz.prog) (w.drewN k) (p + 1) 49 3 49 5 i0 .i64 Tryz.underlying49 Tryz.underlying3 hi hz0 hz1 hz2 (.slice a L.length c) L.length (bc L) ho d (by omega) (by simp; omega); have hfz : w1.frozen? ⟨p, 1, none⟩ = false := (hgrow.frozen_far ⟨p, 1, none⟩ (by simp; omega) (fun e => by have := ho.lt p e.symm; omega)).trans f1; have hcl := (hgrow.cell_far ⟨p, 1, none⟩ (by simp; omega) (fun e => by have := ho.lt p e.symm; omega)).trans c1)
  | (at_builtin; refine Lib.wpList_append_run _ rfl (.tmp 28) (.tmp 29) _ _ rfl _ _ rfl rfl _ _ hr ?_))
 go_end0
 refine ⟨rfl, WrG.drewN (k := k) (wr_store h1 ho ?_ ?_ hgrow hat hm0 hm1 ?_)⟩
 · rw [bc_append, show bc (List.replicate d 0) = List.replicate d (.int .u8 0) from by simp [bc]]; exact hown
 · simp
 · simp; omega
theorem fill_calls (w : World) (p : Nat) (n : Int) (s : WS) (r : Option Nat) (h : WrS w p s r) (hn2 : n ≤ 9223372036854775807) :
    Calls Tryz.prog 120 #[.pointer (some ⟨p, 0, none⟩), .int .i64 n] w fun e w' => e = .returned (.tuple #[]) ∧ WrG p w r (s.fill n) w' := by
 unfold WS.fill
 by_cases hn : n < s.l.length
 · rw [if_pos hn]; exact fill_neg w p n s r h hn
 · rw [if_neg hn]
   obtain ⟨m, L, bad⟩ := s
   unfold WS.put
   simp only at hn
   cases bad with
   | true => exact fill_bad w p n m L r h (by omega) hn2
   | false =>
    by_cases hl : (L.length : Int) + (List.replicate (n - L.length).toNat (0 : UInt8)).length ≤ m
    · rw [if_neg (by simp), if_pos hl]
      rw [List.length_replicate] at hl
      exact fill_ok w p (n - L.length).toNat n m L r h (by omega) (by omega)
    · rw [if_neg (by simp), if_neg hl]
      rw [List.length_replicate] at hl
      exact fill_full w p n m L r h (by omega) hn2
end
section
open Go.RowKit
theorem new_calls (w : World) (n : Int) (h0 : 0 ≤ n) (h1 : n ≤ 2147483647) :
    Calls Tryz.prog 118 #[.int .i64 n] w fun e w' => e = .returned (.pointer (some ⟨w.heap.size, 0, none⟩)) ∧ WrS w' w.heap.size ⟨n, [], false⟩ none ∧ Below w.heap.size w w' := by
 refine (new_any w n h0 h1).mono ?_
 rintro e w' ⟨rfl, rfl⟩
 exact ⟨rfl, ⟨_, heap_alloc_new _ _, World.ownsRow_nil _ _ _ _, rfl, h0, h1, by simpa using h0⟩, (Below.refl _ _).alloc (Nat.le_refl _) _⟩
theorem done_none (w : World) (p c : Nat) (m : Int) (h1 : w.heap[p]? = some (.cells #[.int .i64 m, .slice none 0 0, .bool false] 211 (0, 0))) :
    Calls Tryz.prog 154 #[.pointer (some ⟨p, 0, none⟩)] w fun e w' => ∃ a c, e = .returned (.tuple #[.slice a 0 c, .bool true]) ∧ w'.ownsRow w.heap.size 5 1 (.slice a 0 c) 0 [] ∧ Below w.heap.size w w' := by
 obtain ⟨i0, hi, hz0, hz1, hz2⟩ := info_parts Tryz.info_u8
 obtain ⟨c0, c1, c2⟩ := cells3 h1
 have hp := lt_of_block h1
 clear h1
 go_enter Tryz.func154, Tryz.ntmps154
 go_wp2_with (at_builtin; refine wpList_append_own_none rfl (.tmp 8) (.tmp 12) 49 rfl w.heap.size 5 i0 1 Tryz.underlying49 hi (.slice (some ⟨w.heap.size, 0, none⟩) 0 0) 0 [] rfl (World.ownsRow_made w #[] 0 (Nat.le_refl _) (by unfold maxLen; omega) rfl) rfl ?_)
 go_ret2
 exact ⟨_, _, rfl, World.ownsRow_made w #[] 0 (Nat.le_refl _) (by unfold maxLen; omega) rfl, (Below.refl _ _).alloc (Nat.le_refl _) _⟩
theorem done_some (w : World) (p c g : Nat) (m : Int) (L : List UInt8) (h1 : w.heap[p]? = some (.cells #[.int .i64 m, .slice (some ⟨g, 0, none⟩) L.length c, .bool false] 211 (0, 0))) (ho : w.ownsRow (p + 1) 5 1 (.slice (some ⟨g, 0, none⟩) L.length c) L.length (bc L)) (hl : (L.length : Int) ≤ 2147483647) :
    Calls Tryz.prog 154 #[.pointer (some ⟨p, 0, none⟩)] w fun e w' => ∃ a c, e = .returned (.tuple #[.slice a L.length c, .bool true]) ∧ w'.ownsRow w.heap.size 5 1 (.slice a L.length c) L.length (bc L) ∧ Below w.heap.size w w' := by
 obtain ⟨i0, hi, hz0, hz1, hz2⟩ := info_parts Tryz.info_u8
 obtain ⟨c0, c1, c2⟩ := cells3 h1
 have hp := lt_of_block h1
 have hg := (ho.lt g rfl).2
 clear h1
 have hcs : ∀ j u, (bc L)[j]? = some u → (w.alloc (.cells #[] 5)).cell? ((⟨g, 0, none⟩ : Addr).add j) = some u := (ho.alloc _).cells rfl
 go_enter Tryz.func154, Tryz.ntmps154
 go_wp2_with (at_builtin; refine wpList_append_own _ rfl (.tmp 8) (.tmp 12) 49 rfl w.heap.size 5 i0 (.int .u8 0) 1 1 Tryz.underlying49 hi hz0 hz1 hz2 rfl (by decide) (.slice (some ⟨w.heap.size, 0, none⟩) 0 0) 0 [] rfl (World.ownsRow_made w #[] 0 (Nat.le_refl _) (by unfold maxLen; omega) rfl) ⟨g, 0, none⟩ L.length c (bc L) rfl (by rw [bc_length]; omega) hcs (bc_one L) (by unfold maxLen; omega) (by omega) (by simp) ?_; intro v' w1 hown hgrow _)
 go_ret2
 obtain ⟨a, c', rfl⟩ := own_form hown
 refine ⟨a, c', ?_, ?_, ?_⟩
 · simp
 · simpa using hown
 · exact ((Below.refl _ _).alloc (Nat.le_refl _) _).grown hgrow (by simp) (fun k hk => by simp [Value.ownBlock] at hk; omega)
theorem done_ok (w : World) (p : Nat) (s : WS) (r : Option Nat) (h : WrS w p s r) (hb : s.bad = false) :
    Calls Tryz.prog 154 #[.pointer (some ⟨p, 0, none⟩)] w fun e w' => ∃ a c, e = .returned (.tuple #[.slice a s.l.length c, .bool true]) ∧ w'.ownsRow w.heap.size 5 1 (.slice a s.l.length c) s.l.length (bc s.l) ∧ Below w.heap.size w w' := by
 obtain ⟨sv, h1, ho, _, hm0, hm1, hl⟩ := h
 rw [hb] at h1
 rcases ho.2 with ⟨rfl, h0⟩ | ⟨g, cap, cur, rfl, _⟩
 · have e : s.l = [] := List.eq_nil_of_length_eq_zero h0
   rw [e]
   exact done_none w p 0 s.m h1
 · exact done_some w p cap g s.m s.l h1 ho (by omega)
end
section
open Go.RowKit
def BytesIn (w : World) (sv : Value) (L : List UInt8) (r : Option Nat) : Prop :=
 ∃ ad cap, sv = .slice ad L.length cap ∧ L.length ≤ cap ∧
   ((ad = none ∧ L = [] ∧ cap = 0) ∨ ∃ g off, ad = some ⟨g, off, none⟩ ∧ r = some g ∧ g < w.heap.size ∧ ∀ j u, (bc L)[j]? = some u → w.cell? ⟨g, off + j, none⟩ = some u)
theorem bc_at (l : List UInt8) (j : Nat) (h : j < l.length) : (bc l)[j]? = some (.int .u8 (l[j].toNat : Int)) := by simp [bc, h]
theorem add_lit (g off n : Nat) : (⟨g, off, none⟩ : Addr).add n = ⟨g, off + n, none⟩ := by unfold Addr.add; split <;> simp_all
theorem bc_get {l : List UInt8} {j : Nat} {u : Value} (h : (bc l)[j]? = some u) : j < l.length := by
 have := (List.getElem?_eq_some_iff.1 h).1
 rwa [bc_length] at this
end
section
open Go.RowKit
theorem conv_bytes {w : World} {sv : Value} {L : List UInt8} {r : Option Nat} (h : BytesIn w sv L r) : (convert 49 9 sv).run Tryz.prog w = .ok (.string (str L)) w := by
 obtain ⟨ad, cap, rfl, hcap, hcs⟩ := h
 rcases hcs with ⟨rfl, rfl, rfl⟩ | ⟨g, off, rfl, _, _, hcell⟩
 · exact run_convert_bytes_nil w 49 5 Tryz.underlying49 Tryz.underlying5 0 0 9 Tryz.underlying9
 · have := run_convert_bytes_arg (P := Tryz.prog) w 49 5 Tryz.underlying49 Tryz.underlying5 g off L.length cap (L.map fun b => (b.toNat : Int)) (by simp) (fun i hi => by
     rw [hcell i _ (bc_at L i hi)]
     simp [hi]) 9 Tryz.underlying9
   rw [str_of] at this
   exact this
end
section
open Go.RowKit
theorem own_bytes {w : World} {base : Nat} {sv : Value} {L : List UInt8} (h : w.ownsRow base 5 1 sv L.length (bc L)) : BytesIn w sv L sv.ownBlock := by
 rcases h.2 with ⟨rfl, h0⟩ | ⟨g, cap, cur, rfl, hb, hg, hn, _⟩
 · exact ⟨none, 0, by rw [h0], by omega, .inl ⟨rfl, List.eq_nil_of_length_eq_zero h0, rfl⟩⟩
 · refine ⟨_, cap, rfl, hn, .inr ⟨g, 0, rfl, rfl, (h.lt g rfl).2, fun j u hu => ?_⟩⟩
   have := h.cells (g := g) rfl j u hu
   rw [add_lit] at this
   exact this
end
section
open Go.RowKit
structure Ino where
 d : Bool
 l : Int
 s : Int
theorem num_lt4 (L : List UInt8) (h : L.length ≤ 4) : num L ≤ 4294967295 := by
 have h1 := num_lt L
 have h2 : 256 ^ L.length ≤ 256 ^ 4 := Nat.pow_le_pow_right (by omega) h
 have h3 : (256 : Nat) ^ 4 = 4294967296 := by decide
 omega
def okNum (n : Int) : Bool := decide (1 ≤ n) && decide (n < 1073741824)
end
section
end
section
open Go.RowKit
theorem ext_take (l : List UInt8) (n : Nat) : (str l).extract 0 n = str (l.take n) := by
 apply Go.WideShapes.bytes_inj
 simp [str]
theorem ext_drop (l : List UInt8) (n : Nat) : (str l).extract n (str l).size = str (l.drop n) := by
 apply Go.WideShapes.bytes_inj
 simp [str, ByteArray.size]
 rw [List.take_of_length_le (by simp)]
end
section
open Go.RowKit
theorem first_long (w : World) (L : List UInt8) (n : Nat) (N : Int) (hN : N = (n : Int)) (hn : N ≤ ((str L).size : Int)) (hm : min N ((str L).size : Int) = N) :
    Calls Tryz.prog 111 #[.string (str L), .int .i64 N] w fun e w' => e = .returned (.string (str (L.take n))) ∧ w' = w := by
 have h0 : 0 ≤ N := by omega
 have e1 : (str L).extract 0 N.toNat = str (L.take n) := by rw [hN]; exact ext_take L n
 generalize str (L.take n) = R at *
 generalize str L = S at *
 clear hN
 go_enter Tryz.func111, Tryz.ntmps111
 go_wp2
 go_ret
 exact ⟨rfl, rfl⟩
theorem first_short (w : World) (L : List UInt8) (N : Int) (hn : ((str L).size : Int) < N) :
    Calls Tryz.prog 111 #[.string (str L), .int .i64 N] w fun e w' => e = .returned (.string (str L)) ∧ w' = w := by
 have e1 : (str L).extract 0 (str L).size = str L := by rw [ext_take, str_size, List.take_length]
 generalize str L = S at *
 go_enter Tryz.func111, Tryz.ntmps111
 go_wp2
 go_ret
 first
   | exact ⟨rfl, rfl⟩
   | exact ⟨by rw [show min N (S.size : Int) = (S.size : Int) by omega]; exact congrArg (fun x => Ending.returned (.string x)) e1, rfl⟩
theorem first_calls (w : World) (L : List UInt8) (n : Nat) (N : Int) (hN : N = (n : Int)) :
    Calls Tryz.prog 111 #[.string (str L), .int .i64 N] w fun e w' => e = .returned (.string (str (L.take n))) ∧ w' = w := by
 by_cases h : n ≤ L.length
 · exact first_long w L n N hN (by rw [str_size]; omega) (by rw [str_size]; omega)
 · rw [List.take_of_length_le (by omega)]
   exact first_short w L N (by rw [str_size]; omega)
theorem written_calls (w : World) (p : Nat) (S : WS) (r : Option Nat) (h : WrS w p S r) (hb : S.bad = false) :
    Calls Tryz.prog 121 #[.pointer (some ⟨p, 0, none⟩)] w fun e w' => e = .returned (.string (str S.l)) ∧ Below w.heap.size w w' := by
 have H := done_ok w p S r h hb
 clear h hb
 go_enter Tryz.func121, Tryz.ntmps121
 go_wp2_with fail
 refine H.mono ?_
 rintro e w1 ⟨a, c, rfl, ho, hbel⟩
 clear H
 have hc := conv_bytes (own_bytes ho)
 clear ho
 go_wp2
 go_ret
 exact ⟨rfl, hbel⟩
abbrev iv (n : Ino) : Value := .agg #[.bool n.d, .int .i64 n.l, .int .i64 n.s]
def Wri (w w1 : World) (p : Nat) (S : WS) : Prop := ∃ r, WrS w1 p S r ∧ Below w.heap.size w w1 ∧ w.heap.size ≤ p
theorem Wri.of {w w0 w1 : World} {p : Nat} {S : WS} (hb : Below w.heap.size w w0) (h : WrS w1 p S none) (hp : p = w0.heap.size) (k : Below w0.heap.size w0 w1) : Wri w w1 p S :=
 ⟨none, h, hb.trans (k.mono hb.size), by rw [hp]; exact hb.size⟩
theorem Wri.to {w w1 w2 : World} {p : Nat} {S S' : WS} {r : Option Nat} (h1 : WrS w1 p S r) (h2 : Below w.heap.size w w1) (h3 : w.heap.size ≤ p) (g : WrG p w1 r S' w2) : Wri w w2 p S' := by
 obtain ⟨r', g1, g2, g3⟩ := g
 have hl := h1.lt
 exact ⟨r', g1, h2.trans (g2.below h2.size h3 fun k hk => by have := hl.2 k hk; omega), h3⟩
theorem wri_new {w w0 : World} (hb : Below w.heap.size w w0) (n : Int) (h0 : 0 ≤ n) (h1 : n ≤ 2147483647) :
    Calls Tryz.prog 118 #[.int .i64 n] w0 fun e w' => ∃ p, e = .returned (.pointer (some ⟨p, 0, none⟩)) ∧ Wri w w' p ⟨n, [], false⟩ := by
 refine (new_calls w0 n h0 h1).mono ?_
 rintro e w' ⟨rfl, h, k⟩
 exact ⟨_, rfl, Wri.of hb h rfl k⟩
theorem wri_raw {w w1 : World} {p : Nat} {S : WS} (h : Wri w w1 p S) (L : List UInt8) (ht : L.length ≤ 140737488351232) :
    Calls Tryz.prog 119 #[.pointer (some ⟨p, 0, none⟩), .string (str L)] w1 fun e w' => e = .returned (.tuple #[]) ∧ Wri w w' p (S.put L) := by
 obtain ⟨r, h1, h2, h3⟩ := h
 refine (raw_calls w1 p (str L) S r h1 (by rw [str_size]; exact ht)).mono ?_
 rintro e w' ⟨rfl, g⟩
 rw [str_list] at g
 exact ⟨rfl, Wri.to h1 h2 h3 g⟩
theorem wri_fill {w w1 : World} {p : Nat} {S : WS} (h : Wri w w1 p S) (n : Int) (hn : n ≤ 9223372036854775807) :
    Calls Tryz.prog 120 #[.pointer (some ⟨p, 0, none⟩), .int .i64 n] w1 fun e w' => e = .returned (.tuple #[]) ∧ Wri w w' p (S.fill n) := by
 obtain ⟨r, h1, h2, h3⟩ := h
 refine (fill_calls w1 p n S r h1 hn).mono ?_
 rintro e w' ⟨rfl, g⟩
 exact ⟨rfl, Wri.to h1 h2 h3 g⟩
theorem wri_written {w w1 : World} {p : Nat} {S : WS} (h : Wri w w1 p S) (L : List UInt8) (hS : S = ⟨S.m, L, false⟩) :
    Calls Tryz.prog 121 #[.pointer (some ⟨p, 0, none⟩)] w1 fun e w' => e = .returned (.string (str L)) ∧ Below w.heap.size w w' := by
 obtain ⟨r, h1, h2, h3⟩ := h
 refine (written_calls w1 p S r h1 (by rw [hS])).mono ?_
 rintro e w' ⟨rfl, g⟩
 exact ⟨by rw [hS], h2.trans (g.mono h2.size)⟩
theorem put_ok (m : Int) (L x : List UInt8) (h : (L.length : Int) + x.length ≤ m) : (⟨m, L, false⟩ : WS).put x = ⟨m, L ++ x, false⟩ := by
 unfold WS.put
 rw [if_neg (by simp), if_pos h]
theorem ws_full (L : List UInt8) (h : L.length ≤ 32) : ((⟨32, [], false⟩ : WS).put L).fill 32 = ⟨32, L ++ List.replicate (32 - L.length) 0, false⟩ := by
 rw [put_ok _ _ _ (by simp; omega), WS.fill, if_neg (by simp; omega), put_ok _ _ _ (by simp; omega)]
 simp
end
section
open Go.Shelf
def Tryz.trimA_ren : Go.Shelf.Ren := ⟨fun | 162 => 110 | 232 => 142 | 227 => 143 | 234 => 144 | 236 => 145 | 228 => 166 | 271 => 167 | 151 => 168 | 120 => 184 | 197 => 185 | 152 => 186 | 260 => 202 | 137 => 165 | 119 => 203 | 224 => 204 | 225 => 205 | 217 => 183 | 266 => 201 | n => n, fun | 9 => 9 | 4 => 4 | 3 => 3 | 5 => 5 | 117 => 201 | 116 => 200 | 0 => 0 | 124 => 204 | 21 => 21 | 105 => 223 | 46 => 125 | 119 => 266 | 139 => 269 | 138 => 268 | n => n, fun | 3 => 1 | 4 => 2 | n => n⟩
theorem Tryz.trimA : Go.Proofs.Lays.n162 Tryz.prog Tryz.trimA_ren := {
 mixed := by kernel_rfl
 f119 := Tryz.func203.trans (congrArg some (by kernel_rfl))
 f120 := Tryz.func184.trans (congrArg some (by kernel_rfl))
 f137 := Tryz.func165.trans (congrArg some (by kernel_rfl))
 f151 := Tryz.func168.trans (congrArg some (by kernel_rfl))
 f152 := Tryz.func186.trans (congrArg some (by kernel_rfl))
 f162 := Tryz.func110.trans (congrArg some (by kernel_rfl))
 f197 := Tryz.func185.trans (congrArg some (by kernel_rfl))
 f217 := Tryz.func183.trans (congrArg some (by kernel_rfl))
 f224 := Tryz.func204.trans (congrArg some (by kernel_rfl))
 f225 := Tryz.func205.trans (congrArg some (by kernel_rfl))
 f227 := Tryz.func143.trans (congrArg some (by kernel_rfl))
 f228 := Tryz.func166.trans (congrArg some (by kernel_rfl))
 f232 := Tryz.func142.trans (congrArg some (by kernel_rfl))
 f234 := Tryz.func144.trans (congrArg some (by kernel_rfl))
 f236 := Tryz.func145.trans (congrArg some (by kernel_rfl))
 f260 := Tryz.func202.trans (congrArg some (by kernel_rfl))
 f266 := Tryz.func201.trans (congrArg some (by kernel_rfl))
 f271 := Tryz.func167.trans (congrArg some (by kernel_rfl))
 t0 := Tryz.underlying0
 a0 := Tryz.isAgg0
 z0 := Tryz.sizeOf0
 v0 := Tryz.zeroValue0
 t3 := Tryz.underlying3
 a3 := Tryz.isAgg3
 z3 := Tryz.sizeOf3
 v3 := Tryz.zeroValue3
 t4 := Tryz.underlying4
 a4 := Tryz.isAgg4
 z4 := Tryz.sizeOf4
 v4 := Tryz.zeroValue4
 t5 := Tryz.underlying5
 a5 := Tryz.isAgg5
 z5 := Tryz.sizeOf5
 v5 := Tryz.zeroValue5
 t9 := Tryz.underlying9
 a9 := Tryz.isAgg9
 z9 := Tryz.sizeOf9
 v9 := Tryz.zeroValue9
 t21 := Tryz.underlying21
 a21 := Tryz.isAgg21
 z21 := Tryz.sizeOf21
 v21 := Tryz.zeroValue21
 t46 := Tryz.underlying125
 a46 := Tryz.isAgg125
 z46 := Tryz.sizeOf125
 v46 := Tryz.zeroValue125
 t105 := Tryz.underlying223
 a105 := Tryz.isAgg223
 z105 := Tryz.sizeOf223
 v105 := Tryz.zeroValue223
 t116 := Tryz.underlying200
 a116 := Tryz.isAgg200
 z116 := Tryz.sizeOf200
 t117 := Tryz.underlying201
 a117 := Tryz.isAgg201
 z117 := Tryz.sizeOf201
 v117 := Tryz.zeroValue201
 t119 := Tryz.underlying266
 a119 := Tryz.isAgg266
 z119 := Tryz.sizeOf266
 t124 := Tryz.underlying204
 a124 := Tryz.isAgg204
 z124 := Tryz.sizeOf204
 v124 := Tryz.zeroValue204
 t138 := Tryz.underlying268
 a138 := Tryz.isAgg268
 z138 := Tryz.sizeOf268
 v138 := Tryz.zeroValue268
 t139 := Tryz.underlying269
 a139 := Tryz.isAgg269
 z139 := Tryz.sizeOf269
 v139 := Tryz.zeroValue269
 g3 := by kernel_rfl
 g4 := by kernel_rfl }
def Tryz.cloneA_ren : Go.Shelf.Ren := ⟨fun | 316 => 141 | n => n, fun | 9 => 9 | 3 => 3 | 4 => 4 | 37 => 49 | 0 => 0 | 127 => 179 | 5 => 5 | n => n, fun | n => n⟩
theorem Tryz.cloneA : Go.Proofs.LaysM.n316 Tryz.prog Tryz.cloneA_ren := {
 mixed := by kernel_rfl
 f316 := Tryz.func141.trans (congrArg some (by kernel_rfl))
 t0 := Tryz.underlying0
 a0 := Tryz.isAgg0
 z0 := Tryz.sizeOf0
 v0 := Tryz.zeroValue0
 t3 := Tryz.underlying3
 a3 := Tryz.isAgg3
 z3 := Tryz.sizeOf3
 v3 := Tryz.zeroValue3
 t4 := Tryz.underlying4
 a4 := Tryz.isAgg4
 z4 := Tryz.sizeOf4
 v4 := Tryz.zeroValue4
 t9 := Tryz.underlying9
 a9 := Tryz.isAgg9
 z9 := Tryz.sizeOf9
 v9 := Tryz.zeroValue9
 t37 := Tryz.underlying49
 a37 := Tryz.isAgg49
 z37 := Tryz.sizeOf49
 v37 := Tryz.zeroValue49
 t127 := Tryz.underlying179
 a127 := Tryz.isAgg179
 z127 := Tryz.sizeOf179
 v127 := Tryz.zeroValue179
 t5 := Tryz.underlying5
 a5 := Tryz.isAgg5
 z5 := Tryz.sizeOf5
 v5 := Tryz.zeroValue5
 i0 := by kernel_rfl
 i3 := by kernel_rfl
 i4 := by kernel_rfl
 i5 := by kernel_rfl
 i9 := by kernel_rfl
 i37 := by kernel_rfl
 i127 := by kernel_rfl }
end
section
open Go.RowKit
def fullP (L : List UInt8) : List UInt8 := L.take 32 ++ List.replicate (32 - (L.take 32).length) 0
theorem full_calls (w : World) (L : List UInt8) :
    Calls Tryz.prog 82 #[.string (str L)] w fun e w' => e = .returned (.string (str (fullP L))) ∧ Below w.heap.size w w' := by
 have hws : ((⟨32, [], false⟩ : WS).put (L.take 32)).fill 32 = ⟨32, fullP L, false⟩ := ws_full (L.take 32) (by rw [List.length_take]; omega)
 have hl : (L.take 32).length ≤ 140737488351232 := by rw [List.length_take]; omega
 have HF := fun w => first_calls w L 32 32 rfl
 go_enter Tryz.func82, Tryz.ntmps82
 go_wp2_with fail
 refine (wri_new (Below.refl _ _) 32 (by decide) (by decide)).mono ?_
 rintro e w1 ⟨p, rfl, H⟩
 go_wp2_with fail
 refine (HF _).mono ?_
 rintro e w2 ⟨rfl, hw⟩
 rw [hw]
 clear hw HF
 go_wp2_with fail
 refine (wri_raw H _ hl).mono ?_
 rintro e w3 ⟨rfl, H3⟩
 clear H hl
 go_wp2_with fail
 refine (wri_fill H3 32 (by decide)).mono ?_
 rintro e w4 ⟨rfl, H4⟩
 rw [hws] at H4
 clear H3 hws
 go_wp2_with fail
 refine (wri_written H4 _ rfl).mono ?_
 rintro e w5 ⟨rfl, H5⟩
 go_wp2
 go_ret
 exact ⟨rfl, H5⟩
def trimmed (L : List UInt8) : List UInt8 := Lib.trimRightB (L.take 32) 0
theorem trim_length (L : List UInt8) (c : UInt8) : (Lib.trimRightB L c).length ≤ L.length := by
 unfold Lib.trimRightB
 rw [List.length_reverse]
 have := (List.dropWhile_sublist (· == c) (l := L.reverse)).length_le
 simpa using this
theorem clone_calls (w : World) (L : List UInt8) (hl : L.length ≤ 32) :
    Calls Tryz.prog 109 #[.string (str L)] w fun e w' => e = .returned (.string (str L)) ∧ Below w.heap.size w w' := by
 have H := Any.stringslite_Clone Tryz.cloneA (str L) w (by rw [str_size]; omega)
 go_enter Tryz.func109, Tryz.ntmps109
 go_wp2_with fail
 refine H.mono ?_
 rintro e w1 ⟨rfl, hb⟩
 clear H
 go_wp2
 go_ret
 exact ⟨rfl, hb⟩
theorem trim_calls (w : World) (L : List UInt8) :
    Calls Tryz.prog 69 #[.string (str L)] w fun e w' => e = .returned (.string (str (trimmed L))) ∧ Below w.heap.size w w' := by
 have hl : (L.take 32).length ≤ 32 := by rw [List.length_take]; omega
 have HF := fun w => first_calls w L 32 32 rfl
 have HT := fun w => Any.strings_TrimRight_one Tryz.trimA (str (L.take 32)) 0 (by decide) w (by rw [str_size]; omega)
 rw [str_list] at HT
 have HC := fun w => clone_calls w (trimmed L) (Nat.le_trans (trim_length _ _) hl)
 go_enter Tryz.func69, Tryz.ntmps69
 go_wp2_with fail
 refine (HF _).mono ?_
 rintro e w2 ⟨rfl, hw⟩
 rw [hw]
 clear hw HF
 go_wp2_with fail
 refine (HT _).mono ?_
 rintro e w3 ⟨rfl, hw⟩
 rw [hw]
 clear hw HT
 go_wp2_with fail
 refine (HC _).mono ?_
 rintro e w4 ⟨rfl, hb⟩
 clear HC
 go_wp2
 go_ret
 exact ⟨rfl, hb⟩
end
section
open Go.RowKit
end
section
open Go.RowKit
end
end Go.Proofs.YtdmindhjmjnagaaGreatDoor
