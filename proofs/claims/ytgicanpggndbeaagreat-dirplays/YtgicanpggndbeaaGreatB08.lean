import Derived.Test.YtgicanpggndbeaaGreatRows
import Derived.Test.YtgicanpggndbeaaGreatB01
import Derived.Deep.QuietTactic
import Derived.BigQuiet
import Derived.Deep.RegionHeld3
import Derived.Deep.RegionLaw
/- What each call on a pack.Writer does to the writer and to the rest of memory. -/
namespace Go.Proofs.YtgicanpggndbeaaGreat
set_option linter.unusedVariables false
set_option maxRecDepth 100000
open Go.RowKit
set_option maxHeartbeats 400000 in
theorem fail_any (w : World) (p : Nat) (m : Int) (sv : Value) (bad : Bool) (h : w.heap[p]? = some (.cells #[.int .i64 m, sv, .bool bad] 169 (0, 0))) :
    Calls Tryz.prog 143 #[.pointer (some ⟨p, 0, none⟩)] w fun e w' => e = .returned (.tuple #[]) ∧ w' = (w.setCell ⟨p, 2, none⟩ (.bool true)).setCell ⟨p, 1, none⟩ (.slice none 0 0) := by
 obtain ⟨c0, c1, c2⟩ := cells3 h
 obtain ⟨f0, f1, f2⟩ := free3 h
 clear h
 go_enter Tryz.func143, Tryz.ntmps143
 go_wp2
 go_end0
 exact ⟨rfl, rfl⟩
set_option maxHeartbeats 400000 in
theorem new_any (w : World) (n : Int) (h0 : 0 ≤ n) (h1 : n ≤ 2147483647) :
    Calls Tryz.prog 64 #[.int .i64 n] w fun e w' => e = .returned (.pointer (some ⟨w.heap.size, 0, none⟩)) ∧ w' = w.alloc (.cells #[.int .i64 n, .slice none 0 0, .bool false] 169) := by
 go_enter Tryz.func64, Tryz.ntmps64
 go_wp2
 go_ret
 first
   | exact ⟨rfl, rfl⟩
   | exact ⟨rfl, by rw [show min (max n 0) 2147483647 = n by omega]⟩

set_option maxHeartbeats 400000 in
theorem fits_bad (w : World) (p : Nat) (m n : Int) (a : Option Addr) (l c : Nat) (h : w.heap[p]? = some (.cells #[.int .i64 m, .slice a l c, .bool true] 169 (0, 0))) :
    Calls Tryz.prog 163 #[.pointer (some ⟨p, 0, none⟩), .int .i64 n] w fun e w' => e = .returned (.bool false) ∧ ∃ k, w' = w.drewN k := by
 obtain ⟨c0, c1, c2⟩ := cells3 h
 obtain ⟨f0, f1, f2⟩ := free3 h
 clear h
 go_enter Tryz.func163, Tryz.ntmps163
 go_wp2
 go_quiet (fail)
 go_wp2
 go_ret
 exact ⟨rfl, _, rfl⟩
set_option maxHeartbeats 400000 in
theorem fits_full (w : World) (p : Nat) (m n : Int) (a : Option Addr) (l c : Nat) (h : w.heap[p]? = some (.cells #[.int .i64 m, .slice a l c, .bool false] 169 (0, 0)))
    (hm0 : 0 ≤ m) (hm1 : m ≤ 2147483647) (hl : (l : Int) ≤ m) (hn : m - l < n) :
    Calls Tryz.prog 163 #[.pointer (some ⟨p, 0, none⟩), .int .i64 n] w fun e w' => e = .returned (.bool false) ∧ ∃ k, w' = ((w.drewN k).setCell ⟨p, 2, none⟩ (.bool true)).setCell ⟨p, 1, none⟩ (.slice none 0 0) := by
 obtain ⟨c0, c1, c2⟩ := cells3 h
 obtain ⟨f0, f1, f2⟩ := free3 h
 go_enter Tryz.func163, Tryz.ntmps163
 go_wp2
 go_quiet (fail)
 go_wp2_with (go_at_call 143; refine (fail_any _ p m (.slice a l c) false (by exact h)).mono ?_; rintro e w' ⟨rfl, rfl⟩)
 go_ret
 exact ⟨rfl, _, rfl⟩
set_option maxHeartbeats 400000 in
theorem fits_ok (w : World) (p : Nat) (m n : Int) (a : Option Addr) (l c : Nat) (h : w.heap[p]? = some (.cells #[.int .i64 m, .slice a l c, .bool false] 169 (0, 0)))
    (hm0 : 0 ≤ m) (hm1 : m ≤ 2147483647) (hl : (l : Int) ≤ m) (hn : n ≤ m - l) :
    Calls Tryz.prog 163 #[.pointer (some ⟨p, 0, none⟩), .int .i64 n] w fun e w' => e = .returned (.bool true) ∧ ∃ k, w' = w.drewN k := by
 obtain ⟨c0, c1, c2⟩ := cells3 h
 obtain ⟨f0, f1, f2⟩ := free3 h
 clear h
 go_enter Tryz.func163, Tryz.ntmps163
 go_wp2
 go_quiet (fail)
 go_wp2
 go_ret
 exact ⟨rfl, _, rfl⟩

theorem Tryz.info_u8 : (Tryz.prog.info? 5).map (fun i => (i.zero, i.size, i.bytes)) = some (some (.int .u8 0), 1, 1) := by kernel_rfl

/-- A writer in block p: its room m, its bytes L (in the row r), whether it is wrong. -/
def WrAt (w : World) (p : Nat) (m : Int) (L : List UInt8) (bad : Bool) (r : Option Nat) : Prop :=
 ∃ sv, w.heap[p]? = some (.cells #[.int .i64 m, sv, .bool bad] 169 (0, 0)) ∧ w.ownsRow (p + 1) 5 1 sv L.length (bc L) ∧ sv.ownBlock = r ∧ 0 ≤ m ∧ m ≤ 2147483647 ∧ (L.length : Int) ≤ m
/-- What a call on it comes to. -/
def WrTo (p : Nat) (m : Int) (w : World) (r : Option Nat) (L : List UInt8) (bad : Bool) (w' : World) : Prop :=
 ∃ r', WrAt w' p m L bad r' ∧ Touch p r w w' ∧ Near r r' w.heap.size

theorem own_form {w : World} {base : Nat} {e : TypeId} {sv : Value} {n : Nat} {xs : List Value} (ho : w.ownsRow base e 1 sv n xs) : ∃ a c, sv = .slice a n c := by
 rcases ho.2 with ⟨rfl, h0⟩ | ⟨g, cap, cur, rfl, _⟩
 · exact ⟨none, 0, by rw [h0]⟩
 · exact ⟨_, _, rfl⟩

theorem WrAt.op {w : World} {p : Nat} {m : Int} {L : List UInt8} {bad : Bool} {r : Option Nat} (h : WrAt w p m L bad r) :
    ∃ a c, w.heap[p]? = some (.cells #[.int .i64 m, .slice a L.length c, .bool bad] 169 (0, 0)) ∧ w.ownsRow (p + 1) 5 1 (.slice a L.length c) L.length (bc L) ∧ (Value.slice a L.length c).ownBlock = r ∧ 0 ≤ m ∧ m ≤ 2147483647 ∧ (L.length : Int) ≤ m := by
 obtain ⟨sv, h1, h2, h3, h4⟩ := h
 obtain ⟨a, c, rfl⟩ := own_form h2
 exact ⟨a, c, h1, h2, h3, h4⟩
theorem WrAt.lt {w : World} {p : Nat} {m : Int} {L : List UInt8} {bad : Bool} {r : Option Nat} (h : WrAt w p m L bad r) : p < w.heap.size ∧ ∀ k, r = some k → p < k ∧ k < w.heap.size := by
 obtain ⟨sv, h1, h2, h3, _⟩ := h
 exact ⟨lt_of_block h1, fun k hk => by have := h2.lt k (h3.trans hk); omega⟩
theorem WrAt.drewN {w : World} {p : Nat} {m : Int} {L : List UInt8} {bad : Bool} {r : Option Nat} (h : WrAt w p m L bad r) (k : Nat) : WrAt (w.drewN k) p m L bad r := h
/-- The writer that fails. -/
theorem WrAt.failed {w : World} {p : Nat} {m : Int} {L : List UInt8} {bad : Bool} {r : Option Nat} (h : WrAt w p m L bad r) : WrTo p m w r [] true ((w.setCell ⟨p, 2, none⟩ (.bool true)).setCell ⟨p, 1, none⟩ (.slice none 0 0)) := by
 obtain ⟨sv, h1, h2, h3, h4, h5, h6⟩ := h
 refine ⟨none, ⟨.slice none 0 0, (set3 (set3 h1).2.2).2.1, World.ownsRow_nil _ _ _ _, rfl, h4, h5, by simpa using h4⟩, ((Touch.refl _ _ _).setCell _ _).setCell _ _, Near.none _ _⟩
theorem WrTo.drewN {w w' : World} {p : Nat} {m : Int} {L : List UInt8} {bad : Bool} {r : Option Nat} {k : Nat} (h : WrTo p m (w.drewN k) r L bad w') : WrTo p m w r L bad w' := by
 obtain ⟨r', h1, h2, h3⟩ := h
 exact ⟨r', h1, ⟨h2.os, h2.tape, h2.output, h2.size, h2.block⟩, h3⟩
theorem WrAt.stays {w : World} {p : Nat} {m : Int} {L : List UInt8} {bad : Bool} {r : Option Nat} (h : WrAt w p m L bad r) : WrTo p m w r L bad w := ⟨r, h, Touch.refl _ _ _, Near.refl _ _⟩
/-- Behind an append to the writer's row and the store of the new value. -/
theorem wr_step {w wr w0 w1 : World} {p : Nat} {m : Int} {L L' : List UInt8} {r : Option Nat} {sv1 : Value} {g cap N : Nat}
    (h1 : wr.heap[p]? = some (.cells #[.int .i64 m, sv1, .bool false] 169 (0, 0))) (ho1 : wr.ownsRow (p + 1) 5 1 sv1 L.length (bc L)) (ht : Touch p r w wr) (hn : Near r sv1.ownBlock w.heap.size)
    (h0 : ∀ k, k < wr.heap.size → w0.heap[k]? = wr.heap[k]?) (h0s : wr.heap.size ≤ w0.heap.size) (h0o : w0.os = wr.os) (h0t : w0.tape = wr.tape) (h0p : w0.output = wr.output)
    (hown : w1.ownsRow (p + 1) 5 1 (.slice (some ⟨g, 0, none⟩) N cap) N (bc L')) (hN : N = L'.length) (hgrow : w0.grownBy w1 sv1.ownBlock) (hat : sv1.ownBlock = some g ∨ wr.heap.size ≤ g)
    (hm0 : 0 ≤ m) (hm1 : m ≤ 2147483647) (hl : (L'.length : Int) ≤ m) : WrTo p m w r L' false (w1.setCell ⟨p, 1, none⟩ (.slice (some ⟨g, 0, none⟩) N cap)) := by
 subst hN
 have hp := lt_of_block h1
 have hrow : ∀ k, sv1.ownBlock = some k → p < k ∧ k < wr.heap.size := fun k hk => by have := ho1.lt k hk; omega
 have hpw1 : w1.heap[p]? = some (.cells #[.int .i64 m, sv1, .bool false] 169 (0, 0)) := by
  rw [hgrow.block p (by omega) (fun e => by have := hrow p e.symm; omega), h0 p hp]; exact h1
 have hgp : p < g := by
  rcases hat with e | e
  · exact (hrow g e).1
  · omega
 have ht1 : Touch p r w w1 := ⟨hgrow.os.trans (h0o.trans ht.os), hgrow.tape.trans (h0t.trans ht.tape), hgrow.output.trans (h0p.trans ht.output), by have := ht.size; have := hgrow.size; omega, fun k hk hkp hkr => by
  have hs := ht.size
  rw [hgrow.block k (by omega) (fun e => by
   rcases hn k e.symm with e2 | e2
   · exact hkr e2
   · omega), h0 k (by omega)]
  exact ht.block k hk hkp hkr⟩
 refine ⟨some g, ⟨_, (set3 hpw1).2.1, ?_, rfl, hm0, hm1, hl⟩, ht1.setCell _ _, ?_⟩
 · exact ownsRow_setCell_below hown (by simp) _
 · intro k hk
   cases hk
   rcases hat with e | e
   · exact hn _ e
   · exact .inr (by have := ht.size; omega)

set_option maxHeartbeats 400000 in
theorem number_bad (w : World) (p : Nat) (m v n : Int) (L : List UInt8) (r : Option Nat) (h : WrAt w p m L true r) :
    Calls Tryz.prog 144 #[.pointer (some ⟨p, 0, none⟩), .int .u64 v, .int .i64 n] w fun e w' => e = .returned (.tuple #[]) ∧ WrTo p m w r L true w' := by
 obtain ⟨a, c, h1, _⟩ := h.op
 go_enter Tryz.func144, Tryz.ntmps144
 go_wp2_with (go_at_call 163; refine (fits_bad _ p m n a L.length c (by exact h1)).mono ?_; rintro e w' ⟨rfl, k, rfl⟩)
 ((try simp only [Exit.inBlock, Exit.then]); refine bodyPost_ret (results_none rfl _ _ _) rfl ?_)
 exact ⟨rfl, (h.drewN k).stays.drewN⟩
set_option maxHeartbeats 400000 in
theorem number_full (w : World) (p : Nat) (m v n : Int) (L : List UInt8) (r : Option Nat) (h : WrAt w p m L false r) (hn : m - L.length < n) :
    Calls Tryz.prog 144 #[.pointer (some ⟨p, 0, none⟩), .int .u64 v, .int .i64 n] w fun e w' => e = .returned (.tuple #[]) ∧ WrTo p m w r [] true w' := by
 obtain ⟨a, c, h1, _, _, hm0, hm1, hl⟩ := h.op
 go_enter Tryz.func144, Tryz.ntmps144
 go_wp2_with (go_at_call 163; refine (fits_full _ p m n a L.length c (by exact h1) hm0 hm1 hl hn).mono ?_; rintro e w' ⟨rfl, k, rfl⟩)
 ((try simp only [Exit.inBlock, Exit.then]); refine bodyPost_ret (results_none rfl _ _ _) rfl ?_)
 exact ⟨rfl, (h.drewN k).failed.drewN⟩

set_option maxHeartbeats 400000 in
theorem number_ok (w : World) (p : Nat) (m : Int) (v n : Nat) (L : List UInt8) (r : Option Nat) (h : WrAt w p m L false r) (hl : (L.length : Int) + n ≤ m) (hn : n ≤ 8) :
    Calls Tryz.prog 144 #[.pointer (some ⟨p, 0, none⟩), .int .u64 (v : Int), .int .i64 (n : Int)] w fun e w' => e = .returned (.tuple #[]) ∧ WrTo p m w r (L ++ be v n) false w' := by
 obtain ⟨i0, hi, hz0, hz1, hz2⟩ := info_parts Tryz.info_u8
 obtain ⟨a, c, h1, _, _, hm0, hm1, hl0⟩ := h.op
 go_enter Tryz.func144, Tryz.ntmps144
 go_wp2_with (go_at_call 163; refine (fits_ok _ p m n a L.length c (by exact h1) hm0 hm1 (by omega) (by omega)).mono ?_; rintro e w' ⟨rfl, k, rfl⟩)
 clear h1
 go_loopw [6] (fun i wr => ∃ (k : Nat) (j : Int), -1 ≤ j ∧ j + k + 1 = n ∧ i = .int .i64 j ∧ WrTo p m w r (L ++ (be v n).take k) false wr)
   (fun i _ => (intOf i + 1).toNat)
 case atStart => exact ⟨0, n - 1, by omega, by omega, rfl, by simpa using (h.drewN k).stays.drewN⟩
 case round =>
  obtain ⟨k, j, hj1, hjk, rfl, hto⟩ := hrel
  by_cases hj0 : 0 ≤ j
  · obtain ⟨r1, ⟨sv1, h1, ho1, rfl, _⟩, ht1, hn1⟩ := hto
    obtain ⟨c0, c1, c2⟩ := cells3 h1
    obtain ⟨f0, f1, f2⟩ := free3 h1
    have hj7 : j ≤ 7 := by omega
    have hw8 : IntKind.i64.wrap (8 * j) = 8 * j := by rw [IntKind.wrap_i64]; omega
    have hp := lt_of_block h1
    have hlen : ((L ++ (be v n).take k).length : Int) + 1 ≤ m := by
     have := be_length v n
     simp
     omega
    have hnext : L ++ (be v n).take (k + 1) = (L ++ (be v n).take k) ++ [UInt8.ofNat (v / 256 ^ j.toNat)] := by rw [be_take v n k j.toNat (by omega), List.append_assoc]
    have Hn : Hid (L ++ (be v n).take (k + 1) = (L ++ (be v n).take k) ++ [UInt8.ofNat (v / 256 ^ j.toNat)]) := hnext
    clear hnext
    generalize L ++ (be v n).take k = M at *
    go_wp2
    go_region_law ((refine step_append_lies _ (by rfl) (.tmp 21) (.tmp 27) 140 (by rfl) (p + 1) 5 i0 (.int .u8 0) 1 1 Tryz.underlying140 hi hz0 hz1 hz2 rfl (by omega) sv1 M.length (bc M) (by rfl) (by exact (ho1.alloc _).drew) ⟨wr.heap.size, 0, none⟩ 1 1 [.int .u8 (IntKind.u8.wrap ((v : Int) / 2 ^ (8 * j).toNat))] (by rfl) (by rfl) (by exact World.news_of_block (cs := #[_]) (heap_alloc_new _ _)) (by intro u hu; simp at hu; subst hu; rfl) (by omega) (by unfold maxLen; omega) (by omega) (by simp; omega) (wr.heap.size + 1) (by simp) ?_; intro g cap w1 hown hgrow hat hlt; have hfz : w1.frozen? ⟨p, 1, none⟩ = false := (hgrow.frozen_far ⟨p, 1, none⟩ (by simp; omega) (fun e => by have := ho1.lt p e.symm; omega)).trans ((World.frozen?_alloc_past _ _ _ hp).trans f1); have hcl : w1.cell? ⟨p, 1, none⟩ = some sv1 := (hgrow.cell_far ⟨p, 1, none⟩ (by simp; omega) (fun e => by have := ho1.lt p e.symm; omega)).trans ((World.cell?_alloc_past _ _ _ hp).trans c1)))
    all_goals
     have hown2 : w1.ownsRow (p + 1) 5 1 (.slice (some ⟨g, 0, none⟩) (M.length + 1) cap) (M.length + 1) (bc (M ++ [UInt8.ofNat (v / 256 ^ j.toNat)])) := by
      rw [bc_append, show bc [UInt8.ofNat (v / 256 ^ j.toNat)] = [.int .u8 (IntKind.u8.wrap ((v : Int) / 2 ^ (8 * j).toNat))] from by rw [u8_be v j hj0]; rfl]
      exact hown
     have R := wr_step h1 ho1 ht1 hn1 (w0 := (wr.alloc (.cells #[.int .u8 (IntKind.u8.wrap ((v : Int) / 2 ^ (8 * j).toNat))] 5)).drew) (fun k hk => Below.heap_alloc _ _ _ hk) (by simp) rfl rfl rfl hown2 (by simp) hgrow (by rcases hat with e | e; exact .inl e; exact .inr (by omega)) hm0 hm1 (by simp; omega)
     rw [← Hn.out] at R
     clear hown2 hown hgrow hat hlt hfz hcl c0 c1 c2 f0 f1 f2 h1 ho1 ht1 hn1
     go_wp2
     go_roundw
     case rel => exact ⟨k + 1, j - 1, by omega, by omega, rfl, R⟩
     case measure => simp [intOf]; omega
  · have e : k = n := by omega
    subst e
    rw [List.take_of_length_le (by rw [be_length]; exact Nat.le_refl _)] at hto
    go_wp2
    go_end0
    exact ⟨rfl, hto⟩
end Go.Proofs.YtgicanpggndbeaaGreat
