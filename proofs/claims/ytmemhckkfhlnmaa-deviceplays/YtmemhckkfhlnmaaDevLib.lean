/- The calls of Go's own library that package device makes: slices.Clone, slices.Concat of two, maps.Clone. -/
import Derived.Test.YtmemhckkfhlnmaaDevMap
import Derived.Lib.SmallJoins
import Derived.Lib.SliceRun
import Derived.MapKept
import Derived.Laws.Externs
import Derived.Shelf.SlMaps.Clone
import Derived.LoopN
namespace Go.Proofs.Ytmemhckkfhlnmaa
set_option linter.unusedVariables false
open Go.RowKit

/-- A row of its own that a call has made. -/
def NewRow (w : World) (L : List UInt8) (e : Ending) (w' : World) : Prop :=
  ∃ g cap, e = .returned (.slice (some ⟨g, 0, none⟩) L.length cap) ∧ w.heap.size ≤ g ∧ w'.ownsRow w.heap.size 5 1 (.slice (some ⟨g, 0, none⟩) L.length cap) L.length (bc L) ∧ Below w.heap.size w w'

theorem eql_bytes_nil (w : World) (a : Option Addr) (n c n' c' : Nat) : (binOp .eql 42 (.slice a n c) (.slice none n' c')).run Try.prog w = .ok (.bool a.isNone) w := Lib.run_eql_slice_nil w _ _ a n c n' c' Try.underlying42
theorem eql_ints_nil (w : World) (a : Option Addr) (n c n' c' : Nat) : (binOp .eql 38 (.slice a n c) (.slice none n' c')).run Try.prog w = .ok (.bool a.isNone) w := Lib.run_eql_slice_nil w _ _ a n c n' c' Try.underlying38
theorem Try.info_i64 : (Try.prog.info? 3).map (fun i => (i.zero, i.size, i.bytes)) = some (some (.int .i64 0), 1, 8) := by kernel_rfl

set_option maxHeartbeats 400000 in
theorem clone_calls (w : World) (g off cap : Nat) (L : List UInt8) (h0 : 0 < L.length) (h1 : L.length ≤ 1024) (hc : ∀ j u, (bc L)[j]? = some u → w.cell? ⟨g, off + j, none⟩ = some u) :
    Calls Try.prog 43 #[.slice (some ⟨g, off, none⟩) L.length cap] w fun e w' => NewRow w L e w' := by
  obtain ⟨i0, hi, hz0, hz1, hz2⟩ := info_parts Try.info_u8
  have hq := eql_bytes_nil w (some ⟨g, off, none⟩) L.length cap 0 0
  have A : Hid (∀ j u, (bc L)[j]? = some u → w.cell? ⟨g, off + j, none⟩ = some u) := hc
  clear hc
  go_enter Try.func43, Try.ntmps43
  go_wp2_with (at_builtin; refine wpList_append_lies _ rfl _ _ 42 rfl w.heap.size 5 i0 (.int .u8 0) 1 1 Try.underlying42 hi hz0 hz1 hz2 rfl (by omega) _ 0 [] rfl (World.ownsRow_made w #[] 0 (Nat.le_refl _) (Nat.zero_le _) (by simp)) ⟨g, off, none⟩ L.length cap (bc L) rfl (by rw [bc_length]; omega) ?qc2 (bc_one L) h0 (by unfold maxLen; omega) (by omega) (by simp) (w.heap.size + 1) (by simp) ?_)
  case qc2 =>
    intro j u hj
    rw [add_lit]
    exact Lib.cell?_alloc_some _ (A.out j u hj)
  intro g' cap' w1 hown hgrow hat hlt
  go_wp2
  go_ret
  refine ⟨g', cap', by simp, ?_, by simpa using hown, ((Below.refl _ w).alloc (Nat.le_refl _) _).grown hgrow (by simp) (by intro k hk; simp [Value.ownBlock] at hk; omega)⟩
  rcases hat with e | e
  · simp [Value.ownBlock] at e; omega
  · omega

set_option maxHeartbeats 400000 in
theorem clone_ints (w : World) (g cap : Nat) (xs : List Value) (h0 : 0 < xs.length) (h1 : xs.length ≤ 1000000) (hc : ∀ j u, xs[j]? = some u → w.cell? ⟨g, j, none⟩ = some u) (hone : ∀ u ∈ xs, u.oneCell' = true) :
    Calls Try.prog 32 #[.slice (some ⟨g, 0, none⟩) xs.length cap] w fun e w' =>
      ∃ g' cap', e = .returned (.slice (some ⟨g', 0, none⟩) xs.length cap') ∧ w.heap.size ≤ g' ∧ w'.ownsRow w.heap.size 3 1 (.slice (some ⟨g', 0, none⟩) xs.length cap') xs.length xs ∧ Below w.heap.size w w' := by
  obtain ⟨i0, hi, hz0, hz1, hz2⟩ := info_parts Try.info_i64
  have hq := eql_ints_nil w (some ⟨g, 0, none⟩) xs.length cap 0 0
  have A : Hid (∀ j u, xs[j]? = some u → w.cell? ⟨g, j, none⟩ = some u) := hc
  clear hc
  go_enter Try.func32, Try.ntmps32
  go_wp2_with (at_builtin; refine wpList_append_lies _ rfl _ _ 38 rfl w.heap.size 3 i0 (.int .i64 0) 1 8 Try.underlying38 hi hz0 hz1 hz2 rfl (by omega) _ 0 [] rfl (World.ownsRow_made w #[] 0 (Nat.le_refl _) (Nat.zero_le _) (by simp)) ⟨g, 0, none⟩ xs.length cap xs rfl (by omega) ?qc2 hone h0 (by unfold maxLen; omega) (by omega) (by simp) (w.heap.size + 1) (by simp) ?_)
  case qc2 =>
    intro j u hj
    rw [add_lit, Nat.zero_add]
    exact Lib.cell?_alloc_some _ (A.out j u hj)
  intro g' cap' w1 hown hgrow hat hlt
  go_wp2
  go_ret
  refine ⟨g', cap', by simp, ?_, by simpa using hown, ((Below.refl _ w).alloc (Nat.le_refl _) _).grown hgrow (by simp) (by intro k hk; simp [Value.ownBlock] at hk; omega)⟩
  rcases hat with e | e
  · simp [Value.ownBlock] at e; omega
  · omega
set_option maxHeartbeats 400000 in
theorem clone_ints_nil (w : World) : Calls Try.prog 32 #[.slice none 0 0] w fun e w' => e = .returned (.slice none 0 0) ∧ w' = w := by
  have hq := eql_ints_nil w none 0 0 0 0
  go_enter Try.func32, Try.ntmps32
  go_wp2
  go_ret
  exact ⟨rfl, rfl⟩

/-- A part of an owned row is one. -/
theorem ownsRow_none {w : World} {base g cap n : Nat} {xs : List Value} {e : TypeId} (h : w.ownsRow base e 1 (.slice (some ⟨g, 0, none⟩) n cap) n xs) : w.ownsRow base e 1 (.slice (some ⟨g, 0, none⟩) 0 cap) 0 [] := by
  rcases h.2 with ⟨e1, _⟩ | ⟨g', cap', cur, e1, h1, h2, h3, h4, h5, h6⟩
  · cases e1
  · cases e1
    exact ⟨by simp, .inr ⟨g, cap, cur, rfl, h1, h2, Nat.zero_le _, h4, h5, by simp⟩⟩
set_option maxHeartbeats 400000 in
theorem grow_calls (w : World) (n : Nat) (h0 : 0 < n) (h1 : n ≤ 2048) :
    Calls Try.prog 50 #[.slice none 0 0, .int .i64 (n : Int)] w fun e w' =>
      ∃ g cap, e = .returned (.slice (some ⟨g, 0, none⟩) 0 cap) ∧ w.heap.size ≤ g ∧ w'.ownsRow w.heap.size 5 1 (.slice (some ⟨g, 0, none⟩) 0 cap) 0 [] ∧ Below w.heap.size w w' := by
  obtain ⟨i0, hi, hz0, hz1, hz2⟩ := info_parts Try.info_u8
  obtain ⟨a, c, w1, hr, ho, hg, hat⟩ := run_append_zeros (P := Try.prog) w w.heap.size 42 3 42 5 i0 .i64 Try.underlying42 Try.underlying3 hi hz0 hz1 hz2 (.slice none 0 0) 0 [] (World.ownsRow_nil w _ _ _) n (by omega) (Nat.le_refl _)
  rw [Nat.zero_add] at hr ho hat
  obtain ⟨g, rfl, hgs⟩ : ∃ g, a = some ⟨g, 0, none⟩ ∧ w.heap.size ≤ g := by
    rcases ho.2 with ⟨e1, e2⟩ | ⟨g', cap', cur, e1, h2, _⟩
    · omega
    · cases e1; exact ⟨g', rfl, h2⟩
  have hnc : n ≤ c := by
    rcases ho.2 with ⟨e1, e2⟩ | ⟨g', cap', cur, e1, h2, h3, h4, _⟩
    · omega
    · cases e1; exact h4
  have hci : (0 : Int) ≤ (c : Int) := by omega
  have hn1 : ¬ ((n : Int) < 0) := by omega
  have hn2 : (n : Int) > 0 := by omega
  go_enter Try.func50, Try.ntmps50
  go_wp2_with (at_builtin; refine Lib.wpList_append_run _ rfl _ _ _ _ rfl _ _ rfl rfl _ _ hr ?_)
  go_ret
  exact ⟨g, c, rfl, hgs, ownsRow_none ho, (Below.refl _ w).grown hg (Nat.le_refl _) (fun k hk => by cases hk)⟩

/-- A slice of bytes that has a place. -/
def At (w : World) (sv : Value) (L : List UInt8) : Prop := ∃ g off cap, sv = .slice (some ⟨g, off, none⟩) L.length cap ∧ ∀ j u, (bc L)[j]? = some u → w.cell? ⟨g, off + j, none⟩ = some u
theorem cells_of2 {w : World} {b : Nat} {x y : Value} {t : TypeId} (h : w.heap[b]? = some (.cells #[x, y] t (0, 0))) : w.cell? ⟨b, 0, none⟩ = some x ∧ w.cell? ⟨b, 1, none⟩ = some y := by
  constructor <;> simp [World.cell?, h]
theorem below_cell {B : Nat} {w w' : World} (h : Below B w w') (hB : B = w.heap.size) {a : Addr} {u : Value} (hc : w.cell? a = some u) : w'.cell? a = some u := by
  subst hB
  have hlt : a.block < w.heap.size := by
    cases hh : w.heap[a.block]? with
    | none => simp [World.cell?, hh] at hc
    | some o => exact (Array.getElem?_eq_some_iff.1 hh).1
  rw [← hc]
  exact World.cell?_of_block (h.block _ hlt)
set_option maxHeartbeats 1000000 in
set_option maxRecDepth 100000 in
theorem concat_calls (w : World) (q : Nat) (g1 o1 c1 g2 o2 c2 n1 n2 : Nat) (L1 L2 : List UInt8) (hn1 : L1.length = n1) (hn2 : L2.length = n2) (h : w.heap[q]? = some (.cells #[.slice (some ⟨g1, o1, none⟩) n1 c1, .slice (some ⟨g2, o2, none⟩) n2 c2] 42 (0, 0)))
    (h1 : ∀ j u, (bc L1)[j]? = some u → w.cell? ⟨g1, o1 + j, none⟩ = some u) (h2 : ∀ j u, (bc L2)[j]? = some u → w.cell? ⟨g2, o2 + j, none⟩ = some u) (h0 : 0 < n1) (hm1 : n1 ≤ 1000) (hm2 : n2 ≤ 1000) :
    Calls Try.prog 48 #[.slice (some ⟨q, 0, none⟩) 2 2] w fun e w' => NewRow w (L1 ++ L2) e w' := by
  obtain ⟨i0, hi, hz0, hz1, hz2⟩ := info_parts Try.info_u8
  obtain ⟨k1, k2⟩ := cells_of2 h
  have A1 : Hid (∀ j u, (bc L1)[j]? = some u → w.cell? ⟨g1, o1 + j, none⟩ = some u) := h1
  have A2 : Hid (∀ j u, (bc L2)[j]? = some u → w.cell? ⟨g2, o2 + j, none⟩ = some u) := h2
  have H1 : Hid (L1.length = n1) := hn1
  have H2 : Hid (L2.length = n2) := hn2
  clear h1 h2 h hn1 hn2
  have e0 : ¬ ((n1 : Int) < 0) := by omega
  have e1 : ¬ ((n1 : Int) + (n2 : Int) < 0) := by omega
  go_enter Try.func48, Try.ntmps48
  go_wp2
  refine wp_loop_rounds 3 ?_
  rw [rounds_succ]
  go_wp2
  rw [rounds_succ]
  go_wp2
  rw [rounds_succ]
  have hG := grow_calls w (n1 + n2) (by omega) (by omega)
  rw [Int.natCast_add] at hG
  go_wp2_with (go_at_call 50; refine hG.mono ?_; rintro e w1 ⟨g, cap, rfl, hgs, ho, hb⟩)
  have k1' := below_cell hb rfl k1
  have k2' := below_cell hb rfl k2
  have hq : q < w.heap.size := by
    cases hh : w.heap[q]? with
    | none => simp [World.cell?, hh] at k1
    | some o => exact (Array.getElem?_eq_some_iff.1 hh).1
  have A1' : Hid (∀ j u, (bc L1)[j]? = some u → w1.cell? ⟨g1, o1 + j, none⟩ = some u) := fun j u hu => below_cell hb rfl (A1.out j u hu)
  have hbs := hb.size
  refine wp_loop_rounds 3 ?_
  rw [rounds_succ]
  go_wp2_with (at_builtin; refine wpList_append_own _ rfl _ _ 42 rfl w.heap.size 5 i0 (.int .u8 0) 1 1 Try.underlying42 hi hz0 hz1 hz2 rfl (by omega) _ 0 [] rfl ho ⟨g1, o1, none⟩ n1 c1 (bc L1) rfl (by rw [bc_length, H1.out]; omega) (by intro j u hj; rw [add_lit]; exact A1'.out j u hj) (bc_one L1) (by unfold maxLen; omega) (by omega) (by omega) ?_; intro v2 w2 ho2 hg2 hnil2)
  have k2'' : w2.cell? ⟨q, 1, none⟩ = _ := hg2.cell k2' (fun e => by have e2 : some q = some g := e; cases e2; omega)
  have A2' : Hid (∀ j u, (bc L2)[j]? = some u → w2.cell? ⟨g2, o2 + j, none⟩ = some u) := fun j u hu => by
    have c0 := A2.out j u hu
    have hlt : g2 < w.heap.size := by
      cases hh : w.heap[g2]? with
      | none => simp [World.cell?, hh] at c0
      | some o => exact (Array.getElem?_eq_some_iff.1 hh).1
    exact hg2.cell (below_cell hb rfl c0) (fun e => by have e2 : some g2 = some g := e; cases e2; omega)
  have hbs2 := hg2.size
  rw [Nat.zero_add] at ho2
  rw [rounds_succ]
  go_wp2_with (at_builtin; refine wpList_append_own _ rfl _ _ 42 rfl w.heap.size 5 i0 (.int .u8 0) 1 1 Try.underlying42 hi hz0 hz1 hz2 rfl (by omega) v2 n1 _ rfl ho2 ⟨g2, o2, none⟩ n2 c2 (bc L2) rfl (by rw [bc_length, H2.out]; omega) (by intro j u hj; rw [add_lit]; exact A2'.out j u hj) (bc_one L2) (by unfold maxLen; omega) (by omega) (by omega) ?_; intro v3 w3 ho3 hg3 hnil3)
  rw [rounds_succ]
  go_wp2
  go_ret
  have hl : (L1 ++ L2).length = n1 + n2 := by rw [List.length_append, H1.out, H2.out]
  unfold NewRow
  rw [hl]
  have hx : ([] ++ bc L1) ++ bc L2 = bc (L1 ++ L2) := by rw [bc_append]; rfl
  rw [hx] at ho3
  have hb2 : Below w.heap.size w w3 := (hb.grown hg2 hb.size (fun k hk => by have e2 : some g = some k := hk; cases e2; omega)).grown hg3 (Nat.le_trans hb.size hg2.size) (fun k hk => (ho2.lt k hk).1)
  rcases ho3.2 with ⟨_, e2⟩ | ⟨g', cap', cur, rfl, h2, _⟩
  · omega
  · exact ⟨g', cap', rfl, h2, ho3, hb2⟩

set_option maxHeartbeats 400000 in
theorem mclone_calls (w : World) (b : Nat) (es : Array MapEntry) (clock : Nat) (hb : w.heap[b]? = some (.map es clock)) :
    Calls Try.prog 31 #[.map (some b)] w fun e w' => e = .returned (.map (some w.heap.size)) ∧ w' = w.alloc (.map es clock) := by
  have hq := fun w => run_eql_map_nil_sl (P := Try.prog) w 56 _ _ (some b) Try.underlying56
  go_enter Try.func31, Try.ntmps31
  go_wp2
  rw [run_callFunc_extern Try.func45 (by kernel_rfl) (by kernel_rfl) (by kernel_rfl) (e := Extern.MapsClone.clone) (by kernel_rfl), run_maps_clone_sl w 56 hb]
  simp only [Result.andThen]
  rw [Oper.upon_value]
  go_wp2
  rw [run_typeAssert_map_sl _ 56 20 _ _ _ Try.underlying56]
  simp only [Result.andThen]
  rw [Oper.upon_value]
  go_wp2
  go_ret
  exact ⟨rfl, rfl⟩
end Go.Proofs.Ytmemhckkfhlnmaa
