/- What each call on the landed device comes to, continued: Clone. -/
import Derived.Test.YtmemhckkfhlnmaaDevR
import Derived.Deep.DeepCutAuto
namespace Go.Proofs.Ytmemhckkfhlnmaa
set_option linter.unusedVariables false
open Go.RowKit
attribute [local go_sem ↓] Go.wp_at_zero Go.wp_at_succ
theorem MapV.blk {w : World} {b n : Nat} {f : Int → Option Value} (h : MapV w b n f) : ∃ es clock, w.heap[b]? = some (.map es clock) := by
  obtain ⟨D, ⟨es, clock, h1, _⟩, _⟩ := h
  exact ⟨es, clock, h1⟩
set_option maxHeartbeats 400000 in
theorem clone_ints_any (w : World) (a : Option Addr) (cap n : Nat) (xs : List Value) (ho : w.ownsRow 0 3 1 (.slice a n cap) n xs) (h1 : n ≤ 1000000) (hone : ∀ u ∈ xs, u.oneCell' = true) :
    Calls Try.prog 32 #[.slice a n cap] w fun e w' => ∃ a' cap', e = .returned (.slice a' n cap') ∧ w'.ownsRow w.heap.size 3 1 (.slice a' n cap') n xs ∧ Below w.heap.size w w' := by
  obtain ⟨i0, hi, hz0, hz1, hz2⟩ := info_parts Try.info_i64
  have hxl : xs.length = n := by simpa using ho.1
  rcases ho.2 with ⟨e1, e2⟩ | ⟨g, cap', cur, e1, x1, x2, x3⟩
  · cases e1
    have : xs = [] := List.eq_nil_of_length_eq_zero hxl
    subst this
    exact (clone_ints_nil w).mono fun e w' ⟨h1, h2⟩ => ⟨none, 0, h1, by subst h2; exact World.ownsRow_nil _ _ _ _, by subst h2; exact Below.refl _ _⟩
  · cases e1
    have hq := eql_ints_nil w (some ⟨g, 0, none⟩) n cap 0 0
    have A : Hid (∀ j u, xs[j]? = some u → w.cell? ((⟨g, 0, none⟩ : Addr).add j) = some u) := ho.cells (g := g) rfl
    clear ho x1 x2 x3
    go_enter Try.func32, Try.ntmps32
    go_wp2_with (at_builtin; refine wpList_append_own _ rfl _ _ 38 rfl w.heap.size 3 i0 (.int .i64 0) 1 8 Try.underlying38 hi hz0 hz1 hz2 rfl (by omega) _ 0 [] rfl (World.ownsRow_made w #[] 0 (Nat.le_refl _) (Nat.zero_le _) (by simp)) ⟨g, 0, none⟩ n cap xs rfl (by omega) ?qc2 hone (by unfold maxLen; omega) (by omega) (by simp) ?_)
    case qc2 =>
      intro j u hj
      exact Lib.cell?_alloc_some _ (A.out j u hj)
    intro v' w1 hown hgrow hnil
    obtain ⟨a', c', rfl⟩ := own_form hown
    go_wp2
    go_ret
    exact ⟨a', c', rfl, by simpa using hown, ((Below.refl _ w).alloc (Nat.le_refl _) _).grown hgrow (by simp) (by intro k hk; simp [Value.ownBlock] at hk; omega)⟩
theorem set10_1 {w : World} {p x : Nat} {D : DS} {r : DR} {t : TypeId} (h : w.heap[p]? = some (.cells (devCells D r) t (0, 0))) :
    (w.setCell ⟨p, 1, none⟩ (.map (some x))).heap[p]? = some (.cells (devCells D { r with fb := x }) t (0, 0)) := by
  simp [World.setCell, Array.getElem?_modify, h, devCells]
theorem set10_2 {w : World} {p x : Nat} {D : DS} {r : DR} {t : TypeId} (h : w.heap[p]? = some (.cells (devCells D r) t (0, 0))) :
    (w.setCell ⟨p, 2, none⟩ (.map (some x))).heap[p]? = some (.cells (devCells D { r with lb := x }) t (0, 0)) := by
  simp [World.setCell, Array.getElem?_modify, h, devCells]
theorem below_set {B : Nat} {a w : World} (h : Below B a w) {q o : Nat} (hq : B ≤ q) (u : Value) : Below B a (w.setCell ⟨q, o, none⟩ u) :=
  ⟨h.os, h.tape, h.output, by have := h.size; simpa [World.setCell] using this, fun k hk => by rw [Below.heap_setCell _ _ _ _ (by show k ≠ q; omega)]; exact h.block k hk⟩
theorem set_size (w : World) (a : Addr) (u : Value) : (w.setCell a u).heap.size = w.heap.size := by simp [World.setCell]
set_option maxHeartbeats 2000000 in
theorem devclone_calls (w : World) (p : Nat) (D : DS) (r : DR) (T : Nat → Prop) (h : Dev w p D r T) (hcl : D.calls ≤ 1000000) :
    Calls Try.prog 13 #[.pointer (some ⟨p, 0, none⟩)] w fun e w' => ∃ p' r', e = .returned (.pointer (some ⟨p', 0, none⟩)) ∧ Dev w' p' D r' T ∧ (∀ k, Mine p' r' k → w.heap.size ≤ k) ∧ Below w.heap.size w w' := by
  obtain ⟨c0, c1, c2, c3, c4, c5, c6, c7, c8, c9⟩ := cell10 h.blk
  obtain ⟨oa, oc, oe⟩ := own_form h.row
  obtain ⟨es1, cl1, hf⟩ := h.mf.blk
  obtain ⟨es2, cl2, hl⟩ := h.ml.blk
  have hpl := lt_block h.blk
  have hfl := h.mf.lt
  have hll := h.ml.lt
  have hlen : D.loose.length ≤ 1000000 := by have := h.ok.lc; omega
  rw [oe] at c3
  go_enter Try.func13, Try.ntmps13
  go_upto_region 2 with fail
  obtain ⟨W1, hW1⟩ : ∃ W1, W1 = w.alloc (.cells (devCells D r) 60) := ⟨_, rfl⟩
  have hq1 : W1.heap[w.heap.size]? = some (.cells (devCells D r) 60 (0, 0)) := by rw [hW1]; exact heap_alloc_new _ _
  have hB1 : Below w.heap.size w W1 := by rw [hW1]; exact (Below.refl _ _).alloc (Nat.le_refl _) _
  have hs1 : Hid (W1.heap.size = w.heap.size + 1) := by show _ = _; rw [hW1]; simp
  unfold devCells at hW1
  rw [oe] at hW1
  rw [← hW1]
  clear hW1
  have hp1 := (hB1.block p hpl).trans h.blk
  have k1 := (cell10 hp1).2.1
  clear c0 c1 c2 c3 c4 c5 c6 c7 c8 c9
  go_upto_region 3 with (go_at_call 31; refine (mclone_calls W1 r.fb es1 cl1 ((hB1.block _ hfl).trans hf)).mono ?_; rintro e W2 ⟨rfl, hW2'⟩; have hW2 : Hid (W2 = W1.alloc (.map es1 cl1)) := hW2'; clear hW2'; have hq2 : W2.heap[w.heap.size]? = some (.cells (devCells D r) 60 (0, 0)) := (by rw [hW2.out, Below.heap_alloc W1 _ _ (by have := hs1.out; omega)]; exact hq1); have k21 := (cell10 hq2).2.1; have kf21 := free10 hq2 1)
  obtain ⟨W3, hW3⟩ : ∃ W3, W3 = W2.setCell ⟨w.heap.size, 1, none⟩ (.map (some W1.heap.size)) := ⟨_, rfl⟩
  have hq3 : W3.heap[w.heap.size]? = some (.cells (devCells D { r with fb := W1.heap.size }) 60 (0, 0)) := by rw [hW3]; exact set10_1 hq2
  have hm3 : W3.heap[W1.heap.size]? = some (.map es1 cl1) := by rw [hW3, Below.heap_setCell _ _ _ _ (by show W1.heap.size ≠ w.heap.size; have := hs1.out; omega), hW2.out]; exact heap_alloc_new _ _
  have hs3 : Hid (W3.heap.size = w.heap.size + 2) := by show _ = _; rw [hW3, set_size, hW2.out]; simp [hs1.out]
  have hB3 : Below w.heap.size w W3 := by rw [hW3, hW2.out]; exact below_set (hB1.alloc (by have := hs1.out; omega) _) (Nat.le_refl _) _
  rw [← hW3]
  clear hW3 hW2 hq2 k21 kf21 hp1 k1
  have hp3 := (hB3.block p hpl).trans h.blk
  have k2 := (cell10 hp3).2.2.1
  go_upto_region 4 with (go_at_call 31; refine (mclone_calls W3 r.lb es2 cl2 ((hB3.block _ hll).trans hl)).mono ?_; rintro e W4 ⟨rfl, hW4'⟩; have hW4 : Hid (W4 = W3.alloc (.map es2 cl2)) := hW4'; clear hW4'; have hq4 : W4.heap[w.heap.size]? = some (.cells (devCells D { r with fb := W1.heap.size }) 60 (0, 0)) := (by rw [hW4.out, Below.heap_alloc W3 _ _ (by have := hs3.out; omega)]; exact hq3); have k42 := (cell10 hq4).2.2.1; have kf42 := free10 hq4 2)
  obtain ⟨W5, hW5⟩ : ∃ W5, W5 = W4.setCell ⟨w.heap.size, 2, none⟩ (.map (some W3.heap.size)) := ⟨_, rfl⟩
  have hq5 : W5.heap[w.heap.size]? = some (.cells (devCells D { r with fb := W1.heap.size, lb := W3.heap.size }) 60 (0, 0)) := by rw [hW5]; exact set10_2 hq4
  have hm5 : W5.heap[W3.heap.size]? = some (.map es2 cl2) := by rw [hW5, Below.heap_setCell _ _ _ _ (by show W3.heap.size ≠ w.heap.size; have := hs3.out; omega), hW4.out]; exact heap_alloc_new _ _
  have hn5 : W5.heap[W1.heap.size]? = some (.map es1 cl1) := by rw [hW5, Below.heap_setCell _ _ _ _ (by show W1.heap.size ≠ w.heap.size; have := hs1.out; omega), hW4.out, Below.heap_alloc W3 _ _ (by have h1 := hs1.out; have h2 := hs3.out; omega)]; exact hm3
  have hs5 : Hid (W5.heap.size = w.heap.size + 3) := by show _ = _; rw [hW5, set_size, hW4.out]; simp [hs3.out]
  have hB5 : Below w.heap.size w W5 := by rw [hW5, hW4.out]; exact below_set (hB3.alloc (by have := hs3.out; omega) _) (Nat.le_refl _) _
  rw [← hW5]
  clear hW5 hW4 hq4 k42 kf42 hp3 k2
  have hp5 := (hB5.block p hpl).trans h.blk
  have k3 := (cell10 hp5).2.2.2.1
  rw [oe] at k3
  have hrow5 : W5.ownsRow 0 3 1 (.slice oa D.loose.length oc) D.loose.length (ic D.loose) := by
    have := row_kept h.row (fun k e => hB5.block k (h.row.lt k e).2)
    rw [oe] at this
    exact this
  have hC := clone_ints_any W5 oa oc D.loose.length (ic D.loose) hrow5 hlen (ic_one _)
  go_wp2_with (go_at_call 32; refine hC.mono ?_; rintro e W6 ⟨a6, c6, rfl, ho6, hB6⟩; have hq6 := (hB6.block w.heap.size (by have := hs5.out; omega)).trans hq5; have k63 := (cell10 hq6).2.2.2.1; have kf63 := free10 hq6 3)
  go_ret
  have hz6 := hB6.size
  have hs1 := hs1.out
  have hs3 := hs3.out
  have hs5 := hs5.out
  have hset : ∀ k, k ≠ w.heap.size → (W6.setCell ⟨w.heap.size, 3, none⟩ (.slice a6 D.loose.length c6)).heap[k]? = W6.heap[k]? := fun k hk => Below.heap_setCell _ _ _ _ (by simpa using hk)
  have hrow7 : (W6.setCell ⟨w.heap.size, 3, none⟩ (.slice a6 D.loose.length c6)).ownsRow W5.heap.size 3 1 (.slice a6 D.loose.length c6) D.loose.length (ic D.loose) := row_kept ho6 fun k hk => hset k (by have := (ho6.lt k hk).1; omega)
  have hB6w : Below w.heap.size w W6 := hB5.trans (hB6.mono hB5.size)
  have hB7 : Below w.heap.size w (W6.setCell ⟨w.heap.size, 3, none⟩ (.slice a6 D.loose.length c6)) := below_set hB6w (Nat.le_refl _) _
  refine ⟨w.heap.size, { r with fb := W1.heap.size, lb := W3.heap.size, ov := .slice a6 D.loose.length c6 }, rfl, ?_, ?_, hB7⟩
  · exact {
      ok := h.ok
      blk := set10_3 _ hq6
      mf := h.mf.copied (((hset _ (by show W1.heap.size ≠ _; omega)).trans (hB6.block _ (by show W1.heap.size < _; omega))).trans (hn5.trans hf.symm))
      ml := h.ml.copied (((hset _ (by show W3.heap.size ≠ _; omega)).trans (hB6.block _ (by show W3.heap.size < _; omega))).trans (hm5.trans hl.symm))
      row := by
        refine ⟨hrow7.1, ?_⟩
        rcases hrow7.2 with h2 | ⟨g, cap, cur, x1, x2, x3⟩
        · exact .inl h2
        · exact .inr ⟨g, cap, cur, x1, Nat.zero_le _, x3⟩
      arm := h.arm
      rm := h.rm
      rt := h.rt
      ry := h.ry
      ra := h.ra
      cf := h.cf
      cl := h.cl
      inL := h.inL
      atL := fun n v e => by
        obtain ⟨g, h1, h2⟩ := h.atL n v e
        exact ⟨g, h1, h2.kept fun k hk => by cases hk; exact hB7.block g (h.tt g h1).1⟩
      atF := fun n v e => by
        obtain ⟨g, h1, h2⟩ := h.atF n v e
        exact ⟨g, h1, h2.kept fun k hk => by cases hk; exact hB7.block g (h.tt g h1).1⟩
      noF := h.noF
      inB := h.inB
      pf := by show w.heap.size ≠ W1.heap.size; omega
      pl := by show w.heap.size ≠ W3.heap.size; omega
      fl := by show W1.heap.size ≠ W3.heap.size; omega
      po := fun k hk => by
        have h1 := (ho6.lt k hk).1
        exact ⟨by omega, by show k ≠ W1.heap.size; omega, by show k ≠ W3.heap.size; omega⟩
      tt := fun k hk => by
        have h1 := (h.tt k hk).1
        have h2 := hB7.size
        refine ⟨by omega, by omega, by show k ≠ W1.heap.size; omega, by show k ≠ W3.heap.size; omega, fun e => ?_⟩
        have := (ho6.lt k e).1
        omega }
  · intro k hk
    rcases hk with e | e | e | e
    · omega
    · rw [e]; show w.heap.size ≤ W1.heap.size; omega
    · rw [e]; show w.heap.size ≤ W3.heap.size; omega
    · have := (ho6.lt k e).1
      omega
end Go.Proofs.Ytmemhckkfhlnmaa
