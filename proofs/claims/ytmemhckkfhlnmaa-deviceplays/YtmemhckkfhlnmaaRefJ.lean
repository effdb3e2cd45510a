/- The document's own device: Clone. -/
import Derived.Test.YtmemhckkfhlnmaaRefI
namespace Go.Proofs.Ytmemhckkfhlnmaa
set_option linter.unusedVariables false
open Go.RowKit
attribute [local go_sem ↓] Go.wp_at_zero Go.wp_at_succ

theorem row_base {w : World} {base s : Nat} {e : TypeId} {v : Value} {n : Nat} {xs : List Value} (h : w.ownsRow base e s v n xs) : w.ownsRow 0 e s v n xs := by
  refine ⟨h.1, ?_⟩
  rcases h.2 with h2 | ⟨g, cap, cur, rfl, h3, h4⟩
  · exact .inl h2
  · exact .inr ⟨g, cap, cur, rfl, Nat.zero_le _, h4⟩
/-- A row copied onto an empty one. -/
theorem run_append_copy {P : Program} (w : World) (t ty e : TypeId) (i : TypeInfo) (z : Value) (size bytes : Nat) (ht : P.underlying t = some (.slice e)) (hi : P.info? e = some i) (hz : i.zero = some z) (hsize : i.size = size) (hby : i.bytes = bytes) (hzs : z.cells.size = size) (hsz : 0 < size)
    (v : Value) (n : Nat) (xs : List Value) (hv : w.ownsRow 0 e size v n xs) (h1 : ∀ u ∈ xs, u.oneCell' = true) (hn : n ≤ 1000000) (hb4 : bytes ≤ 40) (base b : Nat) (hbase : base ≤ w.heap.size) (hb : w.ownsRow base e size (.slice (some ⟨b, 0, none⟩) 0 0) 0 []) :
    ∃ a c w', (Builtin.append_ #[t, t] ty #[.slice (some ⟨b, 0, none⟩) 0 0, v]).run P w = .ok (.slice a n c) w' ∧ w'.ownsRow base e size (.slice a n c) n xs ∧ w.grownBy w' (some b) := by
  have hl := hv.1
  rcases hv.2 with ⟨rfl, rfl⟩ | ⟨g, cap, cur, rfl, x1, x2, x3⟩
  · have hx : xs = [] := List.eq_nil_of_length_eq_zero (by omega)
    subst hx
    exact ⟨_, _, w, run_append_owned_none (P := P) (w := w) base t ty e i size ht hi _ 0 [] hb, hb, ⟨rfl, rfl, rfl, Nat.le_refl _, fun _ _ _ => rfl⟩⟩
  · have hbt : n * bytes ≤ 1000000 * 40 := Nat.mul_le_mul hn hb4
    obtain ⟨v', w', hr, h2, h3, _⟩ := run_append_own (P := P) w base t ty e i z size bytes ht hi hz hsize hby hzs hsz _ 0 [] hb ⟨g, 0, none⟩ n cap xs hl (hv.cells (g := g) rfl) h1 (by unfold maxLen; omega) (by rw [Nat.zero_add]; omega) hbase
    rw [Nat.zero_add, List.nil_append] at h2
    obtain ⟨a, c, rfl⟩ := own_form3 h2
    exact ⟨a, c, w', hr, h2, h3⟩
set_option maxHeartbeats 2000000 in
set_option maxRecDepth 100000 in
theorem rclone_calls (w : World) (q : Nat) (D : DS) (lv ov : Value) (ns : List Int) (h : RD w q D lv ov ns) (hcl : D.calls ≤ 1000000) :
    Calls Try.prog 12 #[.pointer (some ⟨q, 0, none⟩)] w fun e w' => ∃ q' lv' ov', e = .returned (.pointer (some ⟨q', 0, none⟩)) ∧ RD w' q' D lv' ov' ns ∧ (∀ k, RMine q' lv' ov' k → w.heap.size ≤ k) ∧ Below w.heap.size w w' := by
  obtain ⟨c0, c1, c2, c3, c4, c5, c6, c7, c8⟩ := cell9 h.blk
  obtain ⟨i0, hi, hz0, hz1, hz2⟩ := info_parts Try.info_block
  obtain ⟨i1, ji, jz0, jz1, jz2⟩ := info_parts Try.info_i64
  have hnl : ns.length ≤ 1000000 := by have := h.ln; omega
  have hol : D.loose.length ≤ 1000000 := by have := h.ok.lc; omega
  obtain ⟨la, lc, rfl⟩ := own_form3 h.lrow
  obtain ⟨oa, oc, rfl⟩ := own_form3 h.orow
  have hqlt := lt_block h.blk
  have HH : Hid (RD w q D (.slice la ns.length lc) (.slice oa D.loose.length oc) ns) := h
  clear h
  go_enter Try.func12, Try.ntmps12
  go_upto_region 2 with fail
  obtain ⟨W1, hW1⟩ : ∃ W1, W1 = w.alloc (.cells (refCells D (.slice la ns.length lc) (.slice oa D.loose.length oc)) 63) := ⟨_, rfl⟩
  have hq1 : W1.heap[w.heap.size]? = some (.cells (refCells D (.slice la ns.length lc) (.slice oa D.loose.length oc)) 63 (0, 0)) := by rw [hW1]; exact heap_alloc_new _ _
  have hB1 : Below w.heap.size w W1 := by rw [hW1]; exact (Below.refl _ _).alloc (Nat.le_refl _) _
  have hs1 : Hid (W1.heap.size = w.heap.size + 1) := by show _ = _; rw [hW1]; simp
  unfold refCells at hW1
  rw [← hW1]
  clear hW1 c0 c3 c4 c5 c6 c7 c8
  have d1 : W1.cell? ⟨q, 1, none⟩ = some (.slice la ns.length lc) := (World.cell?_of_block (hB1.block q hqlt)).trans c1
  have d2 : W1.cell? ⟨q, 2, none⟩ = some (.slice oa D.loose.length oc) := (World.cell?_of_block (hB1.block q hqlt)).trans c2
  clear c1 c2
  -- the list
  obtain ⟨a1, k1, w2, hr1, ho1, hg1⟩ := run_append_copy (P := Try.prog) (W1.alloc (.cells #[] 69)) 61 61 69 i0 (.agg #[.int .i64 0, .string ⟨#[]⟩, .string ⟨#[]⟩]) 3 40 Try.underlying61 hi hz0 hz1 hz2 rfl (by omega) _ ns.length _ ((row_kept3 HH.out.lrow fun k e => hB1.block k (HH.out.lrow.lt k e).2).alloc _) (lcells_one _ _ _) hnl (Nat.le_refl _) (w.heap.size + 1) W1.heap.size (by have := hs1.out; simp; omega) (World.ownsRow_made W1 #[] 0 (by have := hs1.out; omega) (Nat.zero_le _) (by simp))
  have hs2 := hg1.size
  have hsa : (W1.alloc (.cells #[] 69)).heap.size = w.heap.size + 2 := by have := hs1.out; simp; omega
  have hk2 : ∀ k, k < w.heap.size + 1 → w2.heap[k]? = W1.heap[k]? := fun k hk => (hg1.block k (by omega) (by simp; have := hs1.out; omega)).trans (Below.heap_alloc _ _ _ (by have := hs1.out; omega))
  have hq2 := (hk2 w.heap.size (by omega)).trans hq1
  have e1 := (cell9 hq2).2.1
  have g1 := free9 hq2 1
  have d1' : (W1.alloc (.cells #[] 69)).cell? ⟨q, 1, none⟩ = some (.slice la ns.length lc) := Lib.cell?_alloc_some _ d1
  have hq3 : (w2.setCell ⟨w.heap.size, 1, none⟩ (.slice a1 ns.length k1)).heap[w.heap.size]? = some (.cells (refCells D (.slice a1 ns.length k1) (.slice oa D.loose.length oc)) 63 (0, 0)) := by simp [World.setCell, Array.getElem?_modify, hq2, refCells]
  have ho3 : (w2.setCell ⟨w.heap.size, 1, none⟩ (.slice a1 ns.length k1)).ownsRow (w.heap.size + 1) 69 3 (.slice a1 ns.length k1) ns.length (lcells D.fl D.nw ns) := row_kept3 ho1 fun k e => Below.heap_setCell _ _ _ _ (by simp; have := (ho1.lt k e).1; omega)
  have hB3 : Below w.heap.size w (w2.setCell ⟨w.heap.size, 1, none⟩ (.slice a1 ns.length k1)) := ⟨hg1.os.trans hB1.os, hg1.tape.trans hB1.tape, hg1.output.trans hB1.output, by simp [World.setCell]; omega, fun k hk => ((Below.heap_setCell _ _ _ _ (by simp; omega)).trans (hk2 k (by omega))).trans (hB1.block k hk)⟩
  have hs3 : w.heap.size + 2 ≤ (w2.setCell ⟨w.heap.size, 1, none⟩ (.slice a1 ns.length k1)).heap.size := by simp [World.setCell]; omega
  have HQ3 : Hid ((w2.setCell ⟨w.heap.size, 1, none⟩ (.slice a1 ns.length k1)).heap[w.heap.size]? = some (.cells (refCells D (.slice a1 ns.length k1) (.slice oa D.loose.length oc)) 63 (0, 0))) := hq3
  have HO3 : Hid ((w2.setCell ⟨w.heap.size, 1, none⟩ (.slice a1 ns.length k1)).ownsRow (w.heap.size + 1) 69 3 (.slice a1 ns.length k1) ns.length (lcells D.fl D.nw ns)) := ho3
  have HB3 : Hid (Below w.heap.size w (w2.setCell ⟨w.heap.size, 1, none⟩ (.slice a1 ns.length k1))) := hB3
  have HS3 : Hid (w.heap.size + 2 ≤ (w2.setCell ⟨w.heap.size, 1, none⟩ (.slice a1 ns.length k1)).heap.size) := hs3
  clear hq3 ho3 hB3 hs3 hs2 hsa hk2 hq2 ho1 hg1 hq1 hB1
  go_upto_region 3 with (at_builtin; refine Lib.wpList_append_run _ rfl _ _ _ _ rfl _ _ rfl rfl _ _ hr1 ?_)
  clear e1 g1 d1 d2 d1'
  generalize w2.setCell ⟨w.heap.size, 1, none⟩ (.slice a1 ns.length k1) = W3 at *
  have d2 : W3.cell? ⟨q, 2, none⟩ = some (.slice oa D.loose.length oc) := (World.cell?_of_block (HB3.out.block q hqlt)).trans (cell9 HH.out.blk).2.2.1
  have d2' : (W3.alloc (.cells #[] 3)).cell? ⟨q, 2, none⟩ = some (.slice oa D.loose.length oc) := Lib.cell?_alloc_some _ d2
  obtain ⟨a2, k2, w4, hr2, ho2, hg2⟩ := run_append_copy (P := Try.prog) (W3.alloc (.cells #[] 3)) 38 38 3 i1 (.int .i64 0) 1 8 Try.underlying38 ji jz0 jz1 jz2 rfl (by omega) _ D.loose.length _ ((row_kept3 HH.out.orow fun k e => HB3.out.block k (HH.out.orow.lt k e).2).alloc _) (ic_one _) hol (by omega) W3.heap.size W3.heap.size (by simp) (World.ownsRow_made W3 #[] 0 (Nat.le_refl _) (Nat.zero_le _) (by simp))
  have hs2 := hg2.size
  have hsa : (W3.alloc (.cells #[] 3)).heap.size = W3.heap.size + 1 := by simp
  have hk2 : ∀ k, k < W3.heap.size → w4.heap[k]? = W3.heap[k]? := fun k hk => (hg2.block k (by omega) (by simp; omega)).trans (Below.heap_alloc _ _ _ hk)
  have hS3 := HS3.out
  have hq4 := (hk2 w.heap.size (by omega)).trans HQ3.out
  have e2 := (cell9 hq4).2.2.1
  have g2 := free9 hq4 2
  have L1 : (w4.setCell ⟨w.heap.size, 2, none⟩ (.slice a2 D.loose.length k2)).ownsRow (w.heap.size + 1) 69 3 (.slice a1 ns.length k1) ns.length (lcells D.fl D.nw ns) := row_kept3 HO3.out fun k e => (Below.heap_setCell _ _ _ _ (by simp; have := (HO3.out.lt k e).1; omega)).trans (hk2 k (HO3.out.lt k e).2)
  have L2 : (w4.setCell ⟨w.heap.size, 2, none⟩ (.slice a2 D.loose.length k2)).ownsRow W3.heap.size 3 1 (.slice a2 D.loose.length k2) D.loose.length (ic D.loose) := row_kept3 ho2 fun k e => Below.heap_setCell _ _ _ _ (by simp; have := (ho2.lt k e).1; omega)
  have R : RD (w4.setCell ⟨w.heap.size, 2, none⟩ (.slice a2 D.loose.length k2)) w.heap.size D (.slice a1 ns.length k1) (.slice a2 D.loose.length k2) ns :=
    { HH.out with
      blk := by simp [World.setCell, Array.getElem?_modify, hq4, refCells]
      lrow := row_base L1
      orow := row_base L2
      ql := fun e => by have := (HO3.out.lt _ e).1; omega
      qo := fun e => by have := (ho2.lt _ e).1; omega
      lo := fun k e e' => by have := (HO3.out.lt k e).2; have := (ho2.lt k e').1; omega }
  have R2 : ∀ k, RMine w.heap.size (.slice a1 ns.length k1) (.slice a2 D.loose.length k2) k → w.heap.size ≤ k := fun k hk => by
    rcases hk with e | e | e
    · omega
    · have := (HO3.out.lt k e).1; omega
    · have := (ho2.lt k e).1; omega
  have R3 : Below w.heap.size w (w4.setCell ⟨w.heap.size, 2, none⟩ (.slice a2 D.loose.length k2)) := ⟨hg2.os.trans HB3.out.os, hg2.tape.trans HB3.out.tape, hg2.output.trans HB3.out.output, by simp [World.setCell]; omega, fun k hk => ((Below.heap_setCell _ _ _ _ (by simp; omega)).trans (hk2 k (by omega))).trans (HB3.out.block k hk)⟩
  have HR : Hid (_ ∧ _ ∧ _) := ⟨R, R2, R3⟩
  clear R R2 R3 L1 L2 hs2 hsa hk2 hS3 hq4 ho2 hg2
  go_wp2_with (at_builtin; refine Lib.wpList_append_run _ rfl _ _ _ _ rfl _ _ rfl rfl _ _ hr2 ?_)
  go_ret
  exact ⟨_, _, _, rfl, HR.out.1, HR.out.2.1, HR.out.2.2⟩
end Go.Proofs.Ytmemhckkfhlnmaa
