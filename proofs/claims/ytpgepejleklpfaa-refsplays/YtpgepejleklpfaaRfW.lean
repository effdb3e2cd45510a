/- Rows of numbers and of truths that a statement's walk holds, made by itself; numbers that came in; what is left free. -/
import Derived.Test.YtpgepejleklpfaaRfQ
import Derived.Test.YtpgepejleklpfaaRfM
import Derived.Test.YtpgepejleklpfaaRowKit
import Derived.OpenShut
import Derived.ChangeSlices
import Derived.Laws.OwnMore
namespace Go.Proofs.Ytpgepejleklpfaa
set_option linter.unusedVariables false
open Go.ChangeShapes Go.WideShapes Go.ChangeAt Go.RowKit

theorem Try.info_i64 : (Try.prog.info? 3).map (fun i => (i.zero, i.size, i.bytes)) = some (some (.int .i64 0), 1, 8) := by kernel_rfl
theorem Try.info_bool : (Try.prog.info? 4).map (fun i => (i.zero, i.size, i.bytes)) = some (some (.bool false), 1, 1) := by kernel_rfl
/-- A row of N cells in block q, made by itself: at each place what f tells. -/
def Row (w : World) (q N : Nat) (t : TypeId) (f : Nat → Value) : Prop := w.ownsRow 0 t 1 (.slice (some ⟨q, 0, none⟩) N N) N ((List.range N).map f)
theorem Row.cell {w : World} {q N : Nat} {t : TypeId} {f : Nat → Value} (h : Row w q N t f) {i : Nat} (hi : i < N) : w.cell? ⟨q, i, none⟩ = some (f i) := by
  have := World.ownsRow.cellAt h i (by omega)
  rw [this]
  simp [hi]
theorem Row.free {w : World} {q N : Nat} {t : TypeId} {f : Nat → Value} (h : Row w q N t f) (i : Nat) : w.frozen? ⟨q, i, none⟩ = false := World.ownsRow.frozenAt h i
def upd (f : Nat → Value) (i : Nat) (u : Value) : Nat → Value := fun j => if j = i then u else f j
theorem Row.set {w : World} {q N : Nat} {t : TypeId} {f : Nat → Value} (h : Row w q N t f) (i : Nat) (u : Value) : Row (w.setCell ⟨q, i, none⟩ u) q N t (upd f i u) := by
  have h1 := (World.ownsRow.stored h i u).1
  have e : ((List.range N).map f).set i u = (List.range N).map (upd f i u) := by
    apply List.ext_getElem?
    intro j
    rw [List.getElem?_set]
    by_cases e : i = j
    · subst e
      by_cases hi : i < N
      · simp [hi, upd]
      · simp [hi]
    · rw [if_neg e]
      by_cases hj : j < N
      · simp [hj, upd]
        intro e2; exact absurd e2.symm e
      · simp [hj]
  rw [e] at h1
  exact h1
theorem Row.lt {w : World} {q N : Nat} {t : TypeId} {f : Nat → Value} (h : Row w q N t f) : q < w.heap.size := (World.ownsRow.lt h q rfl).2
theorem Row.kept {w w' : World} {q N : Nat} {t : TypeId} {f : Nat → Value} (h : Row w q N t f) (hb : w'.heap[q]? = w.heap[q]?) : Row w' q N t f := by
  refine ⟨h.1, ?_⟩
  rcases h.2 with h2 | ⟨g, cap, cur, e, h3, h4, h5⟩
  · exact .inl h2
  · cases e
    exact .inr ⟨q, N, cur, rfl, h3, hb.trans h4, h5⟩
theorem Row.same {w : World} {q N : Nat} {t : TypeId} {f g : Nat → Value} (h : Row w q N t f) (e : ∀ i, i < N → f i = g i) : Row w q N t g := by
  have : (List.range N).map f = (List.range N).map g := List.map_congr_left fun i hi => e i (List.mem_range.1 hi)
  unfold Row at *
  rw [← this]
  exact h
/-- A call that leaves a row's block alone. -/
theorem Row.touch {w w' : World} {q N p b : Nat} {t : TypeId} {f : Nat → Value} (h : Row w q N t f) (ht : Touch p (some b) w w') (hp : q ≠ p) (hb : q ≠ b) : Row w' q N t f :=
  h.kept (ht.block q h.lt hp (fun e => hb (by cases e; rfl)))
theorem Row.below {w w' : World} {q N B : Nat} {t : TypeId} {f : Nat → Value} (h : Row w q N t f) (hb : Below B w w') (hB : w.heap.size ≤ B) : Row w' q N t f := h.kept (hb.block q (by have := h.lt; omega))
theorem made_row {w w1 : World} {N : Nat} {t : TypeId} {z : Value} (hz : z.cells = #[z]) (hown : w1.ownsRow w.heap.size t 1 (.slice (some ⟨w.heap.size, 0, none⟩) N N) N (madeCells z.cells (N * 1)).toList) : Row w1 w.heap.size N t (fun _ => z) := by
  rw [hz, Nat.mul_one, toList_madeCells_one] at hown
  have e : List.replicate N z = (List.range N).map (fun _ => z) := by
    apply List.ext_getElem (by simp)
    intro i h1 h2
    simp
  rw [e] at hown
  rcases hown.2 with ⟨e, _⟩ | ⟨g, cap, cur, e, h3, h4⟩
  · cases e
  · cases e
    exact ⟨hown.1, .inr ⟨_, _, cur, rfl, Nat.zero_le _, h4⟩⟩

/-- Numbers that came in. -/
def ArgI (w : World) (a : Option Addr) (len cap : Nat) (l : Nat → Int) : Prop := len ≤ maxLen ∧ len ≤ cap ∧ (∀ i, I64 (l i)) ∧ (len = 0 ∨ ∃ b off, a = some ⟨b, off, none⟩ ∧ b < w.heap.size ∧ ∀ i, i < len → w.cell? ⟨b, off + i, none⟩ = some (.int .i64 (l i)))
theorem i64_of_wf {n : Int} (h : (Lit.int .i64 n).wf = true) : I64 n := by
  have e1 : IntKind.i64.min = -9223372036854775808 := by rfl
  have e2 : IntKind.i64.max = 9223372036854775807 := by rfl
  simp [Lit.wf, e1, e2] at h
  exact ⟨by omega, by omega⟩
theorem open_nums {H : Type} {enc : TypeId × Value → H} {W : World} {base : Nat} {held : Bool} {a : Option Addr} {len cap : Nat} {d : DataW H} {p : List MemPlace}
    (h : DataW.Trod enc Try.prog W base (fun _ => true) held 37 (.slice a len cap) d p) : ∃ l : Nat → Int, ArgI W a len cap l := by
  obtain ⟨fuel, hf⟩ := h
  have z0 : I64 0 := ⟨by omega, by omega⟩
  rcases open_ints Try.underlying37 Try.underlying3 (by kernel_rfl) hf with ⟨hcs, _⟩ | ⟨x, l, c, zs, hcs, _, hl, hm, hz, _, hcell, hwz⟩
  · simp [Value.cells] at hcs
    obtain ⟨rfl, rfl, rfl⟩ := hcs
    exact ⟨fun _ => 0, by unfold maxLen; omega, Nat.le_refl _, fun _ => z0, .inl rfl⟩
  · simp [Value.cells] at hcs
    obtain ⟨rfl, rfl, rfl⟩ := hcs
    have hz' : zs.length = cap := by simpa using hz
    have hI : ∀ i, I64 (zs.getD i 0) := fun i => by
      by_cases hi : i < zs.length
      · have : zs.getD i 0 = zs[i] := by simp [List.getD, List.getElem?_eq_getElem hi]
        rw [this]
        exact i64_of_wf (hwz _ (List.getElem_mem hi))
      · have : zs.getD i 0 = 0 := by simp [List.getD, List.getElem?_eq_none (by omega : zs.length ≤ i)]
        rw [this]; exact z0
    refine ⟨fun i => zs.getD i 0, by omega, hl, hI, ?_⟩
    by_cases hl0 : len = 0
    · exact .inl hl0
    have spotless : x.spot = none := by simpa [Addr.add] using World.cell?_spot (hcell 0 (by omega))
    obtain ⟨xb, xo, xs⟩ := x
    simp only at spotless
    subst spotless
    have hb : xb < W.heap.size := by
      have h0 := hcell 0 (by omega)
      rw [add_lit] at h0
      cases hh : W.heap[xb]? with
      | none => simp [World.cell?, hh] at h0
      | some o => exact lt_block hh
    refine .inr ⟨xb, xo, rfl, hb, fun i hi => ?_⟩
    have := hcell i (by omega)
    rw [add_lit] at this
    exact this
theorem ArgI.cell {w w' : World} {a : Option Addr} {len cap : Nat} {l : Nat → Int} (h : ArgI w a len cap l) (hb : Below w.heap.size w w') {i : Nat} (hi : i < len) : ∃ b off, a = some ⟨b, off, none⟩ ∧ b < w.heap.size ∧ w'.cell? ⟨b, off + i, none⟩ = some (.int .i64 (l i)) := by
  obtain ⟨_, _, _, h0 | ⟨b, off, e, hlt, hc⟩⟩ := h
  · omega
  · exact ⟨b, off, e, hlt, (World.cell?_of_block (hb.block b hlt)).trans (hc i hi)⟩

/-! A state by its counts alone. -/
theorem full_length : ∀ (L : PL) (lo hi : Int), Rise L → lo ≤ hi → (∀ p ∈ L, lo ≤ p.1 ∧ p.1 < hi) → (∀ n, lo ≤ n → n < hi → ∃ p ∈ L, p.1 = n) → (L.length : Int) = hi - lo
  | [], lo, hi, _, hlh, _, h2 => by
    by_cases e : lo = hi
    · simp; omega
    · obtain ⟨p, hp, _⟩ := h2 lo (by omega) (by omega)
      cases hp
  | q :: r, lo, hi, hr, hlh, h1, h2 => by
    have hr' := List.pairwise_cons.1 hr
    have hq := h1 q (by simp)
    have e : q.1 = lo := by
      obtain ⟨p, hp, e⟩ := h2 lo (by omega) (by omega)
      rcases List.mem_cons.1 hp with e2 | e2
      · rw [← e2]; exact e
      · have := hr'.1 p e2; omega
    have := full_length r (lo + 1) hi hr'.2 (by omega) (fun p hp => ⟨by have := hr'.1 p hp; omega, (h1 p (by simp [hp])).2⟩) (fun n a b => by
      obtain ⟨p, hp, e3⟩ := h2 n (by omega) b
      rcases List.mem_cons.1 hp with e2 | e2
      · subst e2; omega
      · exact ⟨p, e2, e3⟩)
    simp; omega
/-- All blocks are needed: none is free. -/
theorem RfS.Ok.full {S : RfS} {K : Nat} (h : S.Ok K) (hf : ∀ n, 2 ≤ n → n < S.blocks → cnt S.L n ≠ 0) : (S.L.length : Int) = S.blocks - 2 :=
  full_length S.L 2 S.blocks h.rise h.b1 (fun p hp => ⟨(h.inB p hp).1, (h.inB p hp).2.1⟩) (fun n a b => by obtain ⟨p, h1, h2, _⟩ := cnt_ne (hf n a b); exact ⟨p, h1, h2⟩)
theorem RfS.Ok.full_free {S : RfS} {K : Nat} (h : S.Ok K) (hf : ∀ n, 2 ≤ n → n < S.blocks → cnt S.L n ≠ 0) : S.free = 0 := by
  have := h.full hf
  unfold RfS.free; omega
theorem take_at {S : RfS} {K : Nat} (h : S.Ok K) {n : Int} (h1 : 2 ≤ n) (h2 : n < S.blocks) (h3 : ∀ j, 2 ≤ j → j < n → cnt S.L j ≠ 0) (h4 : cnt S.L n = 0) : S.tookN = n ∧ S.took = true ∧ ∀ m, cnt S.take.L m = if m = n then 1 else cnt S.L m := by
  have hn : S.next = n := RfS.next_is h h1 (by omega) h3 (fun _ => h4)
  refine ⟨?_, ?_, fun m => ?_⟩
  · unfold RfS.tookN; rw [hn, if_neg (by omega)]
  · unfold RfS.took; rw [hn]; have : ¬ (n = S.blocks) := by omega
    simpa using this
  · unfold RfS.take; rw [hn, if_neg (by omega)]; exact cnt_put h.rise n 1 m
theorem take_none {S : RfS} {K : Nat} (h : S.Ok K) (h3 : ∀ j, 2 ≤ j → j < S.blocks → cnt S.L j ≠ 0) : S.took = false ∧ ∀ m, cnt S.take.L m = cnt S.L m := by
  have hn : S.next = S.blocks := RfS.next_is h h.b1 (Int.le_refl _) h3 (fun e => by omega)
  refine ⟨?_, fun m => ?_⟩
  · unfold RfS.took; rw [hn]; simp
  · unfold RfS.take; rw [hn, if_pos rfl]
theorem dec_one {S : RfS} {K : Nat} (h : S.Ok K) {n : Int} (h1 : 2 ≤ n) (h2 : n < S.blocks) (hc : cnt S.L n = 1) : S.need n = 0 ∧ S.last n = true ∧ ∀ m, cnt (S.dec n).L m = if m = n then 0 else cnt S.L m := by
  have hn : S.need n = 0 := by unfold RfS.need; rw [RfS.has_iff.2 ⟨h1, h2⟩, if_neg (by simp), hc, if_neg (by omega)]
  refine ⟨hn, by unfold RfS.last; simp [hn, hc], fun m => ?_⟩
  unfold RfS.dec
  rw [if_pos hn, if_pos hc]
  exact cnt_del h.rise n m
theorem dec_more {S : RfS} {K : Nat} (h : S.Ok K) {n : Int} (h1 : 2 ≤ n) (h2 : n < S.blocks) (hc : 2 ≤ cnt S.L n) : S.need n = 0 ∧ S.last n = false ∧ ∀ m, cnt (S.dec n).L m = if m = n then cnt S.L n - 1 else cnt S.L m := by
  have hn : S.need n = 0 := by unfold RfS.need; rw [RfS.has_iff.2 ⟨h1, h2⟩, if_neg (by simp), if_neg (by omega)]
  refine ⟨hn, ?_, fun m => ?_⟩
  · unfold RfS.last; rw [hn]; have : ¬ (cnt S.L n = 1) := by omega
    simp [this]
  unfold RfS.dec
  rw [if_pos hn, if_neg (by omega)]
  exact cnt_put h.rise n _ m
theorem dec_zero {S : RfS} {n : Int} (h1 : 2 ≤ n) (h2 : n < S.blocks) (hc : cnt S.L n = 0) : S.need n = 13 ∧ S.last n = false ∧ S.dec n = S := by
  have hn : S.need n = 13 := by unfold RfS.need; rw [RfS.has_iff.2 ⟨h1, h2⟩, if_neg (by simp), hc, if_pos rfl]
  exact ⟨hn, by unfold RfS.last; simp [hn], by unfold RfS.dec; rw [hn, if_neg (by omega)]⟩
theorem mark_at {S : RfS} {K : Nat} (h : S.Ok K) {n : Int} (h1 : 2 ≤ n) (h2 : n < S.blocks) : S.merr n = 0 ∧ S.first n = (cnt S.L n == 0) ∧ ∀ m, cnt (S.mark n).L m = if m = n then cnt S.L n + 1 else cnt S.L m := by
  have hn := RfS.has_iff.2 ⟨h1, h2⟩
  refine ⟨by unfold RfS.merr; rw [if_pos hn], ?_, fun m => ?_⟩
  · unfold RfS.first; rw [hn]; by_cases e : cnt S.L n = 0 <;> simp [e]
  · unfold RfS.mark; rw [if_pos hn]; exact cnt_put h.rise n _ m
theorem mark_out {S : RfS} {n : Int} (h1 : n < 2 ∨ S.blocks ≤ n) : S.merr n = 1 ∧ S.first n = false ∧ S.mark n = S := by
  have hn : S.has n = false := by unfold RfS.has; simp; omega
  exact ⟨by unfold RfS.merr; rw [hn]; simp, by unfold RfS.first; rw [hn]; simp, by unfold RfS.mark; rw [hn]; simp⟩
theorem RQ.setRow {w : World} {p b B K r j : Nat} {S : RfS} {u : Value} (h : RQ w p b B K S) (hp : r ≠ p) (hb : r ≠ b) : RQ (w.setCell ⟨r, j, none⟩ u) p b B K S :=
  ⟨h.rf.kept (Below.heap_setCell _ _ _ _ (by simpa using hp.symm)) (Below.heap_setCell _ _ _ _ (by simpa using hb.symm)), h.bp, h.bb⟩
theorem below_set {w w' : World} {B r j : Nat} {u : Value} (h : Below B w w') (hr : B ≤ r) : Below B w (w'.setCell ⟨r, j, none⟩ u) :=
  ⟨h.os, h.tape, h.output, by have := h.size; simpa [World.setCell] using this, fun k hk => by rw [Below.heap_setCell _ _ _ _ (by simp; omega)]; exact h.block k hk⟩
/-- A state by its counts. -/
def Cn (S : RfS) (N : Nat) (f : Int → Int) : Prop := S.blocks = (N : Int) ∧ ∀ m, cnt S.L m = f m
theorem mod_n (N : Nat) (x M : Int) (h1 : 3 ≤ N) (h2 : N ≤ 100000) (h3 : 0 < M) : ∃ j : Nat, wrap64 (2 + x % M % ((N : Int) - 2)) = (j : Int) ∧ 2 ≤ j ∧ j < N := by
  have a1 := Int.emod_nonneg (x % M) (show (N : Int) - 2 ≠ 0 by omega)
  have a2 := Int.emod_lt_of_pos (x % M) (show 0 < (N : Int) - 2 by omega)
  refine ⟨(2 + x % M % ((N : Int) - 2)).toNat, ?_, by omega, by omega⟩
  rw [wrap64_of_range (by omega) (by omega)]
  omega
end Go.Proofs.Ytpgepejleklpfaa
