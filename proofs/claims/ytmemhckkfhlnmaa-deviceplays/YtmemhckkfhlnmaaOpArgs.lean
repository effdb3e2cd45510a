/- A slice of steps that came in: what the walk is told of it. -/
import Derived.Test.YtmemhckkfhlnmaaRowKit
import Derived.Test.YtmemhckkfhlnmaaBase
import Derived.Lib.SmallJoins
namespace Go.Proofs.Ytmemhckkfhlnmaa
set_option linter.unusedVariables false
open Go.ChangeShapes Go.WideShapes Go.ChangeAt Go.RowKit

/-- A step. -/
structure OD where
  kind : Int
  n : Int
  c : Int
  less : Int
  mask : Int
  torn : Int
  bytes : Int
def OD.In (o : OD) : Prop := (-9223372036854775808 ≤ o.kind ∧ o.kind ≤ 9223372036854775807) ∧ (-9223372036854775808 ≤ o.n ∧ o.n ≤ 9223372036854775807) ∧ (-9223372036854775808 ≤ o.c ∧ o.c ≤ 9223372036854775807) ∧ (-9223372036854775808 ≤ o.less ∧ o.less ≤ 9223372036854775807) ∧ (0 ≤ o.mask ∧ o.mask ≤ 18446744073709551615) ∧ (-9223372036854775808 ≤ o.torn ∧ o.torn ≤ 9223372036854775807) ∧ (-9223372036854775808 ≤ o.bytes ∧ o.bytes ≤ 9223372036854775807)
/-- The seven cells of a step. -/
def OpAt (w : World) (b k : Nat) (o : OD) : Prop := w.cell? ⟨b, k, none⟩ = some (.int .i64 o.kind) ∧ w.cell? ⟨b, k + 1, none⟩ = some (.int .i64 o.n) ∧ w.cell? ⟨b, k + 2, none⟩ = some (.int .i64 o.c) ∧ w.cell? ⟨b, k + 3, none⟩ = some (.int .i64 o.less) ∧ w.cell? ⟨b, k + 4, none⟩ = some (.int .u64 o.mask) ∧ w.cell? ⟨b, k + 5, none⟩ = some (.int .i64 o.torn) ∧ w.cell? ⟨b, k + 6, none⟩ = some (.int .i64 o.bytes)
/-- A slice of steps. -/
def OpsIn (w : World) (a : Option Addr) (len : Nat) (os : Nat → OD) : Prop := len = 0 ∨ ∃ b off, a = some ⟨b, off, none⟩ ∧ b < w.heap.size ∧ ∀ i, i < len → OpAt w b (off + i * 7) (os i) ∧ (os i).In
theorem OpAt.below {w w' : World} {b k : Nat} {o : OD} (h : OpAt w b k o) {B : Nat} (hb : Below B w w') (hB : b < B) : OpAt w' b k o := by
  obtain ⟨h1, h2, h3, h4, h5, h6, h7⟩ := h
  have e := hb.block b hB
  exact ⟨(World.cell?_of_block e).trans h1, (World.cell?_of_block e).trans h2, (World.cell?_of_block e).trans h3, (World.cell?_of_block e).trans h4, (World.cell?_of_block e).trans h5, (World.cell?_of_block e).trans h6, (World.cell?_of_block e).trans h7⟩
theorem oaddr_add (b off i : Nat) : (⟨b, off, none⟩ : Addr).add i = ⟨b, off + i, none⟩ := by unfold Addr.add; split <;> simp_all

theorem open_ops {H : Type} {enc : TypeId × Value → H} {W : World} {base : Nat} {held : Bool} {a : Option Addr} {len cap : Nat} {d : DataW H} {p : List MemPlace}
    (h : DataW.Trod enc Try.prog W base (fun _ => true) held 22 (.slice a len cap) d p) : ∃ os, len ≤ maxLen ∧ OpsIn W a len os := by
  obtain ⟨fuel, hf⟩ := h
  have h7 : Try.prog.cellsOf 30 = 7 := by kernel_rfl
  rcases Go.Deep.open_slice Try.underlying22 hf with ⟨hcs, _⟩ | ⟨x, l, c, m, n, D, Pl, hcs, _, hl, hm, hmm, _, hx⟩
  · simp [Value.cells] at hcs
    obtain ⟨rfl, rfl, rfl⟩ := hcs
    exact ⟨fun _ => ⟨0, 0, 0, 0, 0, 0, 0⟩, by unfold maxLen; omega, .inl rfl⟩
  · simp [Value.cells] at hcs
    obtain ⟨rfl, rfl, rfl⟩ := hcs
    have hm' : m = cap := by simpa using hmm
    subst hm'
    by_cases hl0 : len = 0
    · exact ⟨fun _ => ⟨0, 0, 0, 0, 0, 0, 0⟩, by omega, .inl hl0⟩
    have spotless : x.spot = none := by
      obtain ⟨cs0, h0, _⟩ := hx 0 (by omega)
      rw [h7] at h0
      obtain ⟨_, hl0, hc0⟩ := World.cells?_some h0
      have hc := hc0 0 (by omega)
      rw [List.getElem?_eq_getElem (by omega)] at hc
      simpa [Addr.add] using World.cell?_spot hc
    obtain ⟨b, off, spot⟩ := x
    simp only at spotless
    subst spotless
    have each : ∀ i, i < len → ∃ o : OD, OpAt W b (off + i * 7) o ∧ o.In ∧ b < W.heap.size := by
      intro i hi
      obtain ⟨cs', h1, h2⟩ := hx i (by omega)
      rw [h7, oaddr_add] at h1
      obtain ⟨_, hl1, hc1⟩ := World.cells?_some h1
      obtain ⟨xs, n', _, _, _, hlen, hf'⟩ := DataW.trod_struct Try.underlying30 h2
      match xs, hlen with
      | [y0, y1, y2, y3, y4, y5, y6], _ =>
      match cs', hl1 with
      | [z0, z1, z2, z3, z4, z5, z6], _ =>
        have k3 : Try.prog.cellsOf 3 = 1 := by kernel_rfl
        have k28 : Try.prog.cellsOf 28 = 1 := by kernel_rfl
        have f0 := hf' 0 _ rfl
        have f1 := hf' 1 _ rfl
        have f2 := hf' 2 _ rfl
        have f3 := hf' 3 _ rfl
        have f4 := hf' 4 _ rfl
        have f5 := hf' 5 _ rfl
        have f6 := hf' 6 _ rfl
        simp at f0 f1 f2 f3 f4 f5 f6
        obtain ⟨a0, e0, _, w0⟩ := DataW.trod_int Try.underlying3 f0
        obtain ⟨a1, e1, _, w1⟩ := DataW.trod_int Try.underlying3 f1
        obtain ⟨a2, e2, _, w2⟩ := DataW.trod_int Try.underlying3 f2
        obtain ⟨a3, e3, _, w3⟩ := DataW.trod_int Try.underlying3 f3
        obtain ⟨a4, e4, _, w4⟩ := DataW.trod_int Try.underlying28 f4
        obtain ⟨a5, e5, _, w5⟩ := DataW.trod_int Try.underlying3 f5
        obtain ⟨a6, e6, _, w6⟩ := DataW.trod_int Try.underlying3 f6
        simp [k3] at e0 e1 e2 e3 e5 e6
        simp [k28] at e4
        subst e0 e1 e2 e3 e4 e5 e6
        have c0 := hc1 0 (by omega)
        have c1 := hc1 1 (by omega)
        have c2 := hc1 2 (by omega)
        have c3 := hc1 3 (by omega)
        have c4 := hc1 4 (by omega)
        have c5 := hc1 5 (by omega)
        have c6 := hc1 6 (by omega)
        rw [oaddr_add] at c0 c1 c2 c3 c4 c5 c6
        have hb := World.block_lt_of_cell? W _ c0
        exact ⟨⟨a0, a1, a2, a3, a4, a5, a6⟩, ⟨c0, c1, c2, c3, c4, c5, c6⟩, ⟨bounds_i64 w0, bounds_i64 w1, bounds_i64 w2, bounds_i64 w3, bounds_u64 w4, bounds_i64 w5, bounds_i64 w6⟩, hb⟩
    refine ⟨fun i => if hi : i < len then (each i hi).choose else ⟨0, 0, 0, 0, 0, 0, 0⟩, by omega, .inr ⟨b, off, rfl, (each 0 (by omega)).choose_spec.2.2, fun i hi => ?_⟩⟩
    have := (each i hi).choose_spec
    simp only [hi, dif_pos]
    exact ⟨this.1, this.2.1⟩
end Go.Proofs.Ytmemhckkfhlnmaa
