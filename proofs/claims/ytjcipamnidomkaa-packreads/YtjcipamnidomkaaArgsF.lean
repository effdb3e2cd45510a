/- A slice of bytes and a slice of fields that came in: what the walk is told of them. -/
import Derived.Test.YtjcipamnidomkaaRowKit
import Derived.Test.YtjcipamnidomkaaArgs
import Derived.Lib.SmallJoins
namespace Go.Proofs.Ytjcipamnidomkaa
set_option linter.unusedVariables false
open Go.ChangeShapes Go.WideShapes Go.ChangeAt Go.RowKit

theorem addr_add (b off i : Nat) : (⟨b, off, none⟩ : Addr).add i = ⟨b, off + i, none⟩ := by unfold Addr.add; split <;> simp_all
theorem u8_back {n : Int} (h : (Lit.int .u8 n).wf = true) : ((UInt8.ofNat n.toNat).toNat : Int) = n := by
  have := bounds_u8 h
  simp
  omega

theorem open_bytes {H : Type} {enc : TypeId × Value → H} {W : World} {base : Nat} {held : Bool} {a : Option Addr} {len cap : Nat} {d : DataW H} {p : List MemPlace}
    (h : DataW.Trod enc Try.prog W base (fun _ => true) held 34 (.slice a len cap) d p) : ∃ L : List UInt8, len = L.length ∧ ArgBytes W a cap L := by
  obtain ⟨fuel, hf⟩ := h
  rcases open_ints Try.underlying34 Try.underlying5 (by kernel_rfl) hf with ⟨hcs, _⟩ | ⟨x, l, c, zs, hcs, _, hl, hm, hz, _, hcell, hwz⟩
  · simp [Value.cells] at hcs
    obtain ⟨rfl, rfl, rfl⟩ := hcs
    exact ⟨[], rfl, Nat.le_refl _, fun _ => ⟨rfl, rfl⟩, fun x hx => by cases hx⟩
  · simp [Value.cells] at hcs
    obtain ⟨rfl, rfl, rfl⟩ := hcs
    have hz' : zs.length = cap := by simpa using hz
    have hL : ((zs.take len).map fun n : Int => UInt8.ofNat n.toNat).length = len := by simp; omega
    refine ⟨(zs.take len).map fun n : Int => UInt8.ofNat n.toNat, hL.symm, by omega, (fun e => by cases e), fun y hy j u hu => ?_⟩
    cases hy
    have hj := bc_get hu
    rw [hL] at hj
    have hc := hcell j (by omega)
    rw [bc_at _ _ (by omega)] at hu
    simp only [List.getElem_map, List.getElem_take, Option.some.injEq] at hu
    rw [u8_back (hwz _ (List.getElem_mem _))] at hu
    have e2 : zs.getD j 0 = zs[j]'(by omega) := by simp [show j < zs.length by omega]
    rw [e2, hu] at hc
    refine ⟨?_, hc⟩
    have e : (x.add j).block = x.block := by unfold Addr.add; split <;> rfl
    rw [← e]
    exact World.block_lt_of_cell? W _ hc

theorem open_fields {H : Type} {enc : TypeId × Value → H} {W : World} {base : Nat} {held : Bool} {a : Option Addr} {len cap : Nat} {d : DataW H} {p : List MemPlace}
    (h : DataW.Trod enc Try.prog W base (fun _ => true) held 22 (.slice a len cap) d p) : ∃ fs, len ≤ maxLen ∧ FieldsIn W a len fs := by
  obtain ⟨fuel, hf⟩ := h
  have h4 : Try.prog.cellsOf 30 = 4 := by kernel_rfl
  rcases Go.Deep.open_slice Try.underlying22 hf with ⟨hcs, _⟩ | ⟨x, l, c, m, n, D, Pl, hcs, _, hl, hm, hmm, _, hx⟩
  · simp [Value.cells] at hcs
    obtain ⟨rfl, rfl, rfl⟩ := hcs
    exact ⟨fun _ => ⟨0, 0, 0, ByteArray.empty⟩, by unfold maxLen; omega, fun i hi => by omega⟩
  · simp [Value.cells] at hcs
    obtain ⟨rfl, rfl, rfl⟩ := hcs
    have hm' : m = cap := by simpa using hmm
    subst hm'
    have each : ∀ i, i < len → ∃ f : FD, ∃ b off, some x = some ⟨b, off, none⟩ ∧ b < W.heap.size ∧ W.cell? ⟨b, off + i * 4, none⟩ = some (.int .i64 f.kind) ∧ W.cell? ⟨b, off + i * 4 + 1, none⟩ = some (.int .i64 f.n) ∧
        W.cell? ⟨b, off + i * 4 + 2, none⟩ = some (.int .u64 f.v) ∧ W.cell? ⟨b, off + i * 4 + 3, none⟩ = some (.string f.s) ∧
        (-9223372036854775808 ≤ f.kind ∧ f.kind ≤ 9223372036854775807) ∧ (-9223372036854775808 ≤ f.n ∧ f.n ≤ 9223372036854775807) ∧ (0 ≤ f.v ∧ f.v ≤ 18446744073709551615) ∧ f.s.size ≤ maxLen := by
      intro i hi
      have spotless : x.spot = none := by
        obtain ⟨cs0, h0, _⟩ := hx 0 (by omega)
        rw [h4] at h0
        obtain ⟨_, hl0, hc0⟩ := World.cells?_some h0
        have hc := hc0 0 (by omega)
        rw [List.getElem?_eq_getElem (by omega)] at hc
        simpa [Addr.add] using World.cell?_spot hc
      obtain ⟨b, off, spot⟩ := x
      simp only at spotless
      subst spotless
      obtain ⟨cs', h1, h2⟩ := hx i (by omega)
      rw [h4, addr_add] at h1
      obtain ⟨_, hl1, hc1⟩ := World.cells?_some h1
      obtain ⟨y0, y1, y2, y3, n', _, _, f0, f1, f2, f3⟩ := Go.Joins.trod_struct4 Try.underlying30 h2
      match cs', hl1 with
      | [z0, z1, z2, z3], _ =>
        have k3 : Try.prog.cellsOf 3 = 1 := by kernel_rfl
        have k28 : Try.prog.cellsOf 28 = 1 := by kernel_rfl
        have k9 : Try.prog.cellsOf 9 = 1 := by kernel_rfl
        obtain ⟨a0, e0, _, w0⟩ := DataW.trod_int Try.underlying3 f0
        obtain ⟨a1, e1, _, w1⟩ := DataW.trod_int Try.underlying3 f1
        obtain ⟨a2, e2, _, w2⟩ := DataW.trod_int Try.underlying28 f2
        obtain ⟨s3, e3, _, w3⟩ := DataW.trod_string Try.underlying9 f3
        simp [k3] at e0 e1
        simp [k28] at e2
        simp [k9] at e3
        subst e0 e1 e2 e3
        have c0 := hc1 0 (by omega)
        have c1 := hc1 1 (by omega)
        have c2 := hc1 2 (by omega)
        have c3 := hc1 3 (by omega)
        rw [addr_add] at c0 c1 c2 c3
        have hb := World.block_lt_of_cell? W _ c0
        exact ⟨⟨a0, a1, a2, s3⟩, b, off, rfl, hb, c0, c1, c2, c3, bounds_i64 w0, bounds_i64 w1, bounds_u64 w2, w3⟩
    exact ⟨fun i => if hi : i < len then (each i hi).choose else ⟨0, 0, 0, ByteArray.empty⟩, by omega, fun i hi => by
      have := (each i hi).choose_spec
      simp only [hi, dif_pos]
      exact this⟩
end Go.Proofs.Ytjcipamnidomkaa
