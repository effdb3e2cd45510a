/- Steps that came in: what the walk is told of them. -/
import Derived.Test.YtpgepejleklpfaaRfW
namespace Go.Proofs.Ytpgepejleklpfaa
set_option linter.unusedVariables false
open Go.ChangeShapes Go.WideShapes Go.ChangeAt Go.RowKit

def ArgO (w : World) (a : Option Addr) (len cap : Nat) (l : Nat → Int × Int) : Prop := len ≤ maxLen ∧ len ≤ cap ∧ (∀ i, i < len → I64 (l i).2) ∧ (len = 0 ∨ ∃ b off, a = some ⟨b, off, none⟩ ∧ b < w.heap.size ∧ ∀ i, i < len → w.cell? ⟨b, off + i * 2, none⟩ = some (.int .i64 (l i).1) ∧ w.cell? ⟨b, off + i * 2 + 1, none⟩ = some (.int .i64 (l i).2))
theorem open_steps {H : Type} {enc : TypeId × Value → H} {W : World} {base : Nat} {held : Bool} {a : Option Addr} {len cap : Nat} {d : DataW H} {p : List MemPlace}
    (h : DataW.Trod enc Try.prog W base (fun _ => true) held 22 (.slice a len cap) d p) : ∃ os, ArgO W a len cap os := by
  obtain ⟨fuel, hf⟩ := h
  have h7 : Try.prog.cellsOf 31 = 2 := by kernel_rfl
  rcases Go.Deep.open_slice Try.underlying22 hf with ⟨hcs, _⟩ | ⟨x, l, c, m, n, D, Pl, hcs, _, hl, hm, hmm, _, hx⟩
  · simp [Value.cells] at hcs
    obtain ⟨rfl, rfl, rfl⟩ := hcs
    exact ⟨fun _ => (0, 0), by unfold maxLen; omega, Nat.le_refl _, fun i hi => by omega, .inl rfl⟩
  · simp [Value.cells] at hcs
    obtain ⟨rfl, rfl, rfl⟩ := hcs
    have hm' : m = cap := by simpa using hmm
    subst hm'
    by_cases hl0 : len = 0
    · exact ⟨fun _ => (0, 0), by omega, hl, fun i hi => by omega, .inl hl0⟩
    have spotless : x.spot = none := by
      obtain ⟨cs0, h0, _⟩ := hx 0 (by omega)
      rw [h7] at h0
      obtain ⟨_, hl0, hc0⟩ := World.cells?_some h0
      have hc := hc0 0 (by omega)
      rw [List.getElem?_eq_getElem (by omega)] at hc
      simpa [Addr.add] using World.cell?_spot hc
    obtain ⟨b, off, spot⟩ := x
    simp only at spotless
    subst spotless
    have each : ∀ i, i < len → ∃ o : Int × Int, (W.cell? ⟨b, off + i * 2, none⟩ = some (.int .i64 o.1) ∧ W.cell? ⟨b, off + i * 2 + 1, none⟩ = some (.int .i64 o.2)) ∧ I64 o.2 ∧ b < W.heap.size := by
      intro i hi
      obtain ⟨cs', h1, h2⟩ := hx i (by omega)
      rw [h7, add_lit] at h1
      obtain ⟨_, hl1, hc1⟩ := World.cells?_some h1
      obtain ⟨xs, n', _, _, _, hlen, hf'⟩ := DataW.trod_struct Try.underlying31 h2
      match xs, hlen with
      | [y0, y1], _ =>
      match cs', hl1 with
      | [z0, z1], _ =>
        have k3 : Try.prog.cellsOf 3 = 1 := by kernel_rfl
        have f0 := hf' 0 _ rfl
        have f1 := hf' 1 _ rfl
        simp at f0 f1
        obtain ⟨a0, e0, _, w0⟩ := DataW.trod_int Try.underlying3 f0
        obtain ⟨a1, e1, _, w1⟩ := DataW.trod_int Try.underlying3 f1
        simp [k3] at e0 e1
        subst e0 e1
        have c0 := hc1 0 (by omega)
        have c1 := hc1 1 (by omega)
        rw [add_lit] at c0 c1
        have hb := World.block_lt_of_cell? W _ c0
        exact ⟨(a0, a1), ⟨c0, c1⟩, i64_of_wf w1, hb⟩
    refine ⟨fun i => if hi : i < len then (each i hi).choose else (0, 0), by omega, hl, fun i hi => ?_, .inr ⟨b, off, rfl, (each 0 (by omega)).choose_spec.2.2, fun i hi => ?_⟩⟩
    · have := (each i hi).choose_spec
      simp only [hi, dif_pos]
      exact this.2.1
    · have := (each i hi).choose_spec
      simp only [hi, dif_pos]
      exact this.1
theorem ArgO.cell {w w' : World} {a : Option Addr} {len cap : Nat} {l : Nat → Int × Int} (h : ArgO w a len cap l) (hb : Below w.heap.size w w') {i : Nat} (hi : i < len) : ∃ b off, a = some ⟨b, off, none⟩ ∧ b < w.heap.size ∧ w'.cell? ⟨b, off + i * 2, none⟩ = some (.int .i64 (l i).1) ∧ w'.cell? ⟨b, off + i * 2 + 1, none⟩ = some (.int .i64 (l i).2) := by
  obtain ⟨_, _, _, h0 | ⟨b, off, e, hlt, hc⟩⟩ := h
  · omega
  · exact ⟨b, off, e, hlt, (World.cell?_of_block (hb.block b hlt)).trans (hc i hi).1, (World.cell?_of_block (hb.block b hlt)).trans (hc i hi).2⟩
end Go.Proofs.Ytpgepejleklpfaa
