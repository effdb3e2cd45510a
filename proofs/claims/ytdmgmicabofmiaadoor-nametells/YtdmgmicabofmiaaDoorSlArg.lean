/- A slice of elements of k cells that came in: what the walk is told of it. -/
import Derived.Test.YtdmgmicabofmiaaDoorRowKit
import Derived.Test.YtdmgmicabofmiaaDoorSl
import Derived.Lib.SmallJoins
namespace Go.Proofs.YtdmgmicabofmiaaDoor
set_option linter.unusedVariables false
open Go.ChangeShapes Go.WideShapes Go.ChangeAt Go.RowKit

set_option maxRecDepth 100000 in
theorem open_els {α : Type} {k : Nat} (E : Enc α k) (ts te : TypeId) (hu : Tryd.prog.underlying ts = some (.slice te)) (hk : Tryd.prog.cellsOf te = k) (hpos : 0 < k) {H : Type} {enc : TypeId × Value → H} {W : World} {base : Nat} {held : Bool} {a : Option Addr} {len cap : Nat} {d : DataW H} {p : List MemPlace}
    (hel : ∀ (fuel : Nat) (z : DataW H × List MemPlace) (cs : List Value), DataW.trod enc Tryd.prog W base (fun _ => true) held fuel te cs = some z → cs.length = k → ∃ x : α, cs = E.c x)
    (h : DataW.Trod enc Tryd.prog W base (fun _ => true) held ts (.slice a len cap) d p) : ∃ l : List α, Sl E W (.slice a len cap) l := by
  obtain ⟨fuel, hf⟩ := h
  rcases Go.Deep.open_slice hu hf with ⟨hcs, _⟩ | ⟨x, l, c, m, n, D, Pl, hcs, _, hl, hm, hmm, _, hx⟩
  · simp [Value.cells] at hcs
    obtain ⟨rfl, rfl, rfl⟩ := hcs
    exact ⟨[], SlB.nil _ _ _⟩
  · simp [Value.cells] at hcs
    obtain ⟨rfl, rfl, rfl⟩ := hcs
    have hm' : m = cap := by simpa using hmm
    subst hm'
    by_cases hl0 : len = 0
    · subst hl0
      exact ⟨[], ⟨_, _, rfl, Nat.zero_le _, Nat.zero_le _, (fun e => by cases e), .inl rfl⟩⟩
    have spotless : x.spot = none := by
      obtain ⟨cs0, h0, _⟩ := hx 0 (by omega)
      rw [hk] at h0
      obtain ⟨_, hl0, hc0⟩ := World.cells?_some h0
      have hc := hc0 0 (by omega)
      rw [List.getElem?_eq_getElem (by omega)] at hc
      simpa [Addr.add] using World.cell?_spot hc
    obtain ⟨b, off, spot⟩ := x
    simp only at spotless
    subst spotless
    have each : ∀ i, i < len → ∃ s : α, W.rangeAt b (off + i * k) (E.c s) ∧ b < W.heap.size := by
      intro i hi
      obtain ⟨cs', h1, h2⟩ := hx i (by omega)
      rw [hk, Addr.add_mid] at h1
      obtain ⟨_, hl1, hc1⟩ := World.cells?_some h1
      obtain ⟨s, hs⟩ := hel _ _ _ h2 hl1
      subst hs
      refine ⟨s, fun j v hv => ?_, ?_⟩
      · have hj := (List.getElem?_eq_some_iff.1 hv).1
        have := hc1 j (by rw [E.len] at hj; omega)
        rw [Addr.add_mid] at this
        rw [this]
        exact hv
      · have := hc1 0 (by omega)
        rw [List.getElem?_eq_getElem (by omega)] at this
        have := World.block_lt_of_cell? W _ this
        rw [Addr.add_mid] at this
        exact this
    have hL : (List.ofFn fun i : Fin len => (each i.1 i.2).choose).length = len := by simp
    refine ⟨List.ofFn fun i : Fin len => (each i.1 i.2).choose, ⟨_, m, by rw [hL], by rw [hL]; omega, by rw [hL]; omega, (fun e => by cases e), .inr ⟨b, off, rfl, (each 0 (by omega)).choose_spec.2, fun i hi => ?_⟩⟩⟩
    rw [List.getElem_ofFn]
    exact (each i (by simpa using hi)).choose_spec.1
theorem bytes_list (l : List Value) (h : ∀ v ∈ l, ∃ b : UInt8, v = .int .u8 (b.toNat : Int)) : ∃ K : List UInt8, l = bc K := by
  induction l with
  | nil => exact ⟨[], rfl⟩
  | cons v l ih =>
    obtain ⟨b, rfl⟩ := h v (by simp)
    obtain ⟨K, rfl⟩ := ih fun x hx => h x (by simp [hx])
    exact ⟨b :: K, rfl⟩
end Go.Proofs.YtdmgmicabofmiaaDoor
