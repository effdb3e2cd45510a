/- A slice of bytes that came in: what the walk is told of it. -/
import Derived.Test.YtggbnacpgkbieaaRowKit
import Derived.Test.YtggbnacpgkbieaaArgN
import Derived.Lib.SmallJoins
namespace Go.Proofs.Ytggbnacpgkbieaa
set_option linter.unusedVariables false
open Go.ChangeShapes Go.WideShapes Go.ChangeAt Go.RowKit

theorem u8_rt {n : Int} (h : (Lit.int .u8 n).wf = true) : ((UInt8.ofNat n.toNat).toNat : Int) = n := by
  have := bounds_u8 h
  simp
  omega
theorem open_bytes {H : Type} {enc : TypeId × Value → H} {W : World} {base : Nat} {held : Bool} {a : Option Addr} {len cap : Nat} {d : DataW H} {p : List MemPlace}
    (h : DataW.Trod enc Try.prog W base (fun _ => true) held 26 (.slice a len cap) d p) : ∃ L : List UInt8, ArgB W a len cap L := by
  obtain ⟨fuel, hf⟩ := h
  rcases open_ints Try.underlying26 Try.underlying5 (by kernel_rfl) hf with ⟨hcs, _⟩ | ⟨x, l, c, zs, hcs, _, hl, hm, hz, _, hcell, hwz⟩
  · simp [Value.cells] at hcs
    obtain ⟨rfl, rfl, rfl⟩ := hcs
    exact ⟨[], rfl, Nat.le_refl _, fun _ => ⟨rfl, rfl⟩, fun x hx => by cases hx⟩
  · simp [Value.cells] at hcs
    obtain ⟨rfl, rfl, rfl⟩ := hcs
    have hz' : zs.length = cap := by simpa using hz
    have hL : ((zs.take len).map fun n : Int => UInt8.ofNat n.toNat).length = len := by simp; omega
    refine ⟨(zs.take len).map fun n : Int => UInt8.ofNat n.toNat, hL.symm, by omega, (fun e => by cases e), fun y hy j u hu => ?_⟩
    cases hy
    have hj := bc_get hu
    rw [hL] at hj
    have hc := hcell j (by omega)
    rw [bc_at _ _ (by omega)] at hu
    simp only [List.getElem_map, List.getElem_take, Option.some.injEq] at hu
    rw [u8_rt (hwz _ (List.getElem_mem _))] at hu
    have e2 : zs.getD j 0 = zs[j]'(by omega) := by simp [show j < zs.length by omega]
    rw [e2, hu] at hc
    refine ⟨?_, hc⟩
    have e : (x.add j).block = x.block := by unfold Addr.add; split <;> rfl
    rw [← e]
    exact World.block_lt_of_cell? W _ hc
end Go.Proofs.Ytggbnacpgkbieaa
