/- More contracts of a device, and small laws that the statements' walks share. -/
import Derived.Test.YtmemhckkfhlnmaaDevShown
import Derived.Test.YtmemhckkfhlnmaaOpArgs
namespace Go.Proofs.Ytmemhckkfhlnmaa
set_option linter.unusedVariables false
open Go.RowKit

theorem armQ (w : World) (p : Nat) (D : DS) (B : Nat) (n mask torn bytes : Int) (h : DQ w p D B) (hn : I64 n) (hm : 0 ≤ mask ∧ mask ≤ 18446744073709551615) (ht : I64 torn) (hy : I64 bytes) :
    Calls Try.prog 27 #[.pointer (some ⟨p, 0, none⟩), .int .i64 n, .int .u64 mask, .int .i64 torn, .int .i64 bytes] w fun e w' => e = .returned (.tuple #[]) ∧ DQ w' p (D.arm n mask torn bytes) B ∧ Below B w w' := by
  obtain ⟨r, T, h1, h2, h3⟩ := h
  exact (arm_calls w p D r T n mask torn bytes h1 hn hm ht hy).mono fun e w' ⟨e1, e2⟩ => ⟨e1, DQ.of_go e2 h2 h3⟩
theorem upQ (w : World) (p : Nat) (D : DS) (B : Nat) (h : DQ w p D B) : Calls Try.prog 23 #[.pointer (some ⟨p, 0, none⟩)] w fun e w' => e = .returned (.bool (!D.down)) ∧ w' = w := by
  obtain ⟨r, T, h1, h2, h3⟩ := h
  exact up_calls w p D r T h1

theorem new8 : DS.new 8 = ⟨8, fun _ => nought, fun _ => nought, [], false, 0, 0, 0, 0, 0⟩ := by
  unfold DS.new
  simp only [DS.mk.injEq, and_true]
  decide
theorem and7 (n : Int) : bits .and .i64 n 7 = n % 8 := by
  show IntKind.i64.wrap ((BitVec.ofInt 64 n &&& BitVec.ofInt 64 ((7 : Nat) : Int)).toNat : Nat) = n % 8
  rw [and_ones n 7 3 (by decide), IntKind.wrap_i64]
  omega
theorem and15 (n : Int) : bits .and .i64 n 15 = n % 16 := by
  show IntKind.i64.wrap ((BitVec.ofInt 64 n &&& BitVec.ofInt 64 ((15 : Nat) : Int)).toNat : Nat) = n % 16
  rw [and_ones n 15 4 (by decide), IntKind.wrap_i64]
  omega
theorem cells7 {w : World} {b : Nat} {x0 x1 x2 x3 x4 x5 x6 : Value} {t : TypeId} (h : w.heap[b]? = some (.cells #[x0, x1, x2, x3, x4, x5, x6] t (0, 0))) :
    w.cell? ⟨b, 0, none⟩ = some x0 ∧ w.cell? ⟨b, 1, none⟩ = some x1 ∧ w.cell? ⟨b, 2, none⟩ = some x2 ∧ w.cell? ⟨b, 3, none⟩ = some x3 ∧ w.cell? ⟨b, 4, none⟩ = some x4 ∧ w.cell? ⟨b, 5, none⟩ = some x5 ∧ w.cell? ⟨b, 6, none⟩ = some x6 := by
  refine ⟨?_, ?_, ?_, ?_, ?_, ?_, ?_⟩ <;> simp [World.cell?, h]
theorem made_fresh2 {w0 w w' : World} {L : List UInt8} (hs : w0.heap.size ≤ w.heap.size) (o : w'.ownsRow w.heap.size 5 1 (.slice (some ⟨w.heap.size, 0, none⟩) L.length L.length) L.length (bc L)) : Fresh w' (.slice (some ⟨w.heap.size, 0, none⟩) L.length L.length) L w0.heap.size := ⟨w.heap.size, hs, own_bytes o⟩
theorem conv_made {w w' : World} {L : List UInt8} (o : w'.ownsRow w.heap.size 5 1 (.slice (some ⟨w.heap.size, 0, none⟩) L.length L.length) L.length (bc L)) : (convert 42 9 (.slice (some ⟨w.heap.size, 0, none⟩) L.length L.length)).run Try.prog w' = .ok (.string (str L)) w' := conv_bytes (own_bytes o)
end Go.Proofs.Ytmemhckkfhlnmaa
