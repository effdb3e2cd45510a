/- The small case that every statement begins with answers true, and turns nothing that was there. -/
import Derived.Test.YtgijkgcekfbgeaaDoorPackRd
namespace Go.Proofs.YtgijkgcekfbgeaaDoor
set_option linter.unusedVariables false
open Go.RowKit

theorem sh1 : WS.byte ⟨10, [], false⟩ 5 = ⟨10, [5], false⟩ := by rfl
theorem sh2 : WS.text ⟨10, [5], false⟩ ⟨#[97, 98]⟩ = ⟨10, [5, 2, 97, 98], false⟩ := by rfl
theorem sh3 : WS.fill ⟨10, [5, 2, 97, 98], false⟩ 6 = ⟨10, [5, 2, 97, 98, 0, 0], false⟩ := by rfl
theorem sh4 : num (RS.got ⟨[5, 2, 97, 98, 0, 0], false⟩ 1) = 5 ∧ RS.take ⟨[5, 2, 97, 98, 0, 0], false⟩ 1 = ⟨[2, 97, 98, 0, 0], false⟩ := ⟨by rfl, by rfl⟩
theorem sh5 : RS.text ⟨[2, 97, 98, 0, 0], false⟩ = [97, 98] ∧ RS.atext ⟨[2, 97, 98, 0, 0], false⟩ = ⟨[0, 0], false⟩ := ⟨by rfl, by rfl⟩

theorem BytesIn.below {w w' : World} {B : Nat} {sv : Value} {L : List UInt8} {r : Option Nat} (h : BytesIn w sv L r) (hb : Below B w w') (hr : ∀ k, r = some k → k < B) : BytesIn w' sv L r := h.kept fun k hk => hb.block k (hr k hk)
theorem BytesIn.touch {w w' : World} {p : Nat} {sv : Value} {L : List UInt8} {r r' : Option Nat} (h : BytesIn w sv L r) (ht : Touch p r' w w') (hr : ∀ k, r = some k → k < w.heap.size ∧ k ≠ p ∧ r' ≠ some k) : BytesIn w' sv L r :=
  h.kept fun k hk => ht.block k (hr k hk).1 (hr k hk).2.1 (hr k hk).2.2
theorem WrS.below {w w' : World} {p : Nat} {s : WS} {r : Option Nat} (h : WrS w p s r) {B : Nat} (hb : Below B w w') (hB : w.heap.size ≤ B) : WrS w' p s r :=
  h.kept (hb.block _ (by have := h.lt.1; omega)) (fun k hk => hb.block _ (by have := (h.lt.2 k hk).2; omega))

theorem RdS.below {w w' : World} {p : Nat} {s : RS} {r : Option Nat} (h : RdS w p s r) {B : Nat} (hb : Below B w w') (hp : p < B) (hr : ∀ k, r = some k → k < B) : RdS w' p s r :=
  h.kept (hb.block _ hp) (fun k hk => hb.block _ (hr k hk))
theorem ss1 : str [97, 98] = ⟨#[97, 98]⟩ := rfl
theorem ss2 : str [5, 2, 97, 98, 0, 0] = ⟨#[5, 2, 97, 98, 0, 0]⟩ := rfl
theorem ss3 : (!(⟨[0, 0], false⟩ : RS).bad && (⟨[0, 0], false⟩ : RS).l.all (· == 0)) = true := rfl
theorem Near.ge {r r' : Option Nat} {n B : Nat} (h : Near r r' n) (hr : ∀ k, r = some k → B ≤ k) (hn : B ≤ n) : ∀ k, r' = some k → B ≤ k := fun k hk => by
  rcases h k hk with e | e
  · exact hr k e
  · omega

end Go.Proofs.YtgijkgcekfbgeaaDoor
