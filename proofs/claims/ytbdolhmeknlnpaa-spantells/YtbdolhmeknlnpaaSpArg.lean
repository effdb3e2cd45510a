/- Lists of spans and of keys that came in. -/
import Derived.Test.YtbdolhmeknlnpaaSlArg
import Derived.Test.YtbdolhmeknlnpaaSpA
namespace Go.Proofs.Ytbdolhmeknlnpaa
set_option linter.unusedVariables false
open Go.ChangeShapes Go.WideShapes Go.ChangeAt Go.RowKit

theorem open_spans {H : Type} {enc : TypeId × Value → H} {W : World} {base : Nat} {held : Bool} {a : Option Addr} {len cap : Nat} {d : DataW H} {p : List MemPlace}
    (h : DataW.Trod enc Try.prog W base (fun _ => true) held 22 (.slice a len cap) d p) : ∃ l : List Sp, Sl encS W (.slice a len cap) l := by
  refine open_els encS 22 35 Try.underlying22 (by kernel_rfl) (by decide) (fun fuel z cs hf hl => ?_) h
  obtain ⟨xs, n', _, _, _, hlen, hf'⟩ := DataW.trod_struct Try.underlying35 hf
  match xs, hlen with
  | [y0, y1, y2], _ =>
    have k24 : Try.prog.cellsOf 30 = 24 := by kernel_rfl
    have k1 : Try.prog.cellsOf 4 = 1 := by kernel_rfl
    have f0 := hf' 0 _ rfl
    have f1 := hf' 1 _ rfl
    have f2 := hf' 2 _ rfl
    simp at f0 f1 f2
    rw [k24] at f0 f1
    rw [k1] at f2
    obtain ⟨F, lF, eF⟩ := trod_key f0
    obtain ⟨T, lT, eT⟩ := trod_key f1
    obtain ⟨e, ee, _⟩ := DataW.trod_bool Try.underlying4 f2
    refine ⟨⟨F, T, e, lF, lT⟩, ?_⟩
    show cs = bc F ++ bc T ++ [.bool e]
    rw [← eF, ← eT, ← ee, List.take_of_length_le (l := cs.drop 48) (by simp; omega), List.append_assoc]
    have : cs.drop 48 = (cs.drop 24).drop 24 := by rw [List.drop_drop]
    rw [this, List.take_append_drop, List.take_append_drop]
theorem open_keys {H : Type} {enc : TypeId × Value → H} {W : World} {base : Nat} {held : Bool} {a : Option Addr} {len cap : Nat} {d : DataW H} {p : List MemPlace}
    (h : DataW.Trod enc Try.prog W base (fun _ => true) held 23 (.slice a len cap) d p) : ∃ l : List Ky, Sl encK W (.slice a len cap) l := by
  refine open_els encK 23 30 Try.underlying23 (by kernel_rfl) (by decide) (fun fuel z cs hf hl => ?_) h
  obtain ⟨K, h1, h2⟩ := trod_key hf
  exact ⟨⟨K, h1⟩, h2⟩
end Go.Proofs.Ytbdolhmeknlnpaa
