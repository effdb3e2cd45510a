/- The document's Less, find, Get and put. -/
import Derived.Test.YtbodbdcmkicmaabDlJ
namespace Go.Proofs.Ytbodbdcmkicmaab
set_option linter.unusedVariables false
open Go.RowKit

theorem range_has {w : World} {b : Nat} {K : List UInt8} (h : Has w b K) : w.rangeAt b 0 (bc K) := fun j v hv => by
  rw [Nat.zero_add, cell_of_row w b _ _ _ _ h.blk]
  simpa using hv
theorem conv_part {w : World} {b o : Nat} {K : List UInt8} (hr : w.rangeAt b o (bc K)) (hl : K.length = 24) (cap : Nat) : (convert 60 9 (.slice (some ⟨b, o, none⟩) 24 cap)).run Try.prog w = .ok (.string (str K)) w := by
  have := run_convert_bytes_arg (P := Try.prog) w 60 5 Try.underlying60 Try.underlying5 b o 24 cap (K.map fun b => (b.toNat : Int)) (by simp [hl]) (fun i hi => by
    have hi' : i < K.length := by omega
    rw [hr i (.int .u8 ((K[i]).toNat : Int)) (by simp [bc, hi'])]
    simp [hi']) 9 Try.underlying9
  rw [str_of] at this
  exact this

/-- What stands while two keys are held against one another. -/
structure Two (w : World) (b c : Nat) (K L : List UInt8) (w' : World) : Prop where
  k : Has w' b K
  l : Has w' c L
  bel : Below w.heap.size w w'
theorem Two.drew {w : World} {b c : Nat} {K L : List UInt8} {w' : World} (h : Two w b c K L w') : Two w b c K L w'.drew := ⟨⟨h.k.len, h.k.blk⟩, ⟨h.l.len, h.l.blk⟩, h.bel.drew⟩
theorem Two.out {w : World} {b c : Nat} {K L : List UInt8} {w' : World} (h : Two w b c K L w') : (convert 60 9 (.slice (some ⟨b, 0, none⟩) 24 24)).run Try.prog w' = .ok (.string (str K)) w' ∧ (convert 60 9 (.slice (some ⟨c, 0, none⟩) 24 24)).run Try.prog w' = .ok (.string (str L)) w' ∧ Two w b c K L w' :=
  ⟨conv_part (range_has h.k) h.k.len 24, conv_part (range_has h.l) h.l.len 24, h⟩

theorem less_kz (K L : Kz) : Op.bytesLess K.k L.k = decide (K.n < L.n) := by
  rw [less_num K.k L.k (by rw [K.h, L.h])]
  exact decide_eq_decide.2 (by show num K.k < num L.k ↔ (num K.k : Int) < (num L.k : Int); omega)
theorem hit_yes {α : Type} {key : α → Int} {l : List α} {x : Int} {k : Nat} (hp : posA key l x = k) (hk : k < l.length) : hitA key l x = decide (key l[k] = x) := by
  unfold hitA
  rw [hp, List.getElem?_eq_getElem hk]
  simp
theorem hit_no {α : Type} {key : α → Int} {l : List α} {x : Int} {k : Nat} (hp : posA key l x = k) (hk : l.length ≤ k) : hitA key l x = false := by
  unfold hitA
  rw [hp, List.getElem?_eq_none hk]
  simp
theorem kz_eq_n (K L : Kz) : decide (K = L) = decide (K.n = L.n) := decide_eq_decide.2 ⟨fun h => by rw [h], fun h => Kz.same h⟩
/-- What find says of a rising list. -/
theorem found {l : List Pa} (ha : Asc Pa.n l) (K : Kz) : (hitA Pa.n l K.n = true → ∃ h : posA Pa.n l K.n < l.length, look Pa.n l K.n = some l[posA Pa.n l K.n]) ∧ (hitA Pa.n l K.n = false → look Pa.n l K.n = none) := by
  have h := hitA_look Pa.n K.n ha
  refine ⟨fun q => ?_, fun q => ?_⟩
  · rw [if_pos q] at h
    have hlt : posA Pa.n l K.n < l.length := by
      unfold hitA at q
      rw [decide_eq_true_eq] at q
      cases e : l[posA Pa.n l K.n]? with
      | none => rw [e] at q; cases q
      | some y => exact (List.getElem?_eq_some_iff.1 e).1
    exact ⟨hlt, by rw [h, List.getElem?_eq_getElem hlt]⟩
  · rw [h, if_neg (by rw [q]; simp)]
/-- What Get tells. -/
def gotV (l : List Pa) (K : Kz) : List UInt8 := ((look Pa.n l K.n).map Pa.v).getD []
def gotB (l : List Pa) (K : Kz) : Bool := (look Pa.n l K.n).isSome
end Go.Proofs.Ytbodbdcmkicmaab
