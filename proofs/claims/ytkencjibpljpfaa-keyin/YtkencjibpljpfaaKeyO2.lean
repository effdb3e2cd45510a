/- Which right keys lie in a directory's span, and in a file's: plain mathematics. -/
import Derived.Test.YtkencjibpljpfaaKeyO
import Derived.Test.YtkencjibpljpfaaBack3
namespace Go.Proofs.Ytkencjibpljpfaa
set_option linter.unusedVariables false
open Go.RowKit

theorem less_head {i d : Nat} (hi : i < 4294967296) (hd : d < 4294967296) (kb c : UInt8) (r : List UInt8) (hr : r.length = 19) : Op.bytesLess (be i 4 ++ kb :: r) (headK d c) = (decide (i < d) || (decide (i = d) && decide (kb < c))) := by
  rw [headK, less_be hi hd, Op.bytesLess, less_zs 19 r hr]
  simp
/-- A right key, laid open. -/
theorem right_open {K : List UInt8} (h : right K = true) : ∃ (i : Int) (kb : UInt8) (r : List UInt8), K = be i.toNat 4 ++ kb :: r ∧ r.length = 19 ∧ okN i = true ∧ pIno K = i ∧ pKind K = kb.toNat ∧ (kb = 1 ∨ kb = 2 ∨ kb = 3) ∧ (kb = 3 → okP (pPlace K) = true ∧ r = zs 15 ++ be (pPlace K).toNat 4) := by
  obtain ⟨_, h1⟩ := right_made h
  rcases h1 with ⟨k1, e1, e2⟩ | ⟨k2, e1, e2⟩ | ⟨k3, e1, e2⟩
  · rw [inodeR, if_pos e1] at e2
    refine ⟨pIno K, 1, zs 19, e2.symm, zs_length _, e1, rfl, k1, .inl rfl, fun h => absurd h (by decide)⟩
  · have e1' := e1
    rw [Bool.and_eq_true] at e1
    rw [entryR, if_pos e1'] at e2
    refine ⟨pIno K, 2, pName K ++ zs (18 - (pName K).length) ++ [UInt8.ofNat (pName K).length], e2.symm, ?_, e1.1, rfl, k2, .inr (.inl rfl), fun h => absurd h (by decide)⟩
    have := (okS_out e1.2).2.1
    simp [zs_length]
    omega
  · have e1' := e1
    rw [Bool.and_eq_true] at e1
    rw [chunkR, if_pos e1'] at e2
    exact ⟨pIno K, 3, zs 15 ++ be (pPlace K).toNat 4, e2.symm, by simp [zs_length, be_length], e1.1, rfl, k3, .inr (.inr rfl), fun _ => ⟨e1.2, rfl⟩⟩
theorem zs24_in (K : List UInt8) (hK : K.length = 24) : inS (zs 24) (zs 24) false K = false := by
  rw [inS, less_zs 24 K hK]
  rfl
theorem in_entries {K : List UInt8} (h : right K = true) (hK : K.length = 24) (d : Int) : inS (entriesF d) (entriesT d) false K = (okN d && (decide (pKind K = 2) && decide (pIno K = d))) := by
  cases hd : okN d with
  | false =>
    rw [entriesF, entriesT, hd]
    exact zs24_in K hK
  | true =>
    obtain ⟨i, kb, r, e, hr, hi, e1, e2, hk, _⟩ := right_open h
    obtain ⟨i0, i1, i2⟩ := okN_lt hi
    obtain ⟨d0, d1, d2⟩ := okN_lt hd
    rw [e1, e2, entriesF, entriesT, if_pos hd, if_pos hd, inS, e, less_head i1 d1 _ _ _ hr, less_head i1 d1 _ _ _ hr]
    rcases Int.lt_trichotomy i d with hlt | heq | hgt
    · have h1 : i.toNat < d.toNat := by omega
      have h2 : ¬ i = d := by omega
      simp [h1, h2]
    · subst heq
      rcases hk with rfl | rfl | rfl <;> simp <;> decide
    · have h1 : ¬ i.toNat < d.toNat := by omega
      have h2 : ¬ i.toNat = d.toNat := by omega
      have h3 : ¬ i = d := by omega
      simp [h1, h2, h3]
theorem in_chunks {K : List UInt8} (h : right K = true) (hK : K.length = 24) (d f : Int) : inS (chunksF d f) (chunksT d f) false K = ((okN d && okP f) && (decide (pKind K = 3) && (decide (pIno K = d) && decide (pPlace K ≥ f)))) := by
  cases hd : (okN d && okP f) with
  | false =>
    rw [chunksF, chunkR, chunksT, hd]
    exact zs24_in K hK
  | true =>
    obtain ⟨i, kb, r, e, hr, hi, e1, e2, hk, hc⟩ := right_open h
    obtain ⟨i0, i1, i2⟩ := okN_lt hi
    have hd' := hd
    rw [Bool.and_eq_true] at hd'
    obtain ⟨d0, d1, d2⟩ := okN_lt hd'.1
    obtain ⟨f0, f1, f2⟩ := okP_lt hd'.2
    generalize hpl : pPlace K = pl at *
    rw [e1, e2, chunksF, chunkR, chunksT, if_pos hd, if_pos hd, inS, e, less_head i1 d1 _ _ _ hr, chunkK, less_be i1 d1, Op.bytesLess]
    rcases Int.lt_trichotomy i d with hlt | heq | hgt
    · have h1 : i.toNat < d.toNat := by omega
      have h2 : ¬ i = d := by omega
      simp [h1, h2]
    · subst heq
      rcases hk with rfl | rfl | rfl
      · simp <;> decide
      · simp <;> decide
      · obtain ⟨c1, c2⟩ := hc rfl
        obtain ⟨q0, q1, q2⟩ := okP_lt c1
        rw [c2, less_app _ _ _ _ rfl, less_self, be_less 4 _ _ (by rw [p4]; exact q1) (by rw [p4]; exact f1)]
        have e3 : decide (pl.toNat < f.toNat) = !decide (pl ≥ f) := by
          rw [Bool.eq_iff_iff]
          simp
          omega
        rw [e3]
        simp
    · have h1 : ¬ i.toNat < d.toNat := by omega
      have h2 : ¬ i.toNat = d.toNat := by omega
      have h3 : ¬ i = d := by omega
      simp [h1, h2, h3]
end Go.Proofs.Ytkencjibpljpfaa
