/- What keys say and how they are ordered: plain mathematics. -/
import Derived.Test.YtkencjibpljpfaaKeyF
namespace Go.Proofs.Ytkencjibpljpfaa
set_option linter.unusedVariables false
open Go.RowKit

theorem be4 (n : Nat) : be n 4 = [UInt8.ofNat (n / 256 ^ 3), UInt8.ofNat (n / 256 ^ 2), UInt8.ofNat (n / 256 ^ 1), UInt8.ofNat (n / 256 ^ 0)] := rfl
theorem num_be4 (n : Nat) (h : n < 4294967296) : num [UInt8.ofNat (n / 256 ^ 3), UInt8.ofNat (n / 256 ^ 2), UInt8.ofNat (n / 256 ^ 1), UInt8.ofNat (n / 256 ^ 0)] = n := by
  rw [← be4]
  exact num_be 4 n (by rw [p4]; exact h)
theorem pIno_of (n : Nat) (h : n < 4294967296) (r : List UInt8) : pIno (be n 4 ++ r) = n := by
  show ((num [_, _, _, _] : Nat) : Int) = n
  exact congrArg _ (num_be4 n h)
theorem pKind_of (n : Nat) (k : UInt8) (r : List UInt8) : pKind (be n 4 ++ k :: r) = k.toNat := rfl

theorem okN_lt {n : Int} (h : okN n = true) : 0 ≤ n ∧ n.toNat < 4294967296 ∧ ((n.toNat : Nat) : Int) = n := by
  have : 1 ≤ n ∧ n < 1073741824 := of_decide_eq_true h
  omega
theorem okP_lt {n : Int} (h : okP n = true) : 0 ≤ n ∧ n.toNat < 4294967296 ∧ ((n.toNat : Nat) : Int) = n := by
  have : 0 ≤ n ∧ n ≤ 4294967295 := of_decide_eq_true h
  omega
theorem okS_out {s : List UInt8} (h : okS s = true) : 1 ≤ s.length ∧ s.length ≤ 18 ∧ (0 : UInt8) ∉ s := of_decide_eq_true h

theorem head_says {n : Int} (h : okN n = true) (k : UInt8) : pIno (headK n.toNat k) = n ∧ pKind (headK n.toNat k) = k.toNat := by
  obtain ⟨h0, h1, h2⟩ := okN_lt h
  exact ⟨by rw [headK, pIno_of _ h1, h2], pKind_of _ _ _⟩
theorem chunk_says {n p : Int} (h : okN n = true) (hp : okP p = true) : pIno (chunkK n.toNat p.toNat) = n ∧ pKind (chunkK n.toNat p.toNat) = 3 ∧ pPlace (chunkK n.toNat p.toNat) = p := by
  obtain ⟨h0, h1, h2⟩ := okN_lt h
  obtain ⟨q0, q1, q2⟩ := okP_lt hp
  refine ⟨by rw [chunkK, pIno_of _ h1, h2], pKind_of _ _ _, ?_⟩
  have : pPlace (chunkK n.toNat p.toNat) = ((num [UInt8.ofNat (p.toNat / 256 ^ 3), UInt8.ofNat (p.toNat / 256 ^ 2), UInt8.ofNat (p.toNat / 256 ^ 1), UInt8.ofNat (p.toNat / 256 ^ 0)] : Nat) : Int) := rfl
  rw [this, num_be4 _ q1, q2]
theorem entry_last (n : Nat) (s : List UInt8) (h : s.length ≤ 18) : (entryK n s).getD 23 0 = UInt8.ofNat s.length := by
  have e : entryK n s = (be n 4 ++ 2 :: (s ++ zs (18 - s.length))) ++ [UInt8.ofNat s.length] := by simp [entryK]
  rw [e, List.getD, List.getElem?_append_right (by simp [be_length, zs_length]; omega)]
  have : 23 - (be n 4 ++ 2 :: (s ++ zs (18 - s.length))).length = 0 := by simp [be_length, zs_length]; omega
  rw [this]
  rfl
theorem entry_nm (n : Nat) (s : List UInt8) (h : s.length ≤ 18) : nm (entryK n s) = s := by
  have h1 : nmLen (entryK n s) = s.length := by
    rw [nmLen, entry_last n s h, UInt8.toNat_ofNat']
    omega
  have h2 : (entryK n s).drop 5 = s ++ zs (18 - s.length) ++ [UInt8.ofNat s.length] := rfl
  rw [nm, h1, h2, List.append_assoc, List.take_left']
  rfl
theorem entry_says {n : Int} {s : List UInt8} (h : okN n = true) (hs : okS s = true) : pIno (entryK n.toNat s) = n ∧ pKind (entryK n.toNat s) = 2 ∧ pName (entryK n.toNat s) = s := by
  obtain ⟨h0, h1, h2⟩ := okN_lt h
  have hk : pKind (entryK n.toNat s) = 2 := pKind_of _ _ _
  refine ⟨by rw [entryK, pIno_of _ h1, h2], hk, ?_⟩
  rw [pName, if_pos hk, entry_nm _ _ (okS_out hs).2.1]

/-! Keys that are made say what they are made of. -/
theorem inode_right {n : Int} (h : okN n = true) : right (inodeR n) = true ∧ ofV (inodeR n) = pv n 1 [] 0 := by
  have e : inodeR n = headK n.toNat 1 := by rw [inodeR, if_pos h]
  obtain ⟨h1, h2⟩ := head_says h 1
  have h2 : pKind (headK n.toNat 1) = 1 := h2
  have hN : pName (headK n.toNat 1) = [] := by rw [pName, h2]; rfl
  have hP : pPlace (headK n.toNat 1) = 0 := by rw [pPlace, h2]; rfl
  have hr : right (headK n.toNat 1) = true := by
    rw [right, h1, h2, hN, hP]
    simp [madeB, madeK, h, inodeR]
  rw [e]
  refine ⟨hr, ?_⟩
  rw [ofV, if_pos hr, h1, h2, hN, hP]
theorem entry_right {n : Int} {s : List UInt8} (h : okN n = true) (hs : okS s = true) : right (entryR n s) = true ∧ ofV (entryR n s) = pv n 2 s 0 := by
  have e : entryR n s = entryK n.toNat s := by rw [entryR, h, hs]; rfl
  obtain ⟨h1, h2, h3⟩ := entry_says h hs
  have hP : pPlace (entryK n.toNat s) = 0 := by rw [pPlace, h2]; rfl
  have hr : right (entryK n.toNat s) = true := by
    rw [right, h1, h2, h3, hP]
    simp [madeB, madeK, h, hs, entryR]
  rw [e]
  refine ⟨hr, ?_⟩
  rw [ofV, if_pos hr, h1, h2, h3, hP]
theorem chunk_right {n p : Int} (h : okN n = true) (hp : okP p = true) : right (chunkR n p) = true ∧ ofV (chunkR n p) = pv n 3 [] p := by
  have e : chunkR n p = chunkK n.toNat p.toNat := by rw [chunkR, h, hp]; rfl
  obtain ⟨h1, h2, h3⟩ := chunk_says h hp
  have hN : pName (chunkK n.toNat p.toNat) = [] := by rw [pName, h2]; rfl
  have hr : right (chunkK n.toNat p.toNat) = true := by
    rw [right, h1, h2, h3, hN]
    simp [madeB, madeK, h, hp, chunkR]
  rw [e]
  refine ⟨hr, ?_⟩
  rw [ofV, if_pos hr, h1, h2, h3, hN]

theorem entry_inj {a b : Int} {s t : List UInt8} (ha : okN a = true) (hs : okS s = true) (hb : okN b = true) (ht : okS t = true) : (entryR a s == entryR b t) = (a == b && s == t) := by
  have ea : entryR a s = entryK a.toNat s := by rw [entryR, ha, hs]; rfl
  have eb : entryR b t = entryK b.toNat t := by rw [entryR, hb, ht]; rfl
  obtain ⟨p1, p2, p3⟩ := entry_says ha hs
  obtain ⟨q1, q2, q3⟩ := entry_says hb ht
  rw [Bool.eq_iff_iff]
  simp only [beq_iff_eq, Bool.and_eq_true]
  constructor
  · intro h
    rw [ea, eb] at h
    rw [h] at p1 p3
    exact ⟨p1.symm.trans q1, p3.symm.trans q3⟩
  · rintro ⟨rfl, rfl⟩
    rfl
theorem chunk_inj {a b p q : Int} (ha : okN a = true) (hp : okP p = true) (hb : okN b = true) (hq : okP q = true) : (chunkR a p == chunkR b q) = (a == b && p == q) := by
  have ea : chunkR a p = chunkK a.toNat p.toNat := by rw [chunkR, ha, hp]; rfl
  have eb : chunkR b q = chunkK b.toNat q.toNat := by rw [chunkR, hb, hq]; rfl
  obtain ⟨p1, p2, p3⟩ := chunk_says ha hp
  obtain ⟨q1, q2, q3⟩ := chunk_says hb hq
  rw [Bool.eq_iff_iff]
  simp only [beq_iff_eq, Bool.and_eq_true]
  constructor
  · intro h
    rw [ea, eb] at h
    rw [h] at p1 p3
    exact ⟨p1.symm.trans q1, p3.symm.trans q3⟩
  · rintro ⟨rfl, rfl⟩
    rfl
theorem inode_inj {a b : Int} (ha : okN a = true) (hb : okN b = true) : (inodeR a == inodeR b) = (a == b) := by
  have ea : inodeR a = headK a.toNat 1 := by rw [inodeR, if_pos ha]
  have eb : inodeR b = headK b.toNat 1 := by rw [inodeR, if_pos hb]
  obtain ⟨p1, p2⟩ := head_says ha 1
  obtain ⟨q1, q2⟩ := head_says hb 1
  rw [Bool.eq_iff_iff]
  simp only [beq_iff_eq]
  constructor
  · intro h
    rw [ea, eb] at h
    rw [h] at p1
    exact p1.symm.trans q1
  · rintro rfl
    rfl
theorem kinds_apart {K L : List UInt8} {i j : Int} (hK : pKind K = i) (hL : pKind L = j) (h : i ≠ j) : (K == L) = false := by
  rw [beq_eq_false_iff_ne]
  intro e
  subst e
  exact h (hK.symm.trans hL)
theorem entry_chunk {a b p : Int} {s : List UInt8} (ha : okN a = true) (hs : okS s = true) (hb : okN b = true) (hp : okP p = true) : (entryR a s == chunkR b p) = false := by
  rw [show entryR a s = entryK a.toNat s by rw [entryR, ha, hs]; rfl, show chunkR b p = chunkK b.toNat p.toNat by rw [chunkR, hb, hp]; rfl]
  exact kinds_apart (entry_says ha hs).2.1 (chunk_says hb hp).2.1 (by decide)
theorem entry_inode {a b : Int} {s : List UInt8} (ha : okN a = true) (hs : okS s = true) (hb : okN b = true) : (entryR a s == inodeR b) = false := by
  rw [show entryR a s = entryK a.toNat s by rw [entryR, ha, hs]; rfl, show inodeR b = headK b.toNat 1 by rw [inodeR, if_pos hb]]
  exact kinds_apart (entry_says ha hs).2.1 (head_says hb 1).2 (by decide)
theorem chunk_inode {a b p : Int} (ha : okN a = true) (hp : okP p = true) (hb : okN b = true) : (chunkR a p == inodeR b) = false := by
  rw [show chunkR a p = chunkK a.toNat p.toNat by rw [chunkR, ha, hp]; rfl, show inodeR b = headK b.toNat 1 by rw [inodeR, if_pos hb]]
  exact kinds_apart (chunk_says ha hp).2.1 (head_says hb 1).2 (by decide)
end Go.Proofs.Ytkencjibpljpfaa
