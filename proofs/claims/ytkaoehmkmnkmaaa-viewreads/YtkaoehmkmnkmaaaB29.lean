import Derived.Test.YtkaoehmkmnkmaaaB28
/- How keys are ordered, and which lie in a span: plain mathematics. -/
namespace Go.Proofs.Ytkaoehmkmnkmaaa
set_option linter.unusedVariables false
set_option maxRecDepth 100000
open Go.RowKit

theorem less_self (l : List UInt8) : Op.bytesLess l l = false := by
  induction l with
  | nil => rfl
  | cons a l ih => rw [Op.bytesLess, ih]; simp
theorem less_app : ∀ (p q x y : List UInt8), p.length = q.length → Op.bytesLess (p ++ x) (q ++ y) = (Op.bytesLess p q || (p == q && Op.bytesLess x y))
  | [], [], x, y, _ => by simp [Op.bytesLess]
  | a :: p, b :: q, x, y, h => by
    have ih := less_app p q x y (by simpa using h)
    rw [List.cons_append, List.cons_append, Op.bytesLess, Op.bytesLess, ih, List.cons_beq_cons]
    cases decide (a < b) <;> cases (a == b) <;> simp
  | [], _ :: _, _, _, h => by simp at h
  | _ :: _, [], _, _, h => by simp at h
theorem less_zs : ∀ (n : Nat) (x : List UInt8), x.length = n → Op.bytesLess x (zs n) = false
  | 0, [], _ => rfl
  | n + 1, a :: x, h => by
    have ih := less_zs n x (by simpa using h)
    have e : zs (n + 1) = 0 :: zs n := rfl
    rw [e, Op.bytesLess, ih]
    simp
  | 0, _ :: _, h => by simp at h
  | _ + 1, [], h => by simp at h
theorem less_tops : ∀ (n : Nat) (x : List UInt8), x.length = n → Op.bytesLess (List.replicate n 255) x = false
  | 0, [], _ => rfl
  | n + 1, a :: x, h => by
    have ih := less_tops n x (by simpa using h)
    have ha : ¬ (255 : UInt8) < a := by
      rw [UInt8.lt_iff_toNat_lt]
      have := a.toNat_lt
      have e : (255 : UInt8).toNat = 255 := rfl
      omega
    rw [List.replicate_succ, Op.bytesLess, ih]
    simp [ha]
  | 0, _ :: _, h => by simp at h
  | _ + 1, [], h => by simp at h
theorem less_tri : ∀ (x y : List UInt8), x.length = y.length → (!Op.bytesLess x y) = (Op.bytesLess y x || x == y)
  | [], [], _ => rfl
  | a :: x, b :: y, h => by
    have ih := less_tri x y (by simpa using h)
    rw [Op.bytesLess, Op.bytesLess, List.cons_beq_cons]
    rcases Nat.lt_trichotomy a.toNat b.toNat with h1 | h1 | h1
    · have h2 : a < b := UInt8.lt_iff_toNat_lt.2 h1
      have h3 : ¬ b < a := fun e => by have := UInt8.lt_iff_toNat_lt.1 e; omega
      have h4 : ¬ a = b := fun e => by subst e; omega
      have h5 : ¬ b = a := fun e => h4 e.symm
      simp [h2, h3, h4, h5]
    · have h2 : a = b := UInt8.toNat_inj.1 h1
      subst h2
      simp [ih]
    · have h2 : b < a := UInt8.lt_iff_toNat_lt.2 h1
      have h3 : ¬ a < b := fun e => by have := UInt8.lt_iff_toNat_lt.1 e; omega
      have h4 : ¬ a = b := fun e => by subst e; omega
      simp [h2, h3, h4]
  | [], _ :: _, h => by simp at h
  | _ :: _, [], h => by simp at h

theorem less_be {i d : Nat} (hi : i < 4294967296) (hd : d < 4294967296) (x y : List UInt8) : Op.bytesLess (be i 4 ++ x) (be d 4 ++ y) = (decide (i < d) || (decide (i = d) && Op.bytesLess x y)) := by
  rw [less_app _ _ _ _ (by rw [be_length, be_length]), be_less 4 i d (by rw [p4]; exact hi) (by rw [p4]; exact hd)]
  have : (be i 4 == be d 4) = decide (i = d) := by
    rw [Bool.eq_iff_iff, beq_iff_eq, decide_eq_true_iff]
    exact be_inj (by rw [p4]; exact hi) (by rw [p4]; exact hd)
  rw [this]

/-- Names that are filled up with noughts are ordered as they were. -/
theorem less_names : ∀ (s t : List UInt8) (n m : Nat) (x y : UInt8), (0 : UInt8) ∉ s → (0 : UInt8) ∉ t → s.length + n = t.length + m → (s.length = t.length → x = y) → Op.bytesLess (s ++ zs n ++ [x]) (t ++ zs m ++ [y]) = Op.bytesLess s t
  | [], [], n, m, x, y, _, _, h, hx => by
    have e : n = m := by simpa using h
    subst e
    have := hx rfl
    subst this
    rw [less_self]
    rfl
  | [], b :: t, n, m, x, y, _, ht, h, _ => by
    obtain ⟨k, rfl⟩ : ∃ k, n = k + 1 := ⟨n - 1, by simp at h; omega⟩
    have hb : (0 : UInt8) < b := by
      rw [UInt8.lt_iff_toNat_lt]
      have h0 : b ≠ 0 := fun e => ht (by simp [e])
      have : b.toNat ≠ 0 := fun e => h0 (UInt8.toNat_inj.1 e)
      have e0 : (0 : UInt8).toNat = 0 := rfl
      omega
    show Op.bytesLess (0 :: _) (b :: _) = true
    rw [Op.bytesLess]
    simp [hb]
  | a :: s, [], n, m, x, y, hs, _, h, _ => by
    obtain ⟨k, rfl⟩ : ∃ k, m = k + 1 := ⟨m - 1, by simp at h; omega⟩
    have ha : a ≠ 0 := fun e => hs (by simp [e])
    have h0 : ¬ a < 0 := fun e => by have := UInt8.lt_iff_toNat_lt.1 e; have e0 : (0 : UInt8).toNat = 0 := rfl; omega
    show Op.bytesLess (a :: _) (0 :: _) = false
    rw [Op.bytesLess]
    simp [ha, h0]
  | a :: s, b :: t, n, m, x, y, hs, ht, h, hx => by
    have ih := less_names s t n m x y (fun e => hs (by simp [e])) (fun e => ht (by simp [e])) (by simp at h; omega) (fun e => hx (by simp [e]))
    show Op.bytesLess (a :: (s ++ zs n ++ [x])) (b :: (t ++ zs m ++ [y])) = Op.bytesLess (a :: s) (b :: t)
    rw [Op.bytesLess, Op.bytesLess, ih]

theorem entry_less {n : Int} {s t : List UInt8} (hn : okN n = true) (hs : okS s = true) (ht : okS t = true) : Op.bytesLess (entryR n s) (entryR n t) = Op.bytesLess s t := by
  obtain ⟨h0, h1, h2⟩ := okN_lt hn
  obtain ⟨s1, s2, s3⟩ := okS_out hs
  obtain ⟨t1, t2, t3⟩ := okS_out ht
  rw [show entryR n s = entryK n.toNat s by rw [entryR, hn, hs]; rfl, show entryR n t = entryK n.toNat t by rw [entryR, hn, ht]; rfl, entryK, entryK, less_be h1 h1, Op.bytesLess, less_names s t _ _ _ _ s3 t3 (by omega) (fun e => by rw [e])]
  simp
theorem chunk_less {n m p q : Int} (hn : okN n = true) (hm : okN m = true) (hp : okP p = true) (hq : okP q = true) : Op.bytesLess (chunkR n p) (chunkR m q) = (decide (n < m) || (decide (n = m) && decide (p < q))) := by
  obtain ⟨h0, h1, h2⟩ := okN_lt hn
  obtain ⟨m0, m1, m2⟩ := okN_lt hm
  obtain ⟨p0, p1, p2⟩ := okP_lt hp
  obtain ⟨q0, q1, q2⟩ := okP_lt hq
  have e : Op.bytesLess (be p.toNat 4) (be q.toNat 4) = decide (p < q) := by
    rw [be_less 4 _ _ (by rw [p4]; exact p1) (by rw [p4]; exact q1), decide_eq_decide]
    omega
  rw [show chunkR n p = chunkK n.toNat p.toNat by rw [chunkR, hn, hp]; rfl, show chunkR m q = chunkK m.toNat q.toNat by rw [chunkR, hm, hq]; rfl, chunkK, chunkK, less_be h1 m1, Op.bytesLess, less_app _ _ _ _ rfl, e, less_self]
  rw [show decide (n.toNat < m.toNat) = decide (n < m) by rw [decide_eq_decide]; omega, show decide (n.toNat = m.toNat) = decide (n = m) by rw [decide_eq_decide]; omega]
  simp
theorem inode_entry {n : Int} {s : List UInt8} (hn : okN n = true) (hs : okS s = true) : Op.bytesLess (inodeR n) (entryR n s) = true := by
  obtain ⟨h0, h1, h2⟩ := okN_lt hn
  rw [show inodeR n = headK n.toNat 1 by rw [inodeR, if_pos hn], show entryR n s = entryK n.toNat s by rw [entryR, hn, hs]; rfl, headK, entryK, less_be h1 h1, Op.bytesLess]
  simp
theorem entry_before {n p : Int} {s : List UInt8} (hn : okN n = true) (hs : okS s = true) (hp : okP p = true) : Op.bytesLess (entryR n s) (chunkR n p) = true := by
  obtain ⟨h0, h1, h2⟩ := okN_lt hn
  rw [show entryR n s = entryK n.toNat s by rw [entryR, hn, hs]; rfl, show chunkR n p = chunkK n.toNat p.toNat by rw [chunkR, hn, hp]; rfl, chunkK, entryK, less_be h1 h1, Op.bytesLess]
  simp

/-! Of two keys the one behind a key. -/
theorem nxt_tells (L : List UInt8) (hL : L.length = 24) : ∀ (i : Nat) (K : List UInt8), i ≤ 24 → K.length = 24 → K.drop i = zs (24 - i) →
    ((nxt K i).2 = true → Op.bytesLess L (nxt K i).1 = !Op.bytesLess (K.take i ++ List.replicate (24 - i) 255) L) ∧ ((nxt K i).2 = false → Op.bytesLess (K.take i ++ List.replicate (24 - i) 255) L = false)
  | 0, K, _, hK, _ => by
    refine ⟨fun h => (by cases h), fun _ => ?_⟩
    rw [List.take_zero, List.nil_append]
    exact less_tops 24 L hL
  | i + 1, K, hi, hK, hz => by
    have hlt : i < K.length := by omega
    have hg : K.getD i 0 = K[i] := by rw [List.getD_eq_getElem?_getD, List.getElem?_eq_getElem hlt]; rfl
    have hst : ∀ x, K.set i x = K.take i ++ x :: zs (24 - (i + 1)) := fun x => by
      rw [← hz, List.set_eq_take_append_cons_drop, if_pos hlt]
    have htk : K.take (i + 1) = K.take i ++ [K[i]] := List.take_succ_eq_append_getElem hlt
    have hl : (K.take i).length = i := by simp; omega
    rw [nxt]
    split
    · rename_i hx
      rw [hg] at hx
      have hx := u8_back hx
      have ih := nxt_tells L hL i (K.set i 0) (by omega) (by simpa using hK) (by
        rw [hst, List.drop_append_of_le_length (by omega), List.drop_of_length_le (by omega), List.nil_append, show 24 - i = (24 - (i + 1)) + 1 by omega]
        rfl)
      have e : (K.set i 0).take i ++ List.replicate (24 - i) 255 = K.take (i + 1) ++ List.replicate (24 - (i + 1)) 255 := by
        rw [hst, List.take_append_of_le_length (by omega), List.take_take, Nat.min_self, htk, hx, show 24 - i = (24 - (i + 1)) + 1 by omega, List.replicate_succ]
        simp
      rw [e] at ih
      exact ih
    · rename_i hx
      rw [hg] at hx ⊢
      refine ⟨fun _ => ?_, fun h => (by cases h)⟩
      have hLs : L = L.take i ++ L[i]'(by omega) :: L.drop (i + 1) := by
        rw [← List.drop_eq_getElem_cons, List.take_append_drop]
      have hLl : (L.take i).length = i := by simp; omega
      have hr1 : (L.drop (i + 1)).length = 24 - (i + 1) := by rw [List.length_drop, hL]
      have hp := u8_plus hx
      have hlx := u8_less hx
      generalize L[i]'(by omega) = y at hLs
      generalize L.drop (i + 1) = R at hLs hr1
      generalize L.take i = P at hLs hLl
      subst hLs
      rw [hst, htk, List.append_assoc, less_app _ _ _ _ (by rw [hl, hLl]), less_app _ _ _ _ (by rw [hl, hLl]), List.singleton_append, Op.bytesLess, Op.bytesLess, less_zs _ R hr1, less_tops _ R hr1]
      have ht := less_tri (K.take i) P (by rw [hl, hLl])
      have hy := y.toNat_lt
      have e1 : decide (y < K[i] + 1) = !decide (K[i] < y) := by
        rw [Bool.eq_iff_iff]
        simp only [Bool.not_eq_true', decide_eq_true_eq, decide_eq_false_iff_not, UInt8.lt_iff_toNat_lt]
        omega
      rw [e1]
      by_cases hPP : K.take i = P
      · subst hPP
        simp [less_self]
      · have hPP' : ¬ P = K.take i := fun e => hPP e.symm
        have e2 : (K.take i == P) = false := by simpa using hPP
        have e3 : (P == K.take i) = false := by simpa using hPP'
        rw [e2, Bool.or_false] at ht
        rw [e2, e3, ← ht]
        simp

theorem one_in (K L : List UInt8) (hK : K.length = 24) (hL : L.length = 24) : inS K (oneT K) (oneE K) L = (K == L) := by
  have h := nxt_tells L hL 24 K (Nat.le_refl _) hK (by rw [List.drop_of_length_le (by omega)]; rfl)
  rw [List.take_of_length_le (by omega), show 24 - 24 = 0 from rfl, List.replicate_zero, List.append_nil] at h
  have ht := less_tri L K (by rw [hK, hL])
  have ht' := less_tri K L (by rw [hK, hL])
  rw [inS, oneE, oneT]
  cases hn : (nxt K 24).2 with
  | true =>
    rw [h.1 hn]
    by_cases hKL : K = L
    · subst hKL
      simp [less_self]
    · have e1 : (K == L) = false := by simpa using hKL
      have e2 : (L == K) = false := by simpa using fun e : L = K => hKL e.symm
      rw [e1] at ht' ⊢
      rw [e2] at ht
      simp at ht ht' ⊢
      rw [ht]
      simp
  | false =>
    rw [h.2 hn] at ht
    by_cases hKL : K = L
    · subst hKL
      simp [less_self]
    · have e1 : (K == L) = false := by simpa using hKL
      have e2 : (L == K) = false := by simpa using fun e : L = K => hKL e.symm
      rw [e1]
      rw [e2] at ht
      simp at ht
      simp [ht]
end Go.Proofs.Ytkaoehmkmnkmaaa
