import GoSem.Core.Utf8
/- Names and paths in plain mathematics: characters byte by byte (UTF-8), pieces, names, paths; nothing here speaks of a program. -/
namespace Go.Proofs.YtdmindhjmjnagabGreatDoor
set_option linter.unusedVariables false
set_option maxRecDepth 100000

/-! Characters. -/
/-- A byte that goes on a character. -/
def tlB (b : UInt8) : Bool := decide (128 ≤ b.toNat) && decide (b.toNat < 192)
/-- How many bytes the character has that a text begins with, and which it is; 0: none. -/
def chr (L : List UInt8) : Nat × Nat :=
  match L with
  | [] => (0, 0)
  | a :: r =>
    if a.toNat < 128 then (1, a.toNat)
    else if 192 ≤ a.toNat ∧ a.toNat < 224 then
      match r with
      | b :: _ => if tlB b = true ∧ 128 ≤ (a.toNat - 192) * 64 + (b.toNat - 128) then (2, (a.toNat - 192) * 64 + (b.toNat - 128)) else (0, 0)
      | _ => (0, 0)
    else if 224 ≤ a.toNat ∧ a.toNat < 240 then
      match r with
      | b :: c :: _ => if (tlB b = true ∧ tlB c = true) ∧ 2048 ≤ (a.toNat - 224) * 4096 + (b.toNat - 128) * 64 + (c.toNat - 128) ∧ ((a.toNat - 224) * 4096 + (b.toNat - 128) * 64 + (c.toNat - 128) < 55296 ∨ 57343 < (a.toNat - 224) * 4096 + (b.toNat - 128) * 64 + (c.toNat - 128))
          then (3, (a.toNat - 224) * 4096 + (b.toNat - 128) * 64 + (c.toNat - 128)) else (0, 0)
      | _ => (0, 0)
    else if 240 ≤ a.toNat ∧ a.toNat < 248 then
      match r with
      | b :: c :: d :: _ => if (tlB b = true ∧ tlB c = true ∧ tlB d = true) ∧ 65536 ≤ (a.toNat - 240) * 262144 + (b.toNat - 128) * 4096 + (c.toNat - 128) * 64 + (d.toNat - 128) ∧ (a.toNat - 240) * 262144 + (b.toNat - 128) * 4096 + (c.toNat - 128) * 64 + (d.toNat - 128) ≤ 1114111
          then (4, (a.toNat - 240) * 262144 + (b.toNat - 128) * 4096 + (c.toNat - 128) * 64 + (d.toNat - 128)) else (0, 0)
      | _ => (0, 0)
    else (0, 0)
theorem tlB_iff (b : UInt8) : tlB b = true ↔ 128 ≤ b.toNat ∧ b.toNat < 192 := by simp [tlB]
/-- The ways that a text may begin. -/
theorem chr_cases (L : List UInt8) : chr L = (0, 0)
    ∨ (∃ a r, L = a :: r ∧ a.toNat < 128 ∧ chr L = (1, a.toNat))
    ∨ (∃ a b r, L = a :: b :: r ∧ 192 ≤ a.toNat ∧ a.toNat < 224 ∧ tlB b = true ∧ 128 ≤ (a.toNat - 192) * 64 + (b.toNat - 128) ∧ chr L = (2, (a.toNat - 192) * 64 + (b.toNat - 128)))
    ∨ (∃ a b c r, L = a :: b :: c :: r ∧ 224 ≤ a.toNat ∧ a.toNat < 240 ∧ tlB b = true ∧ tlB c = true ∧ 2048 ≤ (a.toNat - 224) * 4096 + (b.toNat - 128) * 64 + (c.toNat - 128) ∧ ((a.toNat - 224) * 4096 + (b.toNat - 128) * 64 + (c.toNat - 128) < 55296 ∨ 57343 < (a.toNat - 224) * 4096 + (b.toNat - 128) * 64 + (c.toNat - 128)) ∧ chr L = (3, (a.toNat - 224) * 4096 + (b.toNat - 128) * 64 + (c.toNat - 128)))
    ∨ (∃ a b c d r, L = a :: b :: c :: d :: r ∧ 240 ≤ a.toNat ∧ a.toNat < 248 ∧ tlB b = true ∧ tlB c = true ∧ tlB d = true ∧ 65536 ≤ (a.toNat - 240) * 262144 + (b.toNat - 128) * 4096 + (c.toNat - 128) * 64 + (d.toNat - 128) ∧ (a.toNat - 240) * 262144 + (b.toNat - 128) * 4096 + (c.toNat - 128) * 64 + (d.toNat - 128) ≤ 1114111 ∧ chr L = (4, (a.toNat - 240) * 262144 + (b.toNat - 128) * 4096 + (c.toNat - 128) * 64 + (d.toNat - 128))) := by
  rcases L with _ | ⟨a, r⟩
  · exact .inl rfl
  by_cases h1 : a.toNat < 128
  · exact .inr (.inl ⟨a, r, rfl, h1, by simp only [chr, if_pos h1]⟩)
  by_cases h2 : 192 ≤ a.toNat ∧ a.toNat < 224
  · rcases r with _ | ⟨b, r⟩
    · exact .inl (by simp only [chr, if_neg h1, if_pos h2])
    by_cases h : tlB b = true ∧ 128 ≤ (a.toNat - 192) * 64 + (b.toNat - 128)
    · exact .inr (.inr (.inl ⟨a, b, r, rfl, h2.1, h2.2, h.1, h.2, by simp only [chr, if_neg h1, if_pos h2, if_pos h]⟩))
    · exact .inl (by simp only [chr, if_neg h1, if_pos h2, if_neg h])
  by_cases h3 : 224 ≤ a.toNat ∧ a.toNat < 240
  · rcases r with _ | ⟨b, _ | ⟨c, r⟩⟩
    · exact .inl (by simp only [chr, if_neg h1, if_neg h2, if_pos h3])
    · exact .inl (by simp only [chr, if_neg h1, if_neg h2, if_pos h3])
    by_cases h : (tlB b = true ∧ tlB c = true) ∧ 2048 ≤ (a.toNat - 224) * 4096 + (b.toNat - 128) * 64 + (c.toNat - 128) ∧ ((a.toNat - 224) * 4096 + (b.toNat - 128) * 64 + (c.toNat - 128) < 55296 ∨ 57343 < (a.toNat - 224) * 4096 + (b.toNat - 128) * 64 + (c.toNat - 128))
    · exact .inr (.inr (.inr (.inl ⟨a, b, c, r, rfl, h3.1, h3.2, h.1.1, h.1.2, h.2.1, h.2.2, by simp only [chr, if_neg h1, if_neg h2, if_pos h3, if_pos h]⟩)))
    · exact .inl (by simp only [chr, if_neg h1, if_neg h2, if_pos h3, if_neg h])
  by_cases h4 : 240 ≤ a.toNat ∧ a.toNat < 248
  · rcases r with _ | ⟨b, _ | ⟨c, _ | ⟨d, r⟩⟩⟩
    · exact .inl (by simp only [chr, if_neg h1, if_neg h2, if_neg h3, if_pos h4])
    · exact .inl (by simp only [chr, if_neg h1, if_neg h2, if_neg h3, if_pos h4])
    · exact .inl (by simp only [chr, if_neg h1, if_neg h2, if_neg h3, if_pos h4])
    by_cases h : (tlB b = true ∧ tlB c = true ∧ tlB d = true) ∧ 65536 ≤ (a.toNat - 240) * 262144 + (b.toNat - 128) * 4096 + (c.toNat - 128) * 64 + (d.toNat - 128) ∧ (a.toNat - 240) * 262144 + (b.toNat - 128) * 4096 + (c.toNat - 128) * 64 + (d.toNat - 128) ≤ 1114111
    · exact .inr (.inr (.inr (.inr ⟨a, b, c, d, r, rfl, h4.1, h4.2, h.1.1, h.1.2.1, h.1.2.2, h.2.1, h.2.2, by simp only [chr, if_neg h1, if_neg h2, if_neg h3, if_pos h4, if_pos h]⟩)))
    · exact .inl (by simp only [chr, if_neg h1, if_neg h2, if_neg h3, if_pos h4, if_neg h])
  · exact .inl (by simp only [chr, if_neg h1, if_neg h2, if_neg h3, if_neg h4])
/-- A piece: which character (U+FFFD where there is none), how many bytes. -/
def dec (L : List UInt8) : Nat × Nat := if (chr L).1 = 0 then (65533, 1) else ((chr L).2, (chr L).1)
theorem dec_pos (L : List UInt8) : 1 ≤ (dec L).2 := by
  unfold dec; split
  · exact Nat.le_refl _
  · show 1 ≤ (chr L).1; omega
theorem chr_le (L : List UInt8) : (chr L).1 ≤ L.length := by
  rcases chr_cases L with h | ⟨a, r, rfl, _, h⟩ | ⟨a, b, r, rfl, _, _, _, _, h⟩ | ⟨a, b, c, r, rfl, _, _, _, _, _, _, h⟩ | ⟨a, b, c, d, r, rfl, _, _, _, _, _, _, _, h⟩ <;> rw [h] <;> simp
theorem dec_le (L : List UInt8) (h : L ≠ []) : (dec L).2 ≤ L.length := by
  unfold dec; split
  · have := List.length_pos_iff.2 h; show 1 ≤ _; omega
  · exact chr_le L
/-- A character hangs on its own bytes alone. -/
theorem chr_append (A B : List UInt8) (h : (chr A).1 ≠ 0) : chr (A ++ B) = chr A := by
  rcases chr_cases A with h' | ⟨a, r, rfl, h1, h'⟩ | ⟨a, b, r, rfl, h1, h2, h3, h4, h'⟩ | ⟨a, b, c, r, rfl, h1, h2, h3, h4, h5, h6, h'⟩ | ⟨a, b, c, d, r, rfl, h1, h2, h3, h4, h5, h6, h7, h'⟩
  · rw [h'] at h; exact absurd rfl h
  · rw [h']; simp only [List.cons_append, chr, if_pos h1]
  · rw [h']; simp only [List.cons_append, chr, if_neg (show ¬ a.toNat < 128 by omega), if_pos (And.intro h1 h2), if_pos (And.intro h3 h4)]
  · rw [h']; simp only [List.cons_append, chr, if_neg (show ¬ a.toNat < 128 by omega), if_neg (show ¬ (192 ≤ a.toNat ∧ a.toNat < 224) by omega), if_pos (And.intro h1 h2), if_pos (And.intro (And.intro h3 h4) (And.intro h5 h6))]
  · rw [h']; simp only [List.cons_append, chr, if_neg (show ¬ a.toNat < 128 by omega), if_neg (show ¬ (192 ≤ a.toNat ∧ a.toNat < 224) by omega), if_neg (show ¬ (224 ≤ a.toNat ∧ a.toNat < 240) by omega), if_pos (And.intro h1 h2), if_pos (And.intro (And.intro h3 (And.intro h4 h5)) (And.intro h6 h7))]
theorem chr_take (L : List UInt8) (m : Nat) (h : (chr L).1 ≤ m) (h0 : (chr L).1 ≠ 0) : chr (L.take m) = chr L := by
  have key : ∀ k, (chr L).1 = k → chr (L.take k) = chr L := by
    intro k hk
    rcases chr_cases L with h' | ⟨a, r, rfl, h1, h'⟩ | ⟨a, b, r, rfl, h1, h2, h3, h4, h'⟩ | ⟨a, b, c, r, rfl, h1, h2, h3, h4, h5, h6, h'⟩ | ⟨a, b, c, d, r, rfl, h1, h2, h3, h4, h5, h6, h7, h'⟩
    · rw [h'] at h0; exact absurd rfl h0
    · rw [h'] at hk ⊢; subst hk; simp only [List.take_succ_cons, List.take_zero, chr, if_pos h1]
    · rw [h'] at hk ⊢; subst hk; simp only [List.take_succ_cons, List.take_zero, chr, if_neg (show ¬ a.toNat < 128 by omega), if_pos (And.intro h1 h2), if_pos (And.intro h3 h4)]
    · rw [h'] at hk ⊢; subst hk; simp only [List.take_succ_cons, List.take_zero, chr, if_neg (show ¬ a.toNat < 128 by omega), if_neg (show ¬ (192 ≤ a.toNat ∧ a.toNat < 224) by omega), if_pos (And.intro h1 h2), if_pos (And.intro (And.intro h3 h4) (And.intro h5 h6))]
    · rw [h'] at hk ⊢; subst hk; simp only [List.take_succ_cons, List.take_zero, chr, if_neg (show ¬ a.toNat < 128 by omega), if_neg (show ¬ (192 ≤ a.toNat ∧ a.toNat < 224) by omega), if_neg (show ¬ (224 ≤ a.toNat ∧ a.toNat < 240) by omega), if_pos (And.intro h1 h2), if_pos (And.intro (And.intro h3 (And.intro h4 h5)) (And.intro h6 h7))]
  have e : L.take m = L.take (chr L).1 ++ (L.take m).drop (chr L).1 := by
    rw [show L.take (chr L).1 = (L.take m).take (chr L).1 by rw [List.take_take, Nat.min_eq_left h], List.take_append_drop]
  rw [e, chr_append _ _ (by rw [key _ rfl]; exact h0), key _ rfl]
/-- A beginning that takes the first piece whole has the same first piece. -/
theorem dec_take (L : List UInt8) (m : Nat) (h : (dec L).2 ≤ m) : dec (L.take m) = dec L := by
  by_cases h0 : (chr L).1 = 0
  · have hz : (chr (L.take m)).1 = 0 := by
      apply Classical.byContradiction
      intro hne
      have := chr_append (L.take m) (L.drop m) hne
      rw [List.take_append_drop] at this
      rw [← this] at hne
      exact hne h0
    unfold dec; rw [if_pos h0, if_pos hz]
  · have hm : (chr L).1 ≤ m := by unfold dec at h; rw [if_neg h0] at h; exact h
    unfold dec; rw [chr_take L m hm h0]
/-- Behind which a byte below 128 stands. -/
theorem chr_ascii (A B : List UInt8) (c : UInt8) (hA : A ≠ []) (hc : c.toNat < 128) : chr (A ++ c :: B) = chr A := by
  have hnt : tlB c = false := by simp [tlB]; omega
  by_cases h0 : (chr A).1 = 0
  · have hA0 : chr A = (0, 0) := by
      rcases chr_cases A with h' | ⟨a, r, rfl, h1, h'⟩ | ⟨a, b, r, rfl, h1, h2, h3, h4, h'⟩ | ⟨a, b, c, r, rfl, h1, h2, h3, h4, h5, h6, h'⟩ | ⟨a, b, c, d, r, rfl, h1, h2, h3, h4, h5, h6, h7, h'⟩
      · exact h'
      all_goals rw [h'] at h0; cases h0
    rw [hA0]
    apply Classical.byContradiction
    intro hne
    rcases chr_cases (A ++ c :: B) with h' | ⟨a, r, e, h1, h'⟩ | ⟨a, b, r, e, h1, h2, h3, h4, h'⟩ | ⟨a, b, d, r, e, h1, h2, h3, h4, h5, h6, h'⟩ | ⟨a, b, d, f, r, e, h1, h2, h3, h4, h5, h6, h7, h'⟩
    · exact hne h'
    · rcases A with _ | ⟨x, A⟩
      · exact hA rfl
      · simp only [List.cons_append, List.cons.injEq] at e
        obtain ⟨rfl, _⟩ := e
        simp only [chr, if_pos h1] at hA0; cases hA0
    · rcases A with _ | ⟨x, _ | ⟨y, A⟩⟩
      · exact hA rfl
      · simp only [List.cons_append, List.nil_append, List.cons.injEq] at e
        obtain ⟨_, rfl, _⟩ := e
        rw [hnt] at h3; cases h3
      · simp only [List.cons_append, List.cons.injEq] at e
        obtain ⟨rfl, rfl, _⟩ := e
        simp only [chr, if_neg (show ¬ x.toNat < 128 by omega), if_pos (And.intro h1 h2), if_pos (And.intro h3 h4)] at hA0; cases hA0
    · rcases A with _ | ⟨x, _ | ⟨y, _ | ⟨z, A⟩⟩⟩
      · exact hA rfl
      · simp only [List.cons_append, List.nil_append, List.cons.injEq] at e
        obtain ⟨_, rfl, _⟩ := e
        rw [hnt] at h3; cases h3
      · simp only [List.cons_append, List.nil_append, List.cons.injEq] at e
        obtain ⟨_, _, rfl, _⟩ := e
        rw [hnt] at h4; cases h4
      · simp only [List.cons_append, List.cons.injEq] at e
        obtain ⟨rfl, rfl, rfl, _⟩ := e
        simp only [chr, if_neg (show ¬ x.toNat < 128 by omega), if_neg (show ¬ (192 ≤ x.toNat ∧ x.toNat < 224) by omega), if_pos (And.intro h1 h2), if_pos (And.intro (And.intro h3 h4) (And.intro h5 h6))] at hA0; cases hA0
    · rcases A with _ | ⟨x, _ | ⟨y, _ | ⟨z, _ | ⟨u, A⟩⟩⟩⟩
      · exact hA rfl
      · simp only [List.cons_append, List.nil_append, List.cons.injEq] at e
        obtain ⟨_, rfl, _⟩ := e
        rw [hnt] at h3; cases h3
      · simp only [List.cons_append, List.nil_append, List.cons.injEq] at e
        obtain ⟨_, _, rfl, _⟩ := e
        rw [hnt] at h4; cases h4
      · simp only [List.cons_append, List.nil_append, List.cons.injEq] at e
        obtain ⟨_, _, _, rfl, _⟩ := e
        rw [hnt] at h5; cases h5
      · simp only [List.cons_append, List.cons.injEq] at e
        obtain ⟨rfl, rfl, rfl, rfl, _⟩ := e
        simp only [chr, if_neg (show ¬ x.toNat < 128 by omega), if_neg (show ¬ (192 ≤ x.toNat ∧ x.toNat < 224) by omega), if_neg (show ¬ (224 ≤ x.toNat ∧ x.toNat < 240) by omega), if_pos (And.intro h1 h2), if_pos (And.intro (And.intro h3 (And.intro h4 h5)) (And.intro h6 h7))] at hA0; cases hA0
  · exact chr_append A _ h0
theorem dec_ascii (A B : List UInt8) (c : UInt8) (hA : A ≠ []) (hc : c.toNat < 128) : dec (A ++ c :: B) = dec A := by
  unfold dec; rw [chr_ascii A B c hA hc]
/-- What the model's own decoding tells. -/
theorem get_drop (s : ByteArray) (p k : Nat) (x : UInt8) (h : (s.data.toList.drop p)[k]? = some x) : s.get! (p + k) = x ∧ p + k < s.size := by
  rw [List.getElem?_drop] at h
  obtain ⟨hl, rfl⟩ := List.getElem?_eq_some_iff.1 h
  have hs : p + k < s.size := by simpa using hl
  refine ⟨?_, hs⟩
  have hs' : p + k < s.data.size := hs
  show s.data[p + k]! = _
  rw [getElem!_pos s.data (p + k) hs']
  simp
theorem get_none (s : ByteArray) (p k : Nat) (h : (s.data.toList.drop p)[k]? = none) : ¬ p + k < s.size := by
  rw [List.getElem?_drop] at h
  have := List.getElem?_eq_none_iff.1 h
  have e : s.data.toList.length = s.size := by simp
  omega
theorem valid_iff (c : Nat) : Utf8.valid (c : Int) = true ↔ c < 55296 ∨ (57344 ≤ c ∧ c ≤ 1114111) := by
  simp only [Utf8.valid, Bool.or_eq_true, Bool.and_eq_true, decide_eq_true_eq]
  omega
set_option maxHeartbeats 4000000 in
theorem decode_eq (s : ByteArray) (p : Nat) (hp : p < s.size) : Utf8.decode s p = dec (s.data.toList.drop p) := by
  obtain ⟨L, hL⟩ : ∃ L, s.data.toList.drop p = L := ⟨_, rfl⟩
  have hne : L ≠ [] := by
    intro e
    have := congrArg List.length (hL.trans e)
    have e2 : s.data.toList.length = s.size := by simp
    simp only [List.length_drop, List.length_nil] at this
    omega
  have G := fun k x (h : L[k]? = some x) => get_drop s p k x (by rw [hL]; exact h)
  have N := fun k (h : L[k]? = none) => get_none s p k (by rw [hL]; exact h)
  rw [hL]
  rcases L with _ | ⟨a, r⟩
  · exact absurd rfl hne
  have ga : s.get! (p + 0) = a := (G 0 a rfl).1
  have ha := a.toNat_lt
  by_cases h1 : a.toNat < 128
  · simp only [Utf8.decode, ga, h1, if_true, dec, chr, if_false, Nat.one_ne_zero]
  have hb64 : ∀ x : Nat, x < 256 → (x / 64 = 2 ↔ 128 ≤ x ∧ x < 192) := fun x _ => by omega
  rcases r with _ | ⟨b, _ | ⟨c, _ | ⟨d, r⟩⟩⟩
  · have n1 := N 1 rfl
    have n2 := N 2 rfl
    have n3 := N 3 rfl
    simp only [Utf8.decode, ga, h1, n1, n2, n3, if_false, decide_false, Bool.false_and, Bool.and_false, Bool.false_eq_true, dec, chr, Utf8.runeError]
    repeat' split
    all_goals first | omega | (refine Prod.ext ?_ ?_ <;> dsimp only <;> omega)
  · obtain ⟨g1, l1⟩ := G 1 b rfl
    have n2 := N 2 rfl
    have n3 := N 3 rfl
    have hb := b.toNat_lt
    simp only [Utf8.decode, ga, g1, h1, l1, n2, n3, if_false, decide_false, decide_true, Bool.true_and, Bool.false_and, Bool.and_false, Bool.false_eq_true, dec, chr, Utf8.runeError, Bool.and_eq_true, beq_iff_eq, decide_eq_true_eq, ge_iff_le, tlB_iff, hb64 _ hb]
    repeat' split
    all_goals first | omega | (refine Prod.ext ?_ ?_ <;> dsimp only <;> omega)
  · obtain ⟨g1, l1⟩ := G 1 b rfl
    obtain ⟨g2, l2⟩ := G 2 c rfl
    have n3 := N 3 rfl
    have hb := b.toNat_lt
    have hc := c.toNat_lt
    simp only [Utf8.decode, ga, g1, g2, h1, l1, l2, n3, if_false, decide_false, decide_true, Bool.true_and, Bool.false_and, Bool.and_false, Bool.false_eq_true, dec, chr, Utf8.runeError, Bool.and_eq_true, beq_iff_eq, decide_eq_true_eq, ge_iff_le, tlB_iff, hb64 _ hb, hb64 _ hc, valid_iff]
    repeat' split
    all_goals first | omega | (refine Prod.ext ?_ ?_ <;> dsimp only <;> omega)
  · obtain ⟨g1, l1⟩ := G 1 b rfl
    obtain ⟨g2, l2⟩ := G 2 c rfl
    obtain ⟨g3, l3⟩ := G 3 d rfl
    have hb := b.toNat_lt
    have hc := c.toNat_lt
    have hd := d.toNat_lt
    simp only [Utf8.decode, ga, g1, g2, g3, h1, l1, l2, l3, if_false, decide_true, Bool.true_and, dec, chr, Utf8.runeError, Bool.and_eq_true, beq_iff_eq, decide_eq_true_eq, ge_iff_le, tlB_iff, hb64 _ hb, hb64 _ hc, hb64 _ hd, valid_iff]
    repeat' split
    all_goals first | omega | (refine Prod.ext ?_ ?_ <;> dsimp only <;> omega)
end Go.Proofs.YtdmindhjmjnagabGreatDoor
