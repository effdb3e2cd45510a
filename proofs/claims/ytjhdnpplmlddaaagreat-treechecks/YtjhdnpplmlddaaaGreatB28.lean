import Derived.Test.YtjhdnpplmlddaaaGreatB01
/- How items are shared out evenly to as few lists as have room for them (tree's share): plain mathematics, for stage 7. -/
namespace Go.Proofs.YtjhdnpplmlddaaaGreat
set_option linter.unusedVariables false

section
variable {α : Type}
/-- The i-th of n parts. -/
def partOf (l : List α) (n i : Nat) : List α := (l.drop (l.length * i / n)).take (l.length * (i + 1) / n - l.length * i / n)
def shareP (l : List α) (most : Nat) : List (List α) := (List.range ((l.length + most - 1) / most)).map (partOf l ((l.length + most - 1) / most))
theorem share_length (l : List α) (most : Nat) : (shareP l most).length = (l.length + most - 1) / most := by simp [shareP]
theorem place_le (len n i : Nat) (hi : i ≤ n) (hn : 0 < n) : len * i / n ≤ len := by
  apply Nat.div_le_of_le_mul
  rw [Nat.mul_comm n len]
  exact Nat.mul_le_mul_left _ hi
theorem place_mono (len n i : Nat) : len * i / n ≤ len * (i + 1) / n := Nat.div_le_div_right (Nat.mul_le_mul_left _ (Nat.le_succ i))
/-- The first k parts together. -/
theorem parts_take (l : List α) (n : Nat) (hn : 0 < n) : ∀ k, k ≤ n → ((List.range k).map (partOf l n)).flatten = l.take (l.length * k / n)
  | 0, _ => by simp
  | k + 1, hk => by
    rw [List.range_succ, List.map_append, List.flatten_append, parts_take l n hn k (by omega)]
    have h1 := place_mono l.length n k
    simp only [List.map_cons, List.map_nil, List.flatten_cons, List.flatten_nil, List.append_nil, partOf]
    conv => rhs; rw [show l.length * (k + 1) / n = l.length * k / n + (l.length * (k + 1) / n - l.length * k / n) by omega]
    rw [List.take_add]
theorem share_flat (l : List α) (most : Nat) (hm : 0 < most) : (shareP l most).flatten = l := by
  unfold shareP
  by_cases hl : l.length = 0
  · rw [List.eq_nil_of_length_eq_zero hl]
    have : (([] : List α).length + most - 1) / most = 0 := by
      simp only [List.length_nil, Nat.zero_add]
      exact Nat.div_eq_of_lt (by omega)
    rw [this]; rfl
  · have hn : 0 < (l.length + most - 1) / most := Nat.div_pos (by omega) hm
    rw [parts_take l _ hn _ (Nat.le_refl _), Nat.mul_div_cancel _ hn, List.take_length]
theorem part_length (l : List α) (n i : Nat) (hi : i < n) : (partOf l n i).length = l.length * (i + 1) / n - l.length * i / n := by
  have h1 := place_le l.length n (i + 1) (by omega) (by omega)
  have h2 := place_mono l.length n i
  simp only [partOf, List.length_take, List.length_drop]
  omega
/-- A part has the quotient, or one more. -/
theorem part_bounds (len n i : Nat) (hn : 0 < n) : len / n ≤ len * (i + 1) / n - len * i / n ∧ len * (i + 1) / n - len * i / n ≤ (len + n - 1) / n := by
  have h1 := place_mono len n i
  have e : len * (i + 1) = len * i + len := by rw [Nat.mul_add, Nat.mul_one]
  obtain ⟨x, hx⟩ : ∃ x, len * i = x := ⟨_, rfl⟩
  rw [e, hx] at *
  have a1 := Nat.div_add_mod x n
  have a2 := Nat.mod_lt x hn
  have b1 := Nat.div_add_mod len n
  have b2 := Nat.mod_lt len hn
  have c1 := Nat.div_add_mod (x + len) n
  have c2 := Nat.mod_lt (x + len) hn
  have d1 := Nat.div_add_mod (len + n - 1) n
  have d2 := Nat.mod_lt (len + n - 1) hn
  generalize x / n = X at *
  generalize len / n = Q at *
  generalize (x + len) / n = Y at *
  generalize (len + n - 1) / n = C at *
  generalize x % n = rx at *
  generalize len % n = rl at *
  generalize (x + len) % n = ry at *
  generalize (len + n - 1) % n = rc at *
  have k1 : X + Q ≤ Y := by
    apply Nat.le_of_lt_succ
    apply Nat.lt_of_mul_lt_mul_left (a := n)
    rw [Nat.mul_add n X Q, Nat.mul_succ]
    omega
  have k2 : Y ≤ X + C := by
    apply Nat.le_of_lt_succ
    apply Nat.lt_of_mul_lt_mul_left (a := n)
    rw [Nat.mul_succ, Nat.mul_add n X C]
    omega
  omega
theorem share_mem (l : List α) (most : Nat) (p : List α) (hp : p ∈ shareP l most) : ∃ i, i < (l.length + most - 1) / most ∧ p = partOf l ((l.length + most - 1) / most) i := by
  simp only [shareP, List.mem_map, List.mem_range] at hp
  obtain ⟨i, hi, rfl⟩ := hp
  exact ⟨i, hi, rfl⟩
theorem share_most (l : List α) (most : Nat) (hm : 0 < most) (p : List α) (hp : p ∈ shareP l most) : p.length ≤ most := by
  obtain ⟨i, hi, rfl⟩ := share_mem l most p hp
  obtain ⟨n, hn⟩ : ∃ n, (l.length + most - 1) / most = n := ⟨_, rfl⟩
  rw [hn] at hi ⊢
  have hn0 : 0 < n := by omega
  rw [part_length l n i hi]
  refine Nat.le_trans (part_bounds l.length n i hn0).2 ?_
  have h1 := Nat.div_add_mod (l.length + most - 1) most
  have h2 := Nat.mod_lt (l.length + most - 1) hm
  rw [hn] at h1
  apply Nat.le_of_lt_succ
  apply Nat.div_lt_of_lt_mul
  have e : n * (most + 1) = most * n + n := by rw [Nat.mul_add, Nat.mul_one, Nat.mul_comm]
  show l.length + n - 1 < n * (most + 1)
  rw [e]
  omega
/-- Of several each is at least half full. -/
theorem share_half (l : List α) (most : Nat) (hm : 0 < most) (h2 : 2 ≤ (shareP l most).length) (p : List α) (hp : p ∈ shareP l most) : (most + 1) / 2 ≤ p.length := by
  obtain ⟨i, hi, rfl⟩ := share_mem l most p hp
  rw [share_length] at h2
  obtain ⟨n, hn⟩ : ∃ n, (l.length + most - 1) / most = n := ⟨_, rfl⟩
  rw [hn] at hi h2 ⊢
  rw [part_length l n i hi]
  refine Nat.le_trans ?_ (part_bounds l.length n i (by omega)).1
  have h1 := Nat.div_add_mod (l.length + most - 1) most
  have h3 := Nat.mod_lt (l.length + most - 1) hm
  rw [hn] at h1
  rw [Nat.le_div_iff_mul_le (by omega)]
  obtain ⟨k, rfl⟩ : ∃ k, n = k + 2 := ⟨n - 2, by omega⟩
  have e1 : most * (k + 2) = most * k + most * 2 := Nat.mul_add _ _ _
  have hh : (most + 1) / 2 ≤ most := by omega
  have e2 : (most + 1) / 2 * (k + 2) = (most + 1) / 2 * k + (most + 1) / 2 * 2 := Nat.mul_add _ _ _
  have e3 : (most + 1) / 2 * k ≤ most * k := Nat.mul_le_mul_right _ hh
  omega
theorem share_pos (l : List α) (most : Nat) (hm : 0 < most) (p : List α) (hp : p ∈ shareP l most) : p ≠ [] := by
  by_cases h2 : 2 ≤ (shareP l most).length
  · have := share_half l most hm h2 p hp
    intro e
    rw [e] at this
    simp at this
    omega
  · have h1 : (shareP l most).length = 1 := by have := List.length_pos_of_mem hp; omega
    obtain ⟨q, hq⟩ := List.length_eq_one_iff.1 h1
    have hf := share_flat l most hm
    rw [hq] at hf hp
    simp at hf hp
    subst hp
    rw [share_length] at h1
    intro e
    rw [e] at hf
    rw [← hf] at h1
    simp only [List.length_nil, Nat.zero_add] at h1
    rw [Nat.div_eq_of_lt (by omega)] at h1
    cases h1
theorem share_nil (most : Nat) (hm : 0 < most) : shareP ([] : List α) most = [] := by
  apply List.eq_nil_of_length_eq_zero
  rw [share_length, List.length_nil, Nat.zero_add]
  exact Nat.div_eq_of_lt (by omega)
theorem share_one (l : List α) (most : Nat) (hl : l ≠ []) (h : l.length ≤ most) : shareP l most = [l] := by
  have hp := List.length_pos_iff.2 hl
  have hm : 0 < most := by omega
  have h1 : (shareP l most).length = 1 := by
    rw [share_length]
    apply Nat.div_eq_of_lt_le
    · omega
    · omega
  obtain ⟨q, hq⟩ := List.length_eq_one_iff.1 h1
  have hf := share_flat l most hm
  rw [hq] at hf ⊢
  simp at hf
  rw [hf]
/-- How many lists. -/
theorem share_count (l : List α) (most : Nat) (hm : 0 < most) : l.length ≤ most * (shareP l most).length ∧ (shareP l most).length * most < l.length + most := by
  rw [share_length]
  have h1 := Nat.div_add_mod (l.length + most - 1) most
  have h2 := Nat.mod_lt (l.length + most - 1) hm
  generalize (l.length + most - 1) / most = n at *
  have e : n * most = most * n := Nat.mul_comm _ _
  rw [e]
  omega
end
end Go.Proofs.YtjhdnpplmlddaaaGreat
/- Pieces of a tree that is planned (tree's leaves, inners, open, join, mend): what they mean, and that their shapes are right: plain mathematics, for stage 7. -/
namespace Go.Proofs.YtjhdnpplmlddaaaGreat
set_option linter.unusedVariables false

/-- A block that stays, or a node that is still to be laid: its first key, and what it has. -/
inductive Pc (π : Type) where
  | stay (f n : Int)
  | leaf (f : Int) (ps : List π)
  | inner (f : Int) (ks : List (Pc π))
section
variable {π : Type} (kp : π → Int)
/-- What blocks hold: pairs, or kids (first key, block). -/
abbrev Store (π : Type) := Int → Option (List π ⊕ List (Int × Int))
def hd (L : List π) : Option Int := L.head?.map kp
def Pc.first : Pc π → Int
  | .stay f _ => f
  | .leaf f _ => f
  | .inner f _ => f
def Pc.lacks : Pc π → Bool
  | .stay _ _ => false
  | .leaf _ ps => decide (ps.length < 3)
  | .inner _ ks => decide (ks.length < 9)
/-- A block of this level that is no root: right, and with these pairs. -/
def BlkOk (g : Store π) : Nat → Int → List π → Prop
  | 0, n, L => g n = some (.inl L) ∧ 3 ≤ L.length ∧ L.length ≤ 7
  | k + 1, n, L => ∃ M : List ((Int × Int) × List π), g n = some (.inr (M.map (·.1))) ∧ (M.map (·.2)).flatten = L ∧ (∀ m ∈ M, BlkOk g k m.1.2 m.2 ∧ hd kp m.2 = some m.1.1) ∧ 9 ≤ M.length ∧ M.length ≤ 18
/-- A piece of this level, with these pairs. -/
def OkP (g : Store π) : Nat → Pc π → List π → Prop
  | 0, .stay f n, L => BlkOk kp g 0 n L ∧ hd kp L = some f
  | 0, .leaf f ps, L => ps = L ∧ 1 ≤ ps.length ∧ ps.length ≤ 7 ∧ hd kp L = some f
  | 0, .inner _ _, _ => False
  | k + 1, .stay f n, L => BlkOk kp g (k + 1) n L ∧ hd kp L = some f
  | _ + 1, .leaf _ _, _ => False
  | k + 1, .inner f ks, L => ∃ M : List (Pc π × List π), M.map (·.1) = ks ∧ (M.map (·.2)).flatten = L ∧ (∀ m ∈ M, OkP g k m.1 m.2) ∧ 1 ≤ ks.length ∧ ks.length ≤ 18 ∧ hd kp L = some f ∧ (2 ≤ ks.length → ∀ p ∈ ks, p.lacks = false)
/-- Pieces behind one another, with these pairs. -/
def Loose (g : Store π) (k : Nat) (row : List (Pc π)) (L : List π) : Prop := ∃ M : List (Pc π × List π), M.map (·.1) = row ∧ (M.map (·.2)).flatten = L ∧ ∀ m ∈ M, OkP kp g k m.1 m.2
/-- Of which one lacks something only if it is alone. -/
def Row (g : Store π) (k : Nat) (row : List (Pc π)) (L : List π) : Prop := Loose kp g k row L ∧ (2 ≤ row.length → ∀ p ∈ row, p.lacks = false)

theorem loose_nil (g : Store π) (k : Nat) : Loose kp g k [] [] := ⟨[], rfl, rfl, fun m hm => by cases hm⟩
theorem loose_one {g : Store π} {k : Nat} {p : Pc π} {L : List π} (h : OkP kp g k p L) : Loose kp g k [p] L := ⟨[(p, L)], rfl, by simp, fun m hm => by simp at hm; subst hm; exact h⟩
theorem loose_append {g : Store π} {k : Nat} {a b : List (Pc π)} {A B : List π} (h1 : Loose kp g k a A) (h2 : Loose kp g k b B) : Loose kp g k (a ++ b) (A ++ B) := by
  obtain ⟨M, e1, e2, e3⟩ := h1
  obtain ⟨N, f1, f2, f3⟩ := h2
  refine ⟨M ++ N, by rw [List.map_append, e1, f1], by rw [List.map_append, List.flatten_append, e2, f2], fun m hm => ?_⟩
  rcases List.mem_append.1 hm with h | h
  · exact e3 m h
  · exact f3 m h
theorem loose_split {g : Store π} {k : Nat} {a b : List (Pc π)} {L : List π} (h : Loose kp g k (a ++ b) L) : ∃ A B, L = A ++ B ∧ Loose kp g k a A ∧ Loose kp g k b B := by
  obtain ⟨M, e1, e2, e3⟩ := h
  have hl : a.length ≤ M.length := by have := congrArg List.length e1; simp at this; omega
  refine ⟨((M.take a.length).map (·.2)).flatten, ((M.drop a.length).map (·.2)).flatten, ?_, ⟨M.take a.length, ?_, rfl, fun m hm => e3 m (List.mem_of_mem_take hm)⟩, ⟨M.drop a.length, ?_, rfl, fun m hm => e3 m (List.mem_of_mem_drop hm)⟩⟩
  · rw [← List.flatten_append, ← List.map_append, List.take_append_drop, e2]
  · rw [List.map_take, e1, List.take_left]
  · rw [List.map_drop, e1, List.drop_left]
theorem okP_hd {g : Store π} : ∀ {k : Nat} {p : Pc π} {L : List π}, OkP kp g k p L → hd kp L = some p.first
  | 0, .stay _ _, _, h => h.2
  | 0, .leaf _ _, _, h => h.2.2.2
  | 0, .inner _ _, _, h => h.elim
  | _ + 1, .stay _ _, _, h => h.2
  | _ + 1, .leaf _ _, _, h => h.elim
  | _ + 1, .inner _ _, _, h => by obtain ⟨_, _, _, _, _, _, h, _⟩ := h; exact h
theorem okP_ne {g : Store π} {k : Nat} {p : Pc π} {L : List π} (h : OkP kp g k p L) : L ≠ [] := fun e => by
  have := okP_hd kp h
  rw [e] at this
  cases this
theorem hd_append {A B : List π} (h : A ≠ []) : hd kp (A ++ B) = hd kp A := by
  cases A with
  | nil => exact absurd rfl h
  | cons a r => rfl

/-! leaves, inners. -/
def fstK (L : List π) : Int := (hd kp L).getD 0
def leavesP (ps : List π) : List (Pc π) := (shareP ps 7).map fun l => .leaf (fstK kp l) l
def fstP (l : List (Pc π)) : Int := (l.head?.map Pc.first).getD 0
def innersP (ks : List (Pc π)) : List (Pc π) := (shareP ks 18).map fun l => .inner (fstP l) l
theorem hd_some {L : List π} (h : L ≠ []) : hd kp L = some (fstK kp L) := by
  cases L with
  | nil => exact absurd rfl h
  | cons a r => rfl
theorem leaves_row (g : Store π) (ps : List π) : Row kp g 0 (leavesP kp ps) ps ∧ (4 ≤ ps.length → ∀ p ∈ leavesP kp ps, p.lacks = false) ∧ (ps ≠ [] → leavesP kp ps ≠ []) := by
  have hmem : ∀ l ∈ shareP ps 7, OkP kp g 0 (.leaf (fstK kp l) l) l := fun l hl => by
    have h1 := share_pos ps 7 (by decide) l hl
    exact ⟨rfl, List.length_pos_iff.2 h1, share_most ps 7 (by decide) l hl, hd_some kp h1⟩
  refine ⟨⟨⟨(shareP ps 7).map fun l => (.leaf (fstK kp l) l, l), ?_, ?_, ?_⟩, ?_⟩, ?_, ?_⟩
  · simp [leavesP, List.map_map, Function.comp_def]
  · rw [List.map_map]
    show ((shareP ps 7).map fun l => l).flatten = ps
    rw [List.map_id']
    exact share_flat ps 7 (by decide)
  · intro m hm
    obtain ⟨l, hl, rfl⟩ := List.mem_map.1 hm
    exact hmem l hl
  · intro h2 p hp
    obtain ⟨l, hl, rfl⟩ := List.mem_map.1 hp
    have := share_half ps 7 (by decide) (by simpa [leavesP] using h2) l hl
    simp only [Pc.lacks, decide_eq_false_iff_not]
    omega
  · intro h4 p hp
    obtain ⟨l, hl, rfl⟩ := List.mem_map.1 hp
    simp only [Pc.lacks, decide_eq_false_iff_not]
    by_cases h2 : 2 ≤ (shareP ps 7).length
    · have := share_half ps 7 (by decide) h2 l hl
      omega
    · have h1 : (shareP ps 7).length = 1 := by have := List.length_pos_of_mem hl; omega
      obtain ⟨q, hq⟩ := List.length_eq_one_iff.1 h1
      have hf := share_flat ps 7 (by decide)
      rw [hq] at hf hl
      simp at hf hl
      subst hl
      rw [hf]
      omega
  · intro hne e
    have hf := share_flat ps 7 (by decide)
    have : shareP ps 7 = [] := by simpa [leavesP] using e
    rw [this] at hf
    exact hne hf.symm
/-- Rows cut by share have their meanings cut alike. -/
theorem loose_parts {g : Store π} {k : Nat} : ∀ (parts : List (List (Pc π))) (L : List π), Loose kp g k parts.flatten L → ∃ M : List (List (Pc π) × List π), M.map (·.1) = parts ∧ (M.map (·.2)).flatten = L ∧ ∀ m ∈ M, Loose kp g k m.1 m.2
  | [], L, h => by
    obtain ⟨M, e1, e2, _⟩ := h
    have : M = [] := by simpa using e1
    subst this
    exact ⟨[], rfl, e2, fun m hm => by cases hm⟩
  | p :: r, L, h => by
    rw [List.flatten_cons] at h
    obtain ⟨A, B, rfl, hA, hB⟩ := loose_split kp h
    obtain ⟨M, e1, e2, e3⟩ := loose_parts r B hB
    refine ⟨(p, A) :: M, by simp [e1], by simp [e2], fun m hm => ?_⟩
    rcases List.mem_cons.1 hm with rfl | h
    · exact hA
    · exact e3 m h
theorem loose_hd {g : Store π} {k : Nat} {row : List (Pc π)} {L : List π} (h : Loose kp g k row L) (hne : row ≠ []) : hd kp L = some (fstP row) ∧ L ≠ [] := by
  obtain ⟨M, e1, e2, e3⟩ := h
  cases M with
  | nil => exact absurd e1.symm hne
  | cons m M =>
    subst e1 e2
    have hm := e3 m (by simp)
    have h1 := okP_hd kp hm
    have h2 := okP_ne kp hm
    simp only [List.map_cons, List.flatten_cons]
    rw [hd_append kp h2, h1]
    exact ⟨rfl, by simp [h2]⟩
theorem inners_row {g : Store π} {k : Nat} {ks : List (Pc π)} {L : List π} (h : Row kp g k ks L) : Row kp g (k + 1) (innersP ks) L ∧ (9 ≤ ks.length → ∀ p ∈ innersP ks, p.lacks = false) ∧ (ks ≠ [] → innersP ks ≠ []) := by
  have hf := share_flat ks 18 (by decide)
  have hL := h.1
  rw [← hf] at hL
  obtain ⟨M, e1, e2, e3⟩ := loose_parts kp _ _ hL
  have hok : ∀ m ∈ M, OkP kp g (k + 1) (.inner (fstP m.1) m.1) m.2 := fun m hm => by
    have hs : m.1 ∈ shareP ks 18 := by rw [← e1]; exact List.mem_map_of_mem hm
    have hpos := share_pos ks 18 (by decide) _ hs
    obtain ⟨N, n1, n2, n3⟩ := e3 m hm
    refine ⟨N, n1, n2, n3, List.length_pos_iff.2 hpos, share_most ks 18 (by decide) _ hs, (loose_hd kp (e3 m hm) hpos).1, fun h2 p hp => ?_⟩
    have hsub : ∀ q ∈ m.1, q ∈ ks := fun q hq => by rw [← hf]; exact List.mem_flatten.2 ⟨m.1, hs, hq⟩
    have hlen : m.1.length ≤ ks.length := by
      rw [← hf]
      exact (List.sublist_flatten_of_mem hs).length_le
    exact h.2 (by omega) p (hsub p hp)
  refine ⟨⟨⟨M.map fun m => (.inner (fstP m.1) m.1, m.2), ?_, ?_, ?_⟩, ?_⟩, ?_, ?_⟩
  · rw [List.map_map, innersP, ← e1, List.map_map]
    rfl
  · rw [List.map_map]
    exact e2
  · intro q hq
    obtain ⟨m, hm, rfl⟩ := List.mem_map.1 hq
    exact hok m hm
  · intro h2 p hp
    obtain ⟨l, hl, rfl⟩ := List.mem_map.1 hp
    have := share_half ks 18 (by decide) (by simpa [innersP] using h2) l hl
    simp only [Pc.lacks, decide_eq_false_iff_not]
    omega
  · intro h9 p hp
    obtain ⟨l, hl, rfl⟩ := List.mem_map.1 hp
    simp only [Pc.lacks, decide_eq_false_iff_not]
    by_cases h2 : 2 ≤ (shareP ks 18).length
    · have := share_half ks 18 (by decide) h2 l hl
      omega
    · have h1 : (shareP ks 18).length = 1 := by have := List.length_pos_of_mem hl; omega
      obtain ⟨q, hq⟩ := List.length_eq_one_iff.1 h1
      rw [hq] at hf hl
      simp at hf hl
      subst hl
      rw [hf]
      omega
  · intro hne e
    have : shareP ks 18 = [] := by simpa [innersP] using e
    rw [this] at hf
    exact hne hf.symm
end
end Go.Proofs.YtjhdnpplmlddaaaGreat
/- Pieces that lack something joined to a neighbour (tree's open, join, mend): plain mathematics, for stage 7. -/
namespace Go.Proofs.YtjhdnpplmlddaaaGreat
set_option linter.unusedVariables false

section
variable {π : Type} (kp : π → Int)
def openP (g : Store π) : Pc π → Pc π
  | .stay f n => match g n with
    | some (.inl ps) => .leaf f ps
    | some (.inr ks) => .inner f (ks.map fun x => .stay x.1 x.2)
    | none => .stay f n
  | p => p
def pairsOf : Pc π → List π
  | .leaf _ ps => ps
  | _ => []
def kidsOf : Pc π → List (Pc π)
  | .inner _ ks => ks
  | _ => []
def mendStep (join : Pc π → Pc π → List (Pc π)) (done : List (Pc π)) (p : Pc π) : List (Pc π) :=
  match done.getLast? with
  | none => [p]
  | some q => if q.lacks = false ∧ p.lacks = false then done ++ [p] else done.dropLast ++ join q p
def mendWith (join : Pc π → Pc π → List (Pc π)) (row : List (Pc π)) : List (Pc π) := row.foldl (mendStep join) []
def joinL (g : Store π) : Nat → Pc π → Pc π → List (Pc π)
  | 0, p, q => leavesP kp (pairsOf (openP g p) ++ pairsOf (openP g q))
  | k + 1, p, q => innersP (mendWith (joinL g k) (kidsOf (openP g p) ++ kidsOf (openP g q)))

/-- What a leaf has. -/
theorem open_leaf {g : Store π} {p : Pc π} {L : List π} (h : OkP kp g 0 p L) : pairsOf (openP g p) = L ∧ 1 ≤ L.length ∧ (p.lacks = false → 3 ≤ L.length) := by
  cases p with
  | stay f n =>
    obtain ⟨⟨h1, h2, h3⟩, _⟩ := h
    refine ⟨by simp only [openP, h1, pairsOf], by omega, fun _ => h2⟩
  | leaf f ps =>
    obtain ⟨rfl, h1, h2, _⟩ := h
    exact ⟨rfl, h1, fun hl => by simp only [Pc.lacks, decide_eq_false_iff_not] at hl; omega⟩
  | inner f ks => exact h.elim
/-- What a node above has. -/
theorem open_inner {g : Store π} {k : Nat} {p : Pc π} {L : List π} (h : OkP kp g (k + 1) p L) : Row kp g k (kidsOf (openP g p)) L ∧ 1 ≤ (kidsOf (openP g p)).length ∧ (p.lacks = false → 9 ≤ (kidsOf (openP g p)).length) := by
  cases p with
  | stay f n =>
    obtain ⟨⟨M, h1, h2, h3, h4, h5⟩, _⟩ := h
    simp only [openP, h1, kidsOf, List.map_map, List.length_map]
    refine ⟨⟨⟨M.map fun m => (.stay m.1.1 m.1.2, m.2), ?_, ?_, ?_⟩, ?_⟩, by omega, fun _ => h4⟩
    · rw [List.map_map]; rfl
    · rw [List.map_map]; exact h2
    · intro q hq
      obtain ⟨m, hm, rfl⟩ := List.mem_map.1 hq
      obtain ⟨a1, a2⟩ := h3 m hm
      cases k with
      | zero => exact ⟨a1, a2⟩
      | succ k => exact ⟨a1, a2⟩
    · intro _ q hq
      obtain ⟨m, hm, rfl⟩ := List.mem_map.1 hq
      rfl
  | leaf f ps => exact h.elim
  | inner f ks =>
    obtain ⟨M, h1, h2, h3, h4, h5, _, h7⟩ := h
    exact ⟨⟨⟨M, h1, h2, h3⟩, h7⟩, h4, fun hl => by simp only [Pc.lacks, decide_eq_false_iff_not] at hl; show 9 ≤ ks.length; omega⟩
/-- What a join must do. -/
def JoinOk (g : Store π) (k : Nat) (join : Pc π → Pc π → List (Pc π)) : Prop := ∀ p q Lp Lq, OkP kp g k p Lp → OkP kp g k q Lq → Row kp g k (join p q) (Lp ++ Lq) ∧ join p q ≠ [] ∧ (p.lacks = false → ∀ r ∈ join p q, r.lacks = false)
theorem step_last {join : Pc π → Pc π → List (Pc π)} {init : List (Pc π)} {q p : Pc π} : mendStep join (init ++ [q]) p = if q.lacks = false ∧ p.lacks = false then init ++ [q] ++ [p] else init ++ join q p := by
  simp only [mendStep, List.getLast?_append, List.getLast?_singleton, Option.some_or, List.dropLast_concat]
theorem step_row {g : Store π} {k : Nat} {join : Pc π → Pc π → List (Pc π)} (hj : JoinOk kp g k join) {done : List (Pc π)} {p : Pc π} {D Lp : List π} (hd : Row kp g k done D) (hp : OkP kp g k p Lp) :
    Row kp g k (mendStep join done p) (D ++ Lp) ∧ mendStep join done p ≠ [] := by
  rcases List.eq_nil_or_concat done with rfl | ⟨init, q, e⟩
  · obtain ⟨M, e1, e2, _⟩ := hd.1
    have : M = [] := by simpa using e1
    subst this
    have : D = [] := by simpa using e2.symm
    subst this
    exact ⟨⟨loose_one kp hp, fun h => by simp [mendStep] at h⟩, by simp [mendStep]⟩
  · rw [List.concat_eq_append] at e
    subst e
    rw [step_last]
    obtain ⟨A, B, rfl, hA, hB⟩ := loose_split kp hd.1
    have hq : OkP kp g k q B := by
      obtain ⟨M, m1, m2, m3⟩ := hB
      cases M with
      | nil => cases m1
      | cons m M =>
        simp only [List.map_cons, List.cons.injEq, List.map_eq_nil_iff] at m1
        obtain ⟨rfl, rfl⟩ := m1
        have : m.2 = B := by simpa using m2
        rw [← this]
        exact m3 m (by simp)
    by_cases hc : q.lacks = false ∧ p.lacks = false
    · rw [if_pos hc]
      refine ⟨⟨loose_append kp hd.1 (loose_one kp hp), fun _ r hr => ?_⟩, by simp⟩
      rcases List.mem_append.1 hr with hr | hr
      · by_cases hi : init = []
        · subst hi
          simp at hr
          subst hr
          exact hc.1
        · exact hd.2 (by have := List.length_pos_iff.2 hi; simp; omega) r hr
      · simp at hr
        subst hr
        exact hc.2
    · rw [if_neg hc]
      obtain ⟨j1, j2, j3⟩ := hj q p B Lp hq hp
      refine ⟨⟨by rw [List.append_assoc]; exact loose_append kp hA j1.1, fun h2 r hr => ?_⟩, by simp [j2]⟩
      by_cases hi : init = []
      · subst hi
        exact j1.2 (by simpa using h2) r (by simpa using hr)
      · have hall := hd.2 (by have := List.length_pos_iff.2 hi; simp; omega)
        rcases List.mem_append.1 hr with hr | hr
        · exact hall r (by simp [hr])
        · exact j3 (hall q (by simp)) r hr
theorem mend_row {g : Store π} {k : Nat} {join : Pc π → Pc π → List (Pc π)} (hj : JoinOk kp g k join) : ∀ (M : List (Pc π × List π)) (done : List (Pc π)) (D : List π), (∀ m ∈ M, OkP kp g k m.1 m.2) → Row kp g k done D →
    Row kp g k ((M.map (·.1)).foldl (mendStep join) done) (D ++ (M.map (·.2)).flatten) ∧ ((done ≠ [] ∨ M ≠ []) → (M.map (·.1)).foldl (mendStep join) done ≠ [])
  | [], done, D, _, hd => by simpa using hd
  | m :: M, done, D, hM, hd => by
    obtain ⟨h1, h2⟩ := step_row kp hj hd (hM m (by simp))
    obtain ⟨h3, h4⟩ := mend_row hj M _ _ (fun x hx => hM x (by simp [hx])) h1
    simp only [List.map_cons, List.foldl_cons, List.flatten_cons]
    rw [← List.append_assoc]
    exact ⟨h3, fun _ => h4 (.inl h2)⟩
theorem mend_ok {g : Store π} {k : Nat} {join : Pc π → Pc π → List (Pc π)} (hj : JoinOk kp g k join) {row : List (Pc π)} {L : List π} (h : Loose kp g k row L) : Row kp g k (mendWith join row) L ∧ (row ≠ [] → mendWith join row ≠ []) := by
  obtain ⟨M, e1, e2, e3⟩ := h
  obtain ⟨h1, h2⟩ := mend_row kp hj M [] [] e3 ⟨loose_nil kp g k, fun h => by simp at h⟩
  rw [e1, e2] at h1
  rw [e1] at h2
  rw [List.nil_append] at h1
  exact ⟨h1, fun hne => h2 (.inr fun e => hne (by rw [← e1, e]; rfl))⟩
/-- Where none lacks anything, all stay as they are. -/
theorem mend_same (join : Pc π → Pc π → List (Pc π)) : ∀ (row done : List (Pc π)), (∀ p ∈ row, p.lacks = false) → (∀ p ∈ done, p.lacks = false) → row.foldl (mendStep join) done = done ++ row
  | [], done, _, _ => by simp
  | p :: row, done, h1, h2 => by
    have hp := h1 p (by simp)
    have e : mendStep join done p = done ++ [p] := by
      rcases List.eq_nil_or_concat done with rfl | ⟨init, q, e⟩
      · rfl
      · rw [List.concat_eq_append] at e
        subst e
        rw [step_last, if_pos ⟨h2 q (by simp), hp⟩]
    rw [List.foldl_cons, e, mend_same join row _ (fun q hq => h1 q (by simp [hq])) (by
      intro q hq
      rcases List.mem_append.1 hq with hq | hq
      · exact h2 q hq
      · simp at hq; subst hq; exact hp)]
    simp
/-- Behind many that lack nothing as many are left. -/
theorem mend_many {g : Store π} {k : Nat} {join : Pc π → Pc π → List (Pc π)} (hj : JoinOk kp g k join) {a b : List (Pc π)} {A B : List π} (hA : Loose kp g k a A) (hB : Row kp g k b B) (ha : ∀ p ∈ a, p.lacks = false) (hn : 1 ≤ b.length) : a.length ≤ (mendWith join (a ++ b)).length := by
  unfold mendWith
  rw [List.foldl_append, mend_same join a [] ha (fun p hp => by cases hp), List.nil_append]
  by_cases h2 : 2 ≤ b.length
  · rw [mend_same join b a (hB.2 h2) ha]; simp
  · obtain ⟨p, rfl⟩ := List.length_eq_one_iff.1 (show b.length = 1 by omega)
    simp only [List.foldl_cons, List.foldl_nil]
    rcases List.eq_nil_or_concat a with rfl | ⟨init, q, e⟩
    · simp
    · rw [List.concat_eq_append] at e
      subst e
      rw [step_last]
      split
      · simp
      · obtain ⟨A1, A2, rfl, hA1, hA2⟩ := loose_split kp hA
        have one : ∀ {x : Pc π} {X : List π}, Loose kp g k [x] X → OkP kp g k x X := fun {x X} h => by
          obtain ⟨M, m1, m2, m3⟩ := h
          cases M with
          | nil => cases m1
          | cons m M =>
            simp only [List.map_cons, List.cons.injEq, List.map_eq_nil_iff] at m1
            obtain ⟨rfl, rfl⟩ := m1
            have : m.2 = X := by simpa using m2
            rw [← this]
            exact m3 m (by simp)
        have := (hj q p A2 B (one hA2) (one hB.1)).2.1
        have := List.length_pos_iff.2 this
        simp only [List.length_append, List.length_cons, List.length_nil]
        omega
/-- Two neighbours shared out anew. -/
theorem join_ok (g : Store π) : ∀ k, JoinOk kp g k (joinL kp g k)
  | 0, p, q, Lp, Lq, hp, hq => by
    obtain ⟨e1, l1, f1⟩ := open_leaf kp hp
    obtain ⟨e2, l2, _⟩ := open_leaf kp hq
    unfold joinL
    rw [e1, e2]
    obtain ⟨h1, h2, h3⟩ := leaves_row kp g (Lp ++ Lq)
    refine ⟨h1, h3 (by have := okP_ne kp hp; simp [this]), fun hl => h2 (by have := f1 hl; simp; omega)⟩
  | k + 1, p, q, Lp, Lq, hp, hq => by
    obtain ⟨r1, l1, f1⟩ := open_inner kp hp
    obtain ⟨r2, l2, _⟩ := open_inner kp hq
    have ih := join_ok g k
    unfold joinL
    obtain ⟨m1, m2⟩ := mend_ok kp ih (loose_append kp r1.1 r2.1)
    obtain ⟨h1, h2, h3⟩ := inners_row kp m1
    refine ⟨h1, h3 (m2 (by intro e; rw [List.append_eq_nil_iff] at e; rw [e.1] at l1; simp at l1)), fun hl => h2 ?_⟩
    have h9 := f1 hl
    exact Nat.le_trans h9 (mend_many kp ih r1.1 r2 (r1.2 (by omega)) l2)
end
end Go.Proofs.YtjhdnpplmlddaaaGreat
