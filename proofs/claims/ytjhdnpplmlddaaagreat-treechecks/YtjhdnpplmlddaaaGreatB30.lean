import Derived.Test.YtjhdnpplmlddaaaGreatB28
import Derived.Test.YtjhdnpplmlddaaaGreatB29
/- What a tree's node becomes with changes (tree's change, changeKids, crown): plain mathematics, for stage 7. -/
namespace Go.Proofs.YtjhdnpplmlddaaaGreat
set_option linter.unusedVariables false

section
variable {π χ : Type} (kp : π → Int) (kc : χ → Int) (mk : χ → Option π)
def aheadP (l : List χ) (x : Int) : Nat := (l.takeWhile fun c => decide (kc c < x)).length
/-- What the kids of a node become, and whether one of them is changed; rec: what a kid becomes (none: it stays). -/
def kidsGo (g : Store π) (rec : List π ⊕ List (Int × Int) → List χ → Option (List (Pc π))) : List (Int × Int) → List χ → List (Pc π) × Bool
  | [], _ => ([], false)
  | x :: rest, l =>
    let m := match rest with
      | [] => l.length
      | y :: _ => aheadP kc l y.1
    if m = 0 then (.stay x.1 x.2 :: (kidsGo g rec rest l).1, (kidsGo g rec rest l).2)
    else match (g x.2).bind fun c => rec c (l.take m) with
      | none => (.stay x.1 x.2 :: (kidsGo g rec rest (l.drop m)).1, (kidsGo g rec rest (l.drop m)).2)
      | some row => (row ++ (kidsGo g rec rest (l.drop m)).1, true)
def changeC (g : Store π) : Nat → List π ⊕ List (Int × Int) → List χ → Option (List (Pc π))
  | 0, .inl ps, l => if changedP kp kc mk ps l = true then some (leavesP kp (mergeP kp kc mk ps l)) else none
  | 0, .inr _, _ => none
  | _ + 1, .inl _, _ => none
  | k + 1, .inr ks, l => if (kidsGo kc g (changeC g k) ks l).2 = true then some (innersP (mendWith (joinL kp g k) (kidsGo kc g (changeC g k) ks l).1)) else none
/-- What a node holds, of this level, a root or none. -/
def CntOk (g : Store π) : Nat → List π ⊕ List (Int × Int) → List π → Prop
  | 0, .inl ps, L => ps = L ∧ 1 ≤ L.length ∧ L.length ≤ 7
  | 0, .inr _, _ => False
  | _ + 1, .inl _, _ => False
  | k + 1, .inr ks, L => ∃ M : List ((Int × Int) × List π), M.map (·.1) = ks ∧ (M.map (·.2)).flatten = L ∧ (∀ m ∈ M, BlkOk kp g k m.1.2 m.2 ∧ hd kp m.2 = some m.1.1) ∧ 2 ≤ M.length ∧ M.length ≤ 18
theorem blk_cnt {g : Store π} : ∀ {k : Nat} {n : Int} {L : List π}, BlkOk kp g k n L → ∃ c, g n = some c ∧ CntOk kp g k c L
  | 0, n, L, h => ⟨.inl L, h.1, rfl, by have := h.2.1; omega, h.2.2⟩
  | k + 1, n, L, h => by
    obtain ⟨M, h1, h2, h3, h4, h5⟩ := h
    exact ⟨_, h1, M, rfl, h2, h3, by omega, h5⟩
theorem blk_ne {g : Store π} {k : Nat} {n f : Int} {L : List π} (h : hd kp L = some f) : L ≠ [] := fun e => by rw [e] at h; cases h
theorem ahead_take (l : List χ) (x : Int) : l.take (aheadP kc l x) = l.takeWhile (fun c => decide (kc c < x)) ∧ l.drop (aheadP kc l x) = l.dropWhile (fun c => decide (kc c < x)) := by
  have e := List.takeWhile_append_dropWhile (p := fun c => decide (kc c < x)) (l := l)
  unfold aheadP
  generalize l.takeWhile (fun c => decide (kc c < x)) = a at *
  generalize l.dropWhile (fun c => decide (kc c < x)) = b at *
  subst e
  exact ⟨List.take_left, List.drop_left⟩
variable (hmk : ∀ c p, mk c = some p → kp p = kc c)
  include hmk
/-- What is asked of what a kid becomes. -/
def RecOk (g : Store π) (k : Nat) (rec : List π ⊕ List (Int × Int) → List χ → Option (List (Pc π))) : Prop := ∀ c L l, CntOk kp g k c L → Asc kp L → Asc kc l → match rec c l with
  | none => mergeP kp kc mk L l = L
  | some row => Row kp g k row (mergeP kp kc mk L l)
  omit hmk in
theorem merge_nil (ps : List π) : mergeP kp kc mk ps [] = ps := rfl
theorem kids_ok {g : Store π} {k : Nat} {rec : List π ⊕ List (Int × Int) → List χ → Option (List (Pc π))} (hrec : RecOk kp kc mk g k rec) : ∀ (M : List ((Int × Int) × List π)) (l : List χ), (∀ m ∈ M, BlkOk kp g k m.1.2 m.2 ∧ hd kp m.2 = some m.1.1) → Asc kp (M.map (·.2)).flatten → Asc kc l → M ≠ [] →
    Loose kp g k (kidsGo kc g rec (M.map (·.1)) l).1 (mergeP kp kc mk (M.map (·.2)).flatten l) ∧ ((kidsGo kc g rec (M.map (·.1)) l).2 = false → mergeP kp kc mk (M.map (·.2)).flatten l = (M.map (·.2)).flatten)
  | [], _, _, _, _, hne => absurd rfl hne
  | m :: M, l, hM, hA, hl, _ => by
    obtain ⟨hb, hh⟩ := hM m (by simp)
    obtain ⟨c, hc1, hc2⟩ := blk_cnt kp hb
    have hst : OkP kp g k (.stay m.1.1 m.1.2) m.2 := by
      cases k with
      | zero => exact ⟨hb, hh⟩
      | succ k => exact ⟨hb, hh⟩
    simp only [List.map_cons, List.flatten_cons] at hA ⊢
    have hA1 := (List.pairwise_append.1 hA).1
    have hA2 := (List.pairwise_append.1 hA).2.1
    -- the first kid with its own changes, the others with theirs
    have key : ∀ (la lb : List χ), Asc kc la → Asc kc lb → (M = [] → lb = []) → mergeP kp kc mk (m.2 ++ (M.map (·.2)).flatten) l = mergeP kp kc mk m.2 la ++ mergeP kp kc mk (M.map (·.2)).flatten lb →
        (Loose kp g k (kidsGo kc g rec (M.map (·.1)) lb).1 (mergeP kp kc mk (M.map (·.2)).flatten lb) ∧ ((kidsGo kc g rec (M.map (·.1)) lb).2 = false → mergeP kp kc mk (M.map (·.2)).flatten lb = (M.map (·.2)).flatten)) := fun la lb _ h2 h3 _ => by
      by_cases hm : M = []
      · subst hm
        rw [h3 rfl]
        exact ⟨loose_nil kp g k, fun _ => rfl⟩
      · exact kids_ok hrec M lb (fun x hx => hM x (by simp [hx])) hA2 h2 hm
    -- what comes out, given how the changes are parted
    have out : ∀ (la lb : List χ), Asc kc la → Asc kc lb → (M = [] → lb = []) → mergeP kp kc mk (m.2 ++ (M.map (·.2)).flatten) l = mergeP kp kc mk m.2 la ++ mergeP kp kc mk (M.map (·.2)).flatten lb →
        (∀ r : List (Pc π) × Bool, (r = (match (some c).bind fun c => rec c la with
          | none => (.stay m.1.1 m.1.2 :: (kidsGo kc g rec (M.map (·.1)) lb).1, (kidsGo kc g rec (M.map (·.1)) lb).2)
          | some row => (row ++ (kidsGo kc g rec (M.map (·.1)) lb).1, true))) →
          Loose kp g k r.1 (mergeP kp kc mk (m.2 ++ (M.map (·.2)).flatten) l) ∧ (r.2 = false → mergeP kp kc mk (m.2 ++ (M.map (·.2)).flatten) l = m.2 ++ (M.map (·.2)).flatten)) := fun la lb h1 h2 h3 h4 r hr => by
      obtain ⟨k1, k2⟩ := key la lb h1 h2 h3 h4
      have hrc := hrec c m.2 la hc2 hA1 h1
      rw [h4]
      simp only [Option.bind_some] at hr
      cases hq : rec c la with
      | none =>
        rw [hq] at hr hrc
        subst hr
        dsimp only at hrc ⊢
        rw [hrc]
        exact ⟨loose_append kp (loose_one kp hst) k1, fun h => by rw [k2 h]⟩
      | some row =>
        rw [hq] at hr hrc
        subst hr
        dsimp only at hrc ⊢
        exact ⟨loose_append kp hrc.1 k1, fun h => by cases h⟩
    have zero : ∀ (lb : List χ), Asc kc lb → (M = [] → lb = []) → mergeP kp kc mk (m.2 ++ (M.map (·.2)).flatten) l = mergeP kp kc mk m.2 [] ++ mergeP kp kc mk (M.map (·.2)).flatten lb →
        (Loose kp g k (.stay m.1.1 m.1.2 :: (kidsGo kc g rec (M.map (·.1)) lb).1) (mergeP kp kc mk (m.2 ++ (M.map (·.2)).flatten) l) ∧ ((kidsGo kc g rec (M.map (·.1)) lb).2 = false → mergeP kp kc mk (m.2 ++ (M.map (·.2)).flatten) l = m.2 ++ (M.map (·.2)).flatten)) := fun lb h2 h3 h4 => by
      obtain ⟨k1, k2⟩ := key [] lb List.Pairwise.nil h2 h3 h4
      rw [h4, merge_nil]
      exact ⟨loose_append kp (loose_one kp hst) k1, fun h => by rw [k2 h]⟩
    cases M with
    | nil =>
      simp only [List.map_nil, kidsGo, hc1, List.flatten_nil, List.append_nil] at *
      by_cases h0 : l.length = 0
      · have : l = [] := List.eq_nil_of_length_eq_zero h0
        subst this
        rw [if_pos h0]
        exact ⟨loose_one kp hst, fun _ => rfl⟩
      · rw [if_neg h0, List.take_length]
        exact out l [] hl List.Pairwise.nil (fun _ => rfl) (by rw [merge_nil, List.append_nil]) _ rfl
    | cons m2 M =>
      obtain ⟨hb2, hh2⟩ := hM m2 (by simp)
      have hne2 : m2.2 ≠ [] := fun e => by rw [e] at hh2; cases hh2
      obtain ⟨e1, e2⟩ := ahead_take kc l m2.1.1
      -- the second kid's first key parts both
      have hx : ∀ p ∈ ((m2 :: M).map (·.2)).flatten, m2.1.1 ≤ kp p := by
        have hA2' := hA2
        obtain ⟨p0, r0, he⟩ : ∃ p0 r0, m2.2 = p0 :: r0 := by
          cases h : m2.2 with
          | nil => exact absurd h hne2
          | cons p0 r0 => exact ⟨p0, r0, rfl⟩
        rw [he] at hh2
        have hk : kp p0 = m2.1.1 := by simpa [hd] using hh2
        rw [List.map_cons, List.flatten_cons, he, List.cons_append] at hA2' ⊢
        intro p hp
        rcases List.mem_cons.1 hp with rfl | hp
        · omega
        · have := (List.pairwise_cons.1 hA2').1 p hp
          omega
      have hy : ∀ p ∈ m.2, kp p < m2.1.1 := by
        obtain ⟨p0, r0, he⟩ : ∃ p0 r0, m2.2 = p0 :: r0 := by
          cases h : m2.2 with
          | nil => exact absurd h hne2
          | cons p0 r0 => exact ⟨p0, r0, rfl⟩
        rw [he] at hh2
        have hk : kp p0 = m2.1.1 := by simpa [hd] using hh2
        intro p hp
        have := (List.pairwise_append.1 hA).2.2 p hp p0 (by rw [List.map_cons, List.flatten_cons, he]; simp)
        omega
      have hlt : ∀ c ∈ l.takeWhile (fun c => decide (kc c < m2.1.1)), kc c < m2.1.1 := low_lt kc (ps := l)
      have hge : ∀ c ∈ l.dropWhile (fun c => decide (kc c < m2.1.1)), m2.1.1 ≤ kc c := high_ge kc hl
      have hs1 : Asc kc (l.takeWhile (fun c => decide (kc c < m2.1.1))) := low_asc kc hl _
      have hs2 : Asc kc (l.dropWhile (fun c => decide (kc c < m2.1.1))) := high_asc kc hl _
      have hsplit := merge_split kp kc mk hmk hy hx hlt hge hA (by rw [List.takeWhile_append_dropWhile]; exact hl)
      rw [List.takeWhile_append_dropWhile] at hsplit
      simp only [List.map_cons, kidsGo, hc1] at *
      by_cases h0 : aheadP kc l m2.1.1 = 0
      · rw [if_pos h0]
        have hz : l.takeWhile (fun c => decide (kc c < m2.1.1)) = [] := List.eq_nil_of_length_eq_zero h0
        have hz2 : l.dropWhile (fun c => decide (kc c < m2.1.1)) = l := by rw [← e2, h0, List.drop_zero]
        rw [hz, hz2] at hsplit
        exact zero l hl (fun h => by cases h) hsplit
      · rw [if_neg h0, e1, e2]
        exact out _ _ hs1 hs2 (fun h => by cases h) hsplit _ rfl
theorem change_ok (g : Store π) : ∀ k, RecOk kp kc mk g k (changeC kp kc mk g k)
  | 0, c, L, l, hc, hL, hl => by
    cases c with
    | inr ks => exact hc.elim
    | inl ps =>
      obtain ⟨rfl, _, _⟩ := hc
      unfold changeC
      cases hch : changedP kp kc mk ps l with
      | false => exact merge_same kp kc mk l ps hch
      | true => exact (leaves_row kp g _).1
  | k + 1, c, L, l, hc, hL, hl => by
    cases c with
    | inl ps => exact hc.elim
    | inr ks =>
      obtain ⟨M, rfl, rfl, h3, h4, _⟩ := hc
      obtain ⟨k1, k2⟩ := kids_ok kp kc mk hmk (change_ok g k) M l h3 hL hl (fun e => by rw [e] at h4; simp at h4)
      unfold changeC
      cases hch : (kidsGo kc g (changeC kp kc mk g k) (M.map (·.1)) l).2 with
      | false => exact k2 hch
      | true => exact (inners_row kp (mend_ok kp (join_ok kp g k) k1).1).1
end
end Go.Proofs.YtjhdnpplmlddaaaGreat
/- The root of a tree that is planned, and what it is when it is laid down (tree's crown, lay): plain mathematics, for stage 7. -/
namespace Go.Proofs.YtjhdnpplmlddaaaGreat
set_option linter.unusedVariables false

section
variable {π : Type} (kp : π → Int)
/-- Nodes above a row until one alone is left, or there may be none above. -/
def upGo : Nat → List (Pc π) → Nat → List (Pc π) × Nat
  | 0, row, k => (row, k)
  | f + 1, row, k => if 1 < row.length ∧ k + 1 < 12 then upGo f (innersP row) (k + 1) else (row, k)
/-- Those taken away that have but one kid. -/
def downGo : Nat → List (Pc π) → Nat → List (Pc π) × Nat
  | 0, row, k => (row, k)
  | f + 1, row, k => match row with
    | [.inner _ [p]] => downGo f [p] (k - 1)
    | row => (row, k)
def crownP (row : List (Pc π)) (k : Nat) : List (Pc π) × Nat := downGo 12 (upGo 12 row k).1 (upGo 12 row k).2
theorem up_ok {g : Store π} : ∀ (f : Nat) (row : List (Pc π)) (k : Nat) (L : List π), Row kp g k row L → 12 ≤ k + f + 1 → Row kp g (upGo f row k).2 (upGo f row k).1 L ∧ ((upGo f row k).1.length ≤ 1 ∨ 11 ≤ (upGo f row k).2) ∧ (k ≤ 11 → (upGo f row k).2 ≤ 11)
  | 0, row, k, L, h, hf => ⟨h, .inr (by show 11 ≤ k; omega), fun h => h⟩
  | f + 1, row, k, L, h, hf => by
    unfold upGo
    split
    · rename_i hc
      obtain ⟨h1, h2, h3⟩ := up_ok f (innersP row) (k + 1) L (inners_row kp h).1 (by omega)
      exact ⟨h1, h2, fun _ => h3 (by omega)⟩
    · rename_i hc
      exact ⟨h, by show row.length ≤ 1 ∨ 11 ≤ k; omega, fun h => h⟩
/-- A root: a leaf, or a node with kids. -/
def Rooted : Pc π → Prop
  | .inner _ ks => 2 ≤ ks.length
  | _ => True
theorem down_ok {g : Store π} : ∀ (f : Nat) (row : List (Pc π)) (k : Nat) (L : List π), Row kp g k row L → k ≤ f → Row kp g (downGo f row k).2 (downGo f row k).1 L ∧ (downGo f row k).1.length = row.length ∧ (∀ p, (downGo f row k).1 = [p] → Rooted p) ∧ (downGo f row k).2 ≤ k
  | 0, row, k, L, h, hf => by
    refine ⟨h, rfl, fun p hp => ?_, Nat.le_refl _⟩
    have hk : k = 0 := by omega
    subst hk
    have hp' : row = [p] := hp
    subst hp'
    obtain ⟨M, e1, _, e3⟩ := h.1
    cases M with
    | nil => cases e1
    | cons m M =>
      simp only [List.map_cons, List.cons.injEq] at e1
      have hm := e3 m (by simp)
      rw [e1.1] at hm
      cases p with
      | stay f n => trivial
      | leaf f ps => trivial
      | inner f ks => exact hm.elim
  | f + 1, row, k, L, h, hf => by
    by_cases hq : ∃ a p, row = [.inner a [p]]
    · obtain ⟨a, p, rfl⟩ := hq
      show Row kp g (downGo f [p] (k - 1)).2 (downGo f [p] (k - 1)).1 L ∧ (downGo f [p] (k - 1)).1.length = 1 ∧ (∀ q, (downGo f [p] (k - 1)).1 = [q] → Rooted q) ∧ (downGo f [p] (k - 1)).2 ≤ k
      obtain ⟨M, e1, e2, e3⟩ := h.1
      cases M with
      | nil => cases e1
      | cons m M =>
        simp only [List.map_cons, List.cons.injEq, List.map_eq_nil_iff] at e1
        obtain ⟨e1, rfl⟩ := e1
        have hm := e3 m (by simp)
        have hL : m.2 = L := by simpa using e2
        rw [e1, hL] at hm
        cases k with
        | zero => exact hm.elim
        | succ k =>
          obtain ⟨N, n1, n2, n3, _⟩ := hm
          have hr : Row kp g k [p] L := ⟨⟨N, n1, n2, n3⟩, fun h => by simp at h⟩
          obtain ⟨h1, h2, h3, h4⟩ := down_ok f [p] k L hr (by omega)
          exact ⟨h1, by rw [Nat.add_sub_cancel]; exact h2, h3, by rw [Nat.add_sub_cancel]; omega⟩
    · have e : downGo (f + 1) row k = (row, k) := by
        unfold downGo
        split
        · rename_i a p
          exact absurd ⟨a, p, rfl⟩ hq
        · rfl
      rw [e]
      refine ⟨h, rfl, fun p hp => ?_, Nat.le_refl _⟩
      have hp' : row = [p] := hp
      subst hp'
      cases p with
      | stay f n => trivial
      | leaf f ps => trivial
      | inner a ks =>
        obtain ⟨M, e1, _, e3⟩ := h.1
        cases M with
        | nil => cases e1
        | cons m M =>
          simp only [List.map_cons, List.cons.injEq] at e1
          have hm := e3 m (by simp)
          rw [e1.1] at hm
          cases k with
          | zero => exact hm.elim
          | succ k =>
            obtain ⟨N, _, _, _, n4, _⟩ := hm
            show 2 ≤ ks.length
            apply Classical.byContradiction
            intro hlt
            obtain ⟨p, hp⟩ := List.length_eq_one_iff.1 (show ks.length = 1 by omega)
            exact hq ⟨a, p, by rw [hp]⟩
/-- What comes of a row: nothing, a root, or too many at the greatest level. -/
theorem crown_ok {g : Store π} {row : List (Pc π)} {k : Nat} {L : List π} (h : Row kp g k row L) (hk : k ≤ 11) : Row kp g (crownP row k).2 (crownP row k).1 L ∧ (∀ p, (crownP row k).1 = [p] → Rooted p) ∧ (crownP row k).2 ≤ 11 ∧ ((crownP row k).1.length ≤ 1 ∨ 11 ≤ (upGo 12 row k).2) := by
  obtain ⟨u1, u2, u3⟩ := up_ok kp 12 row k L h (by omega)
  obtain ⟨d1, d2, d3, d4⟩ := down_ok kp 12 _ _ L u1 (by have := u3 hk; omega)
  refine ⟨d1, d3, ?_, ?_⟩
  · have := u3 hk
    unfold crownP
    omega
  · unfold crownP
    rw [d2]
    exact u2

/-! Laid down. -/
/-- All that was there is there. -/
def Grows (g g' : Store π) : Prop := ∀ n c, g n = some c → g' n = some c
theorem blk_grows {g g' : Store π} (hg : Grows g g') : ∀ {k : Nat} {n : Int} {L : List π}, BlkOk kp g k n L → BlkOk kp g' k n L
  | 0, n, L, h => ⟨hg n _ h.1, h.2⟩
  | k + 1, n, L, h => by
    obtain ⟨M, h1, h2, h3, h4, h5⟩ := h
    exact ⟨M, hg n _ h1, h2, fun m hm => ⟨blk_grows hg (h3 m hm).1, (h3 m hm).2⟩, h4, h5⟩
/-- A piece of this level is laid as this block. -/
def Laid (g' : Store π) : Nat → Pc π → Int → Prop
  | _, .stay _ n, m => m = n
  | _, .leaf _ ps, m => g' m = some (.inl ps)
  | 0, .inner _ _, _ => False
  | k + 1, .inner _ ks, m => ∃ N : List (Pc π × Int), N.map (·.1) = ks ∧ g' m = some (.inr (N.map fun x => (x.1.first, x.2))) ∧ ∀ x ∈ N, Laid g' k x.1 x.2
/-- Two lists of the same length, side by side. -/
theorem beside {α β γ : Type} : ∀ (M : List (α × β)) (N : List (α × γ)), M.map (·.1) = N.map (·.1) → ∃ P : List (α × β × γ), P.map (fun x => (x.1, x.2.1)) = M ∧ P.map (fun x => (x.1, x.2.2)) = N
  | [], [], _ => ⟨[], rfl, rfl⟩
  | [], _ :: _, h => by cases h
  | _ :: _, [], h => by cases h
  | (a, b) :: M, (a', c) :: N, h => by
    simp only [List.map_cons, List.cons.injEq] at h
    obtain ⟨e, h⟩ := h
    have e' : a = a' := e
    subst e'
    obtain ⟨P, h1, h2⟩ := beside M N h
    exact ⟨(a, b, c) :: P, by simp [h1], by simp [h2]⟩
/-- What lacks nothing is a right block then. -/
theorem laid_blk {g g' : Store π} (hg : Grows g g') : ∀ (k : Nat) (p : Pc π) (L : List π) (n : Int), OkP kp g k p L → p.lacks = false → Laid g' k p n → BlkOk kp g' k n L ∧ hd kp L = some p.first
  | k, .stay f n, L, m, hp, _, hl => by
    have hm : m = n := by cases k <;> exact hl
    subst hm
    cases k with
    | zero => exact ⟨blk_grows kp hg hp.1, hp.2⟩
    | succ k => exact ⟨blk_grows kp hg hp.1, hp.2⟩
  | 0, .leaf f ps, L, m, hp, hk, hl => by
    obtain ⟨rfl, h1, h2, h3⟩ := hp
    simp only [Pc.lacks, decide_eq_false_iff_not] at hk
    exact ⟨⟨hl, by omega, h2⟩, h3⟩
  | _ + 1, .leaf f ps, L, m, hp, _, _ => hp.elim
  | 0, .inner f ks, L, m, hp, _, _ => hp.elim
  | k + 1, .inner f ks, L, m, hp, hk, hl => by
    obtain ⟨M, h1, h2, h3, h4, h5, h6, h7⟩ := hp
    obtain ⟨N, n1, n2, n3⟩ := hl
    simp only [Pc.lacks, decide_eq_false_iff_not] at hk
    have hall := h7 (by omega)
    obtain ⟨P, p1, p2⟩ := beside M N (by rw [h1, n1])
    refine ⟨⟨P.map fun x => ((x.1.first, x.2.2), x.2.1), ?_, ?_, ?_, ?_, ?_⟩, h6⟩
    · rw [n2, ← p2, List.map_map, List.map_map]
      rfl
    · rw [← h2, ← p1, List.map_map, List.map_map]
      rfl
    · intro y hy
      obtain ⟨x, hx, rfl⟩ := List.mem_map.1 hy
      have a1 : (x.1, x.2.1) ∈ M := by rw [← p1]; exact List.mem_map.2 ⟨x, hx, rfl⟩
      have a2 : (x.1, x.2.2) ∈ N := by rw [← p2]; exact List.mem_map.2 ⟨x, hx, rfl⟩
      have a3 : x.1 ∈ ks := by rw [← h1]; exact List.mem_map.2 ⟨_, a1, rfl⟩
      exact laid_blk hg k x.1 x.2.1 x.2.2 (h3 _ a1) (hall _ a3) (n3 _ a2)
    · have : P.length = ks.length := by rw [← h1, ← p1]; simp
      simp only [List.length_map]
      omega
    · have : P.length = ks.length := by rw [← h1, ← p1]; simp
      simp only [List.length_map]
      omega
/-- A root that is laid is a right one. -/
theorem laid_root {g g' : Store π} (hg : Grows g g') {k : Nat} {p : Pc π} {L : List π} {n : Int} (hp : OkP kp g k p L) (hr : Rooted p) (hs : ∀ f m, p ≠ .stay f m) (hl : Laid g' k p n) : ∃ c, g' n = some c ∧ CntOk kp g' k c L := by
  cases p with
  | stay f m => exact absurd rfl (hs f m)
  | leaf f ps =>
    cases k with
    | zero =>
      obtain ⟨rfl, h1, h2, _⟩ := hp
      exact ⟨_, hl, rfl, h1, h2⟩
    | succ k => exact hp.elim
  | inner f ks =>
    cases k with
    | zero => exact hp.elim
    | succ k =>
      obtain ⟨M, h1, h2, h3, h4, h5, h6, h7⟩ := hp
      obtain ⟨N, n1, n2, n3⟩ := hl
      have h22 : 2 ≤ ks.length := hr
      have hall := h7 h22
      obtain ⟨P, p1, p2⟩ := beside M N (by rw [h1, n1])
      have hPl : P.length = ks.length := by rw [← h1, ← p1]; simp
      refine ⟨_, n2, P.map fun x => ((x.1.first, x.2.2), x.2.1), ?_, ?_, ?_, ?_, ?_⟩
      · rw [← p2, List.map_map, List.map_map]
        rfl
      · rw [← h2, ← p1, List.map_map, List.map_map]
        rfl
      · intro y hy
        obtain ⟨x, hx, rfl⟩ := List.mem_map.1 hy
        have a1 : (x.1, x.2.1) ∈ M := by rw [← p1]; exact List.mem_map.2 ⟨x, hx, rfl⟩
        have a2 : (x.1, x.2.2) ∈ N := by rw [← p2]; exact List.mem_map.2 ⟨x, hx, rfl⟩
        have a3 : x.1 ∈ ks := by rw [← h1]; exact List.mem_map.2 ⟨_, a1, rfl⟩
        exact laid_blk kp hg k x.1 x.2.1 x.2.2 (h3 _ a1) (hall _ a3) (n3 _ a2)
      · simp only [List.length_map]
        omega
      · simp only [List.length_map]
        omega
end
end Go.Proofs.YtjhdnpplmlddaaaGreat
