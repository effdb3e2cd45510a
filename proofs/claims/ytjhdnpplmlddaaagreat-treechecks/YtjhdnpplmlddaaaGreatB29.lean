import Derived.Test.YtjhdnpplmlddaaaGreatB01
/- Lists that rise by a number (keys as numbers): a list is what its lookups are; to put one in, to strike one out. Plain mathematics, for whatever has keys. -/
namespace Go.Proofs.YtjhdnpplmlddaaaGreat
set_option linter.unusedVariables false

section
variable {α : Type} (key : α → Int)
def Asc (l : List α) : Prop := l.Pairwise fun a b => key a < key b
def look : List α → Int → Option α
  | [], _ => none
  | a :: r, x => if key a = x then some a else look r x
theorem look_key {l : List α} {x : Int} {a : α} (h : look key l x = some a) : a ∈ l ∧ key a = x := by
  induction l with
  | nil => cases h
  | cons b r ih =>
    unfold look at h
    split at h
    · rename_i q
      cases h
      exact ⟨by simp, q⟩
    · have := ih h
      exact ⟨by simp [this.1], this.2⟩
theorem look_none {l : List α} {x : Int} : look key l x = none ↔ ∀ a ∈ l, key a ≠ x := by
  induction l with
  | nil => simp [look]
  | cons b r ih =>
    unfold look
    split
    · rename_i q
      simp [q]
    · rename_i q
      rw [ih]
      simp [q]
theorem look_low {l : List α} {x : Int} (h : ∀ a ∈ l, x < key a) : look key l x = none := (look_none key).2 fun a ha q => by have := h a ha; omega
theorem look_mem {l : List α} (h : Asc key l) {a : α} (ha : a ∈ l) : look key l (key a) = some a := by
  induction l with
  | nil => cases ha
  | cons b r ih =>
    have hp := List.pairwise_cons.1 h
    unfold look
    rcases List.mem_cons.1 ha with rfl | hr
    · rw [if_pos rfl]
    · have := hp.1 a hr
      rw [if_neg (by omega)]
      exact ih hp.2 hr
/-- A rising list is what its lookups are. -/
theorem asc_ext : ∀ {l m : List α}, Asc key l → Asc key m → (∀ x, look key l x = look key m x) → l = m
  | [], [], _, _, _ => rfl
  | [], b :: s, _, _, h => by
    have := h (key b)
    simp [look] at this
  | a :: r, [], _, _, h => by
    have := h (key a)
    simp [look] at this
  | a :: r, b :: s, hl, hm, h => by
    have pl := List.pairwise_cons.1 hl
    have pm := List.pairwise_cons.1 hm
    have ha := h (key a)
    have hb := h (key b)
    simp only [look, if_true] at ha hb
    rcases Int.lt_trichotomy (key a) (key b) with q | q | q
    · rw [if_neg (by omega), look_low key (fun c hc => by have := pm.1 c hc; omega)] at ha
      cases ha
    · rw [if_pos q.symm] at ha
      cases ha
      have : r = s := asc_ext pl.2 pm.2 fun x => by
        have hx := h x
        simp only [look] at hx
        by_cases e : key a = x
        · rw [look_low key (fun c hc => by have := pl.1 c hc; omega), look_low key (fun c hc => by have := pm.1 c hc; omega)]
        · rwa [if_neg e, if_neg e] at hx
      rw [this]
    · rw [if_neg (by omega), look_low key (fun c hc => by have := pl.1 c hc; omega)] at hb
      cases hb
/-- One more, in its place; whoever stood there gives way. -/
def putA : List α → α → List α
  | [], p => [p]
  | a :: r, p => if key a < key p then a :: putA r p else if key a = key p then p :: r else p :: a :: r
/-- Without one. -/
def delA : List α → Int → List α
  | [], _ => []
  | a :: r, x => if key a < x then a :: delA r x else if key a = x then r else a :: r
def posA (l : List α) (x : Int) : Nat := (l.takeWhile fun a => decide (key a < x)).length
def hitA (l : List α) (x : Int) : Bool := decide ((l[posA key l x]?).map key = some x)
theorem posA_le (l : List α) (x : Int) : posA key l x ≤ l.length := (List.takeWhile_prefix _).length_le
theorem posA_lt {a : α} {r : List α} {x : Int} (h : key a < x) : posA key (a :: r) x = posA key r x + 1 := by unfold posA; rw [List.takeWhile_cons_of_pos (by simpa using h)]; rfl
theorem posA_ge {a : α} {r : List α} {x : Int} (h : ¬ key a < x) : posA key (a :: r) x = 0 := by unfold posA; rw [List.takeWhile_cons_of_neg (by simpa using h)]; rfl
theorem posA_eq (l : List α) (x : Int) (k : Nat) (h1 : ∀ j (hj : j < l.length), j < k → key l[j] < x) (hk : k ≤ l.length) (h2 : ∀ h : k < l.length, ¬ key l[k] < x) : posA key l x = k := by
  induction l generalizing k with
  | nil => simp at hk; subst hk; rfl
  | cons z r ih =>
    cases k with
    | zero => exact posA_ge key (h2 (Nat.zero_lt_succ _))
    | succ k =>
      rw [posA_lt (a := z) key (h1 0 (Nat.zero_lt_succ _) (Nat.zero_lt_succ _))]
      rw [ih k (fun j hj hjk => by have := h1 (j + 1) (by simpa using hj) (by omega); simpa using this) (by simpa using hk) (fun h => by have := h2 (by simpa using h); simpa using this)]
theorem putA_at (l : List α) (p : α) : putA key l p = l.take (posA key l (key p)) ++ p :: l.drop (posA key l (key p) + if hitA key l (key p) then 1 else 0) := by
  induction l with
  | nil => simp [putA]
  | cons a r ih =>
    unfold putA
    by_cases h : key a < key p
    · have hh : hitA key (a :: r) (key p) = hitA key r (key p) := by unfold hitA; rw [posA_lt key h]; simp
      rw [if_pos h, posA_lt key h, hh, ih, show ∀ k : Nat, posA key r (key p) + 1 + k = (posA key r (key p) + k) + 1 by intro k; omega]
      simp
    · rw [if_neg h, posA_ge key h]
      by_cases e : key a = key p
      · have hh : hitA key (a :: r) (key p) = true := by unfold hitA; rw [posA_ge key h]; simpa using e
        rw [if_pos e, hh]
        simp
      · have hh : hitA key (a :: r) (key p) = false := by unfold hitA; rw [posA_ge key h]; simpa using e
        rw [if_neg e, hh]
        simp
theorem delA_at (l : List α) (x : Int) : delA key l x = if hitA key l x then l.take (posA key l x) ++ l.drop (posA key l x + 1) else l := by
  induction l with
  | nil => simp [delA]
  | cons a r ih =>
    unfold delA
    by_cases h : key a < x
    · have hh : hitA key (a :: r) x = hitA key r x := by unfold hitA; rw [posA_lt key h]; simp
      rw [if_pos h, posA_lt key h, hh, ih]
      split <;> simp
    · rw [if_neg h, posA_ge key h]
      by_cases e : key a = x
      · have hh : hitA key (a :: r) x = true := by unfold hitA; rw [posA_ge key h]; simpa using e
        rw [if_pos e, hh]
        simp
      · have hh : hitA key (a :: r) x = false := by unfold hitA; rw [posA_ge key h]; simpa using e
        rw [if_neg e, hh]
        simp
theorem putA_mem {l : List α} {p c : α} (h : c ∈ putA key l p) : c ∈ l ∨ c = p := by
  induction l with
  | nil => simpa [putA] using h
  | cons a r ih =>
    unfold putA at h
    split at h
    · rcases List.mem_cons.1 h with rfl | h
      · simp
      · rcases ih h with q | q
        · simp [q]
        · exact .inr q
    · split at h
      · rcases List.mem_cons.1 h with rfl | h
        · exact .inr rfl
        · simp [h]
      · rcases List.mem_cons.1 h with rfl | h
        · exact .inr rfl
        · exact .inl h
theorem delA_mem {l : List α} {x : Int} {c : α} (h : c ∈ delA key l x) : c ∈ l := by
  induction l with
  | nil => exact h
  | cons a r ih =>
    unfold delA at h
    split at h
    · rcases List.mem_cons.1 h with rfl | h
      · simp
      · simp [ih h]
    · split at h
      · simp [h]
      · exact h
theorem putA_asc {l : List α} (p : α) (h : Asc key l) : Asc key (putA key l p) := by
  induction l with
  | nil => simp [putA, Asc]
  | cons a r ih =>
    have hp := List.pairwise_cons.1 h
    unfold putA
    split
    · rename_i q
      refine List.pairwise_cons.2 ⟨fun c hc => ?_, ih hp.2⟩
      rcases putA_mem key hc with m | rfl
      · exact hp.1 c m
      · exact q
    · split
      · rename_i e
        exact List.pairwise_cons.2 ⟨fun c hc => by have := hp.1 c hc; omega, hp.2⟩
      · refine List.pairwise_cons.2 ⟨fun c hc => ?_, h⟩
        rcases List.mem_cons.1 hc with rfl | hc
        · omega
        · have := hp.1 c hc
          omega
theorem delA_asc {l : List α} (x : Int) (h : Asc key l) : Asc key (delA key l x) := by
  induction l with
  | nil => exact h
  | cons a r ih =>
    have hp := List.pairwise_cons.1 h
    unfold delA
    split
    · exact List.pairwise_cons.2 ⟨fun c hc => hp.1 c (delA_mem key hc), ih hp.2⟩
    · split
      · exact hp.2
      · exact h
theorem putA_look {l : List α} (p : α) (x : Int) : Asc key l → look key (putA key l p) x = if key p = x then some p else look key l x := by
  induction l with
  | nil => intro _; simp [putA, look]
  | cons a r ih =>
    intro h
    have hp := List.pairwise_cons.1 h
    unfold putA
    split
    · simp only [look]
      rw [ih hp.2]
      by_cases e : key a = x
      · rw [if_pos e, if_neg (by omega), if_pos e]
      · rw [if_neg e, if_neg e]
    · split
      · simp only [look]
        by_cases e : key p = x
        · rw [if_pos e, if_pos e]
        · rw [if_neg e, if_neg e, if_neg (by omega)]
      · simp only [look]
theorem delA_look {l : List α} (y x : Int) : Asc key l → look key (delA key l y) x = if y = x then none else look key l x := by
  induction l with
  | nil => intro _; simp [delA, look]
  | cons a r ih =>
    intro h
    have hp := List.pairwise_cons.1 h
    unfold delA
    split
    · simp only [look]
      rw [ih hp.2]
      by_cases e : key a = x
      · rw [if_pos e, if_neg (by omega), if_pos e]
      · rw [if_neg e, if_neg e]
    · split
      · rename_i e2
        by_cases e : y = x
        · rw [if_pos e]
          exact look_low key fun c hc => by have := hp.1 c hc; omega
        · rw [if_neg e]
          simp only [look]
          rw [if_neg (by omega)]
      · by_cases e : y = x
        · rw [if_pos e]
          refine look_low key fun c hc => ?_
          rcases List.mem_cons.1 hc with rfl | hc
          · omega
          · have := hp.1 c hc
            omega
        · rw [if_neg e]
theorem putA_len (l : List α) (p : α) : (putA key l p).length ≤ l.length + 1 := by
  induction l with
  | nil => simp [putA]
  | cons a r ih =>
    unfold putA
    split
    · simp only [List.length_cons]; omega
    · split <;> simp
theorem delA_len (l : List α) (x : Int) : (delA key l x).length ≤ l.length := by
  induction l with
  | nil => simp [delA]
  | cons a r ih =>
    unfold delA
    split
    · simp only [List.length_cons]; omega
    · split <;> simp
/-- What the document's find tells. -/
theorem hitA_look {l : List α} (x : Int) : Asc key l → look key l x = if hitA key l x then l[posA key l x]? else none := by
  induction l with
  | nil => intro _; simp [look]
  | cons a r ih =>
    intro h
    have hp := List.pairwise_cons.1 h
    by_cases q : key a < x
    · have hh : hitA key (a :: r) x = hitA key r x := by unfold hitA; rw [posA_lt key q]; simp
      simp only [look]
      rw [if_neg (by omega), hh, posA_lt key q, ih hp.2]
      simp
    · rw [posA_ge key q]
      by_cases e : key a = x
      · have hh : hitA key (a :: r) x = true := by unfold hitA; rw [posA_ge key q]; simpa using e
        simp [look, e, hh]
      · have hh : hitA key (a :: r) x = false := by unfold hitA; rw [posA_ge key q]; simpa using e
        rw [hh]
        exact look_low key fun c hc => by
          rcases List.mem_cons.1 hc with rfl | hc
          · omega
          · have := hp.1 c hc
            omega
end
end Go.Proofs.YtjhdnpplmlddaaaGreat
/- Pairs with changes, both rising by keys (tree's merge): plain mathematics, for stage 7. -/
namespace Go.Proofs.YtjhdnpplmlddaaaGreat
set_option linter.unusedVariables false

section
variable {π χ : Type} (kp : π → Int) (kc : χ → Int) (mk : χ → Option π)
def lowP (ps : List π) (x : Int) : List π := ps.takeWhile fun p => decide (kp p < x)
def highP (ps : List π) (x : Int) : List π := ps.dropWhile fun p => decide (kp p < x)
/-- Without a first one of this key. -/
def strikeP : List π → Int → List π
  | [], _ => []
  | p :: r, x => if kp p = x then r else p :: r
theorem strike_cons (p : π) (r : List π) (x : Int) : strikeP kp (p :: r) x = if kp p = x then r else p :: r := rfl
def hitP : List π → Int → Bool
  | [], _ => false
  | p :: _, x => decide (kp p = x)
def mergeP : List π → List χ → List π
  | ps, [] => ps
  | ps, c :: l => lowP kp ps (kc c) ++ ((mk c).toList ++ mergeP (strikeP kp (highP kp ps (kc c)) (kc c)) l)
/-- Was one taken away, or laid down? -/
def changedP : List π → List χ → Bool
  | _, [] => false
  | ps, c :: l => (hitP kp (highP kp ps (kc c)) (kc c) || (mk c).isSome) || changedP (strikeP kp (highP kp ps (kc c)) (kc c)) l

theorem low_high (ps : List π) (x : Int) : lowP kp ps x ++ highP kp ps x = ps := List.takeWhile_append_dropWhile
theorem low_lt {ps : List π} {x : Int} : ∀ p ∈ lowP kp ps x, kp p < x := fun p hp => by
  induction ps with
  | nil => cases hp
  | cons q r ih =>
    unfold lowP at hp
    rw [List.takeWhile_cons] at hp
    split at hp
    · rename_i hq
      rcases List.mem_cons.1 hp with rfl | h
      · simpa using hq
      · exact ih h
    · cases hp
theorem high_ge {ps : List π} (h : Asc kp ps) {x : Int} : ∀ p ∈ highP kp ps x, x ≤ kp p := by
  induction ps with
  | nil => intro p hp; cases hp
  | cons q r ih =>
    intro p hp
    have hq := List.pairwise_cons.1 h
    unfold highP at hp
    rw [List.dropWhile_cons] at hp
    split at hp
    · exact ih hq.2 p hp
    · rename_i hn
      have hn' : x ≤ kp q := by simpa using hn
      rcases List.mem_cons.1 hp with rfl | hr
      · exact hn'
      · have := hq.1 p hr
        omega
theorem high_asc {ps : List π} (h : Asc kp ps) (x : Int) : Asc kp (highP kp ps x) := List.Pairwise.sublist (List.dropWhile_sublist _) h
theorem low_asc {ps : List π} (h : Asc kp ps) (x : Int) : Asc kp (lowP kp ps x) := List.Pairwise.sublist (List.takeWhile_sublist _) h
theorem strike_asc {ps : List π} (h : Asc kp ps) (x : Int) : Asc kp (strikeP kp ps x) := by
  cases ps with
  | nil => exact h
  | cons p r =>
    rw [strike_cons]
    split
    · exact (List.pairwise_cons.1 h).2
    · exact h
theorem strike_sub (ps : List π) (x : Int) : ∀ p ∈ strikeP kp ps x, p ∈ ps := by
  cases ps with
  | nil => intro p hp; exact hp
  | cons q r =>
    intro p hp
    rw [strike_cons] at hp
    split at hp
    · simp [hp]
    · exact hp
theorem high_sub (ps : List π) (x : Int) : ∀ p ∈ highP kp ps x, p ∈ ps := fun _ hp => (List.dropWhile_sublist _).subset hp
/-- What is left behind a change's key is behind it. -/
theorem rest_gt {ps : List π} (h : Asc kp ps) (x : Int) : ∀ p ∈ strikeP kp (highP kp ps x) x, x < kp p := by
  have hg := high_ge kp h (x := x)
  have ha := high_asc kp h x
  generalize highP kp ps x = q at *
  cases q with
  | nil => intro p hp; cases hp
  | cons a r =>
    intro p hp
    have hr := List.pairwise_cons.1 ha
    have h1 := hg a (by simp)
    rw [strike_cons] at hp
    split at hp
    · rename_i e
      have := hr.1 p hp
      omega
    · rename_i e
      rcases List.mem_cons.1 hp with rfl | hm
      · omega
      · have := hr.1 p hm
        omega
theorem look_append {a b : List π} {x : Int} (h : ∀ p ∈ a, kp p ≠ x) : look kp (a ++ b) x = look kp b x := by
  induction a with
  | nil => rfl
  | cons p r ih =>
    rw [List.cons_append, look, if_neg (h p (by simp))]
    exact ih fun q hq => h q (by simp [hq])
theorem look_append_left {a b : List π} {x : Int} (h : ∀ p ∈ b, kp p ≠ x) : look kp (a ++ b) x = look kp a x := by
  induction a with
  | nil => rw [List.nil_append]; exact (look_none kp).2 h
  | cons p r ih =>
    rw [List.cons_append, look, look]
    split
    · rfl
    · exact ih
/-- Each of the merged is one of the pairs, or one that a change laid down. -/
theorem merge_mem : ∀ (l : List χ) (ps : List π) (p : π), p ∈ mergeP kp kc mk ps l → p ∈ ps ∨ ∃ c ∈ l, mk c = some p
  | [], ps, p, h => .inl h
  | c :: l, ps, p, h => by
    unfold mergeP at h
    simp only [List.mem_append, Option.mem_toList] at h
    rcases h with h | h | h
    · exact .inl ((List.takeWhile_sublist _).subset h)
    · exact .inr ⟨c, by simp, h⟩
    · rcases merge_mem l _ p h with h | ⟨c', h1, h2⟩
      · exact .inl (high_sub kp ps _ p (strike_sub kp _ _ p h))
      · exact .inr ⟨c', by simp [h1], h2⟩
/-- What changes nothing leaves it. -/
theorem merge_same : ∀ (l : List χ) (ps : List π), changedP kp kc mk ps l = false → mergeP kp kc mk ps l = ps
  | [], ps, _ => rfl
  | c :: l, ps, h => by
    unfold changedP at h
    simp only [Bool.or_eq_false_iff] at h
    obtain ⟨⟨h1, h2⟩, h3⟩ := h
    have hm : mk c = none := by cases hm : mk c with | none => rfl | some q => rw [hm] at h2; cases h2
    have hs : strikeP kp (highP kp ps (kc c)) (kc c) = highP kp ps (kc c) := by
      generalize highP kp ps (kc c) = q at *
      cases q with
      | nil => rfl
      | cons a r =>
        unfold hitP at h1
        rw [strike_cons, if_neg (by simpa using h1)]
    rw [hs] at h3
    unfold mergeP
    rw [hm, hs, merge_same l _ h3]
    simp only [Option.toList_none, List.nil_append]
    exact low_high kp ps (kc c)
theorem merge_length : ∀ (l : List χ) (ps : List π), (mergeP kp kc mk ps l).length ≤ ps.length + l.length
  | [], ps => by simp [mergeP]
  | c :: l, ps => by
    have ih := merge_length l (strikeP kp (highP kp ps (kc c)) (kc c))
    have h1 : (lowP kp ps (kc c)).length + (highP kp ps (kc c)).length = ps.length := by rw [← List.length_append, low_high]
    have h2 : (strikeP kp (highP kp ps (kc c)) (kc c)).length ≤ (highP kp ps (kc c)).length := by
      generalize highP kp ps (kc c) = q
      cases q with
      | nil => exact Nat.le_refl _
      | cons a r => rw [strike_cons]; split <;> simp
    have h3 : (mk c).toList.length ≤ 1 := by cases mk c <;> simp
    unfold mergeP
    simp only [List.length_append, List.length_cons]
    omega
variable (hmk : ∀ c p, mk c = some p → kp p = kc c)
  include hmk
theorem merge_gt {l : List χ} {ps : List π} {x : Int} (h1 : ∀ p ∈ ps, x < kp p) (h2 : ∀ c ∈ l, x < kc c) : ∀ p ∈ mergeP kp kc mk ps l, x < kp p := fun p hp => by
  rcases merge_mem kp kc mk l ps p hp with h | ⟨c, h3, h4⟩
  · exact h1 p h
  · rw [hmk c p h4]; exact h2 c h3
theorem merge_lt {l : List χ} {ps : List π} {x : Int} (h1 : ∀ p ∈ ps, kp p < x) (h2 : ∀ c ∈ l, kc c < x) : ∀ p ∈ mergeP kp kc mk ps l, kp p < x := fun p hp => by
  rcases merge_mem kp kc mk l ps p hp with h | ⟨c, h3, h4⟩
  · exact h1 p h
  · rw [hmk c p h4]; exact h2 c h3
theorem merge_asc : ∀ (l : List χ) (ps : List π), Asc kp ps → Asc kc l → Asc kp (mergeP kp kc mk ps l)
  | [], ps, h, _ => h
  | c :: l, ps, h, hl => by
    have hc := List.pairwise_cons.1 hl
    unfold mergeP
    have hr := rest_gt kp h (kc c)
    have ih := merge_asc l (strikeP kp (highP kp ps (kc c)) (kc c)) (strike_asc kp (high_asc kp h _) _) hc.2
    have hg := merge_gt kp kc mk hmk (l := l) hr hc.1
    refine List.pairwise_append.2 ⟨low_asc kp h _, List.pairwise_append.2 ⟨?_, ih, ?_⟩, ?_⟩
    · cases mk c <;> simp
    · intro a ha b hb
      have ha' : mk c = some a := by simpa using ha
      rw [hmk c a ha']
      exact hg b hb
    · intro a ha b hb
      have h1 := low_lt kp a ha
      rcases List.mem_append.1 hb with hb | hb
      · have hb' : mk c = some b := by simpa using hb
        rw [hmk c b hb']
        exact h1
      · have := hg b hb
        omega
/-- A key has what its change says, or what it had. -/
theorem merge_look : ∀ (l : List χ) (ps : List π), Asc kp ps → Asc kc l → ∀ x, look kp (mergeP kp kc mk ps l) x = (match look kc l x with | some c => mk c | none => look kp ps x)
  | [], ps, _, _, x => rfl
  | c :: l, ps, h, hl, x => by
    have hc := List.pairwise_cons.1 hl
    have hr := rest_gt kp h (kc c)
    have hg := merge_gt kp kc mk hmk (l := l) hr hc.1
    have ih := merge_look l (strikeP kp (highP kp ps (kc c)) (kc c)) (strike_asc kp (high_asc kp h _) _) hc.2 x
    have hlow := low_lt kp (ps := ps) (x := kc c)
    rw [show mergeP kp kc mk ps (c :: l) = lowP kp ps (kc c) ++ ((mk c).toList ++ mergeP kp kc mk (strikeP kp (highP kp ps (kc c)) (kc c)) l) from rfl]
    rcases Int.lt_trichotomy x (kc c) with hx | hx | hx
    · -- below the change's key: only what was low
      have e1 : look kc (c :: l) x = none := (look_none kc).2 (by
        intro d hd
        rcases List.mem_cons.1 hd with rfl | hd
        · omega
        · have := hc.1 d hd; omega)
      rw [e1, look_append_left kp (by
        intro p hp
        rcases List.mem_append.1 hp with hp | hp
        · have hp' : mk c = some p := by simpa using hp
          rw [hmk c p hp']; omega
        · have := hg p hp; omega)]
      conv => rhs; dsimp only; rw [← low_high kp ps (kc c)]
      rw [look_append_left kp (by intro p hp; have := high_ge kp h (x := kc c) p hp; omega)]
    · subst hx
      have e1 : look kc (c :: l) (kc c) = some c := by rw [look, if_pos rfl]
      rw [e1, look_append kp (by intro p hp; have := hlow p hp; omega)]
      dsimp only
      cases hm : mk c with
      | none =>
        simp only [Option.toList_none, List.nil_append]
        exact (look_none kp).2 fun p hp => by have := hg p hp; omega
      | some q =>
        simp only [Option.toList_some, List.cons_append, List.nil_append]
        rw [look, if_pos (hmk c q hm)]
    · have e1 : look kc (c :: l) x = look kc l x := by rw [look, if_neg (by omega)]
      rw [e1, look_append kp (by intro p hp; have := hlow p hp; omega), look_append kp (by
        intro p hp
        have hp' : mk c = some p := by simpa using hp
        rw [hmk c p hp']; omega), ih]
      cases look kc l x with
      | some d => rfl
      | none =>
        dsimp only
        conv => rhs; rw [← low_high kp ps (kc c)]
        rw [look_append kp (by intro p hp; have := hlow p hp; omega)]
        generalize highP kp ps (kc c) = q
        cases q with
        | nil => rfl
        | cons a r =>
          rw [strike_cons]
          split
          · rename_i e
            rw [look, if_neg (by omega)]
          · rfl
/-- Parted at a key, pairs and changes are merged part by part. -/
theorem merge_split {A B : List π} {la lb : List χ} {x : Int} (hA : ∀ p ∈ A, kp p < x) (hB : ∀ p ∈ B, x ≤ kp p) (ha : ∀ c ∈ la, kc c < x) (hb : ∀ c ∈ lb, x ≤ kc c) (sA : Asc kp (A ++ B)) (sl : Asc kc (la ++ lb)) :
    mergeP kp kc mk (A ++ B) (la ++ lb) = mergeP kp kc mk A la ++ mergeP kp kc mk B lb := by
  have a1 := (List.pairwise_append.1 sA).1
  have b1 := (List.pairwise_append.1 sA).2.1
  have a2 := (List.pairwise_append.1 sl).1
  have b2 := (List.pairwise_append.1 sl).2.1
  apply asc_ext kp (merge_asc kp kc mk hmk _ _ sA sl)
  · refine List.pairwise_append.2 ⟨merge_asc kp kc mk hmk _ _ a1 a2, merge_asc kp kc mk hmk _ _ b1 b2, ?_⟩
    intro p hp q hq
    have h1 := merge_lt kp kc mk hmk hA ha p hp
    have h2 := merge_gt kp kc mk hmk (x := x - 1) (fun r hr => by have := hB r hr; omega) (fun c hc => by have := hb c hc; omega) q hq
    omega
  · intro y
    rw [merge_look kp kc mk hmk _ _ sA sl]
    by_cases hy : y < x
    · rw [look_append_left kp (a := mergeP kp kc mk A la) (by
        intro p hp
        have := merge_gt kp kc mk hmk (x := x - 1) (fun r hr => by have := hB r hr; omega) (fun c hc => by have := hb c hc; omega) p hp
        omega), merge_look kp kc mk hmk _ _ a1 a2]
      have e1 : look kc (la ++ lb) y = look kc la y := by
        clear sl a2
        induction la with
        | nil => rw [List.nil_append, (look_none kc).2 (fun c hc => by have := hb c hc; omega)]; rfl
        | cons c r ih =>
          rw [List.cons_append, look, look]
          split
          · rfl
          · exact ih fun d hd => ha d (by simp [hd])
      rw [e1, look_append_left kp (by intro p hp; have := hB p hp; omega)]
    · rw [look_append kp (a := mergeP kp kc mk A la) (by
        intro p hp
        have := merge_lt kp kc mk hmk hA ha p hp
        omega), merge_look kp kc mk hmk _ _ b1 b2]
      have e1 : look kc (la ++ lb) y = look kc lb y := by
        clear sl a2
        induction la with
        | nil => rfl
        | cons c r ih =>
          rw [List.cons_append, look, if_neg (by have := ha c (by simp); omega)]
          exact ih fun d hd => ha d (by simp [hd])
      rw [e1, look_append kp (by intro p hp; have := hA p hp; omega)]
end
end Go.Proofs.YtjhdnpplmlddaaaGreat
