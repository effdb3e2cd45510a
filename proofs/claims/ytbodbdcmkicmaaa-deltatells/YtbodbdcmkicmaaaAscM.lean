/- Lists that rise by a number (keys as numbers): a list is what its lookups are; to put one in, to strike one out. Plain mathematics, for whatever has keys. -/
import Derived.Test.YtbodbdcmkicmaaaBase
namespace Go.Proofs.Ytbodbdcmkicmaaa
set_option linter.unusedVariables false

section
variable {α : Type} (key : α → Int)
def Asc (l : List α) : Prop := l.Pairwise fun a b => key a < key b
def look : List α → Int → Option α
  | [], _ => none
  | a :: r, x => if key a = x then some a else look r x
theorem look_key {l : List α} {x : Int} {a : α} (h : look key l x = some a) : a ∈ l ∧ key a = x := by
  induction l with
  | nil => cases h
  | cons b r ih =>
    unfold look at h
    split at h
    · rename_i q
      cases h
      exact ⟨by simp, q⟩
    · have := ih h
      exact ⟨by simp [this.1], this.2⟩
theorem look_none {l : List α} {x : Int} : look key l x = none ↔ ∀ a ∈ l, key a ≠ x := by
  induction l with
  | nil => simp [look]
  | cons b r ih =>
    unfold look
    split
    · rename_i q
      simp [q]
    · rename_i q
      rw [ih]
      simp [q]
theorem look_low {l : List α} {x : Int} (h : ∀ a ∈ l, x < key a) : look key l x = none := (look_none key).2 fun a ha q => by have := h a ha; omega
theorem look_mem {l : List α} (h : Asc key l) {a : α} (ha : a ∈ l) : look key l (key a) = some a := by
  induction l with
  | nil => cases ha
  | cons b r ih =>
    have hp := List.pairwise_cons.1 h
    unfold look
    rcases List.mem_cons.1 ha with rfl | hr
    · rw [if_pos rfl]
    · have := hp.1 a hr
      rw [if_neg (by omega)]
      exact ih hp.2 hr
/-- A rising list is what its lookups are. -/
theorem asc_ext : ∀ {l m : List α}, Asc key l → Asc key m → (∀ x, look key l x = look key m x) → l = m
  | [], [], _, _, _ => rfl
  | [], b :: s, _, _, h => by
    have := h (key b)
    simp [look] at this
  | a :: r, [], _, _, h => by
    have := h (key a)
    simp [look] at this
  | a :: r, b :: s, hl, hm, h => by
    have pl := List.pairwise_cons.1 hl
    have pm := List.pairwise_cons.1 hm
    have ha := h (key a)
    have hb := h (key b)
    simp only [look, if_true] at ha hb
    rcases Int.lt_trichotomy (key a) (key b) with q | q | q
    · rw [if_neg (by omega), look_low key (fun c hc => by have := pm.1 c hc; omega)] at ha
      cases ha
    · rw [if_pos q.symm] at ha
      cases ha
      have : r = s := asc_ext pl.2 pm.2 fun x => by
        have hx := h x
        simp only [look] at hx
        by_cases e : key a = x
        · rw [look_low key (fun c hc => by have := pl.1 c hc; omega), look_low key (fun c hc => by have := pm.1 c hc; omega)]
        · rwa [if_neg e, if_neg e] at hx
      rw [this]
    · rw [if_neg (by omega), look_low key (fun c hc => by have := pl.1 c hc; omega)] at hb
      cases hb
/-- One more, in its place; whoever stood there gives way. -/
def putA : List α → α → List α
  | [], p => [p]
  | a :: r, p => if key a < key p then a :: putA r p else if key a = key p then p :: r else p :: a :: r
/-- Without one. -/
def delA : List α → Int → List α
  | [], _ => []
  | a :: r, x => if key a < x then a :: delA r x else if key a = x then r else a :: r
def posA (l : List α) (x : Int) : Nat := (l.takeWhile fun a => decide (key a < x)).length
def hitA (l : List α) (x : Int) : Bool := decide ((l[posA key l x]?).map key = some x)
theorem posA_le (l : List α) (x : Int) : posA key l x ≤ l.length := (List.takeWhile_prefix _).length_le
theorem posA_lt {a : α} {r : List α} {x : Int} (h : key a < x) : posA key (a :: r) x = posA key r x + 1 := by unfold posA; rw [List.takeWhile_cons_of_pos (by simpa using h)]; rfl
theorem posA_ge {a : α} {r : List α} {x : Int} (h : ¬ key a < x) : posA key (a :: r) x = 0 := by unfold posA; rw [List.takeWhile_cons_of_neg (by simpa using h)]; rfl
theorem posA_eq (l : List α) (x : Int) (k : Nat) (h1 : ∀ j (hj : j < l.length), j < k → key l[j] < x) (hk : k ≤ l.length) (h2 : ∀ h : k < l.length, ¬ key l[k] < x) : posA key l x = k := by
  induction l generalizing k with
  | nil => simp at hk; subst hk; rfl
  | cons z r ih =>
    cases k with
    | zero => exact posA_ge key (h2 (Nat.zero_lt_succ _))
    | succ k =>
      rw [posA_lt (a := z) key (h1 0 (Nat.zero_lt_succ _) (Nat.zero_lt_succ _))]
      rw [ih k (fun j hj hjk => by have := h1 (j + 1) (by simpa using hj) (by omega); simpa using this) (by simpa using hk) (fun h => by have := h2 (by simpa using h); simpa using this)]
theorem putA_at (l : List α) (p : α) : putA key l p = l.take (posA key l (key p)) ++ p :: l.drop (posA key l (key p) + if hitA key l (key p) then 1 else 0) := by
  induction l with
  | nil => simp [putA]
  | cons a r ih =>
    unfold putA
    by_cases h : key a < key p
    · have hh : hitA key (a :: r) (key p) = hitA key r (key p) := by unfold hitA; rw [posA_lt key h]; simp
      rw [if_pos h, posA_lt key h, hh, ih, show ∀ k : Nat, posA key r (key p) + 1 + k = (posA key r (key p) + k) + 1 by intro k; omega]
      simp
    · rw [if_neg h, posA_ge key h]
      by_cases e : key a = key p
      · have hh : hitA key (a :: r) (key p) = true := by unfold hitA; rw [posA_ge key h]; simpa using e
        rw [if_pos e, hh]
        simp
      · have hh : hitA key (a :: r) (key p) = false := by unfold hitA; rw [posA_ge key h]; simpa using e
        rw [if_neg e, hh]
        simp
theorem delA_at (l : List α) (x : Int) : delA key l x = if hitA key l x then l.take (posA key l x) ++ l.drop (posA key l x + 1) else l := by
  induction l with
  | nil => simp [delA]
  | cons a r ih =>
    unfold delA
    by_cases h : key a < x
    · have hh : hitA key (a :: r) x = hitA key r x := by unfold hitA; rw [posA_lt key h]; simp
      rw [if_pos h, posA_lt key h, hh, ih]
      split <;> simp
    · rw [if_neg h, posA_ge key h]
      by_cases e : key a = x
      · have hh : hitA key (a :: r) x = true := by unfold hitA; rw [posA_ge key h]; simpa using e
        rw [if_pos e, hh]
        simp
      · have hh : hitA key (a :: r) x = false := by unfold hitA; rw [posA_ge key h]; simpa using e
        rw [if_neg e, hh]
        simp
theorem putA_mem {l : List α} {p c : α} (h : c ∈ putA key l p) : c ∈ l ∨ c = p := by
  induction l with
  | nil => simpa [putA] using h
  | cons a r ih =>
    unfold putA at h
    split at h
    · rcases List.mem_cons.1 h with rfl | h
      · simp
      · rcases ih h with q | q
        · simp [q]
        · exact .inr q
    · split at h
      · rcases List.mem_cons.1 h with rfl | h
        · exact .inr rfl
        · simp [h]
      · rcases List.mem_cons.1 h with rfl | h
        · exact .inr rfl
        · exact .inl h
theorem delA_mem {l : List α} {x : Int} {c : α} (h : c ∈ delA key l x) : c ∈ l := by
  induction l with
  | nil => exact h
  | cons a r ih =>
    unfold delA at h
    split at h
    · rcases List.mem_cons.1 h with rfl | h
      · simp
      · simp [ih h]
    · split at h
      · simp [h]
      · exact h
theorem putA_asc {l : List α} (p : α) (h : Asc key l) : Asc key (putA key l p) := by
  induction l with
  | nil => simp [putA, Asc]
  | cons a r ih =>
    have hp := List.pairwise_cons.1 h
    unfold putA
    split
    · rename_i q
      refine List.pairwise_cons.2 ⟨fun c hc => ?_, ih hp.2⟩
      rcases putA_mem key hc with m | rfl
      · exact hp.1 c m
      · exact q
    · split
      · rename_i e
        exact List.pairwise_cons.2 ⟨fun c hc => by have := hp.1 c hc; omega, hp.2⟩
      · refine List.pairwise_cons.2 ⟨fun c hc => ?_, h⟩
        rcases List.mem_cons.1 hc with rfl | hc
        · omega
        · have := hp.1 c hc
          omega
theorem delA_asc {l : List α} (x : Int) (h : Asc key l) : Asc key (delA key l x) := by
  induction l with
  | nil => exact h
  | cons a r ih =>
    have hp := List.pairwise_cons.1 h
    unfold delA
    split
    · exact List.pairwise_cons.2 ⟨fun c hc => hp.1 c (delA_mem key hc), ih hp.2⟩
    · split
      · exact hp.2
      · exact h
theorem putA_look {l : List α} (p : α) (x : Int) : Asc key l → look key (putA key l p) x = if key p = x then some p else look key l x := by
  induction l with
  | nil => intro _; simp [putA, look]
  | cons a r ih =>
    intro h
    have hp := List.pairwise_cons.1 h
    unfold putA
    split
    · simp only [look]
      rw [ih hp.2]
      by_cases e : key a = x
      · rw [if_pos e, if_neg (by omega), if_pos e]
      · rw [if_neg e, if_neg e]
    · split
      · simp only [look]
        by_cases e : key p = x
        · rw [if_pos e, if_pos e]
        · rw [if_neg e, if_neg e, if_neg (by omega)]
      · simp only [look]
theorem delA_look {l : List α} (y x : Int) : Asc key l → look key (delA key l y) x = if y = x then none else look key l x := by
  induction l with
  | nil => intro _; simp [delA, look]
  | cons a r ih =>
    intro h
    have hp := List.pairwise_cons.1 h
    unfold delA
    split
    · simp only [look]
      rw [ih hp.2]
      by_cases e : key a = x
      · rw [if_pos e, if_neg (by omega), if_pos e]
      · rw [if_neg e, if_neg e]
    · split
      · rename_i e2
        by_cases e : y = x
        · rw [if_pos e]
          exact look_low key fun c hc => by have := hp.1 c hc; omega
        · rw [if_neg e]
          simp only [look]
          rw [if_neg (by omega)]
      · by_cases e : y = x
        · rw [if_pos e]
          refine look_low key fun c hc => ?_
          rcases List.mem_cons.1 hc with rfl | hc
          · omega
          · have := hp.1 c hc
            omega
        · rw [if_neg e]
theorem putA_len (l : List α) (p : α) : (putA key l p).length ≤ l.length + 1 := by
  induction l with
  | nil => simp [putA]
  | cons a r ih =>
    unfold putA
    split
    · simp only [List.length_cons]; omega
    · split <;> simp
theorem delA_len (l : List α) (x : Int) : (delA key l x).length ≤ l.length := by
  induction l with
  | nil => simp [delA]
  | cons a r ih =>
    unfold delA
    split
    · simp only [List.length_cons]; omega
    · split <;> simp
/-- What the document's find tells. -/
theorem hitA_look {l : List α} (x : Int) : Asc key l → look key l x = if hitA key l x then l[posA key l x]? else none := by
  induction l with
  | nil => intro _; simp [look]
  | cons a r ih =>
    intro h
    have hp := List.pairwise_cons.1 h
    by_cases q : key a < x
    · have hh : hitA key (a :: r) x = hitA key r x := by unfold hitA; rw [posA_lt key q]; simp
      simp only [look]
      rw [if_neg (by omega), hh, posA_lt key q, ih hp.2]
      simp
    · rw [posA_ge key q]
      by_cases e : key a = x
      · have hh : hitA key (a :: r) x = true := by unfold hitA; rw [posA_ge key q]; simpa using e
        simp [look, e, hh]
      · have hh : hitA key (a :: r) x = false := by unfold hitA; rw [posA_ge key q]; simpa using e
        rw [hh]
        exact look_low key fun c hc => by
          rcases List.mem_cons.1 hc with rfl | hc
          · omega
          · have := hp.1 c hc
            omega
end
end Go.Proofs.Ytbodbdcmkicmaaa
