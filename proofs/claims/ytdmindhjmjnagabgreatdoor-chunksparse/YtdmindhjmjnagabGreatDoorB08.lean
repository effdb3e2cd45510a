import Derived.Test.YtdmindhjmjnagabGreatDoorB01
import Derived.Sort.Statements
/- Lists that rise by a number (keys as numbers): a list is what its lookups are; to put one in, to strike one out. Plain mathematics, for whatever has keys. -/
namespace Go.Proofs.YtdmindhjmjnagabGreatDoor
set_option linter.unusedVariables false
set_option maxRecDepth 100000

section
variable {α : Type} (key : α → Int)
def Asc (l : List α) : Prop := l.Pairwise fun a b => key a < key b
def look : List α → Int → Option α
  | [], _ => none
  | a :: r, x => if key a = x then some a else look r x
theorem look_key {l : List α} {x : Int} {a : α} (h : look key l x = some a) : a ∈ l ∧ key a = x := by
  induction l with
  | nil => cases h
  | cons b r ih =>
    unfold look at h
    split at h
    · rename_i q
      cases h
      exact ⟨by simp, q⟩
    · have := ih h
      exact ⟨by simp [this.1], this.2⟩
theorem look_none {l : List α} {x : Int} : look key l x = none ↔ ∀ a ∈ l, key a ≠ x := by
  induction l with
  | nil => simp [look]
  | cons b r ih =>
    unfold look
    split
    · rename_i q
      simp [q]
    · rename_i q
      rw [ih]
      simp [q]
theorem look_low {l : List α} {x : Int} (h : ∀ a ∈ l, x < key a) : look key l x = none := (look_none key).2 fun a ha q => by have := h a ha; omega
theorem look_mem {l : List α} (h : Asc key l) {a : α} (ha : a ∈ l) : look key l (key a) = some a := by
  induction l with
  | nil => cases ha
  | cons b r ih =>
    have hp := List.pairwise_cons.1 h
    unfold look
    rcases List.mem_cons.1 ha with rfl | hr
    · rw [if_pos rfl]
    · have := hp.1 a hr
      rw [if_neg (by omega)]
      exact ih hp.2 hr
/-- A rising list is what its lookups are. -/
theorem asc_ext : ∀ {l m : List α}, Asc key l → Asc key m → (∀ x, look key l x = look key m x) → l = m
  | [], [], _, _, _ => rfl
  | [], b :: s, _, _, h => by
    have := h (key b)
    simp [look] at this
  | a :: r, [], _, _, h => by
    have := h (key a)
    simp [look] at this
  | a :: r, b :: s, hl, hm, h => by
    have pl := List.pairwise_cons.1 hl
    have pm := List.pairwise_cons.1 hm
    have ha := h (key a)
    have hb := h (key b)
    simp only [look, if_true] at ha hb
    rcases Int.lt_trichotomy (key a) (key b) with q | q | q
    · rw [if_neg (by omega), look_low key (fun c hc => by have := pm.1 c hc; omega)] at ha
      cases ha
    · rw [if_pos q.symm] at ha
      cases ha
      have : r = s := asc_ext pl.2 pm.2 fun x => by
        have hx := h x
        simp only [look] at hx
        by_cases e : key a = x
        · rw [look_low key (fun c hc => by have := pl.1 c hc; omega), look_low key (fun c hc => by have := pm.1 c hc; omega)]
        · rwa [if_neg e, if_neg e] at hx
      rw [this]
    · rw [if_neg (by omega), look_low key (fun c hc => by have := pl.1 c hc; omega)] at hb
      cases hb
/-- One more, in its place; whoever stood there gives way. -/
def putA : List α → α → List α
  | [], p => [p]
  | a :: r, p => if key a < key p then a :: putA r p else if key a = key p then p :: r else p :: a :: r
/-- Without one. -/
def delA : List α → Int → List α
  | [], _ => []
  | a :: r, x => if key a < x then a :: delA r x else if key a = x then r else a :: r
def posA (l : List α) (x : Int) : Nat := (l.takeWhile fun a => decide (key a < x)).length
def hitA (l : List α) (x : Int) : Bool := decide ((l[posA key l x]?).map key = some x)
theorem posA_le (l : List α) (x : Int) : posA key l x ≤ l.length := (List.takeWhile_prefix _).length_le
theorem posA_lt {a : α} {r : List α} {x : Int} (h : key a < x) : posA key (a :: r) x = posA key r x + 1 := by unfold posA; rw [List.takeWhile_cons_of_pos (by simpa using h)]; rfl
theorem posA_ge {a : α} {r : List α} {x : Int} (h : ¬ key a < x) : posA key (a :: r) x = 0 := by unfold posA; rw [List.takeWhile_cons_of_neg (by simpa using h)]; rfl
theorem posA_eq (l : List α) (x : Int) (k : Nat) (h1 : ∀ j (hj : j < l.length), j < k → key l[j] < x) (hk : k ≤ l.length) (h2 : ∀ h : k < l.length, ¬ key l[k] < x) : posA key l x = k := by
  induction l generalizing k with
  | nil => simp at hk; subst hk; rfl
  | cons z r ih =>
    cases k with
    | zero => exact posA_ge key (h2 (Nat.zero_lt_succ _))
    | succ k =>
      rw [posA_lt (a := z) key (h1 0 (Nat.zero_lt_succ _) (Nat.zero_lt_succ _))]
      rw [ih k (fun j hj hjk => by have := h1 (j + 1) (by simpa using hj) (by omega); simpa using this) (by simpa using hk) (fun h => by have := h2 (by simpa using h); simpa using this)]
theorem putA_at (l : List α) (p : α) : putA key l p = l.take (posA key l (key p)) ++ p :: l.drop (posA key l (key p) + if hitA key l (key p) then 1 else 0) := by
  induction l with
  | nil => simp [putA]
  | cons a r ih =>
    unfold putA
    by_cases h : key a < key p
    · have hh : hitA key (a :: r) (key p) = hitA key r (key p) := by unfold hitA; rw [posA_lt key h]; simp
      rw [if_pos h, posA_lt key h, hh, ih, show ∀ k : Nat, posA key r (key p) + 1 + k = (posA key r (key p) + k) + 1 by intro k; omega]
      simp
    · rw [if_neg h, posA_ge key h]
      by_cases e : key a = key p
      · have hh : hitA key (a :: r) (key p) = true := by unfold hitA; rw [posA_ge key h]; simpa using e
        rw [if_pos e, hh]
        simp
      · have hh : hitA key (a :: r) (key p) = false := by unfold hitA; rw [posA_ge key h]; simpa using e
        rw [if_neg e, hh]
        simp
theorem delA_at (l : List α) (x : Int) : delA key l x = if hitA key l x then l.take (posA key l x) ++ l.drop (posA key l x + 1) else l := by
  induction l with
  | nil => simp [delA]
  | cons a r ih =>
    unfold delA
    by_cases h : key a < x
    · have hh : hitA key (a :: r) x = hitA key r x := by unfold hitA; rw [posA_lt key h]; simp
      rw [if_pos h, posA_lt key h, hh, ih]
      split <;> simp
    · rw [if_neg h, posA_ge key h]
      by_cases e : key a = x
      · have hh : hitA key (a :: r) x = true := by unfold hitA; rw [posA_ge key h]; simpa using e
        rw [if_pos e, hh]
        simp
      · have hh : hitA key (a :: r) x = false := by unfold hitA; rw [posA_ge key h]; simpa using e
        rw [if_neg e, hh]
        simp
theorem putA_mem {l : List α} {p c : α} (h : c ∈ putA key l p) : c ∈ l ∨ c = p := by
  induction l with
  | nil => simpa [putA] using h
  | cons a r ih =>
    unfold putA at h
    split at h
    · rcases List.mem_cons.1 h with rfl | h
      · simp
      · rcases ih h with q | q
        · simp [q]
        · exact .inr q
    · split at h
      · rcases List.mem_cons.1 h with rfl | h
        · exact .inr rfl
        · simp [h]
      · rcases List.mem_cons.1 h with rfl | h
        · exact .inr rfl
        · exact .inl h
theorem delA_mem {l : List α} {x : Int} {c : α} (h : c ∈ delA key l x) : c ∈ l := by
  induction l with
  | nil => exact h
  | cons a r ih =>
    unfold delA at h
    split at h
    · rcases List.mem_cons.1 h with rfl | h
      · simp
      · simp [ih h]
    · split at h
      · simp [h]
      · exact h
theorem putA_asc {l : List α} (p : α) (h : Asc key l) : Asc key (putA key l p) := by
  induction l with
  | nil => simp [putA, Asc]
  | cons a r ih =>
    have hp := List.pairwise_cons.1 h
    unfold putA
    split
    · rename_i q
      refine List.pairwise_cons.2 ⟨fun c hc => ?_, ih hp.2⟩
      rcases putA_mem key hc with m | rfl
      · exact hp.1 c m
      · exact q
    · split
      · rename_i e
        exact List.pairwise_cons.2 ⟨fun c hc => by have := hp.1 c hc; omega, hp.2⟩
      · refine List.pairwise_cons.2 ⟨fun c hc => ?_, h⟩
        rcases List.mem_cons.1 hc with rfl | hc
        · omega
        · have := hp.1 c hc
          omega
theorem delA_asc {l : List α} (x : Int) (h : Asc key l) : Asc key (delA key l x) := by
  induction l with
  | nil => exact h
  | cons a r ih =>
    have hp := List.pairwise_cons.1 h
    unfold delA
    split
    · exact List.pairwise_cons.2 ⟨fun c hc => hp.1 c (delA_mem key hc), ih hp.2⟩
    · split
      · exact hp.2
      · exact h
theorem putA_look {l : List α} (p : α) (x : Int) : Asc key l → look key (putA key l p) x = if key p = x then some p else look key l x := by
  induction l with
  | nil => intro _; simp [putA, look]
  | cons a r ih =>
    intro h
    have hp := List.pairwise_cons.1 h
    unfold putA
    split
    · simp only [look]
      rw [ih hp.2]
      by_cases e : key a = x
      · rw [if_pos e, if_neg (by omega), if_pos e]
      · rw [if_neg e, if_neg e]
    · split
      · simp only [look]
        by_cases e : key p = x
        · rw [if_pos e, if_pos e]
        · rw [if_neg e, if_neg e, if_neg (by omega)]
      · simp only [look]
theorem delA_look {l : List α} (y x : Int) : Asc key l → look key (delA key l y) x = if y = x then none else look key l x := by
  induction l with
  | nil => intro _; simp [delA, look]
  | cons a r ih =>
    intro h
    have hp := List.pairwise_cons.1 h
    unfold delA
    split
    · simp only [look]
      rw [ih hp.2]
      by_cases e : key a = x
      · rw [if_pos e, if_neg (by omega), if_pos e]
      · rw [if_neg e, if_neg e]
    · split
      · rename_i e2
        by_cases e : y = x
        · rw [if_pos e]
          exact look_low key fun c hc => by have := hp.1 c hc; omega
        · rw [if_neg e]
          simp only [look]
          rw [if_neg (by omega)]
      · by_cases e : y = x
        · rw [if_pos e]
          refine look_low key fun c hc => ?_
          rcases List.mem_cons.1 hc with rfl | hc
          · omega
          · have := hp.1 c hc
            omega
        · rw [if_neg e]
theorem putA_len (l : List α) (p : α) : (putA key l p).length ≤ l.length + 1 := by
  induction l with
  | nil => simp [putA]
  | cons a r ih =>
    unfold putA
    split
    · simp only [List.length_cons]; omega
    · split <;> simp
theorem delA_len (l : List α) (x : Int) : (delA key l x).length ≤ l.length := by
  induction l with
  | nil => simp [delA]
  | cons a r ih =>
    unfold delA
    split
    · simp only [List.length_cons]; omega
    · split <;> simp
/-- What the document's find tells. -/
theorem hitA_look {l : List α} (x : Int) : Asc key l → look key l x = if hitA key l x then l[posA key l x]? else none := by
  induction l with
  | nil => intro _; simp [look]
  | cons a r ih =>
    intro h
    have hp := List.pairwise_cons.1 h
    by_cases q : key a < x
    · have hh : hitA key (a :: r) x = hitA key r x := by unfold hitA; rw [posA_lt key q]; simp
      simp only [look]
      rw [if_neg (by omega), hh, posA_lt key q, ih hp.2]
      simp
    · rw [posA_ge key q]
      by_cases e : key a = x
      · have hh : hitA key (a :: r) x = true := by unfold hitA; rw [posA_ge key q]; simpa using e
        simp [look, e, hh]
      · have hh : hitA key (a :: r) x = false := by unfold hitA; rw [posA_ge key q]; simpa using e
        rw [hh]
        exact look_low key fun c hc => by
          rcases List.mem_cons.1 hc with rfl | hc
          · omega
          · have := hp.1 c hc
            omega
end
end Go.Proofs.YtdmindhjmjnagabGreatDoor
/- Maps, deltas and merges as rising lists: what each is, by its lookups (mathematics for stage 9). -/
namespace Go.Proofs.YtdmindhjmjnagabGreatDoor
set_option linter.unusedVariables false
set_option maxRecDepth 100000

theorem snoc_ind {α : Type} {motive : List α → Prop} (h0 : motive []) (h1 : ∀ l a, motive l → motive (l ++ [a])) (l : List α) : motive l := by
  rw [← List.reverse_reverse l]
  induction l.reverse with
  | nil => exact h0
  | cons a r ih => rw [List.reverse_cons]; exact h1 _ _ ih
section
variable {α : Type} (key : α → Int)
/-- The last one of a key. -/
def lastA (l : List α) (x : Int) : Option α := l.foldl (fun o a => if key a = x then some a else o) none
theorem lastA_snoc (l : List α) (a : α) (x : Int) : lastA key (l ++ [a]) x = if key a = x then some a else lastA key l x := by simp [lastA]
theorem lastA_nil (x : Int) : lastA key [] x = none := rfl
theorem lastA_append (l m : List α) (x : Int) : lastA key (l ++ m) x = (lastA key m x).or (lastA key l x) := by
  induction m using snoc_ind with
  | h0 => simp [lastA_nil]
  | h1 m a ih =>
    rw [← List.append_assoc, lastA_snoc, lastA_snoc, ih]
    split <;> simp
theorem lastA_key {l : List α} {x : Int} {a : α} (h : lastA key l x = some a) : a ∈ l ∧ key a = x := by
  induction l using snoc_ind with
  | h0 => cases h
  | h1 l b ih =>
    rw [lastA_snoc] at h
    split at h
    · rename_i q
      cases h
      exact ⟨by simp, q⟩
    · have := ih h
      exact ⟨by simp [this.1], this.2⟩
theorem lastA_asc {l : List α} (h : Asc key l) (x : Int) : lastA key l x = look key l x := by
  cases e : lastA key l x with
  | some a =>
    obtain ⟨h1, h2⟩ := lastA_key key e
    rw [← h2, look_mem key h h1]
  | none =>
    cases e2 : look key l x with
    | none => rfl
    | some a =>
      obtain ⟨h1, h2⟩ := look_key key e2
      exfalso
      have : ∀ m : List α, a ∈ m → lastA key m x ≠ none := fun m => by
        induction m using snoc_ind with
        | h0 => intro q; cases q
        | h1 m b ih =>
          intro q
          rw [lastA_snoc]
          split
          · simp
          · rename_i r
            rcases List.mem_append.1 q with q | q
            · exact ih q
            · rw [List.mem_singleton] at q
              subst q
              exact absurd h2 r
      exact this l h1 e
/-- All put in, one behind the other. -/
theorem puts_is (l m : List α) (h : Asc key m) : Asc key (l.foldl (putA key) m) ∧ ∀ x, look key (l.foldl (putA key) m) x = (lastA key l x).or (look key m x) := by
  induction l using snoc_ind with
  | h0 => exact ⟨h, fun x => by simp [lastA_nil]⟩
  | h1 l a ih =>
    rw [List.foldl_append]
    refine ⟨putA_asc key a ih.1, fun x => ?_⟩
    show look key (putA key _ a) x = _
    rw [putA_look key a x ih.1, lastA_snoc, ih.2]
    split <;> simp
end
structure Pa where
  k : List UInt8
  h : k.length = 24
  v : List UInt8
structure Ch where
  k : List UInt8
  h : k.length = 24
  v : List UInt8
  g : Bool
def Pa.n (p : Pa) : Int := (num p.k : Int)
def Ch.n (p : Ch) : Int := (num p.k : Int)
def Ch.pa (c : Ch) : Pa := ⟨c.k, c.h, c.v⟩
/-- A change as a delta holds it. -/
def Ch.plain (c : Ch) : Ch := if c.g then ⟨c.k, c.h, [], true⟩ else c
theorem Ch.plain_n (c : Ch) : c.plain.n = c.n := by unfold Ch.plain; split <;> rfl
theorem Ch.plain_plain (c : Ch) : c.plain.plain = c.plain := by
  unfold Ch.plain
  split
  · rfl
  · rfl
/-- What a change makes of what is there. -/
def doneA (o : Option Ch) (p : Option Pa) : Option Pa := match o with
  | none => p
  | some c => if c.g then none else some c.pa
def MapIs (l m : List Pa) : Prop := Asc Pa.n m ∧ ∀ x, look Pa.n m x = lastA Pa.n l x
def ApplyIs (l : List Pa) (c : List Ch) (m : List Pa) : Prop := Asc Pa.n m ∧ ∀ x, look Pa.n m x = doneA (lastA Ch.n c x) (lastA Pa.n l x)
/-- What is to be done that one becomes the other. -/
def diffA : Option Pa → Option Pa → Option Ch
  | none, none => none
  | some p, none => some ⟨p.k, p.h, [], true⟩
  | none, some q => some ⟨q.k, q.h, q.v, false⟩
  | some p, some q => if p.v = q.v then none else some ⟨q.k, q.h, q.v, false⟩
def DiffIs (a b : List Pa) (d : List Ch) : Prop := Asc Ch.n d ∧ ∀ x, look Ch.n d x = diffA (lastA Pa.n a x) (lastA Pa.n b x)
def JoinIs (l d : List Ch) : Prop := Asc Ch.n d ∧ ∀ x, look Ch.n d x = (lastA Ch.n l x).map Ch.plain
theorem MapIs.unique {l m n : List Pa} (h : MapIs l m) (h' : MapIs l n) : m = n := asc_ext Pa.n h.1 h'.1 fun x => by rw [h.2, h'.2]
theorem ApplyIs.unique {l : List Pa} {c : List Ch} {m n : List Pa} (h : ApplyIs l c m) (h' : ApplyIs l c n) : m = n := asc_ext Pa.n h.1 h'.1 fun x => by rw [h.2, h'.2]
theorem DiffIs.unique {a b : List Pa} {d e : List Ch} (h : DiffIs a b d) (h' : DiffIs a b e) : d = e := asc_ext Ch.n h.1 h'.1 fun x => by rw [h.2, h'.2]
theorem JoinIs.unique {l d e : List Ch} (h : JoinIs l d) (h' : JoinIs l e) : d = e := asc_ext Ch.n h.1 h'.1 fun x => by rw [h.2, h'.2]
/-- A map of a map is itself. -/
theorem MapIs.last {l m : List Pa} (h : MapIs l m) (x : Int) : lastA Pa.n m x = lastA Pa.n l x := by rw [lastA_asc Pa.n h.1, h.2]
theorem ApplyIs.last {l : List Pa} {c : List Ch} {m : List Pa} (h : ApplyIs l c m) (x : Int) : lastA Pa.n m x = doneA (lastA Ch.n c x) (lastA Pa.n l x) := by rw [lastA_asc Pa.n h.1, h.2]
theorem DiffIs.last {a b : List Pa} {d : List Ch} (h : DiffIs a b d) (x : Int) : lastA Ch.n d x = diffA (lastA Pa.n a x) (lastA Pa.n b x) := by rw [lastA_asc Ch.n h.1, h.2]
theorem JoinIs.last {l d : List Ch} (h : JoinIs l d) (x : Int) : lastA Ch.n d x = (lastA Ch.n l x).map Ch.plain := by rw [lastA_asc Ch.n h.1, h.2]
/-- The document's Map. -/
theorem map_is (l : List Pa) : MapIs l (l.foldl (putA Pa.n) []) := by
  have := puts_is Pa.n l [] List.Pairwise.nil
  exact ⟨this.1, fun x => by rw [this.2]; simp [look]⟩
def stepA (m : List Pa) (c : Ch) : List Pa := if c.g then delA Pa.n m c.n else putA Pa.n m c.pa
/-- The document's Apply, from its map on. -/
theorem apply_is {l m : List Pa} (h : MapIs l m) (c : List Ch) : ApplyIs l c (c.foldl stepA m) := by
  induction c using snoc_ind with
  | h0 => exact ⟨h.1, fun x => by rw [lastA_nil]; exact h.2 x⟩
  | h1 c a ih =>
    rw [List.foldl_append]
    show ApplyIs l _ (stepA (List.foldl stepA m c) a)
    generalize List.foldl stepA m c = M at ih ⊢
    unfold stepA
    split
    · rename_i hg
      refine ⟨delA_asc Pa.n _ ih.1, fun x => ?_⟩
      rw [delA_look Pa.n _ x ih.1, ih.2, lastA_snoc]
      split
      · simp [doneA, hg]
      · rfl
    · rename_i hg
      refine ⟨putA_asc Pa.n _ ih.1, fun x => ?_⟩
      rw [putA_look Pa.n _ x ih.1, ih.2, lastA_snoc]
      show (if a.n = x then _ else _) = _
      split
      · simp [doneA, hg]
      · rfl
/-- The document's Join: all put in, each as a delta holds it. -/
theorem join_is (l : List Ch) : JoinIs l ((l.map Ch.plain).foldl (putA Ch.n) []) := by
  have h := puts_is Ch.n (l.map Ch.plain) [] List.Pairwise.nil
  refine ⟨h.1, fun x => ?_⟩
  rw [h.2]
  simp only [look, Option.or_none]
  induction l using snoc_ind with
  | h0 => rfl
  | h1 l a ih =>
    rw [List.map_append, List.map_singleton, lastA_snoc, lastA_snoc, Ch.plain_n, ih (puts_is Ch.n _ [] List.Pairwise.nil)]
    split <;> rfl
end Go.Proofs.YtdmindhjmjnagabGreatDoor
/- Sets of keys, as plain mathematics: spans as numbers, clean lists, one set of the same keys; the sweep over edges. -/
namespace Go.Proofs.YtdmindhjmjnagabGreatDoor
set_option linter.unusedVariables false
set_option maxRecDepth 100000
open Go.RowKit

/-! Keys as numbers. -/
theorem foldl_split : ∀ (l : List UInt8) (a : Nat), l.foldl (fun a b => 256 * a + b.toNat) a = a * 256 ^ l.length + num l
  | [], a => by simp [num]
  | b :: l, a => by
    have e : num (b :: l) = List.foldl (fun a b => 256 * a + b.toNat) (256 * 0 + b.toNat) l := rfl
    rw [e, List.foldl_cons, foldl_split l (256 * a + b.toNat), foldl_split l (256 * 0 + b.toNat), List.length_cons, Nat.pow_succ, Nat.add_mul, Nat.add_mul]
    rw [show 256 * a * 256 ^ l.length = a * (256 ^ l.length * 256) by rw [Nat.mul_comm 256 a, Nat.mul_assoc, Nat.mul_comm 256]]
    simp [Nat.add_assoc]
theorem num_cons (b : UInt8) (l : List UInt8) : num (b :: l) = b.toNat * 256 ^ l.length + num l := by
  rw [num, List.foldl_cons, foldl_split]
  simp
theorem less_num : ∀ (K L : List UInt8), K.length = L.length → Op.bytesLess K L = decide (num K < num L)
  | [], [], _ => rfl
  | [], _ :: _, h => by cases h
  | _ :: _, [], h => by cases h
  | a :: xs, b :: ys, h => by
    have hl : xs.length = ys.length := by simpa using h
    have ih := less_num xs ys hl
    have hx := num_lt xs
    have hy := num_lt ys
    rw [Op.bytesLess, num_cons, num_cons, hl, ih]
    rw [hl] at hx
    generalize 256 ^ ys.length = M at *
    have hab : a = b ↔ a.toNat = b.toNat := UInt8.toNat_inj.symm
    have hlt : a < b ↔ a.toNat < b.toNat := UInt8.lt_iff_toNat_lt
    rcases Nat.lt_trichotomy a.toNat b.toNat with h1 | h1 | h1
    · have e : a.toNat * M + num xs < b.toNat * M + num ys := by
        have := Nat.mul_le_mul_right M (show a.toNat + 1 ≤ b.toNat from h1)
        rw [Nat.add_mul, Nat.one_mul] at this
        omega
      have n1 : a < b := hlt.2 h1
      simp [n1, e]
    · have e : a = b := hab.2 h1
      subst e
      simp
    · have e : ¬ a.toNat * M + num xs < b.toNat * M + num ys := by
        have := Nat.mul_le_mul_right M (show b.toNat + 1 ≤ a.toNat from h1)
        rw [Nat.add_mul, Nat.one_mul] at this
        omega
      have n1 : ¬ a < b := fun q => by have := hlt.1 q; omega
      have n2 : ¬ a = b := fun q => by have := hab.1 q; omega
      simp [n1, n2, e]
theorem num_inj : ∀ (K L : List UInt8), K.length = L.length → num K = num L → K = L
  | [], [], _, _ => rfl
  | [], _ :: _, h, _ => by cases h
  | _ :: _, [], h, _ => by cases h
  | a :: xs, b :: ys, h, he => by
    have hl : xs.length = ys.length := by simpa using h
    have hx := num_lt xs
    have hy := num_lt ys
    rw [num_cons, num_cons, hl] at he
    rw [hl] at hx
    have h0 : a.toNat = b.toNat := by
      generalize 256 ^ ys.length = M at *
      rcases Nat.lt_trichotomy a.toNat b.toNat with h1 | h1 | h1
      · have := Nat.mul_le_mul_right M (show a.toNat + 1 ≤ b.toNat from h1)
        rw [Nat.add_mul, Nat.one_mul] at this
        omega
      · exact h1
      · have := Nat.mul_le_mul_right M (show b.toNat + 1 ≤ a.toNat from h1)
        rw [Nat.add_mul, Nat.one_mul] at this
        omega
    rw [h0] at he
    rw [UInt8.toNat_inj.1 h0, num_inj xs ys hl (by omega)]

/-! Spans. -/
structure Sp where
  F : List UInt8
  T : List UInt8
  e : Bool
  hF : F.length = 24
  hT : T.length = 24
theorem Sp.ext' {s u : Sp} (h1 : s.F = u.F) (h2 : s.T = u.T) (h3 : s.e = u.e) : s = u := by
  cases s; cases u; simp at h1 h2 h3; subst h1 h2 h3; rfl
/-- Is the key of this number in the span? -/
def Sp.inb (s : Sp) (x : Int) : Bool := decide ((num s.F : Int) ≤ x) && (s.e || decide (x < (num s.T : Int)))
def mem (l : List Sp) (x : Int) : Bool := l.any fun s => s.inb x
theorem mem_nil (x : Int) : mem [] x = false := rfl
theorem mem_cons (s : Sp) (l : List Sp) (x : Int) : mem (s :: l) x = (s.inb x || mem l x) := rfl
theorem mem_append (l m : List Sp) (x : Int) : mem (l ++ m) x = (mem l x || mem m x) := by simp [mem]
/-- A set that begins above lo. -/
def SetFrom : Int → List Sp → Prop
  | _, [] => True
  | lo, s :: r => lo < (num s.F : Int) ∧ (s.e = true ∧ r = [] ∧ s.T = zs 24 ∨ s.e = false ∧ (num s.F : Int) < (num s.T : Int) ∧ SetFrom (num s.T) r)
theorem SetFrom.lt : ∀ {lo : Int} {l : List Sp} {x : Int}, SetFrom lo l → mem l x = true → lo < x
  | _, [], _, _, h => by cases h
  | lo, s :: r, x, ⟨h1, h2⟩, h => by
    rw [mem_cons, Bool.or_eq_true] at h
    rcases h with h | h
    · simp only [Sp.inb, Bool.and_eq_true, decide_eq_true_eq] at h
      omega
    · rcases h2 with ⟨_, rfl, _⟩ | ⟨_, h3, h4⟩
      · cases h
      · have := SetFrom.lt h4 h
        omega
theorem SetFrom.mono {lo lo' : Int} {l : List Sp} (h : SetFrom lo l) (hl : lo' ≤ lo) : SetFrom lo' l := by
  cases l with
  | nil => trivial
  | cons s r => exact ⟨by have := h.1; omega, h.2⟩
theorem SetFrom.first {lo : Int} {s : Sp} {r : List Sp} (h : SetFrom lo (s :: r)) : s.inb (num s.F) = true := by
  rcases h.2 with ⟨h1, _⟩ | ⟨h1, h2, _⟩
  · simp [Sp.inb, h1]
  · simp [Sp.inb, h1, h2]
/-- There is one set of the same keys. -/
theorem SetFrom.unique : ∀ {l m : List Sp} {lo lo' : Int}, SetFrom lo l → SetFrom lo' m → (∀ K : List UInt8, K.length = 24 → mem l (num K) = mem m (num K)) → l = m
  | [], [], _, _, _, _, _ => rfl
  | [], u :: q, _, _, _, hm, h => by
    have := h u.F u.hF
    rw [mem_nil, mem_cons, hm.first] at this
    cases this
  | s :: r, [], _, _, hl, _, h => by
    have := h s.F s.hF
    rw [mem_nil, mem_cons, hl.first] at this
    cases this
  | s :: r, u :: q, lo, lo', hl, hm, h => by
    have lowS : ∀ x : Int, mem (s :: r) x = true → (num s.F : Int) ≤ x := fun x hx => by
      rw [mem_cons, Bool.or_eq_true] at hx
      rcases hx with hx | hx
      · simp only [Sp.inb, Bool.and_eq_true, decide_eq_true_eq] at hx; omega
      · rcases hl.2 with ⟨_, rfl, _⟩ | ⟨_, h3, h4⟩
        · cases hx
        · have := h4.lt hx; omega
    have lowU : ∀ x : Int, mem (u :: q) x = true → (num u.F : Int) ≤ x := fun x hx => by
      rw [mem_cons, Bool.or_eq_true] at hx
      rcases hx with hx | hx
      · simp only [Sp.inb, Bool.and_eq_true, decide_eq_true_eq] at hx; omega
      · rcases hm.2 with ⟨_, rfl, _⟩ | ⟨_, h3, h4⟩
        · cases hx
        · have := h4.lt hx; omega
    have hs := hl.first
    have hu := hm.first
    have e1 : s.F = u.F := by
      apply num_inj _ _ (by rw [s.hF, u.hF])
      have a1 := lowU (num s.F) (by rw [← h s.F s.hF, mem_cons, hs]; rfl)
      have a2 := lowS (num u.F) (by rw [h u.F u.hF, mem_cons, hu]; rfl)
      omega
    have endS : s.e = false → mem (s :: r) (num s.T) = false := fun he => by
      rw [mem_cons, Bool.or_eq_false_iff]
      refine ⟨by simp [Sp.inb, he], ?_⟩
      rcases hl.2 with ⟨h1, _⟩ | ⟨_, _, h4⟩
      · rw [he] at h1; cases h1
      · cases hx : mem r (num s.T) with
        | false => rfl
        | true => have := h4.lt hx; omega
    have endU : u.e = false → mem (u :: q) (num u.T) = false := fun he => by
      rw [mem_cons, Bool.or_eq_false_iff]
      refine ⟨by simp [Sp.inb, he], ?_⟩
      rcases hm.2 with ⟨h1, _⟩ | ⟨_, _, h4⟩
      · rw [he] at h1; cases h1
      · cases hx : mem q (num u.T) with
        | false => rfl
        | true => have := h4.lt hx; omega
    rcases hl.2 with ⟨se, rfl, sT⟩ | ⟨se, sl, hr⟩
    · rcases hm.2 with ⟨ue, rfl, uT⟩ | ⟨ue, ul, hq⟩
      · rw [Sp.ext' e1 (by rw [sT, uT]) (by rw [se, ue])]
      · have h1 := endU ue
        rw [← h u.T u.hT, mem_cons, Bool.or_eq_false_iff] at h1
        have h2 := h1.1
        simp [Sp.inb, se, e1] at h2
        omega
    · rcases hm.2 with ⟨ue, rfl, uT⟩ | ⟨ue, ul, hq⟩
      · have h1 := endS se
        rw [h s.T s.hT, mem_cons, Bool.or_eq_false_iff] at h1
        have h2 := h1.1
        simp [Sp.inb, ue, ← e1] at h2
        omega
      · have e2 : s.T = u.T := by
          apply num_inj _ _ (by rw [s.hT, u.hT])
          have h1 := endS se
          have h2 := endU ue
          rw [h s.T s.hT, mem_cons, Bool.or_eq_false_iff] at h1
          rw [← h u.T u.hT, mem_cons, Bool.or_eq_false_iff] at h2
          have h3 := h1.1
          have h4 := h2.1
          simp [Sp.inb, ue, ← e1] at h3
          simp [Sp.inb, se, e1] at h4
          rw [e1] at sl h3
          omega
        have e3 : s = u := Sp.ext' e1 e2 (by rw [se, ue])
        subst e3
        have e4 : r = q := SetFrom.unique hr hq fun K hK => by
          have h1 := h K hK
          rw [mem_cons, mem_cons] at h1
          by_cases hx : (num s.T : Int) < num K
          · have : s.inb (num K) = false := by simp [Sp.inb, se]; omega
            rw [this] at h1
            simpa using h1
          · have a1 : mem r (num K) = false := by
              cases hz : mem r (num K) with
              | false => rfl
              | true => exact absurd (hr.lt hz) hx
            have a2 : mem q (num K) = false := by
              cases hz : mem q (num K) with
              | false => rfl
              | true => exact absurd (hq.lt hz) hx
            rw [a1, a2]
        rw [e4]
/-- The set of the keys of which g says so. -/
def Is (l : List Sp) (g : Int → Bool) : Prop := SetFrom (-1) l ∧ ∀ K : List UInt8, K.length = 24 → mem l (num K) = g (num K)
theorem Is.unique {l m : List Sp} {g h : Int → Bool} (hl : Is l g) (hm : Is m h) (he : ∀ K : List UInt8, K.length = 24 → g (num K) = h (num K)) : l = m :=
  hl.1.unique hm.1 fun K hK => by rw [hl.2 K hK, hm.2 K hK, he K hK]
theorem Is.none {l : List Sp} {g : Int → Bool} (hl : Is l g) (h : ∀ K : List UInt8, K.length = 24 → g (num K) = false) : l = [] :=
  hl.unique (m := []) (h := fun _ => false) ⟨trivial, fun _ _ => rfl⟩ h
theorem Is.some {l : List Sp} {g : Int → Bool} (hl : Is l g) (h : l ≠ []) : ∃ K : List UInt8, K.length = 24 ∧ g (num K) = true := by
  cases l with
  | nil => exact absurd rfl h
  | cons s r => exact ⟨s.F, s.hF, by rw [← hl.2 s.F s.hF, mem_cons, hl.1.first]; rfl⟩
end Go.Proofs.YtdmindhjmjnagabGreatDoor
