/- Maps, deltas and merges as rising lists: what each is, by its lookups (mathematics for stage 9). -/
import Derived.Test.YtbodbdcmkicmaaaAscM
import Derived.Test.YtbodbdcmkicmaaaBe
namespace Go.Proofs.Ytbodbdcmkicmaaa
set_option linter.unusedVariables false

theorem snoc_ind {α : Type} {motive : List α → Prop} (h0 : motive []) (h1 : ∀ l a, motive l → motive (l ++ [a])) (l : List α) : motive l := by
  rw [← List.reverse_reverse l]
  induction l.reverse with
  | nil => exact h0
  | cons a r ih => rw [List.reverse_cons]; exact h1 _ _ ih
section
variable {α : Type} (key : α → Int)
/-- The last one of a key. -/
def lastA (l : List α) (x : Int) : Option α := l.foldl (fun o a => if key a = x then some a else o) none
theorem lastA_snoc (l : List α) (a : α) (x : Int) : lastA key (l ++ [a]) x = if key a = x then some a else lastA key l x := by simp [lastA]
theorem lastA_nil (x : Int) : lastA key [] x = none := rfl
theorem lastA_append (l m : List α) (x : Int) : lastA key (l ++ m) x = (lastA key m x).or (lastA key l x) := by
  induction m using snoc_ind with
  | h0 => simp [lastA_nil]
  | h1 m a ih =>
    rw [← List.append_assoc, lastA_snoc, lastA_snoc, ih]
    split <;> simp
theorem lastA_key {l : List α} {x : Int} {a : α} (h : lastA key l x = some a) : a ∈ l ∧ key a = x := by
  induction l using snoc_ind with
  | h0 => cases h
  | h1 l b ih =>
    rw [lastA_snoc] at h
    split at h
    · rename_i q
      cases h
      exact ⟨by simp, q⟩
    · have := ih h
      exact ⟨by simp [this.1], this.2⟩
theorem lastA_asc {l : List α} (h : Asc key l) (x : Int) : lastA key l x = look key l x := by
  cases e : lastA key l x with
  | some a =>
    obtain ⟨h1, h2⟩ := lastA_key key e
    rw [← h2, look_mem key h h1]
  | none =>
    cases e2 : look key l x with
    | none => rfl
    | some a =>
      obtain ⟨h1, h2⟩ := look_key key e2
      exfalso
      have : ∀ m : List α, a ∈ m → lastA key m x ≠ none := fun m => by
        induction m using snoc_ind with
        | h0 => intro q; cases q
        | h1 m b ih =>
          intro q
          rw [lastA_snoc]
          split
          · simp
          · rename_i r
            rcases List.mem_append.1 q with q | q
            · exact ih q
            · rw [List.mem_singleton] at q
              subst q
              exact absurd h2 r
      exact this l h1 e
/-- All put in, one behind the other. -/
theorem puts_is (l m : List α) (h : Asc key m) : Asc key (l.foldl (putA key) m) ∧ ∀ x, look key (l.foldl (putA key) m) x = (lastA key l x).or (look key m x) := by
  induction l using snoc_ind with
  | h0 => exact ⟨h, fun x => by simp [lastA_nil]⟩
  | h1 l a ih =>
    rw [List.foldl_append]
    refine ⟨putA_asc key a ih.1, fun x => ?_⟩
    show look key (putA key _ a) x = _
    rw [putA_look key a x ih.1, lastA_snoc, ih.2]
    split <;> simp
end
structure Pa where
  k : List UInt8
  h : k.length = 24
  v : List UInt8
structure Ch where
  k : List UInt8
  h : k.length = 24
  v : List UInt8
  g : Bool
def Pa.n (p : Pa) : Int := (num p.k : Int)
def Ch.n (p : Ch) : Int := (num p.k : Int)
def Ch.pa (c : Ch) : Pa := ⟨c.k, c.h, c.v⟩
/-- A change as a delta holds it. -/
def Ch.plain (c : Ch) : Ch := if c.g then ⟨c.k, c.h, [], true⟩ else c
theorem Ch.plain_n (c : Ch) : c.plain.n = c.n := by unfold Ch.plain; split <;> rfl
theorem Ch.plain_plain (c : Ch) : c.plain.plain = c.plain := by
  unfold Ch.plain
  split
  · rfl
  · rfl
/-- What a change makes of what is there. -/
def doneA (o : Option Ch) (p : Option Pa) : Option Pa := match o with
  | none => p
  | some c => if c.g then none else some c.pa
def MapIs (l m : List Pa) : Prop := Asc Pa.n m ∧ ∀ x, look Pa.n m x = lastA Pa.n l x
def ApplyIs (l : List Pa) (c : List Ch) (m : List Pa) : Prop := Asc Pa.n m ∧ ∀ x, look Pa.n m x = doneA (lastA Ch.n c x) (lastA Pa.n l x)
/-- What is to be done that one becomes the other. -/
def diffA : Option Pa → Option Pa → Option Ch
  | none, none => none
  | some p, none => some ⟨p.k, p.h, [], true⟩
  | none, some q => some ⟨q.k, q.h, q.v, false⟩
  | some p, some q => if p.v = q.v then none else some ⟨q.k, q.h, q.v, false⟩
def DiffIs (a b : List Pa) (d : List Ch) : Prop := Asc Ch.n d ∧ ∀ x, look Ch.n d x = diffA (lastA Pa.n a x) (lastA Pa.n b x)
def JoinIs (l d : List Ch) : Prop := Asc Ch.n d ∧ ∀ x, look Ch.n d x = (lastA Ch.n l x).map Ch.plain
theorem MapIs.unique {l m n : List Pa} (h : MapIs l m) (h' : MapIs l n) : m = n := asc_ext Pa.n h.1 h'.1 fun x => by rw [h.2, h'.2]
theorem ApplyIs.unique {l : List Pa} {c : List Ch} {m n : List Pa} (h : ApplyIs l c m) (h' : ApplyIs l c n) : m = n := asc_ext Pa.n h.1 h'.1 fun x => by rw [h.2, h'.2]
theorem DiffIs.unique {a b : List Pa} {d e : List Ch} (h : DiffIs a b d) (h' : DiffIs a b e) : d = e := asc_ext Ch.n h.1 h'.1 fun x => by rw [h.2, h'.2]
theorem JoinIs.unique {l d e : List Ch} (h : JoinIs l d) (h' : JoinIs l e) : d = e := asc_ext Ch.n h.1 h'.1 fun x => by rw [h.2, h'.2]
/-- A map of a map is itself. -/
theorem MapIs.last {l m : List Pa} (h : MapIs l m) (x : Int) : lastA Pa.n m x = lastA Pa.n l x := by rw [lastA_asc Pa.n h.1, h.2]
theorem ApplyIs.last {l : List Pa} {c : List Ch} {m : List Pa} (h : ApplyIs l c m) (x : Int) : lastA Pa.n m x = doneA (lastA Ch.n c x) (lastA Pa.n l x) := by rw [lastA_asc Pa.n h.1, h.2]
theorem DiffIs.last {a b : List Pa} {d : List Ch} (h : DiffIs a b d) (x : Int) : lastA Ch.n d x = diffA (lastA Pa.n a x) (lastA Pa.n b x) := by rw [lastA_asc Ch.n h.1, h.2]
theorem JoinIs.last {l d : List Ch} (h : JoinIs l d) (x : Int) : lastA Ch.n d x = (lastA Ch.n l x).map Ch.plain := by rw [lastA_asc Ch.n h.1, h.2]
/-- The document's Map. -/
theorem map_is (l : List Pa) : MapIs l (l.foldl (putA Pa.n) []) := by
  have := puts_is Pa.n l [] List.Pairwise.nil
  exact ⟨this.1, fun x => by rw [this.2]; simp [look]⟩
def stepA (m : List Pa) (c : Ch) : List Pa := if c.g then delA Pa.n m c.n else putA Pa.n m c.pa
/-- The document's Apply, from its map on. -/
theorem apply_is {l m : List Pa} (h : MapIs l m) (c : List Ch) : ApplyIs l c (c.foldl stepA m) := by
  induction c using snoc_ind with
  | h0 => exact ⟨h.1, fun x => by rw [lastA_nil]; exact h.2 x⟩
  | h1 c a ih =>
    rw [List.foldl_append]
    show ApplyIs l _ (stepA (List.foldl stepA m c) a)
    generalize List.foldl stepA m c = M at ih ⊢
    unfold stepA
    split
    · rename_i hg
      refine ⟨delA_asc Pa.n _ ih.1, fun x => ?_⟩
      rw [delA_look Pa.n _ x ih.1, ih.2, lastA_snoc]
      split
      · simp [doneA, hg]
      · rfl
    · rename_i hg
      refine ⟨putA_asc Pa.n _ ih.1, fun x => ?_⟩
      rw [putA_look Pa.n _ x ih.1, ih.2, lastA_snoc]
      show (if a.n = x then _ else _) = _
      split
      · simp [doneA, hg]
      · rfl
/-- The document's Join: all put in, each as a delta holds it. -/
theorem join_is (l : List Ch) : JoinIs l ((l.map Ch.plain).foldl (putA Ch.n) []) := by
  have h := puts_is Ch.n (l.map Ch.plain) [] List.Pairwise.nil
  refine ⟨h.1, fun x => ?_⟩
  rw [h.2]
  simp only [look, Option.or_none]
  induction l using snoc_ind with
  | h0 => rfl
  | h1 l a ih =>
    rw [List.map_append, List.map_singleton, lastA_snoc, lastA_snoc, Ch.plain_n, ih (puts_is Ch.n _ [] List.Pairwise.nil)]
    split <;> rfl
end Go.Proofs.Ytbodbdcmkicmaaa
