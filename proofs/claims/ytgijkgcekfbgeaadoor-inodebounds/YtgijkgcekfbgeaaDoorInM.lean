/- Inodes, entries' numbers and chunks as plain data: when one is right, its value, and that there is one of each (mathematics). -/
import Derived.Test.YtgijkgcekfbgeaaDoorPackRd
namespace Go.Proofs.YtgijkgcekfbgeaaDoor
set_option linter.unusedVariables false
open Go.RowKit

/-- An inode: a directory or not, its links, its size. -/
structure Ino where
  d : Bool
  l : Int
  s : Int
theorem Ino.ext' {a b : Ino} (h1 : a.d = b.d) (h2 : a.l = b.l) (h3 : a.s = b.s) : a = b := by
  cases a; cases b; simp_all
def nilI : Ino := ⟨false, 0, 0⟩
def dirI : Ino := ⟨true, 0, 0⟩
def isDir (n : Ino) : Bool := n.d && decide (n.l = 0) && decide (n.s = 0)
def isFil (n : Ino) : Bool := !n.d && decide (1 ≤ n.l) && decide (n.l ≤ 65535) && decide (0 ≤ n.s) && decide (n.s ≤ 1048576)
def rightI (n : Ino) : Bool := isDir n || isFil n
/-- The value of an inode that is right. -/
def valI (n : Ino) : List UInt8 := if n.d = true then [1] else 2 :: (be n.l.toNat 4 ++ be n.s.toNat 4)
def valT (n : Ino) : List UInt8 := if rightI n = true then valI n else []
theorem isDir_eq {n : Ino} (h : isDir n = true) : n = dirI := by
  simp only [isDir, Bool.and_eq_true, decide_eq_true_eq] at h
  exact Ino.ext' h.1.1 h.1.2 h.2
theorem isFil_in {n : Ino} (h : isFil n = true) : n.d = false ∧ 1 ≤ n.l ∧ n.l ≤ 65535 ∧ 0 ≤ n.s ∧ n.s ≤ 1048576 := by
  simp only [isFil, Bool.and_eq_true, decide_eq_true_eq, Bool.not_eq_true'] at h
  exact ⟨h.1.1.1.1, h.1.1.1.2, h.1.1.2, h.1.2, h.2⟩
theorem right_cases {n : Ino} (h : rightI n = true) : n = dirI ∨ (n.d = false ∧ 1 ≤ n.l ∧ n.l ≤ 65535 ∧ 0 ≤ n.s ∧ n.s ≤ 1048576) := by
  rcases Bool.or_eq_true_iff.1 h with h | h
  · exact .inl (isDir_eq h)
  · exact .inr (isFil_in h)
theorem valI_length (n : Ino) : (valI n).length = if n.d = true then 1 else 9 := by
  unfold valI
  split <;> simp [be_length]
theorem valT_length (n : Ino) : (valT n).length ≤ 9 := by
  unfold valT
  split
  · rw [valI_length]; split <;> omega
  · simp

/-- What a reader tells of an inode's value: whichever of both ways it is read. -/
structure SaysI (f : List UInt8 → Ino) : Prop where
  back : ∀ n, rightI n = true → f (valI n) = n
/-- The inode whose value a text is, if there is one. -/
def OfIs (L : List UInt8) (o : Option Ino) : Prop := ∀ n, o = some n ↔ rightI n = true ∧ valI n = L
theorem OfIs.unique {L : List UInt8} {a b : Option Ino} (h : OfIs L a) (k : OfIs L b) : a = b := by
  cases a with
  | none =>
    cases b with
    | none => rfl
    | some n => exact (h n).2 ((k n).1 rfl)
  | some n => exact ((k n).2 ((h n).1 rfl)).symm
def ofI (f : List UInt8 → Ino) (L : List UInt8) : Option Ino := if rightI (f L) = true ∧ valI (f L) = L then some (f L) else none
theorem of_is {f : List UInt8 → Ino} (hf : SaysI f) (L : List UInt8) : OfIs L (ofI f L) := by
  intro n
  unfold ofI
  constructor
  · intro h
    split at h
    next hh => cases h; exact hh
    next => cases h
  · rintro ⟨h1, h2⟩
    have e : f L = n := by rw [← h2]; exact hf.back n h1
    rw [e, if_pos ⟨h1, h2⟩]

/-- The numbers that a reader of a text tells one behind the other. -/
def rd0 (L : List UInt8) : RS := ⟨L, false⟩
def saidI (L : List UInt8) : Ino :=
  if (num ((rd0 L).got 1) : Int) = 1 then dirI
  else if (num ((rd0 L).got 1) : Int) = 2 then ⟨false, num (((rd0 L).take 1).got 4), num ((((rd0 L).take 1).take 4).got 4)⟩
  else nilI
/-- The document's own. -/
def dsaidI (L : List UInt8) : Ino :=
  if (num ((rd0 L).got 1) : Int) = 1 then dirI
  else ⟨false, num (((rd0 L).take 1).got 4), num ((((rd0 L).take 1).take 4).got 4)⟩
theorem got_app (a b : List UInt8) (n : Int) (hn : n = (a.length : Int)) : (rd0 (a ++ b)).got n = a ∧ (rd0 (a ++ b)).take n = rd0 b := by
  subst hn
  unfold RS.got RS.take rd0
  simp only
  have h : ¬ (false = true ∨ (a.length : Int) < 0 ∨ (((a ++ b).length : Nat) : Int) < (a.length : Int)) := by
    rw [List.length_append]
    rintro (h | h | h)
    · cases h
    · omega
    · omega
  rw [if_neg h, if_neg h]
  simp
theorem read_file (n : Ino) (hd : n.d = false) (h1 : 1 ≤ n.l) (h2 : n.l ≤ 65535) (h3 : 0 ≤ n.s) (h4 : n.s ≤ 1048576) :
    (num ((rd0 (valI n)).got 1) : Int) = 2 ∧ (⟨false, num (((rd0 (valI n)).take 1).got 4), num ((((rd0 (valI n)).take 1).take 4).got 4)⟩ : Ino) = n := by
  have e : valI n = [2] ++ (be n.l.toNat 4 ++ (be n.s.toNat 4 ++ [])) := by simp [valI, hd]
  obtain ⟨a1, a2⟩ := got_app [2] (be n.l.toNat 4 ++ (be n.s.toNat 4 ++ [])) 1 rfl
  obtain ⟨b1, b2⟩ := got_app (be n.l.toNat 4) (be n.s.toNat 4 ++ []) 4 (by rw [be_length]; rfl)
  obtain ⟨c1, c2⟩ := got_app (be n.s.toNat 4) [] 4 (by rw [be_length]; rfl)
  rw [e, a1, a2, b1, b2, c1]
  have p4 : (256 : Nat) ^ 4 = 4294967296 := by decide
  rw [num_be 4 _ (by omega), num_be 4 _ (by omega)]
  exact ⟨rfl, Ino.ext' hd.symm (by show ((n.l.toNat : Nat) : Int) = n.l; omega) (by show ((n.s.toNat : Nat) : Int) = n.s; omega)⟩
theorem said_says : SaysI fun L => saidI (L.take 9) := by
  refine ⟨fun n h => ?_⟩
  have hl := valI_length n
  have ht : (valI n).take 9 = valI n := List.take_of_length_le (by rw [hl]; split <;> omega)
  show saidI ((valI n).take 9) = n
  rw [ht]
  rcases right_cases h with rfl | ⟨h0, h1, h2, h3, h4⟩
  · rfl
  · obtain ⟨r1, r2⟩ := read_file n h0 h1 h2 h3 h4
    unfold saidI
    rw [r1, if_neg (by decide), if_pos rfl]
    exact r2
theorem dsaid_says : SaysI dsaidI := by
  refine ⟨fun n h => ?_⟩
  rcases right_cases h with rfl | ⟨h0, h1, h2, h3, h4⟩
  · rfl
  · obtain ⟨r1, r2⟩ := read_file n h0 h1 h2 h3 h4
    unfold dsaidI
    rw [r1, if_neg (by decide)]
    exact r2
theorem num_lt4 (L : List UInt8) (h : L.length ≤ 4) : num L ≤ 4294967295 := by
  have h1 := num_lt L
  have h2 : 256 ^ L.length ≤ 256 ^ 4 := Nat.pow_le_pow_right (by omega) h
  have h3 : (256 : Nat) ^ 4 = 4294967296 := by decide
  omega
theorem got_le (s : RS) (n : Nat) : (s.got n).length ≤ n := by
  have := s.got_length n
  omega

/-- Numbers that an entry may have; their values. -/
def okNum (n : Int) : Bool := decide (1 ≤ n) && decide (n < 1073741824)
def numT (n : Int) : List UInt8 := if okNum n = true then be n.toNat 4 else []
def NmIs (L : List UInt8) (o : Option Int) : Prop := ∀ n, o = some n ↔ okNum n = true ∧ be n.toNat 4 = L
theorem NmIs.unique {L : List UInt8} {a b : Option Int} (h : NmIs L a) (k : NmIs L b) : a = b := by
  cases a with
  | none =>
    cases b with
    | none => rfl
    | some n => exact (h n).2 ((k n).1 rfl)
  | some n => exact ((k n).2 ((h n).1 rfl)).symm
def nmI (f : List UInt8 → Int) (L : List UInt8) : Option Int := if okNum (f L) = true ∧ be (f L).toNat 4 = L then some (f L) else none
theorem okNum_in {n : Int} (h : okNum n = true) : 1 ≤ n ∧ n < 1073741824 := by
  simpa only [okNum, Bool.and_eq_true, decide_eq_true_eq] using h
theorem nm_is {f : List UInt8 → Int} (hf : ∀ n, okNum n = true → f (be n.toNat 4) = n) (L : List UInt8) : NmIs L (nmI f L) := by
  intro n
  unfold nmI
  constructor
  · intro h
    split at h
    next hh => cases h; exact hh
    next => cases h
  · rintro ⟨h1, h2⟩
    have e : f L = n := by rw [← h2]; exact hf n h1
    rw [e, if_pos ⟨h1, h2⟩]
theorem word_back (n : Int) (h : okNum n = true) : (num ((rd0 (be n.toNat 4)).got 4) : Int) = n := by
  obtain ⟨h1, h2⟩ := okNum_in h
  obtain ⟨a1, _⟩ := got_app (be n.toNat 4) [] 4 (by rw [be_length]; rfl)
  rw [List.append_nil] at a1
  have p4 : (256 : Nat) ^ 4 = 4294967296 := by decide
  rw [a1, num_be 4 _ (by omega)]
  omega

/-- Two values that are the same are the same inode's. -/
theorem val_inj {a b : Ino} (ha : rightI a = true) (hb : rightI b = true) (h : valI a = valI b) : a = b := by
  rw [← dsaid_says.back a ha, ← dsaid_says.back b hb, h]
theorem num_inj4 {a b : Int} (ha : okNum a = true) (hb : okNum b = true) (h : be a.toNat 4 = be b.toNat 4) : a = b := by
  rw [← word_back a ha, ← word_back b hb, h]

/-- Noughts at the end, taken away. -/
def trimP (L : List UInt8) : List UInt8 := (L.reverse.dropWhile (· == 0)).reverse
end Go.Proofs.YtgijkgcekfbgeaaDoor
