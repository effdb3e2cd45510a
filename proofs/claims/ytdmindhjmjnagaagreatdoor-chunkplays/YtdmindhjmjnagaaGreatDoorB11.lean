import Derived.Test.YtdmindhjmjnagaaGreatDoorB05
import Derived.Shelf.SlGeneric
import Derived.Shelf.SlSortCmp.NoneTotal
import Derived.Shelf.SlicesQ.IndexFunc
import Derived.Shelf.SlSorted.Search
import Derived.Ground.SlsfProg
import Derived.Ground.SlgfProg
import Derived.Ground.SlsoProg
import Derived.Test.YtdmindhjmjnagaaGreatDoorChecked
import Derived.Test.YtdmindhjmjnagaaGreatDoorB03
/- SpE SpL SpA -/
namespace Go.Proofs.YtdmindhjmjnagaaGreatDoor
set_option linter.unusedVariables false
set_option maxRecDepth 1000000
set_option maxHeartbeats 32000000
section
open Go.RowKit
structure Ed where
 k : List UInt8
 a : Int
 b : Int
 hk : k.length = 24
instance : Inhabited Ed := ⟨⟨zs 24, 0, 0, rfl⟩⟩
def sumA : List Ed → Int → Int
 | [], _ => 0
 | e :: r, x => (if (num e.k : Int) ≤ x then e.a else 0) + sumA r x
def sumB : List Ed → Int → Int
 | [], _ => 0
 | e :: r, x => (if (num e.k : Int) ≤ x then e.b else 0) + sumB r x
def allA : List Ed → Int
 | [] => 0
 | e :: r => e.a + allA r
def allB : List Ed → Int
 | [] => 0
 | e :: r => e.b + allB r
theorem sumA_app (l m : List Ed) (x : Int) : sumA (l ++ m) x = sumA l x + sumA m x := by
 induction l with
 | nil => simp [sumA]
 | cons e r ih => simp [sumA, ih, Int.add_assoc]
theorem sumB_app (l m : List Ed) (x : Int) : sumB (l ++ m) x = sumB l x + sumB m x := by
 induction l with
 | nil => simp [sumB]
 | cons e r ih => simp [sumB, ih, Int.add_assoc]
theorem allA_app (l m : List Ed) : allA (l ++ m) = allA l + allA m := by
 induction l with
 | nil => simp [allA]
 | cons e r ih => simp [allA, ih, Int.add_assoc]
theorem allB_app (l m : List Ed) : allB (l ++ m) = allB l + allB m := by
 induction l with
 | nil => simp [allB]
 | cons e r ih => simp [allB, ih, Int.add_assoc]
theorem sumA_perm {l m : List Ed} (h : l.Perm m) (x : Int) : sumA l x = sumA m x := by
 induction h with
 | nil => rfl
 | cons e _ ih => simp [sumA, ih]
 | swap e f r => simp only [sumA]; omega
 | trans _ _ i1 i2 => rw [i1, i2]
theorem sumB_perm {l m : List Ed} (h : l.Perm m) (x : Int) : sumB l x = sumB m x := by
 induction h with
 | nil => rfl
 | cons e _ ih => simp [sumB, ih]
 | swap e f r => simp only [sumB]; omega
 | trans _ _ i1 i2 => rw [i1, i2]
theorem sum_low (l : List Ed) (x : Int) (h : ∀ e ∈ l, (num e.k : Int) ≤ x) : sumA l x = allA l ∧ sumB l x = allB l := by
 induction l with
 | nil => exact ⟨rfl, rfl⟩
 | cons e r ih =>
  have h1 := h e (by simp)
  have h2 := ih fun f hf => h f (by simp [hf])
  simp [sumA, sumB, allA, allB, h1, h2.1, h2.2]
theorem sum_high (l : List Ed) (x : Int) (h : ∀ e ∈ l, x < (num e.k : Int)) : sumA l x = 0 ∧ sumB l x = 0 := by
 induction l with
 | nil => exact ⟨rfl, rfl⟩
 | cons e r ih =>
  have h1 : ¬ (num e.k : Int) ≤ x := by have := h e (by simp); omega
  have h2 := ih fun f hf => h f (by simp [hf])
  simp [sumA, sumB, h1, h2.1, h2.2]
theorem sum_flat (l : List Ed) (x y : Int) (h : ∀ e ∈ l, (num e.k : Int) ≤ x ∧ (num e.k : Int) ≤ y ∨ x < (num e.k : Int) ∧ y < (num e.k : Int)) : sumA l x = sumA l y ∧ sumB l x = sumB l y := by
 induction l with
 | nil => exact ⟨rfl, rfl⟩
 | cons e r ih =>
  have h2 := ih fun f hf => h f (by simp [hf])
  rcases h e (by simp) with ⟨a, b⟩ | ⟨a, b⟩
  · simp [sumA, sumB, a, b, h2.1, h2.2]
  · have a' : ¬ (num e.k : Int) ≤ x := by omega
    have b' : ¬ (num e.k : Int) ≤ y := by omega
    simp [sumA, sumB, a', b', h2.1, h2.2]
def Sp.empty (s : Sp) : Bool := !s.inb (num s.F)
def edA (K : List UInt8) (hK : K.length = 24) (m : Int) : Ed := ⟨K, m, 0, hK⟩
def edB (K : List UInt8) (hK : K.length = 24) (m : Int) : Ed := ⟨K, 0, m, hK⟩
def tells (mk : (K : List UInt8) → K.length = 24 → Int → Ed) (s : Sp) : List Ed := if s.empty then [] else mk s.F s.hF 1 :: (if s.e then [] else [mk s.T s.hT (-1)])
def looks (mk : (K : List UInt8) → K.length = 24 → Int → Ed) (l : List Sp) : List Ed := l.flatMap (tells mk)
theorem looks_cons (mk : (K : List UInt8) → K.length = 24 → Int → Ed) (s : Sp) (l : List Sp) : looks mk (s :: l) = tells mk s ++ looks mk l := by simp [looks]
theorem looks_snoc (mk : (K : List UInt8) → K.length = 24 → Int → Ed) (s : Sp) (l : List Sp) : looks mk (l ++ [s]) = looks mk l ++ tells mk s := by simp [looks]
theorem tells_len (mk : (K : List UInt8) → K.length = 24 → Int → Ed) (s : Sp) : (tells mk s).length ≤ 2 := by unfold tells; split <;> simp; split <;> simp
theorem looks_len (mk : (K : List UInt8) → K.length = 24 → Int → Ed) : ∀ (l : List Sp), (looks mk l).length ≤ 2 * l.length
 | [] => by simp [looks]
 | s :: l => by
  have := tells_len mk s
  have := looks_len mk l
  rw [looks_cons, List.length_append, List.length_cons]
  omega
theorem tellsA (s : Sp) (x : Int) : sumA (tells edA s) x = (if s.inb x then 1 else 0) ∧ sumB (tells edA s) x = 0 := by
 unfold tells Sp.empty Sp.inb
 cases he : s.e
 · by_cases h : (num s.F : Int) < num s.T
   · by_cases h1 : (num s.F : Int) ≤ x <;> by_cases h2 : x < (num s.T : Int) <;> by_cases h3 : (num s.T : Int) ≤ x <;> simp [h, h1, h2, h3, sumA, sumB, edA] <;> omega
   · by_cases h1 : (num s.F : Int) ≤ x <;> by_cases h2 : x < (num s.T : Int) <;> simp [h, h1, h2, sumA, sumB] <;> omega
 · by_cases h1 : (num s.F : Int) ≤ x <;> simp [h1, sumA, sumB, edA]
theorem tellsB (s : Sp) (x : Int) : sumB (tells edB s) x = (if s.inb x then 1 else 0) ∧ sumA (tells edB s) x = 0 := by
 unfold tells Sp.empty Sp.inb
 cases he : s.e
 · by_cases h : (num s.F : Int) < num s.T
   · by_cases h1 : (num s.F : Int) ≤ x <;> by_cases h2 : x < (num s.T : Int) <;> by_cases h3 : (num s.T : Int) ≤ x <;> simp [h, h1, h2, h3, sumA, sumB, edB] <;> omega
   · by_cases h1 : (num s.F : Int) ≤ x <;> by_cases h2 : x < (num s.T : Int) <;> simp [h, h1, h2, sumA, sumB] <;> omega
 · by_cases h1 : (num s.F : Int) ≤ x <;> simp [h1, sumA, sumB, edB]
theorem looksA : ∀ (l : List Sp) (x : Int), (0 ≤ sumA (looks edA l) x ∧ (0 < sumA (looks edA l) x ↔ mem l x = true)) ∧ sumB (looks edA l) x = 0
 | [], x => by simp [looks, sumA, sumB, mem]
 | s :: l, x => by
  obtain ⟨⟨h1, h2⟩, h3⟩ := looksA l x
  obtain ⟨h4, h5⟩ := tellsA s x
  rw [looks_cons, sumA_app, sumB_app, h4, h5, mem_cons, h3]
  cases hs : s.inb x
  · simp [h1, h2]
  · simp; omega
theorem looksB : ∀ (l : List Sp) (x : Int), (0 ≤ sumB (looks edB l) x ∧ (0 < sumB (looks edB l) x ↔ mem l x = true)) ∧ sumA (looks edB l) x = 0
 | [], x => by simp [looks, sumA, sumB, mem]
 | s :: l, x => by
  obtain ⟨⟨h1, h2⟩, h3⟩ := looksB l x
  obtain ⟨h4, h5⟩ := tellsB s x
  rw [looks_cons, sumA_app, sumB_app, h4, h5, mem_cons, h3]
  cases hs : s.inb x
  · simp [h1, h2]
  · simp; omega
theorem edges_count (a b : List Sp) (x : Int) : decide (0 < sumA (looks edA a ++ looks edB b) x) = mem a x ∧ decide (0 < sumB (looks edA a ++ looks edB b) x) = mem b x := by
 obtain ⟨⟨_, h2⟩, h3⟩ := looksA a x
 obtain ⟨⟨_, h5⟩, h6⟩ := looksB b x
 rw [sumA_app, sumB_app, h3, h6, Int.add_zero, Int.zero_add]
 constructor
 · rw [Bool.eq_iff_iff]; simpa using h2
 · rw [Bool.eq_iff_iff]; simpa using h5
def opened (S : List Sp) : Bool := match S.getLast? with
 | none => false
 | some s => s.e
def turnP (S : List Sp) (K : List UInt8) (hK : K.length = 24) (on : Bool) : List Sp :=
 if on && !opened S then S ++ [⟨K, zs 24, true, hK, rfl⟩]
 else if !on && opened S then (match S.getLast? with | none => S | some s => S.dropLast ++ [⟨s.F, K, false, s.hF, hK⟩])
 else S
theorem turn_len (S : List Sp) (K : List UInt8) (hK : K.length = 24) (on : Bool) : (turnP S K hK on).length ≤ S.length + 1 := by
 unfold turnP
 split
 · simp
 · split
   · split
     · omega
     · simp
   · omega
def closes (r : List Ed) (e : Ed) : Bool := match r with
 | [] => true
 | f :: _ => decide (f.k ≠ e.k)
def goS (keep : Bool → Bool → Bool) : List Ed → Int → Int → List Sp → List Sp
 | [], _, _, S => S
 | e :: r, A, B, S => goS keep r (A + e.a) (B + e.b) (if closes r e then turnP S e.k e.hk (keep (decide (0 < A + e.a)) (decide (0 < B + e.b))) else S)
theorem goS_len (keep : Bool → Bool → Bool) : ∀ (r : List Ed) (A B : Int) (S : List Sp), (goS keep r A B S).length ≤ S.length + r.length
 | [], _, _, S => by simp [goS]
 | e :: r, A, B, S => by
  rw [goS]
  have h := goS_len keep r (A + e.a) (B + e.b) (if closes r e then turnP S e.k e.hk (keep (decide (0 < A + e.a)) (decide (0 < B + e.b))) else S)
  rw [List.length_cons]
  split at h
  · rename_i hc
    rw [if_pos hc]
    have := turn_len S e.k e.hk (keep (decide (0 < A + e.a)) (decide (0 < B + e.b)))
    omega
  · rename_i hc
    rw [if_neg hc]
    omega
def Upto (S : List Sp) (k : Int) : Prop := ∀ s ∈ S, (num s.F : Int) ≤ k ∧ (s.e = false → (num s.T : Int) ≤ k)
theorem set_snoc : ∀ {lo : Int} {S : List Sp} {k : Int} {K : List UInt8} {hK : K.length = 24}, SetFrom lo S → Upto S k → opened S = false → k < (num K : Int) → lo < (num K : Int) → SetFrom lo (S ++ [⟨K, zs 24, true, hK, rfl⟩])
 | lo, [], k, K, hK, _, _, _, _, h5 => ⟨h5, .inl ⟨rfl, rfl, rfl⟩⟩
 | lo, s :: r, k, K, hK, ⟨h1, h2⟩, hU, hO, h4, h5 => by
  refine ⟨h1, ?_⟩
  rcases h2 with ⟨he, rfl, hT⟩ | ⟨he, h3, hr⟩
  · simp [opened, he] at hO
  · refine .inr ⟨he, h3, set_snoc (k := k) hr (fun u hu => hU u (by simp [hu])) ?_ h4 ?_⟩
    · cases r with
      | nil => rfl
      | cons u q => simpa [opened, List.getLast?_cons_cons] using hO
    · have := (hU s (by simp)).2 he
      omega
theorem set_close : ∀ {lo : Int} {I : List Sp} {s : Sp} {K : List UInt8} {hK : K.length = 24}, SetFrom lo (I ++ [s]) → s.e = true → (num s.F : Int) < (num K : Int) → SetFrom lo (I ++ [⟨s.F, K, false, s.hF, hK⟩])
 | lo, [], s, K, hK, h, _, h2 => ⟨h.1, .inr ⟨rfl, h2, trivial⟩⟩
 | lo, u :: r, s, K, hK, ⟨h1, h2⟩, he, h3 => by
  refine ⟨h1, ?_⟩
  rcases h2 with ⟨_, hr, _⟩ | ⟨ue, hu, hr⟩
  · simp at hr
  · exact .inr ⟨ue, hu, set_close hr he h3⟩
theorem mem_upto {S : List Sp} {k x : Int} (hU : Upto S k) (hx : k ≤ x) (ho : ∀ s ∈ S, s.e = true → False) : mem S x = false := by
 unfold mem
 rw [List.any_eq_false]
 intro s hs
 have h1 := hU s hs
 cases he : s.e with
 | true => exact absurd he (fun h => ho s hs h)
 | false =>
  have := h1.2 he
  simp [Sp.inb, he]
  omega
theorem init_shut : ∀ {lo : Int} {I : List Sp} {s : Sp}, SetFrom lo (I ++ [s]) → ∀ u ∈ I, u.e = true → False
 | _, [], _, _, u, hu, _ => by cases hu
 | lo, v :: r, s, ⟨h1, h2⟩, u, hu, he => by
  rcases h2 with ⟨_, hr, _⟩ | ⟨ve, _, hr⟩
  · simp at hr
  · rcases List.mem_cons.1 hu with rfl | hu
    · rw [ve] at he; cases he
    · exact init_shut hr u hu he
structure Inv (g : Int → Bool) (S : List Sp) (k : Int) : Prop where
 set : SetFrom (-1) S
 upto : Upto S k
 opn : opened S = g k
 mem : ∀ x : Int, 0 ≤ x → Go.Proofs.YtdmindhjmjnagaaGreatDoor.mem S x = g (if x ≤ k then x else k)
 low : -1 ≤ k
theorem Inv.turn {g : Int → Bool} {S : List Sp} {k : Int} (h : Inv g S k) (K : List UInt8) (hK : K.length = 24) (hk : k < (num K : Int)) (hg : ∀ x : Int, k ≤ x → x < (num K : Int) → g x = g k) : Inv g (turnP S K hK (g (num K))) (num K) := by
 have hl := h.low
 have h0 : (-1 : Int) < (num K : Int) := by omega
 have low : ∀ x : Int, 0 ≤ x → x < (num K : Int) → Go.Proofs.YtdmindhjmjnagaaGreatDoor.mem S x = g x := fun x h1 h2 => by
  rw [h.mem x h1]
  split
  · rfl
  · exact (hg x (by omega) h2).symm
 unfold turnP
 cases hon : g (num K) with
 | true =>
  cases hop : opened S with
  | true =>
   simp only [Bool.not_true, Bool.and_false, Bool.false_and, Bool.false_eq_true, if_false]
   refine ⟨h.set, fun s hs => ⟨by have := (h.upto s hs).1; omega, fun q => by have := (h.upto s hs).2 q; omega⟩, by rw [hop, hon], fun x hx => ?_, by omega⟩
   split
   · rename_i hxk
     by_cases hlt : x < (num K : Int)
     · exact low x hx hlt
     · have e : x = (num K : Int) := by omega
       rw [h.mem x hx, if_neg (by omega), ← h.opn, hop, e, hon]
   · rw [h.mem x hx, if_neg (by omega), ← h.opn, hop, hon]
  | false =>
   simp only [Bool.not_false, Bool.and_self, if_true]
   refine ⟨set_snoc h.set h.upto hop hk h0, fun s hs => ?_, by simp [opened, hon], fun x hx => ?_, by omega⟩
   · rcases List.mem_append.1 hs with hs | hs
     · exact ⟨by have := (h.upto s hs).1; omega, fun q => by have := (h.upto s hs).2 q; omega⟩
     · simp at hs
       subst hs
       exact ⟨Int.le_refl _, fun q => by cases q⟩
   · rw [mem_append]
     by_cases hlt : x < (num K : Int)
     · rw [low x hx hlt, if_pos (by omega)]
       have : ¬ (num K : Int) ≤ x := by omega
       simp [Go.Proofs.YtdmindhjmjnagaaGreatDoor.mem, Sp.inb, this]
     · rw [show (if x ≤ (num K : Int) then x else (num K : Int)) = (num K : Int) by split <;> omega, hon]
       have : (num K : Int) ≤ x := by omega
       simp [Go.Proofs.YtdmindhjmjnagaaGreatDoor.mem, Sp.inb, this]
 | false =>
  cases hop : opened S with
  | false =>
   simp only [Bool.not_false, Bool.and_true, Bool.and_false, Bool.false_eq_true, if_false]
   refine ⟨h.set, fun s hs => ⟨by have := (h.upto s hs).1; omega, fun q => by have := (h.upto s hs).2 q; omega⟩, by rw [hop, hon], fun x hx => ?_, by omega⟩
   split
   · rename_i hxk
     by_cases hlt : x < (num K : Int)
     · exact low x hx hlt
     · have e : x = (num K : Int) := by omega
       rw [h.mem x hx, if_neg (by omega), ← h.opn, hop, e, hon]
   · rw [h.mem x hx, if_neg (by omega), ← h.opn, hop, hon]
  | true =>
   simp only [Bool.not_true, Bool.false_eq_true, if_false, Bool.not_false, Bool.and_self, if_true]
   have hne : S ≠ [] := fun e => by subst e; simp [opened] at hop
   obtain ⟨I, s, rfl⟩ : ∃ I s, S = I ++ [s] := ⟨S.dropLast, S.getLast hne, (List.dropLast_concat_getLast hne).symm⟩
   have hse : s.e = true := by simpa [opened] using hop
   simp only [List.getLast?_append, List.getLast?_singleton, Option.some_or, List.dropLast_concat]
   have hsF : (num s.F : Int) < (num K : Int) := by have := (h.upto s (by simp)).1; omega
   have hI := init_shut h.set
   refine ⟨set_close h.set hse hsF, fun u hu => ?_, by simp [opened, hon], fun x hx => ?_, by omega⟩
   · rcases List.mem_append.1 hu with hu | hu
     · have := h.upto u (by simp [hu])
       exact ⟨by have := this.1; omega, fun q => by have := this.2 q; omega⟩
     · simp at hu
       subst hu
       exact ⟨by simp; omega, fun _ => Int.le_refl _⟩
   · by_cases hlt : x < (num K : Int)
     · rw [if_pos (by omega), ← low x hx hlt, mem_append, mem_append]
       congr 1
       simp [Go.Proofs.YtdmindhjmjnagaaGreatDoor.mem, Sp.inb, hse, hlt]
     · rw [show (if x ≤ (num K : Int) then x else (num K : Int)) = (num K : Int) by split <;> omega, hon, mem_append, mem_upto (k := k) (fun u hu => h.upto u (by simp [hu])) (by omega) hI]
       simp [Go.Proofs.YtdmindhjmjnagaaGreatDoor.mem, Sp.inb]
       omega
theorem go_inv (keep : Bool → Bool → Bool) : ∀ (r D : List Ed) (g : Int → Bool) (S : List Sp) (k : Int), (∀ x, g x = keep (decide (0 < sumA (D ++ r) x)) (decide (0 < sumB (D ++ r) x))) → Inv g S k →
    r.Pairwise (fun e f => num e.k ≤ num f.k) → (∀ e ∈ r, k < (num e.k : Int)) → (∀ d ∈ D, (num d.k : Int) ≤ k ∨ ∃ e q, r = e :: q ∧ num d.k = num e.k) →
    ∃ k', Inv g (goS keep r (allA D) (allB D) S) k' ∧ ∀ d ∈ D ++ r, (num d.k : Int) ≤ k'
 | [], D, g, S, k, _, hI, _, _, hD => ⟨k, hI, fun d hd => by
     rcases hD d (by simpa using hd) with h | ⟨e, q, h, _⟩
     · exact h
     · cases h⟩
 | e :: r, D, g, S, k, hg, hI, hs, hr, hD => by
  have hDe : ∀ d ∈ D, (num d.k : Int) ≤ k ∨ num d.k = num e.k := fun d hd => by
   rcases hD d hd with h | ⟨e', q, h, h'⟩
   · exact .inl h
   · cases h; exact .inr h'
  have hke := hr e (by simp)
  have hs' := List.pairwise_cons.1 hs
  have eA : allA (D ++ [e]) = allA D + e.a := by rw [allA_app]; simp [allA]
  have eB : allB (D ++ [e]) = allB D + e.b := by rw [allB_app]; simp [allB]
  have hg' : ∀ x, g x = keep (decide (0 < sumA (D ++ [e] ++ r) x)) (decide (0 < sumB (D ++ [e] ++ r) x)) := fun x => by rw [hg x, List.append_assoc]; rfl
  rw [goS, ← eA, ← eB]
  have key : ∀ S' k', Inv g S' k' → (∀ f ∈ r, k' < (num f.k : Int)) → (∀ d ∈ D ++ [e], (num d.k : Int) ≤ k' ∨ ∃ f q, r = f :: q ∧ num d.k = num f.k) → ∃ k'', Inv g (goS keep r (allA (D ++ [e])) (allB (D ++ [e])) S') k'' ∧ ∀ d ∈ D ++ e :: r, (num d.k : Int) ≤ k'' := fun S' k' h1 h2 h3 => by
   obtain ⟨k'', h4, h5⟩ := go_inv keep r (D ++ [e]) g S' k' hg' h1 hs'.2 h2 h3
   exact ⟨k'', h4, fun d hd => h5 d (by simpa [List.append_assoc] using hd)⟩
  cases hc : closes r e with
  | true =>
   rw [if_pos rfl]
   have hgt : ∀ f ∈ r, (num e.k : Int) < (num f.k : Int) := fun f hf => by
    cases r with
    | nil => cases hf
    | cons f0 q =>
     have h1 : f0.k ≠ e.k := by simpa [closes] using hc
     have h2 := hs'.1 f0 (by simp)
     have h3 : num e.k ≠ num f0.k := fun h => h1 (num_inj _ _ (by rw [f0.hk, e.hk]) h.symm)
     have h4 : num f0.k ≤ num f.k := by
      rcases List.mem_cons.1 hf with rfl | hf
      · exact Nat.le_refl _
      · exact (List.pairwise_cons.1 hs'.2).1 f hf
     omega
   have e1 : g (num e.k) = keep (decide (0 < allA (D ++ [e]))) (decide (0 < allB (D ++ [e]))) := by
    rw [hg' (num e.k), sumA_app, sumB_app (D ++ [e])]
    have hlow : ∀ d ∈ D ++ [e], (num d.k : Int) ≤ (num e.k : Int) := fun d hd => by
     rcases List.mem_append.1 hd with hd | hd
     · rcases hDe d hd with h | h <;> omega
     · simp at hd; subst hd; exact Int.le_refl _
    obtain ⟨a1, a2⟩ := sum_low (D ++ [e]) (num e.k) hlow
    obtain ⟨b1, b2⟩ := sum_high r (num e.k) hgt
    rw [a1, a2, b1, b2, Int.add_zero, Int.add_zero]
   rw [eA, eB] at e1
   rw [eA, eB, ← e1, ← eA, ← eB]
   refine key _ (num e.k) (hI.turn e.k e.hk hke fun x hx1 hx2 => ?_) hgt fun d hd => ?_
   · rw [hg x, hg k]
     obtain ⟨a1, a2⟩ := sum_flat (D ++ e :: r) x k fun d hd => by
      rcases List.mem_append.1 hd with hd | hd
      · rcases hDe d hd with h | h
        · exact .inl ⟨by omega, h⟩
        · exact .inr ⟨by omega, by omega⟩
      · rcases List.mem_cons.1 hd with rfl | hd
        · exact .inr ⟨hx2, hke⟩
        · have := hgt d hd
          exact .inr ⟨by omega, by omega⟩
     rw [a1, a2]
   · refine .inl ?_
     rcases List.mem_append.1 hd with hd | hd
     · rcases hDe d hd with h | h <;> omega
     · simp at hd; subst hd; exact Int.le_refl _
  | false =>
   rw [if_neg (by simp)]
   cases r with
   | nil => simp [closes] at hc
   | cons f q =>
    have h1 : f.k = e.k := by simpa [closes] using hc
    refine key S k hI (fun u hu => hr u (by simp [List.mem_cons.1 hu])) fun d hd => ?_
    rcases List.mem_append.1 hd with hd | hd
    · rcases hDe d hd with h | h
      · exact .inl h
      · exact .inr ⟨f, q, rfl, by rw [h, h1]⟩
    · simp at hd; subst hd
      exact .inr ⟨f, q, rfl, by rw [h1]⟩
theorem sweep_is (keep : Bool → Bool → Bool) (hk : keep false false = false) (a b : List Sp) (es : List Ed) (hp : es.Perm (looks edA a ++ looks edB b)) (hs : es.Pairwise (fun e f => num e.k ≤ num f.k)) :
    Is (goS keep es 0 0 []) fun x => keep (mem a x) (mem b x) := by
 have hg : ∀ x, keep (decide (0 < sumA es x)) (decide (0 < sumB es x)) = keep (mem a x) (mem b x) := fun x => by
  rw [sumA_perm hp, sumB_perm hp, (edges_count a b x).1, (edges_count a b x).2]
 have hneg : ∀ l : List Sp, mem l (-1) = false := fun l => by
  unfold mem
  rw [List.any_eq_false]
  intro s _
  simp [Sp.inb]
  omega
 obtain ⟨k', h1, h2⟩ := go_inv keep es [] (fun x => keep (mem a x) (mem b x)) [] (-1) (fun x => (hg x).symm)
   ⟨trivial, (fun s hs => by cases hs), by simp [opened, hneg, hk], (fun x hx => by rw [if_neg (by omega), hneg, hneg, hk]; rfl), Int.le_refl _⟩ hs (fun e _ => by omega) (fun d hd => by cases hd)
 refine ⟨h1.set, fun K hK => ?_⟩
 have h3 := h1.mem (num K) (by omega)
 refine h3.trans ?_
 split
 · rfl
 · rename_i hx
   show keep (mem a k') (mem b k') = keep (mem a (num K)) (mem b (num K))
   rw [← hg k', ← hg (num K)]
   obtain ⟨a1, a2⟩ := sum_flat es k' (num K) fun d hd => by
    have := h2 d (by simpa using hd)
    exact .inl ⟨this, by omega⟩
   rw [a1, a2]
end
section
open Go.Shelf
def Tryz.sortE_ren : Go.Shelf.Ren := ⟨fun | 6 => 133 | 15 => 163 | 14 => 162 | 28 => 181 | 29 => 182 | 20 => 173 | 21 => 174 | 22 => 175 | 23 => 176 | 24 => 177 | 25 => 178 | 26 => 179 | 27 => 180 | 46 => 196 | 47 => 197 | 48 => 198 | 49 => 199 | 50 => 200 | 57 => 209 | n => n, fun | 22 => 186 | 24 => 189 | 25 => 192 | 3 => 3 | 39 => 125 | 0 => 0 | 53 => 237 | 55 => 239 | 4 => 4 | 46 => 231 | 45 => 230 | 50 => 155 | 5 => 5 | 9 => 9 | 66 => 249 | 70 => 253 | 76 => 263 | 77 => 264 | n => n, fun | n => n⟩
theorem Tryz.sortE : Go.Proofs.SlLaysF0.n6 Tryz.prog Tryz.sortE_ren := {
 mixed := by kernel_rfl
 f6 := ⟨Tryz.f133.name, by decide, Tryz.func133.trans (congrArg some (by kernel_rfl))⟩
 f14 := ⟨Tryz.f162.name, by decide, Tryz.func162.trans (congrArg some (by kernel_rfl))⟩
 f15 := Tryz.func163.trans (congrArg some (by kernel_rfl))
 f20 := ⟨Tryz.f173.name, by decide, Tryz.func173.trans (congrArg some (by kernel_rfl))⟩
 f21 := ⟨Tryz.f174.name, by decide, Tryz.func174.trans (congrArg some (by kernel_rfl))⟩
 f22 := ⟨Tryz.f175.name, by decide, Tryz.func175.trans (congrArg some (by kernel_rfl))⟩
 f23 := ⟨Tryz.f176.name, by decide, Tryz.func176.trans (congrArg some (by kernel_rfl))⟩
 f24 := ⟨Tryz.f177.name, by decide, Tryz.func177.trans (congrArg some (by kernel_rfl))⟩
 f25 := ⟨Tryz.f178.name, by decide, Tryz.func178.trans (congrArg some (by kernel_rfl))⟩
 f26 := ⟨Tryz.f179.name, by decide, Tryz.func179.trans (congrArg some (by kernel_rfl))⟩
 f27 := ⟨Tryz.f180.name, by decide, Tryz.func180.trans (congrArg some (by kernel_rfl))⟩
 f28 := Tryz.func181.trans (congrArg some (by kernel_rfl))
 f29 := Tryz.func182.trans (congrArg some (by kernel_rfl))
 f46 := ⟨Tryz.f196.name, by decide, Tryz.func196.trans (congrArg some (by kernel_rfl))⟩
 f47 := Tryz.func197.trans (congrArg some (by kernel_rfl))
 f48 := Tryz.func198.trans (congrArg some (by kernel_rfl))
 f49 := ⟨Tryz.f199.name, by decide, Tryz.func199.trans (congrArg some (by kernel_rfl))⟩
 f50 := ⟨Tryz.f200.name, by decide, Tryz.func200.trans (congrArg some (by kernel_rfl))⟩
 f57 := ⟨Tryz.f209.name, by decide, Tryz.func209.trans (congrArg some (by kernel_rfl))⟩
 t0 := Tryz.underlying0
 a0 := Tryz.isAgg0
 z0 := Tryz.sizeOf0
 v0 := Tryz.zeroValue0
 t3 := Tryz.underlying3
 a3 := Tryz.isAgg3
 z3 := Tryz.sizeOf3
 v3 := Tryz.zeroValue3
 t4 := Tryz.underlying4
 a4 := Tryz.isAgg4
 z4 := Tryz.sizeOf4
 v4 := Tryz.zeroValue4
 t5 := Tryz.underlying5
 a5 := Tryz.isAgg5
 z5 := Tryz.sizeOf5
 v5 := Tryz.zeroValue5
 t9 := Tryz.underlying9
 a9 := Tryz.isAgg9
 z9 := Tryz.sizeOf9
 v9 := Tryz.zeroValue9
 t22 := Tryz.underlying186
 a22 := Tryz.isAgg186
 z22 := Tryz.sizeOf186
 v22 := Tryz.zeroValue186
 t25 := Tryz.underlying192
 a25 := Tryz.isAgg192
 z25 := Tryz.sizeOf192
 v25 := Tryz.zeroValue192
 t39 := Tryz.underlying125
 a39 := Tryz.isAgg125
 z39 := Tryz.sizeOf125
 v39 := Tryz.zeroValue125
 t45 := Tryz.underlying230
 a45 := Tryz.isAgg230
 z45 := Tryz.sizeOf230
 v45 := Tryz.zeroValue230
 t46 := Tryz.underlying231
 a46 := Tryz.isAgg231
 z46 := Tryz.sizeOf231
 v46 := Tryz.zeroValue231
 t50 := Tryz.underlying155
 a50 := Tryz.isAgg155
 z50 := Tryz.sizeOf155
 v50 := Tryz.zeroValue155
 t53 := Tryz.underlying237
 a53 := Tryz.isAgg237
 z53 := Tryz.sizeOf237
 v53 := Tryz.zeroValue237
 t55 := Tryz.underlying239
 a55 := Tryz.isAgg239
 z55 := Tryz.sizeOf239
 v55 := Tryz.zeroValue239
 t66 := Tryz.underlying249
 a66 := Tryz.isAgg249
 z66 := Tryz.sizeOf249
 v66 := Tryz.zeroValue249
 t70 := Tryz.underlying253
 a70 := Tryz.isAgg253
 z70 := Tryz.sizeOf253
 v70 := Tryz.zeroValue253
 t76 := Tryz.underlying263
 a76 := Tryz.isAgg263
 z76 := Tryz.sizeOf263
 v76 := Tryz.zeroValue263
 t77 := Tryz.underlying264
 a77 := Tryz.isAgg264
 z77 := Tryz.sizeOf264
 v77 := Tryz.zeroValue264 }
end
section
open Go.RowKit
structure Ky where
 k : List UInt8
 h : k.length = 24
instance : Inhabited Ky := ⟨⟨zs 24, rfl⟩⟩
instance : Inhabited Sp := ⟨⟨zs 24, zs 24, false, rfl, rfl⟩⟩
def encS : Enc Sp 49 := ⟨fun s => sc s.F s.T s.e, fun s => by simp [sc, bc_length, s.hF, s.hT], fun s v hv => by
 simp only [sc, List.mem_append, List.mem_singleton] at hv
 rcases hv with (h | h) | rfl
 · exact bc_one _ v h
 · exact bc_one _ v h
 · rfl⟩
def ecd (e : Ed) : List Value := bc e.k ++ [.int .i64 e.a, .int .i64 e.b]
def encE : Enc Ed 26 := ⟨ecd, fun e => by simp [ecd, bc_length, e.hk], fun e v hv => by
 simp only [ecd, List.mem_append, List.mem_cons, List.not_mem_nil, or_false] at hv
 rcases hv with h | rfl | rfl
 · exact bc_one _ v h
 · rfl
 · rfl⟩
abbrev spv (s : Sp) : Value := sv s.F s.T s.e
abbrev edv (e : Ed) : Value := .agg (ecd e).toArray
theorem rowS : RowTy Tryz.prog encS 42 56 49 := ⟨Tryz.underlying42, ⟨.agg (sc (zs 24) (zs 24) false).toArray, by kernel_rfl, by simp [Value.cells, sc, bc_length, zs_length]⟩, by decide⟩
theorem rowE : RowTy Tryz.prog encE 186 189 40 := ⟨Tryz.underlying186, ⟨.agg (ecd ⟨zs 24, 0, 0, rfl⟩).toArray, by kernel_rfl, by simp [Value.cells, ecd, bc_length, zs_length]⟩, by decide⟩
theorem elS : ElTy Tryz.prog encS 56 := ⟨⟨_, Tryz.underlying56, rfl, rfl⟩, Tryz.span_info⟩
theorem elE : ElTy Tryz.prog encE 189 := ⟨⟨_, Tryz.underlying189, rfl, rfl⟩, by kernel_rfl⟩
theorem HasS.inB {w : World} {b : Nat} {s : Sp} (h : HasS w b s.F s.T s.e) : InB encS 56 w b s := ⟨h.blk⟩
theorem range_F {w : World} {g o : Nat} {s : Sp} (h : w.rangeAt g o (encS.c s)) : w.rangeAt g o (bc s.F) := fun j v hv => by
 refine h j v ?_
 show (sc s.F s.T s.e)[j]? = some v
 rw [sc, List.append_assoc, List.getElem?_append_left (List.getElem?_eq_some_iff.1 hv).1]
 exact hv
theorem range_T {w : World} {g o : Nat} {s : Sp} (h : w.rangeAt g o (encS.c s)) : w.rangeAt g (o + 24) (bc s.T) := fun j v hv => by
 have hj := (List.getElem?_eq_some_iff.1 hv).1
 have := h (24 + j) v (by
  show (sc s.F s.T s.e)[24 + j]? = some v
  rw [sc, List.append_assoc, List.getElem?_append_right (by rw [bc_length, s.hF]; omega), bc_length, s.hF, Nat.add_sub_cancel_left, List.getElem?_append_left hj]
  exact hv)
 rwa [← Nat.add_assoc] at this
theorem range_E {w : World} {g o : Nat} {s : Sp} (h : w.rangeAt g o (encS.c s)) : w.cell? ⟨g, o + 48, none⟩ = some (.bool s.e) := by
 refine h 48 _ ?_
 show (sc s.F s.T s.e)[48]? = _
 have hF : (bc s.F).length = 24 := by rw [bc_length, s.hF]
 have hT : (bc s.T).length = 24 := by rw [bc_length, s.hT]
 rw [sc, List.append_assoc, List.getElem?_append_right (by omega), List.getElem?_append_right (by omega), hF, hT]
 rfl
theorem range_k {w : World} {g o : Nat} {e : Ed} (h : w.rangeAt g o (encE.c e)) : w.rangeAt g o (bc e.k) := fun j v hv => by
 refine h j v ?_
 show (ecd e)[j]? = some v
 rw [ecd, List.getElem?_append_left (List.getElem?_eq_some_iff.1 hv).1]
 exact hv
theorem range_ab {w : World} {g o : Nat} {e : Ed} (h : w.rangeAt g o (encE.c e)) : w.cell? ⟨g, o + 24, none⟩ = some (.int .i64 e.a) ∧ w.cell? ⟨g, o + 25, none⟩ = some (.int .i64 e.b) := by
 have hk : (bc e.k).length = 24 := by rw [bc_length, e.hk]
 refine ⟨h 24 _ ?_, h 25 _ ?_⟩
 · show (ecd e)[24]? = _
   rw [ecd, List.getElem?_append_right (by omega), hk]
   rfl
 · show (ecd e)[25]? = _
   rw [ecd, List.getElem?_append_right (by omega), hk]
   rfl
theorem in_num (s : Sp) (K : List UInt8) (hK : K.length = 24) : inS s.F s.T s.e K = s.inb (num K) := by
 unfold inS Sp.inb
 rw [less_num K s.F (by rw [hK, s.hF]), less_num K s.T (by rw [hK, s.hT])]
 congr 1
 · rw [← decide_not, Bool.eq_iff_iff]; simp
 · congr 1; rw [Bool.eq_iff_iff]; simp
theorem grow_made (w : World) (a b : Obj) (n : Nat) : ((w.alloc a).alloc b).drewN n = Go.Sort.grow (w.drewN n) #[a, b] := by
 rw [Go.Sort.alloc_eq_grow, Go.Sort.alloc_eq_grow, Go.Sort.grow_grow]
 rfl
theorem cmp_calls (w : World) (K L : List UInt8) (hK : K.length = 24) (hL : L.length = 24) :
    Calls Tryz.prog 135 #[kv K, kv L] w fun e w' => e = .returned (.int .i64 (Lib.compareBytes K L)) ∧ ∃ q os, w' = Go.Sort.grow (w.drewN q) os := by
 have h1 : Has ((w.alloc (.cells (bc K).toArray 54)).alloc (.cells (bc L).toArray 54)) w.heap.size K := (Has.new w K hK).alloc _
 have h2 : Has ((w.alloc (.cells (bc K).toArray 54)).alloc (.cells (bc L).toArray 54)) (w.heap.size + 1) L := by have := Has.new (w.alloc (.cells (bc K).toArray 54)) L hL; simpa using this
 have H1 : Hid (Has ((w.alloc (.cells (bc K).toArray 54)).alloc (.cells (bc L).toArray 54)) w.heap.size K) := h1
 have H2 : Hid (Has ((w.alloc (.cells (bc K).toArray 54)).alloc (.cells (bc L).toArray 54)) (w.heap.size + 1) L) := h2
 clear h1 h2
 go_enter Tryz.func135, Tryz.ntmps135
 go_wp2
 go_quiet (first | (go_at_call 126; exact Calls.quiet_of_same (compare_calls _ w.heap.size (w.heap.size + 1) K L (by exact ⟨hK, H1.out.blk⟩) (by exact ⟨hL, H2.out.blk⟩) 24 24)))
 go_wp2
 go_ret
 exact ⟨rfl, _, _, grow_made _ _ _ _⟩
theorem cmp_eq (K L : List UInt8) : Lib.compareBytes K L < 0 ↔ Op.bytesLess K L = true := by rw [← compare_less]; simp
theorem cmp3_calls (w : World) (x y : Ed) : Calls Tryz.prog 134 #[edv x, edv y] w fun e w' => e = .returned (.int .i64 (Lib.compareBytes x.k y.k)) ∧ ∃ q os, w' = Go.Sort.grow (w.drewN q) os := by
 have h1 : InB encE 189 ((w.alloc (.cells (ecd x).toArray 189)).alloc (.cells (ecd y).toArray 189)) w.heap.size x := (InB.new encE _ w x _ rfl).alloc _
 have h2 : InB encE 189 ((w.alloc (.cells (ecd x).toArray 189)).alloc (.cells (ecd y).toArray 189)) (w.heap.size + 1) y := InB.new encE _ _ y _ (by simp)
 have HC : Hid (∀ W, Calls Tryz.prog 135 #[kv x.k, kv y.k] W fun e w' => e = .returned (.int .i64 (Lib.compareBytes x.k y.k)) ∧ ∃ q os, w' = Go.Sort.grow (W.drewN q) os) := fun W => cmp_calls W x.k y.k x.hk y.hk
 generalize Lib.compareBytes x.k y.k = r at *
 go_enter Tryz.func134, Tryz.ntmps134
 go_wp2_with (first
  | (refine load_part _ rfl w.heap.size 0 rfl rfl _ x.hk (range_k h1.range) ?_)
  | (refine load_part _ rfl (w.heap.size + 1) 0 rfl rfl _ y.hk (range_k h2.range) ?_)
  | (go_at_call 135; refine (HC.out _).mono ?_; rintro e w1 ⟨rfl, q, os, rfl⟩))
 go_ret
 refine ⟨rfl, q, #[.cells (ecd x).toArray 189, .cells (ecd y).toArray 189] ++ os, ?_⟩
 rw [grow_made, Go.Sort.grow_grow]
theorem isEmpty_calls (w : World) (s : Sp) : Calls Tryz.prog 161 #[spv s] w fun x w' => x = .returned (.bool s.empty) ∧ Below w.heap.size w w' := by
 have h1 : HasS (w.alloc (.cells (sc s.F s.T s.e).toArray 56)) w.heap.size s.F s.T s.e := HasS.new w _ _ _ s.hF s.hT
 have hc := in_calls (w.alloc (.cells (sc s.F s.T s.e).toArray 56)) s.F s.T s.e s.F s.hF s.hT s.hF
 rw [in_num s s.F s.hF] at hc
 have HE : Hid (s.empty = !s.inb (num s.F)) := rfl
 generalize s.inb (num s.F) = r at *
 go_enter Tryz.func161, Tryz.ntmps161
 go_wp2_with (first
  | (refine load_el elS _ rfl w.heap.size 0 rfl rfl s h1.inB.range ?_)
  | (refine load_part _ rfl w.heap.size 0 rfl rfl _ s.hF h1.ofF ?_)
  | (go_at_call 99; refine hc.mono ?_; rintro e w1 ⟨rfl, b1⟩))
 go_ret
 exact ⟨by rw [HE.out]; rfl, below_called (below_made (Below.refl _ w) (Nat.le_refl _) _) b1 (Nat.le_refl _)⟩
theorem clean1_calls (w : World) (x y : Bool) : Calls Tryz.prog 94 #[.bool x, .bool y] w fun e w' => e = .returned (.bool x) ∧ w' = w := by
 go_enter Tryz.func94, Tryz.ntmps94
 go_wp2
 go_ret
 exact ⟨rfl, rfl⟩
end
end Go.Proofs.YtdmindhjmjnagaaGreatDoor
