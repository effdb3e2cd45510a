import Derived.Test.YtjhdnpplmlddaaaGreatB12
import Derived.Test.YtjhdnpplmlddaaaGreatB07
/- What the document's Right tells of a tree, and that Check tells the same (mathematics). -/
namespace Go.Proofs.YtjhdnpplmlddaaaGreat
set_option linter.unusedVariables false
open Go.RowKit

theorem bless_trans : ∀ (x y z : List UInt8), Op.bytesLess x y = true → Op.bytesLess y z = true → Op.bytesLess x z = true
  | [], [], _, h, _ => by simp [Op.bytesLess] at h
  | [], _ :: _, [], _, h => by simp [Op.bytesLess] at h
  | [], _ :: _, _ :: _, _, _ => rfl
  | _ :: _, [], _, h, _ => by simp [Op.bytesLess] at h
  | _ :: _, _ :: _, [], _, h => by simp [Op.bytesLess] at h
  | a :: x, b :: y, c :: z, h1, h2 => by
    rw [Op.bytesLess] at h1 h2 ⊢
    simp only [Bool.or_eq_true, decide_eq_true_eq, Bool.and_eq_true, beq_iff_eq] at h1 h2 ⊢
    rcases h1 with h1 | ⟨h1, h1'⟩
    · rcases h2 with h2 | ⟨h2, h2'⟩
      · exact .inl (UInt8.lt_trans h1 h2)
      · subst h2
        exact .inl h1
    · subst h1
      rcases h2 with h2 | ⟨h2, h2'⟩
      · exact .inl h2
      · exact .inr ⟨h2, bless_trans x y z h1' h2'⟩
theorem bless_le_lt {x y z : List UInt8} (h1 : Op.bytesLess y x = false) (h2 : Op.bytesLess y z = true) : Op.bytesLess x z = true := by
  have := less_all x y
  rw [h1] at this
  simp only [Bool.not_false, Bool.or_eq_true, beq_iff_eq] at this
  rcases this with h | h
  · exact bless_trans _ _ _ h h2
  · rw [h]; exact h2
/-- In a rising list a later one is no less than an earlier one. -/
theorem rises_le (l : List (List UInt8)) (hr : rises l = true) (i : Nat) : ∀ (d : Nat) (h : i + d < l.length), Op.bytesLess (l[i + d]) (l[i]'(by omega)) = false
  | 0, _ => less_irrefl _
  | d + 1, h => by
    have h1 := rises_le l hr i d (by omega)
    have h2 := rises_at l (i + d) h hr
    exact less_asym (bless_le_lt h1 h2)
theorem rises_lt (l : List (List UInt8)) (hr : rises l = true) (i j : Nat) (hij : i < j) (h : j < l.length) : Op.bytesLess (l[i]'(by omega)) l[j] = true := by
  obtain ⟨d, rfl⟩ : ∃ d, j = (i + d) + 1 := ⟨j - i - 1, by omega⟩
  exact bless_le_lt (rises_le l hr i d (by omega)) (rises_at l (i + d) h hr)

/-- Is what stands at a kid's place none that the document lets stand there? -/
def badDoc (y : Nod) (c : Int) (lv : Int) (K : List UInt8) : Bool := !(c == 0) || !(y.lv == lv - 1) || !(firstN y == K) || (y.lv == 0 && decide (y.ps.length < 3)) || (decide (0 < y.lv) && decide (y.ks.length < 9))
/-- Is a key below a bound, if there is one? -/
def belowB (top : List UInt8) (is : Bool) (K : List UInt8) : Bool := !is || Op.bytesLess K top
/-- The bound of the kid at i. -/
def topOf (ks : List Kd) (top : List UInt8) (i : Nat) : List UInt8 := if i + 1 < ks.length then keyAt ks (i + 1) else top
def isOf (ks : List Kd) (is : Bool) (i : Nat) : Bool := if i + 1 < ks.length then true else is
/-- What the document's right tells of the last m kids. -/
def docGo (g : Int → Nod × Int) (rec : Nod → List UInt8 → Bool → Bool) (x : Nod) (top : List UInt8) (is : Bool) : Nat → Bool
  | 0 => true
  | m + 1 =>
    belowB top is (keyAt x.ks (x.ks.length - (m + 1))) && !badDoc (g (nAt x.ks (x.ks.length - (m + 1)))).1 (g (nAt x.ks (x.ks.length - (m + 1)))).2 x.lv (keyAt x.ks (x.ks.length - (m + 1)))
      && rec (g (nAt x.ks (x.ks.length - (m + 1)))).1 (topOf x.ks top (x.ks.length - (m + 1))) (isOf x.ks is (x.ks.length - (m + 1))) && docGo g rec x top is m
def docP (g : Int → Nod × Int) : Nat → Nod → List UInt8 → Bool → Bool
  | 0, _, _, _ => true
  | k + 1, x, top, is => rightN x && x.ps.all (fun p => belowB top is p.k) && docGo g (docP g k) x top is x.ks.length
def docRoot (g : Int → Nod × Int) (root : Int) : Bool := root == 0 || ((g root).2 == 0 && docP g 12 (g root).1 (zs 24) false)

theorem right_zero {x : Nod} (h : rightN x = true) (z : x.lv = 0) : x.ks = [] ∧ 1 ≤ x.ps.length ∧ rises (x.ps.map Pr.k) = true := by
  have hr := (rises_of_right h).1 z
  unfold rightN at h
  rw [if_neg (by omega), if_pos z] at h
  simp only [Bool.and_eq_true, decide_eq_true_eq, okPairs] at h
  exact ⟨List.eq_nil_of_length_eq_zero h.1, h.2.1.1.1, hr⟩
theorem right_more {x : Nod} (h : rightN x = true) (z : ¬ x.lv = 0) : x.ps = [] ∧ 2 ≤ x.ks.length ∧ rises (x.ks.map Kd.k) = true ∧ 0 < x.lv := by
  have hr := (rises_of_right h).2 z
  unfold rightN at h
  by_cases hv : x.lv < 0 ∨ 12 ≤ x.lv
  · rw [if_pos hv] at h
    cases h
  · rw [if_neg hv, if_neg z] at h
    simp only [Bool.and_eq_true, decide_eq_true_eq, okKids] at h
    exact ⟨List.eq_nil_of_length_eq_zero h.1, h.2.1.1.1.1, hr, by omega⟩
theorem right_lv {x : Nod} (h : rightN x = true) : 0 ≤ x.lv ∧ x.lv < 12 := by
  unfold rightN at h
  split at h
  · cases h
  · omega
theorem keyAt_map {l : List Kd} {i : Nat} (h : i < l.length) : keyAt l i = (l.map Kd.k)[i]'(by simpa using h) := by rw [keyAt_eq h]; simp
/-- A right node's last key is no less than any of its keys. -/
theorem last_ge_pair {x : Nod} (h : rightN x = true) (z : x.lv = 0) (p : Pr) (hp : p ∈ x.ps) : Op.bytesLess (lastN x) p.k = false := by
  obtain ⟨_, h1, hr⟩ := right_zero h z
  obtain ⟨i, hi, rfl⟩ := List.getElem_of_mem hp
  have h2 : x.ps.length - 1 < x.ps.length := by omega
  have e : lastN x = (x.ps.map Pr.k)[x.ps.length - 1]'(by simpa using h2) := by
    rw [lastN, if_pos z]
    simp [h2]
  rw [e]
  have := rises_le (x.ps.map Pr.k) hr i (x.ps.length - 1 - i) (by simp; omega)
  have e2 : i + (x.ps.length - 1 - i) = x.ps.length - 1 := by omega
  simpa [e2] using this
theorem last_ge_kid {x : Nod} (h : rightN x = true) (z : ¬ x.lv = 0) (i : Nat) (hi : i < x.ks.length) : Op.bytesLess (lastN x) (keyAt x.ks i) = false := by
  obtain ⟨_, h1, hr, _⟩ := right_more h z
  rw [lastN, if_neg z, keyAt_map (show x.ks.length - 1 < x.ks.length by omega), keyAt_map hi]
  have := rises_le (x.ks.map Kd.k) hr i (x.ks.length - 1 - i) (by simp; omega)
  have e : i + (x.ks.length - 1 - i) = x.ks.length - 1 := by omega
  simpa only [e] using this
theorem last_ge_first {x : Nod} (h : rightN x = true) : Op.bytesLess (lastN x) (firstN x) = false := by
  by_cases z : x.lv = 0
  · obtain ⟨hk, h1, hr⟩ := right_zero h z
    cases hp : x.ps with
    | nil => rw [hp] at h1; simp at h1
    | cons p t =>
      have := last_ge_pair h z p (by rw [hp]; simp)
      rw [firstN, hp]
      exact this
  · obtain ⟨hp, h1, hr, _⟩ := right_more h z
    have := last_ge_kid h z 0 (by omega)
    rw [firstN, hp]
    cases hk : x.ks with
    | nil => rw [hk] at h1; simp at h1
    | cons q t =>
      have e : keyAt x.ks 0 = q.k := by rw [hk]; rfl
      rw [e] at this
      exact this
theorem first_kid {x : Nod} (h : rightN x = true) (z : ¬ x.lv = 0) : firstN x = keyAt x.ks 0 := by
  obtain ⟨hp, h1, hr, _⟩ := right_more h z
  rw [firstN, hp]
  cases hk : x.ks with
  | nil => rw [hk] at h1; simp at h1
  | cons q t => rfl
/-- All keys of a right node are below a bound just where its last one is. -/
theorem pairs_below {x : Nod} (h : rightN x = true) (z : x.lv = 0) (top : List UInt8) (is : Bool) : x.ps.all (fun p => belowB top is p.k) = belowB top is (lastN x) := by
  cases is with
  | false => simp [belowB]
  | true =>
    obtain ⟨hk, h1, hr⟩ := right_zero h z
    simp only [belowB, Bool.not_true, Bool.false_or]
    cases hb : Op.bytesLess (lastN x) top with
    | true =>
      rw [List.all_eq_true]
      intro p hp
      exact bless_le_lt (last_ge_pair h z p hp) hb
    | false =>
      rw [List.all_eq_false]
      have h2 : x.ps.length - 1 < x.ps.length := by omega
      refine ⟨x.ps[x.ps.length - 1], List.getElem_mem _, ?_⟩
      have e : lastN x = (x.ps[x.ps.length - 1]).k := by rw [lastN, if_pos z]; simp [h2]
      rw [← e, hb]
      simp
theorem short_doc {y : Nod} (h : rightN y = true) : shortB y.ps.length y.ks.length = ((y.lv == 0 && decide (y.ps.length < 3)) || (decide (0 < y.lv) && decide (y.ks.length < 9))) := by
  by_cases z : y.lv = 0
  · obtain ⟨hk, h1, hr⟩ := right_zero h z
    simp only [shortB, z, hk]
    simp
    omega
  · obtain ⟨hp, h1, hr, h0⟩ := right_more h z
    have e : (y.lv == 0) = false := by simpa using z
    simp only [shortB, hp, e, h0]
    simp
    omega
/-- The part of a kid, where the node's keys are in the span. -/
theorem nar_is {x : Nod} {s : Sp} (h : rightN x = true) (z : ¬ x.lv = 0) (hF : s.F = firstN x) (hT : s.e = false → Op.bytesLess (lastN x) s.T = true) (i : Nat) (hi : i < x.ks.length) :
    narS s x.ks i = ⟨keyAt x.ks i, topOf x.ks s.T i, !isOf x.ks (!s.e) i⟩ := by
  obtain ⟨hp, h1, hr, h0⟩ := right_more h z
  have e1 : narF s x.ks i = keyAt x.ks i := by
    unfold narF
    rw [hF, first_kid h z]
    by_cases hi0 : 0 < i
    · rw [keyAt_map (show 0 < x.ks.length by omega), keyAt_map hi, rises_lt _ hr 0 i hi0 (by simpa using hi)]
      simp [hi0]
    · have : i = 0 := by omega
      subst this
      simp
  have e2 : i + 1 < x.ks.length → (s.e || Op.bytesLess (keyAt x.ks (i + 1)) s.T) = true := fun hl => by
    cases he : s.e with
    | true => rfl
    | false =>
      rw [Bool.false_or]
      exact bless_le_lt (last_ge_kid h z (i + 1) hl) (hT he)
  have e3 : narT s x.ks i = topOf x.ks s.T i := by
    unfold narT topOf
    by_cases hl : i + 1 < x.ks.length
    · rw [if_neg (by omega), if_pos hl, e2 hl, if_pos rfl]
    · rw [if_pos (by omega), if_neg hl]
  have e4 : narE s x.ks i = !isOf x.ks (!s.e) i := by
    unfold narE isOf
    by_cases hl : i + 1 < x.ks.length
    · rw [if_neg (by omega), if_pos hl, e2 hl, if_pos rfl]
      rfl
    · rw [if_pos (by omega), if_neg hl]
      simp
  unfold narS
  rw [e1, e3, e4]
theorem docGo_below {g : Int → Nod × Int} {rec : Nod → List UInt8 → Bool → Bool} {x : Nod} {top : List UInt8} {is : Bool} : ∀ (m : Nat), docGo g rec x top is m = true → 1 ≤ m → belowB top is (keyAt x.ks (x.ks.length - 1)) = true
  | 0, _, h => by omega
  | 1, h, _ => by
    simp only [docGo, Bool.and_eq_true] at h
    exact h.1.1.1
  | m + 2, h, _ => by
    rw [docGo, Bool.and_eq_true] at h
    exact docGo_below (m + 1) h.2 (by omega)
theorem doc_below {g : Int → Nod × Int} {k : Nat} {y : Nod} {top : List UInt8} {is : Bool} (h : docP g (k + 1) y top is = true) : rightN y = true ∧ belowB top is (lastN y) = true := by
  simp only [docP, Bool.and_eq_true] at h
  obtain ⟨⟨h1, h2⟩, h3⟩ := h
  refine ⟨h1, ?_⟩
  by_cases z : y.lv = 0
  · rw [← pairs_below h1 z top is]
    exact h2
  · obtain ⟨hp, hl, hr, h0⟩ := right_more h1 z
    have := docGo_below _ h3 (by omega)
    rw [lastN, if_neg z]
    exact this
theorem bad_doc {y : Nod} (h : rightN y = true) {lv : Int} (hl : y.lv = lv - 1) (K top : List UInt8) (b : Bool) : badKid y K ⟨K, top, !b⟩ = (badDoc y 0 lv K || !belowB top b (lastN y)) := by
  unfold badKid badDoc inS belowB
  rw [short_doc h]
  have e1 : (y.lv == lv - 1) = true := by simpa using hl
  rw [e1]
  by_cases hK : firstN y = K
  · have e2 : (firstN y == K) = true := by simpa using hK
    have e3 := last_ge_first h
    rw [hK] at e3
    simp only [e2, e3]
    simp [Bool.or_assoc]
  · have e2 : (firstN y == K) = false := by simpa using hK
    simp only [e2]
    simp
theorem check_doc (g : Int → Nod × Int) : ∀ (k : Nat) (x : Nod) (s : Sp), rightN x = true → x.lv < k → s.F = firstN x → (s.e = false → Op.bytesLess (lastN x) s.T = true) → (checkP g k x s = 0 ↔ docP g k x s.T (!s.e) = true)
  | 0, x, s, h, hk, _, _ => by have := (right_lv h).1; omega
  | k + 1, x, s, h, hk, hF, hT => by
    have hb : belowB s.T (!s.e) (lastN x) = true := by
      unfold belowB
      cases he : s.e with
      | true => rfl
      | false => simpa using hT he
    rw [checkP, docP, h]
    by_cases z : x.lv = 0
    · obtain ⟨hks, h1, hr⟩ := right_zero h z
      rw [pairs_below h z, hb, hks]
      simp [checkGo, docGo]
    · obtain ⟨hps, h1, hr, h0⟩ := right_more h z
      have hall : x.ps.all (fun p => belowB s.T (!s.e) p.k) = true := by rw [hps]; rfl
      rw [hall, Bool.true_and, Bool.true_and]
      obtain ⟨k', rfl⟩ : ∃ k', k = k' + 1 := ⟨k - 1, by omega⟩
      have key : ∀ m, m ≤ x.ks.length → (checkGo g (checkP g (k' + 1)) x s m = 0 ↔ docGo g (docP g (k' + 1)) x s.T (!s.e) m = true) := by
        intro m
        induction m with
        | zero => intro _; simp [checkGo, docGo]
        | succ m ih =>
          intro hm
          have ih := ih (by omega)
          obtain ⟨i, hi⟩ : ∃ i, i = x.ks.length - (m + 1) := ⟨_, rfl⟩
          have hil : i < x.ks.length := by omega
          rw [checkGo, docGo, ← hi, nar_is h z hF hT i hil]
          have hbi : belowB s.T (!s.e) (keyAt x.ks i) = true := by
            unfold belowB
            cases he : s.e with
            | true => rfl
            | false => simpa using bless_le_lt (last_ge_kid h z i hil) (hT he)
          rw [hbi, Bool.true_and]
          generalize nAt x.ks i = n
          generalize keyAt x.ks i = K
          generalize topOf x.ks s.T i = T'
          generalize isOf x.ks (!s.e) i = b'
          have hne : x.lv - 1 ≠ -1 := by omega
          by_cases hc : (g n).2 = 0
          · by_cases hr' : rightN (g n).1 = true
            · by_cases hl : (g n).1.lv = x.lv - 1
              · have e : readP g n (x.lv - 1) = ((g n).1, 0) := by unfold readP; rw [if_pos hc, if_pos ⟨hr', .inr hl⟩]
                rw [e, hc]
                simp only [if_true]
                rw [bad_doc hr' hl]
                generalize (g n).1 = y at *
                cases hbd : badDoc y 0 x.lv K with
                | true => simp
                | false =>
                  cases hbb : belowB T' b' (lastN y) with
                  | false =>
                    have : docP g (k' + 1) y T' b' = false := by
                      cases hd : docP g (k' + 1) y T' b' with
                      | false => rfl
                      | true => rw [(doc_below hd).2] at hbb; cases hbb
                    simp [this]
                  | true =>
                    have hfy : firstN y = K := by
                      unfold badDoc at hbd
                      simp only [Bool.or_eq_false_iff, Bool.not_eq_false'] at hbd
                      simpa using hbd.1.1.2
                    have rc := check_doc g (k' + 1) y ⟨K, T', !b'⟩ hr' (by omega) hfy.symm (fun he => by
                      simp only [Bool.not_eq_false'] at he
                      rw [he] at hbb
                      simpa [belowB] using hbb)
                    simp only [Bool.not_not] at rc
                    simp only [Bool.not_true, Bool.or_false, Bool.false_eq_true, if_false, Bool.not_false, Bool.true_and, Bool.and_eq_true]
                    rw [← rc, ← ih]
                    split <;> simp_all
              · have e : readP g n (x.lv - 1) = (nilN, 12) := by unfold readP; rw [if_pos hc, if_neg (fun q => q.2.elim hne hl)]
                rw [e]
                have e2 : ((g n).1.lv == x.lv - 1) = false := by simpa using hl
                simp [badDoc, e2]
            · have e : readP g n (x.lv - 1) = (nilN, 12) := by unfold readP; rw [if_pos hc, if_neg (fun q => hr' q.1)]
              rw [e]
              have e2 : docP g (k' + 1) (g n).1 T' b' = false := by
                cases hd : docP g (k' + 1) (g n).1 T' b' with
                | false => rfl
                | true => exact absurd (doc_below hd).1 hr'
              simp [e2]
          · have e : readP g n (x.lv - 1) = (nilN, (g n).2) := by unfold readP; rw [if_neg hc]
            rw [e]
            have e2 : ((g n).2 == 0) = false := by simpa using hc
            simp [badDoc, e2, hc]
      exact key _ (Nat.le_refl _)
theorem read_codes {g : Int → Nod × Int} (hg : ∀ n, (g n).2 = 0 ∨ (g n).2 = 1) (n lvl : Int) : (readP g n lvl).2 = 0 ∨ (readP g n lvl).2 = 1 ∨ (readP g n lvl).2 = 12 := by
  unfold readP
  split
  · split <;> simp
  · rcases hg n with h | h
    · contradiction
    · exact .inr (.inl h)
theorem check_codes {g : Int → Nod × Int} (hg : ∀ n, (g n).2 = 0 ∨ (g n).2 = 1) : ∀ (k : Nat) (x : Nod) (s : Sp), checkP g k x s = 0 ∨ checkP g k x s = 1 ∨ checkP g k x s = 12
  | 0, _, _ => .inl rfl
  | k + 1, x, s => by
    have key : ∀ m, checkGo g (checkP g k) x s m = 0 ∨ checkGo g (checkP g k) x s m = 1 ∨ checkGo g (checkP g k) x s m = 12 := by
      intro m
      induction m with
      | zero => exact .inl rfl
      | succ m ih =>
        rw [checkGo]
        split
        · split
          · exact .inr (.inr rfl)
          · split
            · exact ih
            · exact check_codes hg k _ _
        · exact read_codes hg _ _
    exact key _
end Go.Proofs.YtjhdnpplmlddaaaGreat
/- The document's own words on nodes: Number, at, text, key, First. -/
namespace Go.Proofs.YtjhdnpplmlddaaaGreat
set_option linter.unusedVariables false
open Go.RowKit

theorem str_cons (b : UInt8) (l : List UInt8) : str [b] ++ str l = str (b :: l) := by
  apply ByteArray.ext
  simp [str]
theorem wrap_div (x : Nat) (h : x < 9223372036854775808) : wrap64 ((x : Int) / 256) = ((x / 256 : Nat) : Int) := by
  unfold wrap64
  omega
theorem be_next (N k : Nat) : be N (k + 1) = UInt8.ofNat (N / 256 ^ k) :: be N k := rfl
/-- W bytes from a place on; behind the end there are noughts. -/
def win (L : List UInt8) (p : Nat) : Nat → List UInt8
  | 0 => []
  | k + 1 => win L p k ++ [L.getD (p + k) 0]
theorem win_length (L : List UInt8) (p k : Nat) : (win L p k).length = k := by
  induction k with
  | zero => rfl
  | succ k ih => simp [win, ih]
theorem win_in {L : List UInt8} {p : Nat} : ∀ {k : Nat}, p + k ≤ L.length → win L p k = (L.drop p).take k
  | 0, _ => by simp [win]
  | k + 1, h => by
    rw [win, win_in (by omega), List.take_succ_eq_append_getElem (by simp; omega)]
    simp [List.getElem?_eq_getElem (show p + k < L.length by omega)]
theorem get_byte (L : List UInt8) (i : Nat) (h : i < (str L).size) : wrap64 (((str L)[i]).toNat : Int) = ((L.getD i 0).toNat : Int) := by
  have hl : i < L.length := by rw [str_size] at h; exact h
  have e : (str L)[i] = L.getD i 0 := by
    show (str L).data[i] = _
    simp [str, List.getElem?_eq_getElem hl]
  refine (congrArg (fun b : UInt8 => wrap64 (b.toNat : Int)) e).trans ?_
  have := (L.getD i 0).toNat_lt
  simp only [wrap64]
  omega
theorem u8_back (B : UInt8) : ((B.toNat : Nat) : Int) % 256 = (B.toNat : Int) := by
  have := B.toNat_lt
  omega
theorem add_small {p k : Nat} (h : p + k ≤ 200000) : wrap64 ((p : Int) + (k : Int)) = ((p + k : Nat) : Int) := by
  unfold wrap64
  omega
end Go.Proofs.YtjhdnpplmlddaaaGreat
/- The document's own words on nodes: key, First. -/
namespace Go.Proofs.YtjhdnpplmlddaaaGreat
set_option linter.unusedVariables false
open Go.RowKit

theorem zs_cons (n : Nat) : zs (n + 1) = 0 :: zs n := rfl
theorem win_set (L : List UInt8) (p k : Nat) (h : k < 24) (B : UInt8) (hB : L.getD (p + k) 0 = B) : (win L p k ++ zs (24 - k)).set k B = win L p (k + 1) ++ zs (24 - (k + 1)) := by
  have e : 24 - k = (24 - (k + 1)) + 1 := by omega
  rw [e, zs_cons, List.set_append_right _ _ (by rw [win_length]; exact Nat.le_refl _), win_length, Nat.sub_self, List.set_cons_zero, win, hB]
  simp
theorem key_cells : (bc (zs 24)).toArray = #[.int .u8 0, .int .u8 0, .int .u8 0, .int .u8 0, .int .u8 0, .int .u8 0, .int .u8 0, .int .u8 0, .int .u8 0, .int .u8 0, .int .u8 0, .int .u8 0, .int .u8 0, .int .u8 0, .int .u8 0, .int .u8 0, .int .u8 0, .int .u8 0, .int .u8 0, .int .u8 0, .int .u8 0, .int .u8 0, .int .u8 0, .int .u8 0] := rfl
theorem ec_key {e : El} {j : Nat} {u : Value} (h : (bc e.k)[j]? = some u) : (ec e)[j]? = some u := by
  have hj := (List.getElem?_eq_some_iff.1 h).1
  unfold ec
  rw [List.getElem?_append_left hj]
  exact h
set_option maxHeartbeats 4000000 in
set_option maxRecDepth 100000 in
theorem rfirst_calls (w : World) (x : Nod) (pv qv : Value) (h : Parts w x pv qv) :
    Calls Tryz.prog 67 #[nv x pv qv] w fun e w' => e = .returned (kv (firstN x)) ∧ Below w.heap.size w w' := by
  obtain ⟨ap, cp, rfl⟩ := h.lenP
  obtain ⟨aq, cq, rfl⟩ := h.lenQ
  have GP := els_get h.p
  have GQ := els_get h.q
  have hk := h.keyed
  have N0 : HasN (w.alloc (.cells (nc x (.slice ap x.ps.length cp) (.slice aq x.ks.length cq)) 60)) w.heap.size x (.slice ap x.ps.length cp) (.slice aq x.ks.length cq) := HasN.new w x _ _ _ rfl rfl rfl
  have Z0 : Hid (Has ((w.alloc (.cells (nc x (.slice ap x.ps.length cp) (.slice aq x.ks.length cq)) 60)).alloc (.cells #[.int .u8 0, .int .u8 0, .int .u8 0, .int .u8 0, .int .u8 0, .int .u8 0, .int .u8 0, .int .u8 0, .int .u8 0, .int .u8 0, .int .u8 0, .int .u8 0, .int .u8 0, .int .u8 0, .int .u8 0, .int .u8 0, .int .u8 0, .int .u8 0, .int .u8 0, .int .u8 0, .int .u8 0, .int .u8 0, .int .u8 0, .int .u8 0] 25)) (w.heap.size + 1) (zs 24)) := zero_has _ _ (by simp)
  have B0 : Below w.heap.size w ((w.alloc (.cells (nc x (.slice ap x.ps.length cp) (.slice aq x.ks.length cq)) 60)).alloc (.cells #[.int .u8 0, .int .u8 0, .int .u8 0, .int .u8 0, .int .u8 0, .int .u8 0, .int .u8 0, .int .u8 0, .int .u8 0, .int .u8 0, .int .u8 0, .int .u8 0, .int .u8 0, .int .u8 0, .int .u8 0, .int .u8 0, .int .u8 0, .int .u8 0, .int .u8 0, .int .u8 0, .int .u8 0, .int .u8 0, .int .u8 0, .int .u8 0] 25)) := ((Below.refl _ w).alloc (Nat.le_refl _) _).alloc (by simp) _
  have S0 : ((w.alloc (.cells (nc x (.slice ap x.ps.length cp) (.slice aq x.ks.length cq)) 60)).alloc (.cells #[.int .u8 0, .int .u8 0, .int .u8 0, .int .u8 0, .int .u8 0, .int .u8 0, .int .u8 0, .int .u8 0, .int .u8 0, .int .u8 0, .int .u8 0, .int .u8 0, .int .u8 0, .int .u8 0, .int .u8 0, .int .u8 0, .int .u8 0, .int .u8 0, .int .u8 0, .int .u8 0, .int .u8 0, .int .u8 0, .int .u8 0, .int .u8 0] 25)).heap.size = w.heap.size + 2 := by simp
  obtain ⟨c0, c1, c2⟩ := (N0.alloc (.cells #[.int .u8 0, .int .u8 0, .int .u8 0, .int .u8 0, .int .u8 0, .int .u8 0, .int .u8 0, .int .u8 0, .int .u8 0, .int .u8 0, .int .u8 0, .int .u8 0, .int .u8 0, .int .u8 0, .int .u8 0, .int .u8 0, .int .u8 0, .int .u8 0, .int .u8 0, .int .u8 0, .int .u8 0, .int .u8 0, .int .u8 0, .int .u8 0] 25)).cells
  have HFL : Hid ((firstN x).length = 24) := firstN_length x hk
  clear N0 h
  obtain ⟨lv, ps, ks⟩ := x
  simp only at c0 c1 c2 GP GQ Z0 B0 S0 ⊢
  cases ps with
  | cons p ps =>
    obtain ⟨g, off, e, hg, hat, ok⟩ := GP 0 (by simp)
    cases e
    simp only [List.getElem_cons_zero, Nat.zero_mul, Nat.add_zero] at hat ok
    have hpos : (0 : Int) < (((p :: ps).length : Nat) : Int) := Int.natCast_pos.2 (Nat.zero_lt_succ _)
    have HP : Hid (firstN ⟨lv, p :: ps, ks⟩ = p.el.k) := rfl
    have RA : Hid (∀ z, Below w.heap.size w z → z.rangeAt g off (ec p.el)) := fun z hz => range_same hat (hz.block g hg)
    clear GP GQ hat
    generalize (p :: ps).length = n at *
    go_enter Tryz.func67, Tryz.ntmps67
    go_upto_region 2 with fail
    generalize (w.alloc (.cells (nc ⟨lv, p :: ps, ks⟩ (.slice (some ⟨g, off, none⟩) n cp) (.slice aq ks.length cq)) 60)).alloc (.cells #[.int .u8 0, .int .u8 0, .int .u8 0, .int .u8 0, .int .u8 0, .int .u8 0, .int .u8 0, .int .u8 0, .int .u8 0, .int .u8 0, .int .u8 0, .int .u8 0, .int .u8 0, .int .u8 0, .int .u8 0, .int .u8 0, .int .u8 0, .int .u8 0, .int .u8 0, .int .u8 0, .int .u8 0, .int .u8 0, .int .u8 0, .int .u8 0] 25) = W at *
    go_wp2_with (first
      | (refine load_part _ rfl g off rfl rfl p.el.k ok.len (fun j u hu => RA.out _ B0 j u (ec_key hu)) ?_)
      | (refine store_key rfl _ _ rfl (w.heap.size + 1) rfl p.el.k rfl ok.len (zs 24) Z0.out ?_; intro w2 h2 t2 s2))
    refine ret_key rfl _ _ rfl h2 rfl ⟨by rw [HP.out], ?_⟩
    exact below_touched B0 t2 (by omega) (Nat.le_refl _)
  | nil =>
    cases ks with
    | cons p ks =>
      obtain ⟨g, off, e, hg, hat, ok⟩ := GQ 0 (by simp)
      cases e
      simp only [List.getElem_cons_zero, Nat.zero_mul, Nat.add_zero] at hat ok
      have hpos : (0 : Int) < (((p :: ks).length : Nat) : Int) := Int.natCast_pos.2 (Nat.zero_lt_succ _)
      have HP : Hid (firstN ⟨lv, [], p :: ks⟩ = p.el.k) := rfl
      have RA : Hid (∀ z, Below w.heap.size w z → z.rangeAt g off (ec p.el)) := fun z hz => range_same hat (hz.block g hg)
      simp only [List.length_nil] at c1 Z0 B0 S0 c0 c2 ⊢
      clear GP GQ hat
      generalize (p :: ks).length = n at *
      go_enter Tryz.func67, Tryz.ntmps67
      go_upto_region 3 with fail
      generalize (w.alloc (.cells (nc ⟨lv, [], p :: ks⟩ (.slice ap 0 cp) (.slice (some ⟨g, off, none⟩) n cq)) 60)).alloc (.cells #[.int .u8 0, .int .u8 0, .int .u8 0, .int .u8 0, .int .u8 0, .int .u8 0, .int .u8 0, .int .u8 0, .int .u8 0, .int .u8 0, .int .u8 0, .int .u8 0, .int .u8 0, .int .u8 0, .int .u8 0, .int .u8 0, .int .u8 0, .int .u8 0, .int .u8 0, .int .u8 0, .int .u8 0, .int .u8 0, .int .u8 0, .int .u8 0] 25) = W at *
      go_wp2_with (first
        | (refine load_part _ rfl g off rfl rfl p.el.k ok.len (fun j u hu => RA.out _ B0 j u (ec_key hu)) ?_)
        | (refine store_key rfl _ _ rfl (w.heap.size + 1) rfl p.el.k rfl ok.len (zs 24) Z0.out ?_; intro w2 h2 t2 s2))
      refine ret_key rfl _ _ rfl h2 rfl ⟨by rw [HP.out], ?_⟩
      exact below_touched B0 t2 (by omega) (Nat.le_refl _)
    | nil =>
      simp only [List.length_nil] at c1 c2 Z0 B0 S0 c0 ⊢
      have HP : Hid (firstN ⟨lv, [], []⟩ = zs 24) := rfl
      clear GP GQ
      go_enter Tryz.func67, Tryz.ntmps67
      go_upto_region 3 with fail
      generalize (w.alloc (.cells (nc ⟨lv, [], []⟩ (.slice ap 0 cp) (.slice aq 0 cq)) 60)).alloc (.cells #[.int .u8 0, .int .u8 0, .int .u8 0, .int .u8 0, .int .u8 0, .int .u8 0, .int .u8 0, .int .u8 0, .int .u8 0, .int .u8 0, .int .u8 0, .int .u8 0, .int .u8 0, .int .u8 0, .int .u8 0, .int .u8 0, .int .u8 0, .int .u8 0, .int .u8 0, .int .u8 0, .int .u8 0, .int .u8 0, .int .u8 0, .int .u8 0] 25) = W at *
      go_wp2_with (first
        | (refine build_any rfl 25 _ rfl [] rfl _ Tryz.key0 ?_)
        | (refine store_key rfl _ _ rfl (w.heap.size + 1) rfl (zs 24) rfl rfl (zs 24) Z0.out ?_; intro w2 h2 t2 s2))
      refine ret_key rfl _ _ rfl h2 rfl ⟨by rw [HP.out], ?_⟩
      exact below_touched B0 t2 (by omega) (Nat.le_refl _)

end Go.Proofs.YtjhdnpplmlddaaaGreat
