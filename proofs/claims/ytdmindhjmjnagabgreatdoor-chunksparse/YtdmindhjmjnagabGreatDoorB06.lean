import Derived.Test.YtdmindhjmjnagabGreatDoorB05
import Derived.Test.YtdmindhjmjnagabGreatDoorChecked
import Derived.Test.YtdmindhjmjnagabGreatDoorB01
import Derived.Laws.RangeString
import Derived.Laws.RangeAny
import Derived.Lib.Strings
import Derived.Lib.IndexBytes
/- Names and paths in plain mathematics: pieces, names, paths, and what the statements say of them; nothing here speaks of a program. -/
namespace Go.Proofs.YtdmindhjmjnagabGreatDoor
set_option linter.unusedVariables false
set_option maxRecDepth 100000

/-! Pieces. -/
/-- How many pieces a text has. -/
def wid (L : List UInt8) : Nat := if h : L = [] then 0 else 1 + wid (L.drop (dec L).2)
  termination_by L.length
  decreasing_by
    have := List.length_pos_iff.2 h
    have := dec_pos L
    simp only [List.length_drop]
    omega
theorem wid_nil : wid [] = 0 := by rw [wid]; rfl
theorem wid_cons (L : List UInt8) (h : L ≠ []) : wid L = 1 + wid (L.drop (dec L).2) := by
  rw [wid, dif_neg h]
/-- How many bytes the first n pieces have. -/
def pre : Nat → List UInt8 → Nat
  | 0, _ => 0
  | n + 1, L => if L = [] then 0 else (dec L).2 + pre n (L.drop (dec L).2)
theorem pre_le : ∀ (n : Nat) (L : List UInt8), pre n L ≤ L.length
  | 0, _ => Nat.zero_le _
  | n + 1, L => by
    unfold pre
    split
    · exact Nat.zero_le _
    · rename_i h
      have := pre_le n (L.drop (dec L).2)
      have := dec_le L h
      simp only [List.length_drop] at *
      omega
theorem pre_succ : ∀ (n : Nat) (L : List UInt8), L.drop (pre n L) ≠ [] → pre (n + 1) L = pre n L + (dec (L.drop (pre n L))).2
  | 0, L, h => by
    have h' : L ≠ [] := h
    simp [pre, h']
  | n + 1, L, h => by
    by_cases hL : L = []
    · subst hL; simp at h
    have e1 : pre (n + 1) L = (dec L).2 + pre n (L.drop (dec L).2) := by rw [pre, if_neg hL]
    have e2 : pre (n + 2) L = (dec L).2 + pre (n + 1) (L.drop (dec L).2) := by rw [pre, if_neg hL]
    have e3 : (L.drop (dec L).2).drop (pre n (L.drop (dec L).2)) = L.drop (pre (n + 1) L) := by rw [List.drop_drop, e1]
    rw [e2, pre_succ n _ (by rw [e3]; exact h), e3, e1, Nat.add_assoc]
theorem pre_wid : ∀ (n : Nat) (L : List UInt8), n ≤ wid L → wid L = n + wid (L.drop (pre n L)) ∧ wid (L.take (pre n L)) = n
  | 0, L, _ => by simp [pre, wid_nil]
  | n + 1, L, h => by
    by_cases hL : L = []
    · subst hL; rw [wid_nil] at h; omega
    have e1 : pre (n + 1) L = (dec L).2 + pre n (L.drop (dec L).2) := by rw [pre, if_neg hL]
    have hw := wid_cons L hL
    obtain ⟨h1, h2⟩ := pre_wid n (L.drop (dec L).2) (by omega)
    rw [List.drop_drop, ← e1] at h1
    have hd := dec_le L hL
    have hp := dec_pos L
    have ht : dec (L.take (pre (n + 1) L)) = dec L := dec_take L _ (by omega)
    have hne : L.take (pre (n + 1) L) ≠ [] := by
      intro e
      have := congrArg List.length e
      have := List.length_pos_iff.2 hL
      simp only [List.length_take, List.length_nil] at *
      omega
    refine ⟨by omega, ?_⟩
    rw [wid_cons _ hne, ht, List.drop_take, e1, Nat.add_sub_cancel_left, h2]
    omega
theorem pre_all (n : Nat) (L : List UInt8) (h : L.drop (pre n L) = []) : L.length ≤ pre n L := by
  have := congrArg List.length h
  simp only [List.length_drop, List.length_nil] at this
  omega
theorem wid_le : ∀ (m : Nat) (L : List UInt8), L.length = m → wid L ≤ L.length := by
  intro m
  induction m using Nat.strongRecOn with
  | _ m ih =>
    intro L hm
    by_cases hL : L = []
    · subst hL; rw [wid_nil]; exact Nat.zero_le _
    have hd := dec_le L hL
    have hp := dec_pos L
    have := ih (L.drop (dec L).2).length (by simp only [List.length_drop]; omega) (L.drop (dec L).2) rfl
    rw [wid_cons L hL]
    simp only [List.length_drop] at this
    omega
theorem wid_pos (L : List UInt8) (h : L ≠ []) : 1 ≤ wid L := by rw [wid_cons L h]; omega
/-- Pieces are counted one behind the other. -/
theorem wid_ascii (c : UInt8) (B : List UInt8) (hc : c.toNat < 128) : ∀ (m : Nat) (A : List UInt8), A.length = m → wid (A ++ c :: B) = wid A + wid (c :: B) := by
  intro m
  induction m using Nat.strongRecOn with
  | _ m ih =>
    intro A hm
    by_cases hA : A = []
    · subst hA; rw [wid_nil, Nat.zero_add]; rfl
    have hd := dec_le A hA
    have hp := dec_pos A
    have hne : A ++ c :: B ≠ [] := by simp
    rw [wid_cons _ hne, dec_ascii A B c hA hc, List.drop_append_of_le_length hd, ih (A.drop (dec A).2).length (by simp only [List.length_drop]; omega) _ rfl, wid_cons A hA]
    omega
/-- A text in at most n pieces. -/
def shortP (L : List UInt8) (n : Int) : List UInt8 := if n < 1 then [] else if (wid L : Int) ≤ n then L else L.take (pre (n.toNat - 1) L) ++ [226, 128, 166]

/-! Names. -/
/-- May the first character stand in a name? -/
def okH (L : List UInt8) : Bool := decide ((chr L).1 ≠ 0) && (decide (32 ≤ (chr L).2) && (decide ((chr L).2 ≠ 47) && decide ((chr L).2 ≠ 127)))
def okC (L : List UInt8) : Bool := if h : L = [] then true else okH L && okC (L.drop (dec L).2)
  termination_by L.length
  decreasing_by
    have := List.length_pos_iff.2 h
    have := dec_pos L
    simp only [List.length_drop]
    omega
theorem okC_nil : okC [] = true := by rw [okC]; rfl
theorem okC_cons (L : List UInt8) (h : L ≠ []) : okC L = (okH L && okC (L.drop (dec L).2)) := by
  rw [okC, dif_neg h]
def rightP (L : List UInt8) : Bool := decide (1 ≤ L.length) && (decide (L.length ≤ 18) && (!(L == [46]) && (!(L == [46, 46]) && okC L)))
/-- The same by the piece that a range tells. -/
def okR (L : List UInt8) : Bool := (decide (32 ≤ (dec L).1) && (decide ((dec L).1 ≠ 47) && decide ((dec L).1 ≠ 127))) && (decide ((dec L).1 ≠ 65533) || List.isPrefixOf [239, 191, 189] L)
theorem isPre3 (L : List UInt8) (h : List.isPrefixOf [239, 191, 189] L = true) : ∃ r, L = 239 :: 191 :: 189 :: r := by
  rw [List.isPrefixOf_iff_prefix] at h
  obtain ⟨r, rfl⟩ := h
  exact ⟨r, rfl⟩
theorem chr_fffd (r : List UInt8) : chr (239 :: 191 :: 189 :: r) = (3, 65533) := by
  simp [chr, tlB]
theorem okR_eq (L : List UInt8) : okR L = okH L := by
  by_cases h0 : (chr L).1 = 0
  · have hp : List.isPrefixOf [239, 191, 189] L = false := by
      cases hq : List.isPrefixOf [239, 191, 189] L with
      | false => rfl
      | true =>
        obtain ⟨r, rfl⟩ := isPre3 L hq
        rw [chr_fffd] at h0
        cases h0
    simp [okR, okH, dec, h0, hp]
  · have hd : dec L = ((chr L).2, (chr L).1) := by unfold dec; rw [if_neg h0]
    have hx : (chr L).2 = 65533 → List.isPrefixOf [239, 191, 189] L = true := by
      intro hv
      rcases chr_cases L with h' | ⟨a, r, rfl, h1, h'⟩ | ⟨a, b, r, rfl, h1, h2, h3, h4, h'⟩ | ⟨a, b, c, r, rfl, h1, h2, h3, h4, h5, h6, h'⟩ | ⟨a, b, c, d, r, rfl, h1, h2, h3, h4, h5, h6, h7, h'⟩
      · rw [h'] at h0; exact absurd rfl h0
      · rw [h'] at hv; simp only at hv; omega
      · rw [h'] at hv; simp only at hv; rw [tlB_iff] at h3; omega
      · rw [h'] at hv; simp only at hv
        rw [tlB_iff] at h3 h4
        have ea : a.toNat = 239 := by omega
        have eb : b.toNat = 191 := by omega
        have ec : c.toNat = 189 := by omega
        obtain rfl : a = 239 := UInt8.toNat_inj.1 ea
        obtain rfl : b = 191 := UInt8.toNat_inj.1 eb
        obtain rfl : c = 189 := UInt8.toNat_inj.1 ec
        simp [List.isPrefixOf]
      · rw [h'] at hv; simp only at hv; omega
    unfold okR okH
    rw [hd]
    by_cases hv : (chr L).2 = 65533
    · simp [h0, hv, hx hv]
    · simp [h0, hv]
/-- No slash is in a name. -/
theorem okH_slash (L : List UInt8) (h : okH L = true) : ∀ b ∈ L.take (dec L).2, b ≠ 47 := by
  simp only [okH, Bool.and_eq_true, decide_eq_true_eq] at h
  obtain ⟨h0, _, h47, _⟩ := h
  have hd : (dec L).2 = (chr L).1 := by unfold dec; rw [if_neg h0]
  rw [hd]
  intro x hx e
  subst e
  rcases chr_cases L with h' | ⟨a, r, rfl, h1, h'⟩ | ⟨a, b, r, rfl, h1, h2, h3, h4, h'⟩ | ⟨a, b, c, r, rfl, h1, h2, h3, h4, h5, h6, h'⟩ | ⟨a, b, c, d, r, rfl, h1, h2, h3, h4, h5, h6, h7, h'⟩
  · rw [h'] at h0; exact h0 rfl
  · rw [h'] at hx h47
    simp at hx
    subst hx
    exact h47 rfl
  · rw [h'] at hx
    rw [tlB_iff] at h3
    simp at hx
    rcases hx with hx | hx <;> subst hx <;> simp at *
  · rw [h'] at hx
    rw [tlB_iff] at h3 h4
    simp at hx
    rcases hx with hx | hx | hx <;> subst hx <;> simp at *
  · rw [h'] at hx
    rw [tlB_iff] at h3 h4 h5
    simp at hx
    rcases hx with hx | hx | hx | hx <;> subst hx <;> simp at *
theorem okC_slash : ∀ (m : Nat) (L : List UInt8), L.length = m → okC L = true → (47 : UInt8) ∉ L := by
  intro m
  induction m using Nat.strongRecOn with
  | _ m ih =>
    intro L hm h
    by_cases hL : L = []
    · subst hL; simp
    have hd := dec_le L hL
    have hp := dec_pos L
    rw [okC_cons L hL, Bool.and_eq_true] at h
    have h2 := ih (L.drop (dec L).2).length (by simp only [List.length_drop]; omega) _ rfl h.2
    intro hmem
    rw [← List.take_append_drop (dec L).2 L, List.mem_append] at hmem
    rcases hmem with hm | hm
    · exact okH_slash L h.1 _ hm rfl
    · exact h2 hm
theorem rightP_slash (L : List UInt8) (h : rightP L = true) : (47 : UInt8) ∉ L := by
  simp only [rightP, Bool.and_eq_true] at h
  exact okC_slash _ L rfl h.2.2.2.2
theorem rightP_ne (L : List UInt8) (h : rightP L = true) : L ≠ [] := by
  simp only [rightP, Bool.and_eq_true, decide_eq_true_eq] at h
  intro e
  subst e
  simp at h
theorem rightP_len (L : List UInt8) (h : rightP L = true) : L.length ≤ 18 := by
  simp only [rightP, Bool.and_eq_true, decide_eq_true_eq] at h
  exact h.2.1

/-! Paths. -/
/-- A text cut at its slashes. -/
def segs : List UInt8 → List (List UInt8)
  | [] => [[]]
  | c :: l => if c = 47 then [] :: segs l else (match segs l with | [] => [c :: []] | h :: t => (c :: h) :: t)
theorem segs_ne : ∀ l, segs l ≠ []
  | [] => by simp [segs]
  | c :: l => by
    unfold segs
    split
    · simp
    · split <;> simp
theorem segs_slash (l : List UInt8) : segs (47 :: l) = [] :: segs l := by simp [segs]
theorem segs_cons (c : UInt8) (l : List UInt8) (hc : c ≠ 47) : ∃ h t, segs l = h :: t ∧ segs (c :: l) = (c :: h) :: t := by
  cases hs : segs l with
  | nil => exact absurd hs (segs_ne l)
  | cons h t => exact ⟨h, t, rfl, by simp [segs, hc, hs]⟩
theorem segs_append : ∀ (a b : List UInt8), segs (a ++ 47 :: b) = segs a ++ segs b
  | [], b => by simp [segs]
  | c :: a, b => by
    by_cases hc : c = 47
    · subst hc
      rw [List.cons_append, segs_slash, segs_slash, segs_append a b]; rfl
    · obtain ⟨h, t, h1, h2⟩ := segs_cons c a hc
      obtain ⟨h', t', h3, h4⟩ := segs_cons c (a ++ 47 :: b) hc
      rw [List.cons_append, h4, h2]
      rw [segs_append a b, h1] at h3
      cases h3
      rfl
theorem segs_flat : ∀ (l : List UInt8), (47 : UInt8) ∉ l → segs l = [l]
  | [], _ => rfl
  | c :: l, h => by
    simp only [List.mem_cons, not_or] at h
    obtain ⟨h', t', h3, h4⟩ := segs_cons c l (fun e => h.1 e.symm)
    rw [segs_flat l h.2] at h3
    cases h3
    exact h4
/-- Names with a slash ahead of each. -/
def joinB (l : List (List UInt8)) : List UInt8 := l.flatMap (47 :: ·)
theorem joinB_append (a b : List (List UInt8)) : joinB (a ++ b) = joinB a ++ joinB b := by simp [joinB]
theorem joinB_segs : ∀ l : List UInt8, joinB (segs l) = 47 :: l
  | [] => rfl
  | c :: l => by
    by_cases hc : c = 47
    · subst hc
      rw [segs_slash]
      show 47 :: [] ++ joinB (segs l) = _
      rw [joinB_segs l]; rfl
    · obtain ⟨h, t, h1, h2⟩ := segs_cons c l hc
      have := joinB_segs l
      rw [h1] at this
      rw [h2]
      simp only [joinB, List.flatMap_cons, List.cons_append, List.cons.injEq, true_and] at this ⊢
      rw [this]
theorem segs_join : ∀ (l : List (List UInt8)), l ≠ [] → (∀ n ∈ l, (47 : UInt8) ∉ n) → ∃ r, joinB l = 47 :: r ∧ segs r = l
  | [], h, _ => absurd rfl h
  | [n], _, h => ⟨n, by simp [joinB], segs_flat n (h n (by simp))⟩
  | n :: m :: l, _, h => by
    obtain ⟨r, h1, h2⟩ := segs_join (m :: l) (by simp) (fun x hx => h x (by simp only [List.mem_cons] at hx ⊢; exact .inr hx))
    refine ⟨n ++ 47 :: r, ?_, ?_⟩
    · rw [← h1]; simp [joinB]
    · rw [segs_append, h2, segs_flat n (h n (by simp))]; rfl
/-- The names of a path. -/
def splitP (L : List UInt8) : Option (List (List UInt8)) :=
  if L = [47] then some [] else
  match L with
  | [] => none
  | c :: r => if c = 47 ∧ (c :: r).length ≤ 200 ∧ (segs r).all rightP = true then some (segs r) else none
/-- The path of names. -/
def joinP (l : List (List UInt8)) : Option (List UInt8) := if l = [] then some [47] else if l.all rightP = true ∧ (joinB l).length ≤ 200 then some (joinB l) else none
theorem splitP_root : splitP [47] = some [] := by simp [splitP]
theorem splitP_some {L : List UInt8} {l : List (List UInt8)} (h : splitP L = some l) : (L = [47] ∧ l = []) ∨ (l ≠ [] ∧ L = joinB l ∧ L.length ≤ 200 ∧ ∃ r, L = 47 :: r ∧ segs r = l ∧ l.all rightP = true) := by
  unfold splitP at h
  split at h
  · cases h; exact .inl ⟨by assumption, rfl⟩
  · split at h
    · cases h
    · split at h
      · rename_i c r _ hc
        cases h
        obtain ⟨rfl, h2, h3⟩ := hc
        exact .inr ⟨segs_ne r, (joinB_segs r).symm, h2, r, rfl, rfl, h3⟩
      · cases h
theorem splitP_mk {r : List UInt8} (h : r ≠ []) : splitP (47 :: r) = if (47 :: r).length ≤ 200 ∧ (segs r).all rightP = true then some (segs r) else none := by
  have hne : (47 :: r : List UInt8) ≠ [47] := by simpa using h
  simp only [splitP, if_neg hne, true_and]
theorem split_join {L : List UInt8} {l : List (List UInt8)} (h : splitP L = some l) : joinP l = some L := by
  rcases splitP_some h with ⟨rfl, rfl⟩ | ⟨h1, h2, h3, r, h4, h5, h6⟩
  · simp [joinP]
  · rw [joinP, if_neg h1, if_pos ⟨h6, by rw [← h2]; exact h3⟩, h2]
theorem split_right {L : List UInt8} {l : List (List UInt8)} (h : splitP L = some l) : ∀ n ∈ l, rightP n = true := by
  rcases splitP_some h with ⟨rfl, rfl⟩ | ⟨h1, h2, h3, r, h4, h5, h6⟩
  · simp
  · simpa using h6
theorem joinB_len (l : List (List UInt8)) (i : Nat) : (joinB (l.take i)).length ≤ (joinB l).length := by
  have : joinB l = joinB (l.take i) ++ joinB (l.drop i) := by rw [← joinB_append, List.take_append_drop]
  rw [this, List.length_append]; omega
theorem join_split {l : List (List UInt8)} {p : List UInt8} (h : joinP l = some p) : splitP p = some l ∧ p.length ≤ 200 := by
  unfold joinP at h
  split at h
  · cases h; subst l; exact ⟨splitP_root, by decide⟩
  · rename_i hl
    split at h
    · rename_i hh
      cases h
      have hr : ∀ n ∈ l, rightP n = true := by simpa using hh.1
      obtain ⟨r, h1, h2⟩ := segs_join l hl (fun n hn => rightP_slash n (hr n hn))
      have hrn : r ≠ [] := by
        intro e
        subst e
        have e2 : l = [[]] := by rw [← h2]; rfl
        have := rightP_ne _ (hr [] (by rw [e2]; simp))
        exact this rfl
      refine ⟨?_, hh.2⟩
      rw [h1, splitP_mk hrn, if_pos ⟨by rw [← h1]; exact hh.2, by rw [h2]; exact hh.1⟩, h2]
    · cases h
theorem split_take {L : List UInt8} {l : List (List UInt8)} (h : splitP L = some l) (i : Nat) : ∃ d, joinP (l.take i) = some d := by
  rcases splitP_some h with ⟨rfl, rfl⟩ | ⟨h1, h2, h3, r, h4, h5, h6⟩
  · exact ⟨[47], by simp [joinP]⟩
  · unfold joinP
    split
    · exact ⟨_, rfl⟩
    · have := joinB_len l i
      have hr : ∀ n ∈ l, rightP n = true := by simpa using h6
      rw [if_pos ⟨by simp only [List.all_eq_true]; exact fun x hx => hr x (List.mem_of_mem_take hx), by rw [← h2] at this; omega⟩]
      exact ⟨_, rfl⟩
/-- Both are paths, and dir's names begin path's. -/
def belowP (s t : List UInt8) : Bool := match splitP s, splitP t with
  | some a, some b => b.isPrefixOf a
  | _, _ => false
theorem below_some {s t : List UInt8} {a b : List (List UInt8)} (h1 : splitP s = some a) (h2 : splitP t = some b) : belowP s t = b.isPrefixOf a := by simp [belowP, h1, h2]
theorem below_left {s t : List UInt8} (h : splitP s = none) : belowP s t = false := by simp [belowP, h]
theorem below_right {s t : List UInt8} (h : splitP t = none) : belowP s t = false := by
  unfold belowP; rw [h]; split <;> simp_all
theorem below_dir {s d : List UInt8} {a : List (List UInt8)} {i : Nat} (h1 : splitP s = some a) (h2 : joinP (a.take i) = some d) : belowP s d = true ∧ (i < a.length → belowP d s = false) := by
  have h3 := (join_split h2).1
  refine ⟨?_, fun hi => ?_⟩
  · rw [below_some h1 h3, List.isPrefixOf_iff_prefix]; exact List.take_prefix _ _
  · rw [below_some h3 h1]
    apply Bool.eq_false_iff.2
    intro e
    rw [List.isPrefixOf_iff_prefix] at e
    have := e.length_le
    simp only [List.length_take] at this
    omega
theorem below_starts {s t : List UInt8} (h : belowP s t = true) (ht : t ≠ [47]) : t.length ≤ s.length ∧ s.take t.length = t ∧ (t.length < s.length → s[t.length]? = some 47) := by
  cases h1 : splitP s with
  | none => rw [below_left h1] at h; cases h
  | some a =>
    cases h2 : splitP t with
    | none => rw [below_right h2] at h; cases h
    | some b =>
      rw [below_some h1 h2, List.isPrefixOf_iff_prefix] at h
      obtain ⟨c, rfl⟩ := h
      rcases splitP_some h2 with ⟨e, _⟩ | ⟨hb, eb, _⟩
      · exact absurd e ht
      · rcases splitP_some h1 with ⟨_, e⟩ | ⟨_, es, _⟩
        · simp at e; exact absurd e.1 hb
        · rw [joinB_append, ← eb] at es
          rw [es]
          refine ⟨by simp, by simp, fun hl => ?_⟩
          cases c with
          | nil => simp [joinB] at hl
          | cons n c => simp [joinB]
theorem below_back {s t : List UInt8} (h : belowP s t = true) : belowP t s = decide (s = t) := by
  cases h1 : splitP s with
  | none => rw [below_left h1] at h; cases h
  | some a =>
    cases h2 : splitP t with
    | none => rw [below_right h2] at h; cases h
    | some b =>
      rw [below_some h1 h2, List.isPrefixOf_iff_prefix] at h
      rw [below_some h2 h1]
      by_cases e : s = t
      · subst e
        rw [h1] at h2
        cases h2
        rw [decide_eq_true rfl, List.isPrefixOf_iff_prefix]
        exact List.prefix_rfl
      · rw [decide_eq_false e]
        apply Bool.eq_false_iff.2
        intro e2
        rw [List.isPrefixOf_iff_prefix] at e2
        have hab : a = b := e2.eq_of_length (Nat.le_antisymm e2.length_le h.length_le)
        subst hab
        have j1 := split_join h1
        have j2 := split_join h2
        rw [j1] at j2
        cases j2
        exact e rfl
/-- A path with a text more. -/
theorem path_more {s t : List UInt8} {l : List (List UInt8)} (h : splitP s = some l) (ht : t ≠ []) (h47 : (47 : UInt8) ∉ t) :
    splitP ((if l = [] then [] else s) ++ 47 :: t) = if rightP t = true ∧ ((if l = [] then [] else s) ++ 47 :: t).length ≤ 200 then some (l ++ [t]) else none := by
  rcases splitP_some h with ⟨rfl, rfl⟩ | ⟨h1, h2, h3, r, h4, h5, h6⟩
  · simp only [if_true, List.nil_append]
    rw [splitP_mk ht, segs_flat t h47]
    simp only [List.all_cons, List.all_nil, Bool.and_true]
    simp only [and_comm]
  · rw [if_neg h1, h4, List.cons_append, splitP_mk (by simp), segs_append, h5, segs_flat t h47]
    simp only [List.all_append, List.all_cons, List.all_nil, Bool.and_true, h6, Bool.true_and]
    simp only [and_comm]
theorem path_slash {s : List UInt8} {l : List (List UInt8)} (h : splitP s = some l) : (splitP ((if l = [] then [] else s) ++ [47])).isSome = l.isEmpty := by
  rcases splitP_some h with ⟨rfl, rfl⟩ | ⟨h1, h2, h3, r, h4, h5, h6⟩
  · simp [splitP_root]
  · rw [if_neg h1, h4, List.cons_append, splitP_mk (by simp), segs_append, h5]
    have e : (l ++ segs []).all rightP = false := by
      rw [List.all_append]
      have : rightP [] = false := by decide
      simp [segs, this]
    rw [e]
    simp [h1]
end Go.Proofs.YtdmindhjmjnagabGreatDoor
/- Package name, what only looks at a text: mayStand, writtenWell, Right, Width, Short. -/
namespace Go.Proofs.YtdmindhjmjnagabGreatDoor
set_option linter.unusedVariables false
set_option maxRecDepth 100000
open Go.RowKit

theorem wrap64_ok {n : Int} (h1 : -9223372036854775808 ≤ n) (h2 : n ≤ 9223372036854775807) : wrap64 n = n := by unfold wrap64; omega

theorem below_iter (w : World) (s : ByteArray) (p : Nat) : Below w.heap.size w (w.iter s p) := (Below.refl _ _).alloc (Nat.le_refl _) _
theorem toList_size (s : ByteArray) : s.data.toList.length = s.size := by simp
theorem drop_ne {s : ByteArray} {p : Nat} (h : p < s.size) : s.data.toList.drop p ≠ [] := fun e => by
  have := congrArg List.length e
  simp only [List.length_drop, toList_size, List.length_nil] at this
  omega
theorem drop_nil {s : ByteArray} {p : Nat} (h : ¬ p < s.size) : s.data.toList.drop p = [] := List.drop_eq_nil_of_le (by rw [toList_size]; omega)

theorem isPre_raw (s : ByteArray) (p : ByteArray) : (decide (p.size ≤ s.size) && ((s.extract 0 p.size).toList == p.toList)) = List.isPrefixOf p.data.toList s.data.toList := Lib.hasPrefix_raw s p
theorem decode_rune_le (s : ByteArray) (p : Nat) : (Utf8.decode s p).1 ≤ 2147483647 := decode_le s p
theorem beq_str (s : ByteArray) (l : List UInt8) : (s.toList == l) = (s.data.toList == l) := by rw [Lib.toList_data]
end Go.Proofs.YtdmindhjmjnagabGreatDoor
