import Derived.Test.YtgicanpggndbeaaGreatB46
/- dir: what stands in a view over nothing (mathematics). -/
namespace Go.Proofs.YtgicanpggndbeaaGreat
set_option linter.unusedVariables false
set_option maxRecDepth 100000
open Go.RowKit

/-- The pairs that changes over nothing leave in a span. -/
def lives (C : List Ch) (s : Sp) : List Pa := ((inL C s).filter fun c => !c.g).map Ch.pa
theorem look_lives : ∀ {C : List Ch}, Asc Ch.n C → ∀ x, look Pa.n ((C.filter fun c => !c.g).map Ch.pa) x = doneA (look Ch.n C x) none
  | [], _, x => rfl
  | c :: r, h, x => by
    have hp := List.pairwise_cons.1 h
    have ih := look_lives hp.2 x
    rw [List.filter_cons]
    cases hg : c.g with
    | false =>
      rw [if_pos (by rfl), List.map_cons]
      simp only [look]
      by_cases e : c.n = x
      · have e' : c.pa.n = x := e
        rw [if_pos e, if_pos e']
        simp [doneA, hg]
      · have e' : ¬ c.pa.n = x := e
        rw [if_neg e, if_neg e', ih]
    | true =>
      rw [if_neg (by decide), ih]
      simp only [look]
      by_cases e : c.n = x
      · rw [if_pos e, look_low Ch.n (fun a ha => by have := hp.1 a ha; omega)]
        simp [doneA, hg]
      · rw [if_neg e]
theorem lives_asc {C : List Ch} (h : Asc Ch.n C) (s : Sp) : Asc Pa.n (lives C s) := by
  unfold lives
  exact List.Pairwise.map _ (fun _ _ q => q) (List.Pairwise.sublist List.filter_sublist (inL_asc h s))
theorem scan_lives {C : List Ch} (h : Asc Ch.n C) (s : Sp) : scanV C nSn s = (lives C s, 0) := by
  have e1 : scanV C nSn s = (applyL (scanL s []) (inL C s), 0) := rfl
  rw [e1]
  refine congrArg (·, (0 : Int)) (asc_ext Pa.n (applyL_is _ _).1 (lives_asc h s) fun x => ?_)
  rw [(applyL_is _ _).2, lastA_asc Ch.n (inL_asc h s)]
  unfold lives
  rw [look_lives (inL_asc h s)]
  rfl
theorem getV_nil (C : List Ch) (K : Kz) : getV C (plGe []) K = match look Ch.n C K.n with
    | some c => (c.v, !c.g, 0)
    | none => ([], false, 0) := by
  unfold getV
  cases look Ch.n C K.n with
  | some c => rfl
  | none => rfl
theorem putA_count (p : Ch → Bool) (c : Ch) : ∀ {l : List Ch}, Asc Ch.n l → ((putA Ch.n l c).filter p).length + ((look Ch.n l c.n).toList.filter p).length = (l.filter p).length + ([c].filter p).length
  | [], _ => by simp [putA, look]
  | a :: r, h => by
    have hp := List.pairwise_cons.1 h
    have ih := putA_count p c hp.2
    unfold putA
    simp only [look]
    by_cases h1 : a.n < c.n
    · rw [if_pos h1, if_neg (by omega)]
      simp only [List.filter_cons] at ih ⊢
      split <;> (try simp only [List.length_cons] at ih ⊢) <;> omega
    · rw [if_neg h1]
      by_cases h2 : a.n = c.n
      · rw [if_pos h2, if_pos h2]
        simp only [List.filter_cons, Option.toList_some, List.filter_nil]
        split <;> split <;> simp
      · rw [if_neg h2, if_neg h2, look_low Ch.n (fun x hx => by have := hp.1 x hx; omega)]
        simp only [List.filter_cons, Option.toList_none, List.filter_nil]
        split <;> split <;> simp
theorem nm_num {i : Int} (hi : okNum i = true) {o : Option Int} (h : NmIs (numT i) o) : o = some i := (h i).2 ⟨hi, by unfold numT; rw [if_pos hi]⟩
theorem okN_of {a : Int} (h1 : 1 ≤ a) (h2 : a < 1073741824) : okN a = true := by
  unfold okN
  exact decide_eq_true ⟨h1, h2⟩
theorem enC_n (n : Int) (s : List UInt8) (i : Int) : (enC n s i).n = (ekz n s).n := rfl
theorem goneE_n (n : Int) (s : List UInt8) : (goneC (ekz n s)).n = (ekz n s).n := rfl
theorem ekz_n_inj {n m : Int} (hn : okN n = true) (hm : okN m = true) {a b : List UInt8} (ha : rightP a = true) (hb : rightP b = true) (h : (ekz n a).n = (ekz m b).n) : n = m ∧ a = b := by
  have h1 := entry_inj hn (rightP_okS ha) hm (rightP_okS hb)
  have h2 : entryR n a = entryR m b := num_inj _ _ ((ekz n a).h.trans (ekz m b).h.symm) (Int.ofNat_inj.1 h)
  rw [h2] at h1
  simpa using h1
/-- What DirApart's loop knows of the changes. -/
structure Ap14 (a b : Int) (C : List Ch) (n : Nat) : Prop where
  asc : Asc Ch.n C
  of : ∀ c ∈ C, ∃ s, rightP s = true ∧ ((∃ i, okNum i = true ∧ c = enC a s i) ∨ c = goneC (ekz b s))
  cnt : (C.filter fun c => !c.g).length = n
theorem Ap14.start (a b : Int) : Ap14 a b [] 0 := ⟨List.Pairwise.nil, (fun c h => by cases h), rfl⟩
section
variable {a b : Int} {C : List Ch} {n : Nat} (ha : okN a = true) (hb : okN b = true) (hab : a ≠ b) {s : List UInt8} (hs : rightP s = true)
include ha hb hab hs
theorem Ap14.look_a (h : Ap14 a b C n) : look Ch.n C (ekz a s).n = none ∨ ∃ i, okNum i = true ∧ look Ch.n C (ekz a s).n = some (enC a s i) := by
  cases e : look Ch.n C (ekz a s).n with
  | none => exact .inl rfl
  | some c =>
    obtain ⟨hm, hk⟩ := look_key Ch.n e
    obtain ⟨t, ht, ⟨i, hi, rfl⟩ | rfl⟩ := h.of c hm
    · rw [enC_n] at hk
      obtain ⟨-, rfl⟩ := ekz_n_inj ha ha ht hs hk
      exact .inr ⟨i, hi, rfl⟩
    · rw [goneE_n] at hk
      exact absurd (ekz_n_inj hb ha ht hs hk).1.symm hab
theorem Ap14.look_b (h : Ap14 a b C n) : look Ch.n C (ekz b s).n = none ∨ look Ch.n C (ekz b s).n = some (goneC (ekz b s)) := by
  cases e : look Ch.n C (ekz b s).n with
  | none => exact .inl rfl
  | some c =>
    obtain ⟨hm, hk⟩ := look_key Ch.n e
    obtain ⟨t, ht, ⟨i, hi, rfl⟩ | rfl⟩ := h.of c hm
    · rw [enC_n] at hk
      exact absurd (ekz_n_inj ha hb ht hs hk).1 hab
    · rw [goneE_n] at hk
      obtain ⟨-, rfl⟩ := ekz_n_inj hb hb ht hs hk
      exact .inr rfl
/-- Was it there? Its put. -/
theorem Ap14.was (h : Ap14 a b C n) {o : Option Int} (ho : NmIs (getV C (plGe []) (ekz a s)).1 o) (i : Int) (hi : okNum i = true) : Ap14 a b (putA Ch.n C (enC a s i)) (n + if (findR (getV C (plGe []) (ekz a s)) o).2.1 = true then 0 else 1) := by
  have hc := putA_count (fun c => !c.g) (enC a s i) h.asc
  rw [h.cnt] at hc
  refine ⟨putA_asc Ch.n _ h.asc, fun c hc => ?_, ?_⟩
  · rcases putA_mem Ch.n hc with hm | rfl
    · exact h.of c hm
    · exact ⟨s, hs, .inl ⟨i, hi, rfl⟩⟩
  · rw [getV_nil] at ho ⊢
    rw [enC_n] at hc
    rcases h.look_a ha hb hab hs with e | ⟨j, hj, e⟩
    · rw [e] at hc ⊢
      have : ([enC a s i].filter fun c => !c.g).length = 1 := rfl
      rw [this] at hc
      simp only [Option.toList_none, List.filter_nil, List.length_nil] at hc
      have : (findR ([], false, 0) o).2.1 = false := rfl
      rw [this, if_neg (by decide)]
      omega
    · rw [e] at hc ho ⊢
      have h1 : ([enC a s i].filter fun c => !c.g).length = 1 := rfl
      have h2 : ((some (enC a s j)).toList.filter fun c => !c.g).length = 1 := rfl
      rw [h1, h2] at hc
      have := nm_num hj ho
      subst this
      have : (findR ((enC a s j).v, !(enC a s j).g, 0) (some j)).2.1 = true := rfl
      rw [this, if_pos rfl]
      omega
theorem Ap14.drop (h : Ap14 a b C n) : Ap14 a b (putA Ch.n C (goneC (ekz b s))) n := by
  have hc := putA_count (fun c => !c.g) (goneC (ekz b s)) h.asc
  rw [h.cnt] at hc
  refine ⟨putA_asc Ch.n _ h.asc, fun c hc => ?_, ?_⟩
  · rcases putA_mem Ch.n hc with hm | rfl
    · exact h.of c hm
    · exact ⟨s, hs, .inr rfl⟩
  · rw [goneE_n] at hc
    have h1 : ([goneC (ekz b s)].filter fun c => !c.g).length = 0 := rfl
    rw [h1] at hc
    rcases h.look_b ha hb hab hs with e | e
    · rw [e] at hc
      simp only [Option.toList_none, List.filter_nil, List.length_nil] at hc
      omega
    · rw [e] at hc
      have h2 : ((some (goneC (ekz b s))).toList.filter fun c => !c.g).length = 0 := rfl
      rw [h2] at hc
      omega
theorem Ap14.found (h : Asc Ch.n C) (i : Int) (hi : okNum i = true) {o : Option Int} (ho : NmIs (getV (putA Ch.n (putA Ch.n C (enC a s i)) (goneC (ekz b s))) (plGe []) (ekz a s)).1 o) : findR (getV (putA Ch.n (putA Ch.n C (enC a s i)) (goneC (ekz b s))) (plGe []) (ekz a s)) o = (i, true, 0) := by
  have e : look Ch.n (putA Ch.n (putA Ch.n C (enC a s i)) (goneC (ekz b s))) (ekz a s).n = some (enC a s i) := by
    rw [putA_look Ch.n _ _ (putA_asc Ch.n _ h), goneE_n, if_neg (fun q => hab (ekz_n_inj hb ha hs hs q).1.symm), putA_look Ch.n _ _ h, enC_n, if_pos rfl]
  rw [getV_nil, e] at ho ⊢
  rw [nm_num hi ho]
  rfl
end
theorem inb_ekz {n d : Int} (hn : okN n = true) (hd : okN d = true) {s : List UInt8} (hs : rightP s = true) : (entriesS d).inb (ekz n s).n = decide (n = d) := by
  have h2 : (entriesS d).inb (num (ekz n s).k) = inS (entriesF d) (entriesT d) false (entryR n s) := (in_num (entriesS d) (ekz n s).k (ekz n s).h).symm
  exact h2.trans (in_dirs hn hd (rightP_okS hs))
theorem Ap14.list_a {a b : Int} {C : List Ch} {n : Nat} (ha : okN a = true) (hb : okN b = true) (hab : a ≠ b) (h : Ap14 a b C n) : (lives C (entriesS a)).length = n ∧ ∀ p ∈ lives C (entriesS a), ∃ s i, rightP s = true ∧ okNum i = true ∧ p = (enC a s i).pa := by
  constructor
  · rw [← h.cnt]
    unfold lives inL
    rw [List.length_map, List.filter_filter]
    refine congrArg List.length (List.filter_congr fun c hc => ?_)
    obtain ⟨t, ht, ⟨i, hi, rfl⟩ | rfl⟩ := h.of c hc
    · rw [enC_n, inb_ekz ha ha ht]
      simp
    · rfl
  · intro p hp
    unfold lives inL at hp
    rw [List.mem_map] at hp
    obtain ⟨c, hc, rfl⟩ := hp
    rw [List.filter_filter, List.mem_filter] at hc
    obtain ⟨t, ht, ⟨i, hi, rfl⟩ | rfl⟩ := h.of c hc.1
    · exact ⟨t, i, ht, hi, rfl⟩
    · have := hc.2
      simp [goneC] at this
theorem Ap14.list_b {a b : Int} {C : List Ch} {n : Nat} (ha : okN a = true) (hb : okN b = true) (hab : a ≠ b) (h : Ap14 a b C n) : lives C (entriesS b) = [] := by
  unfold lives inL
  rw [List.map_eq_nil_iff, List.filter_filter, List.filter_eq_nil_iff]
  intro c hc
  obtain ⟨t, ht, ⟨i, hi, rfl⟩ | rfl⟩ := h.of c hc
  · rw [enC_n, inb_ekz ha hb ht, decide_eq_false hab]
    simp
  · simp [goneC]
theorem good_entry {n : Int} (hn : okN n = true) {s : List UInt8} (hs : rightP s = true) : goodK (entryR n s) = true ∧ pName (entryR n s) = s := by
  have h1 := (entry_right hn (rightP_okS hs)).1
  have e : entryR n s = entryK n.toNat s := by unfold entryR; rw [hn, rightP_okS hs]; rfl
  have h2 := entry_says hn (rightP_okS hs)
  rw [← e] at h2
  refine ⟨?_, h2.2.2⟩
  unfold goodK
  rw [h1, h2.2.1]
  rfl
end Go.Proofs.YtgicanpggndbeaaGreat
