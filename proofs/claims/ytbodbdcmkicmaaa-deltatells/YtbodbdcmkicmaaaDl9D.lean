/- The document's Diff and Merge as lists (mathematics). -/
import Derived.Test.YtbodbdcmkicmaaaDl9N
namespace Go.Proofs.Ytbodbdcmkicmaaa
set_option linter.unusedVariables false

theorem Ch.same {p q : Ch} (h : p.n = q.n) (hv : p.v = q.v) (hg : p.g = q.g) : p = q := by
  obtain ⟨k, hk, v, g⟩ := p
  obtain ⟨k', hk', v', g'⟩ := q
  have : k = k' := num_inj k k' (by rw [hk, hk']) (by have e : (num k : Int) = (num k' : Int) := h; omega)
  subst this
  have e : v = v' := hv
  subst e
  have e : g = g' := hg
  subst e
  rfl
section
variable {α β : Type} {key : α → Int} {key' : β → Int}
theorem fm_asc {l : List α} {f : α → Option β} (hf : ∀ a ∈ l, ∀ b, f a = some b → key' b = key a) (h : Asc key l) : Asc key' (l.filterMap f) := by
  induction l with
  | nil => exact List.Pairwise.nil
  | cons a r ih =>
    have hp := List.pairwise_cons.1 h
    have hr := ih (fun c hc b hb => hf c (by simp [hc]) b hb) hp.2
    cases e : f a with
    | none => rw [List.filterMap_cons_none e]; exact hr
    | some b =>
      rw [List.filterMap_cons_some e]
      refine List.pairwise_cons.2 ⟨fun c hc => ?_, hr⟩
      obtain ⟨z, hz, hb⟩ := List.mem_filterMap.1 hc
      have h1 := hf a (by simp) b e
      have h2 := hf z (by simp [hz]) c hb
      have h3 := hp.1 z hz
      omega
theorem fm_look {l : List α} {f : α → Option β} (hf : ∀ a ∈ l, ∀ b, f a = some b → key' b = key a) (h : Asc key l) (x : Int) : look key' (l.filterMap f) x = (look key l x).bind f := by
  induction l with
  | nil => rfl
  | cons a r ih =>
    have hp := List.pairwise_cons.1 h
    have hf' : ∀ c ∈ r, ∀ b, f c = some b → key' b = key c := fun c hc b hb => hf c (by simp [hc]) b hb
    have hr := ih hf' hp.2
    simp only [look]
    cases e : f a with
    | none =>
      rw [List.filterMap_cons_none e, hr]
      by_cases q : key a = x
      · rw [if_pos q, look_low key (fun c hc => by have := hp.1 c hc; omega)]
        simp [e]
      · rw [if_neg q]
    | some b =>
      have h1 := hf a (by simp) b e
      rw [List.filterMap_cons_some e]
      simp only [look]
      by_cases q : key a = x
      · rw [if_pos q, if_pos (by omega)]
        simp [e]
      · rw [if_neg q, if_neg (by omega), hr]
end
/-- What Diff puts in for a pair of the first map. -/
def dfA (b : List Pa) (p : Pa) : Option Ch := match look Pa.n b p.n with
  | none => some ⟨p.k, p.h, [], true⟩
  | some q => if q.v = p.v then none else some ⟨p.k, p.h, q.v, false⟩
/-- What Diff puts in for a pair of the second map. -/
def dfB (a : List Pa) (q : Pa) : Option Ch := match look Pa.n a q.n with
  | none => some ⟨q.k, q.h, q.v, false⟩
  | some _ => none
theorem dfA_n (b : List Pa) (p : Pa) (c : Ch) (h : dfA b p = some c) : c.n = p.n := by
  unfold dfA at h
  split at h
  · cases h; rfl
  · split at h
    · cases h
    · cases h; rfl
theorem dfB_n (a : List Pa) (q : Pa) (c : Ch) (h : dfB a q = some c) : c.n = q.n := by
  unfold dfB at h
  split at h
  · cases h; rfl
  · cases h
/-- The document's Diff, of two maps. -/
theorem diff_is {a b A B : List Pa} (hA : MapIs a A) (hB : MapIs b B) : DiffIs a b ((A.filterMap (dfA B) ++ B.filterMap (dfB A)).foldl (putA Ch.n) []) := by
  have h := puts_is Ch.n (A.filterMap (dfA B) ++ B.filterMap (dfB A)) [] List.Pairwise.nil
  refine ⟨h.1, fun x => ?_⟩
  rw [h.2, lastA_append, lastA_asc Ch.n (fm_asc (fun p _ c => dfA_n B p c) hA.1), lastA_asc Ch.n (fm_asc (fun p _ c => dfB_n A p c) hB.1),
    fm_look (fun p _ c => dfA_n B p c) hA.1, fm_look (fun p _ c => dfB_n A p c) hB.1, ← hA.2, ← hB.2]
  simp only [look, Option.or_none]
  cases ea : look Pa.n A x with
  | none =>
    cases eb : look Pa.n B x with
    | none => rfl
    | some q =>
      have hq := (look_key Pa.n eb).2
      simp [dfB, hq, ea, diffA]
  | some p =>
    have hp := (look_key Pa.n ea).2
    cases eb : look Pa.n B x with
    | none => simp [dfA, hp, eb, diffA]
    | some q =>
      have hq := (look_key Pa.n eb).2
      simp only [Option.bind_some, dfA, dfB, hp, hq, ea, eb, Option.none_or, diffA]
      by_cases e : p.v = q.v
      · rw [if_pos e, if_pos e.symm]
      · rw [if_neg e, if_neg (fun r => e r.symm)]
        exact congrArg some (Ch.same (show (num p.k : Int) = (num q.k : Int) from hp.trans hq.symm) rfl rfl)
/-- A delta's changes are as a delta holds them. -/
theorem diffA_plain (A B : Option Pa) (c : Ch) (h : diffA A B = some c) : c.plain = c := by
  unfold diffA at h
  split at h
  · cases h
  · cases h; rfl
  · cases h; rfl
  · split at h
    · cases h
    · cases h; rfl
end Go.Proofs.Ytbodbdcmkicmaaa
