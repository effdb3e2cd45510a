/- The document's Merge: its clashes (mathematics). -/
import Derived.Test.YtbodbdcmkicmaaaDl9D
namespace Go.Proofs.Ytbodbdcmkicmaaa
set_option linter.unusedVariables false

structure Kz where
  k : List UInt8
  h : k.length = 24
def Kz.n (x : Kz) : Int := (num x.k : Int)
theorem Kz.same {p q : Kz} (h : p.n = q.n) : p = q := by
  obtain ⟨k, hk⟩ := p
  obtain ⟨k', hk'⟩ := q
  have : k = k' := num_inj k k' (by rw [hk, hk']) (by have e : (num k : Int) = (num k' : Int) := h; omega)
  subst this
  rfl
/-- The keys that clash, rising. -/
def ClashIs (b t n : List Pa) (l : List Kz) : Prop := Asc Kz.n l ∧ ∀ K : Kz, K ∈ l ↔ Clash b t n K.n
theorem ClashIs.unique {b t n : List Pa} {l m : List Kz} (h : ClashIs b t n l) (h' : ClashIs b t n m) : l = m :=
  asc_ext Kz.n h.1 h'.1 fun x => by
    cases e : look Kz.n l x with
    | some a =>
      obtain ⟨h1, h2⟩ := look_key Kz.n e
      rw [← h2, look_mem Kz.n h'.1 ((h'.2 a).2 ((h.2 a).1 h1))]
    | none =>
      cases e2 : look Kz.n m x with
      | none => rfl
      | some a =>
        obtain ⟨h1, h2⟩ := look_key Kz.n e2
        exact absurd h2 ((look_none Kz.n).1 e a ((h.2 a).2 ((h'.2 a).1 h1)))
theorem ClashIs.turned {b t n : List Pa} {l m : List Kz} (h : ClashIs b t n l) (h' : ClashIs b n t m) : l = m := h.unique ⟨h'.1, fun K => (h'.2 K).trans (clash_turned b t n K.n).symm⟩
theorem ClashIs.nil {b t n : List Pa} {l : List Kz} (h : ClashIs b t n l) (hn : ∀ x, ¬ Clash b t n x) : l = [] := by
  cases l with
  | nil => rfl
  | cons a r => exact absurd ((h.2 a).1 (by simp)) (hn _)
theorem ClashIs.none {b t n : List Pa} (h : ClashIs b t n []) (x : Int) : ¬ Clash b t n x := fun c => by
  have : ∃ K : Kz, K.n = x := by
    have h1 := c.1
    cases e : lastA Pa.n b x with
    | some p => exact ⟨⟨p.k, p.h⟩, (lastA_key Pa.n e).2⟩
    | none =>
      cases e2 : lastA Pa.n n x with
      | some p => exact ⟨⟨p.k, p.h⟩, (lastA_key Pa.n e2).2⟩
      | none => rw [e, e2] at h1; exact absurd rfl h1
  obtain ⟨K, rfl⟩ := this
  have := (h.2 K).2 c
  cases this
/-- The document's own way: those of the delta of base and mine that theirs has changed too, and not to the same. -/
theorem clash_is {b t n : List Pa} {d : List Ch} (hd : DiffIs b n d) (f : Ch → Bool) (hf : ∀ c ∈ d, f c = true ↔ lastA Pa.n b c.n ≠ lastA Pa.n t c.n ∧ lastA Pa.n t c.n ≠ lastA Pa.n n c.n) : ClashIs b t n (d.filterMap fun c => if f c then some ⟨c.k, c.h⟩ else none) := by
  have hk : ∀ c ∈ d, ∀ K : Kz, (if f c then some (⟨c.k, c.h⟩ : Kz) else none) = some K → K.n = c.n := fun c _ K h => by
    split at h
    · cases h; rfl
    · cases h
  refine ⟨fm_asc hk hd.1, fun K => ?_⟩
  rw [List.mem_filterMap]
  constructor
  · rintro ⟨c, hc, h⟩
    have hn := hk c hc K h
    split at h
    · rename_i q
      have h2 := (hf c hc).1 q
      rw [← hn] at h2
      refine ⟨fun e => ?_, h2⟩
      have h3 := hd.2 c.n
      rw [look_mem Ch.n hd.1 hc, ← hn, e, diffA_same] at h3
      cases h3
    · cases h
  · intro h
    have hB := at_last b K.n
    have hN := at_last n K.n
    obtain ⟨c, hc⟩ := Option.ne_none_iff_exists'.1 (diffA_done hB hN h.1 none).2
    have h3 := hd.2 K.n
    rw [hc] at h3
    obtain ⟨h4, h5⟩ := look_key Ch.n h3
    refine ⟨c, h4, ?_⟩
    rw [if_pos ((hf c h4).2 (by rw [h5]; exact h.2))]
    exact congrArg some (Kz.same h5)
end Go.Proofs.Ytbodbdcmkicmaaa
