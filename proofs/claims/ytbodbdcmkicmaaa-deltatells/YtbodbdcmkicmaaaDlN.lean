/- More mathematics of stage 9's statements: the last value, changes of other keys, keys of two deltas. -/
import Derived.Test.YtbodbdcmkicmaaaDlK
namespace Go.Proofs.Ytbodbdcmkicmaaa
set_option linter.unusedVariables false

theorem map_again {l m n : List Pa} (h : MapIs l m) (h' : MapIs m n) : n = m := asc_ext Pa.n h'.1 h.1 fun x => by rw [h'.2, h.last, h.2]
/-- The value that the loop over the pairs from i on has found. -/
def LastAt (A : List Pa) (x : Int) (i j : Nat) (p q : Pa) : Prop := (j = i ∧ q = p) ∨ (i < j ∧ lastA Pa.n (A.take j) x = some q)
theorem LastAt.same {A : List Pa} {x : Int} {i j : Nat} {p q : Pa} (_ : LastAt A x i j p q) (hij : i ≤ j) (hj : j < A.length) (e : (A[j]).n = x) : LastAt A x i (j + 1) p A[j] := by
  refine .inr ⟨by omega, ?_⟩
  rw [List.take_succ_eq_append_getElem hj, lastA_snoc, if_pos e]
theorem LastAt.other {A : List Pa} {x : Int} {i j : Nat} {p q : Pa} (h : LastAt A x i j p q) (hij : i ≤ j) (hj : j < A.length) (e : ¬ (A[j]).n = x) (hi : j = i → (A[j]).n = x) : LastAt A x i (j + 1) p q := by
  refine .inr ⟨by omega, ?_⟩
  rw [List.take_succ_eq_append_getElem hj, lastA_snoc, if_neg e]
  rcases h with ⟨h, _⟩ | ⟨_, h⟩
  · exact absurd (hi h) e
  · exact h
theorem LastAt.done {A : List Pa} {x : Int} {i : Nat} {p q : Pa} (h : LastAt A x i A.length p q) (hi : i < A.length) : lastA Pa.n A x = some q := by
  rcases h with ⟨h, _⟩ | ⟨_, h⟩
  · omega
  · rwa [List.take_length] at h
/-- Those of y whose keys x lacks. -/
def freeOf (x : List Ch) (c : Ch) : Bool := x.all fun a => !decide (a.kz = c.kz)
def apartOf (x y : List Ch) : List Ch := y.filter (freeOf x)
theorem apart_take (x y : List Ch) (k : Nat) (h : k < y.length) : apartOf x (y.take (k + 1)) = apartOf x (y.take k) ++ if freeOf x y[k] then [y[k]] else [] := by
  unfold apartOf
  rw [List.take_succ_eq_append_getElem h, List.filter_append]
  cases hf : freeOf x y[k] <;> simp [hf]
theorem free_take (x : List Ch) (c : Ch) (k : Nat) (h : k < x.length) : freeOf (x.take (k + 1)) c = (freeOf (x.take k) c && !decide ((x[k]).kz = c.kz)) := by
  unfold freeOf
  rw [List.take_succ_eq_append_getElem h, List.all_append]
  simp
theorem apart_len (x y : List Ch) : (apartOf x y).length ≤ y.length := List.length_filter_le _ _
theorem apart_last (x y : List Ch) (k : Int) : lastA Ch.n x k = none ∨ lastA Ch.n (apartOf x y) k = none := by
  cases hx : lastA Ch.n x k with
  | none => exact .inl rfl
  | some a =>
    refine .inr ?_
    cases hy : lastA Ch.n (apartOf x y) k with
    | none => rfl
    | some c =>
      obtain ⟨h1, h2⟩ := lastA_key Ch.n hx
      obtain ⟨h3, h4⟩ := lastA_key Ch.n hy
      have h5 := (List.mem_filter.1 h3).2
      have h6 := List.all_eq_true.1 h5 a h1
      have h7 : a.kz = c.kz := Kz.same (show Ch.n a = Ch.n c by rw [h2, h4])
      simp [h7] at h6
/-- Two deltas there and back have the same keys. -/
theorem diffA_some {x : Int} {A B : Option Pa} (hA : At x A) (hB : At x B) : (diffA A B).isSome = decide (A ≠ B) := by
  by_cases e : A = B
  · rw [e, diffA_same]; simp
  · have := (diffA_done hA hB e none).2
    rw [decide_eq_true e]
    exact Option.isSome_iff_ne_none.2 this
theorem turn_keys {a b : List Pa} {d e : List Ch} (hd : DiffIs a b d) (he : DiffIs b a e) : d.map Ch.kz = e.map Ch.kz := by
  have hs : ∀ x, (look Ch.n d x).isSome = (look Ch.n e x).isSome := fun x => by
    rw [hd.2, he.2, diffA_some (at_last a x) (at_last b x), diffA_some (at_last b x) (at_last a x)]
    exact decide_eq_decide.2 ⟨fun h q => h q.symm, fun h q => h q.symm⟩
  have hm : ∀ {l : List Ch} (_ : Asc Ch.n l) (K : Kz), K ∈ l.map Ch.kz ↔ (look Ch.n l K.n).isSome = true := fun {l} hl K => by
    rw [List.mem_map]
    constructor
    · rintro ⟨c, hc, rfl⟩
      rw [show c.kz.n = Ch.n c from rfl, look_mem Ch.n hl hc]
      rfl
    · intro q
      obtain ⟨c, hc⟩ := Option.isSome_iff_exists.1 q
      obtain ⟨h1, h2⟩ := look_key Ch.n hc
      exact ⟨c, h1, Kz.same h2⟩
  have hz : ∀ {l : List Ch}, Asc Ch.n l → Asc Kz.n (l.map Ch.kz) := fun {l} hl => List.pairwise_map.2 (hl.imp fun {a b} q => q)
  exact asc_mem (hz hd.1) (hz he.1) fun K => by rw [hm hd.1, hm he.1, hs]
theorem turn_back {a b m n A : List Pa} {d e : List Ch} (hd : DiffIs a b d) (he : DiffIs b a e) (hm : ApplyIs a d m) (hn : ApplyIs m e n) (hA : MapIs a A) : n = A :=
  asc_ext Pa.n hn.1 hA.1 fun x => by
    rw [hn.2, hA.2, hm.last, hd.last, he.last, diffA_self (at_last a x) (at_last b x), diffA_self (at_last b x) (at_last a x)]
theorem turn_way {a b c m C : List Pa} {d f j : List Ch} (hd : DiffIs a b d) (hf : DiffIs b c f) (hj : JoinIs (d ++ f) j) (hm : ApplyIs a j m) (hC : MapIs c C) : m = C :=
  asc_ext Pa.n hm.1 hC.1 fun x => by
    rw [hm.2, hC.2, hj.last, doneA_plain, lastA_append, doneA_or, hd.last, hf.last, diffA_self (at_last a x) (at_last b x), diffA_self (at_last b x) (at_last c x)]
end Go.Proofs.Ytbodbdcmkicmaaa
