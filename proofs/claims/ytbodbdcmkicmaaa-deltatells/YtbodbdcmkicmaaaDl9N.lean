/- What the statements of stage 9 come to (mathematics). -/
import Derived.Test.YtbodbdcmkicmaaaDl9M
import Derived.Test.YtbodbdcmkicmaaaSpM
namespace Go.Proofs.Ytbodbdcmkicmaaa
set_option linter.unusedVariables false

theorem Pa.same {p q : Pa} (h : p.n = q.n) (hv : p.v = q.v) : p = q := by
  obtain ⟨k, hk, v⟩ := p
  obtain ⟨k', hk', v'⟩ := q
  have : k = k' := num_inj k k' (by rw [hk, hk']) (by have e : (num k : Int) = (num k' : Int) := h; omega)
  subst this
  have e : v = v' := hv
  subst e
  rfl
/-- One pair at most, and of this key. -/
def At (x : Int) (o : Option Pa) : Prop := ∀ p, o = some p → p.n = x
theorem at_last (l : List Pa) (x : Int) : At x (lastA Pa.n l x) := fun _ h => (lastA_key Pa.n h).2
theorem diffA_same (A : Option Pa) : diffA A A = none := by
  cases A with
  | none => rfl
  | some p => simp [diffA]
theorem diffA_done {x : Int} {A B : Option Pa} (hA : At x A) (hB : At x B) (h : A ≠ B) (X : Option Pa) : doneA (diffA A B) X = B ∧ diffA A B ≠ none := by
  cases A with
  | none =>
    cases B with
    | none => exact absurd rfl h
    | some q => exact ⟨rfl, by simp [diffA]⟩
  | some p =>
    cases B with
    | none => exact ⟨rfl, by simp [diffA]⟩
    | some q =>
      have hv : p.v ≠ q.v := fun e => h (by rw [Pa.same ((hA p rfl).trans (hB q rfl).symm) e])
      rw [diffA, if_neg hv]
      exact ⟨rfl, by simp⟩
theorem diffA_self {x : Int} {A B : Option Pa} (hA : At x A) (hB : At x B) : doneA (diffA A B) A = B := by
  by_cases h : A = B
  · rw [h, diffA_same]; rfl
  · exact (diffA_done hA hB h A).1
theorem diffA_none {x : Int} {A B : Option Pa} (hA : At x A) (hB : At x B) (h : diffA A B = none) : A = B := by
  by_cases e : A = B
  · exact e
  · exact absurd h (diffA_done hA hB e none).2
theorem doneA_plain (o : Option Ch) (p : Option Pa) : doneA (o.map Ch.plain) p = doneA o p := by
  cases o with
  | none => rfl
  | some c =>
    simp only [Option.map_some, doneA, Ch.plain]
    cases h : c.g <;> simp [h]
theorem doneA_or (c d : Option Ch) (p : Option Pa) : doneA (d.or c) p = doneA d (doneA c p) := by
  cases d <;> rfl
/-! Diff. -/
theorem diff_apply {a b : List Pa} {d : List Ch} {m n : List Pa} (hd : DiffIs a b d) (hm : ApplyIs a d m) (hn : MapIs b n) : m = n :=
  asc_ext Pa.n hm.1 hn.1 fun x => by rw [hm.2, hn.2, hd.last]; exact diffA_self (at_last a x) (at_last b x)
theorem diff_none {a : List Pa} {d : List Ch} (hd : DiffIs a a d) : d = [] :=
  asc_ext Ch.n hd.1 List.Pairwise.nil fun x => by rw [hd.2, diffA_same]; rfl
theorem diff_less {a b : List Pa} {I J : List Ch} {c : Ch} {m n : List Pa} (hd : DiffIs a b (I ++ c :: J)) (hm : ApplyIs a (I ++ J) m) (hn : MapIs b n) : m ≠ n := fun e => by
  subst e
  have hp := List.pairwise_append.1 hd.1
  have hq := List.pairwise_cons.1 hp.2.1
  have h1 : lastA Ch.n (I ++ J) c.n = none := by
    cases h : lastA Ch.n (I ++ J) c.n with
    | none => rfl
    | some z =>
      obtain ⟨hz, hk⟩ := lastA_key Ch.n h
      rcases List.mem_append.1 hz with q | q
      · have := hp.2.2 z q c (by simp); omega
      · have := hq.1 z q; omega
  have h2 := hm.2 c.n
  rw [h1, hn.2] at h2
  have h3 := hd.2 c.n
  rw [look_mem Ch.n hd.1 (by simp)] at h3
  have h4 : lastA Pa.n b c.n = lastA Pa.n a c.n := h2
  rw [h4, diffA_same] at h3
  cases h3
/-! Join. -/
theorem join_apply {a m n n' : List Pa} {x y j : List Ch} (hm : ApplyIs a x m) (hn : ApplyIs m y n) (hj : JoinIs (x ++ y) j) (h : ApplyIs a j n') : n = n' :=
  asc_ext Pa.n hn.1 h.1 fun t => by rw [hn.2, h.2, hm.last, hj.last, doneA_plain, lastA_append, doneA_or]
theorem join_again {l j k : List Ch} (hj : JoinIs l j) (hk : JoinIs j k) : k = j :=
  asc_ext Ch.n hk.1 hj.1 fun t => by
    rw [hk.2, hj.last, hj.2]
    cases lastA Ch.n l t with
    | none => rfl
    | some c => simp [Ch.plain_plain]
theorem join_three {x y jx j k : List Ch} (hx : JoinIs x jx) (hk : JoinIs (jx ++ y) k) (hj : JoinIs (x ++ y) j) : k = j :=
  asc_ext Ch.n hk.1 hj.1 fun t => by
    rw [hk.2, hj.2, lastA_append, lastA_append, hx.last]
    cases lastA Ch.n y t with
    | some c => rfl
    | none =>
      cases lastA Ch.n x t with
      | none => rfl
      | some c => simp [Ch.plain_plain]
/-! Merge: theirs with the delta of base and mine in it. -/
/-- Does this key clash? -/
def Clash (b t n : List Pa) (x : Int) : Prop := lastA Pa.n b x ≠ lastA Pa.n n x ∧ lastA Pa.n b x ≠ lastA Pa.n t x ∧ lastA Pa.n t x ≠ lastA Pa.n n x
theorem clash_turned (b t n : List Pa) (x : Int) : Clash b t n x ↔ Clash b n t x := ⟨fun h => ⟨h.2.1, h.1, fun e => h.2.2 e.symm⟩, fun h => ⟨h.2.1, h.1, fun e => h.2.2 e.symm⟩⟩
theorem merge_turned {b t n m m' : List Pa} {d d' : List Ch} (hd : DiffIs b n d) (hd' : DiffIs b t d') (hm : ApplyIs t d m) (hm' : ApplyIs n d' m') (hc : ∀ x, ¬ Clash b t n x) : m = m' :=
  asc_ext Pa.n hm.1 hm'.1 fun x => by
    have c := hc x
    unfold Clash at c
    rw [hm.2, hm'.2, hd.last, hd'.last]
    have hB := at_last b x
    have hT := at_last t x
    have hN := at_last n x
    generalize lastA Pa.n b x = B at *
    generalize lastA Pa.n t x = T at *
    generalize lastA Pa.n n x = N at *
    by_cases e1 : B = N
    · subst e1
      rw [diffA_same, diffA_self hB hT]
      rfl
    · by_cases e2 : B = T
      · subst e2
        rw [diffA_same, diffA_self hB hN]
        rfl
      · have e3 : T = N := Classical.byContradiction fun e => c ⟨e1, e2, e⟩
        rw [(diffA_done hB hN e1 T).1, (diffA_done hB hT e2 N).1, e3]
theorem merge_one {t n m k : List Pa} {d : List Ch} (hd : DiffIs t n d) (hm : ApplyIs t d m) (hk : MapIs n k) : m = k := diff_apply hd hm hk
theorem merge_two {t n m k : List Pa} {d : List Ch} (hd : DiffIs n n d) (hm : ApplyIs t d m) (hk : MapIs t k) : m = k := by
  have := diff_none hd
  subst this
  exact asc_ext Pa.n hm.1 hk.1 fun x => by rw [hm.2, hk.2]; rfl
/-- Who changes other keys does not clash, and all changes are there. -/
theorem merge_apart {b t n m m' : List Pa} {x y d j : List Ch} (ht : ApplyIs b x t) (hn : ApplyIs b y n) (hd : DiffIs b n d) (hm : ApplyIs t d m) (hj : JoinIs (x ++ y) j) (hm' : ApplyIs b j m') (hap : ∀ k, lastA Ch.n x k = none ∨ lastA Ch.n y k = none) : m = m' ∧ ∀ k, ¬ Clash b t n k := by
  refine ⟨asc_ext Pa.n hm.1 hm'.1 fun k => ?_, fun k h => ?_⟩
  · rw [hm.2, hm'.2, hd.last, hj.last, doneA_plain, lastA_append, doneA_or, ht.last]
    have hB := at_last b k
    have hN := at_last n k
    have e := hn.last k
    rcases hap k with q | q
    · rw [q]
      show doneA (diffA (lastA Pa.n b k) (lastA Pa.n n k)) (lastA Pa.n b k) = doneA (lastA Ch.n y k) (lastA Pa.n b k)
      rw [← e]
      exact diffA_self hB hN
    · rw [q] at e
      have e' : lastA Pa.n n k = lastA Pa.n b k := e
      rw [e', diffA_same, q]
  · rcases hap k with q | q
    · have e := ht.last k
      rw [q] at e
      exact h.2.1 e.symm
    · have e := hn.last k
      rw [q] at e
      exact h.1 e.symm
end Go.Proofs.Ytbodbdcmkicmaaa
