import Derived.Test.YtdmindhjmjnagabGreatDoorB08
/- What the statements of stage 9 come to (mathematics). -/
namespace Go.Proofs.YtdmindhjmjnagabGreatDoor
set_option linter.unusedVariables false
set_option maxRecDepth 100000

theorem Pa.same {p q : Pa} (h : p.n = q.n) (hv : p.v = q.v) : p = q := by
  obtain ⟨k, hk, v⟩ := p
  obtain ⟨k', hk', v'⟩ := q
  have : k = k' := num_inj k k' (by rw [hk, hk']) (by have e : (num k : Int) = (num k' : Int) := h; omega)
  subst this
  have e : v = v' := hv
  subst e
  rfl
/-- One pair at most, and of this key. -/
def At (x : Int) (o : Option Pa) : Prop := ∀ p, o = some p → p.n = x
theorem at_last (l : List Pa) (x : Int) : At x (lastA Pa.n l x) := fun _ h => (lastA_key Pa.n h).2
theorem diffA_same (A : Option Pa) : diffA A A = none := by
  cases A with
  | none => rfl
  | some p => simp [diffA]
theorem diffA_done {x : Int} {A B : Option Pa} (hA : At x A) (hB : At x B) (h : A ≠ B) (X : Option Pa) : doneA (diffA A B) X = B ∧ diffA A B ≠ none := by
  cases A with
  | none =>
    cases B with
    | none => exact absurd rfl h
    | some q => exact ⟨rfl, by simp [diffA]⟩
  | some p =>
    cases B with
    | none => exact ⟨rfl, by simp [diffA]⟩
    | some q =>
      have hv : p.v ≠ q.v := fun e => h (by rw [Pa.same ((hA p rfl).trans (hB q rfl).symm) e])
      rw [diffA, if_neg hv]
      exact ⟨rfl, by simp⟩
theorem diffA_self {x : Int} {A B : Option Pa} (hA : At x A) (hB : At x B) : doneA (diffA A B) A = B := by
  by_cases h : A = B
  · rw [h, diffA_same]; rfl
  · exact (diffA_done hA hB h A).1
theorem diffA_none {x : Int} {A B : Option Pa} (hA : At x A) (hB : At x B) (h : diffA A B = none) : A = B := by
  by_cases e : A = B
  · exact e
  · exact absurd h (diffA_done hA hB e none).2
theorem doneA_plain (o : Option Ch) (p : Option Pa) : doneA (o.map Ch.plain) p = doneA o p := by
  cases o with
  | none => rfl
  | some c =>
    simp only [Option.map_some, doneA, Ch.plain]
    cases h : c.g <;> simp [h]
theorem doneA_or (c d : Option Ch) (p : Option Pa) : doneA (d.or c) p = doneA d (doneA c p) := by
  cases d <;> rfl
/-! Diff. -/
theorem diff_apply {a b : List Pa} {d : List Ch} {m n : List Pa} (hd : DiffIs a b d) (hm : ApplyIs a d m) (hn : MapIs b n) : m = n :=
  asc_ext Pa.n hm.1 hn.1 fun x => by rw [hm.2, hn.2, hd.last]; exact diffA_self (at_last a x) (at_last b x)
theorem diff_none {a : List Pa} {d : List Ch} (hd : DiffIs a a d) : d = [] :=
  asc_ext Ch.n hd.1 List.Pairwise.nil fun x => by rw [hd.2, diffA_same]; rfl
theorem diff_less {a b : List Pa} {I J : List Ch} {c : Ch} {m n : List Pa} (hd : DiffIs a b (I ++ c :: J)) (hm : ApplyIs a (I ++ J) m) (hn : MapIs b n) : m ≠ n := fun e => by
  subst e
  have hp := List.pairwise_append.1 hd.1
  have hq := List.pairwise_cons.1 hp.2.1
  have h1 : lastA Ch.n (I ++ J) c.n = none := by
    cases h : lastA Ch.n (I ++ J) c.n with
    | none => rfl
    | some z =>
      obtain ⟨hz, hk⟩ := lastA_key Ch.n h
      rcases List.mem_append.1 hz with q | q
      · have := hp.2.2 z q c (by simp); omega
      · have := hq.1 z q; omega
  have h2 := hm.2 c.n
  rw [h1, hn.2] at h2
  have h3 := hd.2 c.n
  rw [look_mem Ch.n hd.1 (by simp)] at h3
  have h4 : lastA Pa.n b c.n = lastA Pa.n a c.n := h2
  rw [h4, diffA_same] at h3
  cases h3
/-! Join. -/
theorem join_apply {a m n n' : List Pa} {x y j : List Ch} (hm : ApplyIs a x m) (hn : ApplyIs m y n) (hj : JoinIs (x ++ y) j) (h : ApplyIs a j n') : n = n' :=
  asc_ext Pa.n hn.1 h.1 fun t => by rw [hn.2, h.2, hm.last, hj.last, doneA_plain, lastA_append, doneA_or]
theorem join_again {l j k : List Ch} (hj : JoinIs l j) (hk : JoinIs j k) : k = j :=
  asc_ext Ch.n hk.1 hj.1 fun t => by
    rw [hk.2, hj.last, hj.2]
    cases lastA Ch.n l t with
    | none => rfl
    | some c => simp [Ch.plain_plain]
theorem join_three {x y jx j k : List Ch} (hx : JoinIs x jx) (hk : JoinIs (jx ++ y) k) (hj : JoinIs (x ++ y) j) : k = j :=
  asc_ext Ch.n hk.1 hj.1 fun t => by
    rw [hk.2, hj.2, lastA_append, lastA_append, hx.last]
    cases lastA Ch.n y t with
    | some c => rfl
    | none =>
      cases lastA Ch.n x t with
      | none => rfl
      | some c => simp [Ch.plain_plain]
/-! Merge: theirs with the delta of base and mine in it. -/
/-- Does this key clash? -/
def Clash (b t n : List Pa) (x : Int) : Prop := lastA Pa.n b x ≠ lastA Pa.n n x ∧ lastA Pa.n b x ≠ lastA Pa.n t x ∧ lastA Pa.n t x ≠ lastA Pa.n n x
theorem clash_turned (b t n : List Pa) (x : Int) : Clash b t n x ↔ Clash b n t x := ⟨fun h => ⟨h.2.1, h.1, fun e => h.2.2 e.symm⟩, fun h => ⟨h.2.1, h.1, fun e => h.2.2 e.symm⟩⟩
theorem merge_turned {b t n m m' : List Pa} {d d' : List Ch} (hd : DiffIs b n d) (hd' : DiffIs b t d') (hm : ApplyIs t d m) (hm' : ApplyIs n d' m') (hc : ∀ x, ¬ Clash b t n x) : m = m' :=
  asc_ext Pa.n hm.1 hm'.1 fun x => by
    have c := hc x
    unfold Clash at c
    rw [hm.2, hm'.2, hd.last, hd'.last]
    have hB := at_last b x
    have hT := at_last t x
    have hN := at_last n x
    generalize lastA Pa.n b x = B at *
    generalize lastA Pa.n t x = T at *
    generalize lastA Pa.n n x = N at *
    by_cases e1 : B = N
    · subst e1
      rw [diffA_same, diffA_self hB hT]
      rfl
    · by_cases e2 : B = T
      · subst e2
        rw [diffA_same, diffA_self hB hN]
        rfl
      · have e3 : T = N := Classical.byContradiction fun e => c ⟨e1, e2, e⟩
        rw [(diffA_done hB hN e1 T).1, (diffA_done hB hT e2 N).1, e3]
theorem merge_one {t n m k : List Pa} {d : List Ch} (hd : DiffIs t n d) (hm : ApplyIs t d m) (hk : MapIs n k) : m = k := diff_apply hd hm hk
theorem merge_two {t n m k : List Pa} {d : List Ch} (hd : DiffIs n n d) (hm : ApplyIs t d m) (hk : MapIs t k) : m = k := by
  have := diff_none hd
  subst this
  exact asc_ext Pa.n hm.1 hk.1 fun x => by rw [hm.2, hk.2]; rfl
/-- Who changes other keys does not clash, and all changes are there. -/
theorem merge_apart {b t n m m' : List Pa} {x y d j : List Ch} (ht : ApplyIs b x t) (hn : ApplyIs b y n) (hd : DiffIs b n d) (hm : ApplyIs t d m) (hj : JoinIs (x ++ y) j) (hm' : ApplyIs b j m') (hap : ∀ k, lastA Ch.n x k = none ∨ lastA Ch.n y k = none) : m = m' ∧ ∀ k, ¬ Clash b t n k := by
  refine ⟨asc_ext Pa.n hm.1 hm'.1 fun k => ?_, fun k h => ?_⟩
  · rw [hm.2, hm'.2, hd.last, hj.last, doneA_plain, lastA_append, doneA_or, ht.last]
    have hB := at_last b k
    have hN := at_last n k
    have e := hn.last k
    rcases hap k with q | q
    · rw [q]
      show doneA (diffA (lastA Pa.n b k) (lastA Pa.n n k)) (lastA Pa.n b k) = doneA (lastA Ch.n y k) (lastA Pa.n b k)
      rw [← e]
      exact diffA_self hB hN
    · rw [q] at e
      have e' : lastA Pa.n n k = lastA Pa.n b k := e
      rw [e', diffA_same, q]
  · rcases hap k with q | q
    · have e := ht.last k
      rw [q] at e
      exact h.2.1 e.symm
    · have e := hn.last k
      rw [q] at e
      exact h.1 e.symm
end Go.Proofs.YtdmindhjmjnagabGreatDoor
/- The document's Diff and Merge as lists (mathematics). -/
namespace Go.Proofs.YtdmindhjmjnagabGreatDoor
set_option linter.unusedVariables false
set_option maxRecDepth 100000

theorem Ch.same {p q : Ch} (h : p.n = q.n) (hv : p.v = q.v) (hg : p.g = q.g) : p = q := by
  obtain ⟨k, hk, v, g⟩ := p
  obtain ⟨k', hk', v', g'⟩ := q
  have : k = k' := num_inj k k' (by rw [hk, hk']) (by have e : (num k : Int) = (num k' : Int) := h; omega)
  subst this
  have e : v = v' := hv
  subst e
  have e : g = g' := hg
  subst e
  rfl
section
variable {α β : Type} {key : α → Int} {key' : β → Int}
theorem fm_asc {l : List α} {f : α → Option β} (hf : ∀ a ∈ l, ∀ b, f a = some b → key' b = key a) (h : Asc key l) : Asc key' (l.filterMap f) := by
  induction l with
  | nil => exact List.Pairwise.nil
  | cons a r ih =>
    have hp := List.pairwise_cons.1 h
    have hr := ih (fun c hc b hb => hf c (by simp [hc]) b hb) hp.2
    cases e : f a with
    | none => rw [List.filterMap_cons_none e]; exact hr
    | some b =>
      rw [List.filterMap_cons_some e]
      refine List.pairwise_cons.2 ⟨fun c hc => ?_, hr⟩
      obtain ⟨z, hz, hb⟩ := List.mem_filterMap.1 hc
      have h1 := hf a (by simp) b e
      have h2 := hf z (by simp [hz]) c hb
      have h3 := hp.1 z hz
      omega
theorem fm_look {l : List α} {f : α → Option β} (hf : ∀ a ∈ l, ∀ b, f a = some b → key' b = key a) (h : Asc key l) (x : Int) : look key' (l.filterMap f) x = (look key l x).bind f := by
  induction l with
  | nil => rfl
  | cons a r ih =>
    have hp := List.pairwise_cons.1 h
    have hf' : ∀ c ∈ r, ∀ b, f c = some b → key' b = key c := fun c hc b hb => hf c (by simp [hc]) b hb
    have hr := ih hf' hp.2
    simp only [look]
    cases e : f a with
    | none =>
      rw [List.filterMap_cons_none e, hr]
      by_cases q : key a = x
      · rw [if_pos q, look_low key (fun c hc => by have := hp.1 c hc; omega)]
        simp [e]
      · rw [if_neg q]
    | some b =>
      have h1 := hf a (by simp) b e
      rw [List.filterMap_cons_some e]
      simp only [look]
      by_cases q : key a = x
      · rw [if_pos q, if_pos (by omega)]
        simp [e]
      · rw [if_neg q, if_neg (by omega), hr]
end
/-- What Diff puts in for a pair of the first map. -/
def dfA (b : List Pa) (p : Pa) : Option Ch := match look Pa.n b p.n with
  | none => some ⟨p.k, p.h, [], true⟩
  | some q => if q.v = p.v then none else some ⟨p.k, p.h, q.v, false⟩
/-- What Diff puts in for a pair of the second map. -/
def dfB (a : List Pa) (q : Pa) : Option Ch := match look Pa.n a q.n with
  | none => some ⟨q.k, q.h, q.v, false⟩
  | some _ => none
theorem dfA_n (b : List Pa) (p : Pa) (c : Ch) (h : dfA b p = some c) : c.n = p.n := by
  unfold dfA at h
  split at h
  · cases h; rfl
  · split at h
    · cases h
    · cases h; rfl
theorem dfB_n (a : List Pa) (q : Pa) (c : Ch) (h : dfB a q = some c) : c.n = q.n := by
  unfold dfB at h
  split at h
  · cases h; rfl
  · cases h
/-- The document's Diff, of two maps. -/
theorem diff_is {a b A B : List Pa} (hA : MapIs a A) (hB : MapIs b B) : DiffIs a b ((A.filterMap (dfA B) ++ B.filterMap (dfB A)).foldl (putA Ch.n) []) := by
  have h := puts_is Ch.n (A.filterMap (dfA B) ++ B.filterMap (dfB A)) [] List.Pairwise.nil
  refine ⟨h.1, fun x => ?_⟩
  rw [h.2, lastA_append, lastA_asc Ch.n (fm_asc (fun p _ c => dfA_n B p c) hA.1), lastA_asc Ch.n (fm_asc (fun p _ c => dfB_n A p c) hB.1),
    fm_look (fun p _ c => dfA_n B p c) hA.1, fm_look (fun p _ c => dfB_n A p c) hB.1, ← hA.2, ← hB.2]
  simp only [look, Option.or_none]
  cases ea : look Pa.n A x with
  | none =>
    cases eb : look Pa.n B x with
    | none => rfl
    | some q =>
      have hq := (look_key Pa.n eb).2
      simp [dfB, hq, ea, diffA]
  | some p =>
    have hp := (look_key Pa.n ea).2
    cases eb : look Pa.n B x with
    | none => simp [dfA, hp, eb, diffA]
    | some q =>
      have hq := (look_key Pa.n eb).2
      simp only [Option.bind_some, dfA, dfB, hp, hq, ea, eb, Option.none_or, diffA]
      by_cases e : p.v = q.v
      · rw [if_pos e, if_pos e.symm]
      · rw [if_neg e, if_neg (fun r => e r.symm)]
        exact congrArg some (Ch.same (show (num p.k : Int) = (num q.k : Int) from hp.trans hq.symm) rfl rfl)
/-- A delta's changes are as a delta holds them. -/
theorem diffA_plain (A B : Option Pa) (c : Ch) (h : diffA A B = some c) : c.plain = c := by
  unfold diffA at h
  split at h
  · cases h
  · cases h; rfl
  · cases h; rfl
  · split at h
    · cases h
    · cases h; rfl
end Go.Proofs.YtdmindhjmjnagabGreatDoor
/- The document's Merge: its clashes (mathematics). -/
namespace Go.Proofs.YtdmindhjmjnagabGreatDoor
set_option linter.unusedVariables false
set_option maxRecDepth 100000

structure Kz where
  k : List UInt8
  h : k.length = 24
def Kz.n (x : Kz) : Int := (num x.k : Int)
theorem Kz.same {p q : Kz} (h : p.n = q.n) : p = q := by
  obtain ⟨k, hk⟩ := p
  obtain ⟨k', hk'⟩ := q
  have : k = k' := num_inj k k' (by rw [hk, hk']) (by have e : (num k : Int) = (num k' : Int) := h; omega)
  subst this
  rfl
/-- The keys that clash, rising. -/
def ClashIs (b t n : List Pa) (l : List Kz) : Prop := Asc Kz.n l ∧ ∀ K : Kz, K ∈ l ↔ Clash b t n K.n
theorem ClashIs.unique {b t n : List Pa} {l m : List Kz} (h : ClashIs b t n l) (h' : ClashIs b t n m) : l = m :=
  asc_ext Kz.n h.1 h'.1 fun x => by
    cases e : look Kz.n l x with
    | some a =>
      obtain ⟨h1, h2⟩ := look_key Kz.n e
      rw [← h2, look_mem Kz.n h'.1 ((h'.2 a).2 ((h.2 a).1 h1))]
    | none =>
      cases e2 : look Kz.n m x with
      | none => rfl
      | some a =>
        obtain ⟨h1, h2⟩ := look_key Kz.n e2
        exact absurd h2 ((look_none Kz.n).1 e a ((h.2 a).2 ((h'.2 a).1 h1)))
theorem ClashIs.turned {b t n : List Pa} {l m : List Kz} (h : ClashIs b t n l) (h' : ClashIs b n t m) : l = m := h.unique ⟨h'.1, fun K => (h'.2 K).trans (clash_turned b t n K.n).symm⟩
theorem ClashIs.nil {b t n : List Pa} {l : List Kz} (h : ClashIs b t n l) (hn : ∀ x, ¬ Clash b t n x) : l = [] := by
  cases l with
  | nil => rfl
  | cons a r => exact absurd ((h.2 a).1 (by simp)) (hn _)
theorem ClashIs.none {b t n : List Pa} (h : ClashIs b t n []) (x : Int) : ¬ Clash b t n x := fun c => by
  have : ∃ K : Kz, K.n = x := by
    have h1 := c.1
    cases e : lastA Pa.n b x with
    | some p => exact ⟨⟨p.k, p.h⟩, (lastA_key Pa.n e).2⟩
    | none =>
      cases e2 : lastA Pa.n n x with
      | some p => exact ⟨⟨p.k, p.h⟩, (lastA_key Pa.n e2).2⟩
      | none => rw [e, e2] at h1; exact absurd rfl h1
  obtain ⟨K, rfl⟩ := this
  have := (h.2 K).2 c
  cases this
/-- The document's own way: those of the delta of base and mine that theirs has changed too, and not to the same. -/
theorem clash_is {b t n : List Pa} {d : List Ch} (hd : DiffIs b n d) (f : Ch → Bool) (hf : ∀ c ∈ d, f c = true ↔ lastA Pa.n b c.n ≠ lastA Pa.n t c.n ∧ lastA Pa.n t c.n ≠ lastA Pa.n n c.n) : ClashIs b t n (d.filterMap fun c => if f c then some ⟨c.k, c.h⟩ else none) := by
  have hk : ∀ c ∈ d, ∀ K : Kz, (if f c then some (⟨c.k, c.h⟩ : Kz) else none) = some K → K.n = c.n := fun c _ K h => by
    split at h
    · cases h; rfl
    · cases h
  refine ⟨fm_asc hk hd.1, fun K => ?_⟩
  rw [List.mem_filterMap]
  constructor
  · rintro ⟨c, hc, h⟩
    have hn := hk c hc K h
    split at h
    · rename_i q
      have h2 := (hf c hc).1 q
      rw [← hn] at h2
      refine ⟨fun e => ?_, h2⟩
      have h3 := hd.2 c.n
      rw [look_mem Ch.n hd.1 hc, ← hn, e, diffA_same] at h3
      cases h3
    · cases h
  · intro h
    have hB := at_last b K.n
    have hN := at_last n K.n
    obtain ⟨c, hc⟩ := Option.ne_none_iff_exists'.1 (diffA_done hB hN h.1 none).2
    have h3 := hd.2 K.n
    rw [hc] at h3
    obtain ⟨h4, h5⟩ := look_key Ch.n h3
    refine ⟨c, h4, ?_⟩
    rw [if_pos ((hf c h4).2 (by rw [h5]; exact h.2))]
    exact congrArg some (Kz.same h5)
end Go.Proofs.YtdmindhjmjnagabGreatDoor
