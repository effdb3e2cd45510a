import Derived.Test.YtdmindhjmjnagabGreatDoorB25
import Derived.Test.YtdmindhjmjnagabGreatDoorB01
/- A view's maps: how many they hold; what takeBack and Back make of a view (plain data). -/
namespace Go.Proofs.YtdmindhjmjnagabGreatDoor
set_option linter.unusedVariables false
set_option maxRecDepth 100000
open Go.RowKit

theorem nodup_le {α : Type} : ∀ (l m : List α), l.Nodup → (∀ a ∈ l, a ∈ m) → l.length ≤ m.length
  | [], _, _, _ => Nat.zero_le _
  | a :: l, m, hn, hs => by
    have hn' := List.nodup_cons.1 hn
    obtain ⟨p, q, rfl⟩ := List.append_of_mem (hs a (by simp))
    have ih := nodup_le l (p ++ q) hn'.2 fun b hb => by
      have h1 := hs b (by simp [hb])
      rcases List.mem_append.1 h1 with h1 | h1
      · exact List.mem_append.2 (.inl h1)
      · rcases List.mem_cons.1 h1 with rfl | h1
        · exact absurd hb hn'.1
        · exact List.mem_append.2 (.inr h1)
    simp only [List.length_append, List.length_cons] at ih ⊢
    omega
theorem tight_own {P : Program} {k : TypeId} {w : World} {b n : Nat} {D : DataW Value} (h : w.ownsMap P k rawElem b n D) : w.ownsMap P k rawElem b (Maps.size D) D := by
  obtain ⟨es, clock, h1, h2, h3, rfl⟩ := h
  exact ⟨es, clock, h1, h2, by simp [Maps.size, length_sorted], rfl⟩
/-- A map has as many entries as its list, at most. -/
theorem MapA.tight {α : Type} {k : Nat} {E : Enc α k} {key : α → Int} {w : World} {b n : Nat} {L : List α} (h : MapA E key w b n L) : MapA E key w b L.length L := by
  obtain ⟨⟨D, ho, ht⟩, ha⟩ := h
  refine ⟨⟨D, (tight_own ho).mono ?_, ht⟩, ha⟩
  obtain ⟨es, rfl, hp, hk⟩ := ho.entries keyed_key
  have hall : ∀ p ∈ es, ∃ K : Kz, p.1 = klit K ∧ (look key L K.n).isSome = true := fun p hp' => by
    have h1 : Maps.has (DataW.map es) p.1 = true := List.any_eq_true.2 ⟨p, hp', WideAt.sameKey_self (hk p hp')⟩
    obtain ⟨K, hK⟩ := lit_has ho h1
    exact ⟨K, hK, by rw [← (ht K).1, ← hK]; exact h1⟩
  have key_of : ∀ p : Lit × DataW Value, ∃ z : Int, p ∈ es → ∃ K : Kz, p.1 = klit K ∧ K.n = z ∧ z ∈ L.map key := fun p => by
    by_cases hq : p ∈ es
    · obtain ⟨K, h1, h2⟩ := hall p hq
      obtain ⟨x, hx⟩ := Option.isSome_iff_exists.1 h2
      obtain ⟨h3, h4⟩ := look_key key hx
      exact ⟨K.n, fun _ => ⟨K, h1, rfl, h4 ▸ List.mem_map.2 ⟨x, h3, rfl⟩⟩⟩
    · exact ⟨0, fun q => absurd q hq⟩
  have hl : (es.map fun p => (key_of p).choose).length ≤ (L.map key).length := by
    refine nodup_le _ _ (List.pairwise_map.2 ?_) ?_
    · refine hp.imp_of_mem fun {a b} ha' hb' hne e => hne ?_
      obtain ⟨K, q1, q2, _⟩ := (key_of a).choose_spec ha'
      obtain ⟨J, r1, r2, _⟩ := (key_of b).choose_spec hb'
      have : K = J := Kz.same (by rw [q2, r2]; exact e)
      rw [q1, r1, this]
    · intro z hz
      obtain ⟨p, hp', rfl⟩ := List.mem_map.1 hz
      obtain ⟨K, _, _, q⟩ := (key_of p).choose_spec hp'
      exact q
  simpa [Maps.size] using hl
theorem SetA.tight {w : World} {b n : Nat} {R : List Sp} (h : SetA w b n R) : SetA w b R.length R := by
  obtain ⟨D, ho, ht⟩ := h
  refine ⟨D, (tight_own ho).mono ?_, ht⟩
  obtain ⟨es, rfl, hp, hk⟩ := ho.entries span_keyed
  have hall : ∀ p ∈ es, ∃ s : Sp, p.1 = slit s ∧ s ∈ R := fun p hp' => by
    have h1 : Maps.has (DataW.map es) p.1 = true := List.any_eq_true.2 ⟨p, hp', WideAt.sameKey_self (hk p hp')⟩
    obtain ⟨K, hK⟩ := lit_hasS ho h1
    exact ⟨K, hK, by rw [← ht K, ← hK]; exact h1⟩
  have key_of : ∀ p : Lit × DataW Value, ∃ s : Sp, p ∈ es → p.1 = slit s ∧ s ∈ R := fun p => by
    by_cases hq : p ∈ es
    · obtain ⟨K, h1, h2⟩ := hall p hq
      exact ⟨K, fun _ => ⟨h1, h2⟩⟩
    · exact ⟨spz0, fun q => absurd q hq⟩
  have hl : (es.map fun p => (key_of p).choose).length ≤ R.length := by
    refine nodup_le _ _ (List.pairwise_map.2 ?_) ?_
    · refine hp.imp_of_mem fun {a b} ha' hb' hne e => hne ?_
      have q := (key_of a).choose_spec ha'
      have r := (key_of b).choose_spec hb'
      rw [q.1, r.1, e]
    · intro z hz
      obtain ⟨p, hp', rfl⟩ := List.mem_map.1 hz
      exact ((key_of p).choose_spec hp').2
  simpa [Maps.size] using hl
/-- No list of a view is longer. -/
def VS.most (V : VS) (k : Nat) : Prop := V.C.length ≤ k ∧ V.R.length ≤ k ∧ V.U.length ≤ k ∧ ∀ L ∈ V.U, L.length ≤ k
theorem VwIn.tight {w : World} {p : Nat} {iv : Value} {x : VR} {V : VS} (h : VwIn w p iv x V) (k : Nat) (hk : V.most k) : VwIn w p iv { x with n := k } V :=
  ⟨h.blk, h.mapC.tight.mono hk.1, h.setR.tight.mono hk.2.1, h.row, fun i hi => by
    obtain ⟨L, h1, h2⟩ := h.maps i hi
    exact ⟨L, h1, h2.tight.mono (hk.2.2.2 L (List.mem_of_getElem? h1))⟩, h.len, by rw [← h.len]; exact hk.2.2.1, h.apart⟩

/-! takeBack, Back. -/
/-- One key as a mark knows it. -/
def backS (C : List Ch) (f : Fo) : List Ch := if f.was then putA Ch.n C f.c else delA Ch.n C f.n
/-- Each remembered change has its own key. -/
def FoOk (L : List Fo) : Prop := ∀ f ∈ L, f.was = true → f.c.n = f.n
/-- Where takeBack stands: the keys that are done are as the mark knows them. -/
structure BackAt (C : List Ch) (L : List Fo) (todo : Kz → Bool) (C' : List Ch) : Prop where
  asc : Asc Ch.n C'
  at_ : ∀ K : Kz, look Ch.n C' K.n = match look Fo.n L K.n with
    | none => look Ch.n C K.n
    | some f => if todo K then look Ch.n C K.n else if f.was then some f.c else none
theorem BackAt.start {C : List Ch} {L : List Fo} (ha : Asc Ch.n C) : BackAt C L (fun K => (look Fo.n L K.n).isSome) C := ⟨ha, fun K => by
  cases h : look Fo.n L K.n with
  | none => rfl
  | some f => simp⟩
theorem BackAt.step {C C' : List Ch} {L : List Fo} {todo : Kz → Bool} (h : BackAt C L todo C') (hf : FoOk L) {K : Kz} {f : Fo} (hK : look Fo.n L K.n = some f) : BackAt C L (without todo K) (backS C' f) := by
  obtain ⟨hm, hn⟩ := look_key Fo.n hK
  have h1 : f.n = K.n := hn
  unfold backS
  cases hw : f.was with
  | true =>
    have h2 : f.c.n = K.n := (hf f hm hw).trans h1
    refine ⟨by simp only [if_true]; exact putA_asc Ch.n _ h.asc, fun J => ?_⟩
    simp only [if_true]
    rw [putA_look Ch.n _ _ h.asc, h2, h.at_ J]
    unfold without
    by_cases e : K.n = J.n
    · have : K = J := Kz.same e
      subst this
      rw [if_pos rfl, hK]
      simp [hw]
    · rw [if_neg e]
      cases look Fo.n L J.n with
      | none => rfl
      | some g => simp [show J.n ≠ K.n from fun q => e q.symm]
  | false =>
    refine ⟨by simp only [Bool.false_eq_true, if_false]; exact delA_asc Ch.n _ h.asc, fun J => ?_⟩
    simp only [Bool.false_eq_true, if_false]
    rw [delA_look Ch.n _ _ h.asc, h1, h.at_ J]
    unfold without
    by_cases e : K.n = J.n
    · have : K = J := Kz.same e
      subst this
      rw [if_pos rfl, hK]
      simp [hw]
    · rw [if_neg e]
      cases look Fo.n L J.n with
      | none => rfl
      | some g => simp [show J.n ≠ K.n from fun q => e q.symm]
/-- What takeBack makes of the changes. -/
def takeL (C : List Ch) (L : List Fo) : List Ch := L.foldl backS C
theorem takeL_look {C : List Ch} {L : List Fo} (ha : Asc Ch.n C) (hL : Asc Fo.n L) (hf : FoOk L) : Asc Ch.n (takeL C L) ∧ ∀ x, look Ch.n (takeL C L) x = match look Fo.n L x with
    | none => look Ch.n C x
    | some f => if f.was then some f.c else none := by
  unfold takeL
  induction L generalizing C with
  | nil => exact ⟨ha, fun x => rfl⟩
  | cons f r ih =>
    have hp := List.pairwise_cons.1 hL
    have hb : Asc Ch.n (backS C f) := by
      unfold backS
      split
      · exact putA_asc Ch.n _ ha
      · exact delA_asc Ch.n _ ha
    obtain ⟨i1, i2⟩ := ih (C := backS C f) hb hp.2 (fun g hg => hf g (by simp [hg]))
    refine ⟨i1, fun x => ?_⟩
    rw [List.foldl_cons, i2 x]
    simp only [look]
    by_cases e : f.n = x
    · subst e
      rw [if_pos rfl, look_low Fo.n (fun g hg => hp.1 g hg)]
      simp only
      unfold backS
      cases hw : f.was with
      | true =>
        simp only [if_true]
        rw [putA_look Ch.n _ _ ha, if_pos (hf f (by simp) hw)]
      | false =>
        simp only [Bool.false_eq_true, if_false]
        rw [delA_look Ch.n _ _ ha, if_pos rfl]
    · rw [if_neg e]
      have hq : look Ch.n (backS C f) x = look Ch.n C x := by
        unfold backS
        cases hw : f.was with
        | true =>
          simp only [if_true]
          rw [putA_look Ch.n _ _ ha, if_neg (by rw [hf f (by simp) hw]; exact e)]
        | false =>
          simp only [Bool.false_eq_true, if_false]
          rw [delA_look Ch.n _ _ ha, if_neg e]
      rw [hq]
/-- The numbers that keys have. -/
theorem BackAt.done {C C' : List Ch} {L : List Fo} {todo : Kz → Bool} (h : BackAt C L todo C') (ht : ∀ K, todo K = false) (ha : Asc Ch.n C) (hL : Asc Fo.n L) (hf : FoOk L) : C' = takeL C L := by
  obtain ⟨t1, t2⟩ := takeL_look ha hL hf
  refine asc_ext Ch.n h.asc t1 fun x => ?_
  by_cases hx : ∃ K : Kz, K.n = x
  · obtain ⟨K, rfl⟩ := hx
    rw [h.at_ K, t2 K.n]
    cases look Fo.n L K.n with
    | none => rfl
    | some f => simp [ht K]
  · have none_of : ∀ D : List Ch, look Ch.n D x = none := fun D => (look_none Ch.n).2 fun c hc e => hx ⟨c.kz, e⟩
    rw [none_of, none_of]
theorem backS_len (C : List Ch) (f : Fo) : (backS C f).length ≤ C.length + 1 := by
  unfold backS
  split
  · exact putA_len Ch.n C f.c
  · have := delA_len Ch.n C f.n
    omega
theorem takeL_len (C : List Ch) (L : List Fo) : (takeL C L).length ≤ C.length + L.length := by
  unfold takeL
  induction L generalizing C with
  | nil => simp
  | cons f r ih =>
    have h1 := ih (backS C f)
    have h2 := backS_len C f
    rw [List.foldl_cons, List.length_cons]
    omega
/-- All that was changed since mark m is taken back, the last mark's first. -/
def backC (C : List Ch) (U : List (List Fo)) : List Ch := U.reverse.foldl takeL C
/-- A view behind Back. -/
def VS.back (V : VS) (m : Nat) : VS := { C := backC V.C (V.U.drop m), R := V.R, U := V.U.take m ++ [[]] }
end Go.Proofs.YtdmindhjmjnagabGreatDoor
/- New of a view; the changes of a span (within). -/
namespace Go.Proofs.YtdmindhjmjnagabGreatDoor
set_option linter.unusedVariables false
set_option maxRecDepth 100000
open Go.RowKit

/-- A view without changes. -/
def vs0 : VS := ⟨[], [], []⟩
theorem vnew_in (w : World) (iv : Value) (w3 : World) (h : w3 = ((w.alloc (.map #[] 0)).alloc (.map #[] 0)).alloc (.cells #[iv, .map (some w.heap.size), .map (some (w.heap.size + 1)), .slice none 0 0] 49)) :
    VwIn w3 (w.heap.size + 2) iv ⟨w.heap.size, w.heap.size + 1, .slice none 0 0, [], 0⟩ vs0 ∧ Below w.heap.size w w3 ∧ w3.heap.size = w.heap.size + 3 := by
  have e2 : (w.alloc (.map #[] 0)).heap.size = w.heap.size + 1 := by simp
  have e3 : ((w.alloc (.map #[] 0)).alloc (.map #[] 0)).heap.size = w.heap.size + 2 := by simp
  have hb := heap_alloc_new ((w.alloc (.map #[] 0)).alloc (.map #[] 0)) (.cells #[iv, .map (some w.heap.size), .map (some (w.heap.size + 1)), .slice none 0 0] 49)
  rw [e3] at hb
  have hm1 : MapA encC Ch.n w3 w.heap.size 0 [] := by rw [h]; exact ((MapA.made encC Ch.n w _ rfl).alloc _).alloc _
  have hm2 : SetA w3 (w.heap.size + 1) 0 [] := by
    rw [h]
    have h1 := SetA.made (w.alloc (.map #[] 0)) (w.heap.size + 1) e2.symm
    exact h1.kept (Below.heap_alloc _ _ _ (by simp))
  refine ⟨⟨by rw [h]; exact hb, hm1, hm2, Own.nil _ _ _ _, (fun i hi => by cases hi), rfl, Nat.le_refl _, by simp⟩, ?_, by rw [h]; simp⟩
  rw [h]
  exact (((Below.refl _ w).alloc (Nat.le_refl _) _).alloc (by simp) _).alloc (by simp; omega) _
set_option maxHeartbeats 4000000 in
theorem vnew_calls (w : World) (T : TypeId) (r : Value) :
    Calls Tryz.prog 5 #[.iface T r] w fun e w' => ∃ p x, e = .returned (.pointer (some ⟨p, 0, none⟩)) ∧ VwIn w' p (.iface T r) x vs0 ∧ x.n = 0 ∧ (∀ i, x.own p i → w.heap.size ≤ i) ∧ Below w.heap.size w w' := by
  have hmm := @run_makeMap Tryz.prog
  have HV := vnew_in w (.iface T r)
  go_enter Tryz.func5, Tryz.ntmps5
  go_wp2_with fail
  go_ret
  obtain ⟨q1, q2, q3⟩ := HV _ rfl
  refine ⟨_, _, rfl, q1, rfl, ?_, q2⟩
  intro i hi
  rcases hi with rfl | rfl | rfl | hi | hi
  · show w.heap.size ≤ w.heap.size + 2
    omega
  · exact Nat.le_refl _
  · show w.heap.size ≤ w.heap.size + 1
    omega
  · cases hi
  · cases hi

/-! within. -/
/-- Where the loop stands: c holds the changes of the span that were met. -/
structure InAt (C : List Ch) (s : Sp) (todo : Kz → Bool) (c : List Ch) : Prop where
  at_ : ∀ K : Kz, lastA Ch.n c K.n = if s.inb K.n && !todo K then look Ch.n C K.n else none
theorem InAt.start (C : List Ch) (s : Sp) : InAt C s (fun K => (look Ch.n C K.n).isSome) [] := ⟨fun K => by
  rw [lastA_nil]
  cases h : look Ch.n C K.n <;> simp⟩
theorem InAt.step {C : List Ch} {s : Sp} {todo : Kz → Bool} {c : List Ch} (h : InAt C s todo c) {K : Kz} {x : Ch} (hx : look Ch.n C K.n = some x) (hi : s.inb K.n = true) : InAt C s (without todo K) (c ++ [x]) := ⟨fun J => by
  have hn : x.n = K.n := (look_key Ch.n hx).2
  rw [lastA_snoc, hn, h.at_ J]
  unfold without
  by_cases e : K.n = J.n
  · have : K = J := Kz.same e
    subst this
    rw [if_pos rfl]
    simp [hi, hx]
  · rw [if_neg e]
    simp [show J.n ≠ K.n from fun q => e q.symm]⟩
theorem InAt.skip {C : List Ch} {s : Sp} {todo : Kz → Bool} {c : List Ch} (h : InAt C s todo c) {K : Kz} (hi : s.inb K.n = false) : InAt C s (without todo K) c := ⟨fun J => by
  rw [h.at_ J]
  unfold without
  by_cases e : K.n = J.n
  · rw [← e, hi]
    simp
  · simp [show J.n ≠ K.n from fun q => e q.symm]⟩
/-- The changes of a span. -/
def inL (C : List Ch) (s : Sp) : List Ch := C.filter fun c => s.inb c.n
theorem look_filter {C : List Ch} (s : Sp) (x : Int) : look Ch.n (inL C s) x = if s.inb x then look Ch.n C x else none := by
  unfold inL
  induction C with
  | nil => simp [look]
  | cons a r ih =>
    by_cases hi : s.inb a.n
    · rw [List.filter_cons_of_pos (p := fun x : Ch => s.inb x.n) hi]
      simp only [look]
      rw [ih]
      by_cases hx : a.n = x
      · subst hx; simp [hi]
      · simp [hx]
    · rw [List.filter_cons_of_neg (p := fun x : Ch => s.inb x.n) hi, ih]
      simp only [look]
      by_cases hx : a.n = x
      · subst hx; simp [hi]
      · simp [hx]
theorem inL_asc {C : List Ch} (ha : Asc Ch.n C) (s : Sp) : Asc Ch.n (inL C s) := List.Pairwise.sublist List.filter_sublist ha
theorem InAt.done {C : List Ch} {s : Sp} {todo : Kz → Bool} {c : List Ch} (h : InAt C s todo c) (ha : Asc Ch.n C) (ht : ∀ K, todo K = false) (x : Int) : lastA Ch.n c x = lastA Ch.n (inL C s) x := by
  rw [lastA_asc Ch.n (inL_asc ha s), look_filter]
  by_cases hx : ∃ K : Kz, K.n = x
  · obtain ⟨K, rfl⟩ := hx
    rw [h.at_ K, ht K]
    simp
  · have e1 : look Ch.n C x = none := (look_none Ch.n).2 fun c hc e => hx ⟨c.kz, e⟩
    have e2 : lastA Ch.n c x = none := by
      cases q : lastA Ch.n c x with
      | none => rfl
      | some y => exact absurd (lastA_key Ch.n q).2 (fun e => hx ⟨y.kz, e⟩)
    rw [e1, e2]
    simp
set_option maxRecDepth 100000 in
set_option maxHeartbeats 8000000 in
theorem within_calls (w : World) (p : Nat) (iv : Value) (x : VR) (V : VS) (s : Sp) (h : VwIn w p iv x V) (hn : x.n ≤ 100000) :
    Calls Tryz.prog 19 #[.pointer (some ⟨p, 0, none⟩), spv s] w fun e w' => ∃ v c, e = .returned v ∧ Own encC 60 w' w.heap.size v c ∧ (∀ y, lastA Ch.n c y = lastA Ch.n (inL V.C s) y) ∧ c.length ≤ x.n ∧ Below w.heap.size w w' := by
  have b1 : Below w.heap.size w (w.alloc (.cells (sc s.F s.T s.e).toArray 33)) := (Below.refl _ w).alloc (Nat.le_refl _) _
  have h1 := h.called b1
  have hc1 := h1.cell.2.1
  have hm1 := h1.mapC
  have HB1 : Hid (Below w.heap.size w (w.alloc (.cells (sc s.F s.T s.e).toArray 33))) := b1
  have HS1 : Hid (HasS (w.alloc (.cells (sc s.F s.T s.e).toArray 33)) w.heap.size s.F s.T s.e) := HasS.new w _ _ _ s.hF s.hT
  have HAS : Hid (Asc Ch.n V.C) := h.mapC.asc
  generalize V.C = C at *
  obtain ⟨NN, hNN⟩ : ∃ N, N = x.n := ⟨_, rfl⟩
  rw [← hNN] at hm1 hn ⊢
  clear h h1 b1 hNN
  go_enter Tryz.func19, Tryz.ntmps19
  go_upto_region 1 with fail
  generalize hW : w.alloc (.cells (sc s.F s.T s.e).toArray 33) = w1 at *
  go_wp2_with (first
    | (refine range_a tyC rfl _ rfl x.c NN C rfl hm1 ?_; intro w0 cnt0 hrg0 hc0 hg0 hs0))
  have HR0 : Hid (RangeA encC Ch.n w0 x.c w1.heap.size NN C (fun K => (look Ch.n C K.n).isSome) cnt0 ∧ cnt0 ≤ NN ∧ Below w.heap.size w w0 ∧ HasS w0 w.heap.size s.F s.T s.e ∧ w.heap.size < w1.heap.size) := by
    have q1 : w.heap.size < w1.heap.size := by rw [← hW]; simp
    exact ⟨hrg0, hc0, HB1.out.grown hg0 HB1.out.size (fun j hj => by cases hj), ⟨s.hF, s.hT, (hg0.block _ HS1.out.lt (by simp)).trans HS1.out.blk⟩, q1⟩
  clear hrg0 hc0 hg0 hs0 hm1 hc1 HS1 HB1 hW
  generalize w1.heap.size = r at *
  clear w1
  go_frame
  go_loopg [5] cnt0 (fun gg v wr => ∃ (todo : Kz → Bool) (c : List Ch) (M : Nat) (ad : Option Addr) (cap : Nat), v = .slice ad M cap ∧ Hid (c.length = M ∧ RangeA encC Ch.n wr x.c r NN C todo gg ∧ M + gg ≤ NN ∧ Below w.heap.size w wr ∧ HasS wr w.heap.size s.F s.T s.e ∧ w.heap.size < r ∧ InAt C s todo c ∧ Own encC 60 wr w.heap.size (.slice ad M cap) c))
  case atStart =>
    exact ⟨_, [], 0, none, 0, rfl, (⟨rfl, HR0.out.1, by simpa using HR0.out.2.1, HR0.out.2.2.1, HR0.out.2.2.2.1, HR0.out.2.2.2.2, InAt.start C s, Own.nil _ _ _ _⟩ : _ ∧ _)⟩
  case round =>
    clear HR0
    obtain ⟨todo, c, M, ad, cap, rfl, HE⟩ := hrel
    have hrg := HE.out.2.1
    generalize gk = cnt at *
    go_wp2_with (first
      | (at_next; refine next_a rfl _ rfl x.c r NN C todo cnt rfl hrg ?_ ?_)
      | go_in)
    · intro hl0
      have HD : Hid (∀ K, todo K = false) := hl0
      clear hl0 hrg
      go_wp2_with fail
      go_ret
      have E := HE.out
      exact ⟨_, c, rfl, E.2.2.2.2.2.2.2, E.2.2.2.2.2.2.1.done HAS.out HD.out, by omega, E.2.2.2.1⟩
    · intro K y x0 cnt2 hK hy hrg2 hlt hg2 hs2 hen
      have hrn := hrg.lt
      have E := HE.out
      have hqr : w.heap.size < r := E.2.2.2.2.2.1
      have H1 : Hid (RangeA encC Ch.n x0 x.c r NN C (without todo K) cnt2 ∧ Below w.heap.size w x0 ∧ HasS x0 w.heap.size s.F s.T s.e ∧ Own encC 60 x0 w.heap.size (.slice ad M cap) c) :=
        ⟨hrg2, E.2.2.2.1.grown hg2 E.2.2.2.1.size (fun k e => by cases e; omega), ⟨s.hF, s.hT, (hg2.block _ E.2.2.2.2.1.lt (by simp; omega)).trans E.2.2.2.2.1.blk⟩, ownsRow_abides_a E.2.2.2.2.2.2.2 hg2 (fun j e => by cases e; exact hrg.data.choose_spec.choose_spec.1.iter_walk)⟩
      have HC : Hid (c.length = M ∧ M + cnt ≤ NN ∧ InAt C s todo c ∧ w.heap.size < r) := ⟨E.1, E.2.2.1, E.2.2.2.2.2.2.1, hqr⟩
      have HLT : Hid (cnt2 < cnt) := hlt
      have HKY : Hid (todo K = true ∧ look Ch.n C K.n = some y) := ⟨hK, hy⟩
      clear hg2 hrg2 hs2 hlt hK hy hrg hrn E HE hqr
      go_upto_region 5 with (first
        | (refine store_el elK rfl _ _ rfl x0.heap.size rfl K rfl kz0 ((InB.new encKz _ x0 kz0 _ rfl).alloc _) ?_; intro x1 hu1 tx1 sx1
           have hz1 : InB encC 60 x1 (x0.heap.size + 1) ch0 := (InB.new encC _ (x0.alloc (.cells (encKz.c kz0).toArray 31)) ch0 _ (by simp)).touch tx1 (by omega) (by simp))
        | (refine store_el elC rfl _ _ rfl (x0.heap.size + 1) rfl y rfl ch0 hz1 ?_; intro x2 hu2 tx2 sx2))
      have BX : Below x0.heap.size x0 x2 := ((((Below.refl _ x0).alloc (Nat.le_refl _) _).alloc (by simp) _).trans (tx1.below (by simp; omega) (Nat.le_refl _) (by simp))).trans (tx2.below (by rw [sx1]; simp; omega) (by omega) (by simp))
      have hK2 : InB encKz 31 x2 x0.heap.size K := hu1.touch tx2 (by omega) (by simp)
      have H2 : Hid (RangeA encC Ch.n x2 x.c r NN C (without todo K) cnt2 ∧ Below w.heap.size w x2 ∧ HasS x2 w.heap.size s.F s.T s.e ∧ Own encC 60 x2 w.heap.size (.slice ad M cap) c) :=
        ⟨H1.out.1.below BX (Nat.le_refl _), H1.out.2.1.trans (BX.mono H1.out.2.1.size), H1.out.2.2.1.below BX H1.out.2.2.1.lt, H1.out.2.2.2.below BX⟩
      have hsp := H2.out.2.2.1.inB.range
      have hIn := in_calls x2 s.F s.T s.e K.k s.hF s.hT K.h
      rw [in_num s _ K.h] at hIn
      clear hz1 tx1 tx2 sx1 sx2 hu1 BX H1 hen
      generalize x0.heap.size = q at *
      have HIE : Hid ((num K.k : Int) = K.n) := rfl
      rw [HIE.out] at hIn
      cases hi : s.inb K.n with
      | false =>
        rw [hi] at hIn
        have HI : Hid (s.inb K.n = false) := hi
        clear hi
        go_wp2_with (first
          | (refine load_el elS _ rfl w.heap.size 0 rfl rfl s hsp ?_)
          | (refine load_el elK _ rfl q 0 rfl rfl K hK2.range ?_)
          | (go_at_call 37; refine hIn.mono ?_; clear hIn; rintro e x3 ⟨rfl, b3⟩))
        go_roundg cnt2
        case measure => exact HLT.out
        case rel =>
          have h2 := H2.out
          have hc := HC.out
          exact ⟨_, c, M, ad, cap, rfl, (show _ ∧ _ from ⟨hc.1, h2.1.below b3 (Nat.le_refl _), by have := HLT.out; omega, h2.2.1.trans (b3.mono h2.2.1.size), h2.2.2.1.below b3 h2.2.2.1.lt, hc.2.2.2, hc.2.2.1.skip HI.out, h2.2.2.2.below b3⟩)⟩
      | true =>
        rw [hi] at hIn
        have HI : Hid (s.inb K.n = true) := hi
        clear hi
        have HH : Hid (InB encC 60 x2 (q + 1) y ∧ q + 1 < x2.heap.size) := ⟨hu2, hu2.lt⟩
        clear hu2
        go_upto_region 6 with (first
          | (refine load_el elS _ rfl w.heap.size 0 rfl rfl s hsp ?_)
          | (refine load_el elK _ rfl q 0 rfl rfl K hK2.range ?_)
          | (go_at_call 37; refine hIn.mono ?_; clear hIn; rintro e x3 ⟨rfl, b3⟩))
        have hu3 : InB encC 60 x3 (q + 1) y := HH.out.1.below b3 HH.out.2
        have H3 : Hid (RangeA encC Ch.n x3 x.c r NN C (without todo K) cnt2 ∧ Below w.heap.size w x3 ∧ HasS x3 w.heap.size s.F s.T s.e) :=
          ⟨H2.out.1.below b3 (Nat.le_refl _), H2.out.2.1.trans (b3.mono H2.out.2.1.size), H2.out.2.2.1.below b3 H2.out.2.2.1.lt⟩
        have ho3 : Own encC 60 x3 w.heap.size (.slice ad M cap) c := H2.out.2.2.2.below b3
        clear H2 HH b3 hsp hK2
        go_wp2_with (first
          | (refine load_el elC _ rfl (q + 1) 0 rfl rfl y hu3.range ?_)
          | (refine build_el1 rowC rfl _ rfl y rfl (by decide) ?_; intro x4 ho4 b4 s4 hb4
             have ho5 := ho3.below b4)
          | (at_builtin
             refine append_one rowC rfl _ _ rfl w.heap.size (.slice ad M cap) c rfl ho5 x3.heap.size y rfl (0, 0) 60 hb4 (by have := HC.out; have := hn; omega) (by decide) (by have := H3.out.2.1.size; omega) ?_
             intro g cap' x5 hown hg5 hgw hlt5
             rw [HC.out.1]))
        go_roundg cnt2
        case measure => exact HLT.out
        case rel =>
          have h3 := H3.out
          have hc := HC.out
          have hr4 := h3.1.below b4 (Nat.le_refl _)
          have n1 : some x.c ≠ Value.ownBlock (.slice ad M cap) := by
            obtain ⟨es, cl, hb⟩ := hr4.map.isMap
            rcases ownsRow_ne_a ho5 hb (fun cur q => by cases q) with q | q
            · rw [q]; simp
            · exact fun e => q e.symm
          have n2 : some r ≠ Value.ownBlock (.slice ad M cap) := by
            obtain ⟨o, hb, ho⟩ := hr4.walk
            rcases ownsRow_ne_a ho5 hb (fun cur q => by rw [q] at ho; cases ho) with q | q
            · rw [q]; simp
            · exact fun e => q e.symm
          have hbox : (HasS x5 w.heap.size s.F s.T s.e) := ⟨s.hF, s.hT, (hg5.block _ (h3.2.2.below b4 h3.2.2.lt).lt (fun e => by
            rcases ownsRow_ne_a ho5 (h3.2.2.below b4 h3.2.2.lt).blk (fun cur q => absurd (Obj.cells.inj q).2.1 (by decide)) with q | q
            · rw [q] at e; cases e
            · exact q e.symm)).trans (h3.2.2.below b4 h3.2.2.lt).blk⟩
          rw [hc.1] at hown
          exact ⟨_, c ++ [y], M + 1, _, cap', rfl, (show _ ∧ _ from ⟨by simp [hc.1], hr4.kept hg5 n1 n2, by have := HLT.out; omega, (h3.2.1.trans (b4.mono h3.2.1.size)).grown hg5 (Nat.le_trans h3.2.1.size b4.size) (fun j e => (ho5.lt j e).1), hbox, hc.2.2.2, hc.2.2.1.step HKY.out.2 HI.out, hown⟩)⟩
end Go.Proofs.YtdmindhjmjnagabGreatDoor
/- Calls through an interface whose dynamic type is a letter. -/
namespace Go.Proofs.YtdmindhjmjnagabGreatDoor
set_option linter.unusedVariables false
set_option maxRecDepth 100000
open Go.RowKit

/-- A method of an interface's value: the function that it is, and the receiver. -/
def Meth (iv : Value) (name : String) (G : FuncId) (recv : Value) : Prop :=
  ∀ (w : World) (args : Array Value), (invoke (.fn (.method name) #[]) (#[iv] ++ args)).run Tryz.prog w = .ok (.enter G (#[recv] ++ args)) w
theorem wp_invoke {o : Oper} {a : Act} {w : World} {K : Act → World → Prop} {Q : Exit → Act → World → Prop} (r : Operand) (name : String) (args : Array Operand) (tys : Array TypeId) (ho : o.op = .call { callee := .invoke r name, args := args, argTypes := tys })
    (iv : Value) (G : FuncId) (recv : Value) (hr : a.eval r = iv) (hm : Meth iv name G recv) (vs : Array Value) (hv : args.map a.eval = vs) {R : Ending → World → Prop} (hc : Calls Tryz.prog G (#[recv] ++ vs) w R)
    (h : ∀ e w', R e w' → ∃ v, e = .returned v ∧ K (a.put o.dst v) w') : o.wp Tryz.prog a w K Q := by
  have e1 : (execOp a.eval o).run Tryz.prog w = .ok (.enter G (#[recv] ++ vs)) w := by
    have := hm w vs
    simp only [execOp, ho, resolve, hv, hr]
    simpa [Result.andThen] using this
  unfold Oper.wp
  rw [e1, Oper.upon_enter]
  refine hc.mono fun e w' he => ?_
  obtain ⟨v, rfl, hk⟩ := h e w' he
  exact hk
theorem invoke_op {ops : Array Oper} {rest : List Oper} {o : Oper} {a : Act} {w : World} {Q : Exit → Act → World → Prop} (r : Operand) (name : String) (x : Operand) (ty : TypeId) (ho : o.op = .call { callee := .invoke r name, args := #[x], argTypes := #[ty] }) (hg : o.guard = none)
    (iv : Value) (G : FuncId) (recv v : Value) (hr : a.eval r = iv) (hm : Meth iv name G recv) (hv : a.eval x = v) {R : Ending → World → Prop} (hc : Calls Tryz.prog G (#[recv] ++ #[v]) w R)
    (h : ∀ e w', R e w' → ∃ v, e = .returned v ∧ wpList Tryz.prog ops Q rest (a.put o.dst v) w') : wpList Tryz.prog ops Q (o :: rest) a w :=
  wpList_plain hg fun _ hK => wp_invoke r name #[x] #[ty] ho iv G recv hr hm #[v] (by simp [hv]) hc fun e w' he => by
    obtain ⟨v, h1, h2⟩ := h e w' he
    exact ⟨v, h1, hK _ _ h2⟩
theorem callFunc_go {f : FuncId} {fn : Func} {c : Code} (hf : Tryz.prog.funcs[f]? = some fn) (hname : (fn.name == "runtime.NumGoroutine") = false) (hb : fn.body = some c) (args : Array Value) (w : World) : (callFunc f args).run Tryz.prog w = .ok (.enter f args) w := by
  have h1 : fn.name ≠ "runtime.NumGoroutine" := by simpa using hname
  simp [callFunc, hf, h1, hb]
theorem meth_of {P : Program} {T : TypeId} {recv : Value} {name : String} {F : FuncId} (hm : ∀ w, (Go.method (P.types.size + Made.depth) T recv name).run P w = .ok (F, recv) w) (hc : ∀ args w, (callFunc F args).run P w = .ok (.enter F args) w) (w : World) (args : Array Value) :
    (invoke (.fn (.method name) #[]) (#[.iface T recv] ++ args)).run P w = .ok (.enter F (#[recv] ++ args)) w := by
  obtain ⟨l⟩ := args
  have h1 : (Go.method (P.types.size + 100) T recv name).run P w = .ok (F, recv) w := hm w
  have h2 := hc (#[recv] ++ ⟨l⟩) w
  simp only [invoke, callMethod, List.append_toArray, List.cons_append, List.nil_append, List.getElem?_toArray, List.getElem?_cons_zero] at h2 ⊢
  simp [go_sem, h1, h2, Result.andThen]
end Go.Proofs.YtdmindhjmjnagabGreatDoor
