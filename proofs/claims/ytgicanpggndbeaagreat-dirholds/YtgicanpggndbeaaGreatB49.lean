import Derived.Test.YtgicanpggndbeaaGreatB47
import Derived.Test.YtgicanpggndbeaaGreatB25
import Derived.Lib.VarintMem
import Derived.Test.YtgicanpggndbeaaGreatB46
/- DirHolds: names and what they tell (mathematics). -/
namespace Go.Proofs.YtgicanpggndbeaaGreat
set_option linter.unusedVariables false
set_option maxRecDepth 100000
open Go.RowKit

/-- A name of a directory, and the number that it tells (0: none any more). -/
structure Tr where
  d : Int
  s : List UInt8
  i : Int
def Tr.ch (t : Tr) : Ch := if t.i = 0 then goneC (ekz t.d t.s) else enC t.d t.s t.i
def Tr.like (t u : Tr) : Bool := decide (u.s = t.s) && decide (u.d = t.d)
def Tr.upd (t u : Tr) : Tr := if t.like u = true then t else u
structure Tr.ok (t : Tr) : Prop where
  s : rightP t.s = true
  d : okN t.d = true
  i : t.i = 0 ∨ okNum t.i = true
def stepT (T : List Tr) (t : Tr) : List Tr := if T.any t.like = true then T.map t.upd else T ++ [t]
theorem Tr.like_iff {t u : Tr} : t.like u = true ↔ u.s = t.s ∧ u.d = t.d := by simp [Tr.like]
theorem Tr.ch_n (t : Tr) : t.ch.n = (ekz t.d t.s).n := by unfold Tr.ch; split <;> rfl
theorem Tr.ch_g (t : Tr) : t.ch.g = decide (t.i = 0) := by
  unfold Tr.ch
  split
  · rename_i h; rw [decide_eq_true h]; rfl
  · rename_i h; rw [decide_eq_false h]; rfl
theorem Tr.n_like {t u : Tr} (ht : t.ok) (hu : u.ok) : t.ch.n = u.ch.n ↔ t.like u = true := by
  rw [Tr.ch_n, Tr.ch_n, Tr.like_iff]
  constructor
  · intro h
    obtain ⟨h1, h2⟩ := ekz_n_inj ht.d hu.d ht.s hu.s h
    exact ⟨h2.symm, h1.symm⟩
  · rintro ⟨h1, h2⟩
    rw [h1, h2]
/-- What DirHolds' loop knows of the changes. -/
structure Ho (C : List Ch) (T : List Tr) : Prop where
  asc : Asc Ch.n C
  ok : ∀ t ∈ T, t.ok
  apart : T.Pairwise fun a b => a.like b = false
  look : ∀ t ∈ T, look Ch.n C t.ch.n = some t.ch
  of : ∀ c ∈ C, ∃ t ∈ T, c = t.ch
theorem Ho.start : Ho [] [] := ⟨List.Pairwise.nil, (fun t h => by cases h), List.Pairwise.nil, (fun t h => by cases h), (fun c h => by cases h)⟩
theorem upd_like (t u v : Tr) : (t.upd u).like v = u.like v := by
  unfold Tr.upd
  split
  · rename_i h
    obtain ⟨h1, h2⟩ := Tr.like_iff.1 h
    unfold Tr.like
    rw [h1, h2]
  · rfl
theorem like_upd (t u v : Tr) : u.like (t.upd v) = u.like v := by
  unfold Tr.upd
  split
  · rename_i h
    obtain ⟨h1, h2⟩ := Tr.like_iff.1 h
    unfold Tr.like
    rw [h1, h2]
  · rfl
theorem like_comm (t u : Tr) : t.like u = u.like t := by
  unfold Tr.like
  rw [decide_eq_decide.2 ⟨Eq.symm, Eq.symm⟩, decide_eq_decide.2 (⟨Eq.symm, Eq.symm⟩ : u.d = t.d ↔ t.d = u.d)]
theorem Ho.step {C : List Ch} {T : List Tr} (h : Ho C T) {t : Tr} (ht : t.ok) : Ho (putA Ch.n C t.ch) (stepT T t) := by
  have hl := fun x => putA_look Ch.n t.ch x h.asc
  unfold stepT
  by_cases q : T.any t.like = true
  · rw [if_pos q]
    refine ⟨putA_asc Ch.n _ h.asc, fun u hu => ?_, ?_, fun u hu => ?_, fun c hc => ?_⟩
    · obtain ⟨v, hv, rfl⟩ := List.mem_map.1 hu
      unfold Tr.upd
      split
      · exact ht
      · exact h.ok v hv
    · exact List.Pairwise.map _ (fun a b r => by rw [upd_like, like_upd]; exact r) h.apart
    · obtain ⟨v, hv, rfl⟩ := List.mem_map.1 hu
      rw [hl]
      unfold Tr.upd
      split
      · rw [if_pos rfl]
      · rename_i e
        rw [if_neg (fun r => e ((Tr.n_like ht (h.ok v hv)).1 r))]
        exact h.look v hv
    · rcases putA_mem Ch.n hc with hm | rfl
      · obtain ⟨v, hv, rfl⟩ := h.of c hm
        by_cases e : t.like v = true
        · have h1 := look_mem Ch.n (putA_asc Ch.n t.ch h.asc) hc
          rw [hl, if_pos ((Tr.n_like ht (h.ok v hv)).2 e)] at h1
          exact ⟨t, List.mem_map.2 ⟨v, hv, by unfold Tr.upd; rw [if_pos e]⟩, (Option.some.inj h1).symm⟩
        · exact ⟨v, List.mem_map.2 ⟨v, hv, by unfold Tr.upd; rw [if_neg e]⟩, rfl⟩
      · obtain ⟨v, hv, e⟩ := List.any_eq_true.1 q
        exact ⟨t, List.mem_map.2 ⟨v, hv, by unfold Tr.upd; rw [if_pos e]⟩, rfl⟩
  · rw [if_neg q]
    have hn : ∀ v ∈ T, t.like v = false := fun v hv => by
      cases e : t.like v with
      | false => rfl
      | true => exact absurd (List.any_eq_true.2 ⟨v, hv, e⟩) q
    refine ⟨putA_asc Ch.n _ h.asc, fun u hu => ?_, ?_, fun u hu => ?_, fun c hc => ?_⟩
    · rcases List.mem_append.1 hu with hu | hu
      · exact h.ok u hu
      · rw [List.mem_singleton] at hu; subst hu; exact ht
    · refine List.pairwise_append.2 ⟨h.apart, List.pairwise_singleton _ _, fun a ha b hb => ?_⟩
      rw [List.mem_singleton] at hb
      subst hb
      rw [like_comm]
      exact hn a ha
    · rw [hl]
      rcases List.mem_append.1 hu with hu | hu
      · rw [if_neg (fun r => by have := (Tr.n_like ht (h.ok u hu)).1 r; rw [hn u hu] at this; cases this)]
        exact h.look u hu
      · rw [List.mem_singleton] at hu; subst hu; rw [if_pos rfl]
    · rcases putA_mem Ch.n hc with hm | rfl
      · obtain ⟨v, hv, rfl⟩ := h.of c hm
        exact ⟨v, List.mem_append.2 (.inl hv), rfl⟩
      · exact ⟨t, List.mem_append.2 (.inr (by simp)), rfl⟩
theorem Ho.perm {C : List Ch} {T : List Tr} (h : Ho C T) : C.Perm (T.map Tr.ch) := by
  have d1 : C.Nodup := List.Pairwise.imp (fun {a b} r e => by subst e; exact absurd r (Int.lt_irrefl _)) h.asc
  have d2 : (T.map Tr.ch).Nodup := by
    refine List.pairwise_map.2 (List.Pairwise.imp_of_mem (fun {a b} ha hb r e => ?_) h.apart)
    have := (Tr.n_like (h.ok a ha) (h.ok b hb)).1 (by rw [e])
    rw [r] at this
    cases this
  refine (List.perm_ext_iff_of_nodup d1 d2).2 fun c => ⟨fun hc => ?_, fun hc => ?_⟩
  · obtain ⟨t, ht, rfl⟩ := h.of c hc
    exact List.mem_map.2 ⟨t, ht, rfl⟩
  · obtain ⟨t, ht, rfl⟩ := List.mem_map.1 hc
    exact (look_key Ch.n (h.look t ht)).1
/-- How many names of a directory tell a number. -/
def cntT (d : Int) (T : List Tr) : Nat := (T.filter fun t => decide (t.d = d) && decide (t.i ≠ 0)).length
theorem Ho.lives_len {C : List Ch} {T : List Tr} (h : Ho C T) {d : Int} (hd : okN d = true) : (lives C (entriesS d)).length = cntT d T := by
  unfold lives inL cntT
  rw [List.length_map, List.filter_filter, (h.perm.filter _).length_eq, List.filter_map, List.length_map]
  refine congrArg List.length (List.filter_congr fun t ht => ?_)
  have ho := h.ok t ht
  show (!t.ch.g && (entriesS d).inb t.ch.n) = _
  rw [Tr.ch_g, Tr.ch_n, inb_ekz ho.d hd ho.s, Bool.and_comm]
  congr 1
  simp
theorem Ho.got {C : List Ch} {T : List Tr} (h : Ho C T) {t : Tr} (ht : t ∈ T) {o : Option Int} (ho : NmIs (getV C (plGe []) (ekz t.d t.s)).1 o) : findR (getV C (plGe []) (ekz t.d t.s)) o = (t.i, decide (t.i ≠ 0), 0) := by
  have hk := h.look t ht
  rw [Tr.ch_n] at hk
  rw [getV_nil, hk] at ho ⊢
  unfold Tr.ch at ho ⊢
  rcases (h.ok t ht).i with e | e
  · rw [if_pos e, e]
    rfl
  · have hne : t.i ≠ 0 := by
      intro r
      rw [r] at e
      cases e
    rw [if_neg hne] at ho ⊢
    rw [nm_num e ho, decide_eq_true hne]
    rfl
theorem Ho.pa {C : List Ch} {T : List Tr} (h : Ho C T) {d : Int} (hd : okN d = true) {p : Pa} (hp : p ∈ lives C (entriesS d)) : ∃ t ∈ T, t.d = d ∧ t.i ≠ 0 ∧ p.k = entryR d t.s ∧ rightP t.s = true := by
  unfold lives inL at hp
  obtain ⟨c, hc, rfl⟩ := List.mem_map.1 hp
  rw [List.filter_filter, List.mem_filter] at hc
  obtain ⟨t, ht, rfl⟩ := h.of c hc.1
  have ho := h.ok t ht
  have h2 := hc.2
  rw [Tr.ch_g, Tr.ch_n, inb_ekz ho.d hd ho.s] at h2
  simp at h2
  refine ⟨t, ht, h2.2, h2.1, ?_, ho.s⟩
  show t.ch.k = _
  unfold Tr.ch
  rw [if_neg h2.1, h2.2]
  rfl
theorem Ho.good {C : List Ch} {T : List Tr} (h : Ho C T) {d : Int} (hd : okN d = true) : ∀ p ∈ lives C (entriesS d), goodK p.k = true := fun p hp => by
  obtain ⟨t, -, -, -, e, hs⟩ := h.pa hd hp
  rw [e]
  exact (good_entry hd hs).1
theorem Ho.listed {C : List Ch} {T : List Tr} (h : Ho C T) {t : Tr} (ht : t ∈ T) : t.s ∈ namesL (lives C (entriesS t.d)) ↔ t.i ≠ 0 := by
  have ho := h.ok t ht
  constructor
  · intro hm
    obtain ⟨p, hp, hs⟩ := List.mem_map.1 hm
    obtain ⟨u, hu, h1, h2, h3, h4⟩ := h.pa ho.d hp
    rw [h3, (good_entry ho.d h4).2] at hs
    have hn : t.ch.n = u.ch.n := (Tr.n_like ho (h.ok u hu)).2 (Tr.like_iff.2 ⟨hs, h1⟩)
    have e1 := h.look t ht
    have e2 := h.look u hu
    rw [hn, e2] at e1
    have e3 := congrArg Ch.g (Option.some.inj e1)
    rw [Tr.ch_g, Tr.ch_g, decide_eq_false h2] at e3
    intro r
    rw [decide_eq_true r] at e3
    cases e3
  · intro hi
    refine List.mem_map.2 ⟨(t.ch).pa, ?_, ?_⟩
    · unfold lives inL
      refine List.mem_map.2 ⟨t.ch, ?_, rfl⟩
      rw [List.filter_filter, List.mem_filter]
      refine ⟨(look_key Ch.n (h.look t ht)).1, ?_⟩
      rw [Tr.ch_g, Tr.ch_n, inb_ekz ho.d ho.d ho.s, decide_eq_false hi]
      simp
    · have e : (t.ch).pa.k = entryR t.d t.s := by
        show t.ch.k = _
        unfold Tr.ch
        rw [if_neg hi]
        rfl
      rw [e]
      exact (good_entry ho.d ho.s).2
/-- The names rise. -/
theorem Ho.rise {C : List Ch} {T : List Tr} (h : Ho C T) {d : Int} (hd : okN d = true) : (namesL (lives C (entriesS d))).Pairwise fun a b => Op.bytesLess a b = true := by
  unfold namesL
  refine List.pairwise_map.2 (List.Pairwise.imp_of_mem (fun {p q} hp hq r => ?_) (lives_asc h.asc (entriesS d)))
  obtain ⟨t, -, -, -, e1, s1⟩ := h.pa hd hp
  obtain ⟨u, -, -, -, e2, s2⟩ := h.pa hd hq
  have hl : Op.bytesLess p.k q.k = true := by
    rw [less_num p.k q.k (by rw [p.h, q.h])]
    exact decide_eq_true (Int.ofNat_lt.1 r)
  rw [e1, e2, entry_less hd (rightP_okS s1) (rightP_okS s2)] at hl
  rw [e1, e2, (good_entry hd s1).2, (good_entry hd s2).2]
  exact hl
theorem stepT_len (T : List Tr) (t : Tr) : (stepT T t).length ≤ T.length + 1 := by
  unfold stepT
  split <;> simp
end Go.Proofs.YtgicanpggndbeaaGreat
/- A row of one's own: an element written over, one more behind it (generic). -/
namespace Go.Proofs.YtgicanpggndbeaaGreat
set_option linter.unusedVariables false
set_option maxRecDepth 100000
open Go.RowKit

theorem own_cells1 {base size n cap g : Nat} {e : TypeId} : ∀ (vs : List Value) (o : Nat) (w : World) (xs : List Value), w.ownsRow base e size (.slice (some ⟨g, 0, none⟩) n cap) n xs → o + vs.length ≤ xs.length →
    (w.setCells g o vs).ownsRow base e size (.slice (some ⟨g, 0, none⟩) n cap) n (xs.take o ++ vs ++ xs.drop (o + vs.length)) ∧ w.grownBy (w.setCells g o vs) (some g)
  | [], o, w, xs, h, _ => ⟨by rw [World.setCells]; simpa using h, ⟨rfl, rfl, rfl, Nat.le_refl _, fun _ _ _ => rfl⟩⟩
  | v :: vs, o, w, xs, h, hl => by
    obtain ⟨h1, h2⟩ := h.stored o v
    obtain ⟨h3, h4⟩ := own_cells1 vs (o + 1) _ (xs.set o v) h1 (by simp at hl ⊢; omega)
    refine ⟨?_, h2.trans h4⟩
    have e := list_seg_step xs o v vs (by simpa using hl)
    rw [World.setCells]
    rw [e] at h3
    exact h3
section
variable {α : Type} {k : Nat} {E : Enc α k}
theorem own_frozen1 {ty : TypeId} {w : World} {base g n cap : Nat} {l : List α} (h : Own E ty w base (.slice (some ⟨g, 0, none⟩) n cap) l) (j : Nat) : w.frozen? ⟨g, j, none⟩ = false := by
  rcases h.2 with ⟨h', _⟩ | ⟨g', cap', cur, h', _, hg, _⟩
  · cases h'
  · cases h'
    simp [World.frozen?, hg]
theorem Enc.flat_take1 (l : List α) (i : Nat) (hi : i ≤ l.length) : (E.flat l).take (i * k) = E.flat (l.take i) := by
  have e : E.flat l = E.flat (l.take i) ++ E.flat (l.drop i) := by rw [← E.flat_append, List.take_append_drop]
  have hn : (E.flat (l.take i)).length = i * k := by rw [E.flat_length, List.length_take, Nat.min_eq_left hi]
  rw [e, List.take_append_of_le_length (by omega), List.take_of_length_le (by omega)]
theorem Enc.flat_drop1 (l : List α) (i : Nat) (hi : i ≤ l.length) : (E.flat l).drop (i * k) = E.flat (l.drop i) := by
  have e : E.flat l = E.flat (l.take i) ++ E.flat (l.drop i) := by rw [← E.flat_append, List.take_append_drop]
  have hn : (E.flat (l.take i)).length = i * k := by rw [E.flat_length, List.length_take, Nat.min_eq_left hi]
  rw [e, ← hn, List.drop_left]
/-- A whole element is put in the place of another one. -/
theorem own_puts {ty : TypeId} {w : World} {base g cap n : Nat} {l : List α} (h : Own E ty w base (.slice (some ⟨g, 0, none⟩) n cap) l) (hn : n = l.length) (i : Nat) (hi : i < l.length) (t : α) :
    Own E ty (w.setCells g (i * k) (E.c t)) base (.slice (some ⟨g, 0, none⟩) n cap) (l.set i t) ∧ w.grownBy (w.setCells g (i * k) (E.c t)) (some g) := by
  subst hn
  have hm : (i + 1) * k ≤ l.length * k := Nat.mul_le_mul_right k hi
  rw [Nat.add_mul, Nat.one_mul] at hm
  obtain ⟨h1, h2⟩ := own_cells1 (E.c t) (i * k) w _ h (by rw [E.flat_length, E.len]; exact hm)
  refine ⟨?_, h2⟩
  have e : (E.flat l).take (i * k) ++ E.c t ++ (E.flat l).drop (i * k + (E.c t).length) = E.flat (l.set i t) := by
    rw [E.len, show i * k + k = (i + 1) * k by rw [Nat.add_mul, Nat.one_mul], Enc.flat_take1 l i (by omega), Enc.flat_drop1 l (i + 1) (by omega), List.set_eq_take_append_cons_drop, if_pos hi, E.flat_append, List.append_assoc, E.flat_cons]
  rw [e] at h1
  show World.ownsRow _ _ _ _ _ (l.set i t).length _
  rw [List.length_set]
  exact h1
theorem own_ats {ty : TypeId} {w : World} {base g cap n : Nat} {l : List α} (h : Own E ty w base (.slice (some ⟨g, 0, none⟩) n cap) l) (i : Nat) (hi : i < l.length) : w.rangeAt g (i * k) (E.c l[i]) := by
  obtain ⟨g', off', e1, _, hr⟩ := SlB.at h.slB i hi
  cases e1
  simpa using hr
/-- A row of one's own that holds something has a block. -/
theorem own_open {ty : TypeId} {w : World} {base : Nat} {v : Value} {l : List α} (h : Own E ty w base v l) (hl : 0 < l.length) : ∃ g cap, v = .slice (some ⟨g, 0, none⟩) l.length cap ∧ base ≤ g ∧ g < w.heap.size := by
  have h1 := h.lt
  rcases h.2 with ⟨_, h0⟩ | ⟨g, cap, cur, rfl, hb, _⟩
  · omega
  · exact ⟨g, cap, rfl, h1 g rfl⟩
end
section
variable {α : Type} {E : Enc α 1} {ty : TypeId} {w : World} {base g cap n : Nat} {l : List α}
/-- Elements of one cell. -/
theorem own_put1 (h : Own E ty w base (.slice (some ⟨g, 0, none⟩) n cap) l) (hn : n = l.length) (i : Nat) (hi : i < l.length) (t : α) {u : Value} (hu : E.c t = [u]) :
    Own E ty (w.setCell ⟨g, i, none⟩ u) base (.slice (some ⟨g, 0, none⟩) n cap) (l.set i t) ∧ w.grownBy (w.setCell ⟨g, i, none⟩ u) (some g) := by
  have h1 := own_puts h hn i hi t
  rw [hu, Nat.mul_one] at h1
  exact h1
theorem own_at1 (h : Own E ty w base (.slice (some ⟨g, 0, none⟩) n cap) l) (i : Nat) (hi : i < l.length) {u : Value} (hu : E.c l[i] = [u]) : w.cell? ⟨g, i, none⟩ = some u := by
  have h1 := own_ats h i hi 0 u (by rw [hu]; rfl)
  rwa [Nat.mul_one] at h1
end
section
variable {α : Type} {k : Nat} {E : Enc α k} {P : Program} {ts te : TypeId} {bytes : Nat} {ops : Array Oper} {rest : List Oper} {o : Oper} {a : Act} {w : World} {Q : Exit → Act → World → Prop}
/-- append of one element; where it lies is told. -/
theorem append_e1 (R : RowTy P E ts te bytes) (hgd : o.guard = none) (s x : Operand) (ho : o.op = .call { callee := .builtin .append, args := #[s, x], argTypes := #[ts, ts] })
    (base : Nat) (v : Value) (l : List α) (hs : a.eval s = v) (hown : Own E te w base v l)
    (b : Nat) (e : α) (hx : a.eval x = .slice (some ⟨b, 0, none⟩) 1 1) (B : Nat) (hu : SlB E w B (.slice (some ⟨b, 0, none⟩) 1 1) [e])
    (h63 : l.length + 1 ≤ 1000000) (hbytes : bytes ≤ 10000) (hbase : base ≤ w.heap.size)
    (h : ∀ g cap w', Own E te w' base (.slice (some ⟨g, 0, none⟩) (l.length + 1) cap) (l ++ [e]) → w.grownBy w' v.ownBlock → (v.ownBlock = some g ∨ g = w.heap.size) → g < w'.heap.size → wpList P ops Q rest (a.put o.dst (.slice (some ⟨g, 0, none⟩) (l.length + 1) cap)) w') : wpList P ops Q (o :: rest) a w := by
  obtain ⟨i, z, hi, hz, hsz, hby, hzc⟩ := R.parts
  have hB : (l.length + 1) * bytes ≤ 140737488355328 := by
    have := Nat.mul_le_mul h63 hbytes
    omega
  have hr : w.rangeAt b 0 (E.c e) := by
    obtain ⟨g, off, e1, -, hr⟩ := SlB.at hu 0 Nat.zero_lt_one
    cases e1
    simpa using hr
  refine wpList_append_lies w hgd s x ts ho base te i z k bytes R.under hi hz hsz hby hzc R.pos v l.length (E.flat l) hs hown ⟨b, 0, none⟩ 1 1 (E.c e) hx (by rw [E.len, Nat.one_mul]) (fun j u hu => ?_) (E.one e) (by omega) (by unfold maxLen; omega) hB hbase w.heap.size rfl ?_
  · rw [Addr.add_mid, Nat.zero_add]
    have := hr j u hu
    rwa [Nat.zero_add] at this
  · intro g cap w' h1 h2 h3 h4
    have hl : (l ++ [e]).length = l.length + 1 := by simp
    refine h g cap w' ?_ h2 h3 h4
    show w'.ownsRow base te k _ (l ++ [e]).length (E.flat (l ++ [e]))
    rw [hl, E.flat_append, E.flat_one]
    exact h1
end
end Go.Proofs.YtgicanpggndbeaaGreat
/- DirHolds: three lists beside a view over nothing. -/
namespace Go.Proofs.YtgicanpggndbeaaGreat
set_option linter.unusedVariables false
set_option maxRecDepth 100000
open Go.RowKit

def encZ : Enc Int 1 := ⟨fun i => [.int .i64 i], fun _ => rfl, fun i v hv => by simp at hv; subst hv; rfl⟩
theorem rowZ : RowTy Tryz.prog encZ 60 3 8 := ⟨Tryz.underlying60, ⟨.int .i64 0, by kernel_rfl, rfl⟩, by decide⟩
def apartV (u v : Value) : Prop := ∀ g, u.ownBlock = some g → v.ownBlock ≠ some g
def offV (d : NV) (u : Value) : Prop := ∀ g, u.ownBlock = some g → ¬ d.foot g
/-- The three lists. -/
structure Ls (w : World) (d : NV) (v5 v6 v7 : Value) (l5 : List (List UInt8)) (l6 l7 : List Int) (y : World) : Prop where
  at_ : d.at_ w y
  n5 : Own encN 9 y w.heap.size v5 l5
  n6 : Own encZ 3 y w.heap.size v6 l6
  n7 : Own encZ 3 y w.heap.size v7 l7
  o5 : offV d v5
  o6 : offV d v6
  o7 : offV d v7
  a56 : apartV v5 v6
  a57 : apartV v5 v7
  a67 : apartV v6 v7
theorem apartV.symm {u v : Value} (h : apartV u v) : apartV v u := fun g hg e => h g e hg
/-- A view's footprint behind what was done elsewhere. -/
theorem NV.grown {d : NV} {w0 y y' : World} {v : Value} (h : d.at_ w0 y) (ho : offV d v) (hl : ∀ g, v.ownBlock = some g → w0.heap.size ≤ g) (g : y.grownBy y' v.ownBlock) : d.at_ w0 y' := by
  have hb : PlC d.lim y d.p d.pv [] d.base := h.base
  have hf : FrV (fun i => v.ownBlock = some i) y y' := ⟨⟨g.os, g.tape, g.output, g.size, fun j hj => absurd hj (Nat.not_lt_zero j)⟩, fun i hi hn => g.block i hi (fun e => hn e.symm)⟩
  exact VAt.aside h hf (fun i hi => ⟨hl i hi, fun e => ho i hi (.inl e)⟩) (hb.kept g.size fun i hi => hf.block i (NV.lt h (.inr hi)) (fun e => ho i e (.inr hi)))
section
variable {w y y' : World} {d : NV} {v5 v6 v7 : Value} {l5 : List (List UInt8)} {l6 l7 : List Int}
theorem Ls.called (h : Ls w d v5 v6 v7 l5 l6 l7 y) (b : Below y.heap.size y y') : Ls w d v5 v6 v7 l5 l6 l7 y' :=
  ⟨NV.called h.at_ b, h.n5.below b, h.n6.below b, h.n7.below b, h.o5, h.o6, h.o7, h.a56, h.a57, h.a67⟩
theorem offV.ran {x' : VR} {V' : VS} {v : Value} {base : Nat} {α : Type} {k j nb : Nat} {E : Enc α k} {ty : TypeId} {l : List α} (t : VRan noB w d.lim (NI d.lim d.p d.pv d.base) j (nI d.p) d.q d.x nb V' y x' y') (ho : Own E ty y base v l) (h : offV d v) : Own E ty y' base v l ∧ offV { d with x := x', V := V' } v := by
  refine ⟨ho.same fun g hg => t.fr.block g (ho.lt g hg).2 (fun e => e.elim (fun q => h g hg (.inl q)) (fun q => q)), fun g hg r => ?_⟩
  rcases r with r | r
  · rcases t.own g r with q | q
    · exact h g hg (.inl q)
    · have := (ho.lt g hg).2
      omega
  · exact h g hg (.inr r)
theorem Ls.ran {x' : VR} {V' : VS} {j nb : Nat} (h : Ls w d v5 v6 v7 l5 l6 l7 y) (t : VRan noB w d.lim (NI d.lim d.p d.pv d.base) j (nI d.p) d.q d.x nb V' y x' y') : Ls w { d with x := x', V := V' } v5 v6 v7 l5 l6 l7 y' :=
  ⟨NV.ran t, (offV.ran t h.n5 h.o5).1, (offV.ran t h.n6 h.o6).1, (offV.ran t h.n7 h.o7).1, (offV.ran t h.n5 h.o5).2, (offV.ran t h.n6 h.o6).2, (offV.ran t h.n7 h.o7).2, h.a56, h.a57, h.a67⟩
theorem grown_new {v v' : Value} {g cap n : Nat} (hv' : v' = .slice (some ⟨g, 0, none⟩) n cap) (hg : v.ownBlock = some g ∨ g = y.heap.size) : ∀ i, v'.ownBlock = some i → v.ownBlock = some i ∨ i = y.heap.size := fun i hi => by
  subst hv'
  cases hi
  exact hg
theorem off_new {v v' : Value} (hd : d.at_ w y) (ho : offV d v) (hv : ∀ i, v'.ownBlock = some i → v.ownBlock = some i ∨ i = y.heap.size) : offV d v' := fun i hi r => by
  rcases hv i hi with q | q
  · exact ho i q r
  · have := NV.lt hd r
    omega
theorem apart_new {v v' u : Value} {α : Type} {k base : Nat} {E : Enc α k} {ty : TypeId} {l : List α} (hu : Own E ty y base u l) (ha : apartV v u) (hv : ∀ i, v'.ownBlock = some i → v.ownBlock = some i ∨ i = y.heap.size) : apartV v' u := fun i hi r => by
  rcases hv i hi with q | q
  · exact ha i q r
  · have := (hu.lt i r).2
    omega
theorem own_aside {v u : Value} {α : Type} {k base : Nat} {E : Enc α k} {ty : TypeId} {l : List α} (hu : Own E ty y base u l) (ha : apartV v u) (g : y.grownBy y' v.ownBlock) : Own E ty y' base u l :=
  hu.same fun i hi => g.block i (hu.lt i hi).2 (fun e => ha i e.symm hi)
theorem Ls.grow5 (h : Ls w d v5 v6 v7 l5 l6 l7 y) {v' : Value} {l' : List (List UInt8)} (o : Own encN 9 y' w.heap.size v' l') (g : y.grownBy y' v5.ownBlock) (hv : ∀ i, v'.ownBlock = some i → v5.ownBlock = some i ∨ i = y.heap.size) : Ls w d v' v6 v7 l' l6 l7 y' :=
  ⟨NV.grown h.at_ h.o5 (fun i hi => (h.n5.lt i hi).1) g, o, own_aside h.n6 h.a56 g, own_aside h.n7 h.a57 g, off_new h.at_ h.o5 hv, h.o6, h.o7, apart_new h.n6 h.a56 hv, apart_new h.n7 h.a57 hv, h.a67⟩
theorem Ls.grow6 (h : Ls w d v5 v6 v7 l5 l6 l7 y) {v' : Value} {l' : List Int} (o : Own encZ 3 y' w.heap.size v' l') (g : y.grownBy y' v6.ownBlock) (hv : ∀ i, v'.ownBlock = some i → v6.ownBlock = some i ∨ i = y.heap.size) : Ls w d v5 v' v7 l5 l' l7 y' :=
  ⟨NV.grown h.at_ h.o6 (fun i hi => (h.n6.lt i hi).1) g, own_aside h.n5 h.a56.symm g, o, own_aside h.n7 h.a67 g, h.o5, off_new h.at_ h.o6 hv, h.o7, (apart_new h.n5 h.a56.symm hv).symm, h.a57, apart_new h.n7 h.a67 hv⟩
theorem Ls.grow7 (h : Ls w d v5 v6 v7 l5 l6 l7 y) {v' : Value} {l' : List Int} (o : Own encZ 3 y' w.heap.size v' l') (g : y.grownBy y' v7.ownBlock) (hv : ∀ i, v'.ownBlock = some i → v7.ownBlock = some i ∨ i = y.heap.size) : Ls w d v5 v6 v' l5 l6 l' y' :=
  ⟨NV.grown h.at_ h.o7 (fun i hi => (h.n7.lt i hi).1) g, own_aside h.n5 h.a57.symm g, own_aside h.n6 h.a67.symm g, o, h.o5, h.o6, off_new h.at_ h.o7 hv, h.a56, (apart_new h.n5 h.a57.symm hv).symm, (apart_new h.n6 h.a67.symm hv).symm⟩
theorem Ls.bel (h : Ls w d v5 v6 v7 l5 l6 l7 y) : Below w.heap.size w y := h.at_.bel
end
theorem ownBlock_none : (Value.slice none 0 0).ownBlock = none := rfl
theorem Ls.start {w y : World} {d : NV} (h : d.at_ w y) : Ls w d (.slice none 0 0) (.slice none 0 0) (.slice none 0 0) [] [] [] y :=
  ⟨h, Own.nil _ _ _ _, Own.nil _ _ _ _, Own.nil _ _ _ _, (fun g hg => by cases hg), (fun g hg => by cases hg), (fun g hg => by cases hg), (fun g hg => by cases hg), (fun g hg => by cases hg), (fun g hg => by cases hg)⟩
end Go.Proofs.YtgicanpggndbeaaGreat
