import Derived.Test.YtjhdnpplmlddaaaGreatB05
/- What a statement's walk holds in memory; a node of at most twenty pairs and kids, its own. -/
namespace Go.Proofs.YtjhdnpplmlddaaaGreat
set_option linter.unusedVariables false
open Go.RowKit

structure Held (w x : World) (us : List (Nat × Nod × Value × Value)) (bs : List (Value × List UInt8)) (ss : List (Nod × Value × Value)) : Prop where
  bel : Below w.heap.size w x
  u : ∀ e ∈ us, HasN x e.1 e.2.1 e.2.2.1 e.2.2.2
  b : ∀ e ∈ bs, Byt x e.1 e.2
  s : ∀ e ∈ ss, Parts x e.1 e.2.1 e.2.2
section
variable {w x y : World} {us : List (Nat × Nod × Value × Value)} {bs : List (Value × List UInt8)} {ss : List (Nod × Value × Value)}
theorem Held.start (w : World) : Held w w [] [] [] := ⟨Below.refl _ _, (fun _ h => by cases h), (fun _ h => by cases h), (fun _ h => by cases h)⟩
theorem Held.called (h : Held w x us bs ss) (b : Below x.heap.size x y) : Held w y us bs ss :=
  ⟨h.bel.trans (b.mono h.bel.size), fun e he => (h.u e he).below b (h.u e he).lt, fun e he => (h.b e he).below b, fun e he => (h.s e he).below b⟩
theorem Held.drew (h : Held w x us bs ss) : Held w x.drew us bs ss := h.called ⟨rfl, rfl, rfl, Nat.le_refl _, fun _ _ => rfl⟩
theorem Held.addU (h : Held w x us bs ss) {b : Nat} {X : Nod} {pv qv : Value} (hu : HasN x b X pv qv) : Held w x ((b, X, pv, qv) :: us) bs ss :=
  ⟨h.bel, fun e he => by rcases List.mem_cons.1 he with rfl | he; exact hu; exact h.u e he, h.b, h.s⟩
theorem Held.addB (h : Held w x us bs ss) {sv : Value} {L : List UInt8} (hb : Byt x sv L) : Held w x us ((sv, L) :: bs) ss :=
  ⟨h.bel, h.u, fun e he => by rcases List.mem_cons.1 he with rfl | he; exact hb; exact h.b e he, h.s⟩
theorem Held.addS (h : Held w x us bs ss) {X : Nod} {pv qv : Value} (hb : Parts x X pv qv) : Held w x us bs ((X, pv, qv) :: ss) :=
  ⟨h.bel, h.u, h.b, fun e he => by rcases List.mem_cons.1 he with rfl | he; exact hb; exact h.s e he⟩
/-- Behind the store into a block that is new. -/
theorem Held.stored (h : Held w x us bs ss) {o : Obj} {X : Nod} {pv qv : Value} (hu : HasN y x.heap.size X pv qv) (t : Touch x.heap.size none (x.alloc o) y) : Held w y ((x.heap.size, X, pv, qv) :: us) bs ss :=
  (h.called (step_below (Below.refl _ x) o t)).addU hu
end
theorem own_in {x y : World} {base n : Nat} {sv : Value} {L : List UInt8} (h : x.ownsRow base 5 1 sv n (bc L)) (b : Below x.heap.size x y) : Byt y sv L := by
  have hn : n = L.length := by have := h.1; rw [bc_length] at this; omega
  subst hn
  exact Byt.below ⟨_, own_bytes h, fun k hk => (h.lt k hk).2⟩ b
theorem OfTo.ones {w x : World} {o : Option Nod} {e : Ending} (h : OfTo w o e x) : ∃ pv qv, e = .returned (.tuple #[nv (o.getD nilN) pv qv, .int .i64 (codeN o)]) ∧ Parts x (o.getD nilN) pv qv ∧ Below w.heap.size w x := h

/-! Elements behind one another. -/
def flat (l : List El) : List Value := l.flatMap ec
theorem flat_cons (e : El) (l : List El) : flat (e :: l) = ec e ++ flat l := by simp [flat]
theorem flat_one : ∀ (l : List El), (∀ i (hi : i < l.length), (l[i]).Ok) → ∀ u ∈ flat l, u.oneCell' = true
  | [], _, u, hu => by cases hu
  | e :: l, h, u, hu => by
    rw [flat_cons, List.mem_append] at hu
    rcases hu with hu | hu
    · exact ec_one (h 0 (by simp)) u hu
    · exact flat_one l (fun i hi => h (i + 1) (by simp; omega)) u hu
theorem flat_length : ∀ (l : List El), (∀ i (hi : i < l.length), (l[i]).Ok) → (flat l).length = l.length * 25
  | [], _ => rfl
  | e :: l, h => by
    have h0 : e.Ok := h 0 (by simp)
    rw [flat_cons, List.length_append, ec_length h0, flat_length l (fun i hi => h (i + 1) (by simp; omega)), List.length_cons]
    omega
theorem flat_cells {w : World} {g : Nat} : ∀ (l : List El) (off : Nat), (∀ i (hi : i < l.length), (l[i]).Ok) → (∀ i (hi : i < l.length), w.rangeAt g (off + i * 25) (ec l[i])) → w.rangeAt g off (flat l)
  | [], off, _, _ => fun j v hv => by simp [flat] at hv
  | e :: l, off, h, hr => fun j v hv => by
    have h0 : e.Ok := h 0 (by simp)
    have l0 := ec_length h0
    rw [flat_cons] at hv
    by_cases hj : j < 25
    · rw [List.getElem?_append_left (by omega)] at hv
      have := hr 0 (by simp) j v hv
      simpa using this
    · rw [List.getElem?_append_right (by omega), l0] at hv
      have ih := flat_cells l (off + 25) (fun i hi => h (i + 1) (by simp; omega)) (fun i hi => by
        have := hr (i + 1) (by simp; omega)
        rw [show off + 25 + i * 25 = off + (i + 1) * 25 by omega]
        simpa using this) (j - 25) v hv
      rwa [show off + 25 + (j - 25) = off + j by omega] at ih
theorem flat_back {w : World} {g : Nat} : ∀ (l : List El) (off : Nat), (∀ i (hi : i < l.length), (l[i]).Ok) → w.rangeAt g off (flat l) → ∀ i (hi : i < l.length), w.rangeAt g (off + i * 25) (ec l[i])
  | [], off, _, _, i, hi => by cases hi
  | e :: l, off, h, hr, i, hi => by
    have h0 : e.Ok := h 0 (by simp)
    have l0 := ec_length h0
    rw [flat_cons] at hr
    cases i with
    | zero =>
      intro j v hv
      have hv' : (ec e)[j]? = some v := hv
      have := hr j v (by rw [List.getElem?_append_left (List.getElem?_eq_some_iff.1 hv').1]; exact hv')
      simpa using this
    | succ i =>
      have := flat_back l (off + 25) (fun i hi => h (i + 1) (by simp; omega)) (fun j v hv => by
        have := hr (25 + j) v (by rw [List.getElem?_append_right (by omega), l0, Nat.add_sub_cancel_left]; exact hv)
        rwa [← Nat.add_assoc] at this) i (by simpa using hi)
      rw [show off + 25 + i * 25 = off + (i + 1) * 25 by omega] at this
      simpa using this
/-- A slice of them in rows that are new since there were B blocks. -/
def NilOk (v : Value) : Prop := ∀ n c, v = .slice none n c → c = 0
def ElsN (w : World) (sv : Value) (l : List El) (B : Nat) : Prop := (∃ r, ElsIn w sv l r ∧ (∀ k, r = some k → B ≤ k ∧ k < w.heap.size) ∧ ∀ k off c, sv = .slice (some ⟨k, off, none⟩) l.length c → l = [] ∨ (r = some k ∧ w.there k off (l.length * 25))) ∧ NilOk sv
theorem ElsN.els {w : World} {sv : Value} {l : List El} {B : Nat} (h : ElsN w sv l B) : Els w sv l := by
  obtain ⟨⟨r, h1, h2, _⟩, _⟩ := h
  exact ⟨r, h1, fun k hk => (h2 k hk).2⟩
theorem ElsN.kept {w y : World} {sv : Value} {l : List El} {B : Nat} (h : ElsN w sv l B) (hy : ∀ k, B ≤ k → k < w.heap.size → y.heap[k]? = w.heap[k]?) (hs : w.heap.size ≤ y.heap.size) : ElsN y sv l B := by
  obtain ⟨⟨r, h1, h2, h4⟩, h3⟩ := h
  exact ⟨⟨r, h1.kept fun k hk => hy k (h2 k hk).1 (h2 k hk).2, fun k hk => ⟨(h2 k hk).1, by have := (h2 k hk).2; omega⟩, fun k off c e => by
    rcases h4 k off c e with q | ⟨q1, q2⟩
    · exact .inl q
    · exact .inr ⟨q1, there_same q2 (hy k (h2 k q1).1 (h2 k q1).2)⟩⟩, h3⟩
theorem ElsN.mono {w : World} {sv : Value} {l : List El} {B B' : Nat} (h : ElsN w sv l B) (hb : B' ≤ B) : ElsN w sv l B' := by
  obtain ⟨⟨r, h1, h2, h4⟩, h3⟩ := h
  exact ⟨⟨r, h1, fun k hk => ⟨by have := (h2 k hk).1; omega, (h2 k hk).2⟩, h4⟩, h3⟩
theorem own_els {w : World} {base n : Nat} {e : TypeId} {sv : Value} {l : List El} (h : w.ownsRow base e 25 sv n (flat l)) (hn : n = l.length) (ho : ∀ i (hi : i < l.length), (l[i]).Ok) : ElsN w sv l base := by
  subst hn
  have hl := h.lt
  rcases h.2 with ⟨rfl, h0⟩ | ⟨g, cap, cur, rfl, hb, hg, hn, hm, _⟩
  · exact ⟨⟨none, ⟨none, 0, by rw [h0], by omega, by unfold maxLen; omega, ho, .inl (List.eq_nil_of_length_eq_zero h0)⟩, (fun k hk => by cases hk), fun k off c e => by cases e⟩, fun n c e => by cases e; rfl⟩
  · refine ⟨⟨some g, ⟨_, cap, rfl, hn, by omega, ho, .inr ⟨g, 0, rfl, rfl, (hl g rfl).2, flat_back l 0 ho fun j u hu => ?_⟩⟩, (fun k hk => by cases hk; exact hl g rfl), fun k off c e => .inr ?_⟩, fun n c e => by cases e⟩
    · have := h.cells (g := g) rfl j u hu
      rw [add_lit] at this
      exact this
    · cases e
      refine ⟨rfl, fun j hj => ⟨?_, frozen_row hg _⟩⟩
      have := h.cells (g := g) rfl j _ (List.getElem?_eq_getElem (by rw [flat_length l ho]; exact hj))
      rw [add_lit] at this
      rw [this]
      rfl
theorem map_ok {α : Type} (f : α → El) (l : List α) (h : ∀ i (hi : i < l.length), (f l[i]).Ok) : ∀ i (hi : i < (l.map f).length), ((l.map f)[i]).Ok := fun i hi => by
  rw [List.getElem_map]
  exact h i (by simpa using hi)

theorem Tryz.row_P : (Tryz.prog.info? 89).map (fun i => (i.zero, i.size, i.bytes)) = some (some (.agg (ec nilP).toArray), 25, 40) := by kernel_rfl
/-- append of elements behind an empty slice of its own. -/
theorem append_P {ops : Array Oper} {rest : List Oper} {o : Oper} {a : Act} {w : World} {Q : Exit → Act → World → Prop} (hgd : o.guard = none) (s x : Operand) (ho : o.op = .call { callee := .builtin .append, args := #[s, x], argTypes := #[39, 39] })
    (W : World) (hw : w = W.alloc (.cells #[] 89)) (hs : a.eval s = .slice (some ⟨W.heap.size, 0, none⟩) 0 0) (ad : Option Addr) (n cap : Nat) (l : List El) (hx : a.eval x = .slice ad n cap) (hn : n = l.length) (h20 : n ≤ 20) (hok : ∀ i (hi : i < l.length), (l[i]).Ok) (hl : (ad = none ∧ l = [] ∧ cap = 0) ∨ ∃ A, ad = some A ∧ ∀ j u, (flat l)[j]? = some u → w.cell? (A.add j) = some u)
    (h : ∀ a' c' w', ElsN w' (.slice a' n c') l W.heap.size → Below W.heap.size W w' → wpList Tryz.prog ops Q rest (a.put o.dst (.slice a' n c')) w') : wpList Tryz.prog ops Q (o :: rest) a w := by
  obtain ⟨i0, hi, hz0, hz1, hz2⟩ := info_parts Tryz.row_P
  subst hw
  have own0 : (W.alloc (.cells #[] 89)).ownsRow W.heap.size 89 25 (.slice (some ⟨W.heap.size, 0, none⟩) 0 0) 0 [] := World.ownsRow_made (base := W.heap.size) (e := 89) (size := 25) W #[] 0 (Nat.le_refl _) (by unfold maxLen; omega) rfl
  have bel0 : Below W.heap.size W (W.alloc (.cells #[] 89)) := (Below.refl _ _).alloc (Nat.le_refl _) _
  rcases hl with ⟨rfl, rfl, rfl⟩ | ⟨A, rfl, hr⟩
  · simp only [List.length_nil] at hn
    subst hn
    refine wpList_append_own_none hgd s x 39 ho W.heap.size 89 i0 25 Tryz.underlying39 hi (.slice (some ⟨W.heap.size, 0, none⟩) 0 0) 0 [] hs own0 hx ?_
    exact h _ _ _ (own_els (l := []) own0 rfl (fun i hi => by cases hi)) bel0
  · subst hn
    have hfl := flat_length l hok
    refine wpList_append_own _ hgd s x 39 ho W.heap.size 89 i0 (.agg (ec nilP).toArray) 25 40 Tryz.underlying39 hi hz0 hz1 hz2 rfl (by decide) (.slice (some ⟨W.heap.size, 0, none⟩) 0 0) 0 [] hs own0 A l.length cap (flat l) hx hfl hr (flat_one l hok) (by unfold maxLen; omega) (by omega) (by simp) ?_
    intro v' w' hown' hgrow _
    have hown : w'.ownsRow W.heap.size 89 25 v' l.length (flat l) := by simpa using hown'
    have hN := own_els hown rfl hok
    obtain ⟨⟨r, ⟨a', c', rfl, q⟩, q2⟩, q3⟩ := hN
    exact h a' c' w' ⟨⟨r, ⟨a', c', rfl, q⟩, q2⟩, q3⟩ (bel0.grown hgrow (by simp) (fun k hk => by simp [Value.ownBlock] at hk; omega))

theorem Tryz.row_K : (Tryz.prog.info? 93).map (fun i => (i.zero, i.size, i.bytes)) = some (some (.agg (ec nilK).toArray), 25, 32) := by kernel_rfl
/-- append of elements behind an empty slice of its own. -/
theorem append_K {ops : Array Oper} {rest : List Oper} {o : Oper} {a : Act} {w : World} {Q : Exit → Act → World → Prop} (hgd : o.guard = none) (s x : Operand) (ho : o.op = .call { callee := .builtin .append, args := #[s, x], argTypes := #[58, 58] })
    (W : World) (hw : w = W.alloc (.cells #[] 93)) (hs : a.eval s = .slice (some ⟨W.heap.size, 0, none⟩) 0 0) (ad : Option Addr) (n cap : Nat) (l : List El) (hx : a.eval x = .slice ad n cap) (hn : n = l.length) (h20 : n ≤ 20) (hok : ∀ i (hi : i < l.length), (l[i]).Ok) (hl : (ad = none ∧ l = [] ∧ cap = 0) ∨ ∃ A, ad = some A ∧ ∀ j u, (flat l)[j]? = some u → w.cell? (A.add j) = some u)
    (h : ∀ a' c' w', ElsN w' (.slice a' n c') l W.heap.size → Below W.heap.size W w' → wpList Tryz.prog ops Q rest (a.put o.dst (.slice a' n c')) w') : wpList Tryz.prog ops Q (o :: rest) a w := by
  obtain ⟨i0, hi, hz0, hz1, hz2⟩ := info_parts Tryz.row_K
  subst hw
  have own0 : (W.alloc (.cells #[] 93)).ownsRow W.heap.size 93 25 (.slice (some ⟨W.heap.size, 0, none⟩) 0 0) 0 [] := World.ownsRow_made (base := W.heap.size) (e := 93) (size := 25) W #[] 0 (Nat.le_refl _) (by unfold maxLen; omega) rfl
  have bel0 : Below W.heap.size W (W.alloc (.cells #[] 93)) := (Below.refl _ _).alloc (Nat.le_refl _) _
  rcases hl with ⟨rfl, rfl, rfl⟩ | ⟨A, rfl, hr⟩
  · simp only [List.length_nil] at hn
    subst hn
    refine wpList_append_own_none hgd s x 58 ho W.heap.size 93 i0 25 Tryz.underlying58 hi (.slice (some ⟨W.heap.size, 0, none⟩) 0 0) 0 [] hs own0 hx ?_
    exact h _ _ _ (own_els (l := []) own0 rfl (fun i hi => by cases hi)) bel0
  · subst hn
    have hfl := flat_length l hok
    refine wpList_append_own _ hgd s x 58 ho W.heap.size 93 i0 (.agg (ec nilK).toArray) 25 32 Tryz.underlying58 hi hz0 hz1 hz2 rfl (by decide) (.slice (some ⟨W.heap.size, 0, none⟩) 0 0) 0 [] hs own0 A l.length cap (flat l) hx hfl hr (flat_one l hok) (by unfold maxLen; omega) (by omega) (by simp) ?_
    intro v' w' hown' hgrow _
    have hown : w'.ownsRow W.heap.size 93 25 v' l.length (flat l) := by simpa using hown'
    have hN := own_els hown rfl hok
    obtain ⟨⟨r, ⟨a', c', rfl, q⟩, q2⟩, q3⟩ := hN
    exact h a' c' w' ⟨⟨r, ⟨a', c', rfl, q⟩, q2⟩, q3⟩ (bel0.grown hgrow (by simp) (fun k hk => by simp [Value.ownBlock] at hk; omega))

def cutN (x : Nod) : Nod := ⟨x.lv, x.ps.take 20, x.ks.take 20⟩
theorem min_20 (n : Nat) : min (n : Int) 20 = ((min n 20 : Nat) : Int) := by omega
theorem take_20 {α : Type} (l : List α) : l.take 20 = l.take (min l.length 20) := by
  by_cases h : l.length ≤ 20
  · rw [Nat.min_eq_left h, List.take_length, List.take_of_length_le h]
  · rw [Nat.min_eq_right (by omega)]
/-- A slice of elements that came in, cut. -/
structure CutArg (y : World) (ad : Option Addr) (m cap : Nat) (l : List El) : Prop where
  ok : ∀ i (hi : i < l.length), (l[i]).Ok
  len : m = l.length
  at_ : (ad = none ∧ l = [] ∧ cap = 0) ∨ ∃ A, ad = some A ∧ ∀ j u, (flat l)[j]? = some u → y.cell? (A.add j) = some u
theorem els_cut {w y : World} {ad : Option Addr} {n cap m : Nat} {l : List El} {r : Option Nat} (h : ElsIn w (.slice ad n cap) l r) (hr : ∀ k, r = some k → k < w.heap.size) (hnil : ad = none → cap = 0) (hm : m ≤ n) (b : Below w.heap.size w y) :
    CutArg y ad m cap (l.take m) := by
  obtain ⟨ad', cap', e, hcap, hmax, hok, hin⟩ := h
  cases e
  have hok' : ∀ i (hi : i < (l.take m).length), ((l.take m)[i]).Ok := fun i hi => by
    rw [List.getElem_take]
    exact hok i (by simp at hi; omega)
  refine ⟨hok', by simp; omega, ?_⟩
  rcases hin with rfl | ⟨g, off, rfl, rfl, hg, hat⟩
  · cases ad with
    | none => exact .inl ⟨rfl, by simp, hnil rfl⟩
    | some y => exact .inr ⟨y, rfl, fun j u hu => by simp [flat] at hu⟩
  · refine .inr ⟨_, rfl, fun j u hu => ?_⟩
    rw [add_lit]
    refine flat_cells (l.take m) off hok' (fun i hi => ?_) j u hu
    rw [List.getElem_take]
    exact range_same (hat i (by simp at hi; omega)) (b.block g hg)
/-- What cut comes to. -/
def CutTo (w : World) (x : Nod) (e : Ending) (w' : World) : Prop := ∃ pv qv, e = .returned (nv (cutN x) pv qv) ∧ ElsN w' pv ((cutN x).ps.map Pr.el) w.heap.size ∧ ElsN w' qv ((cutN x).ks.map Kd.el) w.heap.size ∧ Below w.heap.size w w'
end Go.Proofs.YtjhdnpplmlddaaaGreat
/- What must be in any case. -/
namespace Go.Proofs.YtjhdnpplmlddaaaGreat
set_option linter.unusedVariables false
open Go.RowKit

theorem byt_cut {x : World} {a : Option Addr} {c m : Nat} {L : List UInt8} (n : Nat) (h : Byt x (.slice a m c) L) (hn : n ≤ L.length) (h0 : 0 < L.length) : Byt x (.slice a n c) (L.take n) := by
  obtain ⟨r, ⟨ad, cap, e, hcap, hh⟩, h2⟩ := h
  cases e
  refine ⟨r, ⟨a, c, ?_, by simp; omega, ?_⟩, h2⟩
  · congr 1
    simp
    omega
  · rcases hh with ⟨_, e, _⟩ | ⟨g, off, h3, h4, h5, h6⟩
    · rw [e] at h0; simp at h0
    · exact .inr ⟨g, off, h3, h4, h5, fun j u hu => h6 j u (bc_take hu)⟩
theorem byt_form {x : World} {a : Option Addr} {c n : Nat} {L : List UInt8} (h : Byt x (.slice a n c) L) : n = L.length ∧ n ≤ c ∧ (0 < n → ∃ g off, a = some ⟨g, off, none⟩ ∧ g < x.heap.size ∧ ∀ j u, (bc L)[j]? = some u → x.cell? ⟨g, off + j, none⟩ = some u) := by
  obtain ⟨r, ⟨ad, cap, e, hcap, hh⟩, h2⟩ := h
  cases e
  refine ⟨rfl, hcap, fun h0 => ?_⟩
  rcases hh with ⟨_, e, _⟩ | ⟨g, off, h3, _, h4, h5⟩
  · rw [e] at h0; simp at h0
  · exact ⟨g, off, h3, h4, h5⟩
def prA : Pr := ⟨zs 24, ⟨#[97]⟩⟩
def nodA : Nod := ⟨0, [prA], []⟩
theorem nodA_right : rightN nodA = true := by decide +kernel
theorem nodA_keyed : Keyed nodA := ⟨by intro p hp; simp [nodA] at hp; subst hp; rfl, by intro p hp; cases hp⟩
theorem nodA_4 : (enc nodA).take 4 = [87, 84, 0, 1] := by decide +kernel
theorem nodA_28 : (enc nodA)[28]? = some 1 := by decide +kernel
theorem nodA_29 : (enc nodA)[29]? = some 97 := by decide +kernel
theorem Tryz.prA_built : Tryz.prog.built 89 [(1, .string ⟨#[97]⟩)] = some (ec prA.el).toArray := by kernel_rfl
theorem Tryz.prA_slice : Tryz.prog.builtSlice 89 1 [(0, ev prA.el)] = some (ec prA.el).toArray := by kernel_rfl
theorem Tryz.nodA_built (v : Value) (h : v.cells = #[v]) : Tryz.prog.built 60 [(1, v)] = some #[.int .i64 0, v, .slice none 0 0] := by
  have h1 : (Tryz.prog.info? 60).map (·.zero) = some (some (.agg #[.int .i64 0, .slice none 0 0, .slice none 0 0])) := by kernel_rfl
  have h2 : (Tryz.prog.underlying 60).map (fun d => match d with | .struct fs => fs.toList.mapM (fun f => (Tryz.prog.info? f.type).map fun i => (f.offset, i.size)) | _ => none) = some (some [(0, 1), (1, 1), (2, 1)]) := by kernel_rfl
  unfold Program.built
  cases hi : Tryz.prog.info? 60 with
  | none => rw [hi] at h1; cases h1
  | some i =>
    rw [hi] at h1
    have hz : i.zero = some (.agg #[.int .i64 0, .slice none 0 0, .slice none 0 0]) := by simpa using h1
    cases hu : Tryz.prog.underlying 60 with
    | none => rw [hu] at h2; cases h2
    | some d =>
      rw [hu] at h2
      cases d with
      | struct fs =>
        have hp : fs.toList.mapM (fun f => (Tryz.prog.info? f.type).map fun i => (f.offset, i.size)) = some [(0, 1), (1, 1), (2, 1)] := by simpa using h2
        simp only [hz, hp]
        rw [fill_put (off := 1) (size := 1) rfl (by rw [h]; rfl) (by simp [Value.cells]), h]
        rfl
      | _ => simp at h2
theorem build_any {ops : Array Oper} {rest : List Oper} {o : Oper} {a : Act} {w : World} {Q : Exit → Act → World → Prop} (hg : o.guard = none) (t : TypeId) (parts : Array (Nat × Operand)) (ho : o.op = .build t parts) (vs : List (Nat × Value)) (hv : (parts.map fun x => (x.1, a.eval x.2)).toList = vs) (C : Array Value) (hb : Tryz.prog.built t vs = some C)
    (h : wpList Tryz.prog ops Q rest (a.put o.dst (.agg C)) w) : wpList Tryz.prog ops Q (o :: rest) a w := Great.wpList_runTo hg _ rfl _ _ (build_run t parts ho vs hv C hb) h
theorem code_some (x : Nod) : codeN (some x) = 0 := rfl
theorem code_none : codeN none = 12 := rfl
end Go.Proofs.YtjhdnpplmlddaaaGreat
/- Pairs, kids and nodes held against one another. -/
namespace Go.Proofs.YtjhdnpplmlddaaaGreat
set_option linter.unusedVariables false
open Go.RowKit

theorem part_int (cs : Array Value) (o : Nat) (v : Int) (h : cs[o]? = some (.int .i64 v)) (w : World) : (part 3 cs o).run Tryz.prog w = .ok (.int .i64 v) w := by
  simp only [part, Sem.run_bind, Tryz.isAgg3, Result.andThen_ok, h]
  simp
theorem part_str (cs : Array Value) (o : Nat) (v : ByteArray) (h : cs[o]? = some (.string v)) (w : World) : (part 9 cs o).run Tryz.prog w = .ok (.string v) w := by
  simp only [part, Sem.run_bind, Tryz.isAgg9, Result.andThen_ok, h]
  simp
theorem eq_i (d : Nat) (a b : Int) (w : World) : (Op.equalIn (d + 1) 3 (.int .i64 a) (.int .i64 b)).run Tryz.prog w = .ok (a == b) w := run_equalIn_int w d 3 .i64 .i64 a b Tryz.underlying3
theorem eq_s (d : Nat) (a b : ByteArray) (w : World) : (Op.equalIn (d + 1) 9 (.string a) (.string b)).run Tryz.prog w = .ok (decide (a = b)) w := by
  rw [run_equalIn_string w d 9 a b Tryz.underlying9]
  congr 1
  rw [Bool.eq_iff_iff, beq_iff_eq, decide_eq_true_eq, ByteArray.toList_eq, ByteArray.toList_eq]
  exact ⟨fun h => by rw [← str_data a, ← str_data b, h], fun h => by rw [h]⟩
theorem eqFields_cons (d : Nat) (xs ys : Array Value) (f : Field) (fs : List Field) (a b : Value) (q : Bool) (w : World) (hn : (f.name == "_") = false) (h1 : ∀ w, (part f.type xs f.offset).run Tryz.prog w = .ok a w) (h2 : ∀ w, (part f.type ys f.offset).run Tryz.prog w = .ok b w) (h3 : ∀ w, (Op.equalIn d f.type a b).run Tryz.prog w = .ok q w) :
    (Op.eqFields d xs ys (f :: fs)).run Tryz.prog w = if q then (Op.eqFields d xs ys fs).run Tryz.prog w else .ok false w := by
  have hne : ¬ f.name = "_" := by simpa using hn
  cases q <;> simp [Op.eqFields, hne, h1, h2, h3]
theorem ec_ext (e : El) (h : e.Ok) : (ec e).toArray.extract 0 (0 + 24) = (bc e.k).toArray ∧ (ec e).toArray[24]? = some e.v := by
  have h1 : (bc e.k).length = 24 := by rw [bc_length, h.len]
  refine ⟨?_, ?_⟩
  · rw [List.extract_toArray, List.extract_eq_take_drop, ec, List.drop_zero, Nat.zero_add, Nat.sub_zero, List.take_append_of_le_length (by omega), List.take_of_length_le (by omega)]
  · rw [List.getElem?_toArray, ec, List.getElem?_append_right (by omega)]
    simp [h1]
theorem part_key (e : El) (h : e.Ok) (w : World) : (part 25 (ec e).toArray 0).run Tryz.prog w = .ok (kv e.k) w := by
  simp only [part, Sem.run_bind, Tryz.isAgg25, Tryz.sizeOf25, Result.andThen_ok, if_true, Sem.run_pure, (ec_ext e h).1]
theorem take_eq_step {α : Type} {l m : List α} {k : Nat} (hk : k < l.length) (hm : k < m.length) (h : l.take k = m.take k) (e : l[k] = m[k]) : l.take (k + 1) = m.take (k + 1) := by
  rw [List.take_succ_eq_append_getElem hk, List.take_succ_eq_append_getElem hm, h, e]
theorem ne_at {α : Type} {l m : List α} {k : Nat} (hk : k < l.length) (hm : k < m.length) (e : ¬ l[k] = m[k]) : ¬ l = m := fun h => e (by subst h; rfl)

theorem fields_P : (Tryz.prog.fieldsOf 89).toList.map (fun f => (f.name == "_", f.type, f.offset)) = [(false, 25, 0), (false, 9, 24)] := by kernel_rfl
theorem struct_P : Tryz.prog.underlying 89 = some (.struct (Tryz.prog.fieldsOf 89)) := by
  unfold Program.fieldsOf
  rw [Tryz.underlying89]
theorem eq_P (a b : Pr) (ha : a.k.length = 24) (hb : b.k.length = 24) (w : World) : (Op.equalIn 10000 89 (ev a.el) (ev b.el)).run Tryz.prog w = .ok (decide (a = b)) w := by
  have hp : Tryz.prog.stoodInHeld 89 = false := by kernel_rfl
  rw [run_equalIn_struct w 9999 89 _ _ struct_P hp]
  have hf := fields_P
  have oa := Pr.ok_el ha
  have ob := Pr.ok_el hb
  generalize (Tryz.prog.fieldsOf 89).toList = fl at hf ⊢
  rcases fl with _ | ⟨f0, _ | ⟨f1, _ | ⟨f2, fl⟩⟩⟩
  · simp at hf
  · simp at hf
  · simp only [List.map_cons, List.map_nil, List.cons.injEq, Prod.mk.injEq] at hf
    obtain ⟨⟨a1, a2, a3⟩, ⟨b1, b2, b3⟩, _⟩ := hf
    rw [eqFields_cons _ _ _ _ _ (kv a.k) (kv b.k) (a.k == b.k) w a1 (by rw [a2, a3]; exact part_key a.el oa) (by rw [a2, a3]; exact part_key b.el ob) (by rw [a2]; exact fun w => run_equalIn_bytes w 9997 25 5 24 Tryz.underlying25 Tryz.underlying5 Tryz.sizeOf5 a.k b.k ha hb),
      eqFields_cons _ _ _ _ _ (.string a.s) (.string b.s) (decide (a.s = b.s)) w b1 (by rw [b2, b3]; exact part_str _ _ _ (ec_ext a.el oa).2) (by rw [b2, b3]; exact part_str _ _ _ (ec_ext b.el ob).2) (by rw [b2]; exact eq_s 9998 _ _)]
    obtain ⟨ak, av⟩ := a
    obtain ⟨bk, bv⟩ := b
    simp only [Op.eqFields, Sem.run_pure]
    by_cases h1 : ak = bk <;> by_cases h2 : av = bv <;> simp [h1, h2]
  · simp at hf
theorem exec_ne_P {f : Operand → Value} {o : Oper} (x y : Operand) (t' : TypeId) (ho : o.op = .binOp .neq 89 x y t') (a b : Pr) (hx : f x = ev a.el) (hy : f y = ev b.el) (ha : a.k.length = 24) (hb : b.k.length = 24) (w : World) : (execOp f o).run Tryz.prog w = .ok (.value (.bool (!decide (a = b)))) w := by
  unfold execOp
  rw [ho]
  have hm : Tryz.prog.eqGuardType Tryz.prog.depth 89 = false := by kernel_rfl
  simp only [hx, hy, Sem.run_bind, run_eqGuard_agg w .neq 89 x y _ _ hm, run_neq_struct, eq_P a b ha hb w, Result.andThen_ok, Sem.run_pure]

theorem fields_K : (Tryz.prog.fieldsOf 93).toList.map (fun f => (f.name == "_", f.type, f.offset)) = [(false, 25, 0), (false, 3, 24)] := by kernel_rfl
theorem struct_K : Tryz.prog.underlying 93 = some (.struct (Tryz.prog.fieldsOf 93)) := by
  unfold Program.fieldsOf
  rw [Tryz.underlying93]
theorem eq_K (a b : Kd) (ha : a.k.length = 24) (hb : b.k.length = 24) (w : World) : (Op.equalIn 10000 93 (ev a.el) (ev b.el)).run Tryz.prog w = .ok (decide (a = b)) w := by
  have hp : Tryz.prog.stoodInHeld 93 = false := by kernel_rfl
  rw [run_equalIn_struct w 9999 93 _ _ struct_K hp]
  have hf := fields_K
  have oa := Kd.ok_el ha
  have ob := Kd.ok_el hb
  generalize (Tryz.prog.fieldsOf 93).toList = fl at hf ⊢
  rcases fl with _ | ⟨f0, _ | ⟨f1, _ | ⟨f2, fl⟩⟩⟩
  · simp at hf
  · simp at hf
  · simp only [List.map_cons, List.map_nil, List.cons.injEq, Prod.mk.injEq] at hf
    obtain ⟨⟨a1, a2, a3⟩, ⟨b1, b2, b3⟩, _⟩ := hf
    rw [eqFields_cons _ _ _ _ _ (kv a.k) (kv b.k) (a.k == b.k) w a1 (by rw [a2, a3]; exact part_key a.el oa) (by rw [a2, a3]; exact part_key b.el ob) (by rw [a2]; exact fun w => run_equalIn_bytes w 9997 25 5 24 Tryz.underlying25 Tryz.underlying5 Tryz.sizeOf5 a.k b.k ha hb),
      eqFields_cons _ _ _ _ _ (.int .i64 a.n) (.int .i64 b.n) (a.n == b.n) w b1 (by rw [b2, b3]; exact part_int _ _ _ (ec_ext a.el oa).2) (by rw [b2, b3]; exact part_int _ _ _ (ec_ext b.el ob).2) (by rw [b2]; exact eq_i 9998 _ _)]
    obtain ⟨ak, av⟩ := a
    obtain ⟨bk, bv⟩ := b
    simp only [Op.eqFields, Sem.run_pure]
    by_cases h1 : ak = bk <;> by_cases h2 : av = bv <;> simp [h1, h2]
  · simp at hf
theorem exec_ne_K {f : Operand → Value} {o : Oper} (x y : Operand) (t' : TypeId) (ho : o.op = .binOp .neq 93 x y t') (a b : Kd) (hx : f x = ev a.el) (hy : f y = ev b.el) (ha : a.k.length = 24) (hb : b.k.length = 24) (w : World) : (execOp f o).run Tryz.prog w = .ok (.value (.bool (!decide (a = b)))) w := by
  unfold execOp
  rw [ho]
  have hm : Tryz.prog.eqGuardType Tryz.prog.depth 93 = false := by kernel_rfl
  simp only [hx, hy, Sem.run_bind, run_eqGuard_agg w .neq 93 x y _ _ hm, run_neq_struct, eq_K a b ha hb w, Result.andThen_ok, Sem.run_pure]

/-- What the loops of Same hold. -/
structure SameW (w W : World) (A B : Nod) (pa qa pb qb : Value) : Prop where
  ha : HasN W w.heap.size A pa qa
  hb : HasN W (w.heap.size + 1) B pb qb
  bel : Below w.heap.size w W
theorem SameW.drewN {w W : World} {A B : Nod} {pa qa pb qb : Value} (h : SameW w W A B pa qa pb qb) (n : Nat) : SameW w (W.drewN n) A B pa qa pb qb := ⟨h.ha, h.hb, below_drewN h.bel n⟩
theorem SameW.drew {w W : World} {A B : Nod} {pa qa pb qb : Value} (h : SameW w W A B pa qa pb qb) : SameW w W.drew A B pa qa pb qb := ⟨h.ha, h.hb, below_drewN h.bel 1⟩
theorem els_get {α : Type} {f : α → El} {w : World} {ad : Option Addr} {n c : Nat} {l : List α} (h : Els w (.slice ad n c) (l.map f)) : ∀ i (hi : i < l.length), ∃ g off, ad = some ⟨g, off, none⟩ ∧ g < w.heap.size ∧ w.rangeAt g (off + i * 25) (ec (f l[i])) ∧ (f l[i]).Ok := fun i hi => by
  obtain ⟨r, ⟨ad', cap', e, _, _, hok, hin⟩, _⟩ := h
  cases e
  rcases hin with q | ⟨g, off, h1, _, h2, h3⟩
  · simp at q; subst q; simp at hi
  · exact ⟨g, off, h1, h2, by have := h3 i (by simpa using hi); simpa using this, by have := hok i (by simpa using hi); simpa using this⟩
theorem els_max {α : Type} {f : α → El} {w : World} {ad : Option Addr} {n c : Nat} {l : List α} (h : Els w (.slice ad n c) (l.map f)) : n = l.length ∧ n ≤ maxLen := by
  obtain ⟨r, ⟨ad', cap', e, _, hm, _, _⟩, _⟩ := h
  cases e
  exact ⟨by simp, hm⟩
end Go.Proofs.YtjhdnpplmlddaaaGreat
