/- What a statement's walk holds in memory; a node of at most twenty pairs and kids, its own. -/
import Derived.Test.YtggbnacpgkbieaaNodM
namespace Go.Proofs.Ytggbnacpgkbieaa
set_option linter.unusedVariables false
open Go.RowKit

structure Held (w x : World) (us : List (Nat × Nod × Value × Value)) (bs : List (Value × List UInt8)) (ss : List (Nod × Value × Value)) : Prop where
  bel : Below w.heap.size w x
  u : ∀ e ∈ us, HasN x e.1 e.2.1 e.2.2.1 e.2.2.2
  b : ∀ e ∈ bs, Byt x e.1 e.2
  s : ∀ e ∈ ss, Parts x e.1 e.2.1 e.2.2
section
variable {w x y : World} {us : List (Nat × Nod × Value × Value)} {bs : List (Value × List UInt8)} {ss : List (Nod × Value × Value)}
theorem Held.start (w : World) : Held w w [] [] [] := ⟨Below.refl _ _, (fun _ h => by cases h), (fun _ h => by cases h), (fun _ h => by cases h)⟩
theorem Held.called (h : Held w x us bs ss) (b : Below x.heap.size x y) : Held w y us bs ss :=
  ⟨h.bel.trans (b.mono h.bel.size), fun e he => (h.u e he).below b (h.u e he).lt, fun e he => (h.b e he).below b, fun e he => (h.s e he).below b⟩
theorem Held.drew (h : Held w x us bs ss) : Held w x.drew us bs ss := h.called ⟨rfl, rfl, rfl, Nat.le_refl _, fun _ _ => rfl⟩
theorem Held.addU (h : Held w x us bs ss) {b : Nat} {X : Nod} {pv qv : Value} (hu : HasN x b X pv qv) : Held w x ((b, X, pv, qv) :: us) bs ss :=
  ⟨h.bel, fun e he => by rcases List.mem_cons.1 he with rfl | he; exact hu; exact h.u e he, h.b, h.s⟩
theorem Held.addB (h : Held w x us bs ss) {sv : Value} {L : List UInt8} (hb : Byt x sv L) : Held w x us ((sv, L) :: bs) ss :=
  ⟨h.bel, h.u, fun e he => by rcases List.mem_cons.1 he with rfl | he; exact hb; exact h.b e he, h.s⟩
theorem Held.addS (h : Held w x us bs ss) {X : Nod} {pv qv : Value} (hb : Parts x X pv qv) : Held w x us bs ((X, pv, qv) :: ss) :=
  ⟨h.bel, h.u, h.b, fun e he => by rcases List.mem_cons.1 he with rfl | he; exact hb; exact h.s e he⟩
/-- Behind the store into a block that is new. -/
theorem Held.stored (h : Held w x us bs ss) {o : Obj} {X : Nod} {pv qv : Value} (hu : HasN y x.heap.size X pv qv) (t : Touch x.heap.size none (x.alloc o) y) : Held w y ((x.heap.size, X, pv, qv) :: us) bs ss :=
  (h.called (step_below (Below.refl _ x) o t)).addU hu
end
theorem own_in {x y : World} {base n : Nat} {sv : Value} {L : List UInt8} (h : x.ownsRow base 5 1 sv n (bc L)) (b : Below x.heap.size x y) : Byt y sv L := by
  have hn : n = L.length := by have := h.1; rw [bc_length] at this; omega
  subst hn
  exact Byt.below ⟨_, own_bytes h, fun k hk => (h.lt k hk).2⟩ b
theorem of_byt {x : World} {sv : Value} {L : List UInt8} (h : Byt x sv L) (hL : L.length ≤ 1000) : Calls Try.prog 8 #[sv] x (OfTo x (ofN L)) := of_calls x sv L h hL
/-- What Bytes gives. -/
theorem bytes_nod {x : World} {X : Nod} {pv qv : Value} (h : Parts x X pv qv) : Calls Try.prog 6 #[nv X pv qv] x fun e w' => Below x.heap.size x w' ∧ ((rightN X = false ∧ e = .returned (.tuple #[.slice none 0 0, .int .i64 1])) ∨ (rightN X = true ∧ ∃ a c, e = .returned (.tuple #[.slice a 512 c, .int .i64 0]) ∧ w'.ownsRow x.heap.size 5 1 (.slice a 512 c) 512 (bc (enc X)) ∧ Byt w' (.slice a 512 c) (enc X))) := by
  refine (bytes_calls x X pv qv h).mono ?_
  rintro e w' ⟨b, h | ⟨h, a, c, rfl, ho⟩⟩
  · exact ⟨b, .inl h⟩
  · exact ⟨b, .inr ⟨h, a, c, rfl, ho, own_in ho (Below.refl _ _)⟩⟩
theorem OfTo.ones {w x : World} {o : Option Nod} {e : Ending} (h : OfTo w o e x) : ∃ pv qv, e = .returned (.tuple #[nv (o.getD nilN) pv qv, .int .i64 (codeN o)]) ∧ Parts x (o.getD nilN) pv qv ∧ Below w.heap.size w x := h

/-! Elements behind one another. -/
def flat (l : List El) : List Value := l.flatMap ec
theorem flat_cons (e : El) (l : List El) : flat (e :: l) = ec e ++ flat l := by simp [flat]
theorem flat_one : ∀ (l : List El), (∀ i (hi : i < l.length), (l[i]).Ok) → ∀ u ∈ flat l, u.oneCell' = true
  | [], _, u, hu => by cases hu
  | e :: l, h, u, hu => by
    rw [flat_cons, List.mem_append] at hu
    rcases hu with hu | hu
    · exact ec_one (h 0 (by simp)) u hu
    · exact flat_one l (fun i hi => h (i + 1) (by simp; omega)) u hu
theorem flat_length : ∀ (l : List El), (∀ i (hi : i < l.length), (l[i]).Ok) → (flat l).length = l.length * 25
  | [], _ => rfl
  | e :: l, h => by
    have h0 : e.Ok := h 0 (by simp)
    rw [flat_cons, List.length_append, ec_length h0, flat_length l (fun i hi => h (i + 1) (by simp; omega)), List.length_cons]
    omega
theorem flat_cells {w : World} {g : Nat} : ∀ (l : List El) (off : Nat), (∀ i (hi : i < l.length), (l[i]).Ok) → (∀ i (hi : i < l.length), w.rangeAt g (off + i * 25) (ec l[i])) → w.rangeAt g off (flat l)
  | [], off, _, _ => fun j v hv => by simp [flat] at hv
  | e :: l, off, h, hr => fun j v hv => by
    have h0 : e.Ok := h 0 (by simp)
    have l0 := ec_length h0
    rw [flat_cons] at hv
    by_cases hj : j < 25
    · rw [List.getElem?_append_left (by omega)] at hv
      have := hr 0 (by simp) j v hv
      simpa using this
    · rw [List.getElem?_append_right (by omega), l0] at hv
      have ih := flat_cells l (off + 25) (fun i hi => h (i + 1) (by simp; omega)) (fun i hi => by
        have := hr (i + 1) (by simp; omega)
        rw [show off + 25 + i * 25 = off + (i + 1) * 25 by omega]
        simpa using this) (j - 25) v hv
      rwa [show off + 25 + (j - 25) = off + j by omega] at ih
theorem flat_back {w : World} {g : Nat} : ∀ (l : List El) (off : Nat), (∀ i (hi : i < l.length), (l[i]).Ok) → w.rangeAt g off (flat l) → ∀ i (hi : i < l.length), w.rangeAt g (off + i * 25) (ec l[i])
  | [], off, _, _, i, hi => by cases hi
  | e :: l, off, h, hr, i, hi => by
    have h0 : e.Ok := h 0 (by simp)
    have l0 := ec_length h0
    rw [flat_cons] at hr
    cases i with
    | zero =>
      intro j v hv
      have hv' : (ec e)[j]? = some v := hv
      have := hr j v (by rw [List.getElem?_append_left (List.getElem?_eq_some_iff.1 hv').1]; exact hv')
      simpa using this
    | succ i =>
      have := flat_back l (off + 25) (fun i hi => h (i + 1) (by simp; omega)) (fun j v hv => by
        have := hr (25 + j) v (by rw [List.getElem?_append_right (by omega), l0, Nat.add_sub_cancel_left]; exact hv)
        rwa [← Nat.add_assoc] at this) i (by simpa using hi)
      rw [show off + 25 + i * 25 = off + (i + 1) * 25 by omega] at this
      simpa using this
/-- A slice of them in rows that are new since there were B blocks. -/
def NilOk (v : Value) : Prop := ∀ n c, v = .slice none n c → c = 0
def ElsN (w : World) (sv : Value) (l : List El) (B : Nat) : Prop := (∃ r, ElsIn w sv l r ∧ (∀ k, r = some k → B ≤ k ∧ k < w.heap.size) ∧ ∀ k off c, sv = .slice (some ⟨k, off, none⟩) l.length c → l = [] ∨ (r = some k ∧ w.there k off (l.length * 25))) ∧ NilOk sv
theorem ElsN.els {w : World} {sv : Value} {l : List El} {B : Nat} (h : ElsN w sv l B) : Els w sv l := by
  obtain ⟨⟨r, h1, h2, _⟩, _⟩ := h
  exact ⟨r, h1, fun k hk => (h2 k hk).2⟩
theorem ElsN.kept {w y : World} {sv : Value} {l : List El} {B : Nat} (h : ElsN w sv l B) (hy : ∀ k, B ≤ k → k < w.heap.size → y.heap[k]? = w.heap[k]?) (hs : w.heap.size ≤ y.heap.size) : ElsN y sv l B := by
  obtain ⟨⟨r, h1, h2, h4⟩, h3⟩ := h
  exact ⟨⟨r, h1.kept fun k hk => hy k (h2 k hk).1 (h2 k hk).2, fun k hk => ⟨(h2 k hk).1, by have := (h2 k hk).2; omega⟩, fun k off c e => by
    rcases h4 k off c e with q | ⟨q1, q2⟩
    · exact .inl q
    · exact .inr ⟨q1, there_same q2 (hy k (h2 k q1).1 (h2 k q1).2)⟩⟩, h3⟩
theorem ElsN.mono {w : World} {sv : Value} {l : List El} {B B' : Nat} (h : ElsN w sv l B) (hb : B' ≤ B) : ElsN w sv l B' := by
  obtain ⟨⟨r, h1, h2, h4⟩, h3⟩ := h
  exact ⟨⟨r, h1, fun k hk => ⟨by have := (h2 k hk).1; omega, (h2 k hk).2⟩, h4⟩, h3⟩
theorem own_els {w : World} {base n : Nat} {e : TypeId} {sv : Value} {l : List El} (h : w.ownsRow base e 25 sv n (flat l)) (hn : n = l.length) (ho : ∀ i (hi : i < l.length), (l[i]).Ok) : ElsN w sv l base := by
  subst hn
  have hl := h.lt
  rcases h.2 with ⟨rfl, h0⟩ | ⟨g, cap, cur, rfl, hb, hg, hn, hm, _⟩
  · exact ⟨⟨none, ⟨none, 0, by rw [h0], by omega, by unfold maxLen; omega, ho, .inl (List.eq_nil_of_length_eq_zero h0)⟩, (fun k hk => by cases hk), fun k off c e => by cases e⟩, fun n c e => by cases e; rfl⟩
  · refine ⟨⟨some g, ⟨_, cap, rfl, hn, by omega, ho, .inr ⟨g, 0, rfl, rfl, (hl g rfl).2, flat_back l 0 ho fun j u hu => ?_⟩⟩, (fun k hk => by cases hk; exact hl g rfl), fun k off c e => .inr ?_⟩, fun n c e => by cases e⟩
    · have := h.cells (g := g) rfl j u hu
      rw [add_lit] at this
      exact this
    · cases e
      refine ⟨rfl, fun j hj => ⟨?_, frozen_row hg _⟩⟩
      have := h.cells (g := g) rfl j _ (List.getElem?_eq_getElem (by rw [flat_length l ho]; exact hj))
      rw [add_lit] at this
      rw [this]
      rfl
theorem map_ok {α : Type} (f : α → El) (l : List α) (h : ∀ i (hi : i < l.length), (f l[i]).Ok) : ∀ i (hi : i < (l.map f).length), ((l.map f)[i]).Ok := fun i hi => by
  rw [List.getElem_map]
  exact h i (by simpa using hi)

theorem Try.row_P : (Try.prog.info? 44).map (fun i => (i.zero, i.size, i.bytes)) = some (some (.agg (ec nilP).toArray), 25, 40) := by kernel_rfl
/-- append of elements behind an empty slice of its own. -/
theorem append_P {ops : Array Oper} {rest : List Oper} {o : Oper} {a : Act} {w : World} {Q : Exit → Act → World → Prop} (hgd : o.guard = none) (s x : Operand) (ho : o.op = .call { callee := .builtin .append, args := #[s, x], argTypes := #[22, 22] })
    (W : World) (hw : w = W.alloc (.cells #[] 44)) (hs : a.eval s = .slice (some ⟨W.heap.size, 0, none⟩) 0 0) (ad : Option Addr) (n cap : Nat) (l : List El) (hx : a.eval x = .slice ad n cap) (hn : n = l.length) (h20 : n ≤ 20) (hok : ∀ i (hi : i < l.length), (l[i]).Ok) (hl : (ad = none ∧ l = [] ∧ cap = 0) ∨ ∃ A, ad = some A ∧ ∀ j u, (flat l)[j]? = some u → w.cell? (A.add j) = some u)
    (h : ∀ a' c' w', ElsN w' (.slice a' n c') l W.heap.size → Below W.heap.size W w' → wpList Try.prog ops Q rest (a.put o.dst (.slice a' n c')) w') : wpList Try.prog ops Q (o :: rest) a w := by
  obtain ⟨i0, hi, hz0, hz1, hz2⟩ := info_parts Try.row_P
  subst hw
  have own0 : (W.alloc (.cells #[] 44)).ownsRow W.heap.size 44 25 (.slice (some ⟨W.heap.size, 0, none⟩) 0 0) 0 [] := World.ownsRow_made (base := W.heap.size) (e := 44) (size := 25) W #[] 0 (Nat.le_refl _) (by unfold maxLen; omega) rfl
  have bel0 : Below W.heap.size W (W.alloc (.cells #[] 44)) := (Below.refl _ _).alloc (Nat.le_refl _) _
  rcases hl with ⟨rfl, rfl, rfl⟩ | ⟨A, rfl, hr⟩
  · simp only [List.length_nil] at hn
    subst hn
    refine wpList_append_own_none hgd s x 22 ho W.heap.size 44 i0 25 Try.underlying22 hi (.slice (some ⟨W.heap.size, 0, none⟩) 0 0) 0 [] hs own0 hx ?_
    exact h _ _ _ (own_els (l := []) own0 rfl (fun i hi => by cases hi)) bel0
  · subst hn
    have hfl := flat_length l hok
    refine wpList_append_own _ hgd s x 22 ho W.heap.size 44 i0 (.agg (ec nilP).toArray) 25 40 Try.underlying22 hi hz0 hz1 hz2 rfl (by decide) (.slice (some ⟨W.heap.size, 0, none⟩) 0 0) 0 [] hs own0 A l.length cap (flat l) hx hfl hr (flat_one l hok) (by unfold maxLen; omega) (by omega) (by simp) ?_
    intro v' w' hown' hgrow _
    have hown : w'.ownsRow W.heap.size 44 25 v' l.length (flat l) := by simpa using hown'
    have hN := own_els hown rfl hok
    obtain ⟨⟨r, ⟨a', c', rfl, q⟩, q2⟩, q3⟩ := hN
    exact h a' c' w' ⟨⟨r, ⟨a', c', rfl, q⟩, q2⟩, q3⟩ (bel0.grown hgrow (by simp) (fun k hk => by simp [Value.ownBlock] at hk; omega))

theorem Try.row_K : (Try.prog.info? 54).map (fun i => (i.zero, i.size, i.bytes)) = some (some (.agg (ec nilK).toArray), 25, 32) := by kernel_rfl
/-- append of elements behind an empty slice of its own. -/
theorem append_K {ops : Array Oper} {rest : List Oper} {o : Oper} {a : Act} {w : World} {Q : Exit → Act → World → Prop} (hgd : o.guard = none) (s x : Operand) (ho : o.op = .call { callee := .builtin .append, args := #[s, x], argTypes := #[23, 23] })
    (W : World) (hw : w = W.alloc (.cells #[] 54)) (hs : a.eval s = .slice (some ⟨W.heap.size, 0, none⟩) 0 0) (ad : Option Addr) (n cap : Nat) (l : List El) (hx : a.eval x = .slice ad n cap) (hn : n = l.length) (h20 : n ≤ 20) (hok : ∀ i (hi : i < l.length), (l[i]).Ok) (hl : (ad = none ∧ l = [] ∧ cap = 0) ∨ ∃ A, ad = some A ∧ ∀ j u, (flat l)[j]? = some u → w.cell? (A.add j) = some u)
    (h : ∀ a' c' w', ElsN w' (.slice a' n c') l W.heap.size → Below W.heap.size W w' → wpList Try.prog ops Q rest (a.put o.dst (.slice a' n c')) w') : wpList Try.prog ops Q (o :: rest) a w := by
  obtain ⟨i0, hi, hz0, hz1, hz2⟩ := info_parts Try.row_K
  subst hw
  have own0 : (W.alloc (.cells #[] 54)).ownsRow W.heap.size 54 25 (.slice (some ⟨W.heap.size, 0, none⟩) 0 0) 0 [] := World.ownsRow_made (base := W.heap.size) (e := 54) (size := 25) W #[] 0 (Nat.le_refl _) (by unfold maxLen; omega) rfl
  have bel0 : Below W.heap.size W (W.alloc (.cells #[] 54)) := (Below.refl _ _).alloc (Nat.le_refl _) _
  rcases hl with ⟨rfl, rfl, rfl⟩ | ⟨A, rfl, hr⟩
  · simp only [List.length_nil] at hn
    subst hn
    refine wpList_append_own_none hgd s x 23 ho W.heap.size 54 i0 25 Try.underlying23 hi (.slice (some ⟨W.heap.size, 0, none⟩) 0 0) 0 [] hs own0 hx ?_
    exact h _ _ _ (own_els (l := []) own0 rfl (fun i hi => by cases hi)) bel0
  · subst hn
    have hfl := flat_length l hok
    refine wpList_append_own _ hgd s x 23 ho W.heap.size 54 i0 (.agg (ec nilK).toArray) 25 32 Try.underlying23 hi hz0 hz1 hz2 rfl (by decide) (.slice (some ⟨W.heap.size, 0, none⟩) 0 0) 0 [] hs own0 A l.length cap (flat l) hx hfl hr (flat_one l hok) (by unfold maxLen; omega) (by omega) (by simp) ?_
    intro v' w' hown' hgrow _
    have hown : w'.ownsRow W.heap.size 54 25 v' l.length (flat l) := by simpa using hown'
    have hN := own_els hown rfl hok
    obtain ⟨⟨r, ⟨a', c', rfl, q⟩, q2⟩, q3⟩ := hN
    exact h a' c' w' ⟨⟨r, ⟨a', c', rfl, q⟩, q2⟩, q3⟩ (bel0.grown hgrow (by simp) (fun k hk => by simp [Value.ownBlock] at hk; omega))

def cutN (x : Nod) : Nod := ⟨x.lv, x.ps.take 20, x.ks.take 20⟩
theorem min_20 (n : Nat) : min (n : Int) 20 = ((min n 20 : Nat) : Int) := by omega
theorem take_20 {α : Type} (l : List α) : l.take 20 = l.take (min l.length 20) := by
  by_cases h : l.length ≤ 20
  · rw [Nat.min_eq_left h, List.take_length, List.take_of_length_le h]
  · rw [Nat.min_eq_right (by omega)]
/-- A slice of elements that came in, cut. -/
structure CutArg (y : World) (ad : Option Addr) (m cap : Nat) (l : List El) : Prop where
  ok : ∀ i (hi : i < l.length), (l[i]).Ok
  len : m = l.length
  at_ : (ad = none ∧ l = [] ∧ cap = 0) ∨ ∃ A, ad = some A ∧ ∀ j u, (flat l)[j]? = some u → y.cell? (A.add j) = some u
theorem els_cut {w y : World} {ad : Option Addr} {n cap m : Nat} {l : List El} {r : Option Nat} (h : ElsIn w (.slice ad n cap) l r) (hr : ∀ k, r = some k → k < w.heap.size) (hnil : ad = none → cap = 0) (hm : m ≤ n) (b : Below w.heap.size w y) :
    CutArg y ad m cap (l.take m) := by
  obtain ⟨ad', cap', e, hcap, hmax, hok, hin⟩ := h
  cases e
  have hok' : ∀ i (hi : i < (l.take m).length), ((l.take m)[i]).Ok := fun i hi => by
    rw [List.getElem_take]
    exact hok i (by simp at hi; omega)
  refine ⟨hok', by simp; omega, ?_⟩
  rcases hin with rfl | ⟨g, off, rfl, rfl, hg, hat⟩
  · cases ad with
    | none => exact .inl ⟨rfl, by simp, hnil rfl⟩
    | some y => exact .inr ⟨y, rfl, fun j u hu => by simp [flat] at hu⟩
  · refine .inr ⟨_, rfl, fun j u hu => ?_⟩
    rw [add_lit]
    refine flat_cells (l.take m) off hok' (fun i hi => ?_) j u hu
    rw [List.getElem_take]
    exact range_same (hat i (by simp at hi; omega)) (b.block g hg)
/-- What cut comes to. -/
def CutTo (w : World) (x : Nod) (e : Ending) (w' : World) : Prop := ∃ pv qv, e = .returned (nv (cutN x) pv qv) ∧ ElsN w' pv ((cutN x).ps.map Pr.el) w.heap.size ∧ ElsN w' qv ((cutN x).ks.map Kd.el) w.heap.size ∧ Below w.heap.size w w'
set_option maxHeartbeats 8000000 in
set_option maxRecDepth 100000 in
theorem cut_nn (w : World) (x : Nod) (h : Parts w x (.slice none 0 0) (.slice none 0 0)) :
    Calls Try.prog 5 #[nv x (.slice none 0 0) (.slice none 0 0)] w (CutTo w x) := by
  obtain ⟨rp, hp, hrp⟩ := h.p
  obtain ⟨rq, hq, hrq⟩ := h.q
  have lnp : x.ps.length = 0 := by obtain ⟨_, _, e, _⟩ := hp; simp only [Value.slice.injEq, List.length_map] at e; exact e.2.1.symm
  have tmp : x.ps.take 20 = x.ps.take 0 := by rw [List.eq_nil_of_length_eq_zero lnp]; rfl
  have lnq : x.ks.length = 0 := by obtain ⟨_, _, e, _⟩ := hq; simp only [Value.slice.injEq, List.length_map] at e; exact e.2.1.symm
  have tmq : x.ks.take 20 = x.ks.take 0 := by rw [List.eq_nil_of_length_eq_zero lnq]; rfl
  have HX : Hid (cutN x = ⟨x.lv, x.ps.take 0, x.ks.take 0⟩) := (show _ = _ by rw [cutN, tmp, tmq])
  have HP : Hid (∀ y, Below w.heap.size w y → CutArg y none 0 0 ((x.ps.map Pr.el).take 0)) := fun y hy => els_cut hp hrp (fun e => by rfl) (by omega) hy
  have HQ : Hid (∀ y, Below w.heap.size w y → CutArg y none 0 0 ((x.ks.map Kd.el).take 0)) := fun y hy => els_cut hq hrq (fun e => by rfl) (by omega) hy
  have N0 : HasN ((w.alloc (.cells (nc x (.slice none 0 0) (.slice none 0 0)) 25)).alloc (.cells #[.int .i64 0, .slice none 0 0, .slice none 0 0] 25)) w.heap.size x (.slice none 0 0) (.slice none 0 0) := (HasN.new w x _ _ _ rfl rfl rfl).alloc _
  have R0 : HasN ((w.alloc (.cells (nc x (.slice none 0 0) (.slice none 0 0)) 25)).alloc (.cells #[.int .i64 0, .slice none 0 0, .slice none 0 0] 25)) (w.heap.size + 1) nilN (.slice none 0 0) (.slice none 0 0) := HasN.new _ nilN _ _ _ (by simp) rfl rfl
  have B0 : Below w.heap.size w ((w.alloc (.cells (nc x (.slice none 0 0) (.slice none 0 0)) 25)).alloc (.cells #[.int .i64 0, .slice none 0 0, .slice none 0 0] 25)) := ((Below.refl _ w).alloc (Nat.le_refl _) _).alloc (by simp) _
  have S0 : ((w.alloc (.cells (nc x (.slice none 0 0) (.slice none 0 0)) 25)).alloc (.cells #[.int .i64 0, .slice none 0 0, .slice none 0 0] 25)).heap.size = w.heap.size + 2 := by simp
  have m0 : min (0 : Int) 20 = 0 := by decide
  clear h hp hq hrp hrq tmp lnp tmq lnq
  go_enter Try.func5, Try.ntmps5
  go_upto_region 1 with fail
  generalize (w.alloc (.cells (nc x (.slice none 0 0) (.slice none 0 0)) 25)).alloc (.cells #[.int .i64 0, .slice none 0 0, .slice none 0 0] 25) = W at *
  have k1 := fun o => (N0.alloc o).cells.2.1
  have HCA : Hid (CutArg (W.alloc (.cells #[] 44)) none 0 0 ((x.ps.map Pr.el).take 0)) := HP.out _ (B0.alloc B0.size (.cells #[] 44))
  have HS0 : Hid (W.heap.size = w.heap.size + 2) := S0
  clear S0
  have HN0 : Hid (HasN W w.heap.size x (.slice none 0 0) (.slice none 0 0)) := N0
  have HR0 : Hid (HasN W (w.heap.size + 1) nilN (.slice none 0 0) (.slice none 0 0)) := R0
  clear N0 R0
  go_upto_region 2 with (at_builtin; refine append_P rfl (.tmp 3) (.tmp 10) rfl W rfl rfl none 0 0 ((x.ps.map Pr.el).take 0) rfl HCA.out.len (by omega) HCA.out.ok HCA.out.at_ ?_; intro a1 c1 w1 en1 b1; have M1 := HN0.out.below b1 HN0.out.lt; have f1 := M1.free 1; have g1 := M1.cells.2.1)
  have S0 := HS0.out
  have N1 := M1.set1 (x.ps.take 0) (.slice a1 0 c1) rfl
  have s1 := b1.size
  have T1 : Touch w.heap.size none w1 (w1.setCell ⟨w.heap.size, 1, none⟩ (.slice a1 0 c1)) := touch_set _ _ _ _
  have E1 : ElsN (w1.setCell ⟨w.heap.size, 1, none⟩ (.slice a1 0 c1)) (.slice a1 0 c1) ((x.ps.map Pr.el).take 0) (w.heap.size + 2) := (en1.mono (by omega)).kept (fun k hk hl => T1.block k hl (by omega) (by simp)) T1.size
  have R1 : Hid (HasN (w1.setCell ⟨w.heap.size, 1, none⟩ (.slice a1 0 c1)) (w.heap.size + 1) nilN (.slice none 0 0) (.slice none 0 0)) := (HR0.out.below b1 HR0.out.lt).touch T1 (by omega)
  have B1 : Below w.heap.size w (w1.setCell ⟨w.heap.size, 1, none⟩ (.slice a1 0 c1)) := (B0.trans (b1.mono B0.size)).setCell (by simp) _
  have S1 : w.heap.size + 2 ≤ (w1.setCell ⟨w.heap.size, 1, none⟩ (.slice a1 0 c1)).heap.size := by have := T1.size; omega
  have HE1 : Hid (ElsN (w1.setCell ⟨w.heap.size, 1, none⟩ (.slice a1 0 c1)) (.slice a1 0 c1) ((x.ps.map Pr.el).take 0) (w.heap.size + 2)) := E1
  have HN1 : Hid (HasN (w1.setCell ⟨w.heap.size, 1, none⟩ (.slice a1 0 c1)) w.heap.size ⟨x.lv, x.ps.take 0, x.ks⟩ (.slice a1 0 c1) (.slice none 0 0)) := N1
  clear E1 N1 M1 f1 g1 en1 b1 T1 HN0 HR0 B0 k1 s1 S0
  generalize w1.setCell ⟨w.heap.size, 1, none⟩ (.slice a1 0 c1) = y1 at *
  have HCB : Hid (CutArg (y1.alloc (.cells #[] 54)) none 0 0 ((x.ks.map Kd.el).take 0)) := HQ.out _ (B1.alloc B1.size (.cells #[] 54))
  have k2 := fun o => (HN1.out.alloc o).cells.2.2
  go_upto_region 3 with (at_builtin; refine append_K rfl (.tmp 13) (.tmp 20) rfl y1 rfl rfl none 0 0 ((x.ks.map Kd.el).take 0) rfl HCB.out.len (by omega) HCB.out.ok HCB.out.at_ ?_; intro a2 c2 w2 en2 b2; have M2 := HN1.out.below b2 HN1.out.lt; have f2 := M2.free 2; have g2 := M2.cells.2.2)
  have N2 := M2.set2 (x.ks.take 0) (.slice a2 0 c2) rfl
  have T2 : Touch w.heap.size none w2 (w2.setCell ⟨w.heap.size, 2, none⟩ (.slice a2 0 c2)) := touch_set _ _ _ _
  have E2 : ElsN (w2.setCell ⟨w.heap.size, 2, none⟩ (.slice a2 0 c2)) (.slice a2 0 c2) ((x.ks.map Kd.el).take 0) (w.heap.size + 2) := (en2.mono S1).kept (fun k hk hl => T2.block k hl (by omega) (by simp)) T2.size
  have E1 : ElsN (w2.setCell ⟨w.heap.size, 2, none⟩ (.slice a2 0 c2)) (.slice a1 0 c1) ((x.ps.map Pr.el).take 0) (w.heap.size + 2) := (HE1.out.kept (fun k hk hl => b2.block k hl) b2.size).kept (fun k hk hl => T2.block k hl (by omega) (by simp)) T2.size
  have R2 : HasN (w2.setCell ⟨w.heap.size, 2, none⟩ (.slice a2 0 c2)) (w.heap.size + 1) nilN (.slice none 0 0) (.slice none 0 0) := (R1.out.below b2 R1.out.lt).touch T2 (by omega)
  have B2 : Below w.heap.size w (w2.setCell ⟨w.heap.size, 2, none⟩ (.slice a2 0 c2)) := (B1.trans (b2.mono B1.size)).setCell (by simp) _
  have HE : Hid (ElsN (w2.setCell ⟨w.heap.size, 2, none⟩ (.slice a2 0 c2)) (.slice a1 0 c1) ((x.ps.map Pr.el).take 0) (w.heap.size + 2) ∧ ElsN (w2.setCell ⟨w.heap.size, 2, none⟩ (.slice a2 0 c2)) (.slice a2 0 c2) ((x.ks.map Kd.el).take 0) (w.heap.size + 2)) := ⟨E1, E2⟩
  have HN2 : Hid (HasN (w2.setCell ⟨w.heap.size, 2, none⟩ (.slice a2 0 c2)) w.heap.size ⟨x.lv, x.ps.take 0, x.ks.take 0⟩ (.slice a1 0 c1) (.slice a2 0 c2)) := N2
  have HR2 : Hid (HasN (w2.setCell ⟨w.heap.size, 2, none⟩ (.slice a2 0 c2)) (w.heap.size + 1) nilN (.slice none 0 0) (.slice none 0 0)) := R2
  clear E1 E2 R2 N2 M2 f2 g2 en2 b2 T2 HN1 R1 B1 k2 HE1
  generalize w2.setCell ⟨w.heap.size, 2, none⟩ (.slice a2 0 c2) = y2 at *
  go_wp2_with (first
    | (refine load_node _ rfl w.heap.size rfl rfl _ _ _ HN2.out ?_)
    | (refine store_node rfl _ _ rfl (w.heap.size + 1) rfl ⟨x.lv, x.ps.take 0, x.ks.take 0⟩ (.slice a1 0 c1) (.slice a2 0 c2) rfl rfl rfl nilN (.slice none 0 0) (.slice none 0 0) HR2.out ?_; intro y3 hu3 tx3 sx3))
  refine ret_node rfl (w.heap.size + 1) _ _ _ rfl hu3 rfl ?_
  refine ⟨_, _, by rw [HX.out], ?_, ?_, below_touched B2 tx3 (by omega) (Nat.le_refl _)⟩
  · rw [HX.out]
    have := HE.out.1.kept (y := y3) (fun k hk hl => tx3.block k hl (by omega) (by simp)) (by omega)
    rw [← List.map_take] at this
    exact this.mono (by omega)
  · rw [HX.out]
    have := HE.out.2.kept (y := y3) (fun k hk hl => tx3.block k hl (by omega) (by simp)) (by omega)
    rw [← List.map_take] at this
    exact this.mono (by omega)
set_option maxHeartbeats 8000000 in
set_option maxRecDepth 100000 in
theorem cut_ns (w : World) (x : Nod) (aq : Addr) (nq cq : Nat) (h : Parts w x (.slice none 0 0) (.slice (some aq) nq cq)) :
    Calls Try.prog 5 #[nv x (.slice none 0 0) (.slice (some aq) nq cq)] w (CutTo w x) := by
  obtain ⟨rp, hp, hrp⟩ := h.p
  obtain ⟨rq, hq, hrq⟩ := h.q
  have lnp : x.ps.length = 0 := by obtain ⟨_, _, e, _⟩ := hp; simp only [Value.slice.injEq, List.length_map] at e; exact e.2.1.symm
  have tmp : x.ps.take 20 = x.ps.take 0 := by rw [List.eq_nil_of_length_eq_zero lnp]; rfl
  have cnq : nq ≤ cq := by obtain ⟨_, _, e, h1, _⟩ := hq; cases e; exact h1
  have lnq : nq = x.ks.length := by obtain ⟨_, _, e, _⟩ := hq; cases e; simp
  obtain ⟨mq, hmq⟩ : ∃ mq : Nat, mq = min nq 20 := ⟨_, rfl⟩
  have imq : min (nq : Int) 20 = (mq : Int) := by rw [hmq]; exact min_20 _
  have kmq : (mq : Int) ≤ (cq : Int) := by omega
  have tmq : x.ks.take 20 = x.ks.take mq := by rw [hmq, lnq]; exact take_20 _
  have jmq : mq ≤ nq := by omega
  have qmq : mq ≤ 20 := by omega
  have HX : Hid (cutN x = ⟨x.lv, x.ps.take 0, x.ks.take mq⟩) := (show _ = _ by rw [cutN, tmp, tmq])
  have HP : Hid (∀ y, Below w.heap.size w y → CutArg y none 0 0 ((x.ps.map Pr.el).take 0)) := fun y hy => els_cut hp hrp (fun e => by rfl) (by omega) hy
  have HQ : Hid (∀ y, Below w.heap.size w y → CutArg y (some aq) mq cq ((x.ks.map Kd.el).take mq)) := fun y hy => els_cut hq hrq (fun e => by cases e) (by omega) hy
  have N0 : HasN ((w.alloc (.cells (nc x (.slice none 0 0) (.slice (some aq) nq cq)) 25)).alloc (.cells #[.int .i64 0, .slice none 0 0, .slice none 0 0] 25)) w.heap.size x (.slice none 0 0) (.slice (some aq) nq cq) := (HasN.new w x _ _ _ rfl rfl rfl).alloc _
  have R0 : HasN ((w.alloc (.cells (nc x (.slice none 0 0) (.slice (some aq) nq cq)) 25)).alloc (.cells #[.int .i64 0, .slice none 0 0, .slice none 0 0] 25)) (w.heap.size + 1) nilN (.slice none 0 0) (.slice none 0 0) := HasN.new _ nilN _ _ _ (by simp) rfl rfl
  have B0 : Below w.heap.size w ((w.alloc (.cells (nc x (.slice none 0 0) (.slice (some aq) nq cq)) 25)).alloc (.cells #[.int .i64 0, .slice none 0 0, .slice none 0 0] 25)) := ((Below.refl _ w).alloc (Nat.le_refl _) _).alloc (by simp) _
  have S0 : ((w.alloc (.cells (nc x (.slice none 0 0) (.slice (some aq) nq cq)) 25)).alloc (.cells #[.int .i64 0, .slice none 0 0, .slice none 0 0] 25)).heap.size = w.heap.size + 2 := by simp
  have m0 : min (0 : Int) 20 = 0 := by decide
  clear h hp hq hrp hrq tmp lnp hmq tmq lnq
  go_enter Try.func5, Try.ntmps5
  go_upto_region 1 with fail
  generalize (w.alloc (.cells (nc x (.slice none 0 0) (.slice (some aq) nq cq)) 25)).alloc (.cells #[.int .i64 0, .slice none 0 0, .slice none 0 0] 25) = W at *
  have k1 := fun o => (N0.alloc o).cells.2.1
  have HCA : Hid (CutArg (W.alloc (.cells #[] 44)) none 0 0 ((x.ps.map Pr.el).take 0)) := HP.out _ (B0.alloc B0.size (.cells #[] 44))
  have HS0 : Hid (W.heap.size = w.heap.size + 2) := S0
  clear S0
  have HN0 : Hid (HasN W w.heap.size x (.slice none 0 0) (.slice (some aq) nq cq)) := N0
  have HR0 : Hid (HasN W (w.heap.size + 1) nilN (.slice none 0 0) (.slice none 0 0)) := R0
  clear N0 R0
  go_upto_region 2 with (at_builtin; refine append_P rfl (.tmp 3) (.tmp 10) rfl W rfl rfl none 0 0 ((x.ps.map Pr.el).take 0) rfl HCA.out.len (by omega) HCA.out.ok HCA.out.at_ ?_; intro a1 c1 w1 en1 b1; have M1 := HN0.out.below b1 HN0.out.lt; have f1 := M1.free 1; have g1 := M1.cells.2.1)
  have S0 := HS0.out
  have N1 := M1.set1 (x.ps.take 0) (.slice a1 0 c1) rfl
  have s1 := b1.size
  have T1 : Touch w.heap.size none w1 (w1.setCell ⟨w.heap.size, 1, none⟩ (.slice a1 0 c1)) := touch_set _ _ _ _
  have E1 : ElsN (w1.setCell ⟨w.heap.size, 1, none⟩ (.slice a1 0 c1)) (.slice a1 0 c1) ((x.ps.map Pr.el).take 0) (w.heap.size + 2) := (en1.mono (by omega)).kept (fun k hk hl => T1.block k hl (by omega) (by simp)) T1.size
  have R1 : Hid (HasN (w1.setCell ⟨w.heap.size, 1, none⟩ (.slice a1 0 c1)) (w.heap.size + 1) nilN (.slice none 0 0) (.slice none 0 0)) := (HR0.out.below b1 HR0.out.lt).touch T1 (by omega)
  have B1 : Below w.heap.size w (w1.setCell ⟨w.heap.size, 1, none⟩ (.slice a1 0 c1)) := (B0.trans (b1.mono B0.size)).setCell (by simp) _
  have S1 : w.heap.size + 2 ≤ (w1.setCell ⟨w.heap.size, 1, none⟩ (.slice a1 0 c1)).heap.size := by have := T1.size; omega
  have HE1 : Hid (ElsN (w1.setCell ⟨w.heap.size, 1, none⟩ (.slice a1 0 c1)) (.slice a1 0 c1) ((x.ps.map Pr.el).take 0) (w.heap.size + 2)) := E1
  have HN1 : Hid (HasN (w1.setCell ⟨w.heap.size, 1, none⟩ (.slice a1 0 c1)) w.heap.size ⟨x.lv, x.ps.take 0, x.ks⟩ (.slice a1 0 c1) (.slice (some aq) nq cq)) := N1
  clear E1 N1 M1 f1 g1 en1 b1 T1 HN0 HR0 B0 k1 s1 S0
  generalize w1.setCell ⟨w.heap.size, 1, none⟩ (.slice a1 0 c1) = y1 at *
  have HCB : Hid (CutArg (y1.alloc (.cells #[] 54)) (some aq) mq cq ((x.ks.map Kd.el).take mq)) := HQ.out _ (B1.alloc B1.size (.cells #[] 54))
  have k2 := fun o => (HN1.out.alloc o).cells.2.2
  go_upto_region 3 with (at_builtin; refine append_K rfl (.tmp 13) (.tmp 20) rfl y1 rfl rfl (some aq) mq cq ((x.ks.map Kd.el).take mq) rfl HCB.out.len (by omega) HCB.out.ok HCB.out.at_ ?_; intro a2 c2 w2 en2 b2; have M2 := HN1.out.below b2 HN1.out.lt; have f2 := M2.free 2; have g2 := M2.cells.2.2)
  have N2 := M2.set2 (x.ks.take mq) (.slice a2 mq c2) rfl
  have T2 : Touch w.heap.size none w2 (w2.setCell ⟨w.heap.size, 2, none⟩ (.slice a2 mq c2)) := touch_set _ _ _ _
  have E2 : ElsN (w2.setCell ⟨w.heap.size, 2, none⟩ (.slice a2 mq c2)) (.slice a2 mq c2) ((x.ks.map Kd.el).take mq) (w.heap.size + 2) := (en2.mono S1).kept (fun k hk hl => T2.block k hl (by omega) (by simp)) T2.size
  have E1 : ElsN (w2.setCell ⟨w.heap.size, 2, none⟩ (.slice a2 mq c2)) (.slice a1 0 c1) ((x.ps.map Pr.el).take 0) (w.heap.size + 2) := (HE1.out.kept (fun k hk hl => b2.block k hl) b2.size).kept (fun k hk hl => T2.block k hl (by omega) (by simp)) T2.size
  have R2 : HasN (w2.setCell ⟨w.heap.size, 2, none⟩ (.slice a2 mq c2)) (w.heap.size + 1) nilN (.slice none 0 0) (.slice none 0 0) := (R1.out.below b2 R1.out.lt).touch T2 (by omega)
  have B2 : Below w.heap.size w (w2.setCell ⟨w.heap.size, 2, none⟩ (.slice a2 mq c2)) := (B1.trans (b2.mono B1.size)).setCell (by simp) _
  have HE : Hid (ElsN (w2.setCell ⟨w.heap.size, 2, none⟩ (.slice a2 mq c2)) (.slice a1 0 c1) ((x.ps.map Pr.el).take 0) (w.heap.size + 2) ∧ ElsN (w2.setCell ⟨w.heap.size, 2, none⟩ (.slice a2 mq c2)) (.slice a2 mq c2) ((x.ks.map Kd.el).take mq) (w.heap.size + 2)) := ⟨E1, E2⟩
  have HN2 : Hid (HasN (w2.setCell ⟨w.heap.size, 2, none⟩ (.slice a2 mq c2)) w.heap.size ⟨x.lv, x.ps.take 0, x.ks.take mq⟩ (.slice a1 0 c1) (.slice a2 mq c2)) := N2
  have HR2 : Hid (HasN (w2.setCell ⟨w.heap.size, 2, none⟩ (.slice a2 mq c2)) (w.heap.size + 1) nilN (.slice none 0 0) (.slice none 0 0)) := R2
  clear E1 E2 R2 N2 M2 f2 g2 en2 b2 T2 HN1 R1 B1 k2 HE1
  generalize w2.setCell ⟨w.heap.size, 2, none⟩ (.slice a2 mq c2) = y2 at *
  go_wp2_with (first
    | (refine load_node _ rfl w.heap.size rfl rfl _ _ _ HN2.out ?_)
    | (refine store_node rfl _ _ rfl (w.heap.size + 1) rfl ⟨x.lv, x.ps.take 0, x.ks.take mq⟩ (.slice a1 0 c1) (.slice a2 mq c2) rfl rfl rfl nilN (.slice none 0 0) (.slice none 0 0) HR2.out ?_; intro y3 hu3 tx3 sx3))
  refine ret_node rfl (w.heap.size + 1) _ _ _ rfl hu3 rfl ?_
  refine ⟨_, _, by rw [HX.out], ?_, ?_, below_touched B2 tx3 (by omega) (Nat.le_refl _)⟩
  · rw [HX.out]
    have := HE.out.1.kept (y := y3) (fun k hk hl => tx3.block k hl (by omega) (by simp)) (by omega)
    rw [← List.map_take] at this
    exact this.mono (by omega)
  · rw [HX.out]
    have := HE.out.2.kept (y := y3) (fun k hk hl => tx3.block k hl (by omega) (by simp)) (by omega)
    rw [← List.map_take] at this
    exact this.mono (by omega)
set_option maxHeartbeats 8000000 in
set_option maxRecDepth 100000 in
theorem cut_sn (w : World) (x : Nod) (ap : Addr) (np cp : Nat) (h : Parts w x (.slice (some ap) np cp) (.slice none 0 0)) :
    Calls Try.prog 5 #[nv x (.slice (some ap) np cp) (.slice none 0 0)] w (CutTo w x) := by
  obtain ⟨rp, hp, hrp⟩ := h.p
  obtain ⟨rq, hq, hrq⟩ := h.q
  have cnp : np ≤ cp := by obtain ⟨_, _, e, h1, _⟩ := hp; cases e; exact h1
  have lnp : np = x.ps.length := by obtain ⟨_, _, e, _⟩ := hp; cases e; simp
  obtain ⟨mp, hmp⟩ : ∃ mp : Nat, mp = min np 20 := ⟨_, rfl⟩
  have imp : min (np : Int) 20 = (mp : Int) := by rw [hmp]; exact min_20 _
  have kmp : (mp : Int) ≤ (cp : Int) := by omega
  have tmp : x.ps.take 20 = x.ps.take mp := by rw [hmp, lnp]; exact take_20 _
  have jmp : mp ≤ np := by omega
  have qmp : mp ≤ 20 := by omega
  have lnq : x.ks.length = 0 := by obtain ⟨_, _, e, _⟩ := hq; simp only [Value.slice.injEq, List.length_map] at e; exact e.2.1.symm
  have tmq : x.ks.take 20 = x.ks.take 0 := by rw [List.eq_nil_of_length_eq_zero lnq]; rfl
  have HX : Hid (cutN x = ⟨x.lv, x.ps.take mp, x.ks.take 0⟩) := (show _ = _ by rw [cutN, tmp, tmq])
  have HP : Hid (∀ y, Below w.heap.size w y → CutArg y (some ap) mp cp ((x.ps.map Pr.el).take mp)) := fun y hy => els_cut hp hrp (fun e => by cases e) (by omega) hy
  have HQ : Hid (∀ y, Below w.heap.size w y → CutArg y none 0 0 ((x.ks.map Kd.el).take 0)) := fun y hy => els_cut hq hrq (fun e => by rfl) (by omega) hy
  have N0 : HasN ((w.alloc (.cells (nc x (.slice (some ap) np cp) (.slice none 0 0)) 25)).alloc (.cells #[.int .i64 0, .slice none 0 0, .slice none 0 0] 25)) w.heap.size x (.slice (some ap) np cp) (.slice none 0 0) := (HasN.new w x _ _ _ rfl rfl rfl).alloc _
  have R0 : HasN ((w.alloc (.cells (nc x (.slice (some ap) np cp) (.slice none 0 0)) 25)).alloc (.cells #[.int .i64 0, .slice none 0 0, .slice none 0 0] 25)) (w.heap.size + 1) nilN (.slice none 0 0) (.slice none 0 0) := HasN.new _ nilN _ _ _ (by simp) rfl rfl
  have B0 : Below w.heap.size w ((w.alloc (.cells (nc x (.slice (some ap) np cp) (.slice none 0 0)) 25)).alloc (.cells #[.int .i64 0, .slice none 0 0, .slice none 0 0] 25)) := ((Below.refl _ w).alloc (Nat.le_refl _) _).alloc (by simp) _
  have S0 : ((w.alloc (.cells (nc x (.slice (some ap) np cp) (.slice none 0 0)) 25)).alloc (.cells #[.int .i64 0, .slice none 0 0, .slice none 0 0] 25)).heap.size = w.heap.size + 2 := by simp
  have m0 : min (0 : Int) 20 = 0 := by decide
  clear h hp hq hrp hrq hmp tmp lnp tmq lnq
  go_enter Try.func5, Try.ntmps5
  go_upto_region 1 with fail
  generalize (w.alloc (.cells (nc x (.slice (some ap) np cp) (.slice none 0 0)) 25)).alloc (.cells #[.int .i64 0, .slice none 0 0, .slice none 0 0] 25) = W at *
  have k1 := fun o => (N0.alloc o).cells.2.1
  have HCA : Hid (CutArg (W.alloc (.cells #[] 44)) (some ap) mp cp ((x.ps.map Pr.el).take mp)) := HP.out _ (B0.alloc B0.size (.cells #[] 44))
  have HS0 : Hid (W.heap.size = w.heap.size + 2) := S0
  clear S0
  have HN0 : Hid (HasN W w.heap.size x (.slice (some ap) np cp) (.slice none 0 0)) := N0
  have HR0 : Hid (HasN W (w.heap.size + 1) nilN (.slice none 0 0) (.slice none 0 0)) := R0
  clear N0 R0
  go_upto_region 2 with (at_builtin; refine append_P rfl (.tmp 3) (.tmp 10) rfl W rfl rfl (some ap) mp cp ((x.ps.map Pr.el).take mp) rfl HCA.out.len (by omega) HCA.out.ok HCA.out.at_ ?_; intro a1 c1 w1 en1 b1; have M1 := HN0.out.below b1 HN0.out.lt; have f1 := M1.free 1; have g1 := M1.cells.2.1)
  have S0 := HS0.out
  have N1 := M1.set1 (x.ps.take mp) (.slice a1 mp c1) rfl
  have s1 := b1.size
  have T1 : Touch w.heap.size none w1 (w1.setCell ⟨w.heap.size, 1, none⟩ (.slice a1 mp c1)) := touch_set _ _ _ _
  have E1 : ElsN (w1.setCell ⟨w.heap.size, 1, none⟩ (.slice a1 mp c1)) (.slice a1 mp c1) ((x.ps.map Pr.el).take mp) (w.heap.size + 2) := (en1.mono (by omega)).kept (fun k hk hl => T1.block k hl (by omega) (by simp)) T1.size
  have R1 : Hid (HasN (w1.setCell ⟨w.heap.size, 1, none⟩ (.slice a1 mp c1)) (w.heap.size + 1) nilN (.slice none 0 0) (.slice none 0 0)) := (HR0.out.below b1 HR0.out.lt).touch T1 (by omega)
  have B1 : Below w.heap.size w (w1.setCell ⟨w.heap.size, 1, none⟩ (.slice a1 mp c1)) := (B0.trans (b1.mono B0.size)).setCell (by simp) _
  have S1 : w.heap.size + 2 ≤ (w1.setCell ⟨w.heap.size, 1, none⟩ (.slice a1 mp c1)).heap.size := by have := T1.size; omega
  have HE1 : Hid (ElsN (w1.setCell ⟨w.heap.size, 1, none⟩ (.slice a1 mp c1)) (.slice a1 mp c1) ((x.ps.map Pr.el).take mp) (w.heap.size + 2)) := E1
  have HN1 : Hid (HasN (w1.setCell ⟨w.heap.size, 1, none⟩ (.slice a1 mp c1)) w.heap.size ⟨x.lv, x.ps.take mp, x.ks⟩ (.slice a1 mp c1) (.slice none 0 0)) := N1
  clear E1 N1 M1 f1 g1 en1 b1 T1 HN0 HR0 B0 k1 s1 S0
  generalize w1.setCell ⟨w.heap.size, 1, none⟩ (.slice a1 mp c1) = y1 at *
  have HCB : Hid (CutArg (y1.alloc (.cells #[] 54)) none 0 0 ((x.ks.map Kd.el).take 0)) := HQ.out _ (B1.alloc B1.size (.cells #[] 54))
  have k2 := fun o => (HN1.out.alloc o).cells.2.2
  go_upto_region 3 with (at_builtin; refine append_K rfl (.tmp 13) (.tmp 20) rfl y1 rfl rfl none 0 0 ((x.ks.map Kd.el).take 0) rfl HCB.out.len (by omega) HCB.out.ok HCB.out.at_ ?_; intro a2 c2 w2 en2 b2; have M2 := HN1.out.below b2 HN1.out.lt; have f2 := M2.free 2; have g2 := M2.cells.2.2)
  have N2 := M2.set2 (x.ks.take 0) (.slice a2 0 c2) rfl
  have T2 : Touch w.heap.size none w2 (w2.setCell ⟨w.heap.size, 2, none⟩ (.slice a2 0 c2)) := touch_set _ _ _ _
  have E2 : ElsN (w2.setCell ⟨w.heap.size, 2, none⟩ (.slice a2 0 c2)) (.slice a2 0 c2) ((x.ks.map Kd.el).take 0) (w.heap.size + 2) := (en2.mono S1).kept (fun k hk hl => T2.block k hl (by omega) (by simp)) T2.size
  have E1 : ElsN (w2.setCell ⟨w.heap.size, 2, none⟩ (.slice a2 0 c2)) (.slice a1 mp c1) ((x.ps.map Pr.el).take mp) (w.heap.size + 2) := (HE1.out.kept (fun k hk hl => b2.block k hl) b2.size).kept (fun k hk hl => T2.block k hl (by omega) (by simp)) T2.size
  have R2 : HasN (w2.setCell ⟨w.heap.size, 2, none⟩ (.slice a2 0 c2)) (w.heap.size + 1) nilN (.slice none 0 0) (.slice none 0 0) := (R1.out.below b2 R1.out.lt).touch T2 (by omega)
  have B2 : Below w.heap.size w (w2.setCell ⟨w.heap.size, 2, none⟩ (.slice a2 0 c2)) := (B1.trans (b2.mono B1.size)).setCell (by simp) _
  have HE : Hid (ElsN (w2.setCell ⟨w.heap.size, 2, none⟩ (.slice a2 0 c2)) (.slice a1 mp c1) ((x.ps.map Pr.el).take mp) (w.heap.size + 2) ∧ ElsN (w2.setCell ⟨w.heap.size, 2, none⟩ (.slice a2 0 c2)) (.slice a2 0 c2) ((x.ks.map Kd.el).take 0) (w.heap.size + 2)) := ⟨E1, E2⟩
  have HN2 : Hid (HasN (w2.setCell ⟨w.heap.size, 2, none⟩ (.slice a2 0 c2)) w.heap.size ⟨x.lv, x.ps.take mp, x.ks.take 0⟩ (.slice a1 mp c1) (.slice a2 0 c2)) := N2
  have HR2 : Hid (HasN (w2.setCell ⟨w.heap.size, 2, none⟩ (.slice a2 0 c2)) (w.heap.size + 1) nilN (.slice none 0 0) (.slice none 0 0)) := R2
  clear E1 E2 R2 N2 M2 f2 g2 en2 b2 T2 HN1 R1 B1 k2 HE1
  generalize w2.setCell ⟨w.heap.size, 2, none⟩ (.slice a2 0 c2) = y2 at *
  go_wp2_with (first
    | (refine load_node _ rfl w.heap.size rfl rfl _ _ _ HN2.out ?_)
    | (refine store_node rfl _ _ rfl (w.heap.size + 1) rfl ⟨x.lv, x.ps.take mp, x.ks.take 0⟩ (.slice a1 mp c1) (.slice a2 0 c2) rfl rfl rfl nilN (.slice none 0 0) (.slice none 0 0) HR2.out ?_; intro y3 hu3 tx3 sx3))
  refine ret_node rfl (w.heap.size + 1) _ _ _ rfl hu3 rfl ?_
  refine ⟨_, _, by rw [HX.out], ?_, ?_, below_touched B2 tx3 (by omega) (Nat.le_refl _)⟩
  · rw [HX.out]
    have := HE.out.1.kept (y := y3) (fun k hk hl => tx3.block k hl (by omega) (by simp)) (by omega)
    rw [← List.map_take] at this
    exact this.mono (by omega)
  · rw [HX.out]
    have := HE.out.2.kept (y := y3) (fun k hk hl => tx3.block k hl (by omega) (by simp)) (by omega)
    rw [← List.map_take] at this
    exact this.mono (by omega)
set_option maxHeartbeats 8000000 in
set_option maxRecDepth 100000 in
theorem cut_ss (w : World) (x : Nod) (ap : Addr) (np cp : Nat) (aq : Addr) (nq cq : Nat) (h : Parts w x (.slice (some ap) np cp) (.slice (some aq) nq cq)) :
    Calls Try.prog 5 #[nv x (.slice (some ap) np cp) (.slice (some aq) nq cq)] w (CutTo w x) := by
  obtain ⟨rp, hp, hrp⟩ := h.p
  obtain ⟨rq, hq, hrq⟩ := h.q
  have cnp : np ≤ cp := by obtain ⟨_, _, e, h1, _⟩ := hp; cases e; exact h1
  have lnp : np = x.ps.length := by obtain ⟨_, _, e, _⟩ := hp; cases e; simp
  obtain ⟨mp, hmp⟩ : ∃ mp : Nat, mp = min np 20 := ⟨_, rfl⟩
  have imp : min (np : Int) 20 = (mp : Int) := by rw [hmp]; exact min_20 _
  have kmp : (mp : Int) ≤ (cp : Int) := by omega
  have tmp : x.ps.take 20 = x.ps.take mp := by rw [hmp, lnp]; exact take_20 _
  have jmp : mp ≤ np := by omega
  have qmp : mp ≤ 20 := by omega
  have cnq : nq ≤ cq := by obtain ⟨_, _, e, h1, _⟩ := hq; cases e; exact h1
  have lnq : nq = x.ks.length := by obtain ⟨_, _, e, _⟩ := hq; cases e; simp
  obtain ⟨mq, hmq⟩ : ∃ mq : Nat, mq = min nq 20 := ⟨_, rfl⟩
  have imq : min (nq : Int) 20 = (mq : Int) := by rw [hmq]; exact min_20 _
  have kmq : (mq : Int) ≤ (cq : Int) := by omega
  have tmq : x.ks.take 20 = x.ks.take mq := by rw [hmq, lnq]; exact take_20 _
  have jmq : mq ≤ nq := by omega
  have qmq : mq ≤ 20 := by omega
  have HX : Hid (cutN x = ⟨x.lv, x.ps.take mp, x.ks.take mq⟩) := (show _ = _ by rw [cutN, tmp, tmq])
  have HP : Hid (∀ y, Below w.heap.size w y → CutArg y (some ap) mp cp ((x.ps.map Pr.el).take mp)) := fun y hy => els_cut hp hrp (fun e => by cases e) (by omega) hy
  have HQ : Hid (∀ y, Below w.heap.size w y → CutArg y (some aq) mq cq ((x.ks.map Kd.el).take mq)) := fun y hy => els_cut hq hrq (fun e => by cases e) (by omega) hy
  have N0 : HasN ((w.alloc (.cells (nc x (.slice (some ap) np cp) (.slice (some aq) nq cq)) 25)).alloc (.cells #[.int .i64 0, .slice none 0 0, .slice none 0 0] 25)) w.heap.size x (.slice (some ap) np cp) (.slice (some aq) nq cq) := (HasN.new w x _ _ _ rfl rfl rfl).alloc _
  have R0 : HasN ((w.alloc (.cells (nc x (.slice (some ap) np cp) (.slice (some aq) nq cq)) 25)).alloc (.cells #[.int .i64 0, .slice none 0 0, .slice none 0 0] 25)) (w.heap.size + 1) nilN (.slice none 0 0) (.slice none 0 0) := HasN.new _ nilN _ _ _ (by simp) rfl rfl
  have B0 : Below w.heap.size w ((w.alloc (.cells (nc x (.slice (some ap) np cp) (.slice (some aq) nq cq)) 25)).alloc (.cells #[.int .i64 0, .slice none 0 0, .slice none 0 0] 25)) := ((Below.refl _ w).alloc (Nat.le_refl _) _).alloc (by simp) _
  have S0 : ((w.alloc (.cells (nc x (.slice (some ap) np cp) (.slice (some aq) nq cq)) 25)).alloc (.cells #[.int .i64 0, .slice none 0 0, .slice none 0 0] 25)).heap.size = w.heap.size + 2 := by simp
  have m0 : min (0 : Int) 20 = 0 := by decide
  clear h hp hq hrp hrq hmp tmp lnp hmq tmq lnq
  go_enter Try.func5, Try.ntmps5
  go_upto_region 1 with fail
  generalize (w.alloc (.cells (nc x (.slice (some ap) np cp) (.slice (some aq) nq cq)) 25)).alloc (.cells #[.int .i64 0, .slice none 0 0, .slice none 0 0] 25) = W at *
  have k1 := fun o => (N0.alloc o).cells.2.1
  have HCA : Hid (CutArg (W.alloc (.cells #[] 44)) (some ap) mp cp ((x.ps.map Pr.el).take mp)) := HP.out _ (B0.alloc B0.size (.cells #[] 44))
  have HS0 : Hid (W.heap.size = w.heap.size + 2) := S0
  clear S0
  have HN0 : Hid (HasN W w.heap.size x (.slice (some ap) np cp) (.slice (some aq) nq cq)) := N0
  have HR0 : Hid (HasN W (w.heap.size + 1) nilN (.slice none 0 0) (.slice none 0 0)) := R0
  clear N0 R0
  go_upto_region 2 with (at_builtin; refine append_P rfl (.tmp 3) (.tmp 10) rfl W rfl rfl (some ap) mp cp ((x.ps.map Pr.el).take mp) rfl HCA.out.len (by omega) HCA.out.ok HCA.out.at_ ?_; intro a1 c1 w1 en1 b1; have M1 := HN0.out.below b1 HN0.out.lt; have f1 := M1.free 1; have g1 := M1.cells.2.1)
  have S0 := HS0.out
  have N1 := M1.set1 (x.ps.take mp) (.slice a1 mp c1) rfl
  have s1 := b1.size
  have T1 : Touch w.heap.size none w1 (w1.setCell ⟨w.heap.size, 1, none⟩ (.slice a1 mp c1)) := touch_set _ _ _ _
  have E1 : ElsN (w1.setCell ⟨w.heap.size, 1, none⟩ (.slice a1 mp c1)) (.slice a1 mp c1) ((x.ps.map Pr.el).take mp) (w.heap.size + 2) := (en1.mono (by omega)).kept (fun k hk hl => T1.block k hl (by omega) (by simp)) T1.size
  have R1 : Hid (HasN (w1.setCell ⟨w.heap.size, 1, none⟩ (.slice a1 mp c1)) (w.heap.size + 1) nilN (.slice none 0 0) (.slice none 0 0)) := (HR0.out.below b1 HR0.out.lt).touch T1 (by omega)
  have B1 : Below w.heap.size w (w1.setCell ⟨w.heap.size, 1, none⟩ (.slice a1 mp c1)) := (B0.trans (b1.mono B0.size)).setCell (by simp) _
  have S1 : w.heap.size + 2 ≤ (w1.setCell ⟨w.heap.size, 1, none⟩ (.slice a1 mp c1)).heap.size := by have := T1.size; omega
  have HE1 : Hid (ElsN (w1.setCell ⟨w.heap.size, 1, none⟩ (.slice a1 mp c1)) (.slice a1 mp c1) ((x.ps.map Pr.el).take mp) (w.heap.size + 2)) := E1
  have HN1 : Hid (HasN (w1.setCell ⟨w.heap.size, 1, none⟩ (.slice a1 mp c1)) w.heap.size ⟨x.lv, x.ps.take mp, x.ks⟩ (.slice a1 mp c1) (.slice (some aq) nq cq)) := N1
  clear E1 N1 M1 f1 g1 en1 b1 T1 HN0 HR0 B0 k1 s1 S0
  generalize w1.setCell ⟨w.heap.size, 1, none⟩ (.slice a1 mp c1) = y1 at *
  have HCB : Hid (CutArg (y1.alloc (.cells #[] 54)) (some aq) mq cq ((x.ks.map Kd.el).take mq)) := HQ.out _ (B1.alloc B1.size (.cells #[] 54))
  have k2 := fun o => (HN1.out.alloc o).cells.2.2
  go_upto_region 3 with (at_builtin; refine append_K rfl (.tmp 13) (.tmp 20) rfl y1 rfl rfl (some aq) mq cq ((x.ks.map Kd.el).take mq) rfl HCB.out.len (by omega) HCB.out.ok HCB.out.at_ ?_; intro a2 c2 w2 en2 b2; have M2 := HN1.out.below b2 HN1.out.lt; have f2 := M2.free 2; have g2 := M2.cells.2.2)
  have N2 := M2.set2 (x.ks.take mq) (.slice a2 mq c2) rfl
  have T2 : Touch w.heap.size none w2 (w2.setCell ⟨w.heap.size, 2, none⟩ (.slice a2 mq c2)) := touch_set _ _ _ _
  have E2 : ElsN (w2.setCell ⟨w.heap.size, 2, none⟩ (.slice a2 mq c2)) (.slice a2 mq c2) ((x.ks.map Kd.el).take mq) (w.heap.size + 2) := (en2.mono S1).kept (fun k hk hl => T2.block k hl (by omega) (by simp)) T2.size
  have E1 : ElsN (w2.setCell ⟨w.heap.size, 2, none⟩ (.slice a2 mq c2)) (.slice a1 mp c1) ((x.ps.map Pr.el).take mp) (w.heap.size + 2) := (HE1.out.kept (fun k hk hl => b2.block k hl) b2.size).kept (fun k hk hl => T2.block k hl (by omega) (by simp)) T2.size
  have R2 : HasN (w2.setCell ⟨w.heap.size, 2, none⟩ (.slice a2 mq c2)) (w.heap.size + 1) nilN (.slice none 0 0) (.slice none 0 0) := (R1.out.below b2 R1.out.lt).touch T2 (by omega)
  have B2 : Below w.heap.size w (w2.setCell ⟨w.heap.size, 2, none⟩ (.slice a2 mq c2)) := (B1.trans (b2.mono B1.size)).setCell (by simp) _
  have HE : Hid (ElsN (w2.setCell ⟨w.heap.size, 2, none⟩ (.slice a2 mq c2)) (.slice a1 mp c1) ((x.ps.map Pr.el).take mp) (w.heap.size + 2) ∧ ElsN (w2.setCell ⟨w.heap.size, 2, none⟩ (.slice a2 mq c2)) (.slice a2 mq c2) ((x.ks.map Kd.el).take mq) (w.heap.size + 2)) := ⟨E1, E2⟩
  have HN2 : Hid (HasN (w2.setCell ⟨w.heap.size, 2, none⟩ (.slice a2 mq c2)) w.heap.size ⟨x.lv, x.ps.take mp, x.ks.take mq⟩ (.slice a1 mp c1) (.slice a2 mq c2)) := N2
  have HR2 : Hid (HasN (w2.setCell ⟨w.heap.size, 2, none⟩ (.slice a2 mq c2)) (w.heap.size + 1) nilN (.slice none 0 0) (.slice none 0 0)) := R2
  clear E1 E2 R2 N2 M2 f2 g2 en2 b2 T2 HN1 R1 B1 k2 HE1
  generalize w2.setCell ⟨w.heap.size, 2, none⟩ (.slice a2 mq c2) = y2 at *
  go_wp2_with (first
    | (refine load_node _ rfl w.heap.size rfl rfl _ _ _ HN2.out ?_)
    | (refine store_node rfl _ _ rfl (w.heap.size + 1) rfl ⟨x.lv, x.ps.take mp, x.ks.take mq⟩ (.slice a1 mp c1) (.slice a2 mq c2) rfl rfl rfl nilN (.slice none 0 0) (.slice none 0 0) HR2.out ?_; intro y3 hu3 tx3 sx3))
  refine ret_node rfl (w.heap.size + 1) _ _ _ rfl hu3 rfl ?_
  refine ⟨_, _, by rw [HX.out], ?_, ?_, below_touched B2 tx3 (by omega) (Nat.le_refl _)⟩
  · rw [HX.out]
    have := HE.out.1.kept (y := y3) (fun k hk hl => tx3.block k hl (by omega) (by simp)) (by omega)
    rw [← List.map_take] at this
    exact this.mono (by omega)
  · rw [HX.out]
    have := HE.out.2.kept (y := y3) (fun k hk hl => tx3.block k hl (by omega) (by simp)) (by omega)
    rw [← List.map_take] at this
    exact this.mono (by omega)
theorem cut_calls (w : World) (x : Nod) (pv qv : Value) (h : Parts w x pv qv) (h1 : NilOk pv) (h2 : NilOk qv) : Calls Try.prog 5 #[nv x pv qv] w (CutTo w x) := by
  obtain ⟨ap, cp, rfl⟩ := h.lenP
  obtain ⟨aq, cq, rfl⟩ := h.lenQ
  have zP : ap = none → x.ps.length = 0 := fun e => by
    subst e
    obtain ⟨r, ⟨ad, cap, e, _, _, _, hin⟩, _⟩ := h.p
    simp only [Value.slice.injEq] at e
    rcases hin with q | ⟨g, off, q, _⟩
    · simpa using q
    · rw [← e.1] at q; cases q
  have zQ : aq = none → x.ks.length = 0 := fun e => by
    subst e
    obtain ⟨r, ⟨ad, cap, e, _, _, _, hin⟩, _⟩ := h.q
    simp only [Value.slice.injEq] at e
    rcases hin with q | ⟨g, off, q, _⟩
    · simpa using q
    · rw [← e.1] at q; cases q
  cases ap with
  | none =>
    have c0 : cp = 0 := h1 _ _ rfl
    subst c0
    rw [zP rfl] at h ⊢
    cases aq with
    | none =>
      have c1 : cq = 0 := h2 _ _ rfl
      subst c1
      rw [zQ rfl] at h ⊢
      exact cut_nn w x h
    | some aq => exact cut_ns w x aq _ cq h
  | some ap =>
    cases aq with
    | none =>
      have c1 : cq = 0 := h2 _ _ rfl
      subst c1
      rw [zQ rfl] at h ⊢
      exact cut_sn w x ap _ cp h
    | some aq => exact cut_ss w x ap _ cp aq _ cq h
end Go.Proofs.Ytggbnacpgkbieaa
