/- When is a node right? -/
import Derived.Test.YtggbnacpgkbieaaNodC
namespace Go.Proofs.Ytggbnacpgkbieaa
set_option linter.unusedVariables false
open Go.RowKit

def okPairs (l : List Pr) : Bool := decide (1 ≤ l.length) && decide (l.length ≤ 7) && !anyP l && rises (l.map Pr.k)
def okKids (l : List Kd) : Bool := decide (2 ≤ l.length) && decide (l.length ≤ 18) && !anyK l && rises (l.map Kd.k) && apart l
def rightN (x : Nod) : Bool := if x.lv < 0 ∨ 12 ≤ x.lv then false else if x.lv = 0 then decide (x.ks.length = 0) && okPairs x.ps else decide (x.ps.length = 0) && okKids x.ks
theorem map_keyP (l : List Pr) : (l.map Pr.el).map El.k = l.map Pr.k := by simp [Pr.el]
theorem map_keyK (l : List Kd) : (l.map Kd.el).map El.k = l.map Kd.k := by simp [Kd.el]

set_option maxHeartbeats 4000000 in
set_option maxRecDepth 100000 in
theorem arePairs_calls (w : World) (sv : Value) (l : List Pr) (h : Els w sv (l.map Pr.el)) :
    Calls Try.prog 45 #[sv] w fun e w' => e = .returned (.bool (okPairs l)) ∧ Below w.heap.size w w' := by
  have hsl : ∃ ad cap, sv = .slice ad l.length cap := by obtain ⟨r, ⟨ad, cap, e, _⟩, _⟩ := h; exact ⟨ad, cap, by simpa using e⟩
  have hA : Calls Try.prog 56 #[sv, .func (Fn.func 55) #[] #[]] w fun e w' => e = .returned (.bool (anyP l)) ∧ Below w.heap.size w w' := by obtain ⟨r, h1, _⟩ := h; exact containsP_calls w sv l r h1
  have hB : ∀ y, Below w.heap.size w y → Calls Try.prog 57 #[sv, .func (Fn.func 20) #[] #[]] y fun e w' => e = .returned (.bool (rises (l.map Pr.k))) ∧ Below y.heap.size y w' := fun y hy => by
    obtain ⟨r, h1, _⟩ := h.below hy
    have := riseP_calls y sv _ r h1
    rwa [map_keyP] at this
  have HB : Hid (∀ y, Below w.heap.size w y → Calls Try.prog 57 #[sv, .func (Fn.func 20) #[] #[]] y fun e w' => e = .returned (.bool (rises (l.map Pr.k))) ∧ Below y.heap.size y w') := hB
  have HO : Hid (okPairs l = (decide (1 ≤ l.length) && decide (l.length ≤ 7) && !anyP l && rises (l.map Pr.k))) := rfl
  obtain ⟨ad, cap, rfl⟩ := hsl
  clear h hB
  generalize hN : l.length = N at *
  have HN : Hid (l.length = N) := hN
  clear hN
  by_cases h1 : 1 ≤ N
  rotate_left
  · have q1 : ¬ (1 : Int) ≤ (N : Int) := by omega
    go_enter Try.func45, Try.ntmps45
    go_wp2_with fail
    go_ret
    exact ⟨by rw [HO.out, decide_eq_false h1]; rfl, Below.refl _ _⟩
  have q1 : (1 : Int) ≤ (N : Int) := by omega
  by_cases h2 : N ≤ 7
  rotate_left
  · have q2 : ¬ (N : Int) ≤ 7 := by omega
    go_enter Try.func45, Try.ntmps45
    go_wp2_with fail
    go_ret
    exact ⟨by rw [HO.out, decide_eq_false h2]; simp <;> rfl, Below.refl _ _⟩
  have q2 : (N : Int) ≤ 7 := by omega
  cases h3 : anyP l with
  | true =>
    rw [h3] at hA
    go_enter Try.func45, Try.ntmps45
    go_wp2_with (go_at_call 56; refine hA.mono ?_; rintro e w1 ⟨rfl, b1⟩)
    go_ret
    exact ⟨by rw [HO.out, h3]; simp <;> rfl, b1⟩
  | false =>
    rw [h3] at hA
    go_enter Try.func45, Try.ntmps45
    go_wp2_with (first
      | (go_at_call 56; refine hA.mono ?_; rintro e w1 ⟨rfl, b1⟩)
      | (go_at_call 57; refine (HB.out _ b1).mono ?_; rintro e w2 ⟨rfl, b2⟩))
    go_ret
    exact ⟨by rw [HO.out, h3, decide_eq_true h1, decide_eq_true h2]; simp <;> rfl, b1.trans (b2.mono b1.size)⟩

set_option maxHeartbeats 4000000 in
set_option maxRecDepth 100000 in
theorem areKids_calls (w : World) (sv : Value) (l : List Kd) (h : Els w sv (l.map Kd.el)) :
    Calls Try.prog 46 #[sv] w fun e w' => e = .returned (.bool (okKids l)) ∧ Below w.heap.size w w' := by
  have hsl : ∃ ad cap, sv = .slice ad l.length cap := by obtain ⟨r, ⟨ad, cap, e, _⟩, _⟩ := h; exact ⟨ad, cap, by simpa using e⟩
  have hA : Calls Try.prog 59 #[sv, .func (Fn.func 58) #[] #[]] w fun e w' => e = .returned (.bool (anyK l)) ∧ Below w.heap.size w w' := by obtain ⟨r, h1, _⟩ := h; exact containsK_calls w sv l r h1
  have hB : ∀ y, Below w.heap.size w y → Calls Try.prog 60 #[sv, .func (Fn.func 24) #[] #[]] y fun e w' => e = .returned (.bool (rises (l.map Kd.k))) ∧ Below y.heap.size y w' := fun y hy => by
    obtain ⟨r, h1, _⟩ := h.below hy
    have := riseK_calls y sv _ r h1
    rwa [map_keyK] at this
  have hC : ∀ y, Below w.heap.size w y → Calls Try.prog 61 #[sv] y fun e w' => e = .returned (.bool (apart l)) ∧ Below y.heap.size y w' := fun y hy => apart_calls y sv l (h.below hy)
  have HB : Hid (∀ y, Below w.heap.size w y → Calls Try.prog 60 #[sv, .func (Fn.func 24) #[] #[]] y fun e w' => e = .returned (.bool (rises (l.map Kd.k))) ∧ Below y.heap.size y w') := hB
  have HC : Hid (∀ y, Below w.heap.size w y → Calls Try.prog 61 #[sv] y fun e w' => e = .returned (.bool (apart l)) ∧ Below y.heap.size y w') := hC
  have HO : Hid (okKids l = (decide (2 ≤ l.length) && decide (l.length ≤ 18) && !anyK l && rises (l.map Kd.k) && apart l)) := rfl
  obtain ⟨ad, cap, rfl⟩ := hsl
  clear h hB hC
  generalize hN : l.length = N at *
  have HN : Hid (l.length = N) := hN
  clear hN
  by_cases h1 : 2 ≤ N
  rotate_left
  · have q1 : ¬ (2 : Int) ≤ (N : Int) := by omega
    go_enter Try.func46, Try.ntmps46
    go_wp2_with fail
    go_ret
    exact ⟨by rw [HO.out, decide_eq_false h1]; rfl, Below.refl _ _⟩
  have q1 : (2 : Int) ≤ (N : Int) := by omega
  by_cases h2 : N ≤ 18
  rotate_left
  · have q2 : ¬ (N : Int) ≤ 18 := by omega
    go_enter Try.func46, Try.ntmps46
    go_wp2_with fail
    go_ret
    exact ⟨by rw [HO.out, decide_eq_false h2]; simp <;> rfl, Below.refl _ _⟩
  have q2 : (N : Int) ≤ 18 := by omega
  cases h3 : anyK l with
  | true =>
    rw [h3] at hA
    go_enter Try.func46, Try.ntmps46
    go_wp2_with (go_at_call 59; refine hA.mono ?_; rintro e w1 ⟨rfl, b1⟩)
    go_ret
    exact ⟨by rw [HO.out, h3]; simp <;> rfl, b1⟩
  | false =>
    rw [h3] at hA
    cases h4 : rises (l.map Kd.k) with
    | false =>
      go_enter Try.func46, Try.ntmps46
      go_wp2_with (first
        | (go_at_call 59; refine hA.mono ?_; rintro e w1 ⟨rfl, b1⟩)
        | (go_at_call 60; refine (HB.out _ b1).mono ?_; rintro e w2 ⟨rfl, b2⟩; rw [h4]))
      go_ret
      exact ⟨by rw [HO.out, h3, h4]; simp <;> rfl, b1.trans (b2.mono b1.size)⟩
    | true =>
      go_enter Try.func46, Try.ntmps46
      go_wp2_with (first
        | (go_at_call 59; refine hA.mono ?_; rintro e w1 ⟨rfl, b1⟩)
        | (go_at_call 60; refine (HB.out _ b1).mono ?_; rintro e w2 ⟨rfl, b2⟩; rw [h4]; have b12 := Below.trans b1 (b2.mono b1.size))
        | (go_at_call 61; refine (HC.out _ b12).mono ?_; rintro e w3 ⟨rfl, b3⟩))
      go_ret
      exact ⟨by rw [HO.out, h3, h4, decide_eq_true h1, decide_eq_true h2]; simp <;> rfl, b12.trans (b3.mono b12.size)⟩

/-- A node in block b; its slices are pv and qv. -/
abbrev nc (x : Nod) (pv qv : Value) : Array Value := #[.int .i64 x.lv, pv, qv]
abbrev nv (x : Nod) (pv qv : Value) : Value := .agg (nc x pv qv)
def HasN (w : World) (b : Nat) (x : Nod) (pv qv : Value) : Prop := w.heap[b]? = some (.cells (nc x pv qv) 25 (0, 0)) ∧ pv.oneCell' = true ∧ qv.oneCell' = true
theorem Try.node_info : (Try.prog.info? 25).map (·.size) = some 3 := by kernel_rfl
def nilN : Nod := ⟨0, [], []⟩
section
variable {w w' : World} {b : Nat} {x : Nod} {pv qv : Value}
theorem HasN.lt (h : HasN w b x pv qv) : b < w.heap.size := lt_of_block h.1
theorem HasN.same (h : HasN w b x pv qv) (e : w'.heap[b]? = w.heap[b]?) : HasN w' b x pv qv := ⟨e.trans h.1, h.2⟩
theorem HasN.below {B : Nat} (h : HasN w b x pv qv) (hb : Below B w w') (hB : b < B) : HasN w' b x pv qv := h.same (hb.block b hB)
theorem HasN.touch {p : Nat} (h : HasN w b x pv qv) (ht : Touch p none w w') (hp : b ≠ p) : HasN w' b x pv qv := h.same (ht.block b h.lt hp (by simp))
theorem HasN.alloc (h : HasN w b x pv qv) (o : Obj) : HasN (w.alloc o) b x pv qv := h.same (Below.heap_alloc _ _ _ h.lt)
theorem HasN.new (w : World) (x : Nod) (pv qv : Value) (b : Nat) (hb : b = w.heap.size) (h1 : pv.oneCell' = true) (h2 : qv.oneCell' = true) : HasN (w.alloc (.cells (nc x pv qv) 25)) b x pv qv := by
  subst hb
  exact ⟨heap_alloc_new _ _, h1, h2⟩
theorem HasN.cells (h : HasN w b x pv qv) : w.cell? ⟨b, 0, none⟩ = some (.int .i64 x.lv) ∧ w.cell? ⟨b, 1, none⟩ = some pv ∧ w.cell? ⟨b, 2, none⟩ = some qv := by
  refine ⟨?_, ?_, ?_⟩ <;> rw [cell_of_row w b _ _ _ _ h.1] <;> rfl
theorem HasN.free (h : HasN w b x pv qv) (j : Nat) : w.frozen? ⟨b, j, none⟩ = false := by simp [World.frozen?, h.1]
theorem HasN.range (h : HasN w b x pv qv) : w.rangeAt b 0 [.int .i64 x.lv, pv, qv] := fun j v hj => by
  rw [Nat.zero_add, cell_of_row w b _ _ _ _ h.1]
  simpa using hj
end
theorem nc_all (x : Nod) (pv qv : Value) (h1 : pv.oneCell' = true) (h2 : qv.oneCell' = true) : (nc x pv qv).all (·.oneCell') = true := by
  refine all_oneCell_toArray (cs := [_, pv, qv]) ?_
  intro u hu
  simp only [List.mem_cons, List.not_mem_nil, or_false] at hu
  rcases hu with rfl | rfl | rfl
  · rfl
  · exact h1
  · exact h2
section
variable {ops : Array Oper} {rest : List Oper} {o : Oper} {a : Act} {w : World} {Q : Exit → Act → World → Prop}
theorem load_node (x : Operand) (ho : o.op = .load 25 x) (b : Nat) (hx : a.eval x = .pointer (some ⟨b, 0, none⟩)) (hgd : Region.wanted o (yielded ops a.tmps) = true) (X : Nod) (pv qv : Value) (hF : HasN w b X pv qv)
    (h : wpList Try.prog ops Q rest (a.put o.dst (nv X pv qv)) w) : wpList Try.prog ops Q (o :: rest) a w :=
  BigFrame.wpList_want hgd fun _ hK' => wp_load_row _ x ho b hx _ _ _ _ hF.1 Try.underlying25 rfl Try.node_info (hK' _ _ h)
theorem store_node (hgd : o.guard = none) (x y : Operand) (ho : o.op = .store 25 x y) (b : Nat) (hx : a.eval x = .pointer (some ⟨b, 0, none⟩)) (T : Nod) (tp tq : Value) (hy : a.eval y = nv T tp tq) (h1 : tp.oneCell' = true) (h2 : tq.oneCell' = true) (X : Nod) (pv qv : Value) (hF : HasN w b X pv qv)
    (h : ∀ w', HasN w' b T tp tq → Touch b none w w' → w'.heap.size = w.heap.size → wpList Try.prog ops Q rest (a.put o.dst undef) w') : wpList Try.prog ops Q (o :: rest) a w :=
  wpList_store_row hgd _ x y ho b _ hx hy _ _ hF.1 Try.node_info rfl (nc_all _ _ _ h1 h2) (h _ ⟨setRow_heap w b _ _ _ _ hF.1, h1, h2⟩ (touch_setRow _ _ _) (by simp))
end
theorem ret_node_ok {fn : Func} {R : Ending → World → Prop} {a : Act} {w : World} {p u : Tmp} (hr : fn.results = #[.cell p 25, .tmp u]) (b : Nat) (X : Nod) (pv qv : Value) (v : Value) (hp : a.tmps.getD p undef = .pointer (some ⟨b, 0, none⟩)) (hv : a.tmps.getD u undef = v) (hF : HasN w b X pv qv)
    (hd : a.defers = []) (hR : R (.returned (.tuple #[nv X pv qv, v])) w) : bodyPost Try.prog fn R .ret a w := by
  refine bodyPost_ret (v := .tuple #[nv X pv qv, v]) ?_ hd hR
  have hl := run_loadVar_row (P := Try.prog) w b 25 25 _ _ _ hF.1 Try.underlying25 rfl Try.node_info
  rw [results_cell_tmp hr, hp, hv]
  simp [asAddr, Result.andThen, hl]
theorem ret_node {fn : Func} {R : Ending → World → Prop} {a : Act} {w : World} {p : Tmp} (hr : fn.results = #[.cell p 25]) (b : Nat) (X : Nod) (pv qv : Value) (hp : a.tmps.getD p undef = .pointer (some ⟨b, 0, none⟩)) (hF : HasN w b X pv qv)
    (hd : a.defers = []) (hR : R (.returned (nv X pv qv)) w) : bodyPost Try.prog fn R .ret a w :=
  bodyPost_ret (results_cell_row hr _ w b _ _ _ _ hp hF.1 Try.underlying25 rfl Try.node_info) hd hR
/-- What a node's slices are. -/
structure Parts (w : World) (x : Nod) (pv qv : Value) : Prop where
  p : Els w pv (x.ps.map Pr.el)
  q : Els w qv (x.ks.map Kd.el)
theorem Parts.below {w y : World} {x : Nod} {pv qv : Value} (h : Parts w x pv qv) (b : Below w.heap.size w y) : Parts y x pv qv := ⟨h.p.below b, h.q.below b⟩
theorem Parts.lenP {w : World} {x : Nod} {pv qv : Value} (h : Parts w x pv qv) : ∃ a c, pv = .slice a x.ps.length c := by
  obtain ⟨r, ⟨ad, cap, e, _⟩, _⟩ := h.p
  exact ⟨ad, cap, by simpa using e⟩
theorem Parts.lenQ {w : World} {x : Nod} {pv qv : Value} (h : Parts w x pv qv) : ∃ a c, qv = .slice a x.ks.length c := by
  obtain ⟨r, ⟨ad, cap, e, _⟩, _⟩ := h.q
  exact ⟨ad, cap, by simpa using e⟩

set_option maxHeartbeats 4000000 in
set_option maxRecDepth 100000 in
theorem right_calls (w : World) (x : Nod) (pv qv : Value) (h : Parts w x pv qv) :
    Calls Try.prog 14 #[nv x pv qv] w fun e w' => e = .returned (.bool (rightN x)) ∧ Below w.heap.size w w' := by
  have B1 : Below w.heap.size w (w.alloc (.cells (nc x pv qv) 25)) := (Below.refl _ w).alloc (Nat.le_refl _) _
  have hp1 := arePairs_calls _ pv x.ps (h.p.below B1)
  have hq1 := areKids_calls _ qv x.ks (h.q.below B1)
  have H1 := (HasN.new w x pv qv _ rfl h.p.one h.q.one).cells
  obtain ⟨ap, cp, rfl⟩ := h.lenP
  obtain ⟨aq, cq, rfl⟩ := h.lenQ
  obtain ⟨c0, c1, c2⟩ := H1
  have HO : Hid (rightN x = if x.lv < 0 ∨ 12 ≤ x.lv then false else if x.lv = 0 then decide (x.ks.length = 0) && okPairs x.ps else decide (x.ps.length = 0) && okKids x.ks) := rfl
  clear h
  obtain ⟨lv, ps, ks⟩ := x
  simp only at c0 c1 c2 hp1 hq1 HO ⊢
  generalize okPairs ps = OP at *
  generalize okKids ks = OK at *
  generalize hP : ps.length = P at *
  generalize hQ : ks.length = Q at *
  have HP : Hid (ps.length = P ∧ ks.length = Q) := ⟨hP, hQ⟩
  clear hP hQ
  by_cases h0 : lv < 0
  · go_enter Try.func14, Try.ntmps14
    go_wp2_with fail
    go_ret
    exact ⟨by rw [HO.out, if_pos (.inl h0)]; rfl, B1⟩
  by_cases h12 : 12 ≤ lv
  · go_enter Try.func14, Try.ntmps14
    go_wp2_with fail
    go_ret
    exact ⟨by rw [HO.out, if_pos (.inr h12)]; rfl, B1⟩
  by_cases hz : lv = 0
  · subst hz
    by_cases hl : Q = 0
    · subst hl
      go_enter Try.func14, Try.ntmps14
      go_wp2_with (go_at_call 45; refine hp1.mono ?_; rintro e w1 ⟨rfl, b1⟩)
      go_ret
      exact ⟨by rw [HO.out]; simp <;> rfl, B1.trans (b1.mono B1.size)⟩
    · have hl2 : ((Q : Int) == 0) = false := by simp; omega
      go_enter Try.func14, Try.ntmps14
      go_wp2_with fail
      go_ret
      exact ⟨by rw [HO.out, decide_eq_false hl]; simp <;> rfl, B1⟩
  · have hz2 : (lv == 0) = false := by simpa using hz
    by_cases hl : P = 0
    · subst hl
      go_enter Try.func14, Try.ntmps14
      go_wp2_with (go_at_call 46; refine hq1.mono ?_; rintro e w1 ⟨rfl, b1⟩)
      go_ret
      exact ⟨by rw [HO.out, if_neg (by omega), if_neg hz]; simp <;> rfl, B1.trans (b1.mono B1.size)⟩
    · have hl2 : ((P : Int) == 0) = false := by simp; omega
      go_enter Try.func14, Try.ntmps14
      go_wp2_with fail
      go_ret
      exact ⟨by rw [HO.out, if_neg (by omega), if_neg hz, decide_eq_false hl]; simp <;> rfl, B1⟩
end Go.Proofs.Ytggbnacpgkbieaa
