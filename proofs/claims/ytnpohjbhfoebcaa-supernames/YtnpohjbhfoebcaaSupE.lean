/- Superblocks in memory; says. -/
import Derived.Test.YtnpohjbhfoebcaaSupD
import Derived.Deep.RegionHeld3
namespace Go.Proofs.Ytnpohjbhfoebcaa
set_option linter.unusedVariables false
open Go.RowKit

/-- A superblock in block b; its snapshots' slice is sv. -/
def HasU (w : World) (b : Nat) (S : Sup) (sv : Value) : Prop := w.heap[b]? = some (.cells (uc S sv) 24 (0, 0)) ∧ sv.oneCell' = true
theorem Try.sup_info : (Try.prog.info? 24).map (·.size) = some 5 := by kernel_rfl
theorem HasU.lt {w : World} {b : Nat} {S : Sup} {sv : Value} (h : HasU w b S sv) : b < w.heap.size := lt_of_block h.1
theorem HasU.same {w w' : World} {b : Nat} {S : Sup} {sv : Value} (h : HasU w b S sv) (e : w'.heap[b]? = w.heap[b]?) : HasU w' b S sv := ⟨e.trans h.1, h.2⟩
theorem HasU.below {B : Nat} {w w' : World} {b : Nat} {S : Sup} {sv : Value} (h : HasU w b S sv) (hb : Below B w w') (hB : b < B) : HasU w' b S sv := h.same (hb.block b hB)
theorem HasU.touch {w w' : World} {b p : Nat} {S : Sup} {sv : Value} (h : HasU w b S sv) (ht : Touch p none w w') (hp : b ≠ p) : HasU w' b S sv := h.same (ht.block b h.lt hp (by simp))
theorem HasU.alloc {w : World} {b : Nat} {S : Sup} {sv : Value} (h : HasU w b S sv) (o : Obj) : HasU (w.alloc o) b S sv := h.same (Below.heap_alloc _ _ _ h.lt)
theorem HasU.new (w : World) (S : Sup) (sv : Value) (b : Nat) (hb : b = w.heap.size) (hs : sv.oneCell' = true) : HasU (w.alloc (.cells (uc S sv) 24)) b S sv := by
  subst hb
  exact ⟨heap_alloc_new _ _, hs⟩
theorem HasU.cells {w : World} {b : Nat} {S : Sup} {sv : Value} (h : HasU w b S sv) : w.cell? ⟨b, 0, none⟩ = some (.int .i64 S.g) ∧ w.cell? ⟨b, 1, none⟩ = some (.int .i64 S.r) ∧ w.cell? ⟨b, 2, none⟩ = some (.int .i64 S.x) ∧ w.cell? ⟨b, 3, none⟩ = some (.int .i64 S.c) ∧ w.cell? ⟨b, 4, none⟩ = some sv := by
  refine ⟨?_, ?_, ?_, ?_, ?_⟩ <;> rw [cell_of_row w b _ _ _ _ h.1] <;> rfl
theorem HasU.free {w : World} {b : Nat} {S : Sup} {sv : Value} (h : HasU w b S sv) (j : Nat) : w.frozen? ⟨b, j, none⟩ = false := by simp [World.frozen?, h.1]
theorem uc_all (S : Sup) (sv : Value) (h : sv.oneCell' = true) : (uc S sv).all (·.oneCell') = true := by
  refine all_oneCell_toArray (cs := [_, _, _, _, sv]) ?_
  intro u hu
  simp only [List.mem_cons, List.not_mem_nil, or_false] at hu
  rcases hu with rfl | rfl | rfl | rfl | rfl
  iterate 4 rfl
  exact h
theorem load_sup {ops : Array Oper} {rest : List Oper} {o : Oper} {a : Act} {w : World} {Q : Exit → Act → World → Prop} (x : Operand) (ho : o.op = .load 24 x) (b : Nat) (hx : a.eval x = .pointer (some ⟨b, 0, none⟩)) (hgd : Region.wanted o (yielded ops a.tmps) = true) (S : Sup) (sv : Value) (hF : HasU w b S sv)
    (h : wpList Try.prog ops Q rest (a.put o.dst (uv S sv)) w) : wpList Try.prog ops Q (o :: rest) a w :=
  BigFrame.wpList_want hgd fun _ hK' => wp_load_row _ x ho b hx _ _ _ _ hF.1 Try.underlying24 rfl Try.sup_info (hK' _ _ h)
theorem HasU.setRow {w : World} {b : Nat} {S : Sup} {sv : Value} (h : HasU w b S sv) (T : Sup) (tv : Value) (ht : tv.oneCell' = true) : HasU (w.setRow b (uc T tv)) b T tv := ⟨setRow_heap w b _ _ _ _ h.1, ht⟩
theorem store_sup {ops : Array Oper} {rest : List Oper} {o : Oper} {a : Act} {w : World} {Q : Exit → Act → World → Prop} (hgd : o.guard = none) (x y : Operand) (ho : o.op = .store 24 x y) (b : Nat) (hx : a.eval x = .pointer (some ⟨b, 0, none⟩)) (T : Sup) (tv : Value) (hy : a.eval y = uv T tv) (ht : tv.oneCell' = true) (S : Sup) (sv : Value) (hF : HasU w b S sv)
    (h : ∀ w', HasU w' b T tv → Touch b none w w' → w'.heap.size = w.heap.size → wpList Try.prog ops Q rest (a.put o.dst undef) w') : wpList Try.prog ops Q (o :: rest) a w :=
  wpList_store_row hgd _ x y ho b _ hx hy _ _ hF.1 Try.sup_info rfl (uc_all _ _ ht) (h _ (hF.setRow T tv ht) (touch_row _ _ _) (by simp))
theorem ret_sup {fn : Func} {R : Ending → World → Prop} {a : Act} {w : World} {p : Tmp} (hr : fn.results = #[.cell p 24]) (b : Nat) (S : Sup) (sv : Value) (hp : a.tmps.getD p undef = .pointer (some ⟨b, 0, none⟩)) (hF : HasU w b S sv)
    (hd : a.defers = []) (hR : R (.returned (uv S sv)) w) : bodyPost Try.prog fn R .ret a w :=
  bodyPost_ret (results_cell_row hr _ w b _ _ _ _ hp hF.1 Try.underlying24 rfl Try.sup_info) hd hR
theorem ret_sup_ok {fn : Func} {R : Ending → World → Prop} {a : Act} {w : World} {p u : Tmp} (hr : fn.results = #[.cell p 24, .tmp u]) (b : Nat) (S : Sup) (sv : Value) (v : Value) (hp : a.tmps.getD p undef = .pointer (some ⟨b, 0, none⟩)) (hv : a.tmps.getD u undef = v) (hF : HasU w b S sv)
    (hd : a.defers = []) (hR : R (.returned (.tuple #[uv S sv, v])) w) : bodyPost Try.prog fn R .ret a w := by
  refine bodyPost_ret (v := .tuple #[uv S sv, v]) ?_ hd hR
  have hl := run_loadVar_row (P := Try.prog) w b 24 24 _ _ _ hF.1 Try.underlying24 rfl Try.sup_info
  rw [results_cell_tmp hr, hp, hv]
  simp [asAddr, Result.andThen, hl]
theorem SnapsIn.one {w : World} {sv : Value} {l : List Snp} {r : Option Nat} (h : SnapsIn w sv l r) : sv.oneCell' = true := by
  obtain ⟨ad, cap, rfl, _⟩ := h
  rfl

theorem own_snaps {w : World} {base : Nat} {sv : Value} {l : List Snp} (h : w.ownsRow base 40 3 sv l.length (sncs l)) : SnapsIn w sv l sv.ownBlock := by
  have hl := h.lt
  rcases h.2 with ⟨rfl, h0⟩ | ⟨g, cap, cur, rfl, hb, hg, hn, hm, _⟩
  · exact ⟨none, 0, by rw [h0], by omega, by unfold maxLen; omega, .inl (List.eq_nil_of_length_eq_zero h0)⟩
  · refine ⟨_, cap, rfl, hn, by omega, .inr ⟨g, 0, rfl, rfl, (hl g rfl).2, sncs_back fun j u hu => ?_⟩⟩
    have := h.cells (g := g) rfl j u hu
    rw [add_lit] at this
    exact this

/-- What a call that makes a superblock comes to. -/
def Gives (w : World) (S : Sup) (v : Value) (w' : World) : Prop :=
  ∃ sv r, v = uv S sv ∧ SnapsIn w' sv S.l r ∧ Below w.heap.size w w' ∧ ∀ k, r = some k → w.heap.size ≤ k ∧ k < w'.heap.size
def says (F : Fld) (m : Nat) : Sup := ⟨F.g, F.r, F.x, F.c, F.l.take m⟩
def nilU : Sup := ⟨0, 0, 0, 0, []⟩

theorem build_sup {ops : Array Oper} {rest : List Oper} {o : Oper} {a : Act} {w : World} {Q : Exit → Act → World → Prop} (hgd : o.guard = none) (x0 x1 x2 x3 : Operand) (ho : o.op = .build 24 #[(0, x0), (1, x1), (2, x2), (3, x3)])
    (g r x c : Int) (h0 : a.eval x0 = .int .i64 g) (h1 : a.eval x1 = .int .i64 r) (h2 : a.eval x2 = .int .i64 x) (h3 : a.eval x3 = .int .i64 c)
    (h : wpList Try.prog ops Q rest (a.put o.dst (uv ⟨g, r, x, c, []⟩ (.slice none 0 0))) w) : wpList Try.prog ops Q (o :: rest) a w := by
  refine wpList_plain hgd fun K hK => ?_
  have hb : Try.prog.built 24 [(0, .int .i64 g), (1, .int .i64 r), (2, .int .i64 x), (3, .int .i64 c)] = some (uc ⟨g, r, x, c, []⟩ (.slice none 0 0)) := by kernel_rfl
  have e : (Array.map (fun x : Nat × Operand => match x with | (i, x) => (i, a.eval x)) #[(0, x0), (1, x1), (2, x2), (3, x3)]).toList = [(0, .int .i64 g), (1, .int .i64 r), (2, .int .i64 x), (3, .int .i64 c)] := by simp [h0, h1, h2, h3]
  refine wp_build 24 _ ho (by rw [e, hb]; rfl) ?_
  rw [e, hb]
  exact hK _ _ h

theorem HasF.range {w : World} {b : Nat} {F : Fld} (h : HasF w b F) : w.rangeAt b 0 (fc F) := fun j v hj => by rw [Nat.zero_add]; exact h.cell j hj
theorem take_cells {w : World} {b m : Nat} {F : Fld} (h : HasF w b F) : ∀ j u, (sncs (F.l.take m))[j]? = some u → w.cell? ((⟨b, 6, none⟩ : Addr).add j) = some u := fun j u hu => by
  rw [add_lit]
  refine sncs_cells (l := F.l.take m) (fun i hi => ?_) j u hu
  rw [List.getElem_take]
  exact h.snaps i (by simp at hi; omega)
theorem HasU.set4 {w : World} {b : Nat} {S : Sup} {sv : Value} (h : HasU w b S sv) (T : Sup) (tv : Value) (e : T = { S with l := T.l }) (ht : tv.oneCell' = true) : HasU (w.setCell ⟨b, 4, none⟩ tv) b T tv := by
  refine ⟨?_, ht⟩
  rw [e]
  simp [World.setCell, Array.getElem?_modify, h.1, uc]
theorem slice_snaps (w : World) (b m : Nat) (hm : m ≤ 8) : (Instr.sliceAt 46 (.pointer (some ⟨b, 6, none⟩)) none (some (.int .i64 (m : Int))) none).run Try.prog w = .ok (.slice (some ⟨b, 6, none⟩) m 8) w := by
  have h1 : Try.prog.arrayLen 46 = 8 := by kernel_rfl
  have h2 : Try.prog.elem 46 = 40 := by kernel_rfl
  rw [run_sliceAt_array_h w 46 _ (by rw [h1, h2]; exact Try.underlying46) .i64 (m : Int) (by omega) (by rw [h1]; omega), h1, h2, Try.sizeOf40]
  simp [slicedAt, Result.andThen, add_lit]
theorem own_form3 {w : World} {base : Nat} {e : TypeId} {sv : Value} {n : Nat} {xs : List Value} (ho : w.ownsRow base e 3 sv n xs) : ∃ a c, sv = .slice a n c := by
  rcases ho.2 with ⟨rfl, h0⟩ | ⟨g, cap, cur, rfl, _⟩
  · exact ⟨none, 0, by rw [h0]⟩
  · exact ⟨_, _, rfl⟩
theorem own_snaps' {w : World} {base m : Nat} {sv : Value} {l : List Snp} (h : w.ownsRow base 40 3 sv m (sncs l)) : SnapsIn w sv l sv.ownBlock := by
  have e : m = l.length := by have := h.1; rw [sncs_length] at this; omega
  subst e
  exact own_snaps h
theorem says_apart {w : World} {b base m : Nat} {S : Sup} {sv v : Value} {xs : List Value} (h : HasU w b S sv) (ho : w.ownsRow base 40 3 v m xs) (e : v.ownBlock = some b) : False := by
  rcases ho.2 with ⟨rfl, _⟩ | ⟨g, cap, cur, rfl, _, hg, _⟩
  · cases e
  · cases e
    rw [h.1] at hg
    simp at hg
theorem Try.info_snap : (Try.prog.info? 40).map (fun i => (i.zero, i.size, i.bytes)) = some (some (.agg #[.string ⟨#[]⟩, .int .i64 0, .int .i64 0]), 3, 32) := by kernel_rfl

set_option maxHeartbeats 4000000 in
theorem says_calls (w : World) (F : Fld) (m : Nat) (hF : F.l.length = 8) (hm : min F.n 8 = (m : Int)) :
    Calls Try.prog 19 #[fv F] w fun e w' => ∃ v, e = .returned v ∧ Gives w (says F m) v w' := by
  have hm8 : m ≤ 8 := by omega
  have hH : ∀ w, Calls Try.prog 25 #[fv F] w fun e w' => e = .returned (.int .i64 (m : Int)) ∧ Below w.heap.size w w' := fun w => by rw [← hm]; exact held_calls w F hF
  have HM : Hid (min F.n 8 = (m : Int)) := hm
  clear hm
  have hn : HasF (w.alloc (.cells (fc F).toArray 48 (0, 0))) w.heap.size F := HasF.new w F hF
  have c0 := fun o => (hn.alloc o).six.1
  have c2 := fun o => (hn.alloc o).six.2.2.1
  have c3 := fun o => (hn.alloc o).six.2.2.2.1
  have c4 := fun o => (hn.alloc o).six.2.2.2.2.1
  have HH : Hid (HasF (w.alloc (.cells (fc F).toArray 48 (0, 0))) w.heap.size F) := hn
  clear hn
  go_enter Try.func19, Try.ntmps19
  go_wp2_with (first
    | (refine build_sup rfl _ _ _ _ rfl F.g F.r F.x F.c rfl rfl rfl rfl ?_)
    | (refine store_sup rfl _ _ rfl _ rfl ⟨F.g, F.r, F.x, F.c, []⟩ (.slice none 0 0) rfl rfl nilU (.slice none 0 0) (HasU.new _ _ _ _ (by simp) rfl) ?_; intro w1 h1 t1 s1))
  have hb1 : Below w.heap.size w (((w.alloc (.cells (fc F).toArray 48)).alloc (.cells #[.int .i64 0, .int .i64 0, .int .i64 0, .int .i64 0, .slice none 0 0] 24)).alloc (.cells #[.int .i64 F.g, .int .i64 F.r, .int .i64 F.x, .int .i64 F.c, .slice none 0 0] 24)) := ((Below.refl _ w).alloc (Nat.le_refl _) _ |>.alloc (by simp) _).alloc (by simp; omega) _
  have HF1 : Hid (HasF (((w.alloc (.cells (fc F).toArray 48)).alloc (.cells #[.int .i64 0, .int .i64 0, .int .i64 0, .int .i64 0, .slice none 0 0] 24)).alloc (.cells #[.int .i64 F.g, .int .i64 F.r, .int .i64 F.x, .int .i64 F.c, .slice none 0 0] 24)) w.heap.size F) := (HH.out.alloc _).alloc _
  have Z1 : Hid (HasU (((w.alloc (.cells (fc F).toArray 48)).alloc (.cells #[.int .i64 0, .int .i64 0, .int .i64 0, .int .i64 0, .slice none 0 0] 24)).alloc (.cells #[.int .i64 F.g, .int .i64 F.r, .int .i64 F.x, .int .i64 F.c, .slice none 0 0] 24)) (w.heap.size + 1) nilU (.slice none 0 0)) := (HasU.new (w.alloc (.cells (fc F).toArray 48)) nilU (.slice none 0 0) (w.heap.size + 1) (by simp) rfl).alloc _
  have h1 : HasU (((w.alloc (.cells (fc F).toArray 48)).alloc (.cells #[.int .i64 0, .int .i64 0, .int .i64 0, .int .i64 0, .slice none 0 0] 24)).alloc (.cells #[.int .i64 F.g, .int .i64 F.r, .int .i64 F.x, .int .i64 F.c, .slice none 0 0] 24)) (w.heap.size + 2) ⟨F.g, F.r, F.x, F.c, []⟩ (.slice none 0 0) := HasU.new _ ⟨F.g, F.r, F.x, F.c, []⟩ (.slice none 0 0) (w.heap.size + 2) (by simp) rfl
  generalize (((w.alloc (.cells (fc F).toArray 48)).alloc (.cells #[.int .i64 0, .int .i64 0, .int .i64 0, .int .i64 0, .slice none 0 0] 24)).alloc (.cells #[.int .i64 F.g, .int .i64 F.r, .int .i64 F.x, .int .i64 F.c, .slice none 0 0] 24)) = w1 at *
  have H1 : Hid (HasU w1 (w.heap.size + 2) ⟨F.g, F.r, F.x, F.c, []⟩ (.slice none 0 0)) := h1
  obtain ⟨_, _, _, _, k1⟩ := h1.cells
  clear h1 c0 c2 c3 c4 HH
  obtain ⟨i0, hi, hz0, hz1, hz2⟩ := info_parts Try.info_snap
  have hi31 : (Try.prog.info? 48).map (·.size) = some (fc F).length := by rw [fc_length F hF]; exact Try.fld_info
  refine wp_region_noPanic ?_
  refine wp_region_held_drew (S := (fun w2 => HasF w2 w.heap.size F)) (by kernel_rfl) (HF1.out.same rfl) (fun hHeld => ?_)
  refine wpAnyH_take (i := 0) (v := ?_) rfl (by kernel_rfl) (by kernel_rfl) (by kernel_rfl) (fun _ _ _ h => h) (Or.inl ⟨by rfl, ?_⟩) hHeld ?_
  case refine_2 => (intro w hSw; (try dsimp only at hSw); go_simp; try (with_reducible rfl))
  ((try simp only); (try simp only [List.getElem_toArray]); (try simp only [List.getElem_cons_succ]); (try simp only [List.getElem_cons_zero]); (try simp only [Act.put]); (try simp only [List.setIfInBounds_toArray]); (try simp only [List.set_cons_succ]); (try simp only [List.set_cons_zero]))
  refine wpAnyH_take (i := 2) (v := ?_) rfl (by kernel_rfl) (by kernel_rfl) (by kernel_rfl) (fun _ _ _ h => h) (Or.inl ⟨by rfl, ?_⟩) hHeld ?_
  case refine_2 => (intro w hSw; (try dsimp only at hSw); go_simp; try (with_reducible rfl))
  ((try simp only); (try simp only [List.getElem_toArray]); (try simp only [List.getElem_cons_succ]); (try simp only [List.getElem_cons_zero]); (try simp only [Act.put]); (try simp only [List.setIfInBounds_toArray]); (try simp only [List.set_cons_succ]); (try simp only [List.set_cons_zero]))
  refine wpAnyH_take (i := 3) rfl (by kernel_rfl) (by kernel_rfl) (by kernel_rfl) (fun _ _ _ h => h) (yieldsIf_load_mid (by rfl) _ _ rfl _ _ rfl _ _ (fun _ h => h.range) Try.underlying48 rfl hi31) hHeld ?_
  ((try simp only); (try simp only [List.getElem_toArray]); (try simp only [List.getElem_cons_succ]); (try simp only [List.getElem_cons_zero]); (try simp only [Act.put]); (try simp only [List.setIfInBounds_toArray]); (try simp only [List.set_cons_succ]); (try simp only [List.set_cons_zero]))
  refine wpAnyH_ready (rs := [1, 4]) (by kernel_rfl) (by simp) (AllReadyH.cons rfl (fun K hK => ?_) (AllReadyH.cons rfl (fun K hK => ?_) AllReadyH.nil))
  · rw [if_pos (by rfl)]
    ((try simp only); (try simp only [List.getElem_toArray]); (try simp only [List.getElem_cons_succ]); (try simp only [List.getElem_cons_zero]); (try simp only [Act.put]); (try simp only [List.setIfInBounds_toArray]); (try simp only [List.set_cons_succ]); (try simp only [List.set_cons_zero]))
    go_simp
    refine hK.out _ _ hHeld (fun g1 => ?_)
    clear hK K
    ((try simp only); (try simp only [List.getElem_toArray]); (try simp only [List.getElem_cons_succ]); (try simp only [List.getElem_cons_zero]); (try simp only [Act.put]); (try simp only [List.setIfInBounds_toArray]); (try simp only [List.set_cons_succ]); (try simp only [List.set_cons_zero]))
    refine wpAnyH_ready (rs := [4]) (by kernel_rfl) (by simp) (AllReadyH.cons rfl (fun K hK => ?_) AllReadyH.nil)
    rw [if_pos (by rfl)]
    ((try simp only); (try simp only [List.getElem_toArray]); (try simp only [List.getElem_cons_succ]); (try simp only [List.getElem_cons_zero]); (try simp only [Act.put]); (try simp only [List.setIfInBounds_toArray]); (try simp only [List.set_cons_succ]); (try simp only [List.set_cons_zero]))
    go_simp
    refine (hH _).mono ?_
    rintro e w3 ⟨rfl, b30⟩
    have b3 : Below w1.heap.size w1 w3 := ⟨b30.os, b30.tape, b30.output, b30.size, b30.block⟩
    have h3 := H1.out.below b3 (by have := H1.out.lt; simpa using this)
    have z3 := Z1.out.below b3 (by have := Z1.out.lt; simpa using this)
    have B3 : Below w.heap.size w w3 := hb1.trans (b3.mono hb1.size)
    refine hK.out _ _ (g1.below b30 (by have := g1.lt; simpa using this)) (fun g3 => ?_)
    clear hK K
    ((try simp only); (try simp only [List.getElem_toArray]); (try simp only [List.getElem_cons_succ]); (try simp only [List.getElem_cons_zero]); (try simp only [Act.put]); (try simp only [List.setIfInBounds_toArray]); (try simp only [List.set_cons_succ]); (try simp only [List.set_cons_zero]))
    refine wpAnyH_take (i := 5) (v := ?_) rfl (by kernel_rfl) (by kernel_rfl) (by kernel_rfl) (fun _ _ _ h => h) (Or.inl ⟨by rfl, ?_⟩) g3 ?_
    case refine_2 => (intro w hSw; (try dsimp only at hSw); have hsl := fun bb => slice_snaps w bb m hm8; go_simp; try (with_reducible rfl))
    ((try simp only); (try simp only [List.getElem_toArray]); (try simp only [List.getElem_cons_succ]); (try simp only [List.getElem_cons_zero]); (try simp only [Act.put]); (try simp only [List.setIfInBounds_toArray]); (try simp only [List.set_cons_succ]); (try simp only [List.set_cons_zero]))
    refine wpAnyH_ready (rs := [6]) (by kernel_rfl) (by simp) (AllReadyH.cons rfl (fun K hK => ?_) AllReadyH.nil)
    rw [if_pos (by rfl)]
    ((try simp only); (try simp only [List.getElem_toArray]); (try simp only [List.getElem_cons_succ]); (try simp only [List.getElem_cons_zero]); (try simp only [Act.put]); (try simp only [List.setIfInBounds_toArray]); (try simp only [List.set_cons_succ]); (try simp only [List.set_cons_zero]))
    refine wp_append_own _ (.tmp 14) (.tmp 18) 22 rfl w.heap.size 40 i0 (.agg #[.string ⟨#[]⟩, .int .i64 0, .int .i64 0]) 3 32 Try.underlying22 hi hz0 hz1 hz2 rfl (by omega) (.slice none 0 0) 0 [] rfl (World.ownsRow_nil _ _ _ _) ⟨w.heap.size, 6, none⟩ m 8 (sncs (F.l.take m)) rfl (by rw [sncs_length, List.length_take]; omega) (take_cells g3) (sncs_one _) (by unfold maxLen; omega) (by omega) (by have := B3.size; omega) ?_
    intro v' w4 hown hgrow _
    rw [Nat.zero_add, List.nil_append] at hown
    obtain ⟨a', c', hv'⟩ := own_form3 hown
    subst hv'
    refine hK.out _ _ (g3.same (hgrow.block _ g3.lt (by simp [Value.ownBlock]))) (fun g4 => ?_)
    clear hK K
    ((try simp only); (try simp only [List.getElem_toArray]); (try simp only [List.getElem_cons_succ]); (try simp only [List.getElem_cons_zero]); (try simp only [Act.put]); (try simp only [List.setIfInBounds_toArray]); (try simp only [List.set_cons_succ]); (try simp only [List.set_cons_zero]))
    have h4 : HasU w4 (w.heap.size + 2) ⟨F.g, F.r, F.x, F.c, []⟩ (.slice none 0 0) := h3.same (hgrow.block _ h3.lt (by simp [Value.ownBlock]))
    have z4 : HasU w4 (w.heap.size + 1) nilU (.slice none 0 0) := z3.same (hgrow.block _ z3.lt (by simp [Value.ownBlock]))
    have B4 : Below w.heap.size w w4 := B3.grown hgrow (by have := B3.size; omega) (fun k hk => by simp [Value.ownBlock] at hk)
    obtain ⟨_, _, _, _, k4⟩ := h4.cells
    have f4 := h4.free 4
    have HO : Hid (w4.ownsRow w.heap.size 40 3 (.slice a' m c') m (sncs (F.l.take m))) := hown
    have H4 : Hid (HasU w4 (w.heap.size + 2) ⟨F.g, F.r, F.x, F.c, []⟩ (.slice none 0 0)) := h4
    have Z4 : Hid (HasU w4 (w.heap.size + 1) nilU (.slice none 0 0)) := z4
    clear hown hgrow h4 z4
    refine wpAnyH_take (i := 7) (v := ?_) rfl (by kernel_rfl) (by kernel_rfl) (by kernel_rfl) (fun _ _ _ h => h) (Or.inl ⟨by rfl, ?_⟩) g4 ?_
    case refine_2 => (intro w hSw; (try dsimp only at hSw); go_simp; try (with_reducible rfl))
    ((try simp only); (try simp only [List.getElem_toArray]); (try simp only [List.getElem_cons_succ]); (try simp only [List.getElem_cons_zero]); (try simp only [Act.put]); (try simp only [List.setIfInBounds_toArray]); (try simp only [List.set_cons_succ]); (try simp only [List.set_cons_zero]))
    refine wpAnyH_ready (rs := [8]) (by kernel_rfl) (by simp) (AllReadyH.cons rfl (fun K hK => ?_) AllReadyH.nil)
    rw [if_pos (by rfl)]
    ((try simp only); (try simp only [List.getElem_toArray]); (try simp only [List.getElem_cons_succ]); (try simp only [List.getElem_cons_zero]); (try simp only [Act.put]); (try simp only [List.setIfInBounds_toArray]); (try simp only [List.set_cons_succ]); (try simp only [List.set_cons_zero]))
    go_simp
    refine hK.out _ _ (show HasF (w4.setCell ⟨w.heap.size + 2, 4, none⟩ (.slice a' m c')) w.heap.size F from g4.same (Below.heap_setCell _ _ _ _ (by simp))) (fun g5 => ?_)
    clear hK K
    ((try simp only); (try simp only [List.getElem_toArray]); (try simp only [List.getElem_cons_succ]); (try simp only [List.getElem_cons_zero]); (try simp only [Act.put]); (try simp only [List.setIfInBounds_toArray]); (try simp only [List.set_cons_succ]); (try simp only [List.set_cons_zero]))
    refine wpAnyH_done (by kernel_rfl) ?_ _
    refine NoPanic.normal ?_
    have ho : (Value.slice a' m c').oneCell' = true := (own_snaps' HO.out).one
    have H5 : Hid (HasU (w4.setCell ⟨w.heap.size + 2, 4, none⟩ (.slice a' m c')) (w.heap.size + 2) (says F m) (.slice a' m c')) := H4.out.set4 (says F m) (.slice a' m c') rfl ho
    have Z5 : Hid (HasU (w4.setCell ⟨w.heap.size + 2, 4, none⟩ (.slice a' m c')) (w.heap.size + 1) nilU (.slice none 0 0)) := Z4.out.same (Below.heap_setCell _ _ _ _ (by simp))
    have hs4 := B4.size
    have B5 : Below w.heap.size w (w4.setCell ⟨w.heap.size + 2, 4, none⟩ (.slice a' m c')) := B4.setCell (by simp) _
    have I5 : Hid (SnapsIn (w4.setCell ⟨w.heap.size + 2, 4, none⟩ (.slice a' m c')) (.slice a' m c') (F.l.take m) (Value.slice a' m c').ownBlock) := (own_snaps' HO.out).kept fun k hk => Below.heap_setCell _ _ _ _ (by have := HO.out.lt k hk; simp; exact fun e => says_apart H4.out HO.out (e ▸ hk))
    have L5 : Hid (∀ k, (Value.slice a' m c').ownBlock = some k → w.heap.size ≤ k ∧ k < (w4.setCell ⟨w.heap.size + 2, 4, none⟩ (.slice a' m c')).heap.size) := fun k hk => by have := HO.out.lt k hk; simpa [World.setCell] using this
    have N5 : Hid (∀ k, (Value.slice a' m c').ownBlock = some k → k ≠ w.heap.size + 1) := fun k hk e => says_apart Z4.out HO.out (e ▸ hk)
    clear k4 f4 g4 g5 h3 z3 g3
    generalize w4.setCell ⟨w.heap.size + 2, 4, none⟩ (.slice a' m c') = w5 at *
    go_wp2_with (first | (refine load_sup _ rfl (w.heap.size + 2) rfl rfl _ _ H5.out ?_) | (refine store_sup rfl _ _ rfl (w.heap.size + 1) rfl (says F m) (.slice a' m c') rfl ho nilU (.slice none 0 0) Z5.out ?_; intro w6 h6 t6 s6))
    refine ret_sup rfl _ _ _ rfl h6 rfl ⟨_, rfl, .slice a' m c', (Value.slice a' m c').ownBlock, rfl, I5.out.kept (fun k hk => ?_), below_rowed B5 t6 (by omega) (Nat.le_refl _), fun k hk => by have := L5.out k hk; omega⟩
    exact t6.block k (L5.out k hk).2 (N5.out k hk) (by simp)
  · rw [if_pos (by rfl)]
    ((try simp only); (try simp only [List.getElem_toArray]); (try simp only [List.getElem_cons_succ]); (try simp only [List.getElem_cons_zero]); (try simp only [Act.put]); (try simp only [List.setIfInBounds_toArray]); (try simp only [List.set_cons_succ]); (try simp only [List.set_cons_zero]))
    go_simp
    refine (hH _).mono ?_
    rintro e w3 ⟨rfl, b30⟩
    have b3 : Below w1.heap.size w1 w3 := ⟨b30.os, b30.tape, b30.output, b30.size, b30.block⟩
    have h3 := H1.out.below b3 (by have := H1.out.lt; simpa using this)
    have z3 := Z1.out.below b3 (by have := Z1.out.lt; simpa using this)
    have B3 : Below w.heap.size w w3 := hb1.trans (b3.mono hb1.size)
    obtain ⟨_, _, _, _, k3⟩ := h3.cells
    refine hK.out _ _ (hHeld.below b30 (by have := hHeld.lt; simpa using this)) (fun g3 => ?_)
    clear hK K
    ((try simp only); (try simp only [List.getElem_toArray]); (try simp only [List.getElem_cons_succ]); (try simp only [List.getElem_cons_zero]); (try simp only [Act.put]); (try simp only [List.setIfInBounds_toArray]); (try simp only [List.set_cons_succ]); (try simp only [List.set_cons_zero]))
    refine wpAnyH_take (i := 5) (v := ?_) rfl (by kernel_rfl) (by kernel_rfl) (by kernel_rfl) (fun _ _ _ h => h) (Or.inl ⟨by rfl, ?_⟩) g3 ?_
    case refine_2 => (intro w hSw; (try dsimp only at hSw); have hsl := fun bb => slice_snaps w bb m hm8; go_simp; try (with_reducible rfl))
    ((try simp only); (try simp only [List.getElem_toArray]); (try simp only [List.getElem_cons_succ]); (try simp only [List.getElem_cons_zero]); (try simp only [Act.put]); (try simp only [List.setIfInBounds_toArray]); (try simp only [List.set_cons_succ]); (try simp only [List.set_cons_zero]))
    refine wpAnyH_ready (rs := [1]) (by kernel_rfl) (by simp) (AllReadyH.cons rfl (fun K hK => ?_) AllReadyH.nil)
    rw [if_pos (by rfl)]
    ((try simp only); (try simp only [List.getElem_toArray]); (try simp only [List.getElem_cons_succ]); (try simp only [List.getElem_cons_zero]); (try simp only [Act.put]); (try simp only [List.setIfInBounds_toArray]); (try simp only [List.set_cons_succ]); (try simp only [List.set_cons_zero]))
    go_simp
    refine hK.out _ _ g3 (fun _ => ?_)
    clear hK K
    ((try simp only); (try simp only [List.getElem_toArray]); (try simp only [List.getElem_cons_succ]); (try simp only [List.getElem_cons_zero]); (try simp only [Act.put]); (try simp only [List.setIfInBounds_toArray]); (try simp only [List.set_cons_succ]); (try simp only [List.set_cons_zero]))
    refine wpAnyH_ready (rs := [6]) (by kernel_rfl) (by simp) (AllReadyH.cons rfl (fun K hK => ?_) AllReadyH.nil)
    rw [if_pos (by rfl)]
    ((try simp only); (try simp only [List.getElem_toArray]); (try simp only [List.getElem_cons_succ]); (try simp only [List.getElem_cons_zero]); (try simp only [Act.put]); (try simp only [List.setIfInBounds_toArray]); (try simp only [List.set_cons_succ]); (try simp only [List.set_cons_zero]))
    refine wp_append_own _ (.tmp 14) (.tmp 18) 22 rfl w.heap.size 40 i0 (.agg #[.string ⟨#[]⟩, .int .i64 0, .int .i64 0]) 3 32 Try.underlying22 hi hz0 hz1 hz2 rfl (by omega) (.slice none 0 0) 0 [] rfl (World.ownsRow_nil _ _ _ _) ⟨w.heap.size, 6, none⟩ m 8 (sncs (F.l.take m)) rfl (by rw [sncs_length, List.length_take]; omega) (take_cells g3) (sncs_one _) (by unfold maxLen; omega) (by omega) (by have := B3.size; omega) ?_
    intro v' w4 hown hgrow _
    rw [Nat.zero_add, List.nil_append] at hown
    obtain ⟨a', c', hv'⟩ := own_form3 hown
    subst hv'
    refine hK.out _ _ (g3.same (hgrow.block _ g3.lt (by simp [Value.ownBlock]))) (fun g4 => ?_)
    clear hK K
    ((try simp only); (try simp only [List.getElem_toArray]); (try simp only [List.getElem_cons_succ]); (try simp only [List.getElem_cons_zero]); (try simp only [Act.put]); (try simp only [List.setIfInBounds_toArray]); (try simp only [List.set_cons_succ]); (try simp only [List.set_cons_zero]))
    have h4 : HasU w4 (w.heap.size + 2) ⟨F.g, F.r, F.x, F.c, []⟩ (.slice none 0 0) := h3.same (hgrow.block _ h3.lt (by simp [Value.ownBlock]))
    have z4 : HasU w4 (w.heap.size + 1) nilU (.slice none 0 0) := z3.same (hgrow.block _ z3.lt (by simp [Value.ownBlock]))
    have B4 : Below w.heap.size w w4 := B3.grown hgrow (by have := B3.size; omega) (fun k hk => by simp [Value.ownBlock] at hk)
    obtain ⟨_, _, _, _, k4⟩ := h4.cells
    have f4 := h4.free 4
    have HO : Hid (w4.ownsRow w.heap.size 40 3 (.slice a' m c') m (sncs (F.l.take m))) := hown
    have H4 : Hid (HasU w4 (w.heap.size + 2) ⟨F.g, F.r, F.x, F.c, []⟩ (.slice none 0 0)) := h4
    have Z4 : Hid (HasU w4 (w.heap.size + 1) nilU (.slice none 0 0)) := z4
    clear hown hgrow h4 z4
    refine wpAnyH_take (i := 7) (v := ?_) rfl (by kernel_rfl) (by kernel_rfl) (by kernel_rfl) (fun _ _ _ h => h) (Or.inl ⟨by rfl, ?_⟩) g4 ?_
    case refine_2 => (intro w hSw; (try dsimp only at hSw); go_simp; try (with_reducible rfl))
    ((try simp only); (try simp only [List.getElem_toArray]); (try simp only [List.getElem_cons_succ]); (try simp only [List.getElem_cons_zero]); (try simp only [Act.put]); (try simp only [List.setIfInBounds_toArray]); (try simp only [List.set_cons_succ]); (try simp only [List.set_cons_zero]))
    refine wpAnyH_ready (rs := [8]) (by kernel_rfl) (by simp) (AllReadyH.cons rfl (fun K hK => ?_) AllReadyH.nil)
    rw [if_pos (by rfl)]
    ((try simp only); (try simp only [List.getElem_toArray]); (try simp only [List.getElem_cons_succ]); (try simp only [List.getElem_cons_zero]); (try simp only [Act.put]); (try simp only [List.setIfInBounds_toArray]); (try simp only [List.set_cons_succ]); (try simp only [List.set_cons_zero]))
    go_simp
    refine hK.out _ _ (show HasF (w4.setCell ⟨w.heap.size + 2, 4, none⟩ (.slice a' m c')) w.heap.size F from g4.same (Below.heap_setCell _ _ _ _ (by simp))) (fun g5 => ?_)
    clear hK K
    ((try simp only); (try simp only [List.getElem_toArray]); (try simp only [List.getElem_cons_succ]); (try simp only [List.getElem_cons_zero]); (try simp only [Act.put]); (try simp only [List.setIfInBounds_toArray]); (try simp only [List.set_cons_succ]); (try simp only [List.set_cons_zero]))
    refine wpAnyH_done (by kernel_rfl) ?_ _
    refine NoPanic.normal ?_
    have ho : (Value.slice a' m c').oneCell' = true := (own_snaps' HO.out).one
    have H5 : Hid (HasU (w4.setCell ⟨w.heap.size + 2, 4, none⟩ (.slice a' m c')) (w.heap.size + 2) (says F m) (.slice a' m c')) := H4.out.set4 (says F m) (.slice a' m c') rfl ho
    have Z5 : Hid (HasU (w4.setCell ⟨w.heap.size + 2, 4, none⟩ (.slice a' m c')) (w.heap.size + 1) nilU (.slice none 0 0)) := Z4.out.same (Below.heap_setCell _ _ _ _ (by simp))
    have hs4 := B4.size
    have B5 : Below w.heap.size w (w4.setCell ⟨w.heap.size + 2, 4, none⟩ (.slice a' m c')) := B4.setCell (by simp) _
    have I5 : Hid (SnapsIn (w4.setCell ⟨w.heap.size + 2, 4, none⟩ (.slice a' m c')) (.slice a' m c') (F.l.take m) (Value.slice a' m c').ownBlock) := (own_snaps' HO.out).kept fun k hk => Below.heap_setCell _ _ _ _ (by have := HO.out.lt k hk; simp; exact fun e => says_apart H4.out HO.out (e ▸ hk))
    have L5 : Hid (∀ k, (Value.slice a' m c').ownBlock = some k → w.heap.size ≤ k ∧ k < (w4.setCell ⟨w.heap.size + 2, 4, none⟩ (.slice a' m c')).heap.size) := fun k hk => by have := HO.out.lt k hk; simpa [World.setCell] using this
    have N5 : Hid (∀ k, (Value.slice a' m c').ownBlock = some k → k ≠ w.heap.size + 1) := fun k hk e => says_apart Z4.out HO.out (e ▸ hk)
    clear k4 f4 g4 g5 h3 z3 g3
    generalize w4.setCell ⟨w.heap.size + 2, 4, none⟩ (.slice a' m c') = w5 at *
    go_wp2_with (first | (refine load_sup _ rfl (w.heap.size + 2) rfl rfl _ _ H5.out ?_) | (refine store_sup rfl _ _ rfl (w.heap.size + 1) rfl (says F m) (.slice a' m c') rfl ho nilU (.slice none 0 0) Z5.out ?_; intro w6 h6 t6 s6))
    refine ret_sup rfl _ _ _ rfl h6 rfl ⟨_, rfl, .slice a' m c', (Value.slice a' m c').ownBlock, rfl, I5.out.kept (fun k hk => ?_), below_rowed B5 t6 (by omega) (Nat.le_refl _), fun k hk => by have := L5.out k hk; omega⟩
    exact t6.block k (L5.out k hk).2 (N5.out k hk) (by simp)
end Go.Proofs.Ytnpohjbhfoebcaa
