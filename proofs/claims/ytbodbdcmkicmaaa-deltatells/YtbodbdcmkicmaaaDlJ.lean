/- What a statement's walk holds; slices of slices that are built; lists that came in. -/
import Derived.Test.YtbodbdcmkicmaaaDlI
import Derived.Test.YtbodbdcmkicmaaaRowKit
namespace Go.Proofs.Ytbodbdcmkicmaaa
set_option linter.unusedVariables false
open Go.ChangeShapes Go.WideShapes Go.ChangeAt Go.RowKit

structure Hd (w x : World) (ps : List (Value × List Pa)) (cs : List (Value × List Ch)) (ks : List (Value × List Kz)) : Prop where
  bel : Below w.heap.size w x
  p : ∀ e ∈ ps, Sl encP x e.1 e.2
  c : ∀ e ∈ cs, Sl encC x e.1 e.2
  k : ∀ e ∈ ks, Sl encK x e.1 e.2
section
variable {w x y : World} {ps : List (Value × List Pa)} {cs : List (Value × List Ch)} {ks : List (Value × List Kz)}
theorem Hd.start (w : World) : Hd w w [] [] [] := ⟨Below.refl _ _, fun _ h => (by cases h), fun _ h => (by cases h), fun _ h => (by cases h)⟩
theorem Hd.called (h : Hd w x ps cs ks) (b : Below x.heap.size x y) : Hd w y ps cs ks := ⟨h.bel.trans (b.mono h.bel.size), fun e he => (h.p e he).called b, fun e he => (h.c e he).called b, fun e he => (h.k e he).called b⟩
theorem Hd.addP (h : Hd w x ps cs ks) {v : Value} {l : List Pa} (hs : Sl encP x v l) : Hd w x ((v, l) :: ps) cs ks := ⟨h.bel, fun e he => by
  rcases List.mem_cons.1 he with rfl | he
  · exact hs
  · exact h.p e he, h.c, h.k⟩
theorem Hd.addC (h : Hd w x ps cs ks) {v : Value} {l : List Ch} (hs : Sl encC x v l) : Hd w x ps ((v, l) :: cs) ks := ⟨h.bel, h.p, fun e he => by
  rcases List.mem_cons.1 he with rfl | he
  · exact hs
  · exact h.c e he, h.k⟩
theorem Hd.addK (h : Hd w x ps cs ks) {v : Value} {l : List Kz} (hs : Sl encK x v l) : Hd w x ps cs ((v, l) :: ks) := ⟨h.bel, h.p, h.c, fun e he => by
  rcases List.mem_cons.1 he with rfl | he
  · exact hs
  · exact h.k e he⟩
theorem Hd.getP (h : Hd w x ps cs ks) (v : Value) (l : List Pa) (hm : (v, l) ∈ ps) : Sl encP x v l := h.p (v, l) hm
theorem Hd.getC (h : Hd w x ps cs ks) (v : Value) (l : List Ch) (hm : (v, l) ∈ cs) : Sl encC x v l := h.c (v, l) hm
theorem Hd.getK (h : Hd w x ps cs ks) (v : Value) (l : List Kz) (hm : (v, l) ∈ ks) : Sl encK x v l := h.k (v, l) hm
theorem Hd.drew (h : Hd w x ps cs ks) : Hd w x.drew ps cs ks := h.called ⟨rfl, rfl, rfl, Nat.le_refl _, fun _ _ => rfl⟩
end
theorem sl_form {α : Type} {k : Nat} {E : Enc α k} {w : World} {v : Value} {l : List α} (h : Sl E w v l) : ∃ ad cap, v = .slice ad l.length cap ∧ l.length ≤ cap ∧ l.length ≤ maxLen := by
  obtain ⟨ad, cap, h1, h2, h3, _⟩ := h
  exact ⟨ad, cap, h1, h2, h3⟩
/-! Slices of slices of changes. -/
theorem infoV : ∃ i z, Try.prog.info? 23 = some i ∧ i.zero = some z ∧ i.size = 1 ∧ z.cells.size = 1 := by
  have h : (Try.prog.info? 23).map (fun i => (i.zero, i.size)) = some (some (.slice none 0 0), 1) := by kernel_rfl
  cases hi : Try.prog.info? 23 with
  | none => rw [hi] at h; cases h
  | some i =>
    rw [hi] at h
    simp only [Option.map_some, Option.some.injEq, Prod.mk.injEq] at h
    exact ⟨i, _, rfl, h.1, h.2, rfl⟩
theorem cells_sl {α : Type} {k : Nat} {E : Enc α k} {w : World} {B : Nat} {v : Value} {l : List α} (h : SlB E w B v l) : v.cells = #[v] := by
  obtain ⟨ad, cap, rfl, _⟩ := h
  rfl
section
variable {ops : Array Oper} {rest : List Oper} {o : Oper} {a : Act} {w : World} {Q : Exit → Act → World → Prop}
theorem build_two (hg : o.guard = none) (x y : Operand) (ho : o.op = .buildSlice 33 2 #[(0, x), (1, y)]) (v u : Value) (hx : a.eval x = v) (hy : a.eval y = u) (l m : List Ch) (hl : Sl encC w v l) (hm : Sl encC w u m)
    (h : ∀ w', SlS w' w'.heap.size (.slice (some ⟨w.heap.size, 0, none⟩) 2 2) [(v, l), (u, m)] → Below w.heap.size w w' → wpList Try.prog ops Q rest (a.put o.dst (.slice (some ⟨w.heap.size, 0, none⟩) 2 2)) w') : wpList Try.prog ops Q (o :: rest) a w := by
  obtain ⟨i, z, hi, hz, hs, hzc⟩ := infoV
  have cv := cells_sl hl
  have cu := cells_sl hm
  refine wpList_plain hg fun K hK => wp_buildSlice 33 23 2 _ ho #[v, u] i z Try.underlying33 hi hz (by rw [hs]; omega) (by rw [hs]; omega) ?_ (hK _ _ ?_)
  · rw [hs]
    obtain ⟨C, hC⟩ : ∃ C : Array Value, C = (Array.range (2 * 1)).map (z.cells[· % z.cells.size]!) := ⟨_, rfl⟩
    have hsz : C.size = 2 := by rw [hC]; simp
    rw [← hC]
    obtain ⟨cs⟩ := C
    rcases cs with _ | ⟨c0, _ | ⟨c1, _ | ⟨c2, cs⟩⟩⟩
    · simp at hsz
    · simp at hsz
    · simp only [List.map_toArray, List.map_cons, List.map_nil, hx, hy]
      rw [fill_put (off := 0) (size := 1) rfl (by rw [cv]; rfl) (by simp), fill_put (off := 1) (size := 1) rfl (by rw [cu]; rfl) (by simp [cv])]
      simp [cv, cu, Instr.fill]
    · simp at hsz
  · have hb : (w.alloc (.cells #[v, u] 23)).heap[w.heap.size]? = some (.cells #[v, u] 23 (0, 0)) := heap_alloc_new _ _
    have hbl : Below w.heap.size w (w.alloc (.cells #[v, u] 23)) := (Below.refl _ w).alloc (Nat.le_refl _) _
    refine h _ ⟨⟨_, 2, rfl, Nat.le_refl _, (by unfold maxLen; simp), .inr ⟨w.heap.size, 0, rfl, by simp, fun i hi => ?_⟩⟩, fun e he => ?_⟩ hbl
    · rw [Nat.zero_add, cell_of_row _ _ _ _ _ _ hb]
      match i, hi with
      | 0, _ => rfl
      | 1, _ => rfl
    · rcases List.mem_cons.1 he with rfl | he
      · exact hl.called hbl
      · rw [List.mem_singleton] at he
        subst he
        exact hm.called hbl
theorem build_one1 (hg : o.guard = none) (x : Operand) (ho : o.op = .buildSlice 33 1 #[(0, x)]) (v : Value) (hx : a.eval x = v) (l : List Ch) (hl : Sl encC w v l)
    (h : ∀ w', SlS w' w'.heap.size (.slice (some ⟨w.heap.size, 0, none⟩) 1 1) [(v, l)] → Below w.heap.size w w' → wpList Try.prog ops Q rest (a.put o.dst (.slice (some ⟨w.heap.size, 0, none⟩) 1 1)) w') : wpList Try.prog ops Q (o :: rest) a w := by
  obtain ⟨i, z, hi, hz, hs, hzc⟩ := infoV
  have cv := cells_sl hl
  refine wpList_plain hg fun K hK => wp_buildSlice 33 23 1 _ ho #[v] i z Try.underlying33 hi hz (by rw [hs]; omega) (by rw [hs]; omega) ?_ (hK _ _ ?_)
  · rw [hs]
    obtain ⟨C, hC⟩ : ∃ C : Array Value, C = (Array.range (1 * 1)).map (z.cells[· % z.cells.size]!) := ⟨_, rfl⟩
    have hsz : C.size = 1 := by rw [hC]; simp
    rw [← hC]
    obtain ⟨cs⟩ := C
    rcases cs with _ | ⟨c0, _ | ⟨c1, cs⟩⟩
    · simp at hsz
    · simp only [List.map_toArray, List.map_cons, List.map_nil, hx]
      rw [fill_put (off := 0) (size := 1) rfl (by rw [cv]; rfl) (by simp)]
      simp [cv, Instr.fill]
    · simp at hsz
  · have hb : (w.alloc (.cells #[v] 23)).heap[w.heap.size]? = some (.cells #[v] 23 (0, 0)) := heap_alloc_new _ _
    have hbl : Below w.heap.size w (w.alloc (.cells #[v] 23)) := (Below.refl _ w).alloc (Nat.le_refl _) _
    refine h _ ⟨⟨_, 1, rfl, Nat.le_refl _, (by unfold maxLen; simp), .inr ⟨w.heap.size, 0, rfl, by simp, fun i hi => ?_⟩⟩, fun e he => ?_⟩ hbl
    · rw [Nat.zero_add, cell_of_row _ _ _ _ _ _ hb]
      match i, hi with
      | 0, _ => rfl
    · rw [List.mem_singleton] at he
      subst he
      exact hl.called hbl
end
/-! Lists that came in. -/
theorem open_pairs {H : Type} {enc : TypeId × Value → H} {W : World} {base : Nat} {held : Bool} {a : Option Addr} {len cap : Nat} {d : DataW H} {p : List MemPlace}
    (h : DataW.Trod enc Try.prog W base (fun _ => true) held 22 (.slice a len cap) d p) : ∃ l : List Pa, Sl encP W (.slice a len cap) l := by
  refine open_els encP 22 48 Try.underlying22 (by kernel_rfl) (by decide) (fun fuel z cs hf hl => ?_) h
  obtain ⟨xs, n', _, _, _, hlen, hf'⟩ := DataW.trod_struct Try.underlying48 hf
  match xs, hlen with
  | [y0, y1], _ =>
    have k24 : Try.prog.cellsOf 41 = 24 := by kernel_rfl
    have k1 : Try.prog.cellsOf 9 = 1 := by kernel_rfl
    have f0 := hf' 0 _ rfl
    have f1 := hf' 1 _ rfl
    simp at f0 f1
    rw [k24] at f0
    rw [k1] at f1
    obtain ⟨K, lK, eK⟩ := trod_key f0
    obtain ⟨s, es, _, _⟩ := DataW.trod_string Try.underlying9 f1
    refine ⟨⟨K, lK, s.data.toList⟩, ?_⟩
    show cs = bc K ++ [.string (str s.data.toList)]
    rw [str_data, ← eK, ← es, List.take_of_length_le (l := cs.drop 24) (by simp; omega), List.take_append_drop]
theorem open_changes {H : Type} {enc : TypeId × Value → H} {W : World} {base : Nat} {held : Bool} {a : Option Addr} {len cap : Nat} {d : DataW H} {p : List MemPlace}
    (h : DataW.Trod enc Try.prog W base (fun _ => true) held 23 (.slice a len cap) d p) : ∃ l : List Ch, Sl encC W (.slice a len cap) l := by
  refine open_els encC 23 43 Try.underlying23 (by kernel_rfl) (by decide) (fun fuel z cs hf hl => ?_) h
  obtain ⟨xs, n', _, _, _, hlen, hf'⟩ := DataW.trod_struct Try.underlying43 hf
  match xs, hlen with
  | [y0, y1, y2], _ =>
    have k24 : Try.prog.cellsOf 41 = 24 := by kernel_rfl
    have k1 : Try.prog.cellsOf 9 = 1 := by kernel_rfl
    have kb1 : Try.prog.cellsOf 4 = 1 := by kernel_rfl
    have f0 := hf' 0 _ rfl
    have f1 := hf' 1 _ rfl
    have f2 := hf' 2 _ rfl
    simp at f0 f1 f2
    rw [k24] at f0
    rw [k1] at f1
    rw [kb1] at f2
    obtain ⟨K, lK, eK⟩ := trod_key f0
    obtain ⟨s, es, _, _⟩ := DataW.trod_string Try.underlying9 f1
    obtain ⟨e, ee, _⟩ := DataW.trod_bool Try.underlying4 f2
    refine ⟨⟨K, lK, s.data.toList, e⟩, ?_⟩
    show cs = bc K ++ [.string (str s.data.toList), .bool e]
    have e2 : cs.drop 25 = [.bool e] := by rw [← ee, List.take_of_length_le (by simp; omega)]
    have e1 : cs.drop 24 = [.string s, .bool e] := by
      rw [← List.take_append_drop 1 (cs.drop 24), es, List.drop_drop, e2]
      rfl
    rw [str_data, ← eK, ← e1, List.take_append_drop]
end Go.Proofs.Ytbodbdcmkicmaaa
