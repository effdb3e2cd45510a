/- What is told of edges: the closures that append them, look. -/
import Derived.Test.YtbdolhmeknlnpaaSpA
namespace Go.Proofs.Ytbdolhmeknlnpaa
set_option linter.unusedVariables false
open Go.RowKit

theorem build_to {ops : Array Oper} {rest : List Oper} {o : Oper} {a : Act} {w : World} {Q : Exit → Act → World → Prop} (hg : o.guard = none) (ty : TypeId) (parts : Array (Nat × Operand)) (ho : o.op = .build ty parts) (vs : List (Nat × Value)) (hv : (parts.map fun x => (x.1, a.eval x.2)).toList = vs) (C : Array Value) (hb : Try.prog.built ty vs = some C)
    (h : wpList Try.prog ops Q rest (a.put o.dst (.agg C)) w) : wpList Try.prog ops Q (o :: rest) a w := by
  subst hv
  refine wpList_plain hg fun K hK => ?_
  refine wp_build ty parts ho (by rw [show (fun x : Nat × Operand => match x with | (i, x) => (i, a.eval x)) = (fun x => (x.1, a.eval x.2)) from rfl, hb]; rfl) ?_
  rw [show (fun x : Nat × Operand => match x with | (i, x) => (i, a.eval x)) = (fun x => (x.1, a.eval x.2)) from rfl, hb]
  exact hK _ _ h
theorem build_two {ops : Array Oper} {rest : List Oper} {o : Oper} {a : Act} {w : World} {Q : Exit → Act → World → Prop} (hg : o.guard = none) (ty : TypeId) (i j : Nat) (x y : Operand) (ho : o.op = .build ty #[(i, x), (j, y)]) (vx vy : Value) (hx : a.eval x = vx) (hy : a.eval y = vy) (C : Array Value) (hb : Try.prog.built ty [(i, vx), (j, vy)] = some C)
    (h : wpList Try.prog ops Q rest (a.put o.dst (.agg C)) w) : wpList Try.prog ops Q (o :: rest) a w := build_to hg ty _ ho [(i, vx), (j, vy)] (by simp [hx, hy]) C hb h
def ed0 : Ed := ⟨zs 24, 0, 0, rfl⟩
theorem Try.edge_built (parts : List (Nat × Value)) : Try.prog.built 57 parts = Instr.fill (#[(0, 24), (24, 1), (25, 1)][·]?) (ecd ed0).toArray parts := by
  have h1 : (Try.prog.info? 57).map (·.zero) = some (some (.agg (ecd ed0).toArray)) := by kernel_rfl
  have h2 : (Try.prog.underlying 57).map (fun d => match d with | .struct fs => fs.toList.mapM (fun f => (Try.prog.info? f.type).map fun i => (f.offset, i.size)) | _ => none) = some (some [(0, 24), (24, 1), (25, 1)]) := by kernel_rfl
  unfold Program.built
  cases hi : Try.prog.info? 57 with
  | none => rw [hi] at h1; cases h1
  | some i =>
    rw [hi] at h1
    have hz : i.zero = some (.agg (ecd ed0).toArray) := by simpa using h1
    cases hu : Try.prog.underlying 57 with
    | none => rw [hu] at h2; cases h2
    | some d =>
      rw [hu] at h2
      cases d with
      | struct fs =>
        have hp : fs.toList.mapM (fun f => (Try.prog.info? f.type).map fun i => (f.offset, i.size)) = some [(0, 24), (24, 1), (25, 1)] := by simpa using h2
        simp only [hz, hp]
        rfl
      | _ => simp at h2
theorem ecd_put (K : List UInt8) (hK : K.length = 24) (a b : Int) : ((ecd ed0).toArray.toList.take 0 ++ (kv K).cells.toList ++ (ecd ed0).toArray.toList.drop (0 + 24)).toArray = (ecd ⟨K, 0, 0, hK⟩).toArray := by
  simp only [ecd, Value.cells, List.take_zero, List.nil_append, Nat.zero_add]
  rfl
theorem builtA (K : List UInt8) (hK : K.length = 24) (m : Int) : Try.prog.built 57 [(0, kv K), (1, .int .i64 m)] = some (ecd (edA K hK m)).toArray := by
  have hl : (bc K).length = 24 := by rw [bc_length, hK]
  rw [Try.edge_built, fill_put (off := 0) (size := 24) rfl (by simp [Value.cells, hl]) (by simp [ecd, bc_length, ed0, zs_length]), ecd_put K hK 0 0,
    fill_put (off := 24) (size := 1) rfl rfl (by simp [ecd, bc_length, hK])]
  simp only [Instr.fill, ecd, edA, Value.cells, List.toList_toArray]
  rw [List.take_append_of_le_length (by omega), List.take_of_length_le (by omega), List.drop_append, List.drop_of_length_le (by omega), hl]
  simp
theorem builtB (K : List UInt8) (hK : K.length = 24) (m : Int) : Try.prog.built 57 [(0, kv K), (2, .int .i64 m)] = some (ecd (edB K hK m)).toArray := by
  have hl : (bc K).length = 24 := by rw [bc_length, hK]
  rw [Try.edge_built, fill_put (off := 0) (size := 24) rfl (by simp [Value.cells, hl]) (by simp [ecd, bc_length, ed0, zs_length]), ecd_put K hK 0 0,
    fill_put (off := 25) (size := 1) rfl rfl (by simp [ecd, bc_length, hK])]
  simp only [Instr.fill, ecd, edB, Value.cells, List.toList_toArray]
  rw [List.take_append, List.take_of_length_le (by omega), hl, List.drop_of_length_le (by simp [hl])]
  simp

/-- The variable that holds the edges. -/
structure EV (w : World) (p : Nat) (v : Value) (es : List Ed) : Prop where
  var : w.heap[p]? = some (.cells #[v] 54 (0, 0))
  own : Own encE 57 w (p + 1) v es
theorem EV.lt {w : World} {p : Nat} {v : Value} {es : List Ed} (h : EV w p v es) : p < w.heap.size := lt_of_block h.var
theorem EV.row {w : World} {p : Nat} {v : Value} {es : List Ed} (h : EV w p v es) : ∀ k, v.ownBlock = some k → p + 1 ≤ k ∧ k < w.heap.size := h.own.lt
theorem EV.below {w w' : World} {p : Nat} {v : Value} {es : List Ed} (h : EV w p v es) (hb : Below w.heap.size w w') : EV w' p v es := ⟨(hb.block p h.lt).trans h.var, h.own.below hb⟩
/-- What a closure that tells an edge does. -/
def Tell (g : Nat) (mk : (K : List UInt8) → K.length = 24 → Int → Ed) (p : Nat) : Prop :=
  ∀ (w : World) (v : Value) (es : List Ed) (K : List UInt8) (hK : K.length = 24) (m : Int), EV w p v es → es.length + 1 ≤ 1000000 →
    Calls Try.prog g #[kv K, .int .i64 m, .pointer (some ⟨p, 0, none⟩)] w fun e w' => e = .returned (.tuple #[]) ∧ ∃ v', EV w' p v' (es ++ [mk K hK m]) ∧ Touch p v.ownBlock w w' ∧ Near v.ownBlock v'.ownBlock w.heap.size
theorem Touch.grown' {p : Nat} {r : Option Nat} {w w' w2 w3 : World} (h : Touch p r w w') (b : Below w'.heap.size w' w2) (g : w2.grownBy w3 r) : Touch p r w w3 :=
  Touch.grown ⟨b.os.trans h.os, b.tape.trans h.tape, b.output.trans h.output, Nat.le_trans h.size b.size, fun k hk hp hr => (b.block k (by have := h.size; omega)).trans (h.block k hk hp hr)⟩ g
set_option maxRecDepth 100000 in
set_option maxHeartbeats 2000000 in
theorem tellA (p : Nat) : Tell 40 edA p := by
  intro w v es K hK m h hlen
  have hq : Has (w.alloc (.cells (bc K).toArray 30)) w.heap.size K := Has.new w K hK
  have hplt := h.lt
  have h0 : EV (w.alloc (.cells (bc K).toArray 30)) p v es := h.below ((Below.refl _ w).alloc (Nat.le_refl _) _)
  have cV : (w.alloc (.cells (bc K).toArray 30)).cell? ⟨p, 0, none⟩ = some v := by rw [cell_of_row _ p 0 _ _ _ h0.var]; rfl
  have hone : v.oneCell' = true := by
    rcases h.own.2 with ⟨rfl, _⟩ | ⟨g, cap, cur, rfl, _⟩ <;> rfl
  have HH : Hid (EV w p v es) := h
  have H0 : Hid (EV (w.alloc (.cells (bc K).toArray 30)) p v es) := h0
  have HB : Hid (Try.prog.built 57 [(0, kv K), (1, .int .i64 m)] = some (ecd (edA K hK m)).toArray) := builtA K hK m
  obtain ⟨E, hE⟩ : ∃ E, E = edA K hK m := ⟨_, rfl⟩
  rw [← hE] at HB ⊢
  have HE : Hid (E = edA K hK m) := hE
  clear h h0 hE
  go_enter Try.func40, Try.ntmps40
  go_wp2_with (first
    | (refine load_key _ rfl w.heap.size rfl rfl _ hq ?_)
    | (refine build_two rfl 57 0 1 _ _ rfl _ _ rfl rfl _ HB.out ?_)
    | (refine build_el1 rowE rfl _ rfl E rfl (by decide) ?_; intro w2 o2 b2 s2 k2; have hs2 : w2.heap.size = w.heap.size + 1 + 1 := by (rw [s2]; simp))
    | (at_builtin; refine append_one rowE rfl _ _ rfl (p + 1) v es rfl (H0.out.own.below b2) _ E rfl (0, 0) _ k2 hlen (by decide) (by omega) ?_; intro g cap w3 o3 gr3 at3 lt3; have cV3 : w3.heap[p]? = some (.cells #[v] 54 (0, 0)) := ((gr3.block p (by omega) (fun q => by have := (HH.out.row p q.symm).1; omega)).trans ((b2.block p (by simp; omega)).trans H0.out.var)); have c3 := cell_of_row w3 p 0 _ _ _ cV3; have f3 : w3.frozen? ⟨p, 0, none⟩ = false := (by simp [World.frozen?, cV3])))
  go_end0
  have hg : p + 1 ≤ g := by
    rcases at3 with q | q
    · exact (HH.out.row g q).1
    · omega
  refine ⟨rfl, _, ⟨?_, o3.same fun k hk => ?_⟩, ?_, ?_⟩
  · rw [setCell_eq_setRow w3 p 0 _ _ _ _ cV3, setRow_heap w3 p _ _ _ _ cV3]
    rfl
  · simp only [Value.ownBlock, Option.some.injEq] at hk
    exact Below.heap_setCell _ _ _ _ (by show k ≠ p; omega)
  · refine Touch.setCell ?_ 0 _
    exact ((Touch.refl p _ w).alloc _).grown' b2 gr3
  · intro k hk
    simp only [Value.ownBlock, Option.some.injEq] at hk
    subst hk
    rcases at3 with q | q
    · exact .inl q
    · exact .inr (by omega)
set_option maxRecDepth 100000 in
set_option maxHeartbeats 2000000 in
theorem tellB (p : Nat) : Tell 41 edB p := by
  intro w v es K hK m h hlen
  have hq : Has (w.alloc (.cells (bc K).toArray 30)) w.heap.size K := Has.new w K hK
  have hplt := h.lt
  have h0 : EV (w.alloc (.cells (bc K).toArray 30)) p v es := h.below ((Below.refl _ w).alloc (Nat.le_refl _) _)
  have cV : (w.alloc (.cells (bc K).toArray 30)).cell? ⟨p, 0, none⟩ = some v := by rw [cell_of_row _ p 0 _ _ _ h0.var]; rfl
  have hone : v.oneCell' = true := by
    rcases h.own.2 with ⟨rfl, _⟩ | ⟨g, cap, cur, rfl, _⟩ <;> rfl
  have HH : Hid (EV w p v es) := h
  have H0 : Hid (EV (w.alloc (.cells (bc K).toArray 30)) p v es) := h0
  have HB : Hid (Try.prog.built 57 [(0, kv K), (2, .int .i64 m)] = some (ecd (edB K hK m)).toArray) := builtB K hK m
  obtain ⟨E, hE⟩ : ∃ E, E = edB K hK m := ⟨_, rfl⟩
  rw [← hE] at HB ⊢
  have HE : Hid (E = edB K hK m) := hE
  clear h h0 hE
  go_enter Try.func41, Try.ntmps41
  go_wp2_with (first
    | (refine load_key _ rfl w.heap.size rfl rfl _ hq ?_)
    | (refine build_two rfl 57 0 2 _ _ rfl _ _ rfl rfl _ HB.out ?_)
    | (refine build_el1 rowE rfl _ rfl E rfl (by decide) ?_; intro w2 o2 b2 s2 k2; have hs2 : w2.heap.size = w.heap.size + 1 + 1 := by (rw [s2]; simp))
    | (at_builtin; refine append_one rowE rfl _ _ rfl (p + 1) v es rfl (H0.out.own.below b2) _ E rfl (0, 0) _ k2 hlen (by decide) (by omega) ?_; intro g cap w3 o3 gr3 at3 lt3; have cV3 : w3.heap[p]? = some (.cells #[v] 54 (0, 0)) := ((gr3.block p (by omega) (fun q => by have := (HH.out.row p q.symm).1; omega)).trans ((b2.block p (by simp; omega)).trans H0.out.var)); have c3 := cell_of_row w3 p 0 _ _ _ cV3; have f3 : w3.frozen? ⟨p, 0, none⟩ = false := (by simp [World.frozen?, cV3])))
  go_end0
  have hg : p + 1 ≤ g := by
    rcases at3 with q | q
    · exact (HH.out.row g q).1
    · omega
  refine ⟨rfl, _, ⟨?_, o3.same fun k hk => ?_⟩, ?_, ?_⟩
  · rw [setCell_eq_setRow w3 p 0 _ _ _ _ cV3, setRow_heap w3 p _ _ _ _ cV3]
    rfl
  · simp only [Value.ownBlock, Option.some.injEq] at hk
    exact Below.heap_setCell _ _ _ _ (by show k ≠ p; omega)
  · refine Touch.setCell ?_ 0 _
    exact ((Touch.refl p _ w).alloc _).grown' b2 gr3
  · intro k hk
    simp only [Value.ownBlock, Option.some.injEq] at hk
    subst hk
    rcases at3 with q | q
    · exact .inl q
    · exact .inr (by omega)
end Go.Proofs.Ytbdolhmeknlnpaa
