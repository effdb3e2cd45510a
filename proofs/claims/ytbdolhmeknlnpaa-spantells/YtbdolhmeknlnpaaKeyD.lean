/- The calls that make spans. -/
import Derived.Test.YtbdolhmeknlnpaaKeyC
namespace Go.Proofs.Ytbdolhmeknlnpaa
set_option linter.unusedVariables false
open Go.RowKit

theorem Try.span_built (parts : List (Nat × Value)) : Try.prog.built 35 parts = Instr.fill (#[(0, 24), (24, 24), (48, 1)][·]?) (sc (zs 24) (zs 24) false).toArray parts := by
  have h1 : (Try.prog.info? 35).map (·.zero) = some (some (.agg (sc (zs 24) (zs 24) false).toArray)) := by kernel_rfl
  have h2 : (Try.prog.underlying 35).map (fun d => match d with | .struct fs => fs.toList.mapM (fun f => (Try.prog.info? f.type).map fun i => (f.offset, i.size)) | _ => none) = some (some [(0, 24), (24, 24), (48, 1)]) := by kernel_rfl
  unfold Program.built
  cases hi : Try.prog.info? 35 with
  | none => rw [hi] at h1; cases h1
  | some i =>
    rw [hi] at h1
    have hz : i.zero = some (.agg (sc (zs 24) (zs 24) false).toArray) := by simpa using h1
    cases hu : Try.prog.underlying 35 with
    | none => rw [hu] at h2; cases h2
    | some d =>
      rw [hu] at h2
      cases d with
      | struct fs =>
        have hp : fs.toList.mapM (fun f => (Try.prog.info? f.type).map fun i => (f.offset, i.size)) = some [(0, 24), (24, 24), (48, 1)] := by simpa using h2
        simp only [hz, hp]
        rfl
      | _ => simp at h2
theorem sc_F (F F' T : List UInt8) (e : Bool) (hF : F.length = 24) (hF' : F'.length = 24) : ((sc F T e).toArray.toList.take 0 ++ (kv F').cells.toList ++ (sc F T e).toArray.toList.drop (0 + 24)).toArray = (sc F' T e).toArray := by
  have h : (bc F).length = 24 := by rw [bc_length, hF]
  simp only [sc, Value.cells, List.take_zero, List.nil_append, Nat.zero_add, List.append_assoc]
  rw [List.drop_append_of_le_length (by omega), List.drop_of_length_le (by omega)]
  rfl
theorem sc_T (F T T' : List UInt8) (e : Bool) (hF : F.length = 24) (hT : T.length = 24) : ((sc F T e).toArray.toList.take 24 ++ (kv T').cells.toList ++ (sc F T e).toArray.toList.drop (24 + 24)).toArray = (sc F T' e).toArray := by
  have h : (bc F).length = 24 := by rw [bc_length, hF]
  have h' : (bc T).length = 24 := by rw [bc_length, hT]
  simp only [sc, Value.cells, List.append_assoc]
  rw [List.take_append_of_le_length (by omega), List.take_of_length_le (by omega), List.drop_append, List.drop_of_length_le (by omega), h, List.drop_append_of_le_length (by omega), List.drop_of_length_le (by omega)]
  rfl
theorem sc_E (F T : List UInt8) (e e' : Bool) (hF : F.length = 24) (hT : T.length = 24) : ((sc F T e).toArray.toList.take 48 ++ (Value.bool e').cells.toList ++ (sc F T e).toArray.toList.drop (48 + 1)).toArray = (sc F T e').toArray := by
  have h : (bc F ++ bc T).length = 48 := by rw [List.length_append, bc_length, bc_length, hF, hT]
  simp only [sc, Value.cells]
  rw [List.take_append_of_le_length (by omega), List.take_of_length_le (by omega), List.drop_of_length_le (by simp [bc_length, hF, hT]), List.append_nil]
theorem built3 (F T : List UInt8) (e : Bool) (hF : F.length = 24) (hT : T.length = 24) : Try.prog.built 35 [(0, kv F), (1, kv T), (2, .bool e)] = some (sc F T e).toArray := by
  rw [Try.span_built, fill_put (off := 0) (size := 24) rfl (by simp [Value.cells, bc_length, hF]) (by simp [sc, bc_length, zs_length]), sc_F _ _ _ _ (zs_length _) hF,
    fill_put (off := 24) (size := 24) rfl (by simp [Value.cells, bc_length, hT]) (by simp [sc, bc_length, zs_length, hF]), sc_T _ _ _ _ hF (zs_length _),
    fill_put (off := 48) (size := 1) rfl rfl (by simp [sc, bc_length, hF, hT]), sc_E _ _ _ _ hF hT]
  rfl
theorem built2 (F T : List UInt8) (hF : F.length = 24) (hT : T.length = 24) : Try.prog.built 35 [(0, kv F), (1, kv T)] = some (sc F T false).toArray := by
  rw [Try.span_built, fill_put (off := 0) (size := 24) rfl (by simp [Value.cells, bc_length, hF]) (by simp [sc, bc_length, zs_length]), sc_F _ _ _ _ (zs_length _) hF,
    fill_put (off := 24) (size := 24) rfl (by simp [Value.cells, bc_length, hT]) (by simp [sc, bc_length, zs_length, hF]), sc_T _ _ _ _ hF (zs_length _)]
  rfl
theorem builtE (F : List UInt8) (e : Bool) (hF : F.length = 24) : Try.prog.built 35 [(0, kv F), (2, .bool e)] = some (sc F (zs 24) e).toArray := by
  rw [Try.span_built, fill_put (off := 0) (size := 24) rfl (by simp [Value.cells, bc_length, hF]) (by simp [sc, bc_length, zs_length]), sc_F _ _ _ _ (zs_length _) hF,
    fill_put (off := 48) (size := 1) rfl rfl (by simp [sc, bc_length, hF, zs_length]), sc_E _ _ _ _ hF (zs_length _)]
  rfl

theorem wp_build2 {o : Oper} {a : Act} {w : World} {K : Act → World → Prop} {Q : Exit → Act → World → Prop} (x y : Operand) (ho : o.op = .build 35 #[(0, x), (1, y)]) (F T : List UInt8) (hx : a.eval x = kv F) (hy : a.eval y = kv T) (hF : F.length = 24) (hT : T.length = 24)
    (h : K (a.put o.dst (sv F T false)) w) : o.wp Try.prog a w K Q := by
  have hb := built2 F T hF hT
  have e : (Array.map (fun x : Nat × Operand => match x with | (i, x) => (i, a.eval x)) #[(0, x), (1, y)]).toList = [(0, kv F), (1, kv T)] := by simp [hx, hy]
  refine wp_build 35 _ ho (by rw [e, hb]; rfl) ?_
  rw [e, hb]
  exact h
theorem wp_store_span {o : Oper} {a : Act} {w : World} {K : Act → World → Prop} {Q : Exit → Act → World → Prop} (x y : Operand) (ho : o.op = .store 35 x y) (b : Nat) (hx : a.eval x = .pointer (some ⟨b, 0, none⟩)) (F T : List UInt8) (e : Bool) (hy : a.eval y = sv F T e) (hF : F.length = 24) (hT : T.length = 24) (F' T' : List UInt8) (e' : Bool) (hK : HasS w b F' T' e')
    (h : K (a.put o.dst undef) (w.setRow b (sc F T e).toArray)) : o.wp Try.prog a w K Q :=
  wp_store_row _ x y ho b _ hx hy _ _ hK.blk (by rw [sv_size _ _ _ hF hT]; exact Try.span_info) (by rw [sv_size _ _ _ hF hT, sv_size _ _ _ hK.f hK.t]) (sv_all _ _ _) h
theorem build_any {ops : Array Oper} {rest : List Oper} {o : Oper} {a : Act} {w : World} {Q : Exit → Act → World → Prop} (hg : o.guard = none) (parts : Array (Nat × Operand)) (ho : o.op = .build 35 parts) (vs : List (Nat × Value)) (hv : (parts.map fun x => (x.1, a.eval x.2)).toList = vs) (C : Array Value) (hb : Try.prog.built 35 vs = some C)
    (h : wpList Try.prog ops Q rest (a.put o.dst (.agg C)) w) : wpList Try.prog ops Q (o :: rest) a w := by
  subst hv
  refine wpList_plain hg fun K hK => ?_
  refine wp_build 35 parts ho (by rw [show (fun x : Nat × Operand => match x with | (i, x) => (i, a.eval x)) = (fun x => (x.1, a.eval x.2)) from rfl, hb]; rfl) ?_
  rw [show (fun x : Nat × Operand => match x with | (i, x) => (i, a.eval x)) = (fun x => (x.1, a.eval x.2)) from rfl, hb]
  exact hK _ _ h

section
variable {ops : Array Oper} {rest : List Oper} {o : Oper} {a : Act} {w : World} {Q : Exit → Act → World → Prop}
theorem build3 (hg : o.guard = none) (x y z : Operand) (ho : o.op = .build 35 #[(0, x), (1, y), (2, z)]) (F T : List UInt8) (e : Bool) (hx : a.eval x = kv F) (hy : a.eval y = kv T) (hz : a.eval z = .bool e) (hF : F.length = 24) (hT : T.length = 24)
    (h : wpList Try.prog ops Q rest (a.put o.dst (sv F T e)) w) : wpList Try.prog ops Q (o :: rest) a w :=
  build_any hg _ ho [(0, kv F), (1, kv T), (2, .bool e)] (by simp [hx, hy, hz]) _ (built3 F T e hF hT) h
theorem build2 (hg : o.guard = none) (x y : Operand) (ho : o.op = .build 35 #[(0, x), (1, y)]) (F T : List UInt8) (hx : a.eval x = kv F) (hy : a.eval y = kv T) (hF : F.length = 24) (hT : T.length = 24)
    (h : wpList Try.prog ops Q rest (a.put o.dst (sv F T false)) w) : wpList Try.prog ops Q (o :: rest) a w :=
  build_any hg _ ho [(0, kv F), (1, kv T)] (by simp [hx, hy]) _ (built2 F T hF hT) h
theorem buildE (hg : o.guard = none) (x z : Operand) (ho : o.op = .build 35 #[(0, x), (2, z)]) (F : List UInt8) (e : Bool) (hx : a.eval x = kv F) (hz : a.eval z = .bool e) (hF : F.length = 24)
    (h : wpList Try.prog ops Q rest (a.put o.dst (sv F (zs 24) e)) w) : wpList Try.prog ops Q (o :: rest) a w :=
  build_any hg _ ho [(0, kv F), (2, .bool e)] (by simp [hx, hz]) _ (builtE F e hF) h
theorem build0 (hg : o.guard = none) (ho : o.op = .build 35 #[])
    (h : wpList Try.prog ops Q rest (a.put o.dst (sv (zs 24) (zs 24) false)) w) : wpList Try.prog ops Q (o :: rest) a w :=
  build_any hg _ ho [] (by simp) _ (Try.span_built []) h
end
theorem zero_hasS (w : World) (b : Nat) (hb : b = w.heap.size) : HasS (w.alloc (.cells (sc (zs 24) (zs 24) false).toArray 35)) b (zs 24) (zs 24) false := hb ▸ HasS.new w (zs 24) (zs 24) false rfl rfl

theorem Has.range {w : World} {b : Nat} {K : List UInt8} (h : Has w b K) : w.rangeAt b 0 (bc K) := fun j v hv => by
  rw [cell_of_row w b _ _ _ _ h.blk]
  simpa using hv

/-- What stands while a span is made: the key in block c, room for the span in block b. -/
def Mk (w : World) (b c : Nat) (K : List UInt8) (w' : World) : Prop := (∃ F T e, HasS w' b F T e) ∧ Has w' c K ∧ Below w.heap.size w w' ∧ w.heap.size ≤ b ∧ b < c
theorem Mk.drew {w w' : World} {b c : Nat} {K : List UInt8} (h : Mk w b c K w') : Mk w b c K w'.drew := by
  obtain ⟨⟨F, T, e, h1⟩, h2, h3, h4⟩ := h
  exact ⟨⟨F, T, e, h1.f, h1.t, h1.blk⟩, ⟨h2.len, h2.blk⟩, h3.drew, h4⟩
theorem Mk.called {w w' w'' : World} {b c : Nat} {K : List UInt8} (h : Mk w b c K w') (hb : Below w'.heap.size w' w'') : Mk w b c K w'' := by
  obtain ⟨⟨F, T, e, h1⟩, h2, h3, h4⟩ := h
  exact ⟨⟨F, T, e, h1.below hb h1.lt⟩, h2.below hb h2.lt, below_called h3 hb (Nat.le_refl _), h4⟩
theorem HasS.row {w : World} {b : Nat} {F T F' T' : List UInt8} {e e' : Bool} (h : HasS w b F T e) (hF : F'.length = 24) (hT : T'.length = 24) : HasS (w.setRow b (sc F' T' e').toArray) b F' T' e' := ⟨hF, hT, setRow_heap w b _ _ _ _ h.blk⟩
theorem Mk.put {w w' : World} {b c : Nat} {K F T : List UInt8} {e : Bool} (h : Mk w b c K w') (hF : F.length = 24) (hT : T.length = 24) : Mk w b c K (w'.setRow b (sc F T e).toArray) := by
  obtain ⟨⟨F', T', e', h1⟩, h2, h3, h4, h5⟩ := h
  exact ⟨⟨F, T, e, h1.row hF hT⟩, h2.touch (touch_setRow _ _ _) (by omega), below_touched h3 (touch_setRow _ _ _) h4 (Nat.le_refl _), h4, h5⟩
theorem Mk.range {w w' : World} {b c : Nat} {K : List UInt8} (h : Mk w b c K w') : w'.rangeAt c 0 (bc K) := h.2.1.range

def entriesF (n : Int) : List UInt8 := if okN n then headK n.toNat 2 else zs 24
def entriesT (n : Int) : List UInt8 := if okN n then headK n.toNat 3 else zs 24
def chunksF (n p : Int) : List UInt8 := chunkR n p
def chunksT (n p : Int) : List UInt8 := if okN n && okP p then headK n.toNat 4 else zs 24
theorem entriesF_length (n : Int) : (entriesF n).length = 24 := by unfold entriesF; split <;> simp [headK_length, zs_length]
theorem entriesT_length (n : Int) : (entriesT n).length = 24 := by unfold entriesT; split <;> simp [headK_length, zs_length]
theorem chunksF_length (n p : Int) : (chunksF n p).length = 24 := chunkR_length n p
theorem chunksT_length (n p : Int) : (chunksT n p).length = 24 := by unfold chunksT; split <;> simp [headK_length, zs_length]

end Go.Proofs.Ytbdolhmeknlnpaa
