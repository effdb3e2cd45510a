import Derived.Test.YtgicanpggndbeaaGreatB02
import Derived.Deep.DeepCutAuto
/- The calls that make spans. -/
namespace Go.Proofs.YtgicanpggndbeaaGreat
set_option linter.unusedVariables false
set_option maxRecDepth 100000
open Go.RowKit

theorem Tryz.span_built (parts : List (Nat × Value)) : Tryz.prog.built 96 parts = Instr.fill (#[(0, 24), (24, 24), (48, 1)][·]?) (sc (zs 24) (zs 24) false).toArray parts := by
 have h1 : (Tryz.prog.info? 96).map (·.zero) = some (some (.agg (sc (zs 24) (zs 24) false).toArray)) := by kernel_rfl
 have h2 : (Tryz.prog.underlying 96).map (fun d => match d with | .struct fs => fs.toList.mapM (fun f => (Tryz.prog.info? f.type).map fun i => (f.offset, i.size)) | _ => none) = some (some [(0, 24), (24, 24), (48, 1)]) := by kernel_rfl
 unfold Program.built
 cases hi : Tryz.prog.info? 96 with
 | none => rw [hi] at h1; cases h1
 | some i =>
  rw [hi] at h1
  have hz : i.zero = some (.agg (sc (zs 24) (zs 24) false).toArray) := by simpa using h1
  cases hu : Tryz.prog.underlying 96 with
  | none => rw [hu] at h2; cases h2
  | some d =>
   rw [hu] at h2
   cases d with
   | struct fs =>
    have hp : fs.toList.mapM (fun f => (Tryz.prog.info? f.type).map fun i => (f.offset, i.size)) = some [(0, 24), (24, 24), (48, 1)] := by simpa using h2
    simp only [hz, hp]
    rfl
   | _ => simp at h2
theorem sc_F (F F' T : List UInt8) (e : Bool) (hF : F.length = 24) (hF' : F'.length = 24) : ((sc F T e).toArray.toList.take 0 ++ (kv F').cells.toList ++ (sc F T e).toArray.toList.drop (0 + 24)).toArray = (sc F' T e).toArray := by
 have h : (bc F).length = 24 := by rw [bc_length, hF]
 simp only [sc, Value.cells, List.take_zero, List.nil_append, Nat.zero_add, List.append_assoc]
 rw [List.drop_append_of_le_length (by omega), List.drop_of_length_le (by omega)]
 rfl
theorem sc_T (F T T' : List UInt8) (e : Bool) (hF : F.length = 24) (hT : T.length = 24) : ((sc F T e).toArray.toList.take 24 ++ (kv T').cells.toList ++ (sc F T e).toArray.toList.drop (24 + 24)).toArray = (sc F T' e).toArray := by
 have h : (bc F).length = 24 := by rw [bc_length, hF]
 have h' : (bc T).length = 24 := by rw [bc_length, hT]
 simp only [sc, Value.cells, List.append_assoc]
 rw [List.take_append_of_le_length (by omega), List.take_of_length_le (by omega), List.drop_append, List.drop_of_length_le (by omega), h, List.drop_append_of_le_length (by omega), List.drop_of_length_le (by omega)]
 rfl
theorem sc_E (F T : List UInt8) (e e' : Bool) (hF : F.length = 24) (hT : T.length = 24) : ((sc F T e).toArray.toList.take 48 ++ (Value.bool e').cells.toList ++ (sc F T e).toArray.toList.drop (48 + 1)).toArray = (sc F T e').toArray := by
 have h : (bc F ++ bc T).length = 48 := by rw [List.length_append, bc_length, bc_length, hF, hT]
 simp only [sc, Value.cells]
 rw [List.take_append_of_le_length (by omega), List.take_of_length_le (by omega), List.drop_of_length_le (by simp [bc_length, hF, hT]), List.append_nil]
theorem built3 (F T : List UInt8) (e : Bool) (hF : F.length = 24) (hT : T.length = 24) : Tryz.prog.built 96 [(0, kv F), (1, kv T), (2, .bool e)] = some (sc F T e).toArray := by
 rw [Tryz.span_built, fill_put (off := 0) (size := 24) rfl (by simp [Value.cells, bc_length, hF]) (by simp [sc, bc_length, zs_length]), sc_F _ _ _ _ (zs_length _) hF,
   fill_put (off := 24) (size := 24) rfl (by simp [Value.cells, bc_length, hT]) (by simp [sc, bc_length, zs_length, hF]), sc_T _ _ _ _ hF (zs_length _),
   fill_put (off := 48) (size := 1) rfl rfl (by simp [sc, bc_length, hF, hT]), sc_E _ _ _ _ hF hT]
 rfl
theorem built2 (F T : List UInt8) (hF : F.length = 24) (hT : T.length = 24) : Tryz.prog.built 96 [(0, kv F), (1, kv T)] = some (sc F T false).toArray := by
 rw [Tryz.span_built, fill_put (off := 0) (size := 24) rfl (by simp [Value.cells, bc_length, hF]) (by simp [sc, bc_length, zs_length]), sc_F _ _ _ _ (zs_length _) hF,
   fill_put (off := 24) (size := 24) rfl (by simp [Value.cells, bc_length, hT]) (by simp [sc, bc_length, zs_length, hF]), sc_T _ _ _ _ hF (zs_length _)]
 rfl
theorem builtE (F : List UInt8) (e : Bool) (hF : F.length = 24) : Tryz.prog.built 96 [(0, kv F), (2, .bool e)] = some (sc F (zs 24) e).toArray := by
 rw [Tryz.span_built, fill_put (off := 0) (size := 24) rfl (by simp [Value.cells, bc_length, hF]) (by simp [sc, bc_length, zs_length]), sc_F _ _ _ _ (zs_length _) hF,
   fill_put (off := 48) (size := 1) rfl rfl (by simp [sc, bc_length, hF, zs_length]), sc_E _ _ _ _ hF (zs_length _)]
 rfl

theorem wp_build2 {o : Oper} {a : Act} {w : World} {K : Act → World → Prop} {Q : Exit → Act → World → Prop} (x y : Operand) (ho : o.op = .build 96 #[(0, x), (1, y)]) (F T : List UInt8) (hx : a.eval x = kv F) (hy : a.eval y = kv T) (hF : F.length = 24) (hT : T.length = 24)
    (h : K (a.put o.dst (sv F T false)) w) : o.wp Tryz.prog a w K Q := by
 have hb := built2 F T hF hT
 have e : (Array.map (fun x : Nat × Operand => match x with | (i, x) => (i, a.eval x)) #[(0, x), (1, y)]).toList = [(0, kv F), (1, kv T)] := by simp [hx, hy]
 refine wp_build 96 _ ho (by rw [e, hb]; rfl) ?_
 rw [e, hb]
 exact h
theorem build_any {ops : Array Oper} {rest : List Oper} {o : Oper} {a : Act} {w : World} {Q : Exit → Act → World → Prop} (hg : o.guard = none) (parts : Array (Nat × Operand)) (ho : o.op = .build 96 parts) (vs : List (Nat × Value)) (hv : (parts.map fun x => (x.1, a.eval x.2)).toList = vs) (C : Array Value) (hb : Tryz.prog.built 96 vs = some C)
    (h : wpList Tryz.prog ops Q rest (a.put o.dst (.agg C)) w) : wpList Tryz.prog ops Q (o :: rest) a w := by
 subst hv
 refine wpList_plain hg fun K hK => ?_
 refine wp_build 96 parts ho (by rw [show (fun x : Nat × Operand => match x with | (i, x) => (i, a.eval x)) = (fun x => (x.1, a.eval x.2)) from rfl, hb]; rfl) ?_
 rw [show (fun x : Nat × Operand => match x with | (i, x) => (i, a.eval x)) = (fun x => (x.1, a.eval x.2)) from rfl, hb]
 exact hK _ _ h

section
variable {ops : Array Oper} {rest : List Oper} {o : Oper} {a : Act} {w : World} {Q : Exit → Act → World → Prop}
theorem build3 (hg : o.guard = none) (x y z : Operand) (ho : o.op = .build 96 #[(0, x), (1, y), (2, z)]) (F T : List UInt8) (e : Bool) (hx : a.eval x = kv F) (hy : a.eval y = kv T) (hz : a.eval z = .bool e) (hF : F.length = 24) (hT : T.length = 24)
    (h : wpList Tryz.prog ops Q rest (a.put o.dst (sv F T e)) w) : wpList Tryz.prog ops Q (o :: rest) a w :=
 build_any hg _ ho [(0, kv F), (1, kv T), (2, .bool e)] (by simp [hx, hy, hz]) _ (built3 F T e hF hT) h
theorem build2 (hg : o.guard = none) (x y : Operand) (ho : o.op = .build 96 #[(0, x), (1, y)]) (F T : List UInt8) (hx : a.eval x = kv F) (hy : a.eval y = kv T) (hF : F.length = 24) (hT : T.length = 24)
    (h : wpList Tryz.prog ops Q rest (a.put o.dst (sv F T false)) w) : wpList Tryz.prog ops Q (o :: rest) a w :=
 build_any hg _ ho [(0, kv F), (1, kv T)] (by simp [hx, hy]) _ (built2 F T hF hT) h
theorem buildE (hg : o.guard = none) (x z : Operand) (ho : o.op = .build 96 #[(0, x), (2, z)]) (F : List UInt8) (e : Bool) (hx : a.eval x = kv F) (hz : a.eval z = .bool e) (hF : F.length = 24)
    (h : wpList Tryz.prog ops Q rest (a.put o.dst (sv F (zs 24) e)) w) : wpList Tryz.prog ops Q (o :: rest) a w :=
 build_any hg _ ho [(0, kv F), (2, .bool e)] (by simp [hx, hz]) _ (builtE F e hF) h
theorem build0 (hg : o.guard = none) (ho : o.op = .build 96 #[])
    (h : wpList Tryz.prog ops Q rest (a.put o.dst (sv (zs 24) (zs 24) false)) w) : wpList Tryz.prog ops Q (o :: rest) a w :=
 build_any hg _ ho [] (by simp) _ (Tryz.span_built []) h
end
theorem zero_hasS (w : World) (b : Nat) (hb : b = w.heap.size) : HasS (w.alloc (.cells (sc (zs 24) (zs 24) false).toArray 96)) b (zs 24) (zs 24) false := hb ▸ HasS.new w (zs 24) (zs 24) false rfl rfl

theorem Has.range {w : World} {b : Nat} {K : List UInt8} (h : Has w b K) : w.rangeAt b 0 (bc K) := fun j v hv => by
 rw [cell_of_row w b _ _ _ _ h.blk]
 simpa using hv

theorem HasS.row {w : World} {b : Nat} {F T F' T' : List UInt8} {e e' : Bool} (h : HasS w b F T e) (hF : F'.length = 24) (hT : T'.length = 24) : HasS (w.setRow b (sc F' T' e').toArray) b F' T' e' := ⟨hF, hT, setRow_heap w b _ _ _ _ h.blk⟩
def entriesF (n : Int) : List UInt8 := if okN n then headK n.toNat 2 else zs 24
def entriesT (n : Int) : List UInt8 := if okN n then headK n.toNat 3 else zs 24
theorem entriesF_length (n : Int) : (entriesF n).length = 24 := by unfold entriesF; split <;> simp [headK_length, zs_length]
theorem entriesT_length (n : Int) : (entriesT n).length = 24 := by unfold entriesT; split <;> simp [headK_length, zs_length]
set_option maxHeartbeats 1000000 in
theorem entries_calls (n : Int) (w : World) :
    Calls Tryz.prog 73 #[.int .i64 n] w fun e w' => e = .returned (sv (entriesF n) (entriesT n) false) ∧ Below w.heap.size w w' := by
 by_cases hn : okN n = true
 · have h0 : 1 ≤ n ∧ n < 1073741824 := by simpa [okN] using hn
   go_enter Tryz.func73, Tryz.ntmps73
   go_wp2_with (first
    | (go_at_call 105; refine (isNumber_calls n _).mono ?_; rintro e w1 ⟨rfl, rfl⟩)
    | (go_at_call 107; have _q := b2; refine (least_calls n 3 3 (by decide) _ (by omega)).mono ?_; rintro e w3 ⟨rfl, b3⟩)
    | (go_at_call 107; refine (least_calls n 2 2 (by decide) _ (by omega)).mono ?_; rintro e w2 ⟨rfl, b2⟩)
    | (refine build2 rfl _ _ rfl _ _ rfl rfl (headK_length n.toNat 2) (headK_length n.toNat 3) ?_)
    | (refine store_span rfl _ _ rfl _ rfl _ _ _ rfl (headK_length _ _) (headK_length _ _) (zs 24) (zs 24) false (((zero_hasS w w.heap.size rfl).below b2 (by simp)).below b3 (by have := b2.size; simp at this; omega)) ?_; intro w4 h4 t4 s4))
   refine ret_span rfl _ _ _ _ rfl h4 rfl ⟨by rw [entriesF, entriesT, if_pos hn, if_pos hn], ?_⟩
   exact below_touched (below_called (below_called (below_made (Below.refl _ w) (Nat.le_refl _) _) b2 (Nat.le_refl _)) b3 (Nat.le_refl _)) t4 (Nat.le_refl _) (Nat.le_refl _)
 · have hf : okN n = false := by simpa using hn
   have h0 : ¬ (1 ≤ n ∧ n < 1073741824) := by simpa [okN] using hn
   go_enter Tryz.func73, Tryz.ntmps73
   go_wp2_with (first
    | (go_at_call 105; refine (isNumber_calls n _).mono ?_; rintro e w1 ⟨rfl, rfl⟩; rw [decide_eq_false h0])
    | (refine build0 rfl rfl ?_)
    | (refine store_span rfl _ _ rfl _ rfl _ _ _ rfl rfl rfl (zs 24) (zs 24) false (zero_hasS w w.heap.size rfl) ?_; intro w4 h4 t4 s4))
   refine ret_span rfl _ _ _ _ rfl h4 rfl ⟨by rw [entriesF, entriesT, hf]; rfl, ?_⟩
   exact below_touched (below_made (Below.refl _ w) (Nat.le_refl _) _) t4 (Nat.le_refl _) (Nat.le_refl _)

end Go.Proofs.YtgicanpggndbeaaGreat
/- The key behind a key, the span of one key. -/
namespace Go.Proofs.YtgicanpggndbeaaGreat
set_option linter.unusedVariables false
set_option maxRecDepth 100000
open Go.RowKit

/-- The least key above one: the bytes from place i down are counted on. -/
def nxt (K : List UInt8) : Nat → List UInt8 × Bool
 | 0 => (K, false)
 | i + 1 => if K.getD i 0 + 1 = 0 then nxt (K.set i 0) i else (K.set i (K.getD i 0 + 1), true)
theorem nxt_length (K : List UInt8) : ∀ i, (nxt K i).1.length = K.length := by
 intro i
 induction i generalizing K with
 | zero => rfl
 | succ i ih =>
  rw [nxt]
  split
  · rw [ih]; simp
  · simp
theorem u8_zero (x : UInt8) : ((x.toNat : Nat) : Int) = 0 ↔ x = 0 := by
 rw [← UInt8.toNat_inj]
 simp

theorem u8_back {x : UInt8} (h : x + 1 = 0) : x = 255 := by
 have h1 : (x + 1).toNat = 0 := by rw [h]; rfl
 rw [UInt8.toNat_add, show (1 : UInt8).toNat = 1 from rfl] at h1
 have h2 := x.toNat_lt
 exact UInt8.toNat_inj.1 (show x.toNat = 255 by omega)
theorem u8_less {x : UInt8} (h : ¬ x + 1 = 0) : (x.toNat : Int) < 255 := by
 have h1 := x.toNat_lt
 have h2 : x.toNat ≠ 255 := fun e => h (by
  have : x = 255 := UInt8.toNat_inj.1 (by rw [e]; rfl)
  subst this
  rfl)
 omega
theorem u8_plus {x : UInt8} (h : ¬ x + 1 = 0) : (((x + 1).toNat : Nat) : Int) = (x.toNat : Int) + 1 := by
 have := u8_less h
 rw [UInt8.toNat_add]
 have e : (1 : UInt8).toNat = 1 := rfl
 rw [e]
 omega
set_option maxRecDepth 100000 in
set_option maxHeartbeats 2000000 in
theorem after_calls (w : World) (K : List UInt8) (hK : K.length = 24) :
    Calls Tryz.prog 151 #[kv K] w fun e w' => e = .returned (.tuple #[kv (nxt K 24).1, .bool (nxt K 24).2]) ∧ Below w.heap.size w w' := by
 have h1 : Has ((w.alloc (.cells (bc K).toArray 29)).alloc (.cells (bc (zs 24)).toArray 29)) w.heap.size K := (Has.new w K hK).alloc _
 have h2 : Has ((w.alloc (.cells (bc K).toArray 29)).alloc (.cells (bc (zs 24)).toArray 29)) (w.heap.size + 1) (zs 24) := by have := Has.new (w.alloc (.cells (bc K).toArray 29)) (zs 24) rfl; simpa using this
 have B1 : Below w.heap.size w ((w.alloc (.cells (bc K).toArray 29)).alloc (.cells (bc (zs 24)).toArray 29)) := below_made (below_made (Below.refl _ w) (Nat.le_refl _) _) (Nat.le_refl _) _
 go_enter Tryz.func151, Tryz.ntmps151
 go_wp2
 go_loopw [4] (fun i w' => ∃ (j : Nat) (L : List UInt8), j ≤ 24 ∧ i = .int .i64 ((j : Int) - 1) ∧ Has w' w.heap.size L ∧ Has w' (w.heap.size + 1) (zs 24) ∧ Below w.heap.size w w' ∧ nxt L j = nxt K 24) (fun i _ => (intOf i + 1).toNat)
 case atStart => exact ⟨24, K, by omega, rfl, h1, h2, B1, rfl⟩
 case round =>
  obtain ⟨j, L, hj, rfl, h3, h4, B3, hn⟩ := hrel
  have HN : Hid (nxt L j = nxt K 24) := hn
  clear hn h1 h2 B1
  by_cases hj0 : j = 0
  · subst hj0
    go_wp2_with (first
     | (refine load_key _ rfl _ rfl rfl _ h3 ?_)
     | (refine store_key rfl _ _ rfl _ rfl _ rfl h3.len _ h4 ?_; intro w5 h5 t5 s5))
    refine ret_key_ok rfl _ _ _ rfl rfl h5 rfl ⟨by rw [← HN.out]; rfl, below_touched B3 t5 (by omega) (Nat.le_refl _)⟩
  · obtain ⟨i, rfl⟩ : ∃ i, j = i + 1 := ⟨j - 1, by omega⟩
    have c1 := h3.cell i (by omega)
    have f1 := h3.free i
    have e1 : ((i + 1 : Nat) : Int) - 1 = (i : Int) := by omega
    rw [e1]
    rw [nxt] at HN
    by_cases hx : L.getD i 0 + 1 = 0
    · have hx1 : (L.getD i 0).toNat = 255 := by rw [u8_back hx]; rfl
      rw [if_pos hx] at HN
      rw [hx1] at c1
      have h5 := h3.setCell i 0
      go_wp2
      go_roundw
      case rel => exact ⟨i, L.set i 0, by omega, by go_num, h5, h4.setOther (by omega) _ _, B3.setCell (by simp) _, HN.out⟩
      case measure => simp [intOf]
    · rw [if_neg hx] at HN
      have hx1 := u8_less hx
      have h5 := h3.setCell i (L.getD i 0 + 1)
      rw [u8_plus hx] at h5
      have HX : Hid (¬ L.getD i 0 + 1 = 0) := hx
      clear hx
      have hl5 := h5.len
      generalize L.set i (L.getD i 0 + 1) = L5 at h5 HN hl5
      generalize L.getD i 0 = x at *
      go_wp2_with (first
       | (refine load_key _ rfl _ rfl rfl _ h5 ?_)
       | (refine store_key rfl _ _ rfl _ rfl _ rfl hl5 _ (h4.setOther (by omega) _ _) ?_; intro w6 h6 t6 s6))
      refine ret_key_ok rfl _ _ _ rfl rfl h6 rfl ⟨by rw [← HN.out]; rfl, below_touched (B3.setCell (by simp) _) t6 (by omega) (Nat.le_refl _)⟩

def oneT (K : List UInt8) : List UInt8 := (nxt K 24).1
def oneE (K : List UInt8) : Bool := !(nxt K 24).2
theorem oneT_length (K : List UInt8) (h : K.length = 24) : (oneT K).length = 24 := by rw [oneT, nxt_length, h]
set_option maxHeartbeats 2000000 in
theorem one_calls (w : World) (K : List UInt8) (hK : K.length = 24) :
    Calls Tryz.prog 124 #[kv K] w fun e w' => e = .returned (sv K (oneT K) (oneE K)) ∧ Below w.heap.size w w' := by
 have hT := oneT_length K hK
 have h1 : Has ((w.alloc (.cells (bc K).toArray 29)).alloc (.cells (sc (zs 24) (zs 24) false).toArray 96)) w.heap.size K := (Has.new w K hK).alloc _
 have h2 : HasS ((w.alloc (.cells (bc K).toArray 29)).alloc (.cells (sc (zs 24) (zs 24) false).toArray 96)) (w.heap.size + 1) (zs 24) (zs 24) false := by exact zero_hasS _ _ (by simp)
 have B1 : Below w.heap.size w ((w.alloc (.cells (bc K).toArray 29)).alloc (.cells (sc (zs 24) (zs 24) false).toArray 96)) := below_made (below_made (Below.refl _ w) (Nat.le_refl _) _) (Nat.le_refl _) _
 go_enter Tryz.func124, Tryz.ntmps124
 go_wp2_with (first
  | (refine build3 rfl _ _ _ rfl _ _ _ rfl rfl rfl hK hT ?_)
  | (refine store_span rfl _ _ rfl _ rfl _ _ _ rfl hK hT (zs 24) (zs 24) false ((h4.alloc _).touch t4 (by have := h4.lt; omega)) ?_; intro w7 h7 t7 s7)
  | (refine load_key _ rfl w.heap.size rfl rfl _ h5 ?_)
  | (refine load_key _ rfl w3.heap.size rfl rfl _ h6 ?_)
  | (refine load_key _ rfl _ rfl rfl _ h1 ?_)
  | (go_at_call 151; refine (after_calls _ K hK).mono ?_; rintro e w3 ⟨rfl, b3⟩; have h3 := h1.below b3 h1.lt; have h4 := h2.below b3 h2.lt)
  | (refine store_key rfl _ _ rfl _ rfl _ rfl hT (zs 24) (zero_has w3 w3.heap.size rfl) ?_; intro w4 h6 t4 s4; have h5 := (h3.alloc (.cells #[.int .u8 0, .int .u8 0, .int .u8 0, .int .u8 0, .int .u8 0, .int .u8 0, .int .u8 0, .int .u8 0, .int .u8 0, .int .u8 0, .int .u8 0, .int .u8 0, .int .u8 0, .int .u8 0, .int .u8 0, .int .u8 0, .int .u8 0, .int .u8 0, .int .u8 0, .int .u8 0, .int .u8 0, .int .u8 0, .int .u8 0, .int .u8 0] 29)).touch t4 (by have := h3.lt; omega)))
 refine ret_span rfl _ _ _ _ rfl h7 rfl ⟨rfl, ?_⟩
 exact below_touched (below_touched (below_made (below_called B1 b3 (Nat.le_refl _)) (Nat.le_refl _) _) t4 (by have := h3.lt; omega) (Nat.le_refl _)) t7 (by omega) (Nat.le_refl _)
end Go.Proofs.YtgicanpggndbeaaGreat
/- What a key says. -/
namespace Go.Proofs.YtgicanpggndbeaaGreat
set_option linter.unusedVariables false
set_option maxRecDepth 100000
open Go.RowKit

/-- What the bytes of a key tell, right or not. -/
def pIno (K : List UInt8) : Int := (num [K.getD 0 0, K.getD 1 0, K.getD 2 0, K.getD 3 0] : Int)
def pKind (K : List UInt8) : Int := ((K.getD 4 0).toNat : Int)
def nmLen (K : List UInt8) : Nat := min (K.getD 23 0).toNat 18
def nm (K : List UInt8) : List UInt8 := (K.drop 5).take (nmLen K)
def pName (K : List UInt8) : List UInt8 := if pKind K = 2 then nm K else []
def pPlace (K : List UInt8) : Int := if pKind K = 3 then (num [K.getD 20 0, K.getD 21 0, K.getD 22 0, K.getD 23 0] : Int) else 0
/-- Parts as a value. -/
abbrev pv (i k : Int) (s : List UInt8) (p : Int) : Value := .agg #[.int .i64 i, .int .i64 k, .string (str s), .int .i64 p]

theorem conv_key {w : World} {b : Nat} {K : List UInt8} (h : Has w b K) (o n cap : Nat) (hn : o + n ≤ 24) : (convert 140 9 (.slice (some ⟨b, o, none⟩) n cap)).run Tryz.prog w = .ok (.string (str ((K.drop o).take n))) w := by
 have hl := h.len
 have := run_convert_bytes_arg (P := Tryz.prog) w 140 5 Tryz.underlying140 Tryz.underlying5 b o n cap (((K.drop o).take n).map fun b => (b.toNat : Int)) (by simp; omega) (fun i hi => by
  rw [h.cell (o + i) (by omega)]
  have hj : o + i < K.length := by omega
  simp [hi, List.getElem?_drop, hj]) 9 Tryz.underlying9
 rw [str_of] at this
 exact this

theorem slice_key (w : World) (b m : Nat) (hm : m ≤ 18) : (Instr.sliceAt 29 (.pointer (some ⟨b, 0, none⟩)) (some (.int .i64 5)) (some (.int .i64 (5 + (m : Int)))) none).run Tryz.prog w = .ok (.slice (some ⟨b, 5, none⟩) m 19) w := by
 have hal : Tryz.prog.arrayLen 29 = 24 := by kernel_rfl
 have hel : Tryz.prog.elem 29 = 5 := by kernel_rfl
 have hu : Tryz.prog.underlying 29 = some (.array (Tryz.prog.arrayLen 29) (Tryz.prog.elem 29)) := by rw [hal, hel]; exact Tryz.underlying29
 rw [run_sliceAt_array_lh w 29 ⟨b, 0, none⟩ hu .i64 .i64 5 (5 + (m : Int)) (by omega) (by omega) (by rw [hal]; omega), hel, Tryz.sizeOf5, hal]
 simp only [Result.andThen, slicedAt]
 have e1 : (5 + (m : Int)).toNat - (5 : Int).toNat = m := by omega
 rw [e1]
 rfl

/-- Parts in block b. -/
def HasP (w : World) (b : Nat) (i k : Int) (s : List UInt8) (p : Int) : Prop := w.heap[b]? = some (.cells #[.int .i64 i, .int .i64 k, .string (str s), .int .i64 p] 90 (0, 0))
theorem cells4 {w : World} {b : Nat} {x y z u : Value} {t : TypeId} (h : w.heap[b]? = some (.cells #[x, y, z, u] t (0, 0))) :
    w.cell? ⟨b, 0, none⟩ = some x ∧ w.cell? ⟨b, 1, none⟩ = some y ∧ w.cell? ⟨b, 2, none⟩ = some z ∧ w.cell? ⟨b, 3, none⟩ = some u := by
 refine ⟨?_, ?_, ?_, ?_⟩ <;> (rw [cell_of_row w b _ _ _ _ h]; rfl)
theorem free4 {w : World} {b : Nat} {x y z u : Value} {t : TypeId} (h : w.heap[b]? = some (.cells #[x, y, z, u] t (0, 0))) :
    w.frozen? ⟨b, 0, none⟩ = false ∧ w.frozen? ⟨b, 1, none⟩ = false ∧ w.frozen? ⟨b, 2, none⟩ = false ∧ w.frozen? ⟨b, 3, none⟩ = false := by
 refine ⟨?_, ?_, ?_, ?_⟩ <;> simp [World.frozen?, h]
theorem set_blk {w : World} {b : Nat} {C : Array Value} {t : TypeId} (h : w.heap[b]? = some (.cells C t (0, 0))) (j : Nat) (u : Value) : (w.setCell ⟨b, j, none⟩ u).heap[b]? = some (.cells (C.setIfInBounds j u) t (0, 0)) := by
 rw [setCell_eq_setRow w b j C t _ u h, setRow_heap w b _ _ _ _ h]
theorem HasP.put4 {w : World} {b : Nat} {i k : Int} {s : List UInt8} {p : Int} (h : HasP w b i k s p) (i' k' : Int) (s' : List UInt8) (p' : Int) :
    HasP ((((w.setCell ⟨b, 0, none⟩ (.int .i64 i')).setCell ⟨b, 1, none⟩ (.int .i64 k')).setCell ⟨b, 2, none⟩ (.string (str s'))).setCell ⟨b, 3, none⟩ (.int .i64 p')) b i' k' s' p' :=
 set_blk (set_blk (set_blk (set_blk h 0 _) 1 _) 2 _) 3 _
theorem ret_parts {fn : Func} {R : Ending → World → Prop} {a : Act} {w : World} {t : Tmp} (hr : fn.results = #[.cell t 90]) (b : Nat) (i k : Int) (s : List UInt8) (p : Int) (hp : a.tmps.getD t undef = .pointer (some ⟨b, 0, none⟩)) (hK : HasP w b i k s p)
    (hd : a.defers = []) (hR : R (.returned (pv i k s p)) w) : bodyPost Tryz.prog fn R .ret a w :=
 bodyPost_ret (results_cell_row hr _ w b _ _ _ _ hp hK Tryz.underlying90 rfl (by kernel_rfl)) hd hR
theorem ret_parts_ok {fn : Func} {R : Ending → World → Prop} {a : Act} {w : World} {t u : Tmp} (hr : fn.results = #[.cell t 90, .tmp u]) (b : Nat) (i k : Int) (s : List UInt8) (p : Int) (v : Value) (hp : a.tmps.getD t undef = .pointer (some ⟨b, 0, none⟩)) (hv : a.tmps.getD u undef = v) (hK : HasP w b i k s p)
    (hd : a.defers = []) (hR : R (.returned (.tuple #[pv i k s p, v])) w) : bodyPost Tryz.prog fn R .ret a w := by
 refine bodyPost_ret (v := .tuple #[pv i k s p, v]) ?_ hd hR
 have hl := run_loadVar_row (P := Tryz.prog) w b 90 90 _ _ _ hK Tryz.underlying90 rfl (by kernel_rfl)
 rw [results_cell_tmp hr, hp, hv]
 simp [asAddr, Result.andThen, hl]
/-- What stands while a key is read: the key in block b, room for the answer in the next one. -/
structure Sd (w : World) (b : Nat) (K : List UInt8) (w' : World) : Prop where
 key : Has w' b K
 res : HasP w' (b + 1) 0 0 [] 0
 bel : Below w.heap.size w w'
 at0 : w.heap.size ≤ b
theorem Sd.lt {w : World} {b : Nat} {K : List UInt8} {w' : World} (h : Sd w b K w') : b + 1 < w'.heap.size := lt_of_block h.res
theorem Sd.drew {w : World} {b : Nat} {K : List UInt8} {w' : World} (h : Sd w b K w') : Sd w b K w'.drew := ⟨⟨h.key.len, h.key.blk⟩, h.res, h.bel.drew, h.at0⟩
theorem Sd.alloc {w : World} {b : Nat} {K : List UInt8} {w' : World} (h : Sd w b K w') (o : Obj) : Sd w b K (w'.alloc o) := ⟨h.key.alloc o, by unfold HasP; rw [Below.heap_alloc _ _ _ h.lt]; exact h.res, below_made h.bel (Nat.le_refl _) _, h.at0⟩
theorem Sd.set {w : World} {b : Nat} {K : List UInt8} {w' : World} (h : Sd w b K w') (q j : Nat) (u : Value) (hq : b + 1 < q) : Sd w b K (w'.setCell ⟨q, j, none⟩ u) := ⟨h.key.setOther (by omega) _ _, by unfold HasP; rw [Below.heap_setCell _ _ _ _ (by simp; omega)]; exact h.res, h.bel.setCell (by simp; have := h.at0; omega) _, h.at0⟩
theorem Sd.called {w : World} {b : Nat} {K : List UInt8} {w' w'' : World} (h : Sd w b K w') (hb : Below w'.heap.size w' w'') : Sd w b K w'' := ⟨h.key.below hb h.key.lt, (hb.block _ h.lt).trans h.res, below_called h.bel hb (Nat.le_refl _), h.at0⟩
theorem Sd.touch {w : World} {b q : Nat} {K : List UInt8} {w' w'' : World} (h : Sd w b K w') (ht : Touch q none w' w'') (hq : b + 1 < q) : Sd w b K w'' := ⟨h.key.touch ht (by omega), (ht.block _ h.lt (by omega) (by simp)).trans h.res, below_touched h.bel ht (by have := h.at0; omega) (Nat.le_refl _), h.at0⟩
theorem Sd.cell {w : World} {b : Nat} {K : List UInt8} {w' : World} (h : Sd w b K w') : w'.cell? ⟨b, 4, none⟩ = some (.int .u8 ((K.getD 4 0).toNat : Int)) := h.key.cell 4 (by omega)

set_option maxHeartbeats 2000000 in
theorem said_calls (w : World) (K : List UInt8) (hK : K.length = 24) :
    Calls Tryz.prog 76 #[kv K] w fun e w' => e = .returned (pv (pIno K) (pKind K) (pName K) (pPlace K)) ∧ Below w.heap.size w w' := by
 go_enter Tryz.func76, Tryz.ntmps76
 go_upto_region 1 with fail
 have hS : Sd w w.heap.size K ((w.alloc (.cells (bc K).toArray 29)).alloc (.cells #[.int .i64 0, .int .i64 0, .string ⟨#[]⟩, .int .i64 0] 90)) := ⟨(Has.new w K hK).alloc _, by unfold HasP; rw [show w.heap.size + 1 = (w.alloc (.cells (bc K).toArray 29)).heap.size by simp]; exact heap_alloc_new _ _, below_made (below_made (Below.refl _ w) (Nat.le_refl _) _) (Nat.le_refl _) _, Nat.le_refl _⟩
 generalize (w.alloc (.cells (bc K).toArray 29)).alloc (.cells #[.int .i64 0, .int .i64 0, .string ⟨#[]⟩, .int .i64 0] 90) = W at hS ⊢
 have h4 := (K.getD 4 0).toNat_lt
 go_cut [3] (fun v wc => ∃ q, v = .pointer (some ⟨q, 0, none⟩) ∧ w.heap.size + 1 < q ∧ HasP wc q (pIno K) (pKind K) [] 0 ∧ Sd w w.heap.size K wc)
 case first =>
  go_region_held3 (fun w' => w'.cell? ⟨w.heap.size, 4, none⟩ = some (.int .u8 ((K.getD 4 0).toNat : Int)) ∧ Sd w w.heap.size K w') (first
   | exact ⟨hS.drew.cell, hS.drew⟩
   | exact ⟨(hS.alloc _).drew.cell, (hS.alloc _).drew⟩
   | assumption
   | (go_split_ands; refine (fun M => ⟨Sd.cell M, M⟩) (Sd.alloc (by assumption) _))) (first
   | (go_at_call 116; go_split_ands; rename_i hHeld; refine (kword_calls _ w.heap.size 0 24 (K.getD 0 0) (K.getD 1 0) (K.getD 2 0) (K.getD 3 0) (hHeld.key.cell 0 (by omega)) (hHeld.key.cell 1 (by omega)) (hHeld.key.cell 2 (by omega)) (hHeld.key.cell 3 (by omega))).mono ?_; rintro e w3 ⟨rfl, rfl⟩))
  all_goals
   go_wp2_with fail
   go_meet
   case rel =>
    refine ⟨W.heap.size, rfl, by have := hS.lt; omega, ?_, (hS.alloc _).drew⟩
    refine (heap_alloc_new W _).trans ?_
    congr 2
    simp [pIno, pKind, hK, IntKind.wrap_i64]
    exact ⟨by have := (K[4]'(by omega)).toNat_lt; omega, rfl⟩
 case rest =>
  clear hS
  obtain ⟨q, rfl, hq, hP, hS⟩ := hcut
  obtain ⟨c0, c1, c2, c3⟩ := cells4 hP
  obtain ⟨f0, f1, f2, f3⟩ := free4 hP
  obtain ⟨d0, d1, d2, d3⟩ := cells4 hS.res
  obtain ⟨g0, g1, g2, g3⟩ := free4 hS.res
  have HS : Hid (Sd w w.heap.size K wc) := hS
  have HP : Hid (HasP wc q (pIno K) (pKind K) [] 0) := hP
  have c23 := hS.key.cell 23 (by omega)
  clear hS hP
  have hqn : q ≠ w.heap.size := by omega
  have hqn1 : q ≠ w.heap.size + 1 := by omega
  have B4 : ∀ (w' : World) (i' k' : Int) (s' : List UInt8) (p' : Int), Sd w w.heap.size K w' → Below w.heap.size w ((((w'.setCell ⟨w.heap.size + 1, 0, none⟩ (.int .i64 i')).setCell ⟨w.heap.size + 1, 1, none⟩ (.int .i64 k')).setCell ⟨w.heap.size + 1, 2, none⟩ (.string (str s'))).setCell ⟨w.heap.size + 1, 3, none⟩ (.int .i64 p')) := fun w' i' k' s' p' h => (((h.bel.setCell (by simp) _).setCell (by simp) _).setCell (by simp) _).setCell (by simp) _
  have HB4 : Hid (∀ (w' : World) (i' k' : Int) (s' : List UInt8) (p' : Int), Sd w w.heap.size K w' → Below w.heap.size w ((((w'.setCell ⟨w.heap.size + 1, 0, none⟩ (.int .i64 i')).setCell ⟨w.heap.size + 1, 1, none⟩ (.int .i64 k')).setCell ⟨w.heap.size + 1, 2, none⟩ (.string (str s'))).setCell ⟨w.heap.size + 1, 3, none⟩ (.int .i64 p'))) := B4
  clear B4
  have hpN : Hid (pName K = if pKind K = 2 then nm K else []) := rfl
  have hpP : Hid (pPlace K = if pKind K = 3 then (num [K.getD 20 0, K.getD 21 0, K.getD 22 0, K.getD 23 0] : Int) else 0) := rfl
  by_cases hk2 : pKind K = 2
  · have hnm : Hid (nm K = (K.drop 5).take (nmLen K)) := rfl
    have hlen : (nmLen K : Int) = min ((K.getD 23 0).toNat : Int) 18 := by simp only [nmLen]; omega
    have hl18 : nmLen K ≤ 18 := Nat.min_le_right _ _
    have hcv : (convert 140 9 (.slice (some ⟨w.heap.size, 5, none⟩) (nmLen K) 19)).run Tryz.prog wc = .ok (.string (str (nm K))) wc := by rw [hnm.out]; exact conv_key HS.out.key 5 (nmLen K) 19 (by omega)
    have h23 := (K.getD 23 0).toNat_lt
    generalize nmLen K = m at *
    generalize (K.getD 23 0).toNat = k23 at *
    go_wp2_with fail
    have hb0 : (5 : Int) ≤ 5 + (m : Int) := by omega
    have hb1 : (5 : Int) + (m : Int) ≤ 24 := by omega
    simp only [← hlen]
    clear hlen
    have hsl := slice_key wc w.heap.size m hl18
    rw [hsl]
    simp only [Result.andThen]
    rw [Oper.upon_value]
    go_wp2_with fail
    refine ret_parts rfl _ _ _ _ _ rfl ((HS.out.set q 2 _ hq).res.put4 _ _ _ _) rfl ⟨?_, HB4.out _ _ _ _ _ (HS.out.set q 2 _ hq)⟩
    rw [hpN.out, hpP.out, if_pos hk2, hk2, if_neg (by omega)]
  · by_cases hk3 : pKind K = 3
    · go_wp2_with (go_at_call 116; refine (kword_calls _ w.heap.size 20 4 (K.getD 20 0) (K.getD 21 0) (K.getD 22 0) (K.getD 23 0) (HS.out.key.cell 20 (by omega)) (HS.out.key.cell 21 (by omega)) (HS.out.key.cell 22 (by omega)) (HS.out.key.cell 23 (by omega))).mono ?_; rintro e w3 ⟨rfl, rfl⟩)
      refine ret_parts rfl _ _ _ _ _ rfl ((HS.out.set q 3 _ hq).res.put4 _ _ _ _) rfl ⟨?_, HB4.out _ _ _ _ _ (HS.out.set q 3 _ hq)⟩
      rw [hpN.out, hpP.out, if_neg hk2, if_pos hk3, hk3]
      simp [hK]
    · go_wp2_with fail
      refine ret_parts rfl _ _ _ _ _ rfl (HS.out.res.put4 _ _ _ _) rfl ⟨?_, HB4.out _ _ _ _ _ HS.out⟩
      rw [hpN.out, hpP.out, if_neg hk2, if_neg hk3]

/-- The key that parts make. -/
def madeK (i k : Int) (s : List UInt8) (p : Int) : List UInt8 := if k = 1 then inodeR i else if k = 2 then entryR i s else if k = 3 then chunkR i p else zs 24
def madeB (i k : Int) (s : List UInt8) (p : Int) : Bool := if k = 1 then okN i else if k = 2 then okN i && okS s else if k = 3 then okN i && okP p else false
theorem madeK_length (i k : Int) (s : List UInt8) (p : Int) : (madeK i k s p).length = 24 := by
 unfold madeK
 split
 · exact inodeR_length i
 · split
   · exact entryR_length i s
   · split
     · exact chunkR_length i p
     · exact zs_length 24

set_option maxHeartbeats 2000000 in
theorem made_calls (w : World) (i k : Int) (s : List UInt8) (p : Int) :
    Calls Tryz.prog 77 #[pv i k s p] w fun e w' => e = .returned (.tuple #[kv (madeK i k s p), .bool (madeB i k s p)]) ∧ Below w.heap.size w w' := by
 have hP : HasP ((w.alloc (.cells #[.int .i64 i, .int .i64 k, .string (str s), .int .i64 p] 90)).alloc (.cells (bc (zs 24)).toArray 29)) w.heap.size i k s p := by
  unfold HasP; rw [Below.heap_alloc _ _ _ (by simp)]; exact heap_alloc_new _ _
 have hZ : Has ((w.alloc (.cells #[.int .i64 i, .int .i64 k, .string (str s), .int .i64 p] 90)).alloc (.cells (bc (zs 24)).toArray 29)) (w.heap.size + 1) (zs 24) := by have := Has.new (w.alloc (.cells #[.int .i64 i, .int .i64 k, .string (str s), .int .i64 p] 90)) (zs 24) rfl; simpa using this
 have hB : Below w.heap.size w ((w.alloc (.cells #[.int .i64 i, .int .i64 k, .string (str s), .int .i64 p] 90)).alloc (.cells (bc (zs 24)).toArray 29)) := below_made (below_made (Below.refl _ w) (Nat.le_refl _) _) (Nat.le_refl _) _
 have HZ : Hid (Has ((w.alloc (.cells #[.int .i64 i, .int .i64 k, .string (str s), .int .i64 p] 90)).alloc (.cells (bc (zs 24)).toArray 29)) (w.heap.size + 1) (zs 24)) := hZ
 have HB : Hid (Below w.heap.size w ((w.alloc (.cells #[.int .i64 i, .int .i64 k, .string (str s), .int .i64 p] 90)).alloc (.cells (bc (zs 24)).toArray 29))) := hB
 have hmk : Hid (madeK i k s p = if k = 1 then inodeR i else if k = 2 then entryR i s else if k = 3 then chunkR i p else zs 24) := rfl
 have hmb : Hid (madeB i k s p = if k = 1 then okN i else if k = 2 then okN i && okS s else if k = 3 then okN i && okP p else false) := rfl
 clear hP hZ hB
 by_cases h1 : k = 1
 · subst h1
   go_enter Tryz.func77, Tryz.ntmps77
   go_wp2_with (first
    | (go_at_call 117; refine (inode_calls i _).mono ?_; rintro e w2 ⟨rfl, b2⟩)
    | (refine store_key rfl _ _ rfl _ rfl _ rfl (inodeR_length _) (zs 24) (HZ.out.below b2 HZ.out.lt) ?_; intro w3 h3 t3 s3))
   refine ret_key_ok rfl _ _ _ rfl rfl h3 rfl ⟨by rw [hmk.out, hmb.out]; rfl, below_touched (below_called HB.out b2 (Nat.le_refl _)) t3 (by omega) (Nat.le_refl _)⟩
 · by_cases h2 : k = 2
   · subst h2
     go_enter Tryz.func77, Tryz.ntmps77
     go_wp2_with (first
      | (go_at_call 63; refine (entry_calls i (str s) _).mono ?_; rintro e w2 ⟨rfl, b2⟩)
      | (refine store_key rfl _ _ rfl _ rfl _ rfl (entryR_length _ _) (zs 24) (HZ.out.below b2 HZ.out.lt) ?_; intro w3 h3 t3 s3))
     refine ret_key_ok rfl _ _ _ rfl rfl h3 rfl ⟨by rw [hmk.out, hmb.out]; rfl, below_touched (below_called HB.out b2 (Nat.le_refl _)) t3 (by omega) (Nat.le_refl _)⟩
   · by_cases h4 : k = 3
     · subst h4
       go_enter Tryz.func77, Tryz.ntmps77
       go_wp2_with (first
        | (go_at_call 118; refine (chunk_calls i p _).mono ?_; rintro e w2 ⟨rfl, b2⟩)
        | (refine store_key rfl _ _ rfl _ rfl _ rfl (chunkR_length _ _) (zs 24) (HZ.out.below b2 HZ.out.lt) ?_; intro w3 h3 t3 s3))
       refine ret_key_ok rfl _ _ _ rfl rfl h3 rfl ⟨by rw [hmk.out, hmb.out]; rfl, below_touched (below_called HB.out b2 (Nat.le_refl _)) t3 (by omega) (Nat.le_refl _)⟩
     · go_enter Tryz.func77, Tryz.ntmps77
       go_wp2_with (first
        | (refine store_key rfl _ _ rfl _ rfl (zs 24) rfl (zs_length _) (zs 24) HZ.out ?_; intro w3 h3 t3 s3))
       refine ret_key_ok rfl _ _ _ rfl rfl h3 rfl ⟨by rw [hmk.out, hmb.out, if_neg h1, if_neg h2, if_neg h4, if_neg h1, if_neg h2, if_neg h4]; rfl, below_touched HB.out t3 (by omega) (Nat.le_refl _)⟩

/-- Does a key say something? -/
def right (K : List UInt8) : Bool := madeB (pIno K) (pKind K) (pName K) (pPlace K) && (madeK (pIno K) (pKind K) (pName K) (pPlace K) == K)
def ofV (K : List UInt8) : Value := if right K then pv (pIno K) (pKind K) (pName K) (pPlace K) else pv 0 0 [] 0

set_option maxHeartbeats 4000000 in
theorem of_calls (w : World) (K : List UInt8) (hK : K.length = 24) :
    Calls Tryz.prog 41 #[kv K] w fun e w' => e = .returned (.tuple #[ofV K, .bool (right K)]) ∧ Below w.heap.size w w' := by
 have hS : Sd w w.heap.size K ((w.alloc (.cells (bc K).toArray 29)).alloc (.cells #[.int .i64 0, .int .i64 0, .string ⟨#[]⟩, .int .i64 0] 90)) := ⟨(Has.new w K hK).alloc _, by unfold HasP; rw [show w.heap.size + 1 = (w.alloc (.cells (bc K).toArray 29)).heap.size by simp]; exact heap_alloc_new _ _, below_made (below_made (Below.refl _ w) (Nat.le_refl _) _) (Nat.le_refl _) _, Nat.le_refl _⟩
 have HR : Hid (right K = (madeB (pIno K) (pKind K) (pName K) (pPlace K) && (madeK (pIno K) (pKind K) (pName K) (pPlace K) == K))) := rfl
 have HV : Hid (ofV K = if right K then pv (pIno K) (pKind K) (pName K) (pPlace K) else pv 0 0 [] 0) := rfl
 have HM : Hid (∀ w, Calls Tryz.prog 77 #[pv (pIno K) (pKind K) (pName K) (pPlace K)] w fun e w' => e = .returned (.tuple #[kv (madeK (pIno K) (pKind K) (pName K) (pPlace K)), .bool (madeB (pIno K) (pKind K) (pName K) (pPlace K))]) ∧ Below w.heap.size w w') := fun w => made_calls w _ _ _ _
 have hML := madeK_length (pIno K) (pKind K) (pName K) (pPlace K)
 have heq := fun w => eq_key w _ K hML hK
 generalize madeK (pIno K) (pKind K) (pName K) (pPlace K) = M at *
 generalize madeB (pIno K) (pKind K) (pName K) (pPlace K) = mb at *
 have HSa := said_calls ((w.alloc (.cells (bc K).toArray 29)).alloc (.cells #[.int .i64 0, .int .i64 0, .string ⟨#[]⟩, .int .i64 0] 90)) K hK
 generalize pIno K = pi at *
 generalize pKind K = pk at *
 generalize pName K = pn at *
 generalize pPlace K = pp at *
 go_enter Tryz.func41, Tryz.ntmps41
 go_upto_region 3 with (first
  | (refine load_key _ rfl w.heap.size rfl rfl _ hS.key ?_)
  | (go_at_call 76; refine HSa.mono ?_; rintro e w2 ⟨rfl, b2⟩)
  | (go_at_call 77; refine (HM.out _).mono ?_; rintro e w3 ⟨rfl, b3⟩)
  | (refine store_key rfl _ _ rfl _ rfl _ rfl hML (zs 24) (zero_has w3 w3.heap.size rfl) ?_; intro w4 h4 t4 s4))
 have S2 := hS.called b2
 have hl2 := S2.lt
 have hP2 : HasP w3 w2.heap.size pi pk pn pp := (b3.block _ (by simp)).trans (heap_alloc_new _ _)
 have S3 := (S2.alloc _).called b3
 have hl3 : w2.heap.size < w3.heap.size := lt_of_block hP2
 have S4 := (S3.alloc _).touch t4 (by omega)
 have hP4 : HasP w4 w2.heap.size pi pk pn pp := (t4.block _ (by simp; omega) (by omega) (by simp)).trans ((Below.heap_alloc _ _ _ hl3).trans hP2)
 clear t4 s4 b3 b2 hP2 S3 S2 hS HSa HM
 obtain ⟨c0, c1, c2, c3⟩ := cells4 hP4
 obtain ⟨d0, d1, d2, d3⟩ := cells4 S4.res
 obtain ⟨g0, g1, g2, g3⟩ := free4 S4.res
 have B4 : ∀ (i' k' : Int) (s' : List UInt8) (p' : Int), Below w.heap.size w ((((w4.setCell ⟨w.heap.size + 1, 0, none⟩ (.int .i64 i')).setCell ⟨w.heap.size + 1, 1, none⟩ (.int .i64 k')).setCell ⟨w.heap.size + 1, 2, none⟩ (.string (str s'))).setCell ⟨w.heap.size + 1, 3, none⟩ (.int .i64 p')) := fun i' k' s' p' => (((S4.bel.setCell (by simp) _).setCell (by simp) _).setCell (by simp) _).setCell (by simp) _
 have HB4 : Hid (∀ (i' k' : Int) (s' : List UInt8) (p' : Int), Below w.heap.size w ((((w4.setCell ⟨w.heap.size + 1, 0, none⟩ (.int .i64 i')).setCell ⟨w.heap.size + 1, 1, none⟩ (.int .i64 k')).setCell ⟨w.heap.size + 1, 2, none⟩ (.string (str s'))).setCell ⟨w.heap.size + 1, 3, none⟩ (.int .i64 p'))) := B4
 have HS4 : Hid (Sd w w.heap.size K w4) := S4
 have H4 : Hid (Has w4 w3.heap.size M) := h4
 have hne : w2.heap.size ≠ w.heap.size + 1 := by omega
 clear B4 S4 h4 hP4
 cases mb with
 | false =>
  have hr : right K = false := by rw [HR.out]; rfl
  go_wp2_with fail
  refine ret_parts_ok rfl _ _ _ _ _ _ rfl rfl (HS4.out.res.put4 _ _ _ _) rfl ⟨by rw [HV.out, hr]; rfl, HB4.out 0 0 [] 0⟩
 | true =>
  cases hmk : M == K with
  | false =>
   have hr : right K = false := by rw [HR.out, hmk]; rfl
   rw [hmk] at heq
   go_wp2_with (first
    | (refine load_key _ rfl w3.heap.size rfl rfl _ H4.out ?_)
    | (refine load_key _ rfl w.heap.size rfl rfl _ HS4.out.key ?_))
   refine ret_parts_ok rfl _ _ _ _ _ _ rfl rfl (HS4.out.res.put4 _ _ _ _) rfl ⟨by rw [HV.out, hr]; rfl, HB4.out 0 0 [] 0⟩
  | true =>
   have hr : right K = true := by rw [HR.out, hmk]; rfl
   rw [hmk] at heq
   go_wp2_with (first
    | (refine load_key _ rfl w3.heap.size rfl rfl _ H4.out ?_)
    | (refine load_key _ rfl w.heap.size rfl rfl _ HS4.out.key ?_))
   refine ret_parts_ok rfl _ _ _ _ _ _ rfl rfl (HS4.out.res.put4 _ _ _ _) rfl ⟨by rw [HV.out, hr]; rfl, HB4.out _ _ _ _⟩
end Go.Proofs.YtgicanpggndbeaaGreat
/- What keys say and how they are ordered: plain mathematics. -/
namespace Go.Proofs.YtgicanpggndbeaaGreat
set_option linter.unusedVariables false
set_option maxRecDepth 100000
open Go.RowKit

theorem okN_lt {n : Int} (h : okN n = true) : 0 ≤ n ∧ n.toNat < 4294967296 ∧ ((n.toNat : Nat) : Int) = n := by
 have : 1 ≤ n ∧ n < 1073741824 := of_decide_eq_true h
 omega
end Go.Proofs.YtgicanpggndbeaaGreat
