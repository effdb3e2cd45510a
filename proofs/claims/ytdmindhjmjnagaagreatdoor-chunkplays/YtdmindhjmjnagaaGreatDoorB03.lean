import Derived.Test.YtdmindhjmjnagaaGreatDoorSi
import Derived.Test.YtdmindhjmjnagaaGreatDoorB01
import Derived.Test.YtdmindhjmjnagaaGreatDoorB02
/- KeyD KeyE -/
namespace Go.Proofs.YtdmindhjmjnagaaGreatDoor
set_option linter.unusedVariables false
set_option maxRecDepth 1000000
set_option maxHeartbeats 32000000
section
open Go.RowKit
theorem Tryz.span_built (parts : List (Nat × Value)) : Tryz.prog.built 56 parts = Instr.fill (#[(0, 24), (24, 24), (48, 1)][·]?) (sc (zs 24) (zs 24) false).toArray parts := by
 have h1 : (Tryz.prog.info? 56).map (·.zero) = some (some (.agg (sc (zs 24) (zs 24) false).toArray)) := by kernel_rfl
 have h2 : (Tryz.prog.underlying 56).map (fun d => match d with | .struct fs => fs.toList.mapM (fun f => (Tryz.prog.info? f.type).map fun i => (f.offset, i.size)) | _ => none) = some (some [(0, 24), (24, 24), (48, 1)]) := by kernel_rfl
 unfold Program.built
 cases hi : Tryz.prog.info? 56 with
 | none => rw [hi] at h1; cases h1
 | some i =>
  rw [hi] at h1
  have hz : i.zero = some (.agg (sc (zs 24) (zs 24) false).toArray) := by simpa using h1
  cases hu : Tryz.prog.underlying 56 with
  | none => rw [hu] at h2; cases h2
  | some d =>
   rw [hu] at h2
   cases d with
   | struct fs =>
    have hp : fs.toList.mapM (fun f => (Tryz.prog.info? f.type).map fun i => (f.offset, i.size)) = some [(0, 24), (24, 24), (48, 1)] := by simpa using h2
    simp only [hz, hp]
    rfl
   | _ => simp at h2
theorem sc_F (F F' T : List UInt8) (e : Bool) (hF : F.length = 24) (hF' : F'.length = 24) : ((sc F T e).toArray.toList.take 0 ++ (kv F').cells.toList ++ (sc F T e).toArray.toList.drop (0 + 24)).toArray = (sc F' T e).toArray := by
 have h : (bc F).length = 24 := by rw [bc_length, hF]
 simp only [sc, Value.cells, List.take_zero, List.nil_append, Nat.zero_add, List.append_assoc]
 rw [List.drop_append_of_le_length (by omega), List.drop_of_length_le (by omega)]
 rfl
theorem sc_T (F T T' : List UInt8) (e : Bool) (hF : F.length = 24) (hT : T.length = 24) : ((sc F T e).toArray.toList.take 24 ++ (kv T').cells.toList ++ (sc F T e).toArray.toList.drop (24 + 24)).toArray = (sc F T' e).toArray := by
 have h : (bc F).length = 24 := by rw [bc_length, hF]
 have h' : (bc T).length = 24 := by rw [bc_length, hT]
 simp only [sc, Value.cells, List.append_assoc]
 rw [List.take_append_of_le_length (by omega), List.take_of_length_le (by omega), List.drop_append, List.drop_of_length_le (by omega), h, List.drop_append_of_le_length (by omega), List.drop_of_length_le (by omega)]
 rfl
theorem sc_E (F T : List UInt8) (e e' : Bool) (hF : F.length = 24) (hT : T.length = 24) : ((sc F T e).toArray.toList.take 48 ++ (Value.bool e').cells.toList ++ (sc F T e).toArray.toList.drop (48 + 1)).toArray = (sc F T e').toArray := by
 have h : (bc F ++ bc T).length = 48 := by rw [List.length_append, bc_length, bc_length, hF, hT]
 simp only [sc, Value.cells]
 rw [List.take_append_of_le_length (by omega), List.take_of_length_le (by omega), List.drop_of_length_le (by simp [bc_length, hF, hT]), List.append_nil]
theorem built3 (F T : List UInt8) (e : Bool) (hF : F.length = 24) (hT : T.length = 24) : Tryz.prog.built 56 [(0, kv F), (1, kv T), (2, .bool e)] = some (sc F T e).toArray := by
 rw [Tryz.span_built, fill_put (off := 0) (size := 24) rfl (by simp [Value.cells, bc_length, hF]) (by simp [sc, bc_length, zs_length]), sc_F _ _ _ _ (zs_length _) hF,
   fill_put (off := 24) (size := 24) rfl (by simp [Value.cells, bc_length, hT]) (by simp [sc, bc_length, zs_length, hF]), sc_T _ _ _ _ hF (zs_length _),
   fill_put (off := 48) (size := 1) rfl rfl (by simp [sc, bc_length, hF, hT]), sc_E _ _ _ _ hF hT]
 rfl
theorem built2 (F T : List UInt8) (hF : F.length = 24) (hT : T.length = 24) : Tryz.prog.built 56 [(0, kv F), (1, kv T)] = some (sc F T false).toArray := by
 rw [Tryz.span_built, fill_put (off := 0) (size := 24) rfl (by simp [Value.cells, bc_length, hF]) (by simp [sc, bc_length, zs_length]), sc_F _ _ _ _ (zs_length _) hF,
   fill_put (off := 24) (size := 24) rfl (by simp [Value.cells, bc_length, hT]) (by simp [sc, bc_length, zs_length, hF]), sc_T _ _ _ _ hF (zs_length _)]
 rfl
theorem builtE (F : List UInt8) (e : Bool) (hF : F.length = 24) : Tryz.prog.built 56 [(0, kv F), (2, .bool e)] = some (sc F (zs 24) e).toArray := by
 rw [Tryz.span_built, fill_put (off := 0) (size := 24) rfl (by simp [Value.cells, bc_length, hF]) (by simp [sc, bc_length, zs_length]), sc_F _ _ _ _ (zs_length _) hF,
   fill_put (off := 48) (size := 1) rfl rfl (by simp [sc, bc_length, hF, zs_length]), sc_E _ _ _ _ hF (zs_length _)]
 rfl
theorem wp_build2 {o : Oper} {a : Act} {w : World} {K : Act → World → Prop} {Q : Exit → Act → World → Prop} (x y : Operand) (ho : o.op = .build 56 #[(0, x), (1, y)]) (F T : List UInt8) (hx : a.eval x = kv F) (hy : a.eval y = kv T) (hF : F.length = 24) (hT : T.length = 24)
    (h : K (a.put o.dst (sv F T false)) w) : o.wp Tryz.prog a w K Q := by
 have hb := built2 F T hF hT
 have e : (Array.map (fun x : Nat × Operand => match x with | (i, x) => (i, a.eval x)) #[(0, x), (1, y)]).toList = [(0, kv F), (1, kv T)] := by simp [hx, hy]
 refine wp_build 56 _ ho (by rw [e, hb]; rfl) ?_
 rw [e, hb]
 exact h
theorem wp_store_span {o : Oper} {a : Act} {w : World} {K : Act → World → Prop} {Q : Exit → Act → World → Prop} (x y : Operand) (ho : o.op = .store 56 x y) (b : Nat) (hx : a.eval x = .pointer (some ⟨b, 0, none⟩)) (F T : List UInt8) (e : Bool) (hy : a.eval y = sv F T e) (hF : F.length = 24) (hT : T.length = 24) (F' T' : List UInt8) (e' : Bool) (hK : HasS w b F' T' e')
    (h : K (a.put o.dst undef) (w.setRow b (sc F T e).toArray)) : o.wp Tryz.prog a w K Q :=
 wp_store_row _ x y ho b _ hx hy _ _ hK.blk (by rw [sv_size _ _ _ hF hT]; exact Tryz.span_info) (by rw [sv_size _ _ _ hF hT, sv_size _ _ _ hK.f hK.t]) (sv_all _ _ _) h
theorem build_any {ops : Array Oper} {rest : List Oper} {o : Oper} {a : Act} {w : World} {Q : Exit → Act → World → Prop} (hg : o.guard = none) (parts : Array (Nat × Operand)) (ho : o.op = .build 56 parts) (vs : List (Nat × Value)) (hv : (parts.map fun x => (x.1, a.eval x.2)).toList = vs) (C : Array Value) (hb : Tryz.prog.built 56 vs = some C)
    (h : wpList Tryz.prog ops Q rest (a.put o.dst (.agg C)) w) : wpList Tryz.prog ops Q (o :: rest) a w := by
 subst hv
 refine wpList_plain hg fun K hK => ?_
 refine wp_build 56 parts ho (by rw [show (fun x : Nat × Operand => match x with | (i, x) => (i, a.eval x)) = (fun x => (x.1, a.eval x.2)) from rfl, hb]; rfl) ?_
 rw [show (fun x : Nat × Operand => match x with | (i, x) => (i, a.eval x)) = (fun x => (x.1, a.eval x.2)) from rfl, hb]
 exact hK _ _ h
section
variable {ops : Array Oper} {rest : List Oper} {o : Oper} {a : Act} {w : World} {Q : Exit → Act → World → Prop}
theorem build3 (hg : o.guard = none) (x y z : Operand) (ho : o.op = .build 56 #[(0, x), (1, y), (2, z)]) (F T : List UInt8) (e : Bool) (hx : a.eval x = kv F) (hy : a.eval y = kv T) (hz : a.eval z = .bool e) (hF : F.length = 24) (hT : T.length = 24)
    (h : wpList Tryz.prog ops Q rest (a.put o.dst (sv F T e)) w) : wpList Tryz.prog ops Q (o :: rest) a w :=
 build_any hg _ ho [(0, kv F), (1, kv T), (2, .bool e)] (by simp [hx, hy, hz]) _ (built3 F T e hF hT) h
theorem build2 (hg : o.guard = none) (x y : Operand) (ho : o.op = .build 56 #[(0, x), (1, y)]) (F T : List UInt8) (hx : a.eval x = kv F) (hy : a.eval y = kv T) (hF : F.length = 24) (hT : T.length = 24)
    (h : wpList Tryz.prog ops Q rest (a.put o.dst (sv F T false)) w) : wpList Tryz.prog ops Q (o :: rest) a w :=
 build_any hg _ ho [(0, kv F), (1, kv T)] (by simp [hx, hy]) _ (built2 F T hF hT) h
theorem buildE (hg : o.guard = none) (x z : Operand) (ho : o.op = .build 56 #[(0, x), (2, z)]) (F : List UInt8) (e : Bool) (hx : a.eval x = kv F) (hz : a.eval z = .bool e) (hF : F.length = 24)
    (h : wpList Tryz.prog ops Q rest (a.put o.dst (sv F (zs 24) e)) w) : wpList Tryz.prog ops Q (o :: rest) a w :=
 build_any hg _ ho [(0, kv F), (2, .bool e)] (by simp [hx, hz]) _ (builtE F e hF) h
theorem build0 (hg : o.guard = none) (ho : o.op = .build 56 #[])
    (h : wpList Tryz.prog ops Q rest (a.put o.dst (sv (zs 24) (zs 24) false)) w) : wpList Tryz.prog ops Q (o :: rest) a w :=
 build_any hg _ ho [] (by simp) _ (Tryz.span_built []) h
end
theorem zero_hasS (w : World) (b : Nat) (hb : b = w.heap.size) : HasS (w.alloc (.cells (sc (zs 24) (zs 24) false).toArray 56)) b (zs 24) (zs 24) false := hb ▸ HasS.new w (zs 24) (zs 24) false rfl rfl
theorem Has.range {w : World} {b : Nat} {K : List UInt8} (h : Has w b K) : w.rangeAt b 0 (bc K) := fun j v hv => by
 rw [cell_of_row w b _ _ _ _ h.blk]
 simpa using hv
def Mk (w : World) (b c : Nat) (K : List UInt8) (w' : World) : Prop := (∃ F T e, HasS w' b F T e) ∧ Has w' c K ∧ Below w.heap.size w w' ∧ w.heap.size ≤ b ∧ b < c
theorem Mk.drew {w w' : World} {b c : Nat} {K : List UInt8} (h : Mk w b c K w') : Mk w b c K w'.drew := by
 obtain ⟨⟨F, T, e, h1⟩, h2, h3, h4⟩ := h
 exact ⟨⟨F, T, e, h1.f, h1.t, h1.blk⟩, ⟨h2.len, h2.blk⟩, h3.drew, h4⟩
theorem Mk.called {w w' w'' : World} {b c : Nat} {K : List UInt8} (h : Mk w b c K w') (hb : Below w'.heap.size w' w'') : Mk w b c K w'' := by
 obtain ⟨⟨F, T, e, h1⟩, h2, h3, h4⟩ := h
 exact ⟨⟨F, T, e, h1.below hb h1.lt⟩, h2.below hb h2.lt, below_called h3 hb (Nat.le_refl _), h4⟩
theorem HasS.row {w : World} {b : Nat} {F T F' T' : List UInt8} {e e' : Bool} (h : HasS w b F T e) (hF : F'.length = 24) (hT : T'.length = 24) : HasS (w.setRow b (sc F' T' e').toArray) b F' T' e' := ⟨hF, hT, setRow_heap w b _ _ _ _ h.blk⟩
theorem Mk.put {w w' : World} {b c : Nat} {K F T : List UInt8} {e : Bool} (h : Mk w b c K w') (hF : F.length = 24) (hT : T.length = 24) : Mk w b c K (w'.setRow b (sc F T e).toArray) := by
 obtain ⟨⟨F', T', e', h1⟩, h2, h3, h4, h5⟩ := h
 exact ⟨⟨F, T, e, h1.row hF hT⟩, h2.touch (touch_setRow _ _ _) (by omega), below_touched h3 (touch_setRow _ _ _) h4 (Nat.le_refl _), h4, h5⟩
theorem Mk.range {w w' : World} {b c : Nat} {K : List UInt8} (h : Mk w b c K w') : w'.rangeAt c 0 (bc K) := h.2.1.range
def chunksF (n p : Int) : List UInt8 := chunkR n p
def chunksT (n p : Int) : List UInt8 := if okN n && okP p then headK n.toNat 4 else zs 24
theorem chunksF_length (n p : Int) : (chunksF n p).length = 24 := chunkR_length n p
theorem chunksT_length (n p : Int) : (chunksT n p).length = 24 := by unfold chunksT; split <;> simp [headK_length, zs_length]
theorem chunks_calls (n p : Int) (w : World) :
    Calls Tryz.prog 81 #[.int .i64 n, .int .i64 p] w fun e w' => e = .returned (sv (chunksF n p) (chunksT n p) false) ∧ Below w.heap.size w w' := by
 by_cases hn : (okN n && okP p) = true
 · have hn1 : okN n = true := by simp at hn; exact hn.1
   have h0 : 1 ≤ n ∧ n < 1073741824 := by simpa [okN] using hn1
   go_enter Tryz.func81, Tryz.ntmps81
   go_wp2_with (first
    | (go_at_call 24; refine (chunk_calls n p _).mono ?_; rintro e w1 ⟨rfl, b1⟩; rw [hn])
    | (refine store_key rfl _ _ rfl _ rfl _ rfl (chunkR_length _ _) (zs 24) (zero_has w1 w1.heap.size rfl) ?_; intro w2 h2 t2 s2))
   have hsb := b1.size
   simp at hsb
   have h3 := (((zero_hasS w w.heap.size rfl).below b1 (by simp)).alloc (.cells #[.int .u8 0, .int .u8 0, .int .u8 0, .int .u8 0, .int .u8 0, .int .u8 0, .int .u8 0, .int .u8 0, .int .u8 0, .int .u8 0, .int .u8 0, .int .u8 0, .int .u8 0, .int .u8 0, .int .u8 0, .int .u8 0, .int .u8 0, .int .u8 0, .int .u8 0, .int .u8 0, .int .u8 0, .int .u8 0, .int .u8 0, .int .u8 0] 54)).touch t2 (by omega)
   have B2 : Below w.heap.size w w2 := below_touched (below_made (below_called (below_made (Below.refl _ w) (Nat.le_refl _) _) b1 (Nat.le_refl _)) (Nat.le_refl _) _) t2 (by omega) (Nat.le_refl _)
   have hu24 := Tryz.underlying54
   have hi24 : (Tryz.prog.info? 54).map (·.size) = some (bc (chunkR n p)).length := by rw [bc_length, chunkR_length]; exact Tryz.key_info
   have M2 : Mk w w.heap.size w1.heap.size (chunkR n p) w2 := ⟨⟨_, _, _, h3⟩, h2, B2, Nat.le_refl _, by omega⟩
   refine wp_region_held_drew (S := Mk w w.heap.size w1.heap.size (chunkR n p)) (by kernel_rfl) M2.drew (fun hh => ?_)
   refine tk 0 rfl hh (yieldsIf_load_mid (by rfl) _ _ rfl _ _ rfl _ _ (fun _ h => Mk.range h) hu24 rfl hi24) ?_
   (try simp only [gs])
   refine tk (v := .int .i64 n) 1 rfl hh (Or.inl ⟨by rfl, fun _ _ => by go_simp⟩) ?_
   (try simp only [gs])
   refine wpAnyH_ready (rs := [2]) (by kernel_rfl) (by simp) (AllReadyH.cons rfl (fun K hK => ?_) AllReadyH.nil)
   rw [if_pos (by rfl)]
   (try simp only [gs])
   go_simp
   refine (least_calls n 4 4 (by decide) _ (by omega)).mono ?_
   rintro e w3 ⟨rfl, b3⟩
   refine hK.out _ _ (hh.called b3) (fun h3 => ?_)
   clear hK K
   refine wpAnyH_ready (rs := [3]) (by kernel_rfl) (by simp) (AllReadyH.cons rfl (fun K hK => ?_) AllReadyH.nil)
   rw [if_pos (by rfl)]
   (try simp only [gs])
   refine wp_build2 _ _ rfl _ _ rfl rfl (chunkR_length n p) (headK_length _ _) ?_
   refine hK.out _ _ h3 (fun _ => ?_)
   clear hK K
   (try simp only [gs])
   refine wpAnyH_ready (rs := [4]) (by kernel_rfl) (by simp) (AllReadyH.cons rfl (fun K hK => ?_) AllReadyH.nil)
   rw [if_pos (by rfl)]
   (try simp only [gs])
   obtain ⟨⟨F0, T0, e0, hs0⟩, _⟩ := id h3
   refine wp_store_span _ _ rfl _ rfl _ _ _ rfl (chunkR_length n p) (headK_length _ _) _ _ _ hs0 ?_
   refine hK.out _ _ (h3.put (chunkR_length n p) (headK_length _ _)) (fun h5 => ?_)
   clear hK K
   refine wpAnyH_done (by kernel_rfl) ?_ _
   have h6 := hs0.row (e' := false) (chunkR_length n p) (headK_length n.toNat 4)
   generalize w3.setRow w.heap.size (sc (chunkR n p) (headK n.toNat 4) false).toArray = w4 at h5 h6 ⊢
   go_wp2_with fail
   refine ret_span rfl _ _ _ _ rfl h6 rfl ⟨by rw [chunksF, chunksT, if_pos hn], h5.2.2.1⟩
 · have hf : (okN n && okP p) = false := by simpa using hn
   go_enter Tryz.func81, Tryz.ntmps81
   go_wp2_with (first
    | (go_at_call 24; refine (chunk_calls n p _).mono ?_; rintro e w1 ⟨rfl, b1⟩; rw [hf])
    | (refine store_key rfl _ _ rfl _ rfl _ rfl (chunkR_length _ _) (zs 24) (zero_has w1 w1.heap.size rfl) ?_; intro w2 h2 t2 s2; have hsb := b1.size; simp at hsb)
    | (refine build0 rfl rfl ?_)
    | (refine store_span rfl _ _ rfl _ rfl _ _ _ rfl rfl rfl (zs 24) (zs 24) false ((((zero_hasS w w.heap.size rfl).below b1 (by simp)).alloc _).touch t2 (by omega)) ?_; intro w4 h4 t4 s4))
   refine ret_span rfl _ _ _ _ rfl h4 rfl ⟨by rw [chunksF, chunksT, chunkR, hf]; rfl, ?_⟩
   exact below_touched (below_touched (below_made (below_called (below_made (Below.refl _ w) (Nat.le_refl _) _) b1 (Nat.le_refl _)) (Nat.le_refl _) _) t2 (by omega) (Nat.le_refl _)) t4 (Nat.le_refl _) (Nat.le_refl _)
end
section
open Go.RowKit
def nxt (K : List UInt8) : Nat → List UInt8 × Bool
 | 0 => (K, false)
 | i + 1 => if K.getD i 0 + 1 = 0 then nxt (K.set i 0) i else (K.set i (K.getD i 0 + 1), true)
theorem nxt_length (K : List UInt8) : ∀ i, (nxt K i).1.length = K.length := by
 intro i
 induction i generalizing K with
 | zero => rfl
 | succ i ih =>
  rw [nxt]
  split
  · rw [ih]; simp
  · simp
theorem u8_zero (x : UInt8) : ((x.toNat : Nat) : Int) = 0 ↔ x = 0 := by
 rw [← UInt8.toNat_inj]
 simp
theorem u8_back {x : UInt8} (h : x + 1 = 0) : x = 255 := by
 have h1 : (x + 1).toNat = 0 := by rw [h]; rfl
 rw [UInt8.toNat_add, show (1 : UInt8).toNat = 1 from rfl] at h1
 have h2 := x.toNat_lt
 exact UInt8.toNat_inj.1 (show x.toNat = 255 by omega)
theorem u8_less {x : UInt8} (h : ¬ x + 1 = 0) : (x.toNat : Int) < 255 := by
 have h1 := x.toNat_lt
 have h2 : x.toNat ≠ 255 := fun e => h (by
  have : x = 255 := UInt8.toNat_inj.1 (by rw [e]; rfl)
  subst this
  rfl)
 omega
theorem u8_plus {x : UInt8} (h : ¬ x + 1 = 0) : (((x + 1).toNat : Nat) : Int) = (x.toNat : Int) + 1 := by
 have := u8_less h
 rw [UInt8.toNat_add]
 have e : (1 : UInt8).toNat = 1 := rfl
 rw [e]
 omega
theorem after_calls (w : World) (K : List UInt8) (hK : K.length = 24) :
    Calls Tryz.prog 155 #[kv K] w fun e w' => e = .returned (.tuple #[kv (nxt K 24).1, .bool (nxt K 24).2]) ∧ Below w.heap.size w w' := by
 have h1 : Has ((w.alloc (.cells (bc K).toArray 54)).alloc (.cells (bc (zs 24)).toArray 54)) w.heap.size K := (Has.new w K hK).alloc _
 have h2 : Has ((w.alloc (.cells (bc K).toArray 54)).alloc (.cells (bc (zs 24)).toArray 54)) (w.heap.size + 1) (zs 24) := by have := Has.new (w.alloc (.cells (bc K).toArray 54)) (zs 24) rfl; simpa using this
 have B1 : Below w.heap.size w ((w.alloc (.cells (bc K).toArray 54)).alloc (.cells (bc (zs 24)).toArray 54)) := below_made (below_made (Below.refl _ w) (Nat.le_refl _) _) (Nat.le_refl _) _
 go_enter Tryz.func155, Tryz.ntmps155
 go_wp2
 go_loopw [4] (fun i w' => ∃ (j : Nat) (L : List UInt8), j ≤ 24 ∧ i = .int .i64 ((j : Int) - 1) ∧ Has w' w.heap.size L ∧ Has w' (w.heap.size + 1) (zs 24) ∧ Below w.heap.size w w' ∧ nxt L j = nxt K 24) (fun i _ => (intOf i + 1).toNat)
 case atStart => exact ⟨24, K, by omega, rfl, h1, h2, B1, rfl⟩
 case round =>
  obtain ⟨j, L, hj, rfl, h3, h4, B3, hn⟩ := hrel
  have HN : Hid (nxt L j = nxt K 24) := hn
  clear hn h1 h2 B1
  by_cases hj0 : j = 0
  · subst hj0
    go_wp2_with (first
     | (refine load_key _ rfl _ rfl rfl _ h3 ?_)
     | (refine store_key rfl _ _ rfl _ rfl _ rfl h3.len _ h4 ?_; intro w5 h5 t5 s5))
    refine ret_key_ok rfl _ _ _ rfl rfl h5 rfl ⟨by rw [← HN.out]; rfl, below_touched B3 t5 (by omega) (Nat.le_refl _)⟩
  · obtain ⟨i, rfl⟩ : ∃ i, j = i + 1 := ⟨j - 1, by omega⟩
    have c1 := h3.cell i (by omega)
    have f1 := h3.free i
    have e1 : ((i + 1 : Nat) : Int) - 1 = (i : Int) := by omega
    rw [e1]
    rw [nxt] at HN
    by_cases hx : L.getD i 0 + 1 = 0
    · have hx1 : (L.getD i 0).toNat = 255 := by rw [u8_back hx]; rfl
      rw [if_pos hx] at HN
      rw [hx1] at c1
      have h5 := h3.setCell i 0
      go_wp2
      go_roundw
      case rel => exact ⟨i, L.set i 0, by omega, by go_num, h5, h4.setOther (by omega) _ _, B3.setCell (by simp) _, HN.out⟩
      case measure => simp [intOf]
    · rw [if_neg hx] at HN
      have hx1 := u8_less hx
      have h5 := h3.setCell i (L.getD i 0 + 1)
      rw [u8_plus hx] at h5
      have HX : Hid (¬ L.getD i 0 + 1 = 0) := hx
      clear hx
      have hl5 := h5.len
      generalize L.set i (L.getD i 0 + 1) = L5 at h5 HN hl5
      generalize L.getD i 0 = x at *
      go_wp2_with (first
       | (refine load_key _ rfl _ rfl rfl _ h5 ?_)
       | (refine store_key rfl _ _ rfl _ rfl _ rfl hl5 _ (h4.setOther (by omega) _ _) ?_; intro w6 h6 t6 s6))
      refine ret_key_ok rfl _ _ _ rfl rfl h6 rfl ⟨by rw [← HN.out]; rfl, below_touched (B3.setCell (by simp) _) t6 (by omega) (Nat.le_refl _)⟩
def oneT (K : List UInt8) : List UInt8 := (nxt K 24).1
def oneE (K : List UInt8) : Bool := !(nxt K 24).2
theorem oneT_length (K : List UInt8) (h : K.length = 24) : (oneT K).length = 24 := by rw [oneT, nxt_length, h]
theorem one_calls (w : World) (K : List UInt8) (hK : K.length = 24) :
    Calls Tryz.prog 122 #[kv K] w fun e w' => e = .returned (sv K (oneT K) (oneE K)) ∧ Below w.heap.size w w' := by
 have hT := oneT_length K hK
 have h1 : Has ((w.alloc (.cells (bc K).toArray 54)).alloc (.cells (sc (zs 24) (zs 24) false).toArray 56)) w.heap.size K := (Has.new w K hK).alloc _
 have h2 : HasS ((w.alloc (.cells (bc K).toArray 54)).alloc (.cells (sc (zs 24) (zs 24) false).toArray 56)) (w.heap.size + 1) (zs 24) (zs 24) false := by exact zero_hasS _ _ (by simp)
 have B1 : Below w.heap.size w ((w.alloc (.cells (bc K).toArray 54)).alloc (.cells (sc (zs 24) (zs 24) false).toArray 56)) := below_made (below_made (Below.refl _ w) (Nat.le_refl _) _) (Nat.le_refl _) _
 go_enter Tryz.func122, Tryz.ntmps122
 go_wp2_with (first
  | (refine build3 rfl _ _ _ rfl _ _ _ rfl rfl rfl hK hT ?_)
  | (refine store_span rfl _ _ rfl _ rfl _ _ _ rfl hK hT (zs 24) (zs 24) false ((h4.alloc _).touch t4 (by have := h4.lt; omega)) ?_; intro w7 h7 t7 s7)
  | (refine load_key _ rfl w.heap.size rfl rfl _ h5 ?_)
  | (refine load_key _ rfl w3.heap.size rfl rfl _ h6 ?_)
  | (refine load_key _ rfl _ rfl rfl _ h1 ?_)
  | (go_at_call 155; refine (after_calls _ K hK).mono ?_; rintro e w3 ⟨rfl, b3⟩; have h3 := h1.below b3 h1.lt; have h4 := h2.below b3 h2.lt)
  | (refine store_key rfl _ _ rfl _ rfl _ rfl hT (zs 24) (zero_has w3 w3.heap.size rfl) ?_; intro w4 h6 t4 s4; have h5 := (h3.alloc (.cells #[.int .u8 0, .int .u8 0, .int .u8 0, .int .u8 0, .int .u8 0, .int .u8 0, .int .u8 0, .int .u8 0, .int .u8 0, .int .u8 0, .int .u8 0, .int .u8 0, .int .u8 0, .int .u8 0, .int .u8 0, .int .u8 0, .int .u8 0, .int .u8 0, .int .u8 0, .int .u8 0, .int .u8 0, .int .u8 0, .int .u8 0, .int .u8 0] 54)).touch t4 (by have := h3.lt; omega)))
 refine ret_span rfl _ _ _ _ rfl h7 rfl ⟨rfl, ?_⟩
 exact below_touched (below_touched (below_made (below_called B1 b3 (Nat.le_refl _)) (Nat.le_refl _) _) t4 (by have := h3.lt; omega) (Nat.le_refl _)) t7 (by omega) (Nat.le_refl _)
end
end Go.Proofs.YtdmindhjmjnagaaGreatDoor
