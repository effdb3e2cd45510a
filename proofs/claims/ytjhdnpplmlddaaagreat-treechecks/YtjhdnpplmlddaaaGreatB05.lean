import Derived.Test.YtjhdnpplmlddaaaGreatB04
import Derived.Great.Walk
/- Reading pairs and kids. -/
namespace Go.Proofs.YtjhdnpplmlddaaaGreat
set_option linter.unusedVariables false
open Go.RowKit

theorem alloc_row {ops : Array Oper} {rest : List Oper} {o : Oper} {a : Act} {w : World} {Q : Exit → Act → World → Prop} (hg : o.guard = none) (t : TypeId) (ho : o.op = .alloc t) (z : List Value) (hz : (Tryz.prog.info? t).map (·.zero) = some (some (.agg z.toArray)))
    (h : wpList Tryz.prog ops Q rest (a.put o.dst (.pointer (some ⟨w.heap.size, 0, none⟩))) (w.alloc (.cells z.toArray t))) : wpList Tryz.prog ops Q (o :: rest) a w := by
  cases hi : Tryz.prog.info? t with
  | none => rw [hi] at hz; cases hz
  | some i =>
    rw [hi] at hz
    have hz' : i.zero = some (.agg z.toArray) := by simpa using hz
    refine Great.wpList_runTo hg _ rfl _ _ ?_ h
    unfold execOp
    simp [ho, zeroValue, typeInfo, hi, hz', newVar, newRow, Value.cells, Instr.alloc]
set_option maxRecDepth 100000 in
theorem build_run {o : Oper} {f : Operand → Value} {w : World} (t : TypeId) (parts : Array (Nat × Operand)) (ho : o.op = .build t parts) (vs : List (Nat × Value)) (hv : (parts.map fun x => (x.1, f x.2)).toList = vs) (C : Array Value) (hb : Tryz.prog.built t vs = some C) : (execOp f o).run Tryz.prog w = .ok (.value (.agg C)) w := by
  subst hv
  have := run_build (P := Tryz.prog) w t (parts.map fun x => (x.1, f x.2)) C hb
  unfold execOp
  simp only [ho]
  simp [this]
theorem frozen_row {w : World} {b : Nat} {C : Array Value} {t : TypeId} (h : w.heap[b]? = some (.cells C t (0, 0))) (j : Nat) : w.frozen? ⟨b, j, none⟩ = false := by simp [World.frozen?, h]
def fit24 (g : List UInt8) : List UInt8 := g ++ zs (24 - g.length)
theorem got24 (s : RS) : (s.got 24).length ≤ 24 := by rcases s.got_length 24 with h | h <;> omega
theorem fit24_length (s : RS) : (fit24 (s.got 24)).length = 24 := by
  have := got24 s
  simp [fit24, zs_length]
  omega
theorem drop_zs (n m : Nat) : (bc (zs n)).drop m = bc (zs (n - m)) := by simp [bc, zs, List.map_replicate, List.drop_replicate]
theorem copy_op {o : Oper} {a : Act} {w : World} {K : Act → World → Prop} {Q : Exit → Act → World → Prop} (d x : Operand) (ho : o.op = .call { callee := .builtin .copy, args := #[d, x], argTypes := #[119, 9] }) (b : Nat) (hd : a.eval d = .slice (some ⟨b, 0, none⟩) 24 24) (t : ByteArray) (hx : a.eval x = .string t) (ht : t.size ≤ 24) (hK : Has w b (zs 24))
    (h : ∀ w' v, Has w' b (fit24 t.data.toList) → Touch b none w w' → w'.heap.size = w.heap.size → K (a.put o.dst v) w') : o.wp Tryz.prog a w K Q := by
  have hsz : (Tryz.prog.info? 5).map (·.size) = some 1 := by kernel_rfl
  have hrun := Lib.run_copy_row_string (P := Tryz.prog) w 119 9 o.type 5 b 0 24 24 t _ _ Tryz.underlying119 hsz hK.blk ht (by rw [bc_size, zs_length]; omega)
  have e : ((bc (zs 24)).toArray.toList.take 0 ++ Lib.byteCells t.data.toList ++ (bc (zs 24)).toArray.toList.drop (0 + t.size)) = bc (fit24 t.data.toList) := by
    have hl : t.data.toList.length = t.size := by simp
    have e2 := drop_zs 24 t.size
    rw [fit24, bc_append, hl, List.take_zero, List.nil_append, Nat.zero_add]
    show Lib.byteCells t.data.toList ++ (bc (zs 24)).drop t.size = _
    rw [e2]
    rfl
  rw [e] at hrun
  unfold Oper.wp
  simp [execOp, ho, resolve, invoke, builtin, hd, hx, hrun, Result.andThen]
  exact h _ _ (hK.setRow _ (by simp [fit24, zs_length]; omega)) (touch_setRow _ _ _) (by simp)
theorem touch_set (w : World) (b o : Nat) (v : Value) : Touch b none w (w.setCell ⟨b, o, none⟩ v) := (Touch.refl b none w).setCell o v
theorem touch_setCells {b : Nat} : ∀ (vs : List Value) (o : Nat) (w : World), Touch b none w (w.setCells b o vs)
  | [], o, w => Touch.refl _ _ _
  | v :: vs, o, w => (touch_set w b o v).trans (touch_setCells vs (o + 1) _) (Near.none _ _)
theorem size_setCells {b : Nat} : ∀ (vs : List Value) (o : Nat) (w : World), (w.setCells b o vs).heap.size = w.heap.size
  | [], o, w => rfl
  | v :: vs, o, w => by rw [World.setCells, size_setCells vs (o + 1) _]; simp [World.setCell]
theorem there_same {w w' : World} {b o n : Nat} (h : w.there b o n) (e : w'.heap[b]? = w.heap[b]?) : w'.there b o n := fun j hj => by
  have h1 : w'.cell? ⟨b, o + j, none⟩ = w.cell? ⟨b, o + j, none⟩ := World.cell?_of_block e
  have h2 : w'.frozen? ⟨b, o + j, none⟩ = w.frozen? ⟨b, o + j, none⟩ := by simp [World.frozen?, e]
  rw [h1, h2]
  exact h j hj
def oneP (s : RS) : Pr := ⟨fit24 (s.got 24), str (s.take 24).text⟩
def nextP (s : RS) : RS := (s.take 24).atext
def readsP : Nat → RS → List Pr
  | 0, _ => []
  | n + 1, s => oneP s :: readsP n (nextP s)
def afterP : Nat → RS → RS
  | 0, s => s
  | n + 1, s => afterP n (nextP s)
theorem readsP_snoc : ∀ (n : Nat) (s : RS), readsP (n + 1) s = readsP n s ++ [oneP (afterP n s)]
  | 0, s => rfl
  | n + 1, s => by rw [readsP, readsP_snoc n (nextP s)]; rfl
theorem afterP_snoc : ∀ (n : Nat) (s : RS), afterP (n + 1) s = nextP (afterP n s)
  | 0, s => rfl
  | n + 1, s => by rw [afterP, afterP_snoc n (nextP s)]; rfl
theorem readsP_length : ∀ (n : Nat) (s : RS), (readsP n s).length = n
  | 0, s => rfl
  | n + 1, s => by rw [readsP, List.length_cons, readsP_length n]
theorem readsP_keys : ∀ (n : Nat) (s : RS), ∀ e ∈ readsP n s, e.k.length = 24
  | 0, s, e, h => by cases h
  | n + 1, s, e, h => by
    rcases List.mem_cons.1 h with rfl | h
    · exact fit24_length s
    · exact readsP_keys n _ e h
theorem Tryz.P_built (parts : List (Nat × Value)) : Tryz.prog.built 89 parts = Instr.fill (#[(0, 24), (24, 1)][·]?) (ec nilP).toArray parts := by
  have h1 : (Tryz.prog.info? 89).map (·.zero) = some (some (.agg (ec nilP).toArray)) := by kernel_rfl
  have h2 : (Tryz.prog.underlying 89).map (fun d => match d with | .struct fs => fs.toList.mapM (fun f => (Tryz.prog.info? f.type).map fun i => (f.offset, i.size)) | _ => none) = some (some [(0, 24), (24, 1)]) := by kernel_rfl
  unfold Program.built
  cases hi : Tryz.prog.info? 89 with
  | none => rw [hi] at h1; cases h1
  | some i =>
    rw [hi] at h1
    have hz : i.zero = some (.agg (ec nilP).toArray) := by simpa using h1
    cases hu : Tryz.prog.underlying 89 with
    | none => rw [hu] at h2; cases h2
    | some d =>
      rw [hu] at h2
      cases d with
      | struct fs =>
        have hp : fs.toList.mapM (fun f => (Tryz.prog.info? f.type).map fun i => (f.offset, i.size)) = some [(0, 24), (24, 1)] := by simpa using h2
        simp only [hz, hp]
        rfl
      | _ => simp at h2
theorem builtP (K : List UInt8) (v : Value) (hK : K.length = 24) (hv : v.cells = #[v]) : Tryz.prog.built 89 [(0, kv K), (1, v)] = some (ec ⟨K, v⟩).toArray := by
  have e1 : ((ec nilP).toArray.toList.take 0 ++ (kv K).cells.toList ++ (ec nilP).toArray.toList.drop (0 + 24)).toArray = (ec ⟨K, nilP.v⟩).toArray := by
    simp only [ec, Value.cells, List.take_zero, List.nil_append, Nat.zero_add]
    rw [List.drop_append_of_le_length (by simp [bc_length, nilP, zs_length]), List.drop_of_length_le (by simp [bc_length, nilP, zs_length])]
    rfl
  have e2 : ((ec ⟨K, nilP.v⟩).toArray.toList.take 24 ++ v.cells.toList ++ (ec ⟨K, nilP.v⟩).toArray.toList.drop (24 + 1)).toArray = (ec ⟨K, v⟩).toArray := by
    rw [hv]
    simp only [ec]
    rw [List.take_append_of_le_length (by simp [bc_length, hK]), List.take_of_length_le (by simp [bc_length, hK]), List.drop_of_length_le (by simp [bc_length, hK]), List.append_nil]
  rw [Tryz.P_built, fill_put (off := 0) (size := 24) rfl (by simp [Value.cells, bc_length, hK]) (by simp [ec, bc_length, nilP, zs_length]), e1,
    fill_put (off := 24) (size := 1) rfl (by rw [hv]; rfl) (by simp [ec, bc_length, hK]), e2]
  rfl
theorem store_P_op {o : Oper} {a : Act} {w : World} {K : Act → World → Prop} {Q : Exit → Act → World → Prop} (x y : Operand) (ho : o.op = .store 89 x y) (b : Nat) (hx : a.eval x = .pointer (some ⟨b, 0, none⟩)) (L : El) (hy : a.eval y = ev L) (hL : L.Ok) (M : El) (hK : HasP w b M)
    (h : ∀ w', HasP w' b L → Touch b none w w' → w'.heap.size = w.heap.size → K (a.put o.dst undef) w') : o.wp Tryz.prog a w K Q :=
  wp_store_row _ x y ho b _ hx hy _ _ hK.blk (by rw [ec_size hL]; exact Tryz.info_P) (by rw [ec_size hL, ec_size hK.ok]) (ec_all hL) (h _ ⟨hL, setRow_heap w b _ _ _ _ hK.blk⟩ (touch_setRow _ _ _) (by simp))
def oneK (s : RS) : Kd := ⟨fit24 (s.got 24), (num ((s.take 24).got 4) : Int)⟩
def nextK (s : RS) : RS := (s.take 24).take 4
def readsK : Nat → RS → List Kd
  | 0, _ => []
  | n + 1, s => oneK s :: readsK n (nextK s)
def afterK : Nat → RS → RS
  | 0, s => s
  | n + 1, s => afterK n (nextK s)
theorem readsK_snoc : ∀ (n : Nat) (s : RS), readsK (n + 1) s = readsK n s ++ [oneK (afterK n s)]
  | 0, s => rfl
  | n + 1, s => by rw [readsK, readsK_snoc n (nextK s)]; rfl
theorem afterK_snoc : ∀ (n : Nat) (s : RS), afterK (n + 1) s = nextK (afterK n s)
  | 0, s => rfl
  | n + 1, s => by rw [afterK, afterK_snoc n (nextK s)]; rfl
theorem readsK_length : ∀ (n : Nat) (s : RS), (readsK n s).length = n
  | 0, s => rfl
  | n + 1, s => by rw [readsK, List.length_cons, readsK_length n]
theorem readsK_keys : ∀ (n : Nat) (s : RS), ∀ e ∈ readsK n s, e.k.length = 24
  | 0, s, e, h => by cases h
  | n + 1, s, e, h => by
    rcases List.mem_cons.1 h with rfl | h
    · exact fit24_length s
    · exact readsK_keys n _ e h
theorem Tryz.K_built (parts : List (Nat × Value)) : Tryz.prog.built 93 parts = Instr.fill (#[(0, 24), (24, 1)][·]?) (ec nilK).toArray parts := by
  have h1 : (Tryz.prog.info? 93).map (·.zero) = some (some (.agg (ec nilK).toArray)) := by kernel_rfl
  have h2 : (Tryz.prog.underlying 93).map (fun d => match d with | .struct fs => fs.toList.mapM (fun f => (Tryz.prog.info? f.type).map fun i => (f.offset, i.size)) | _ => none) = some (some [(0, 24), (24, 1)]) := by kernel_rfl
  unfold Program.built
  cases hi : Tryz.prog.info? 93 with
  | none => rw [hi] at h1; cases h1
  | some i =>
    rw [hi] at h1
    have hz : i.zero = some (.agg (ec nilK).toArray) := by simpa using h1
    cases hu : Tryz.prog.underlying 93 with
    | none => rw [hu] at h2; cases h2
    | some d =>
      rw [hu] at h2
      cases d with
      | struct fs =>
        have hp : fs.toList.mapM (fun f => (Tryz.prog.info? f.type).map fun i => (f.offset, i.size)) = some [(0, 24), (24, 1)] := by simpa using h2
        simp only [hz, hp]
        rfl
      | _ => simp at h2
theorem builtK (K : List UInt8) (v : Value) (hK : K.length = 24) (hv : v.cells = #[v]) : Tryz.prog.built 93 [(0, kv K), (1, v)] = some (ec ⟨K, v⟩).toArray := by
  have e1 : ((ec nilK).toArray.toList.take 0 ++ (kv K).cells.toList ++ (ec nilK).toArray.toList.drop (0 + 24)).toArray = (ec ⟨K, nilK.v⟩).toArray := by
    simp only [ec, Value.cells, List.take_zero, List.nil_append, Nat.zero_add]
    rw [List.drop_append_of_le_length (by simp [bc_length, nilK, zs_length]), List.drop_of_length_le (by simp [bc_length, nilK, zs_length])]
    rfl
  have e2 : ((ec ⟨K, nilK.v⟩).toArray.toList.take 24 ++ v.cells.toList ++ (ec ⟨K, nilK.v⟩).toArray.toList.drop (24 + 1)).toArray = (ec ⟨K, v⟩).toArray := by
    rw [hv]
    simp only [ec]
    rw [List.take_append_of_le_length (by simp [bc_length, hK]), List.take_of_length_le (by simp [bc_length, hK]), List.drop_of_length_le (by simp [bc_length, hK]), List.append_nil]
  rw [Tryz.K_built, fill_put (off := 0) (size := 24) rfl (by simp [Value.cells, bc_length, hK]) (by simp [ec, bc_length, nilK, zs_length]), e1,
    fill_put (off := 24) (size := 1) rfl (by rw [hv]; rfl) (by simp [ec, bc_length, hK]), e2]
  rfl
theorem store_K_op {o : Oper} {a : Act} {w : World} {K : Act → World → Prop} {Q : Exit → Act → World → Prop} (x y : Operand) (ho : o.op = .store 93 x y) (b : Nat) (hx : a.eval x = .pointer (some ⟨b, 0, none⟩)) (L : El) (hy : a.eval y = ev L) (hL : L.Ok) (M : El) (hK : HasK w b M)
    (h : ∀ w', HasK w' b L → Touch b none w w' → w'.heap.size = w.heap.size → K (a.put o.dst undef) w') : o.wp Tryz.prog a w K Q :=
  wp_store_row _ x y ho b _ hx hy _ _ hK.blk (by rw [ec_size hL]; exact Tryz.info_K) (by rw [ec_size hL, ec_size hK.ok]) (ec_all hL) (h _ ⟨hL, setRow_heap w b _ _ _ _ hK.blk⟩ (touch_setRow _ _ _) (by simp))
def roomP : List Value := (List.replicate 18 (ec nilP)).flatten
theorem roomP_length : roomP.length = 450 := by kernel_rfl
def roomK : List Value := (List.replicate 18 (ec nilK)).flatten
theorem roomK_length : roomK.length = 450 := by kernel_rfl
end Go.Proofs.YtjhdnpplmlddaaaGreat
/- Of. -/
namespace Go.Proofs.YtjhdnpplmlddaaaGreat
set_option linter.unusedVariables false
open Go.RowKit

/-- Bytes that lie below the heap's end. -/
def Byt (x : World) (sv : Value) (L : List UInt8) : Prop := ∃ r, BytesIn x sv L r ∧ ∀ k, r = some k → k < x.heap.size
theorem Byt.below {x y : World} {sv : Value} {L : List UInt8} (h : Byt x sv L) (b : Below x.heap.size x y) : Byt y sv L := by
  obtain ⟨r, h1, h2⟩ := h
  exact ⟨r, h1.kept fun k hk => b.block k (h2 k hk), fun k hk => by have := h2 k hk; have := b.size; omega⟩
theorem Byt.nil (x : World) : Byt x (.slice none 0 0) [] := ⟨none, ⟨none, 0, rfl, Nat.le_refl _, .inl ⟨rfl, rfl, rfl⟩⟩, fun k hk => by cases hk⟩
theorem Byt.conv {x : World} {sv : Value} {L : List UInt8} (h : Byt x sv L) : (convert 119 9 sv).run Tryz.prog x = .ok (.string (str L)) x := by
  obtain ⟨r, h1, _⟩ := h
  exact conv_bytes h1
/-- What Of reads: the node, and the reader behind it. -/
def psOf (s : RS) : List Pr := if 18 < num (s.got 1) then [] else readsP (num (s.got 1)) (s.take 1)
def ksOf (s : RS) : List Kd := if 18 < num (s.got 1) then [] else readsK (num (s.got 1)) (s.take 1)
def endP (s : RS) : RS := if 18 < num (s.got 1) then s.take 1 else afterP (num (s.got 1)) (s.take 1)
def endK (s : RS) : RS := if 18 < num (s.got 1) then s.take 1 else afterK (num (s.got 1)) (s.take 1)
def s0 (L : List UInt8) : RS := ⟨L, false⟩
def lvOf (L : List UInt8) : Nat := num (((s0 L).take 2).got 1)
def s2 (L : List UInt8) : RS := ((s0 L).take 2).take 1
def rdN (L : List UInt8) : Nod := if lvOf L = 0 then ⟨0, psOf (s2 L), []⟩ else ⟨lvOf L, [], ksOf (s2 L)⟩
def rdEnd (L : List UInt8) : RS := if lvOf L = 0 then endP (s2 L) else endK (s2 L)
def ofN (L : List UInt8) : Option Nod := if L.length = 512 ∧ (s0 L).got 2 = [87, 84] ∧ ((!(rdEnd L).bad && (rdEnd L).l.all (· == 0)) = true) ∧ rightN (rdN L) = true then some (rdN L) else none
def codeN (o : Option Nod) : Int := match o with | some _ => 0 | none => 12
/-- What Of comes to. -/
def OfTo (w : World) (o : Option Nod) (e : Ending) (w' : World) : Prop := ∃ pv qv, e = .returned (.tuple #[nv (o.getD nilN) pv qv, .int .i64 (codeN o)]) ∧ Parts w' (o.getD nilN) pv qv ∧ Below w.heap.size w w'
theorem Parts.nil (w : World) : Parts w nilN (.slice none 0 0) (.slice none 0 0) := ⟨Els.nil w, Els.nil w⟩
theorem Tryz.node0 : Tryz.prog.built 60 [] = some (nc nilN (.slice none 0 0) (.slice none 0 0)) := by kernel_rfl
theorem Tryz.node1 (n : Int) : Tryz.prog.built 60 [(0, .int .i64 n)] = some (nc ⟨n, [], []⟩ (.slice none 0 0) (.slice none 0 0)) := by kernel_rfl
theorem build_node {ops : Array Oper} {rest : List Oper} {o : Oper} {a : Act} {w : World} {Q : Exit → Act → World → Prop} (hg : o.guard = none) (parts : Array (Nat × Operand)) (ho : o.op = .build 60 parts) (vs : List (Nat × Value)) (hv : (parts.map fun x => (x.1, a.eval x.2)).toList = vs) (C : Array Value) (hb : Tryz.prog.built 60 vs = some C)
    (h : wpList Tryz.prog ops Q rest (a.put o.dst (.agg C)) w) : wpList Tryz.prog ops Q (o :: rest) a w := Great.wpList_runTo hg _ rfl _ _ (build_run 60 parts ho vs hv C hb) h
/-- How long what is left can be. -/
theorem take_len (s : RS) (n : Int) : (s.take n).l.length ≤ s.l.length := by
  unfold RS.take
  split
  · simp
  · simp
theorem nextP_len (s : RS) : (nextP s).l.length ≤ s.l.length := by
  unfold nextP RS.atext
  exact Nat.le_trans (take_len _ _) (Nat.le_trans (take_len _ _) (take_len _ _))
theorem nextK_len (s : RS) : (nextK s).l.length ≤ s.l.length := by
  unfold nextK
  exact Nat.le_trans (take_len _ _) (take_len _ _)
theorem afterP_len : ∀ (n : Nat) (s : RS), (afterP n s).l.length ≤ s.l.length
  | 0, s => Nat.le_refl _
  | n + 1, s => Nat.le_trans (afterP_len n _) (nextP_len s)
theorem afterK_len : ∀ (n : Nat) (s : RS), (afterK n s).l.length ≤ s.l.length
  | 0, s => Nat.le_refl _
  | n + 1, s => Nat.le_trans (afterK_len n _) (nextK_len s)
theorem endP_len (s : RS) : (endP s).l.length ≤ s.l.length := by
  unfold endP
  split
  · exact take_len _ _
  · exact Nat.le_trans (afterP_len _ _) (take_len _ _)
theorem endK_len (s : RS) : (endK s).l.length ≤ s.l.length := by
  unfold endK
  split
  · exact take_len _ _
  · exact Nat.le_trans (afterK_len _ _) (take_len _ _)
theorem s2_len (L : List UInt8) : (s2 L).l.length ≤ L.length := Nat.le_trans (take_len _ _) (take_len _ _)
theorem HasN.set1 {w : World} {b : Nat} {x : Nod} {pv qv : Value} (h : HasN w b x pv qv) (ps : List Pr) (v : Value) (hv : v.oneCell' = true) : HasN (w.setCell ⟨b, 1, none⟩ v) b ⟨x.lv, ps, x.ks⟩ v qv := by
  refine ⟨?_, hv, h.2.2⟩
  rw [setCell_eq_setRow w b 1 _ _ _ _ h.1, setRow_heap w b _ _ _ _ h.1]
  rfl
theorem HasN.set2 {w : World} {b : Nat} {x : Nod} {pv qv : Value} (h : HasN w b x pv qv) (ks : List Kd) (v : Value) (hv : v.oneCell' = true) : HasN (w.setCell ⟨b, 2, none⟩ v) b ⟨x.lv, x.ps, ks⟩ pv v := by
  refine ⟨?_, h.2.1, hv⟩
  rw [setCell_eq_setRow w b 2 _ _ _ _ h.1, setRow_heap w b _ _ _ _ h.1]
  rfl
end Go.Proofs.YtjhdnpplmlddaaaGreat
/- There is one block of a node, and one node of a block (mathematics). -/
namespace Go.Proofs.YtjhdnpplmlddaaaGreat
set_option linter.unusedVariables false
open Go.RowKit

theorem got_app (x y : List UInt8) (n : Int) (h : (x.length : Int) = n) : (⟨x ++ y, false⟩ : RS).got n = x := by
  subst h
  unfold RS.got
  rw [if_neg (by simp; omega)]
  simp
theorem take_app (x y : List UInt8) (n : Int) (h : (x.length : Int) = n) : (⟨x ++ y, false⟩ : RS).take n = ⟨y, false⟩ := by
  subst h
  unfold RS.take
  rw [if_neg (by simp; omega)]
  simp
theorem be_len_int (v k : Nat) (n : Int) (h : n = k) : ((be v k).length : Int) = n := by rw [be_length, h]
theorem take_good {s : RS} {n : Int} (h : (s.take n).bad = false) : s.bad = false ∧ 0 ≤ n ∧ s.l = s.got n ++ (s.take n).l ∧ ((s.got n).length : Int) = n := by
  unfold RS.take RS.got at *
  split at h
  · cases h
  · rename_i hc
    have h1 : s.bad = false := by
      cases hb : s.bad
      · rfl
      · exact absurd (Or.inl hb) hc
    rw [if_neg hc, if_neg hc]
    refine ⟨h1, by omega, by simp, ?_⟩
    simp
    omega
theorem be_num : ∀ (l : List UInt8), be (num l) l.length = l := by
  intro l
  induction hn : l.length generalizing l with
  | zero => rw [List.eq_nil_of_length_eq_zero hn]; rfl
  | succ k ih =>
    obtain ⟨b, m, rfl⟩ : ∃ b m, l = b :: m := by
      cases l with
      | nil => simp at hn
      | cons b m => exact ⟨b, m, rfl⟩
    have hm : m.length = k := by simpa using hn
    have h1 := num_lt m
    rw [hm] at h1
    have hp := pow_pos256 k
    have e1 : num (b :: m) = b.toNat * 256 ^ k + num m := by
      have : ∀ (l : List UInt8) (c : Nat), l.foldl (fun a b => 256 * a + b.toNat) c = c * 256 ^ l.length + num l := by
        intro l
        induction l with
        | nil => intro c; simp [num]
        | cons x l ih2 =>
          intro c
          have a3 : num (x :: l) = x.toNat * 256 ^ l.length + num l := by
            have := ih2 x.toNat
            simpa [num] using this
          have a4 : 256 * c * 256 ^ l.length = c * (256 ^ l.length * 256) := by rw [Nat.mul_comm 256 c, Nat.mul_assoc, Nat.mul_comm 256]
          rw [List.foldl_cons, ih2, a3, List.length_cons, Nat.pow_succ, Nat.add_mul, a4]
          omega
      have a := this m b.toNat
      rw [hm] at a
      simpa [num] using a
    have e2 : num (b :: m) / 256 ^ k = b.toNat := by
      rw [e1, Nat.mul_comm, Nat.mul_add_div hp, Nat.div_eq_of_lt h1]
      rfl
    have e3 : num (b :: m) % 256 ^ k = num m := by
      rw [e1, Nat.mul_comm, Nat.mul_add_mod, Nat.mod_eq_of_lt h1]
    rw [be, e2, ← be_mod (num (b :: m)) k k (Nat.le_refl _), e3, ih m hm]
    simp
theorem be_num_of {l : List UInt8} {k : Nat} {n : Int} (h : (l.length : Int) = n) (hk : n = k) : be (num l) k = l := by
  have : l.length = k := by omega
  rw [← this]
  exact be_num l
theorem zeros_of {l : List UInt8} (h : l.all (· == 0) = true) : l = List.replicate l.length 0 := by
  refine List.eq_replicate_iff.2 ⟨rfl, fun b hb => ?_⟩
  have := List.all_eq_true.1 h b hb
  simpa using this

theorem be1_num {n : Nat} (h : n < 256) : num (be n 1) = n := num_be 1 n (by simpa using h)
theorem oneP_enc (p : Pr) (y : List UInt8) (hk : p.k.length = 24) (hs : p.s.size < 256) : oneP ⟨p.k ++ (be p.s.size 1 ++ p.s.data.toList) ++ y, false⟩ = p ∧ nextP ⟨p.k ++ (be p.s.size 1 ++ p.s.data.toList) ++ y, false⟩ = ⟨y, false⟩ := by
  have e0 : p.k ++ (be p.s.size 1 ++ p.s.data.toList) ++ y = p.k ++ (be p.s.size 1 ++ (p.s.data.toList ++ y)) := by simp
  have hd : p.s.data.toList.length = p.s.size := by simp
  have h1 : ((p.k.length : Nat) : Int) = 24 := by omega
  have h2 : (((be p.s.size 1).length : Nat) : Int) = 1 := by rw [be_length]; rfl
  rw [e0, oneP, nextP, RS.text, RS.atext, got_app _ _ _ h1, take_app _ _ _ h1, got_app _ _ _ h2, take_app _ _ _ h2, be1_num hs, got_app _ _ _ (by rw [hd]), take_app _ _ _ (by rw [hd]), str_data]
  refine ⟨?_, rfl⟩
  have : fit24 p.k = p.k := by simp [fit24, hk, zs]
  rw [this]
theorem oneK_enc (p : Kd) (y : List UInt8) (hk : p.k.length = 24) (hs : 0 ≤ p.n ∧ p.n ≤ 4294967295) : oneK ⟨p.k ++ be p.n.toNat 4 ++ y, false⟩ = p ∧ nextK ⟨p.k ++ be p.n.toNat 4 ++ y, false⟩ = ⟨y, false⟩ := by
  have e0 : p.k ++ be p.n.toNat 4 ++ y = p.k ++ (be p.n.toNat 4 ++ y) := by simp
  have h1 : ((p.k.length : Nat) : Int) = 24 := by omega
  have h2 : (((be p.n.toNat 4).length : Nat) : Int) = 4 := by rw [be_length]; rfl
  rw [e0, oneK, nextK, got_app _ _ _ h1, take_app _ _ _ h1, got_app _ _ _ h2, take_app _ _ _ h2, num_be 4 _ (by rw [p4]; omega)]
  refine ⟨?_, rfl⟩
  have : fit24 p.k = p.k := by simp [fit24, hk, zs]
  rw [this]
  have e : ((p.n.toNat : Nat) : Int) = p.n := by omega
  rw [e]
theorem readsP_enc (y : List UInt8) : ∀ l : List Pr, (∀ p ∈ l, p.k.length = 24) → (∀ p ∈ l, p.s.size ≤ 40) → readsP l.length ⟨encP l ++ y, false⟩ = l ∧ afterP l.length ⟨encP l ++ y, false⟩ = ⟨y, false⟩
  | [], _, _ => ⟨rfl, rfl⟩
  | p :: l, hk, hs => by
    obtain ⟨h1, h2⟩ := readsP_enc y l (fun q hq => hk q (by simp [hq])) (fun q hq => hs q (by simp [hq]))
    have hp := hs p (by simp)
    obtain ⟨k1, k2⟩ := oneP_enc p (encP l ++ y) (hk p (by simp)) (by omega)
    rw [encP_cons, List.append_assoc, List.length_cons, readsP, afterP, k1, k2, h1, h2]
    exact ⟨rfl, rfl⟩
theorem readsK_enc (y : List UInt8) : ∀ l : List Kd, (∀ p ∈ l, p.k.length = 24) → (∀ p ∈ l, 2 ≤ p.n ∧ p.n ≤ 4294967295) → readsK l.length ⟨encK l ++ y, false⟩ = l ∧ afterK l.length ⟨encK l ++ y, false⟩ = ⟨y, false⟩
  | [], _, _ => ⟨rfl, rfl⟩
  | p :: l, hk, hs => by
    obtain ⟨h1, h2⟩ := readsK_enc y l (fun q hq => hk q (by simp [hq])) (fun q hq => hs q (by simp [hq]))
    have hp := hs p (by simp)
    obtain ⟨k1, k2⟩ := oneK_enc p (encK l ++ y) (hk p (by simp)) (by omega)
    rw [encK_cons, List.append_assoc, List.length_cons, readsK, afterK, k1, k2, h1, h2]
    exact ⟨rfl, rfl⟩
theorem all_zeros (n : Nat) : (List.replicate n (0 : UInt8)).all (· == 0) = true := by simp
theorem of_enc (x : Nod) (hk : Keyed x) (hr : rightN x = true) : ofN (enc x) = some x := by
  have F := fits hr
  have h512 := F.enc hk
  obtain ⟨Z, hZ⟩ : ∃ Z, Z = List.replicate (512 - (encB x).length) (0 : UInt8) := ⟨_, rfl⟩
  have hl0 := F.l0
  have hl1 := F.l1
  have hnp := F.np
  have hnk := F.nk
  have eL : enc x = [87, 84] ++ (be x.lv.toNat 1 ++ (be (x.ps.length + x.ks.length) 1 ++ (encP x.ps ++ encK x.ks ++ Z))) := by
    rw [enc, encB, encH, hZ]
    simp [List.append_assoc]
    rw [encB, encH]
    simp
  have g2 : (s0 (enc x)).got 2 = [87, 84] := by rw [s0, eL, got_app _ _ 2 rfl]
  have t2 : (s0 (enc x)).take 2 = ⟨be x.lv.toNat 1 ++ (be (x.ps.length + x.ks.length) 1 ++ (encP x.ps ++ encK x.ks ++ Z)), false⟩ := by rw [s0, eL, take_app _ _ 2 rfl]
  have hlv : lvOf (enc x) = x.lv.toNat := by rw [lvOf, t2, got_app _ _ 1 (be_len_int _ 1 1 rfl), be1_num (by omega)]
  have e2 : s2 (enc x) = ⟨be (x.ps.length + x.ks.length) 1 ++ (encP x.ps ++ encK x.ks ++ Z), false⟩ := by rw [s2, t2, take_app _ _ 1 (be_len_int _ 1 1 rfl)]
  have n1 : num ((s2 (enc x)).got 1) = x.ps.length + x.ks.length := by
    rw [e2, got_app _ _ 1 (be_len_int _ 1 1 rfl)]
    refine be1_num ?_
    omega
  have t3 : (s2 (enc x)).take 1 = ⟨encP x.ps ++ encK x.ks ++ Z, false⟩ := by rw [e2, take_app _ _ 1 (be_len_int _ 1 1 rfl)]
  have hx : rdN (enc x) = x ∧ rdEnd (enc x) = ⟨Z, false⟩ := by
    rw [rdN, rdEnd, hlv]
    rcases F.one with ⟨z, e, _⟩ | ⟨z, e, _⟩
    · obtain ⟨q1, q2⟩ := readsP_enc Z x.ps hk.1 F.vs
      have z' : x.lv.toNat = 0 := by omega
      rw [if_pos z', if_pos z', psOf, endP, n1, t3, e]
      have e3 : encP x.ps ++ encK [] ++ Z = encP x.ps ++ Z := by simp [encK]
      simp only [List.length_nil, Nat.add_zero]
      rw [if_neg (by omega), if_neg (by omega), e3, q1, q2]
      obtain ⟨lv, ps, ks⟩ := x
      simp only at e z
      subst e z
      exact ⟨rfl, rfl⟩
    · obtain ⟨q1, q2⟩ := readsK_enc Z x.ks hk.2 F.bs
      have z' : ¬ x.lv.toNat = 0 := by omega
      rw [if_neg z', if_neg z', ksOf, endK, n1, t3, e]
      have e3 : encP [] ++ encK x.ks ++ Z = encK x.ks ++ Z := by simp [encP]
      simp only [List.length_nil, Nat.zero_add]
      rw [if_neg (by omega), if_neg (by omega), e3, q1, q2]
      have e4 : ((x.lv.toNat : Nat) : Int) = x.lv := by omega
      rw [e4]
      obtain ⟨lv, ps, ks⟩ := x
      simp only at e
      subst e
      exact ⟨rfl, rfl⟩
  rw [ofN, if_pos ⟨h512, g2, by rw [hx.2]; simp [hZ], by rw [hx.1]; exact hr⟩, hx.1]
theorem nextP_back {s : RS} (h : (nextP s).bad = false) : s.bad = false ∧ s.l = (oneP s).k ++ (be (oneP s).s.size 1 ++ (oneP s).s.data.toList) ++ (nextP s).l := by
  obtain ⟨a1, a2, a3, a4⟩ := take_good (s := (s.take 24).take 1) h
  obtain ⟨b1, b2, b3, b4⟩ := take_good a1
  obtain ⟨c1, c2, c3, c4⟩ := take_good b1
  refine ⟨c1, ?_⟩
  have k1 : (oneP s).k = s.got 24 := by
    have : (s.got 24).length = 24 := by omega
    simp [oneP, fit24, this, zs]
  have k2 : (oneP s).s.data.toList = ((s.take 24).take 1).got (num ((s.take 24).got 1)) := by rw [oneP, RS.text]; exact str_list _
  have k3 : (oneP s).s.size = num ((s.take 24).got 1) := by
    rw [oneP, RS.text]
    simp only [str_size]
    omega
  rw [k1, k2, k3, be_num_of b4 rfl]
  have e : (nextP s).l = (((s.take 24).take 1).take (num ((s.take 24).got 1))).l := rfl
  rw [e, List.append_assoc, List.append_assoc, ← a3, ← b3, ← c3]
theorem nextK_back {s : RS} (h : (nextK s).bad = false) : s.bad = false ∧ s.l = (oneK s).k ++ be (oneK s).n.toNat 4 ++ (nextK s).l := by
  obtain ⟨b1, b2, b3, b4⟩ := take_good (s := s.take 24) h
  obtain ⟨c1, c2, c3, c4⟩ := take_good b1
  refine ⟨c1, ?_⟩
  have k1 : (oneK s).k = s.got 24 := by
    have : (s.got 24).length = 24 := by omega
    simp [oneK, fit24, this, zs]
  have k2 : (oneK s).n.toNat = num ((s.take 24).got 4) := by simp [oneK]
  rw [k1, k2, be_num_of b4 rfl]
  have e : (nextK s).l = ((s.take 24).take 4).l := rfl
  rw [e, List.append_assoc, ← b3, ← c3]
theorem readsP_back : ∀ (n : Nat) (s : RS), (afterP n s).bad = false → s.bad = false ∧ s.l = encP (readsP n s) ++ (afterP n s).l
  | 0, s, h => ⟨h, by simp [readsP, encP, afterP]⟩
  | n + 1, s, h => by
    obtain ⟨h1, h2⟩ := readsP_back n (nextP s) h
    obtain ⟨h3, h4⟩ := nextP_back h1
    refine ⟨h3, ?_⟩
    rw [readsP, afterP, encP_cons, List.append_assoc, ← h2]
    exact h4
theorem readsK_back : ∀ (n : Nat) (s : RS), (afterK n s).bad = false → s.bad = false ∧ s.l = encK (readsK n s) ++ (afterK n s).l
  | 0, s, h => ⟨h, by simp [readsK, encK, afterK]⟩
  | n + 1, s, h => by
    obtain ⟨h1, h2⟩ := readsK_back n (nextK s) h
    obtain ⟨h3, h4⟩ := nextK_back h1
    refine ⟨h3, ?_⟩
    rw [readsK, afterK, encK_cons, List.append_assoc, ← h2]
    exact h4
theorem enc_form (x : Nod) (L Z : List UInt8) (h : L = encB x ++ Z) (hz : Z.all (· == 0) = true) (hl : L.length = 512) : enc x = L := by
  have e := zeros_of hz
  rw [enc, h]
  congr 1
  rw [e]
  congr 1
  rw [h] at hl
  simp at hl
  omega
theorem enc_of {L : List UInt8} {x : Nod} (h : ofN L = some x) : rightN x = true ∧ Keyed x ∧ enc x = L := by
  rw [ofN] at h
  by_cases hc : L.length = 512 ∧ (s0 L).got 2 = [87, 84] ∧ ((!(rdEnd L).bad && (rdEnd L).l.all (· == 0)) = true) ∧ rightN (rdN L) = true
  rotate_left
  · rw [if_neg hc] at h
    cases h
  rw [if_pos hc] at h
  cases h
  obtain ⟨h512, hg, hz, hr⟩ := hc
  refine ⟨hr, ?_⟩
  simp only [Bool.and_eq_true, Bool.not_eq_true'] at hz
  obtain ⟨hb, hz⟩ := hz
  have F := fits hr
  by_cases z : lvOf L = 0
  · have eN : rdN L = ⟨0, psOf (s2 L), []⟩ := by rw [rdN, if_pos z]
    have eE : rdEnd L = endP (s2 L) := by rw [rdEnd, if_pos z]
    rw [eE] at hb hz
    rw [eN] at F ⊢
    have hn : ¬ 18 < num ((s2 L).got 1) := fun hh => by
      rcases F.one with ⟨_, _, q⟩ | ⟨q, _⟩
      · simp only [psOf, if_pos hh] at q
        simp at q
      · exact q rfl
    rw [endP, if_neg hn] at hb hz
    have eP : psOf (s2 L) = readsP (num ((s2 L).got 1)) ((s2 L).take 1) := by rw [psOf, if_neg hn]
    rw [eP]
    obtain ⟨a1, a2⟩ := readsP_back _ _ hb
    obtain ⟨b1, b2, b3, b4⟩ := take_good a1
    obtain ⟨c1, c2, c3, c4⟩ := take_good (s := (s0 L).take 2) b1
    obtain ⟨d1, d2, d3, d4⟩ := take_good c1
    refine ⟨⟨readsP_keys _ _, by simp⟩, enc_form _ _ (afterP (num ((s2 L).got 1)) ((s2 L).take 1)).l ?_ hz h512⟩
    have z2 : num (((s0 L).take 2).got 1) = 0 := z
    have g1 : be 0 1 = ((s0 L).take 2).got 1 := by rw [← z2]; exact be_num_of c4 rfl
    have g3 : be (num ((s2 L).got 1)) 1 = (s2 L).got 1 := be_num_of b4 rfl
    rw [encB, encH, readsP_length]
    simp only [List.length_nil, Nat.add_zero, Int.toNat_zero]
    rw [g1, g3, ← hg]
    have e1 : L = (s0 L).got 2 ++ ((s0 L).take 2).l := d3
    have e2 : ((s0 L).take 2).l = ((s0 L).take 2).got 1 ++ (s2 L).l := c3
    rw [e2, b3, a2] at e1
    simp only [encK, List.flatMap_nil, List.append_nil, List.append_assoc] at e1 ⊢
    exact e1
  · have eN : rdN L = ⟨(lvOf L : Int), [], ksOf (s2 L)⟩ := by rw [rdN, if_neg z]
    have eE : rdEnd L = endK (s2 L) := by rw [rdEnd, if_neg z]
    rw [eE] at hb hz
    rw [eN] at F ⊢
    have hn : ¬ 18 < num ((s2 L).got 1) := fun hh => by
      rcases F.one with ⟨q, _⟩ | ⟨_, _, q⟩
      · simp only at q; omega
      · simp only [ksOf, if_pos hh] at q
        simp at q
    rw [endK, if_neg hn] at hb hz
    have eP : ksOf (s2 L) = readsK (num ((s2 L).got 1)) ((s2 L).take 1) := by rw [ksOf, if_neg hn]
    rw [eP]
    obtain ⟨a1, a2⟩ := readsK_back _ _ hb
    obtain ⟨b1, b2, b3, b4⟩ := take_good a1
    obtain ⟨c1, c2, c3, c4⟩ := take_good (s := (s0 L).take 2) b1
    obtain ⟨d1, d2, d3, d4⟩ := take_good c1
    refine ⟨⟨by simp, readsK_keys _ _⟩, enc_form _ _ (afterK (num ((s2 L).got 1)) ((s2 L).take 1)).l ?_ hz h512⟩
    have g1 : be (lvOf L) 1 = ((s0 L).take 2).got 1 := be_num_of c4 rfl
    have g3 : be (num ((s2 L).got 1)) 1 = (s2 L).got 1 := be_num_of b4 rfl
    rw [encB, encH, readsK_length]
    simp only [List.length_nil, Nat.zero_add, Int.toNat_natCast]
    rw [g1, g3, ← hg]
    have e1 : L = (s0 L).got 2 ++ ((s0 L).take 2).l := d3
    have e2 : ((s0 L).take 2).l = ((s0 L).take 2).got 1 ++ (s2 L).l := c3
    rw [e2, b3, a2] at e1
    simp only [encP, List.flatMap_nil, List.nil_append, List.append_assoc] at e1 ⊢
    exact e1
theorem of_iff (L : List UInt8) (x : Nod) : ofN L = some x ↔ rightN x = true ∧ Keyed x ∧ enc x = L := ⟨enc_of, fun ⟨h1, h2, h3⟩ => by rw [← h3]; exact of_enc x h2 h1⟩
theorem ofN_len {L : List UInt8} (h : L.length ≠ 512) : ofN L = none := by rw [ofN, if_neg (fun hh => h hh.1)]
/-- A block that is another one is not the node's. -/
theorem other_of {x : Nod} (hr : rightN x = true) (hk : Keyed x) {L : List UInt8} (hL : L ≠ enc x) : ¬ (ofN L).getD nilN = x := by
  cases h : ofN L with
  | none =>
    intro e
    rw [← e] at hr
    exact absurd hr (by decide)
  | some y =>
    intro e
    obtain ⟨_, _, h2⟩ := enc_of h
    exact hL (by rw [← h2]; exact congrArg enc e)
theorem codeN_ok (o : Option Nod) : codeN o = 0 ∨ codeN o = 12 := by cases o; exact .inr rfl; exact .inl rfl
end Go.Proofs.YtjhdnpplmlddaaaGreat
