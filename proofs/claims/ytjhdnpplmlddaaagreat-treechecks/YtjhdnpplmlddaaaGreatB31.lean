import Derived.Test.YtjhdnpplmlddaaaGreatB27
import Derived.Test.YtjhdnpplmlddaaaGreatB30
/- Pairs, changes and pieces of a tree as they lie in rows; how they are built. -/
namespace Go.Proofs.YtjhdnpplmlddaaaGreat
set_option linter.unusedVariables false
open Go.RowKit

/-- A pair, a change. -/
structure Pq where
  k : List UInt8
  h : k.length = 24
  s : ByteArray
structure Cq where
  k : List UInt8
  h : k.length = 24
  s : ByteArray
  g : Bool
def pqc (p : Pq) : List Value := bc p.k ++ [.string p.s]
def cqc (c : Cq) : List Value := bc c.k ++ [.string c.s, .bool c.g]
def encQ : Enc Pq 25 := ⟨pqc, fun p => by simp [pqc, bc_length, p.h], fun p v hv => by
  simp only [pqc, List.mem_append, List.mem_singleton] at hv
  rcases hv with h | rfl
  · exact bc_one _ v h
  · rfl⟩
def encCq : Enc Cq 26 := ⟨cqc, fun p => by simp [cqc, bc_length, p.h], fun p v hv => by
  simp only [cqc, List.mem_append, List.mem_cons, List.not_mem_nil, or_false] at hv
  rcases hv with h | rfl | rfl
  · exact bc_one _ v h
  · rfl
  · rfl⟩
def pq0 : Pq := ⟨zs 24, rfl, ByteArray.empty⟩
def cq0 : Cq := ⟨zs 24, rfl, ByteArray.empty, false⟩
theorem rowQ : RowTy Tryz.prog encQ 39 89 40 := ⟨Tryz.underlying39, ⟨.agg (pqc pq0).toArray, by kernel_rfl, by simp [Value.cells, pqc, bc_length, pq0, zs_length]⟩, by decide⟩
theorem rowG : RowTy Tryz.prog encCq 32 38 48 := ⟨Tryz.underlying32, ⟨.agg (cqc cq0).toArray, by kernel_rfl, by simp [Value.cells, cqc, bc_length, cq0, zs_length]⟩, by decide⟩
theorem elQ : ElTy Tryz.prog encQ 89 := ⟨⟨_, Tryz.underlying89, rfl, rfl⟩, by kernel_rfl⟩
theorem elCq : ElTy Tryz.prog encCq 38 := ⟨⟨_, Tryz.underlying38, rfl, rfl⟩, by kernel_rfl⟩
/-- Keys as numbers; what a change lays down. -/
def Pq.n (p : Pq) : Int := (num p.k : Int)
def Cq.n (c : Cq) : Int := (num c.k : Int)
def Cq.mk' (c : Cq) : Option Pq := if c.g = true then none else some ⟨c.k, c.h, c.s⟩
theorem Cq.mk_none {c : Cq} (h : c.g = true) : c.mk' = none := by rw [Cq.mk', if_pos h]
theorem Cq.mk_some {c : Cq} (h : c.g = false) : c.mk' = some ⟨c.k, c.h, c.s⟩ := by rw [Cq.mk', if_neg (by rw [h]; decide)]
theorem less_pc (p : Pq) (c : Cq) : Op.bytesLess p.k c.k = decide (p.n < c.n) := by
  rw [less_num p.k c.k (by rw [p.h, c.h]), Pq.n, Cq.n]
  simp
theorem eq_pc (p : Pq) (c : Cq) : (p.k == c.k) = decide (p.n = c.n) := by
  rw [Bool.eq_iff_iff, beq_iff_eq, decide_eq_true_eq]
  constructor
  · intro h; rw [Pq.n, Cq.n, h]
  · intro h
    rw [Pq.n, Cq.n] at h
    exact num_inj p.k c.k (by rw [p.h, c.h]) (by omega)
theorem range_kQ {w : World} {b i : Nat} {p : Pq} (h : w.rangeAt b i (encQ.c p)) : w.rangeAt b i (bc p.k) := fun j v hv => by
  refine h j v ?_
  show (pqc p)[j]? = some v
  rw [pqc, List.getElem?_append_left (List.getElem?_eq_some_iff.1 hv).1]
  exact hv
theorem range_kG {w : World} {b i : Nat} {p : Cq} (h : w.rangeAt b i (encCq.c p)) : w.rangeAt b i (bc p.k) := fun j v hv => by
  refine h j v ?_
  show (cqc p)[j]? = some v
  rw [cqc, List.getElem?_append_left (List.getElem?_eq_some_iff.1 hv).1]
  exact hv
theorem range_vG {w : World} {b i : Nat} {p : Cq} (h : w.rangeAt b i (encCq.c p)) : w.cell? ⟨b, i + 24, none⟩ = some (.string p.s) ∧ w.cell? ⟨b, i + 25, none⟩ = some (.bool p.g) := by
  have hk : (bc p.k).length = 24 := by rw [bc_length, p.h]
  constructor
  · refine h 24 _ ?_
    show (cqc p)[24]? = _
    rw [cqc, List.getElem?_append_right (by omega), hk]
    rfl
  · refine h 25 _ ?_
    show (cqc p)[25]? = _
    rw [cqc, List.getElem?_append_right (by omega), hk]
    rfl

/-! Built. -/
theorem built_of (t : TypeId) (Z : Array Value) (pl : List (Nat × Nat)) (h1 : (Tryz.prog.info? t).map (·.zero) = some (some (.agg Z)))
    (h2 : (Tryz.prog.underlying t).map (fun d => match d with | .struct fs => fs.toList.mapM (fun f => (Tryz.prog.info? f.type).map fun i => (f.offset, i.size)) | _ => none) = some (some pl)) (parts : List (Nat × Value)) :
    Tryz.prog.built t parts = Instr.fill (pl.toArray[·]?) Z parts := by
  unfold Program.built
  cases hi : Tryz.prog.info? t with
  | none => rw [hi] at h1; cases h1
  | some i =>
    rw [hi] at h1
    have hz : i.zero = some (.agg Z) := by simpa using h1
    cases hu : Tryz.prog.underlying t with
    | none => rw [hu] at h2; cases h2
    | some d =>
      rw [hu] at h2
      cases d with
      | struct fs =>
        have hp : fs.toList.mapM (fun f => (Tryz.prog.info? f.type).map fun i => (f.offset, i.size)) = some pl := by simpa using h2
        simp only [hz, hp]
        rfl
      | _ => simp at h2
theorem row_K (F K : List UInt8) (rest : List Value) (hF : F.length = 24) : ((bc F ++ rest).toArray.toList.take 0 ++ (kv K).cells.toList ++ (bc F ++ rest).toArray.toList.drop (0 + 24)).toArray = (bc K ++ rest).toArray := by
  have h : (bc F).length = 24 := by rw [bc_length, hF]
  simp only [Value.cells, List.take_zero, List.nil_append, Nat.zero_add]
  rw [List.drop_append_of_le_length (by omega), List.drop_of_length_le (by omega)]
  rfl
/-- One cell behind a key, in the place j behind it. -/
theorem row_at (K : List UInt8) (T ahead : List Value) (a b : Value) (rest : List Value) (j : Nat) (hT : T = ahead ++ a :: rest) (hj : j = 24 + ahead.length) (hb : b.cells = #[b]) (hK : K.length = 24) : ((bc K ++ T).toArray.toList.take j ++ b.cells.toList ++ (bc K ++ T).toArray.toList.drop (j + 1)).toArray = (bc K ++ (ahead ++ b :: rest)).toArray := by
  have h : (bc K).length = 24 := by rw [bc_length, hK]
  subst hj
  simp only [hb]
  have e1 : bc K ++ T = (bc K ++ ahead) ++ a :: rest := by rw [hT]; simp
  rw [e1]
  have hl : (bc K ++ ahead).length = 24 + ahead.length := by rw [List.length_append, h]
  show (List.take (24 + ahead.length) (bc K ++ ahead ++ a :: rest) ++ [b] ++ List.drop (24 + ahead.length + 1) (bc K ++ ahead ++ a :: rest)).toArray = _
  rw [← hl, List.take_left, List.drop_append, List.drop_of_length_le (by omega)]
  simp
theorem built_Q (parts : List (Nat × Value)) : Tryz.prog.built 89 parts = Instr.fill ([(0, 24), (24, 1)].toArray[·]?) (pqc pq0).toArray parts := built_of _ _ _ (by kernel_rfl) (by kernel_rfl) parts
theorem built_q (p : Pq) : Tryz.prog.built 89 [(0, kv p.k), (1, .string p.s)] = some (encQ.c p).toArray := by
  rw [built_Q, fill_put (off := 0) (size := 24) rfl (by simp [Value.cells, bc_length, p.h]) (by simp [pqc, bc_length, pq0, zs_length]), pqc, row_K _ _ _ pq0.h,
    fill_put (off := 24) (size := 1) rfl rfl (by simp [bc_length, p.h]), row_at p.k [.string pq0.s] [] (.string pq0.s) _ [] 24 rfl rfl rfl p.h]
  rfl
theorem exec_build {ρ : Operand → Value} {o : Oper} {t : TypeId} {parts : Array (Nat × Operand)} (ho : o.op = .build t parts) {cells : Array Value} (hb : Tryz.prog.built t ((parts.map fun x => (x.1, ρ x.2)).toList) = some cells) (w : World) : (execOp ρ o).run Tryz.prog w = .ok (.value (.agg cells)) w := by
  unfold execOp
  simp only [ho, Sem.run_bind]
  rw [run_build w t _ cells hb]
  rfl
section
variable {ops : Array Oper} {rest : List Oper} {o : Oper} {a : Act} {w : World} {Q : Exit → Act → World → Prop}
theorem build_at (hg : o.guard = none) {t : TypeId} {parts : Array (Nat × Operand)} (ho : o.op = .build t parts) {cells : Array Value} (hb : Tryz.prog.built t ((parts.map fun x => (x.1, a.eval x.2)).toList) = some cells)
    (h : wpList Tryz.prog ops Q rest (a.put o.dst (.agg cells)) w) : wpList Tryz.prog ops Q (o :: rest) a w := by
  refine wpList_plain hg fun K hK => ?_
  unfold Oper.wp
  rw [exec_build ho hb]
  exact hK _ _ h
theorem build_q (hg : o.guard = none) (x y : Operand) (ho : o.op = .build 89 #[(0, x), (1, y)]) (p : Pq) (hx : a.eval x = kv p.k) (hy : a.eval y = .string p.s)
    (h : wpList Tryz.prog ops Q rest (a.put o.dst (.agg (encQ.c p).toArray)) w) : wpList Tryz.prog ops Q (o :: rest) a w := build_at hg ho (by simp only [List.map_toArray, List.map_cons, List.map_nil, hx, hy]; exact built_q p) h
end

/-- A piece as it lies: its first key, its block, its slices. -/
structure Pv where
  k : List UInt8
  h : k.length = 24
  b : Int
  ps : Option Addr × Nat × Nat
  ks : Option Addr × Nat × Nat
def slv (x : Option Addr × Nat × Nat) : Value := .slice x.1 x.2.1 x.2.2
def nil3 : Option Addr × Nat × Nat := (none, 0, 0)
def pvc (p : Pv) : List Value := bc p.k ++ [.int .i64 p.b, slv p.ps, slv p.ks]
def encPv : Enc Pv 27 := ⟨pvc, fun p => by simp [pvc, bc_length, p.h], fun p v hv => by
  simp only [pvc, List.mem_append, List.mem_cons, List.not_mem_nil, or_false] at hv
  rcases hv with h | rfl | rfl | rfl
  · exact bc_one _ v h
  · rfl
  · rfl
  · rfl⟩
def pv0 : Pv := ⟨zs 24, rfl, 0, nil3, nil3⟩
theorem rowV : RowTy Tryz.prog encPv 77 85 80 := ⟨Tryz.underlying77, ⟨.agg (pvc pv0).toArray, by kernel_rfl, by simp [Value.cells, pvc, bc_length, pv0, zs_length]⟩, by decide⟩
theorem elPv : ElTy Tryz.prog encPv 85 := ⟨⟨_, Tryz.underlying85, rfl, rfl⟩, by kernel_rfl⟩
theorem built_V (parts : List (Nat × Value)) : Tryz.prog.built 85 parts = Instr.fill ([(0, 24), (24, 1), (25, 1), (26, 1)].toArray[·]?) (pvc pv0).toArray parts := built_of _ _ _ (by kernel_rfl) (by kernel_rfl) parts
theorem built_leaf (K : List UInt8) (hK : K.length = 24) (x : Option Addr × Nat × Nat) : Tryz.prog.built 85 [(0, kv K), (2, slv x)] = some (encPv.c ⟨K, hK, 0, x, nil3⟩).toArray := by
  rw [built_V, fill_put (off := 0) (size := 24) rfl (by simp [Value.cells, bc_length, hK]) (by simp [pvc, bc_length, pv0, zs_length]), pvc, row_K _ _ _ pv0.h,
    fill_put (off := 25) (size := 1) rfl rfl (by simp [bc_length, hK]), row_at K [.int .i64 pv0.b, slv pv0.ps, slv pv0.ks] [.int .i64 pv0.b] (slv pv0.ps) _ [slv pv0.ks] 25 rfl rfl rfl hK]
  rfl
theorem built_inner (K : List UInt8) (hK : K.length = 24) (x : Option Addr × Nat × Nat) : Tryz.prog.built 85 [(0, kv K), (3, slv x)] = some (encPv.c ⟨K, hK, 0, nil3, x⟩).toArray := by
  rw [built_V, fill_put (off := 0) (size := 24) rfl (by simp [Value.cells, bc_length, hK]) (by simp [pvc, bc_length, pv0, zs_length]), pvc, row_K _ _ _ pv0.h,
    fill_put (off := 26) (size := 1) rfl rfl (by simp [bc_length, hK]), row_at K [.int .i64 pv0.b, slv pv0.ps, slv pv0.ks] [.int .i64 pv0.b, slv pv0.ps] (slv pv0.ks) _ [] 26 rfl rfl rfl hK]
  rfl
theorem built_stay (K : List UInt8) (hK : K.length = 24) (n : Int) : Tryz.prog.built 85 [(0, kv K), (1, .int .i64 n)] = some (encPv.c ⟨K, hK, n, nil3, nil3⟩).toArray := by
  rw [built_V, fill_put (off := 0) (size := 24) rfl (by simp [Value.cells, bc_length, hK]) (by simp [pvc, bc_length, pv0, zs_length]), pvc, row_K _ _ _ pv0.h,
    fill_put (off := 24) (size := 1) rfl rfl (by simp [bc_length, hK]), row_at K [.int .i64 pv0.b, slv pv0.ps, slv pv0.ks] [] (.int .i64 pv0.b) _ [slv pv0.ps, slv pv0.ks] 24 rfl rfl rfl hK]
  rfl
section
variable {ops : Array Oper} {rest : List Oper} {o : Oper} {a : Act} {w : World} {Q : Exit → Act → World → Prop}
theorem build_leaf (hg : o.guard = none) (x y : Operand) (ho : o.op = .build 85 #[(0, x), (2, y)]) (K : List UInt8) (hK : K.length = 24) (s : Option Addr × Nat × Nat) (hx : a.eval x = kv K) (hy : a.eval y = slv s)
    (h : wpList Tryz.prog ops Q rest (a.put o.dst (.agg (encPv.c ⟨K, hK, 0, s, nil3⟩).toArray)) w) : wpList Tryz.prog ops Q (o :: rest) a w := build_at hg ho (by simp only [List.map_toArray, List.map_cons, List.map_nil, hx, hy]; exact built_leaf K hK s) h
theorem build_inner (hg : o.guard = none) (x y : Operand) (ho : o.op = .build 85 #[(0, x), (3, y)]) (K : List UInt8) (hK : K.length = 24) (s : Option Addr × Nat × Nat) (hx : a.eval x = kv K) (hy : a.eval y = slv s)
    (h : wpList Tryz.prog ops Q rest (a.put o.dst (.agg (encPv.c ⟨K, hK, 0, nil3, s⟩).toArray)) w) : wpList Tryz.prog ops Q (o :: rest) a w := build_at hg ho (by simp only [List.map_toArray, List.map_cons, List.map_nil, hx, hy]; exact built_inner K hK s) h
theorem build_stay (hg : o.guard = none) (x y : Operand) (ho : o.op = .build 85 #[(0, x), (1, y)]) (K : List UInt8) (hK : K.length = 24) (n : Int) (hx : a.eval x = kv K) (hy : a.eval y = .int .i64 n)
    (h : wpList Tryz.prog ops Q rest (a.put o.dst (.agg (encPv.c ⟨K, hK, n, nil3, nil3⟩).toArray)) w) : wpList Tryz.prog ops Q (o :: rest) a w := build_at hg ho (by simp only [List.map_toArray, List.map_cons, List.map_nil, hx, hy]; exact built_stay K hK n) h
end
theorem range_kV {w : World} {b i : Nat} {p : Pv} (h : w.rangeAt b i (encPv.c p)) : w.rangeAt b i (bc p.k) := fun j v hv => by
  refine h j v ?_
  show (pvc p)[j]? = some v
  rw [pvc, List.getElem?_append_left (List.getElem?_eq_some_iff.1 hv).1]
  exact hv
theorem range_vV {w : World} {b i : Nat} {p : Pv} (h : w.rangeAt b i (encPv.c p)) : w.cell? ⟨b, i + 24, none⟩ = some (.int .i64 p.b) ∧ w.cell? ⟨b, i + 25, none⟩ = some (slv p.ps) ∧ w.cell? ⟨b, i + 26, none⟩ = some (slv p.ks) := by
  have hk : (bc p.k).length = 24 := by rw [bc_length, p.h]
  refine ⟨h 24 _ ?_, h 25 _ ?_, h 26 _ ?_⟩
  all_goals
    show (pvc p)[_]? = _
    rw [pvc, List.getElem?_append_right (by omega), hk]
    rfl
end Go.Proofs.YtjhdnpplmlddaaaGreat
