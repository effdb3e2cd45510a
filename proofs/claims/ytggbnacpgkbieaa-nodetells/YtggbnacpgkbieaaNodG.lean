/- Reading pairs and kids. -/
import Derived.Test.YtggbnacpgkbieaaNodF
import Derived.Great.Walk
namespace Go.Proofs.Ytggbnacpgkbieaa
set_option linter.unusedVariables false
open Go.RowKit

theorem alloc_row {ops : Array Oper} {rest : List Oper} {o : Oper} {a : Act} {w : World} {Q : Exit → Act → World → Prop} (hg : o.guard = none) (t : TypeId) (ho : o.op = .alloc t) (z : List Value) (hz : (Try.prog.info? t).map (·.zero) = some (some (.agg z.toArray)))
    (h : wpList Try.prog ops Q rest (a.put o.dst (.pointer (some ⟨w.heap.size, 0, none⟩))) (w.alloc (.cells z.toArray t))) : wpList Try.prog ops Q (o :: rest) a w := by
  cases hi : Try.prog.info? t with
  | none => rw [hi] at hz; cases hz
  | some i =>
    rw [hi] at hz
    have hz' : i.zero = some (.agg z.toArray) := by simpa using hz
    refine Great.wpList_runTo hg _ rfl _ _ ?_ h
    unfold execOp
    simp [ho, zeroValue, typeInfo, hi, hz', newVar, newRow, Value.cells, Instr.alloc]
set_option maxRecDepth 100000 in
theorem build_run {o : Oper} {f : Operand → Value} {w : World} (t : TypeId) (parts : Array (Nat × Operand)) (ho : o.op = .build t parts) (vs : List (Nat × Value)) (hv : (parts.map fun x => (x.1, f x.2)).toList = vs) (C : Array Value) (hb : Try.prog.built t vs = some C) : (execOp f o).run Try.prog w = .ok (.value (.agg C)) w := by
  subst hv
  have := run_build (P := Try.prog) w t (parts.map fun x => (x.1, f x.2)) C hb
  unfold execOp
  simp only [ho]
  simp [this]
theorem frozen_row {w : World} {b : Nat} {C : Array Value} {t : TypeId} (h : w.heap[b]? = some (.cells C t (0, 0))) (j : Nat) : w.frozen? ⟨b, j, none⟩ = false := by simp [World.frozen?, h]
def fit24 (g : List UInt8) : List UInt8 := g ++ zs (24 - g.length)
theorem got24 (s : RS) : (s.got 24).length ≤ 24 := by rcases s.got_length 24 with h | h <;> omega
theorem fit24_length (s : RS) : (fit24 (s.got 24)).length = 24 := by
  have := got24 s
  simp [fit24, zs_length]
  omega
theorem drop_zs (n m : Nat) : (bc (zs n)).drop m = bc (zs (n - m)) := by simp [bc, zs, List.map_replicate, List.drop_replicate]
theorem copy_op {o : Oper} {a : Act} {w : World} {K : Act → World → Prop} {Q : Exit → Act → World → Prop} (d x : Operand) (ho : o.op = .call { callee := .builtin .copy, args := #[d, x], argTypes := #[26, 9] }) (b : Nat) (hd : a.eval d = .slice (some ⟨b, 0, none⟩) 24 24) (t : ByteArray) (hx : a.eval x = .string t) (ht : t.size ≤ 24) (hK : Has w b (zs 24))
    (h : ∀ w' v, Has w' b (fit24 t.data.toList) → Touch b none w w' → w'.heap.size = w.heap.size → K (a.put o.dst v) w') : o.wp Try.prog a w K Q := by
  have hsz : (Try.prog.info? 5).map (·.size) = some 1 := by kernel_rfl
  have hrun := Lib.run_copy_row_string (P := Try.prog) w 26 9 o.type 5 b 0 24 24 t _ _ Try.underlying26 hsz hK.blk ht (by rw [bc_size, zs_length]; omega)
  have e : ((bc (zs 24)).toArray.toList.take 0 ++ Lib.byteCells t.data.toList ++ (bc (zs 24)).toArray.toList.drop (0 + t.size)) = bc (fit24 t.data.toList) := by
    have hl : t.data.toList.length = t.size := by simp
    have e2 := drop_zs 24 t.size
    rw [fit24, bc_append, hl, List.take_zero, List.nil_append, Nat.zero_add]
    show Lib.byteCells t.data.toList ++ (bc (zs 24)).drop t.size = _
    rw [e2]
    rfl
  rw [e] at hrun
  unfold Oper.wp
  simp [execOp, ho, resolve, invoke, builtin, hd, hx, hrun, Result.andThen]
  exact h _ _ (hK.setRow _ (by simp [fit24, zs_length]; omega)) (touch_setRow _ _ _) (by simp)
theorem touch_set (w : World) (b o : Nat) (v : Value) : Touch b none w (w.setCell ⟨b, o, none⟩ v) := (Touch.refl b none w).setCell o v
theorem touch_setCells {b : Nat} : ∀ (vs : List Value) (o : Nat) (w : World), Touch b none w (w.setCells b o vs)
  | [], o, w => Touch.refl _ _ _
  | v :: vs, o, w => (touch_set w b o v).trans (touch_setCells vs (o + 1) _) (Near.none _ _)
theorem size_setCells {b : Nat} : ∀ (vs : List Value) (o : Nat) (w : World), (w.setCells b o vs).heap.size = w.heap.size
  | [], o, w => rfl
  | v :: vs, o, w => by rw [World.setCells, size_setCells vs (o + 1) _]; simp [World.setCell]
/-- What the walk of read holds: the reader, and the elements that were read, in the room b. -/
structure RSt (w y : World) (p b : Nat) (s : RS) (r : Option Nat) (l : List El) : Prop where
  rd : RdS y p s r
  t : Touch p none w y
  th : y.there b 0 450
  el : ∀ i (hi : i < l.length), y.rangeAt b (i * 25) (ec l[i])
  ok : ∀ i (hi : i < l.length), (l[i]).Ok
  bl : b < y.heap.size
  bp : b ≠ p
  hr : ∀ k, r = some k → k < w.heap.size
  hp : p < w.heap.size
theorem there_same {w w' : World} {b o n : Nat} (h : w.there b o n) (e : w'.heap[b]? = w.heap[b]?) : w'.there b o n := fun j hj => by
  have h1 : w'.cell? ⟨b, o + j, none⟩ = w.cell? ⟨b, o + j, none⟩ := World.cell?_of_block e
  have h2 : w'.frozen? ⟨b, o + j, none⟩ = w.frozen? ⟨b, o + j, none⟩ := by simp [World.frozen?, e]
  rw [h1, h2]
  exact h j hj
theorem RdS.called {w w' : World} {p : Nat} {s : RS} {r : Option Nat} (h : RdS w p s r) (hr : ∀ k, r = some k → k < w.heap.size) (b : Below w.heap.size w w') : RdS w' p s r := h.kept (b.block _ h.lt) fun k hk => b.block _ (hr k hk)
section
variable {w y z : World} {p b : Nat} {s s' : RS} {r : Option Nat} {l : List El}
theorem RSt.called (h : RSt w y p b s r l) (hb : Below y.heap.size y z) : RSt w z p b s r l :=
  ⟨h.rd.called (fun k hk => by have := h.hr k hk; have := h.t.size; omega) hb, h.t.trans (touch_below p none hb) (Near.none _ _), there_same h.th (hb.block b h.bl), fun i hi => range_same (h.el i hi) (hb.block b h.bl), h.ok, by have := hb.size; have := h.bl; omega, h.bp, h.hr, h.hp⟩
theorem RSt.read (h : RSt w y p b s r l) (g : RdG p y r s' z) : RSt w z p b s' r l :=
  have e := g.2.block b h.bl h.bp (by simp)
  ⟨g.1, h.t.trans g.2 (Near.none _ _), there_same h.th e, fun i hi => range_same (h.el i hi) e, h.ok, by have := g.2.size; have := h.bl; omega, h.bp, h.hr, h.hp⟩
theorem RSt.other {q : Nat} (h : RSt w y p b s r l) (t : Touch q none y z) (hq : w.heap.size ≤ q) (hqb : q ≠ b) : RSt w z p b s r l :=
  have hy := h.t.size
  have hh := h.hp
  have e := t.block b h.bl (fun q => hqb q.symm) (by simp)
  ⟨h.rd.kept (t.block p h.rd.lt (by omega) (by simp)) (fun k hk => t.block k (by have := h.hr k hk; omega) (by have := h.hr k hk; omega) (by simp)), ⟨t.os.trans h.t.os, t.tape.trans h.t.tape, t.output.trans h.t.output, by have := t.size; omega, fun k hk hkp hkr => (t.block k (by omega) (by omega) (by simp)).trans (h.t.block k hk hkp hkr)⟩, there_same h.th e, fun i hi => range_same (h.el i hi) e, h.ok, by have := t.size; have := h.bl; omega, h.bp, h.hr, h.hp⟩
theorem RSt.stored (h : RSt w y p b s r l) (hwb : w.heap.size ≤ b) (e : El) (he : e.Ok) (hl : l.length < 18) : RSt w (y.setCells b (l.length * 25) (ec e)) p b s r (l ++ [e]) := by
  have tt := touch_setCells (b := b) (ec e) (l.length * 25) y
  have hy := h.t.size
  have hh := h.hp
  refine ⟨h.rd.kept (tt.block p h.rd.lt (fun q => h.bp q.symm) (by simp)) (fun k hk => tt.block k (by have := h.hr k hk; omega) (by have := h.hr k hk; omega) (by simp)), ?_, World.there_setCells h.th _ _ _, fun i hi => ?_, fun i hi => ?_, by rw [size_setCells]; exact h.bl, h.bp, h.hr, h.hp⟩
  · exact ⟨tt.os.trans h.t.os, tt.tape.trans h.t.tape, tt.output.trans h.t.output, by rw [size_setCells]; exact hy, fun k hk hkp hkr => (tt.block k (by omega) (by omega) (by simp)).trans (h.t.block k hk hkp hkr)⟩
  · by_cases hi2 : i < l.length
    · rw [List.getElem_append_left hi2]
      refine World.rangeAt_setCells_apart (h.el i hi2) _ _ _ (.inr (.inl ?_))
      have := ec_length (h.ok i hi2)
      omega
    · have hi3 : i = l.length := by simp at hi; omega
      subst hi3
      rw [List.getElem_append_right (Nat.le_refl _)]
      simp only [Nat.sub_self, List.getElem_cons_zero]
      exact World.rangeAt_setCells_same _ _ _ _ (fun j hj => by
        have := h.th (l.length * 25 + j) (by rw [ec_length he] at hj; omega)
        simpa using this)
  · by_cases hi2 : i < l.length
    · rw [List.getElem_append_left hi2]
      exact h.ok i hi2
    · rw [List.getElem_append_right (by omega)]
      simp only [List.getElem_singleton]
      exact he
end

def oneP (s : RS) : Pr := ⟨fit24 (s.got 24), str (s.take 24).text⟩
def nextP (s : RS) : RS := (s.take 24).atext
def readsP : Nat → RS → List Pr
  | 0, _ => []
  | n + 1, s => oneP s :: readsP n (nextP s)
def afterP : Nat → RS → RS
  | 0, s => s
  | n + 1, s => afterP n (nextP s)
theorem readsP_snoc : ∀ (n : Nat) (s : RS), readsP (n + 1) s = readsP n s ++ [oneP (afterP n s)]
  | 0, s => rfl
  | n + 1, s => by rw [readsP, readsP_snoc n (nextP s)]; rfl
theorem afterP_snoc : ∀ (n : Nat) (s : RS), afterP (n + 1) s = nextP (afterP n s)
  | 0, s => rfl
  | n + 1, s => by rw [afterP, afterP_snoc n (nextP s)]; rfl
theorem readsP_length : ∀ (n : Nat) (s : RS), (readsP n s).length = n
  | 0, s => rfl
  | n + 1, s => by rw [readsP, List.length_cons, readsP_length n]
theorem readsP_keys : ∀ (n : Nat) (s : RS), ∀ e ∈ readsP n s, e.k.length = 24
  | 0, s, e, h => by cases h
  | n + 1, s, e, h => by
    rcases List.mem_cons.1 h with rfl | h
    · exact fit24_length s
    · exact readsP_keys n _ e h
theorem Try.P_built (parts : List (Nat × Value)) : Try.prog.built 44 parts = Instr.fill (#[(0, 24), (24, 1)][·]?) (ec nilP).toArray parts := by
  have h1 : (Try.prog.info? 44).map (·.zero) = some (some (.agg (ec nilP).toArray)) := by kernel_rfl
  have h2 : (Try.prog.underlying 44).map (fun d => match d with | .struct fs => fs.toList.mapM (fun f => (Try.prog.info? f.type).map fun i => (f.offset, i.size)) | _ => none) = some (some [(0, 24), (24, 1)]) := by kernel_rfl
  unfold Program.built
  cases hi : Try.prog.info? 44 with
  | none => rw [hi] at h1; cases h1
  | some i =>
    rw [hi] at h1
    have hz : i.zero = some (.agg (ec nilP).toArray) := by simpa using h1
    cases hu : Try.prog.underlying 44 with
    | none => rw [hu] at h2; cases h2
    | some d =>
      rw [hu] at h2
      cases d with
      | struct fs =>
        have hp : fs.toList.mapM (fun f => (Try.prog.info? f.type).map fun i => (f.offset, i.size)) = some [(0, 24), (24, 1)] := by simpa using h2
        simp only [hz, hp]
        rfl
      | _ => simp at h2
theorem builtP (K : List UInt8) (v : Value) (hK : K.length = 24) (hv : v.cells = #[v]) : Try.prog.built 44 [(0, kv K), (1, v)] = some (ec ⟨K, v⟩).toArray := by
  have e1 : ((ec nilP).toArray.toList.take 0 ++ (kv K).cells.toList ++ (ec nilP).toArray.toList.drop (0 + 24)).toArray = (ec ⟨K, nilP.v⟩).toArray := by
    simp only [ec, Value.cells, List.take_zero, List.nil_append, Nat.zero_add]
    rw [List.drop_append_of_le_length (by simp [bc_length, nilP, zs_length]), List.drop_of_length_le (by simp [bc_length, nilP, zs_length])]
    rfl
  have e2 : ((ec ⟨K, nilP.v⟩).toArray.toList.take 24 ++ v.cells.toList ++ (ec ⟨K, nilP.v⟩).toArray.toList.drop (24 + 1)).toArray = (ec ⟨K, v⟩).toArray := by
    rw [hv]
    simp only [ec]
    rw [List.take_append_of_le_length (by simp [bc_length, hK]), List.take_of_length_le (by simp [bc_length, hK]), List.drop_of_length_le (by simp [bc_length, hK]), List.append_nil]
  rw [Try.P_built, fill_put (off := 0) (size := 24) rfl (by simp [Value.cells, bc_length, hK]) (by simp [ec, bc_length, nilP, zs_length]), e1,
    fill_put (off := 24) (size := 1) rfl (by rw [hv]; rfl) (by simp [ec, bc_length, hK]), e2]
  rfl
theorem store_P_op {o : Oper} {a : Act} {w : World} {K : Act → World → Prop} {Q : Exit → Act → World → Prop} (x y : Operand) (ho : o.op = .store 44 x y) (b : Nat) (hx : a.eval x = .pointer (some ⟨b, 0, none⟩)) (L : El) (hy : a.eval y = ev L) (hL : L.Ok) (M : El) (hK : HasP w b M)
    (h : ∀ w', HasP w' b L → Touch b none w w' → w'.heap.size = w.heap.size → K (a.put o.dst undef) w') : o.wp Try.prog a w K Q :=
  wp_store_row _ x y ho b _ hx hy _ _ hK.blk (by rw [ec_size hL]; exact Try.info_P) (by rw [ec_size hL, ec_size hK.ok]) (ec_all hL) (h _ ⟨hL, setRow_heap w b _ _ _ _ hK.blk⟩ (touch_setRow _ _ _) (by simp))
set_option maxHeartbeats 4000000 in
set_option maxRecDepth 100000 in
theorem partP_calls (w : World) (c p : Nat) (s : RS) (r : Option Nat) (K : List UInt8) (h : RdS w p s r) (hr : ∀ k, r = some k → k < w.heap.size) (hc : ptrAt w c p 60) (hcp : c ≠ p) (hK : K.length = 24) :
    Calls Try.prog 34 #[kv K, .pointer (some ⟨c, 0, none⟩)] w fun x w' => x = .returned (ev ⟨K, .string (str s.text)⟩) ∧ RdG p w r (s.atext) w' := by
  have B0 : Below w.heap.size w ((w.alloc (.cells (bc K).toArray 39)).alloc (.cells #[.int .u8 0, .int .u8 0, .int .u8 0, .int .u8 0, .int .u8 0, .int .u8 0, .int .u8 0, .int .u8 0, .int .u8 0, .int .u8 0, .int .u8 0, .int .u8 0, .int .u8 0, .int .u8 0, .int .u8 0, .int .u8 0, .int .u8 0, .int .u8 0, .int .u8 0, .int .u8 0, .int .u8 0, .int .u8 0, .int .u8 0, .int .u8 0, .string ⟨#[]⟩] 44)) := ((Below.refl _ w).alloc (Nat.le_refl _) _).alloc (by simp) _
  have hk0 : Has ((w.alloc (.cells (bc K).toArray 39)).alloc (.cells #[.int .u8 0, .int .u8 0, .int .u8 0, .int .u8 0, .int .u8 0, .int .u8 0, .int .u8 0, .int .u8 0, .int .u8 0, .int .u8 0, .int .u8 0, .int .u8 0, .int .u8 0, .int .u8 0, .int .u8 0, .int .u8 0, .int .u8 0, .int .u8 0, .int .u8 0, .int .u8 0, .int .u8 0, .int .u8 0, .int .u8 0, .int .u8 0, .string ⟨#[]⟩] 44)) w.heap.size K := (Has.new w K hK).alloc _
  have hz0 : HasP ((w.alloc (.cells (bc K).toArray 39)).alloc (.cells #[.int .u8 0, .int .u8 0, .int .u8 0, .int .u8 0, .int .u8 0, .int .u8 0, .int .u8 0, .int .u8 0, .int .u8 0, .int .u8 0, .int .u8 0, .int .u8 0, .int .u8 0, .int .u8 0, .int .u8 0, .int .u8 0, .int .u8 0, .int .u8 0, .int .u8 0, .int .u8 0, .int .u8 0, .int .u8 0, .int .u8 0, .int .u8 0, .string ⟨#[]⟩] 44)) (w.heap.size + 1) nilP := zero_P _ _ (by simp)
  have hrd := h.called hr B0
  have hcl := lt_of_block hc
  have hpl := h.lt
  have cc : ((w.alloc (.cells (bc K).toArray 39)).alloc (.cells #[.int .u8 0, .int .u8 0, .int .u8 0, .int .u8 0, .int .u8 0, .int .u8 0, .int .u8 0, .int .u8 0, .int .u8 0, .int .u8 0, .int .u8 0, .int .u8 0, .int .u8 0, .int .u8 0, .int .u8 0, .int .u8 0, .int .u8 0, .int .u8 0, .int .u8 0, .int .u8 0, .int .u8 0, .int .u8 0, .int .u8 0, .int .u8 0, .string ⟨#[]⟩] 44)).heap[c]? = some (.cells #[.pointer (some ⟨p, 0, none⟩)] 60 (0, 0)) := (B0.block c hcl).trans hc
  have hiK : (Try.prog.info? 39).map (·.size) = some (bc K).length := by rw [bc_length, hK]; exact Try.key_info
  clear h hc
  go_enter Try.func34, Try.ntmps34
  go_upto_region 1 with fail
  have sz0 : ((w.alloc (.cells (bc K).toArray 39)).alloc (.cells #[.int .u8 0, .int .u8 0, .int .u8 0, .int .u8 0, .int .u8 0, .int .u8 0, .int .u8 0, .int .u8 0, .int .u8 0, .int .u8 0, .int .u8 0, .int .u8 0, .int .u8 0, .int .u8 0, .int .u8 0, .int .u8 0, .int .u8 0, .int .u8 0, .int .u8 0, .int .u8 0, .int .u8 0, .int .u8 0, .int .u8 0, .int .u8 0, .string ⟨#[]⟩] 44)).heap.size = w.heap.size + 2 := by simp
  generalize (w.alloc (.cells (bc K).toArray 39)).alloc (.cells #[.int .u8 0, .int .u8 0, .int .u8 0, .int .u8 0, .int .u8 0, .int .u8 0, .int .u8 0, .int .u8 0, .int .u8 0, .int .u8 0, .int .u8 0, .int .u8 0, .int .u8 0, .int .u8 0, .int .u8 0, .int .u8 0, .int .u8 0, .int .u8 0, .int .u8 0, .int .u8 0, .int .u8 0, .int .u8 0, .int .u8 0, .int .u8 0, .string ⟨#[]⟩] 44) = W at *
  have HS : Hid (∀ yy, Touch p none W yy → yy.rangeAt w.heap.size 0 (bc K) ∧ yy.cell? ⟨c, 0, none⟩ = some (.pointer (some ⟨p, 0, none⟩))) := fun yy ht => ⟨((hk0.touch ht (by omega)).range), (World.cell?_of_block (ht.block c (by omega) hcp (by simp))).trans (cell_of_one cc)⟩
  clear cc hk0
  refine wp_region_noPanic ?_
  refine wp_region_held_drew (S := (fun yy => yy.rangeAt w.heap.size 0 (bc K) ∧ yy.cell? ⟨c, 0, none⟩ = some (.pointer (some ⟨p, 0, none⟩)))) (by kernel_rfl) (HS.out _ (Touch.refl _ _ W).drew) (fun hHeld => ?_)
  refine wpAnyH_take (i := 0) rfl (by kernel_rfl) (by kernel_rfl) (by kernel_rfl) (fun _ _ _ h => h) (yieldsIf_load_mid (by rfl) _ _ rfl _ _ rfl _ _ (fun yy hy => hy.1) Try.underlying39 rfl hiK) hHeld ?_
  ((try simp only); (try simp only [List.getElem_toArray]); (try simp only [List.getElem_cons_succ]); (try simp only [List.getElem_cons_zero]); (try simp only [Act.put]); (try simp only [List.setIfInBounds_toArray]); (try simp only [List.set_cons_succ]); (try simp only [List.set_cons_zero]))
  refine wpAnyH_take (i := 1) (v := ?_) rfl (by kernel_rfl) (by kernel_rfl) (by kernel_rfl) (fun _ _ _ h => h) (Or.inl ⟨by rfl, ?_⟩) hHeld ?_
  case refine_2 => (intro w hSw; (try dsimp only at hSw); have q := hSw.2; go_simp; try (with_reducible rfl))
  ((try simp only); (try simp only [List.getElem_toArray]); (try simp only [List.getElem_cons_succ]); (try simp only [List.getElem_cons_zero]); (try simp only [Act.put]); (try simp only [List.setIfInBounds_toArray]); (try simp only [List.set_cons_succ]); (try simp only [List.set_cons_zero]))
  refine wpAnyH_ready (rs := [2]) (by kernel_rfl) (by simp) (AllReadyH.cons rfl (fun K hK => ?_) AllReadyH.nil)
  rw [if_pos (by rfl)]
  ((try simp only); (try simp only [List.getElem_toArray]); (try simp only [List.getElem_cons_succ]); (try simp only [List.getElem_cons_zero]); (try simp only [Act.put]); (try simp only [List.setIfInBounds_toArray]); (try simp only [List.set_cons_succ]); (try simp only [List.set_cons_zero]))
  go_simp
  refine (text_reads _ p s r (hrd.kept rfl (fun _ _ => rfl) : RdS W.drew p s r)).mono ?_
  rintro e y2 ⟨rfl, g2⟩
  have T2 : Touch p none W y2 := ⟨g2.2.os, g2.2.tape, g2.2.output, g2.2.size, g2.2.block⟩
  refine hK.out _ _ (HS.out _ T2) (fun g3 => ?_)
  clear hK K
  ((try simp only); (try simp only [List.getElem_toArray]); (try simp only [List.getElem_cons_succ]); (try simp only [List.getElem_cons_zero]); (try simp only [Act.put]); (try simp only [List.setIfInBounds_toArray]); (try simp only [List.set_cons_succ]); (try simp only [List.set_cons_zero]))
  refine wpAnyH_take (i := 3) (v := ev ⟨K, .string (str s.text)⟩) rfl (by kernel_rfl) (by kernel_rfl) (by kernel_rfl) (fun _ _ _ h => h) (Or.inl ⟨by rfl, fun _ _ => build_run 44 _ rfl [(0, kv K), (1, .string (str s.text))] (by simp only [List.map_toArray, List.map_cons, List.map_nil]; rfl) _ (builtP K _ hK rfl)⟩) g3 ?_
  ((try simp only); (try simp only [List.getElem_toArray]); (try simp only [List.getElem_cons_succ]); (try simp only [List.getElem_cons_zero]); (try simp only [Act.put]); (try simp only [List.setIfInBounds_toArray]); (try simp only [List.set_cons_succ]); (try simp only [List.set_cons_zero]))
  refine wpAnyH_ready (rs := [4]) (by kernel_rfl) (by simp) (AllReadyH.cons rfl (fun K hK => ?_) AllReadyH.nil)
  rw [if_pos (by rfl)]
  ((try simp only); (try simp only [List.getElem_toArray]); (try simp only [List.getElem_cons_succ]); (try simp only [List.getElem_cons_zero]); (try simp only [Act.put]); (try simp only [List.setIfInBounds_toArray]); (try simp only [List.set_cons_succ]); (try simp only [List.set_cons_zero]))
  have hz2 : HasP y2 (w.heap.size + 1) nilP := hz0.touch T2 (by omega)
  refine store_P_op _ _ rfl (w.heap.size + 1) rfl ⟨_, .string (str s.text)⟩ rfl ⟨(by assumption), rfl⟩ nilP hz2 ?_
  intro y4 hu4 tx4 sx4
  refine hK.out _ _ ⟨range_same g3.1 (tx4.block _ (by have := T2.size; omega) (by omega) (by simp)), (World.cell?_of_block (tx4.block c (by have := T2.size; omega) (by omega) (by simp))).trans g3.2⟩ (fun g5 => ?_)
  clear hK K
  ((try simp only); (try simp only [List.getElem_toArray]); (try simp only [List.getElem_cons_succ]); (try simp only [List.getElem_cons_zero]); (try simp only [Act.put]); (try simp only [List.setIfInBounds_toArray]); (try simp only [List.set_cons_succ]); (try simp only [List.set_cons_zero]))
  refine wpAnyH_done (by kernel_rfl) ?_ _
  refine NoPanic.normal ?_
  go_wp2_with fail
  refine ret_P rfl _ _ rfl hu4 rfl ⟨rfl, ?_⟩
  have hyw : y2.heap.size = y4.heap.size := sx4.symm
  have t2s := T2.size
  refine ⟨g2.1.kept (tx4.block p (by have := g2.1.lt; omega) (by omega) (by simp)) (fun k hk => tx4.block k (by have := hr k hk; omega) (by have := hr k hk; omega) (by simp)), ⟨tx4.os.trans (T2.os.trans B0.os), tx4.tape.trans (T2.tape.trans B0.tape), tx4.output.trans (T2.output.trans B0.output), by have := B0.size; omega, fun k hk hkp hkr => ?_⟩⟩
  exact (tx4.block k (by have := B0.size; omega) (by omega) (by simp)).trans ((T2.block k (by have := B0.size; omega) hkp (by simp)).trans (B0.block k hk))

def oneK (s : RS) : Kd := ⟨fit24 (s.got 24), (num ((s.take 24).got 4) : Int)⟩
def nextK (s : RS) : RS := (s.take 24).take 4
def readsK : Nat → RS → List Kd
  | 0, _ => []
  | n + 1, s => oneK s :: readsK n (nextK s)
def afterK : Nat → RS → RS
  | 0, s => s
  | n + 1, s => afterK n (nextK s)
theorem readsK_snoc : ∀ (n : Nat) (s : RS), readsK (n + 1) s = readsK n s ++ [oneK (afterK n s)]
  | 0, s => rfl
  | n + 1, s => by rw [readsK, readsK_snoc n (nextK s)]; rfl
theorem afterK_snoc : ∀ (n : Nat) (s : RS), afterK (n + 1) s = nextK (afterK n s)
  | 0, s => rfl
  | n + 1, s => by rw [afterK, afterK_snoc n (nextK s)]; rfl
theorem readsK_length : ∀ (n : Nat) (s : RS), (readsK n s).length = n
  | 0, s => rfl
  | n + 1, s => by rw [readsK, List.length_cons, readsK_length n]
theorem readsK_keys : ∀ (n : Nat) (s : RS), ∀ e ∈ readsK n s, e.k.length = 24
  | 0, s, e, h => by cases h
  | n + 1, s, e, h => by
    rcases List.mem_cons.1 h with rfl | h
    · exact fit24_length s
    · exact readsK_keys n _ e h
theorem Try.K_built (parts : List (Nat × Value)) : Try.prog.built 54 parts = Instr.fill (#[(0, 24), (24, 1)][·]?) (ec nilK).toArray parts := by
  have h1 : (Try.prog.info? 54).map (·.zero) = some (some (.agg (ec nilK).toArray)) := by kernel_rfl
  have h2 : (Try.prog.underlying 54).map (fun d => match d with | .struct fs => fs.toList.mapM (fun f => (Try.prog.info? f.type).map fun i => (f.offset, i.size)) | _ => none) = some (some [(0, 24), (24, 1)]) := by kernel_rfl
  unfold Program.built
  cases hi : Try.prog.info? 54 with
  | none => rw [hi] at h1; cases h1
  | some i =>
    rw [hi] at h1
    have hz : i.zero = some (.agg (ec nilK).toArray) := by simpa using h1
    cases hu : Try.prog.underlying 54 with
    | none => rw [hu] at h2; cases h2
    | some d =>
      rw [hu] at h2
      cases d with
      | struct fs =>
        have hp : fs.toList.mapM (fun f => (Try.prog.info? f.type).map fun i => (f.offset, i.size)) = some [(0, 24), (24, 1)] := by simpa using h2
        simp only [hz, hp]
        rfl
      | _ => simp at h2
theorem builtK (K : List UInt8) (v : Value) (hK : K.length = 24) (hv : v.cells = #[v]) : Try.prog.built 54 [(0, kv K), (1, v)] = some (ec ⟨K, v⟩).toArray := by
  have e1 : ((ec nilK).toArray.toList.take 0 ++ (kv K).cells.toList ++ (ec nilK).toArray.toList.drop (0 + 24)).toArray = (ec ⟨K, nilK.v⟩).toArray := by
    simp only [ec, Value.cells, List.take_zero, List.nil_append, Nat.zero_add]
    rw [List.drop_append_of_le_length (by simp [bc_length, nilK, zs_length]), List.drop_of_length_le (by simp [bc_length, nilK, zs_length])]
    rfl
  have e2 : ((ec ⟨K, nilK.v⟩).toArray.toList.take 24 ++ v.cells.toList ++ (ec ⟨K, nilK.v⟩).toArray.toList.drop (24 + 1)).toArray = (ec ⟨K, v⟩).toArray := by
    rw [hv]
    simp only [ec]
    rw [List.take_append_of_le_length (by simp [bc_length, hK]), List.take_of_length_le (by simp [bc_length, hK]), List.drop_of_length_le (by simp [bc_length, hK]), List.append_nil]
  rw [Try.K_built, fill_put (off := 0) (size := 24) rfl (by simp [Value.cells, bc_length, hK]) (by simp [ec, bc_length, nilK, zs_length]), e1,
    fill_put (off := 24) (size := 1) rfl (by rw [hv]; rfl) (by simp [ec, bc_length, hK]), e2]
  rfl
theorem store_K_op {o : Oper} {a : Act} {w : World} {K : Act → World → Prop} {Q : Exit → Act → World → Prop} (x y : Operand) (ho : o.op = .store 54 x y) (b : Nat) (hx : a.eval x = .pointer (some ⟨b, 0, none⟩)) (L : El) (hy : a.eval y = ev L) (hL : L.Ok) (M : El) (hK : HasK w b M)
    (h : ∀ w', HasK w' b L → Touch b none w w' → w'.heap.size = w.heap.size → K (a.put o.dst undef) w') : o.wp Try.prog a w K Q :=
  wp_store_row _ x y ho b _ hx hy _ _ hK.blk (by rw [ec_size hL]; exact Try.info_K) (by rw [ec_size hL, ec_size hK.ok]) (ec_all hL) (h _ ⟨hL, setRow_heap w b _ _ _ _ hK.blk⟩ (touch_setRow _ _ _) (by simp))
set_option maxHeartbeats 4000000 in
set_option maxRecDepth 100000 in
theorem partK_calls (w : World) (c p : Nat) (s : RS) (r : Option Nat) (K : List UInt8) (h : RdS w p s r) (hr : ∀ k, r = some k → k < w.heap.size) (hc : ptrAt w c p 60) (hcp : c ≠ p) (hK : K.length = 24) :
    Calls Try.prog 37 #[kv K, .pointer (some ⟨c, 0, none⟩)] w fun x w' => x = .returned (ev ⟨K, .int .i64 (num (s.got 4) : Int)⟩) ∧ RdG p w r (s.take 4) w' := by
  have B0 : Below w.heap.size w ((w.alloc (.cells (bc K).toArray 39)).alloc (.cells #[.int .u8 0, .int .u8 0, .int .u8 0, .int .u8 0, .int .u8 0, .int .u8 0, .int .u8 0, .int .u8 0, .int .u8 0, .int .u8 0, .int .u8 0, .int .u8 0, .int .u8 0, .int .u8 0, .int .u8 0, .int .u8 0, .int .u8 0, .int .u8 0, .int .u8 0, .int .u8 0, .int .u8 0, .int .u8 0, .int .u8 0, .int .u8 0, .int .i64 0] 54)) := ((Below.refl _ w).alloc (Nat.le_refl _) _).alloc (by simp) _
  have hk0 : Has ((w.alloc (.cells (bc K).toArray 39)).alloc (.cells #[.int .u8 0, .int .u8 0, .int .u8 0, .int .u8 0, .int .u8 0, .int .u8 0, .int .u8 0, .int .u8 0, .int .u8 0, .int .u8 0, .int .u8 0, .int .u8 0, .int .u8 0, .int .u8 0, .int .u8 0, .int .u8 0, .int .u8 0, .int .u8 0, .int .u8 0, .int .u8 0, .int .u8 0, .int .u8 0, .int .u8 0, .int .u8 0, .int .i64 0] 54)) w.heap.size K := (Has.new w K hK).alloc _
  have hz0 : HasK ((w.alloc (.cells (bc K).toArray 39)).alloc (.cells #[.int .u8 0, .int .u8 0, .int .u8 0, .int .u8 0, .int .u8 0, .int .u8 0, .int .u8 0, .int .u8 0, .int .u8 0, .int .u8 0, .int .u8 0, .int .u8 0, .int .u8 0, .int .u8 0, .int .u8 0, .int .u8 0, .int .u8 0, .int .u8 0, .int .u8 0, .int .u8 0, .int .u8 0, .int .u8 0, .int .u8 0, .int .u8 0, .int .i64 0] 54)) (w.heap.size + 1) nilK := zero_K _ _ (by simp)
  have hrd := h.called hr B0
  have hcl := lt_of_block hc
  have hpl := h.lt
  have cc : ((w.alloc (.cells (bc K).toArray 39)).alloc (.cells #[.int .u8 0, .int .u8 0, .int .u8 0, .int .u8 0, .int .u8 0, .int .u8 0, .int .u8 0, .int .u8 0, .int .u8 0, .int .u8 0, .int .u8 0, .int .u8 0, .int .u8 0, .int .u8 0, .int .u8 0, .int .u8 0, .int .u8 0, .int .u8 0, .int .u8 0, .int .u8 0, .int .u8 0, .int .u8 0, .int .u8 0, .int .u8 0, .int .i64 0] 54)).heap[c]? = some (.cells #[.pointer (some ⟨p, 0, none⟩)] 60 (0, 0)) := (B0.block c hcl).trans hc
  have hiK : (Try.prog.info? 39).map (·.size) = some (bc K).length := by rw [bc_length, hK]; exact Try.key_info
  clear h hc
  go_enter Try.func37, Try.ntmps37
  go_upto_region 1 with fail
  have sz0 : ((w.alloc (.cells (bc K).toArray 39)).alloc (.cells #[.int .u8 0, .int .u8 0, .int .u8 0, .int .u8 0, .int .u8 0, .int .u8 0, .int .u8 0, .int .u8 0, .int .u8 0, .int .u8 0, .int .u8 0, .int .u8 0, .int .u8 0, .int .u8 0, .int .u8 0, .int .u8 0, .int .u8 0, .int .u8 0, .int .u8 0, .int .u8 0, .int .u8 0, .int .u8 0, .int .u8 0, .int .u8 0, .int .i64 0] 54)).heap.size = w.heap.size + 2 := by simp
  generalize (w.alloc (.cells (bc K).toArray 39)).alloc (.cells #[.int .u8 0, .int .u8 0, .int .u8 0, .int .u8 0, .int .u8 0, .int .u8 0, .int .u8 0, .int .u8 0, .int .u8 0, .int .u8 0, .int .u8 0, .int .u8 0, .int .u8 0, .int .u8 0, .int .u8 0, .int .u8 0, .int .u8 0, .int .u8 0, .int .u8 0, .int .u8 0, .int .u8 0, .int .u8 0, .int .u8 0, .int .u8 0, .int .i64 0] 54) = W at *
  have HS : Hid (∀ yy, Touch p none W yy → yy.rangeAt w.heap.size 0 (bc K) ∧ yy.cell? ⟨c, 0, none⟩ = some (.pointer (some ⟨p, 0, none⟩))) := fun yy ht => ⟨((hk0.touch ht (by omega)).range), (World.cell?_of_block (ht.block c (by omega) hcp (by simp))).trans (cell_of_one cc)⟩
  clear cc hk0
  refine wp_region_noPanic ?_
  refine wp_region_held_drew (S := (fun yy => yy.rangeAt w.heap.size 0 (bc K) ∧ yy.cell? ⟨c, 0, none⟩ = some (.pointer (some ⟨p, 0, none⟩)))) (by kernel_rfl) (HS.out _ (Touch.refl _ _ W).drew) (fun hHeld => ?_)
  refine wpAnyH_take (i := 0) rfl (by kernel_rfl) (by kernel_rfl) (by kernel_rfl) (fun _ _ _ h => h) (yieldsIf_load_mid (by rfl) _ _ rfl _ _ rfl _ _ (fun yy hy => hy.1) Try.underlying39 rfl hiK) hHeld ?_
  ((try simp only); (try simp only [List.getElem_toArray]); (try simp only [List.getElem_cons_succ]); (try simp only [List.getElem_cons_zero]); (try simp only [Act.put]); (try simp only [List.setIfInBounds_toArray]); (try simp only [List.set_cons_succ]); (try simp only [List.set_cons_zero]))
  refine wpAnyH_take (i := 1) (v := ?_) rfl (by kernel_rfl) (by kernel_rfl) (by kernel_rfl) (fun _ _ _ h => h) (Or.inl ⟨by rfl, ?_⟩) hHeld ?_
  case refine_2 => (intro w hSw; (try dsimp only at hSw); have q := hSw.2; go_simp; try (with_reducible rfl))
  ((try simp only); (try simp only [List.getElem_toArray]); (try simp only [List.getElem_cons_succ]); (try simp only [List.getElem_cons_zero]); (try simp only [Act.put]); (try simp only [List.setIfInBounds_toArray]); (try simp only [List.set_cons_succ]); (try simp only [List.set_cons_zero]))
  refine wpAnyH_ready (rs := [2]) (by kernel_rfl) (by simp) (AllReadyH.cons rfl (fun K hK => ?_) AllReadyH.nil)
  rw [if_pos (by rfl)]
  ((try simp only); (try simp only [List.getElem_toArray]); (try simp only [List.getElem_cons_succ]); (try simp only [List.getElem_cons_zero]); (try simp only [Act.put]); (try simp only [List.setIfInBounds_toArray]); (try simp only [List.set_cons_succ]); (try simp only [List.set_cons_zero]))
  go_simp
  refine (word_reads _ p s r (hrd.kept rfl (fun _ _ => rfl) : RdS W.drew p s r)).mono ?_
  rintro e y2 ⟨rfl, g2⟩
  have T2 : Touch p none W y2 := ⟨g2.2.os, g2.2.tape, g2.2.output, g2.2.size, g2.2.block⟩
  refine hK.out _ _ (HS.out _ T2) (fun g3 => ?_)
  clear hK K
  ((try simp only); (try simp only [List.getElem_toArray]); (try simp only [List.getElem_cons_succ]); (try simp only [List.getElem_cons_zero]); (try simp only [Act.put]); (try simp only [List.setIfInBounds_toArray]); (try simp only [List.set_cons_succ]); (try simp only [List.set_cons_zero]))
  refine wpAnyH_take (i := 3) (v := ev ⟨K, .int .i64 (num (s.got 4) : Int)⟩) rfl (by kernel_rfl) (by kernel_rfl) (by kernel_rfl) (fun _ _ _ h => h) (Or.inl ⟨by rfl, fun _ _ => build_run 54 _ rfl [(0, kv K), (1, .int .i64 (num (s.got 4) : Int))] (by simp only [List.map_toArray, List.map_cons, List.map_nil]; rfl) _ (builtK K _ hK rfl)⟩) g3 ?_
  ((try simp only); (try simp only [List.getElem_toArray]); (try simp only [List.getElem_cons_succ]); (try simp only [List.getElem_cons_zero]); (try simp only [Act.put]); (try simp only [List.setIfInBounds_toArray]); (try simp only [List.set_cons_succ]); (try simp only [List.set_cons_zero]))
  refine wpAnyH_ready (rs := [4]) (by kernel_rfl) (by simp) (AllReadyH.cons rfl (fun K hK => ?_) AllReadyH.nil)
  rw [if_pos (by rfl)]
  ((try simp only); (try simp only [List.getElem_toArray]); (try simp only [List.getElem_cons_succ]); (try simp only [List.getElem_cons_zero]); (try simp only [Act.put]); (try simp only [List.setIfInBounds_toArray]); (try simp only [List.set_cons_succ]); (try simp only [List.set_cons_zero]))
  have hz2 : HasK y2 (w.heap.size + 1) nilK := hz0.touch T2 (by omega)
  refine store_K_op _ _ rfl (w.heap.size + 1) rfl ⟨_, .int .i64 (num (s.got 4) : Int)⟩ rfl ⟨(by assumption), rfl⟩ nilK hz2 ?_
  intro y4 hu4 tx4 sx4
  refine hK.out _ _ ⟨range_same g3.1 (tx4.block _ (by have := T2.size; omega) (by omega) (by simp)), (World.cell?_of_block (tx4.block c (by have := T2.size; omega) (by omega) (by simp))).trans g3.2⟩ (fun g5 => ?_)
  clear hK K
  ((try simp only); (try simp only [List.getElem_toArray]); (try simp only [List.getElem_cons_succ]); (try simp only [List.getElem_cons_zero]); (try simp only [Act.put]); (try simp only [List.setIfInBounds_toArray]); (try simp only [List.set_cons_succ]); (try simp only [List.set_cons_zero]))
  refine wpAnyH_done (by kernel_rfl) ?_ _
  refine NoPanic.normal ?_
  go_wp2_with fail
  refine ret_K rfl _ _ rfl hu4 rfl ⟨rfl, ?_⟩
  have hyw : y2.heap.size = y4.heap.size := sx4.symm
  have t2s := T2.size
  refine ⟨g2.1.kept (tx4.block p (by have := g2.1.lt; omega) (by omega) (by simp)) (fun k hk => tx4.block k (by have := hr k hk; omega) (by have := hr k hk; omega) (by simp)), ⟨tx4.os.trans (T2.os.trans B0.os), tx4.tape.trans (T2.tape.trans B0.tape), tx4.output.trans (T2.output.trans B0.output), by have := B0.size; omega, fun k hk hkp hkr => ?_⟩⟩
  exact (tx4.block k (by have := B0.size; omega) (by omega) (by simp)).trans ((T2.block k (by have := B0.size; omega) hkp (by simp)).trans (B0.block k hk))

def roomP : List Value := (List.replicate 18 (ec nilP)).flatten
theorem roomP_length : roomP.length = 450 := by kernel_rfl
theorem Try.room_P : (Try.prog.info? 86).map (·.zero) = some (some (.agg (roomP).toArray)) := by kernel_rfl
theorem roomP_there (w : World) : (w.alloc (.cells roomP.toArray 86)).there w.heap.size 0 450 := fun j hj => by
  have hb := heap_alloc_new w (.cells roomP.toArray 86)
  refine ⟨?_, frozen_row hb _⟩
  rw [cell_of_row _ _ _ _ _ _ hb]
  simp [roomP_length, hj]
/-- What read comes to. -/
def ReadP (w : World) (p : Nat) (r : Option Nat) (s : RS) (e : Ending) (w' : World) : Prop :=
  ∃ v, e = .returned v ∧ RdS w' p (if 18 < num (s.got 1) then s.take 1 else afterP (num (s.got 1)) (s.take 1)) r ∧ Touch p none w w' ∧
    Els w' v ((if 18 < num (s.got 1) then [] else readsP (num (s.got 1)) (s.take 1)).map Pr.el) ∧ ∃ rr, ElsIn w' v ((if 18 < num (s.got 1) then [] else readsP (num (s.got 1)) (s.take 1)).map Pr.el) rr ∧ ∀ k, rr = some k → w.heap.size ≤ k ∧ k < w'.heap.size
set_option maxHeartbeats 8000000 in
set_option maxRecDepth 100000 in
theorem readP_calls (w : World) (c p : Nat) (s : RS) (r : Option Nat) (h : RdS w p s r) (hr : ∀ k, r = some k → k < w.heap.size) (hc : ptrAt w c p 60) (hcp : c ≠ p) :
    Calls Try.prog 33 #[.pointer (some ⟨p, 0, none⟩), .func (Fn.func 34) #[] #[.pointer (some ⟨c, 0, none⟩)]] w (ReadP w p r s) := by
  have hcl := lt_of_block hc
  have hpl := h.lt
  have B1 : Below w.heap.size w (w.alloc (.cells roomP.toArray 86)) := (Below.refl _ w).alloc (Nat.le_refl _) _
  have S0 : RSt w (w.alloc (.cells roomP.toArray 86)) p w.heap.size s r [] := ⟨h.called hr B1, touch_below p none B1, roomP_there w, (fun i hi => by cases hi), (fun i hi => by cases hi), by simp, by omega, hr, hpl⟩
  have HC : Hid (ptrAt w c p 60) := hc
  clear h hc B1
  go_enter Try.func33, Try.ntmps33
  go_upto_region 2 with (refine alloc_row rfl 86 rfl roomP Try.room_P ?_)
  generalize w.alloc (.cells roomP.toArray 86) = W at *
  have hrd := S0.rd
  have HS0 : Hid (RSt w W p w.heap.size s r []) := S0
  clear S0
  go_upto_region 3 with (go_at_call 32; refine (byte_reads _ p s r hrd).mono ?_; rintro e w1 ⟨rfl, g1⟩)
  have S1 := HS0.out.read g1
  clear HS0 hrd g1
  obtain ⟨n, hn⟩ : ∃ n, n = num (s.got 1) := ⟨_, rfl⟩
  have HN : Hid (n = num (s.got 1)) := hn
  rw [← hn]
  clear hn
  by_cases h18 : 18 < n
  · have q1 : (18 : Int) < (n : Int) := by omega
    have HS1 : Hid (RSt w w1 p w.heap.size (s.take 1) r []) := S1
    clear S1
    go_wp2_with fail
    go_ret
    have q2 : 18 < num (s.got 1) := by rw [← HN.out]; exact h18
    refine ⟨_, rfl, by rw [if_pos q2]; exact HS1.out.rd, HS1.out.t, by rw [if_pos q2]; exact Els.nil _, none, ?_, fun k hk => by cases hk⟩
    rw [if_pos q2]
    exact ⟨none, 0, rfl, Nat.le_refl _, Nat.zero_le _, (fun i hi => by cases hi), .inl rfl⟩
  have q1 : ¬ (18 : Int) < (n : Int) := by omega
  generalize hs1 : s.take 1 = s1 at *
  have HS1E : Hid (s.take 1 = s1) := hs1
  clear hs1
  have S1' : Hid (RSt w w1 p w.heap.size s1 r ((readsP 0 s1).map Pr.el)) := S1
  clear S1
  go_wp2_with fail
  go_loopg [14] n (fun g i wr => ∃ k : Nat, k + g = n ∧ i = .int .i64 (k : Int) ∧ Hid (RSt w wr p w.heap.size (afterP k s1) r ((readsP k s1).map Pr.el)))
  case atStart => exact ⟨0, by omega, rfl, S1'⟩
  case round =>
    obtain ⟨k, hkg, rfl, HP⟩ := hrel
    cases gk with
    | zero =>
      have hkn : k = n := by omega
      subst hkn
      have hn0 : (0 : Int) ≤ (k : Int) := by omega
      have hn1 : (k : Int) ≤ 18 := by omega
      go_wp2_with fail
      go_ret
      have q2 : ¬ 18 < num (s.got 1) := by rw [← HN.out]; exact h18
      have hs := HP.out
      have hin : ElsIn wr (.slice (some ⟨w.heap.size, 0, none⟩) k k) ((readsP k s1).map Pr.el) (some w.heap.size) := by
        refine ⟨some ⟨w.heap.size, 0, none⟩, k, by simp [readsP_length], by simp [readsP_length], by simp [readsP_length]; unfold maxLen; omega, hs.ok, .inr ⟨w.heap.size, 0, rfl, rfl, hs.bl, fun i hi => ?_⟩⟩
        rw [Nat.zero_add]
        exact hs.el i hi
      refine ⟨.slice (some ⟨w.heap.size, 0, none⟩) k k, rfl, by rw [if_neg q2, ← HN.out, HS1E.out]; exact hs.rd, hs.t, ?_, some w.heap.size, ?_, fun k hk => by cases hk; exact ⟨Nat.le_refl _, hs.bl⟩⟩
      · rw [if_neg q2, ← HN.out, HS1E.out]
        exact ⟨_, hin, fun k hk => by cases hk; exact hs.bl⟩
      · rw [if_neg q2, ← HN.out, HS1E.out]
        exact hin
    | succ g =>
      have hlt : k < n := by omega
      have hltI : (k : Int) < (n : Int) := by omega
      have hk18 : (k : Int) < 18 := by omega
      have hk0 : (0 : Int) ≤ (k : Int) := by omega
      go_upto_region 9 with fail
      have Kz : Has (wr.alloc (.cells #[.int .u8 0, .int .u8 0, .int .u8 0, .int .u8 0, .int .u8 0, .int .u8 0, .int .u8 0, .int .u8 0, .int .u8 0, .int .u8 0, .int .u8 0, .int .u8 0, .int .u8 0, .int .u8 0, .int .u8 0, .int .u8 0, .int .u8 0, .int .u8 0, .int .u8 0, .int .u8 0, .int .u8 0, .int .u8 0, .int .u8 0, .int .u8 0] 39)) wr.heap.size (zs 24) := zero_has _ _ rfl
      have RS2 := HP.out.called ((Below.refl _ wr).alloc (Nat.le_refl _) (.cells #[.int .u8 0, .int .u8 0, .int .u8 0, .int .u8 0, .int .u8 0, .int .u8 0, .int .u8 0, .int .u8 0, .int .u8 0, .int .u8 0, .int .u8 0, .int .u8 0, .int .u8 0, .int .u8 0, .int .u8 0, .int .u8 0, .int .u8 0, .int .u8 0, .int .u8 0, .int .u8 0, .int .u8 0, .int .u8 0, .int .u8 0, .int .u8 0] 39))
      have hbl := HP.out.bl
      generalize wr.alloc (.cells #[.int .u8 0, .int .u8 0, .int .u8 0, .int .u8 0, .int .u8 0, .int .u8 0, .int .u8 0, .int .u8 0, .int .u8 0, .int .u8 0, .int .u8 0, .int .u8 0, .int .u8 0, .int .u8 0, .int .u8 0, .int .u8 0, .int .u8 0, .int .u8 0, .int .u8 0, .int .u8 0, .int .u8 0, .int .u8 0, .int .u8 0, .int .u8 0] 39) = W2 at *
      generalize wr.heap.size = kb at *
      have HK2 : Hid (Has W2 kb (zs 24)) := Kz
      have HR2 : Hid (RSt w W2 p w.heap.size (afterP k s1) r ((readsP k s1).map Pr.el)) := RS2
      clear Kz RS2 HP
      generalize hsk : afterP k s1 = sk at *
      have HSK : Hid (afterP k s1 = sk) := hsk
      clear hsk
      refine wp_region_noPanic ?_
      refine wp_region_held_drew (S := (fun _ => True)) (by kernel_rfl) trivial (fun hHeld => ?_)
      refine wpAnyH_take (i := 0) (v := ?_) rfl (by kernel_rfl) (by kernel_rfl) (by kernel_rfl) (fun _ _ _ h => h) (Or.inl ⟨by rfl, ?_⟩) hHeld ?_
      case refine_2 => (intro w hSw; (try dsimp only at hSw); go_simp; try (with_reducible rfl))
      ((try simp only); (try simp only [List.getElem_toArray]); (try simp only [List.getElem_cons_succ]); (try simp only [List.getElem_cons_zero]); (try simp only [Act.put]); (try simp only [List.setIfInBounds_toArray]); (try simp only [List.set_cons_succ]); (try simp only [List.set_cons_zero]))
      refine wpAnyH_take (i := 1) (v := ?_) rfl (by kernel_rfl) (by kernel_rfl) (by kernel_rfl) (fun _ _ _ h => h) (Or.inl ⟨by rfl, ?_⟩) hHeld ?_
      case refine_2 => (intro w hSw; (try dsimp only at hSw); go_simp; try (with_reducible rfl))
      ((try simp only); (try simp only [List.getElem_toArray]); (try simp only [List.getElem_cons_succ]); (try simp only [List.getElem_cons_zero]); (try simp only [Act.put]); (try simp only [List.setIfInBounds_toArray]); (try simp only [List.set_cons_succ]); (try simp only [List.set_cons_zero]))
      refine wpAnyH_ready (rs := [2]) (by kernel_rfl) (by simp) (AllReadyH.cons rfl (fun K hK => ?_) AllReadyH.nil)
      rw [if_pos (by rfl)]
      ((try simp only); (try simp only [List.getElem_toArray]); (try simp only [List.getElem_cons_succ]); (try simp only [List.getElem_cons_zero]); (try simp only [Act.put]); (try simp only [List.setIfInBounds_toArray]); (try simp only [List.set_cons_succ]); (try simp only [List.set_cons_zero]))
      go_simp
      refine (raw_reads _ p 24 sk r (HR2.out.rd.kept rfl (fun _ _ => rfl) : RdS W2.drew p sk r)).mono ?_
      rintro e y2 ⟨rfl, g2⟩
      have G2 : RdG p W2 r (sk.take 24) y2 := ⟨g2.1, ⟨g2.2.os, g2.2.tape, g2.2.output, g2.2.size, g2.2.block⟩⟩
      have RS3 := HR2.out.read G2
      have Kz2 : Has y2 kb (zs 24) := HK2.out.touch G2.2 (by have := HR2.out.hp; omega)
      refine hK.out _ _ trivial (fun g3 => ?_)
      clear hK K
      ((try simp only); (try simp only [List.getElem_toArray]); (try simp only [List.getElem_cons_succ]); (try simp only [List.getElem_cons_zero]); (try simp only [Act.put]); (try simp only [List.setIfInBounds_toArray]); (try simp only [List.set_cons_succ]); (try simp only [List.set_cons_zero]))
      refine wpAnyH_ready (rs := [3]) (by kernel_rfl) (by simp) (AllReadyH.cons rfl (fun K hK => ?_) AllReadyH.nil)
      rw [if_pos (by rfl)]
      ((try simp only); (try simp only [List.getElem_toArray]); (try simp only [List.getElem_cons_succ]); (try simp only [List.getElem_cons_zero]); (try simp only [Act.put]); (try simp only [List.setIfInBounds_toArray]); (try simp only [List.set_cons_succ]); (try simp only [List.set_cons_zero]))
      refine copy_op _ _ rfl kb rfl (str (sk.got 24)) rfl (by rw [str_size]; exact got24 sk) Kz2 ?_
      intro y3 v3 hu3 tx3 sx3
      refine hK.out _ _ trivial (fun g4 => ?_)
      clear hK K
      ((try simp only); (try simp only [List.getElem_toArray]); (try simp only [List.getElem_cons_succ]); (try simp only [List.getElem_cons_zero]); (try simp only [Act.put]); (try simp only [List.setIfInBounds_toArray]); (try simp only [List.set_cons_succ]); (try simp only [List.set_cons_zero]))
      refine wpAnyH_done (by kernel_rfl) ?_ _
      refine NoPanic.normal ?_
      rw [str_list] at hu3
      have RS4 := RS3.other tx3 (by omega) (by omega)
      have hP := partP_calls y3 c p (sk.take 24) r (fit24 (sk.got 24)) RS4.rd (fun k hk => by have := RS4.hr k hk; have := RS4.t.size; omega) ((RS4.t.block c (lt_of_block HC.out) hcp (by simp)).trans HC.out) hcp (fit24_length sk)
      have HP4 : Hid (RSt w y3 p w.heap.size (sk.take 24) r ((readsP k s1).map Pr.el)) := RS4
      have HU3 : Hid (Has y3 kb (fit24 (sk.got 24))) := hu3
      clear RS3 RS4 hu3 tx3 sx3 Kz2 g2 G2 HR2 HK2 g3 g4 hHeld
      go_wp2_with (first
        | (refine load_key _ rfl kb rfl rfl _ HU3.out ?_)
        | (go_at_call 34; refine hP.mono ?_; rintro e y5 ⟨rfl, g5⟩; have RS5 := HP4.out.read g5; have RS6 := RS5.stored (Nat.le_refl _) (oneP sk).el (Pr.ok_el (fit24_length sk)) (by simp [readsP_length]; omega); simp only [List.length_map, readsP_length] at RS6)
        | (refine wpList_store_mid rfl 44 _ _ rfl w.heap.size (k * 25) (ec (oneP sk).el).toArray rfl rfl (fun j hj => by have := RS5.th (k * 25 + j) (by rw [ec_size (Pr.ok_el (fit24_length sk))] at hj; omega); simpa using this) (by rw [ec_size (Pr.ok_el (fit24_length sk))]; exact Try.info_P) (ec_all (Pr.ok_el (fit24_length sk))) ?_))
      go_roundg g
      case measure => omega
      case rel =>
        refine ⟨k + 1, by omega, by go_num, ?_⟩
        have e1 : (readsP (k + 1) s1).map Pr.el = (readsP k s1).map Pr.el ++ [(oneP sk).el] := by rw [readsP_snoc, HSK.out, List.map_append]; rfl
        have e2 : afterP (k + 1) s1 = (sk.take 24).atext := by rw [afterP_snoc, HSK.out]; rfl
        rw [e1, e2]
        exact RS6

def roomK : List Value := (List.replicate 18 (ec nilK)).flatten
theorem roomK_length : roomK.length = 450 := by kernel_rfl
theorem Try.room_K : (Try.prog.info? 87).map (·.zero) = some (some (.agg (roomK).toArray)) := by kernel_rfl
theorem roomK_there (w : World) : (w.alloc (.cells roomK.toArray 87)).there w.heap.size 0 450 := fun j hj => by
  have hb := heap_alloc_new w (.cells roomK.toArray 87)
  refine ⟨?_, frozen_row hb _⟩
  rw [cell_of_row _ _ _ _ _ _ hb]
  simp [roomK_length, hj]
/-- What read comes to. -/
def ReadK (w : World) (p : Nat) (r : Option Nat) (s : RS) (e : Ending) (w' : World) : Prop :=
  ∃ v, e = .returned v ∧ RdS w' p (if 18 < num (s.got 1) then s.take 1 else afterK (num (s.got 1)) (s.take 1)) r ∧ Touch p none w w' ∧
    Els w' v ((if 18 < num (s.got 1) then [] else readsK (num (s.got 1)) (s.take 1)).map Kd.el) ∧ ∃ rr, ElsIn w' v ((if 18 < num (s.got 1) then [] else readsK (num (s.got 1)) (s.take 1)).map Kd.el) rr ∧ ∀ k, rr = some k → w.heap.size ≤ k ∧ k < w'.heap.size
set_option maxHeartbeats 8000000 in
set_option maxRecDepth 100000 in
theorem readK_calls (w : World) (c p : Nat) (s : RS) (r : Option Nat) (h : RdS w p s r) (hr : ∀ k, r = some k → k < w.heap.size) (hc : ptrAt w c p 60) (hcp : c ≠ p) :
    Calls Try.prog 36 #[.pointer (some ⟨p, 0, none⟩), .func (Fn.func 37) #[] #[.pointer (some ⟨c, 0, none⟩)]] w (ReadK w p r s) := by
  have hcl := lt_of_block hc
  have hpl := h.lt
  have B1 : Below w.heap.size w (w.alloc (.cells roomK.toArray 87)) := (Below.refl _ w).alloc (Nat.le_refl _) _
  have S0 : RSt w (w.alloc (.cells roomK.toArray 87)) p w.heap.size s r [] := ⟨h.called hr B1, touch_below p none B1, roomK_there w, (fun i hi => by cases hi), (fun i hi => by cases hi), by simp, by omega, hr, hpl⟩
  have HC : Hid (ptrAt w c p 60) := hc
  clear h hc B1
  go_enter Try.func36, Try.ntmps36
  go_upto_region 2 with (refine alloc_row rfl 87 rfl roomK Try.room_K ?_)
  generalize w.alloc (.cells roomK.toArray 87) = W at *
  have hrd := S0.rd
  have HS0 : Hid (RSt w W p w.heap.size s r []) := S0
  clear S0
  go_upto_region 3 with (go_at_call 32; refine (byte_reads _ p s r hrd).mono ?_; rintro e w1 ⟨rfl, g1⟩)
  have S1 := HS0.out.read g1
  clear HS0 hrd g1
  obtain ⟨n, hn⟩ : ∃ n, n = num (s.got 1) := ⟨_, rfl⟩
  have HN : Hid (n = num (s.got 1)) := hn
  rw [← hn]
  clear hn
  by_cases h18 : 18 < n
  · have q1 : (18 : Int) < (n : Int) := by omega
    have HS1 : Hid (RSt w w1 p w.heap.size (s.take 1) r []) := S1
    clear S1
    go_wp2_with fail
    go_ret
    have q2 : 18 < num (s.got 1) := by rw [← HN.out]; exact h18
    refine ⟨_, rfl, by rw [if_pos q2]; exact HS1.out.rd, HS1.out.t, by rw [if_pos q2]; exact Els.nil _, none, ?_, fun k hk => by cases hk⟩
    rw [if_pos q2]
    exact ⟨none, 0, rfl, Nat.le_refl _, Nat.zero_le _, (fun i hi => by cases hi), .inl rfl⟩
  have q1 : ¬ (18 : Int) < (n : Int) := by omega
  generalize hs1 : s.take 1 = s1 at *
  have HS1E : Hid (s.take 1 = s1) := hs1
  clear hs1
  have S1' : Hid (RSt w w1 p w.heap.size s1 r ((readsK 0 s1).map Kd.el)) := S1
  clear S1
  go_wp2_with fail
  go_loopg [14] n (fun g i wr => ∃ k : Nat, k + g = n ∧ i = .int .i64 (k : Int) ∧ Hid (RSt w wr p w.heap.size (afterK k s1) r ((readsK k s1).map Kd.el)))
  case atStart => exact ⟨0, by omega, rfl, S1'⟩
  case round =>
    obtain ⟨k, hkg, rfl, HP⟩ := hrel
    cases gk with
    | zero =>
      have hkn : k = n := by omega
      subst hkn
      have hn0 : (0 : Int) ≤ (k : Int) := by omega
      have hn1 : (k : Int) ≤ 18 := by omega
      go_wp2_with fail
      go_ret
      have q2 : ¬ 18 < num (s.got 1) := by rw [← HN.out]; exact h18
      have hs := HP.out
      have hin : ElsIn wr (.slice (some ⟨w.heap.size, 0, none⟩) k k) ((readsK k s1).map Kd.el) (some w.heap.size) := by
        refine ⟨some ⟨w.heap.size, 0, none⟩, k, by simp [readsK_length], by simp [readsK_length], by simp [readsK_length]; unfold maxLen; omega, hs.ok, .inr ⟨w.heap.size, 0, rfl, rfl, hs.bl, fun i hi => ?_⟩⟩
        rw [Nat.zero_add]
        exact hs.el i hi
      refine ⟨.slice (some ⟨w.heap.size, 0, none⟩) k k, rfl, by rw [if_neg q2, ← HN.out, HS1E.out]; exact hs.rd, hs.t, ?_, some w.heap.size, ?_, fun k hk => by cases hk; exact ⟨Nat.le_refl _, hs.bl⟩⟩
      · rw [if_neg q2, ← HN.out, HS1E.out]
        exact ⟨_, hin, fun k hk => by cases hk; exact hs.bl⟩
      · rw [if_neg q2, ← HN.out, HS1E.out]
        exact hin
    | succ g =>
      have hlt : k < n := by omega
      have hltI : (k : Int) < (n : Int) := by omega
      have hk18 : (k : Int) < 18 := by omega
      have hk0 : (0 : Int) ≤ (k : Int) := by omega
      go_upto_region 9 with fail
      have Kz : Has (wr.alloc (.cells #[.int .u8 0, .int .u8 0, .int .u8 0, .int .u8 0, .int .u8 0, .int .u8 0, .int .u8 0, .int .u8 0, .int .u8 0, .int .u8 0, .int .u8 0, .int .u8 0, .int .u8 0, .int .u8 0, .int .u8 0, .int .u8 0, .int .u8 0, .int .u8 0, .int .u8 0, .int .u8 0, .int .u8 0, .int .u8 0, .int .u8 0, .int .u8 0] 39)) wr.heap.size (zs 24) := zero_has _ _ rfl
      have RS2 := HP.out.called ((Below.refl _ wr).alloc (Nat.le_refl _) (.cells #[.int .u8 0, .int .u8 0, .int .u8 0, .int .u8 0, .int .u8 0, .int .u8 0, .int .u8 0, .int .u8 0, .int .u8 0, .int .u8 0, .int .u8 0, .int .u8 0, .int .u8 0, .int .u8 0, .int .u8 0, .int .u8 0, .int .u8 0, .int .u8 0, .int .u8 0, .int .u8 0, .int .u8 0, .int .u8 0, .int .u8 0, .int .u8 0] 39))
      have hbl := HP.out.bl
      generalize wr.alloc (.cells #[.int .u8 0, .int .u8 0, .int .u8 0, .int .u8 0, .int .u8 0, .int .u8 0, .int .u8 0, .int .u8 0, .int .u8 0, .int .u8 0, .int .u8 0, .int .u8 0, .int .u8 0, .int .u8 0, .int .u8 0, .int .u8 0, .int .u8 0, .int .u8 0, .int .u8 0, .int .u8 0, .int .u8 0, .int .u8 0, .int .u8 0, .int .u8 0] 39) = W2 at *
      generalize wr.heap.size = kb at *
      have HK2 : Hid (Has W2 kb (zs 24)) := Kz
      have HR2 : Hid (RSt w W2 p w.heap.size (afterK k s1) r ((readsK k s1).map Kd.el)) := RS2
      clear Kz RS2 HP
      generalize hsk : afterK k s1 = sk at *
      have HSK : Hid (afterK k s1 = sk) := hsk
      clear hsk
      refine wp_region_noPanic ?_
      refine wp_region_held_drew (S := (fun _ => True)) (by kernel_rfl) trivial (fun hHeld => ?_)
      refine wpAnyH_take (i := 0) (v := ?_) rfl (by kernel_rfl) (by kernel_rfl) (by kernel_rfl) (fun _ _ _ h => h) (Or.inl ⟨by rfl, ?_⟩) hHeld ?_
      case refine_2 => (intro w hSw; (try dsimp only at hSw); go_simp; try (with_reducible rfl))
      ((try simp only); (try simp only [List.getElem_toArray]); (try simp only [List.getElem_cons_succ]); (try simp only [List.getElem_cons_zero]); (try simp only [Act.put]); (try simp only [List.setIfInBounds_toArray]); (try simp only [List.set_cons_succ]); (try simp only [List.set_cons_zero]))
      refine wpAnyH_take (i := 1) (v := ?_) rfl (by kernel_rfl) (by kernel_rfl) (by kernel_rfl) (fun _ _ _ h => h) (Or.inl ⟨by rfl, ?_⟩) hHeld ?_
      case refine_2 => (intro w hSw; (try dsimp only at hSw); go_simp; try (with_reducible rfl))
      ((try simp only); (try simp only [List.getElem_toArray]); (try simp only [List.getElem_cons_succ]); (try simp only [List.getElem_cons_zero]); (try simp only [Act.put]); (try simp only [List.setIfInBounds_toArray]); (try simp only [List.set_cons_succ]); (try simp only [List.set_cons_zero]))
      refine wpAnyH_ready (rs := [2]) (by kernel_rfl) (by simp) (AllReadyH.cons rfl (fun K hK => ?_) AllReadyH.nil)
      rw [if_pos (by rfl)]
      ((try simp only); (try simp only [List.getElem_toArray]); (try simp only [List.getElem_cons_succ]); (try simp only [List.getElem_cons_zero]); (try simp only [Act.put]); (try simp only [List.setIfInBounds_toArray]); (try simp only [List.set_cons_succ]); (try simp only [List.set_cons_zero]))
      go_simp
      refine (raw_reads _ p 24 sk r (HR2.out.rd.kept rfl (fun _ _ => rfl) : RdS W2.drew p sk r)).mono ?_
      rintro e y2 ⟨rfl, g2⟩
      have G2 : RdG p W2 r (sk.take 24) y2 := ⟨g2.1, ⟨g2.2.os, g2.2.tape, g2.2.output, g2.2.size, g2.2.block⟩⟩
      have RS3 := HR2.out.read G2
      have Kz2 : Has y2 kb (zs 24) := HK2.out.touch G2.2 (by have := HR2.out.hp; omega)
      refine hK.out _ _ trivial (fun g3 => ?_)
      clear hK K
      ((try simp only); (try simp only [List.getElem_toArray]); (try simp only [List.getElem_cons_succ]); (try simp only [List.getElem_cons_zero]); (try simp only [Act.put]); (try simp only [List.setIfInBounds_toArray]); (try simp only [List.set_cons_succ]); (try simp only [List.set_cons_zero]))
      refine wpAnyH_ready (rs := [3]) (by kernel_rfl) (by simp) (AllReadyH.cons rfl (fun K hK => ?_) AllReadyH.nil)
      rw [if_pos (by rfl)]
      ((try simp only); (try simp only [List.getElem_toArray]); (try simp only [List.getElem_cons_succ]); (try simp only [List.getElem_cons_zero]); (try simp only [Act.put]); (try simp only [List.setIfInBounds_toArray]); (try simp only [List.set_cons_succ]); (try simp only [List.set_cons_zero]))
      refine copy_op _ _ rfl kb rfl (str (sk.got 24)) rfl (by rw [str_size]; exact got24 sk) Kz2 ?_
      intro y3 v3 hu3 tx3 sx3
      refine hK.out _ _ trivial (fun g4 => ?_)
      clear hK K
      ((try simp only); (try simp only [List.getElem_toArray]); (try simp only [List.getElem_cons_succ]); (try simp only [List.getElem_cons_zero]); (try simp only [Act.put]); (try simp only [List.setIfInBounds_toArray]); (try simp only [List.set_cons_succ]); (try simp only [List.set_cons_zero]))
      refine wpAnyH_done (by kernel_rfl) ?_ _
      refine NoPanic.normal ?_
      rw [str_list] at hu3
      have RS4 := RS3.other tx3 (by omega) (by omega)
      have hP := partK_calls y3 c p (sk.take 24) r (fit24 (sk.got 24)) RS4.rd (fun k hk => by have := RS4.hr k hk; have := RS4.t.size; omega) ((RS4.t.block c (lt_of_block HC.out) hcp (by simp)).trans HC.out) hcp (fit24_length sk)
      have HP4 : Hid (RSt w y3 p w.heap.size (sk.take 24) r ((readsK k s1).map Kd.el)) := RS4
      have HU3 : Hid (Has y3 kb (fit24 (sk.got 24))) := hu3
      clear RS3 RS4 hu3 tx3 sx3 Kz2 g2 G2 HR2 HK2 g3 g4 hHeld
      go_wp2_with (first
        | (refine load_key _ rfl kb rfl rfl _ HU3.out ?_)
        | (go_at_call 37; refine hP.mono ?_; rintro e y5 ⟨rfl, g5⟩; have RS5 := HP4.out.read g5; have RS6 := RS5.stored (Nat.le_refl _) (oneK sk).el (Kd.ok_el (fit24_length sk)) (by simp [readsK_length]; omega); simp only [List.length_map, readsK_length] at RS6)
        | (refine wpList_store_mid rfl 54 _ _ rfl w.heap.size (k * 25) (ec (oneK sk).el).toArray rfl rfl (fun j hj => by have := RS5.th (k * 25 + j) (by rw [ec_size (Kd.ok_el (fit24_length sk))] at hj; omega); simpa using this) (by rw [ec_size (Kd.ok_el (fit24_length sk))]; exact Try.info_K) (ec_all (Kd.ok_el (fit24_length sk))) ?_))
      go_roundg g
      case measure => omega
      case rel =>
        refine ⟨k + 1, by omega, by go_num, ?_⟩
        have e1 : (readsK (k + 1) s1).map Kd.el = (readsK k s1).map Kd.el ++ [(oneK sk).el] := by rw [readsK_snoc, HSK.out, List.map_append]; rfl
        have e2 : afterK (k + 1) s1 = (sk.take 24).take 4 := by rw [afterK_snoc, HSK.out]; rfl
        rw [e1, e2]
        exact RS6
end Go.Proofs.Ytggbnacpgkbieaa
