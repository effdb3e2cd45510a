import Derived.Test.YtdmindhjmjnagaaGreatDoorB11
import Derived.Deep.LoopGhost
import Derived.Lib.VarintMem
/- SpB SpC SpD -/
namespace Go.Proofs.YtdmindhjmjnagaaGreatDoor
set_option linter.unusedVariables false
set_option maxRecDepth 1000000
set_option maxHeartbeats 32000000
section
open Go.RowKit
theorem build_to {ops : Array Oper} {rest : List Oper} {o : Oper} {a : Act} {w : World} {Q : Exit → Act → World → Prop} (hg : o.guard = none) (ty : TypeId) (parts : Array (Nat × Operand)) (ho : o.op = .build ty parts) (vs : List (Nat × Value)) (hv : (parts.map fun x => (x.1, a.eval x.2)).toList = vs) (C : Array Value) (hb : Tryz.prog.built ty vs = some C)
    (h : wpList Tryz.prog ops Q rest (a.put o.dst (.agg C)) w) : wpList Tryz.prog ops Q (o :: rest) a w := by
 subst hv
 refine wpList_plain hg fun K hK => ?_
 refine wp_build ty parts ho (by rw [show (fun x : Nat × Operand => match x with | (i, x) => (i, a.eval x)) = (fun x => (x.1, a.eval x.2)) from rfl, hb]; rfl) ?_
 rw [show (fun x : Nat × Operand => match x with | (i, x) => (i, a.eval x)) = (fun x => (x.1, a.eval x.2)) from rfl, hb]
 exact hK _ _ h
theorem build_two {ops : Array Oper} {rest : List Oper} {o : Oper} {a : Act} {w : World} {Q : Exit → Act → World → Prop} (hg : o.guard = none) (ty : TypeId) (i j : Nat) (x y : Operand) (ho : o.op = .build ty #[(i, x), (j, y)]) (vx vy : Value) (hx : a.eval x = vx) (hy : a.eval y = vy) (C : Array Value) (hb : Tryz.prog.built ty [(i, vx), (j, vy)] = some C)
    (h : wpList Tryz.prog ops Q rest (a.put o.dst (.agg C)) w) : wpList Tryz.prog ops Q (o :: rest) a w := build_to hg ty _ ho [(i, vx), (j, vy)] (by simp [hx, hy]) C hb h
def ed0 : Ed := ⟨zs 24, 0, 0, rfl⟩
theorem Tryz.edge_built (parts : List (Nat × Value)) : Tryz.prog.built 189 parts = Instr.fill (#[(0, 24), (24, 1), (25, 1)][·]?) (ecd ed0).toArray parts := by
 have h1 : (Tryz.prog.info? 189).map (·.zero) = some (some (.agg (ecd ed0).toArray)) := by kernel_rfl
 have h2 : (Tryz.prog.underlying 189).map (fun d => match d with | .struct fs => fs.toList.mapM (fun f => (Tryz.prog.info? f.type).map fun i => (f.offset, i.size)) | _ => none) = some (some [(0, 24), (24, 1), (25, 1)]) := by kernel_rfl
 unfold Program.built
 cases hi : Tryz.prog.info? 189 with
 | none => rw [hi] at h1; cases h1
 | some i =>
  rw [hi] at h1
  have hz : i.zero = some (.agg (ecd ed0).toArray) := by simpa using h1
  cases hu : Tryz.prog.underlying 189 with
  | none => rw [hu] at h2; cases h2
  | some d =>
   rw [hu] at h2
   cases d with
   | struct fs =>
    have hp : fs.toList.mapM (fun f => (Tryz.prog.info? f.type).map fun i => (f.offset, i.size)) = some [(0, 24), (24, 1), (25, 1)] := by simpa using h2
    simp only [hz, hp]
    rfl
   | _ => simp at h2
theorem ecd_put (K : List UInt8) (hK : K.length = 24) (a b : Int) : ((ecd ed0).toArray.toList.take 0 ++ (kv K).cells.toList ++ (ecd ed0).toArray.toList.drop (0 + 24)).toArray = (ecd ⟨K, 0, 0, hK⟩).toArray := by
 simp only [ecd, Value.cells, List.take_zero, List.nil_append, Nat.zero_add]
 rfl
theorem builtA (K : List UInt8) (hK : K.length = 24) (m : Int) : Tryz.prog.built 189 [(0, kv K), (1, .int .i64 m)] = some (ecd (edA K hK m)).toArray := by
 have hl : (bc K).length = 24 := by rw [bc_length, hK]
 rw [Tryz.edge_built, fill_put (off := 0) (size := 24) rfl (by simp [Value.cells, hl]) (by simp [ecd, bc_length, ed0, zs_length]), ecd_put K hK 0 0,
   fill_put (off := 24) (size := 1) rfl rfl (by simp [ecd, bc_length, hK])]
 simp only [Instr.fill, ecd, edA, Value.cells, List.toList_toArray]
 rw [List.take_append_of_le_length (by omega), List.take_of_length_le (by omega), List.drop_append, List.drop_of_length_le (by omega), hl]
 simp
theorem builtB (K : List UInt8) (hK : K.length = 24) (m : Int) : Tryz.prog.built 189 [(0, kv K), (2, .int .i64 m)] = some (ecd (edB K hK m)).toArray := by
 have hl : (bc K).length = 24 := by rw [bc_length, hK]
 rw [Tryz.edge_built, fill_put (off := 0) (size := 24) rfl (by simp [Value.cells, hl]) (by simp [ecd, bc_length, ed0, zs_length]), ecd_put K hK 0 0,
   fill_put (off := 25) (size := 1) rfl rfl (by simp [ecd, bc_length, hK])]
 simp only [Instr.fill, ecd, edB, Value.cells, List.toList_toArray]
 rw [List.take_append, List.take_of_length_le (by omega), hl, List.drop_of_length_le (by simp [hl])]
 simp
structure EV (w : World) (p : Nat) (v : Value) (es : List Ed) : Prop where
 var : w.heap[p]? = some (.cells #[v] 186 (0, 0))
 own : Own encE 189 w (p + 1) v es
theorem EV.lt {w : World} {p : Nat} {v : Value} {es : List Ed} (h : EV w p v es) : p < w.heap.size := lt_of_block h.var
theorem EV.row {w : World} {p : Nat} {v : Value} {es : List Ed} (h : EV w p v es) : ∀ k, v.ownBlock = some k → p + 1 ≤ k ∧ k < w.heap.size := h.own.lt
theorem EV.below {w w' : World} {p : Nat} {v : Value} {es : List Ed} (h : EV w p v es) (hb : Below w.heap.size w w') : EV w' p v es := ⟨(hb.block p h.lt).trans h.var, h.own.below hb⟩
def Tell (g : Nat) (mk : (K : List UInt8) → K.length = 24 → Int → Ed) (p : Nat) : Prop :=
 ∀ (w : World) (v : Value) (es : List Ed) (K : List UInt8) (hK : K.length = 24) (m : Int), EV w p v es → es.length + 1 ≤ 1000000 →
   Calls Tryz.prog g #[kv K, .int .i64 m, .pointer (some ⟨p, 0, none⟩)] w fun e w' => e = .returned (.tuple #[]) ∧ ∃ v', EV w' p v' (es ++ [mk K hK m]) ∧ Touch p v.ownBlock w w' ∧ Near v.ownBlock v'.ownBlock w.heap.size
theorem Touch.grown' {p : Nat} {r : Option Nat} {w w' w2 w3 : World} (h : Touch p r w w') (b : Below w'.heap.size w' w2) (g : w2.grownBy w3 r) : Touch p r w w3 :=
 Touch.grown ⟨b.os.trans h.os, b.tape.trans h.tape, b.output.trans h.output, Nat.le_trans h.size b.size, fun k hk hp hr => (b.block k (by have := h.size; omega)).trans (h.block k hk hp hr)⟩ g
theorem tellA (p : Nat) : Tell 131 edA p := by
 intro w v es K hK m h hlen
 have hq : Has (w.alloc (.cells (bc K).toArray 54)) w.heap.size K := Has.new w K hK
 have hplt := h.lt
 have h0 : EV (w.alloc (.cells (bc K).toArray 54)) p v es := h.below ((Below.refl _ w).alloc (Nat.le_refl _) _)
 have cV : (w.alloc (.cells (bc K).toArray 54)).cell? ⟨p, 0, none⟩ = some v := by rw [cell_of_row _ p 0 _ _ _ h0.var]; rfl
 have hone : v.oneCell' = true := by
  rcases h.own.2 with ⟨rfl, _⟩ | ⟨g, cap, cur, rfl, _⟩ <;> rfl
 have HH : Hid (EV w p v es) := h
 have H0 : Hid (EV (w.alloc (.cells (bc K).toArray 54)) p v es) := h0
 have HB : Hid (Tryz.prog.built 189 [(0, kv K), (1, .int .i64 m)] = some (ecd (edA K hK m)).toArray) := builtA K hK m
 obtain ⟨E, hE⟩ : ∃ E, E = edA K hK m := ⟨_, rfl⟩
 rw [← hE] at HB ⊢
 have HE : Hid (E = edA K hK m) := hE
 clear h h0 hE
 go_enter Tryz.func131, Tryz.ntmps131
 go_wp2_with (first
  | (refine load_key _ rfl w.heap.size rfl rfl _ hq ?_)
  | (refine build_two rfl 189 0 1 _ _ rfl _ _ rfl rfl _ HB.out ?_)
  | (refine build_el1 rowE rfl _ rfl E rfl (by decide) ?_; intro w2 o2 b2 s2 k2; have hs2 : w2.heap.size = w.heap.size + 1 + 1 := by (rw [s2]; simp))
  | (at_builtin; refine append_one rowE rfl _ _ rfl (p + 1) v es rfl (H0.out.own.below b2) _ E rfl (0, 0) _ k2 hlen (by decide) (by omega) ?_; intro g cap w3 o3 gr3 at3 lt3; have cV3 : w3.heap[p]? = some (.cells #[v] 186 (0, 0)) := ((gr3.block p (by omega) (fun q => by have := (HH.out.row p q.symm).1; omega)).trans ((b2.block p (by simp; omega)).trans H0.out.var)); have c3 := cell_of_row w3 p 0 _ _ _ cV3; have f3 : w3.frozen? ⟨p, 0, none⟩ = false := (by simp [World.frozen?, cV3])))
 go_end0
 have hg : p + 1 ≤ g := by
  rcases at3 with q | q
  · exact (HH.out.row g q).1
  · omega
 refine ⟨rfl, _, ⟨?_, o3.same fun k hk => ?_⟩, ?_, ?_⟩
 · rw [setCell_eq_setRow w3 p 0 _ _ _ _ cV3, setRow_heap w3 p _ _ _ _ cV3]
   rfl
 · simp only [Value.ownBlock, Option.some.injEq] at hk
   exact Below.heap_setCell _ _ _ _ (by show k ≠ p; omega)
 · refine Touch.setCell ?_ 0 _
   exact ((Touch.refl p _ w).alloc _).grown' b2 gr3
 · intro k hk
   simp only [Value.ownBlock, Option.some.injEq] at hk
   subst hk
   rcases at3 with q | q
   · exact .inl q
   · exact .inr (by omega)
theorem tellB (p : Nat) : Tell 132 edB p := by
 intro w v es K hK m h hlen
 have hq : Has (w.alloc (.cells (bc K).toArray 54)) w.heap.size K := Has.new w K hK
 have hplt := h.lt
 have h0 : EV (w.alloc (.cells (bc K).toArray 54)) p v es := h.below ((Below.refl _ w).alloc (Nat.le_refl _) _)
 have cV : (w.alloc (.cells (bc K).toArray 54)).cell? ⟨p, 0, none⟩ = some v := by rw [cell_of_row _ p 0 _ _ _ h0.var]; rfl
 have hone : v.oneCell' = true := by
  rcases h.own.2 with ⟨rfl, _⟩ | ⟨g, cap, cur, rfl, _⟩ <;> rfl
 have HH : Hid (EV w p v es) := h
 have H0 : Hid (EV (w.alloc (.cells (bc K).toArray 54)) p v es) := h0
 have HB : Hid (Tryz.prog.built 189 [(0, kv K), (2, .int .i64 m)] = some (ecd (edB K hK m)).toArray) := builtB K hK m
 obtain ⟨E, hE⟩ : ∃ E, E = edB K hK m := ⟨_, rfl⟩
 rw [← hE] at HB ⊢
 have HE : Hid (E = edB K hK m) := hE
 clear h h0 hE
 go_enter Tryz.func132, Tryz.ntmps132
 go_wp2_with (first
  | (refine load_key _ rfl w.heap.size rfl rfl _ hq ?_)
  | (refine build_two rfl 189 0 2 _ _ rfl _ _ rfl rfl _ HB.out ?_)
  | (refine build_el1 rowE rfl _ rfl E rfl (by decide) ?_; intro w2 o2 b2 s2 k2; have hs2 : w2.heap.size = w.heap.size + 1 + 1 := by (rw [s2]; simp))
  | (at_builtin; refine append_one rowE rfl _ _ rfl (p + 1) v es rfl (H0.out.own.below b2) _ E rfl (0, 0) _ k2 hlen (by decide) (by omega) ?_; intro g cap w3 o3 gr3 at3 lt3; have cV3 : w3.heap[p]? = some (.cells #[v] 186 (0, 0)) := ((gr3.block p (by omega) (fun q => by have := (HH.out.row p q.symm).1; omega)).trans ((b2.block p (by simp; omega)).trans H0.out.var)); have c3 := cell_of_row w3 p 0 _ _ _ cV3; have f3 : w3.frozen? ⟨p, 0, none⟩ = false := (by simp [World.frozen?, cV3])))
 go_end0
 have hg : p + 1 ≤ g := by
  rcases at3 with q | q
  · exact (HH.out.row g q).1
  · omega
 refine ⟨rfl, _, ⟨?_, o3.same fun k hk => ?_⟩, ?_, ?_⟩
 · rw [setCell_eq_setRow w3 p 0 _ _ _ _ cV3, setRow_heap w3 p _ _ _ _ cV3]
   rfl
 · simp only [Value.ownBlock, Option.some.injEq] at hk
   exact Below.heap_setCell _ _ _ _ (by show k ≠ p; omega)
 · refine Touch.setCell ?_ 0 _
   exact ((Touch.refl p _ w).alloc _).grown' b2 gr3
 · intro k hk
   simp only [Value.ownBlock, Option.some.injEq] at hk
   subst hk
   rcases at3 with q | q
   · exact .inl q
   · exact .inr (by omega)
end
section
open Go.RowKit
def sp0 : Sp := ⟨zs 24, zs 24, false, rfl, rfl⟩
theorem wrap_next {k N : Nat} (h : k < N) (hN : N ≤ maxLen) : wrap64 ((k : Int) + 1) = ((k + 1 : Nat) : Int) := by unfold maxLen at hN; unfold wrap64; omega
structure EVs (w : World) (p : Nat) (r0 : Option Nat) (es : List Ed) (x : World) : Prop where
 at_ : ∃ v, EV x p v es ∧ Near r0 v.ownBlock w.heap.size
 t : Touch p r0 w x
theorem EVs.start {w : World} {p : Nat} {v : Value} {es : List Ed} (h : EV w p v es) : EVs w p v.ownBlock es w := ⟨⟨v, h, Near.refl _ _⟩, Touch.refl _ _ _⟩
theorem EVs.below {w x y : World} {p : Nat} {r0 : Option Nat} {es : List Ed} (h : EVs w p r0 es x) (b : Below x.heap.size x y) : EVs w p r0 es y := by
 obtain ⟨⟨v, h1, h2⟩, h3⟩ := h
 exact ⟨⟨v, h1.below b, h2⟩, ⟨b.os.trans h3.os, b.tape.trans h3.tape, b.output.trans h3.output, Nat.le_trans h3.size b.size, fun k hk hp hr => (b.block k (by have := h3.size; omega)).trans (h3.block k hk hp hr)⟩⟩
theorem EVs.told {g : Nat} {mk : (K : List UInt8) → K.length = 24 → Int → Ed} {p : Nat} (T : Tell g mk p) {w x : World} {r0 : Option Nat} {es : List Ed} (h : EVs w p r0 es x) (K : List UInt8) (hK : K.length = 24) (m : Int) (hl : es.length + 1 ≤ 1000000) :
    Calls Tryz.prog g #[kv K, .int .i64 m, .pointer (some ⟨p, 0, none⟩)] x fun e y => e = .returned (.tuple #[]) ∧ EVs w p r0 (es ++ [mk K hK m]) y ∧ ∀ b s, InB encS 56 x b s → w.heap.size ≤ b → (∀ v, EV x p v es → v.ownBlock ≠ some b) → InB encS 56 y b s ∧ ∀ v, EV y p v (es ++ [mk K hK m]) → v.ownBlock ≠ some b := by
 obtain ⟨⟨v, h1, h2⟩, h3⟩ := h
 refine (T x v es K hK m h1 hl).mono ?_
 rintro e y ⟨rfl, v', h4, t, n⟩
 refine ⟨rfl, ⟨⟨v', h4, h2.trans n h3.size⟩, ?_⟩, fun b s hb hlt hv => ⟨hb.touch t ?_ (hv v h1), fun v2 hv2 e => ?_⟩⟩
 · have hn : Near r0 v.ownBlock w.heap.size := h2
   exact h3.trans t hn
 · intro e
   subst e
   have e1 := hb.blk
   rw [h1.var] at e1
   have e2 := congrArg (fun o : Option Obj => match o with | some (.cells c _ _) => c.size | _ => 0) e1
   simp [encS, sc, bc_length, s.hF, s.hT] at e2
 · have e3 : v2 = v' := by
     have := hv2.var.symm.trans h4.var
     simpa using this
   subst e3
   rcases n b e with q | q
   · exact hv v h1 q
   · have := hb.lt
     omega
theorem looks_take (mk : (K : List UInt8) → K.length = 24 → Int → Ed) (l : List Sp) (k : Nat) (h : k < l.length) : looks mk (l.take (k + 1)) = looks mk (l.take k) ++ tells mk l[k] := by
 rw [List.take_succ_eq_append_getElem h, looks_snoc]
theorem EV.uniq {w : World} {p : Nat} {v v' : Value} {es es' : List Ed} (h : EV w p v es) (h' : EV w p v' es') : v = v' := by
 have := h.var.symm.trans h'.var
 simpa using this
theorem look_calls (g : Nat) (mk : (K : List UInt8) → K.length = 24 → Int → Ed) (p : Nat) (T : Tell g mk p) (eg : ∀ args w, (callFunc g args).run Tryz.prog w = .ok (.enter g args) w) (w : World) (u : Value) (l : List Sp) (hl : SlB encS w p u l) (v0 : Value) (es : List Ed) (h : EV w p v0 es) (hlen : es.length + 2 * l.length + 2 ≤ 1000000) :
    Calls Tryz.prog 130 #[u, .func (.func g) #[] #[.pointer (some ⟨p, 0, none⟩)]] w fun e w' => e = .returned (.tuple #[]) ∧ EVs w p v0.ownBlock (es ++ looks mk l) w' := by
 have hl' := hl
 obtain ⟨ad, cap, rfl, hcap, hmax, _, _⟩ := hl'
 obtain ⟨N, hN⟩ : ∃ N : Nat, N = l.length := ⟨_, rfl⟩
 rw [← hN] at hcap hmax ⊢
 have HN : Hid (N = l.length) := hN
 have HM : Hid (∀ k : Nat, k < N → wrap64 ((k : Int) + 1) = ((k + 1 : Nat) : Int)) := fun k hk => wrap_next hk hmax
 have HI : Hid (∀ i (hi : i < l.length), ∃ g off, ad = some ⟨g, off, none⟩ ∧ g < p ∧ w.rangeAt g (off + i * 49) (encS.c l[i])) := fun i hi => SlB.at hl i hi
 have HS : Hid (EVs w p v0.ownBlock es w) := EVs.start h
 have HP : Hid (p < w.heap.size ∧ ∀ k, v0.ownBlock = some k → p + 1 ≤ k) := ⟨h.lt, fun k hk => (h.row k hk).1⟩
 have HT : Hid (Tell g mk p) := T
 have HL : Hid (es.length + 2 * N + 2 ≤ 1000000) := by rw [hN]; exact hlen
 clear hN hl h T hlen
 go_enter Tryz.func130, Tryz.ntmps130
 go_wp2
 go_loopg [8] N (fun gg i wr => ∃ k : Nat, k + gg = N ∧ i = .int .i64 (k : Int) ∧ Hid (EVs w p v0.ownBlock (es ++ looks mk (l.take k)) wr))
 case atStart => exact ⟨0, by omega, rfl, (show EVs w p v0.ownBlock (es ++ looks mk (l.take 0)) w by simpa [looks] using HS.out)⟩
 case round =>
  obtain ⟨k, hkg, rfl, HE⟩ := hrel
  cases gk with
  | zero =>
   have hkN : k = N := by omega
   subst hkN
   go_wp2_with fail
   go_end0
   refine ⟨rfl, ?_⟩
   have := HE.out
   rwa [HN.out, List.take_length] at this
  | succ gg =>
   have hlt : k < N := by omega
   have hltI : (k : Int) < (N : Int) := by omega
   have hkl : k < l.length := by rw [← HN.out]; exact hlt
   obtain ⟨g0, off, rfl, hg0, hat⟩ := HI.out k hkl
   have HR : Hid (wr.rangeAt g0 (off + k * 49) (encS.c l[k])) := range_same' hat (HE.out.t.block g0 (by have := HP.out.1; omega) (by omega) (fun e => by have := HP.out.2 g0 e; omega))
   have HTK : Hid (looks mk (l.take (k + 1)) = looks mk (l.take k) ++ tells mk l[k]) := looks_take mk l k hkl
   have HLN : Hid ((es ++ looks mk (l.take k)).length + 2 ≤ 1000000) := by
    show (es ++ looks mk (l.take k)).length + 2 ≤ 1000000
    have h1 := looks_len mk (l.take k)
    have h2 := HL.out
    rw [List.length_append]
    rw [List.length_take] at h1
    omega
   have HKS := HM.out k hlt
   have HKS : Hid (wrap64 ((k : Int) + 1) = ((k + 1 : Nat) : Int)) := HKS
   generalize l[k] = s at *
   generalize looks mk (l.take k) = lk at *
   clear hat hkl
   go_upto_region 3 with (first
    | (refine load_el elS _ rfl g0 (off + k * 49) rfl rfl s HR.out ?_)
    | (refine store_el elS rfl _ _ rfl wr.heap.size rfl s rfl sp0 (InB.new encS _ wr sp0 _ rfl) ?_; intro x1 hu1 tx1 sx1))
   have HX : Hid (EVs w p v0.ownBlock (es ++ lk) x1) := HE.out.below (((Below.refl _ wr).alloc (Nat.le_refl _) _).trans (tx1.below (by simp) (Nat.le_refl _) (by simp)))
   have hsz : x1.heap.size = wr.heap.size + 1 := by rw [sx1]; simp
   have hwr : w.heap.size ≤ wr.heap.size := HE.out.t.size
   have HV : Hid (∀ v, EV x1 p v (es ++ lk) → v.ownBlock ≠ some wr.heap.size) := by
    obtain ⟨⟨v, h1, _⟩, _⟩ := HE.out
    intro v' hv' e
    have h2 := h1.below (((Below.refl _ wr).alloc (Nat.le_refl _) _).trans (tx1.below (by simp) (Nat.le_refl _) (by simp)))
    have := h2.uniq hv'
    subst this
    have := (h1.row _ e).2
    omega
   have hc0 := isEmpty_calls x1 s
   clear tx1 sx1 HE HR
   generalize wr.heap.size = q at *
   have HU : Hid (InB encS 56 x1 q s) := hu1
   cases hse : s.empty with
   | true =>
    have HTL : Hid (tells mk s = []) := (show _ = _ by rw [tells, hse]; rfl)
    rw [hse] at hc0
    go_wp2_with (first
     | (refine load_el elS _ rfl q 0 rfl rfl s hu1.range ?_)
     | (go_at_call 161; refine hc0.mono ?_; clear hc0; rintro e w2 ⟨rfl, b2⟩))
    go_roundg gg
    case measure => omega
    case rel => exact ⟨k + 1, by omega, congrArg (Value.int .i64) HKS.out, (show EVs w p v0.ownBlock (es ++ looks mk (l.take (k + 1))) w2 by rw [HTK.out, HTL.out, List.append_nil]; exact HX.out.below b2)⟩
   | false =>
    rw [hse] at hc0
    go_upto_region 4 with (first
     | (refine load_el elS _ rfl q 0 rfl rfl s hu1.range ?_)
     | (go_at_call 161; refine hc0.mono ?_; clear hc0; rintro e w2 ⟨rfl, b2⟩))
    have HU2 : Hid (InB encS 56 w2 q s) := hu1.below b2 hu1.lt
    have hu2 := hu1.below b2 hu1.lt
    have HX2 : Hid (EVs w p v0.ownBlock (es ++ lk) w2) := HX.out.below b2
    have HV2 : Hid (∀ v, EV w2 p v (es ++ lk) → v.ownBlock ≠ some q) := by
     obtain ⟨⟨v, h1, _⟩, _⟩ := HX.out
     intro v' hv'
     have := (h1.below b2).uniq hv'
     subst this
     exact HV.out v h1
    have hc1 := EVs.told HT.out HX2.out s.F s.hF 1 (by have := HLN.out; omega)
    clear b2 HX HV HU hu1 hsz
    cases he : s.e with
    | true =>
     have HTL : Hid (tells mk s = [mk s.F s.hF 1]) := (show _ = _ by rw [tells, hse, he]; rfl)
     have hEnd : ∀ y, InB encS 56 y q s → y.cell? ⟨q, 48, none⟩ = some (.bool true) := fun y hy => by have := range_E hy.range; rw [he] at this; simpa using this
     go_wp2_with (first
      | (refine load_part _ rfl q 0 rfl rfl _ s.hF (range_F hu2.range) ?_)
      | (go_at_fn g; refine hc1.mono ?_; clear hc1; rintro e w3 ⟨rfl, h3, k3⟩; have hu3 := (k3 q s HU2.out hwr HV2.out).1; have cE := hEnd w3 hu3))
     go_roundg gg
     case measure => omega
     case rel => exact ⟨k + 1, by omega, congrArg (Value.int .i64) HKS.out, (show EVs w p v0.ownBlock (es ++ looks mk (l.take (k + 1))) w3 by rw [HTK.out, HTL.out, ← List.append_assoc]; exact h3)⟩
    | false =>
     have HTL : Hid (tells mk s = [mk s.F s.hF 1, mk s.T s.hT (-1)]) := (show _ = _ by rw [tells, hse, he]; rfl)
     have hEnd : ∀ y, InB encS 56 y q s → y.cell? ⟨q, 48, none⟩ = some (.bool false) := fun y hy => by have := range_E hy.range; rw [he] at this; simpa using this
     go_upto_region 6 with (first
      | (refine load_part _ rfl q 0 rfl rfl _ s.hF (range_F hu2.range) ?_)
      | (go_at_fn g; refine hc1.mono ?_; clear hc1; rintro e w3 ⟨rfl, h3, k3⟩; have hu3 := (k3 q s HU2.out hwr HV2.out).1; have cE := hEnd w3 hu3))
     have hc2 := EVs.told HT.out h3 s.T s.hT (-1) (by have := HLN.out; simp only [List.length_append, List.length_cons, List.length_nil] at this ⊢; omega)
     clear cE hEnd k3
     go_wp2_with (first
      | (refine load_part _ rfl q 24 rfl rfl _ s.hT (by have := range_T hu3.range; simpa using this) ?_)
      | (go_at_fn g; refine hc2.mono ?_; clear hc2; rintro e w4 ⟨rfl, h4, _⟩))
     go_roundg gg
     case measure => omega
     case rel => exact ⟨k + 1, by omega, congrArg (Value.int .i64) HKS.out, (show EVs w p v0.ownBlock (es ++ looks mk (l.take (k + 1))) w4 by rw [HTK.out, HTL.out, ← List.append_assoc]; have := h4; simp only [List.append_assoc, List.cons_append, List.nil_append] at this ⊢; exact this)⟩
end
section
open Go.RowKit
theorem ownsRow_setCells {base size n cap g : Nat} {e : TypeId} : ∀ (vs : List Value) (o : Nat) (w : World) (xs : List Value), w.ownsRow base e size (.slice (some ⟨g, 0, none⟩) n cap) n xs → o + vs.length ≤ xs.length →
    (w.setCells g o vs).ownsRow base e size (.slice (some ⟨g, 0, none⟩) n cap) n (xs.take o ++ vs ++ xs.drop (o + vs.length)) ∧ w.grownBy (w.setCells g o vs) (some g)
 | [], o, w, xs, h, _ => ⟨by rw [World.setCells]; simpa using h, ⟨rfl, rfl, rfl, Nat.le_refl _, fun _ _ _ => rfl⟩⟩
 | v :: vs, o, w, xs, h, hl => by
  obtain ⟨h1, h2⟩ := h.stored o v
  obtain ⟨h3, h4⟩ := ownsRow_setCells vs (o + 1) _ (xs.set o v) h1 (by simp at hl ⊢; omega)
  refine ⟨?_, h2.trans h4⟩
  have e := list_seg_step xs o v vs (by simpa using hl)
  rw [World.setCells]
  rw [e] at h3
  exact h3
theorem Own.of {α : Type} {k : Nat} {E : Enc α k} {ty : TypeId} {w : World} {base n : Nat} {v : Value} {l : List α} {xs : List Value} (hn : n = l.length) (hx : xs = E.flat l) (h : w.ownsRow base ty k v n xs) : Own E ty w base v l := by
 subst hn hx
 exact h
theorem Own.to {α : Type} {k : Nat} {E : Enc α k} {ty : TypeId} {w : World} {base n : Nat} {v : Value} {l : List α} (h : Own E ty w base v l) (hn : n = l.length) : w.ownsRow base ty k v n (E.flat l) := by
 subst hn
 exact h
theorem own_last {w : World} {base : Nat} {g cap : Nat} {I : List Sp} {s : Sp} (h : Own encS 56 w base (.slice (some ⟨g, 0, none⟩) (I.length + 1) cap) (I ++ [s])) (K : List UInt8) (hK : K.length = 24) :
    Own encS 56 (w.setCells g (I.length * 49 + 24) (bc K ++ [.bool false])) base (.slice (some ⟨g, 0, none⟩) (I.length + 1) cap) (I ++ [⟨s.F, K, false, s.hF, hK⟩]) ∧ w.grownBy (w.setCells g (I.length * 49 + 24) (bc K ++ [.bool false])) (some g) := by
 have hl : (I ++ [s]).length = I.length + 1 := by simp
 have hfl : (encS.flat (I ++ [s])).length = I.length * 49 + 49 := by rw [encS.flat_length, hl, Nat.add_mul, Nat.one_mul]
 have hbl : (bc K ++ [Value.bool false]).length = 25 := by rw [List.length_append, bc_length, hK]; rfl
 obtain ⟨h1, h2⟩ := ownsRow_setCells (bc K ++ [.bool false]) (I.length * 49 + 24) w _ (h.to hl.symm) (by rw [hfl, hbl]; omega)
 have hF : (bc s.F).length = 24 := by rw [bc_length, s.hF]
 have hfI : (encS.flat I).length = I.length * 49 := encS.flat_length I
 refine ⟨Own.of (by simp) ?_ h1, h2⟩
 rw [List.drop_of_length_le (by rw [hfl, hbl]; omega), List.append_nil, encS.flat_append, encS.flat_append, encS.flat_one, encS.flat_one, List.take_append, hfI, List.take_of_length_le (by omega), Nat.add_sub_cancel_left]
 have e1 : (encS.c s).take 24 = bc s.F := by
  show (sc s.F s.T s.e).take 24 = bc s.F
  rw [sc, List.append_assoc (bc s.F), List.take_append_of_le_length (by omega), List.take_of_length_le (by omega)]
 have e2 : encS.c (⟨s.F, K, false, s.hF, hK⟩ : Sp) = bc s.F ++ (bc K ++ [.bool false]) := by
  show sc s.F K false = _
  rw [sc, List.append_assoc]
 rw [e1, e2, List.append_assoc]
theorem Own.frozenAt' {α : Type} {k : Nat} {E : Enc α k} {ty : TypeId} {w : World} {base g n cap : Nat} {l : List α} (h : Own E ty w base (.slice (some ⟨g, 0, none⟩) n cap) l) (j : Nat) : w.frozen? ⟨g, j, none⟩ = false := by
 rcases h.2 with ⟨h', _⟩ | ⟨g', cap', cur, h', _, hg, _⟩
 · cases h'
 · cases h'
   simp [World.frozen?, hg]
def TurnTo (w : World) (base : Nat) (v : Value) (R : List Sp) (e : Ending) (w' : World) : Prop :=
 ∃ v', e = .returned v' ∧ Own encS 56 w' base v' R ∧ w.grownBy w' v.ownBlock ∧ Near v.ownBlock v'.ownBlock w.heap.size
theorem grown_called {w x y : World} {r : Option Nat} (b : Below w.heap.size w x) (h : x.grownBy y r) : w.grownBy y r :=
 ⟨h.os.trans b.os, h.tape.trans b.tape, h.output.trans b.output, Nat.le_trans b.size h.size, fun k hk hr => (h.block k (by have := b.size; omega) hr).trans (b.block k hk)⟩
theorem grown_self {w x : World} {r : Option Nat} (b : Below w.heap.size w x) : w.grownBy x r := ⟨b.os, b.tape, b.output, b.size, fun k hk _ => b.block k hk⟩
theorem builtOn (K : List UInt8) (hK : K.length = 24) : Tryz.prog.built 56 [(0, kv K), (2, .bool true)] = some (encS.c ⟨K, zs 24, true, hK, rfl⟩).toArray := builtE K true hK
theorem turn_on (w : World) (base : Nat) (v : Value) (S : List Sp) (h : Own encS 56 w base v S) (K : List UInt8) (hK : K.length = 24) (hb : base ≤ w.heap.size) (hl : S.length + 1 ≤ 1000000) (ho : opened S = false) :
    Calls Tryz.prog 136 #[v, kv K, .bool true] w (TurnTo w base v (S ++ [⟨K, zs 24, true, hK, rfl⟩])) := by
 have hq : Has (w.alloc (.cells (bc K).toArray 54)) w.heap.size K := Has.new w K hK
 have b1 : Below w.heap.size w (w.alloc (.cells (bc K).toArray 54)) := (Below.refl _ w).alloc (Nat.le_refl _) _
 have h1 : Own encS 56 (w.alloc (.cells (bc K).toArray 54)) base v S := h.below b1
 have HH : Hid (Own encS 56 w base v S) := h
 have H1 : Hid (Own encS 56 (w.alloc (.cells (bc K).toArray 54)) base v S) := h1
 have HB1 : Hid (Below w.heap.size w (w.alloc (.cells (bc K).toArray 54))) := b1
 have HBu : Hid (Tryz.prog.built 56 [(0, kv K), (2, .bool true)] = some (encS.c ⟨K, zs 24, true, hK, rfl⟩).toArray) := builtOn K hK
 have key : ∀ (z : Value) (y : World), Own encS 56 y base z (S ++ [⟨K, zs 24, true, hK, rfl⟩]) → w.grownBy y v.ownBlock → Near v.ownBlock z.ownBlock w.heap.size → TurnTo w base v (S ++ [⟨K, zs 24, true, hK, rfl⟩]) (.returned z) y := fun z y a b c => ⟨z, rfl, a, b, c⟩
 generalize (⟨K, zs 24, true, hK, rfl⟩ : Sp) = E at *
 rcases List.eq_nil_or_concat S with rfl | ⟨I, s, rfl⟩
 · have hv : ∃ ad cap, v = .slice ad 0 cap := by
     rcases h.2 with ⟨rfl, _⟩ | ⟨g, cap, cur, rfl, _⟩
     · exact ⟨_, _, rfl⟩
     · exact ⟨_, _, rfl⟩
   obtain ⟨ad, cap, rfl⟩ := hv
   clear h h1 b1 ho
   go_enter Tryz.func136, Tryz.ntmps136
   go_wp2_with (first
    | (refine load_key _ rfl w.heap.size rfl rfl _ hq ?_)
    | (refine build_two rfl 56 0 2 _ _ rfl _ _ rfl rfl _ HBu.out ?_)
    | (refine build_el1 rowS rfl _ rfl E rfl (by decide) ?_; intro w2 o2 b2 s2 k2; have hs2 : w2.heap.size = w.heap.size + 1 + 1 := by (rw [s2]; simp))
    | (at_builtin; refine append_one rowS rfl _ _ rfl base (.slice ad 0 cap) [] rfl (H1.out.below b2) _ E rfl (0, 0) _ k2 hl (by decide) (by omega) ?_; intro g cap' w3 o3 gr3 at3 lt3))
   go_ret
   refine key (.slice (some ⟨g, 0, none⟩) 1 cap') _ o3 (grown_called (HB1.out.trans (b2.mono (by simp))) gr3) fun k hk => ?_
   simp only [Value.ownBlock, Option.some.injEq] at hk
   subst hk
   rcases at3 with q | q
   · exact .inl q
   · exact .inr (by omega)
 · rw [List.concat_eq_append] at *
   have hlen : (I ++ [s]).length = I.length + 1 := by simp
   obtain ⟨g, cap, rfl, hcap, hmax⟩ : ∃ g cap, v = .slice (some ⟨g, 0, none⟩) (I.length + 1) cap ∧ I.length + 1 ≤ cap ∧ cap ≤ maxLen := by
    rcases h.2 with ⟨_, h0⟩ | ⟨g, cap, cur, hv, _, _, hn, hm, _⟩
    · simp at h0
    · exact ⟨g, cap, by rw [hv, hlen], by rw [hlen] at hn; exact hn, hm⟩
   have hr1 : (w.alloc (.cells (bc K).toArray 54)).rangeAt g (I.length * 49) (encS.c s) := by
    have hs := h1.slB
    obtain ⟨g', off', e1, _, hr⟩ := SlB.at hs I.length (by simp)
    cases e1
    simpa using hr
   have hse : s.e = false := by simpa [opened] using ho
   have cE := range_E hr1
   rw [hse] at cE
   have hI : ((I.length + 1 : Nat) : Int) - 1 = (I.length : Int) := by omega
   have hI1 : (I.length : Int) < ((I.length + 1 : Nat) : Int) := by omega
   have hI0 : (0 : Int) ≤ (I.length : Int) := by omega
   have HL : Hid (I.length + 1 = (I ++ [s]).length) := (show _ = _ by rw [hlen])
   rw [hlen] at hl
   clear h h1 b1 ho hr1 hse hlen
   unfold maxLen at hmax
   generalize I.length = m at *
   go_enter Tryz.func136, Tryz.ntmps136
   go_wp2_with (first
    | (refine load_key _ rfl w.heap.size rfl rfl _ hq ?_)
    | (refine build_two rfl 56 0 2 _ _ rfl _ _ rfl rfl _ HBu.out ?_)
    | (refine build_el1 rowS rfl _ rfl E rfl (by decide) ?_; intro w2 o2 b2 s2 k2; have hs2 : w2.heap.size = w.heap.size + 1 + 1 := by (rw [s2]; simp))
    | (at_builtin; refine append_one rowS rfl _ _ rfl base (.slice (some ⟨g, 0, none⟩) (m + 1) cap) (I ++ [s]) rfl (H1.out.below b2) _ E rfl (0, 0) _ k2 (by rw [← HL.out]; exact hl) (by decide) (by omega) ?_; intro g2 cap' w3 o3 gr3 at3 lt3))
   go_ret
   rw [show (I ++ [s]).length + 1 = I.length + 1 + 1 by simp] at o3
   refine key (.slice (some ⟨g2, 0, none⟩) (I.length + 1 + 1) cap') _ o3 (grown_called (HB1.out.trans (b2.mono (by simp))) gr3) fun k hk => ?_
   simp only [Value.ownBlock, Option.some.injEq] at hk
   subst hk
   rcases at3 with q | q
   · exact .inl q
   · exact .inr (by omega)
theorem turn_off (w : World) (base : Nat) (g cap : Nat) (I : List Sp) (s : Sp) (h : Own encS 56 w base (.slice (some ⟨g, 0, none⟩) (I.length + 1) cap) (I ++ [s])) (K : List UInt8) (hK : K.length = 24) (he : s.e = true) :
    Calls Tryz.prog 136 #[.slice (some ⟨g, 0, none⟩) (I.length + 1) cap, kv K, .bool false] w (TurnTo w base (.slice (some ⟨g, 0, none⟩) (I.length + 1) cap) (I ++ [⟨s.F, K, false, s.hF, hK⟩])) := by
 have hq : Has (w.alloc (.cells (bc K).toArray 54)) w.heap.size K := Has.new w K hK
 have b1 : Below w.heap.size w (w.alloc (.cells (bc K).toArray 54)) := (Below.refl _ w).alloc (Nat.le_refl _) _
 have h1 : Own encS 56 (w.alloc (.cells (bc K).toArray 54)) base (.slice (some ⟨g, 0, none⟩) (I.length + 1) cap) (I ++ [s]) := h.below b1
 have hlen : (I ++ [s]).length = I.length + 1 := by simp
 have hr1 : (w.alloc (.cells (bc K).toArray 54)).rangeAt g (I.length * 49) (encS.c s) := by
  obtain ⟨g', off', e1, _, hr⟩ := SlB.at h1.slB I.length (by simp)
  cases e1
  simpa using hr
 have hcap : I.length + 1 ≤ cap ∧ cap ≤ maxLen := by
  rcases h.2 with ⟨h0, _⟩ | ⟨g', cap', cur, hv, _, _, hn, hm, _⟩
  · cases h0
  · rw [hlen] at hv hn
    cases hv
    exact ⟨hn, hm⟩
 obtain ⟨hcap, hmax⟩ := hcap
 have cE := range_E hr1
 rw [he] at cE
 have hth : (w.alloc (.cells (bc K).toArray 54)).there g (I.length * 49 + 24) 24 := fun j hj => by
  refine ⟨?_, h1.frozenAt' _⟩
  have := hr1 (24 + j) _ (List.getElem?_eq_getElem (by rw [encS.len]; omega))
  rw [Nat.add_assoc]
  rw [this]
  rfl
 have hfr := h1.frozenAt' (I.length * 49 + 48)
 obtain ⟨w2, hw2⟩ : ∃ w2, w2 = (w.alloc (.cells (bc K).toArray 54)).setCells g (I.length * 49 + 24) (bc K) := ⟨_, rfl⟩
 have hsn := Lib.setCells_snoc_w g (.bool false) (bc K) (I.length * 49 + 24) (w.alloc (.cells (bc K).toArray 54))
 rw [bc_length, hK, show I.length * 49 + 24 + 24 = I.length * 49 + 48 by omega, ← hw2] at hsn
 have HOL : Hid (Own encS 56 (w2.setCell ⟨g, I.length * 49 + 48, none⟩ (.bool false)) base (.slice (some ⟨g, 0, none⟩) (I.length + 1) cap) (I ++ [⟨s.F, K, false, s.hF, hK⟩]) ∧ w.grownBy (w2.setCell ⟨g, I.length * 49 + 48, none⟩ (.bool false)) (some g)) := by
  obtain ⟨a1, a2⟩ := own_last h1 K hK
  rw [← hsn] at a1 a2
  exact ⟨a1, grown_called b1 a2⟩
 have c2 : w2.cell? ⟨g, I.length * 49 + 48, none⟩ = some (.bool true) := by
  rw [hw2, World.cell?_setCells_out g (bc K) _ _ _ (fun _ _ => .inr (by rw [bc_length, hK]; show _ ≤ I.length * 49 + 48; omega))]
  exact cE
 have f2 : w2.frozen? ⟨g, I.length * 49 + 48, none⟩ = false := by rw [hw2, World.frozen?_setCells]; exact hfr
 have key : ∀ (y : World), Own encS 56 y base (.slice (some ⟨g, 0, none⟩) (I.length + 1) cap) (I ++ [⟨s.F, K, false, s.hF, hK⟩]) → w.grownBy y (some g) → TurnTo w base (.slice (some ⟨g, 0, none⟩) (I.length + 1) cap) (I ++ [⟨s.F, K, false, s.hF, hK⟩]) (.returned (.slice (some ⟨g, 0, none⟩) (I.length + 1) cap)) y := fun y a b => ⟨_, rfl, a, b, Near.refl _ _⟩
 generalize I ++ [(⟨s.F, K, false, s.hF, hK⟩ : Sp)] = R at *
 have hI : ((I.length + 1 : Nat) : Int) - 1 = (I.length : Int) := by omega
 have hI1 : (I.length : Int) < ((I.length + 1 : Nat) : Int) := by omega
 have hI0 : (0 : Int) ≤ (I.length : Int) := by omega
 have HTH : Hid ((w.alloc (.cells (bc K).toArray 54)).there g (I.length * 49 + 24) (bc K).toArray.size) := by rw [bc_size, hK]; exact hth
 have HW2 : Hid ((w.alloc (.cells (bc K).toArray 54)).setCells g (I.length * 49 + 24) (bc K).toArray.toList = w2) := hw2.symm
 have HKI : Hid ((Tryz.prog.info? 54).map (·.size) = some (bc K).toArray.size) := by rw [bc_size, hK]; exact Tryz.key_info
 clear h h1 b1 hr1 hlen hsn hw2 he hth hfr
 unfold maxLen at hmax
 generalize I.length = m at *
 go_enter Tryz.func136, Tryz.ntmps136
 go_wp2_with (first
  | (refine load_key _ rfl w.heap.size rfl rfl _ hq ?_)
  | (refine wpList_store_mid rfl 54 _ _ rfl g (m * 49 + 24) (bc K).toArray rfl rfl HTH.out HKI.out (bc_all K) ?_; rw [HW2.out]))
 go_ret
 exact key _ HOL.out.1 HOL.out.2
theorem turn_same (w : World) (base : Nat) (v : Value) (S : List Sp) (h : Own encS 56 w base v S) (K : List UInt8) (hK : K.length = 24) (on : Bool) (ho : opened S = on) :
    Calls Tryz.prog 136 #[v, kv K, .bool on] w (TurnTo w base v S) := by
 have b1 : Below w.heap.size w (w.alloc (.cells (bc K).toArray 54)) := (Below.refl _ w).alloc (Nat.le_refl _) _
 have h1 : Own encS 56 (w.alloc (.cells (bc K).toArray 54)) base v S := h.below b1
 have key : TurnTo w base v S (.returned v) (w.alloc (.cells (bc K).toArray 54)) := ⟨_, rfl, h1, grown_self b1, Near.refl _ _⟩
 rcases List.eq_nil_or_concat S with rfl | ⟨I, s, rfl⟩
 · have hon : on = false := by rw [← ho]; rfl
   subst hon
   have hv : ∃ ad cap, v = .slice ad 0 cap := by
    rcases h.2 with ⟨rfl, _⟩ | ⟨g, cap, cur, rfl, _⟩
    · exact ⟨_, _, rfl⟩
    · exact ⟨_, _, rfl⟩
   obtain ⟨ad, cap, rfl⟩ := hv
   clear h h1 b1 ho
   go_enter Tryz.func136, Tryz.ntmps136
   go_wp2_with fail
   go_ret
   exact key
 · rw [List.concat_eq_append] at *
   have hlen : (I ++ [s]).length = I.length + 1 := by simp
   obtain ⟨g, cap, rfl, hcap, hmax⟩ : ∃ g cap, v = .slice (some ⟨g, 0, none⟩) (I.length + 1) cap ∧ I.length + 1 ≤ cap ∧ cap ≤ maxLen := by
    rcases h.2 with ⟨_, h0⟩ | ⟨g, cap, cur, hv, _, _, hn, hm, _⟩
    · simp at h0
    · exact ⟨g, cap, by rw [hv, hlen], by rw [hlen] at hn; exact hn, hm⟩
   have hr1 : (w.alloc (.cells (bc K).toArray 54)).rangeAt g (I.length * 49) (encS.c s) := by
    have hs := h1.slB
    obtain ⟨g', off', e1, _, hr⟩ := SlB.at hs I.length (by simp)
    cases e1
    simpa using hr
   have hse : s.e = on := by simpa [opened] using ho
   have cE := range_E hr1
   rw [hse] at cE
   have hI : ((I.length + 1 : Nat) : Int) - 1 = (I.length : Int) := by omega
   have hI1 : (I.length : Int) < ((I.length + 1 : Nat) : Int) := by omega
   have hI0 : (0 : Int) ≤ (I.length : Int) := by omega
   clear h h1 b1 ho hr1 hse hlen
   unfold maxLen at hmax
   generalize I ++ [s] = S at *
   generalize I.length = m at *
   cases on
   all_goals
    go_enter Tryz.func136, Tryz.ntmps136
    go_wp2_with fail
    go_ret
    exact key
theorem turn_calls (w : World) (base : Nat) (v : Value) (S : List Sp) (h : Own encS 56 w base v S) (K : List UInt8) (hK : K.length = 24) (on : Bool) (hb : base ≤ w.heap.size) (hl : S.length + 1 ≤ 1000000) :
    Calls Tryz.prog 136 #[v, kv K, .bool on] w (TurnTo w base v (turnP S K hK on)) := by
 by_cases e : opened S = on
 · have := turn_same w base v S h K hK on e
   rw [turnP, e]
   cases on <;> simpa using this
 · cases on with
   | true =>
    have ho : opened S = false := by simpa using e
    have := turn_on w base v S h K hK hb hl ho
    rw [turnP, ho]
    simpa using this
   | false =>
    have ho : opened S = true := by simpa using e
    have hne : S ≠ [] := fun q => by subst q; simp [opened] at ho
    obtain ⟨I, s, rfl⟩ : ∃ I s, S = I ++ [s] := ⟨S.dropLast, S.getLast hne, (List.dropLast_concat_getLast hne).symm⟩
    have hse : s.e = true := by simpa [opened] using ho
    have hlen : (I ++ [s]).length = I.length + 1 := by simp
    obtain ⟨g, cap, rfl⟩ : ∃ g cap, v = .slice (some ⟨g, 0, none⟩) (I.length + 1) cap := by
     rcases h.2 with ⟨_, h0⟩ | ⟨g, cap, cur, hv, _⟩
     · simp at h0
     · exact ⟨g, cap, by rw [hv, hlen]⟩
    have := turn_off w base g cap I s h K hK hse
    rw [turnP, ho]
    simpa using this
end
end Go.Proofs.YtdmindhjmjnagaaGreatDoor
