import Derived.Test.YtdmindhjmjnagaaGreatDoorB10
import Derived.Test.YtdmindhjmjnagaaGreatDoorB11
import Derived.Test.YtdmindhjmjnagaaGreatDoorSi
/- VwE SqS -/
namespace Go.Proofs.YtdmindhjmjnagaaGreatDoor
set_option linter.unusedVariables false
set_option maxRecDepth 1000000
set_option maxHeartbeats 32000000
section
open Go.RowKit
theorem lits_some (m : Nat) (K : List UInt8) (hK : K.length = 24) : ∃ l, Tryz.prog.keyLits (m + 2) 54 (bc K) = some l := by
 have hlen : (bc K).length = 24 := by rw [bc_length, hK]
 unfold Program.keyLits
 simp only [Tryz.underlying54]
 rw [if_pos (by rw [key_arr.size, hlen])]
 obtain ⟨bs, hbs⟩ := mapM_ok (f := fun i => Tryz.prog.keyLits (m + 1) 5 (((bc K).drop (i * Tryz.prog.cellsOf 5)).take (Tryz.prog.cellsOf 5))) (List.range 24) (fun i hi => by
  have hi' : i < K.length := by rw [hK]; simpa using hi
  have e : ((bc K).drop (i * Tryz.prog.cellsOf 5)).take (Tryz.prog.cellsOf 5) = [.int .u8 (K[i].toNat : Int)] := by
   rw [key_arr.one, Nat.mul_one, List.drop_eq_getElem_cons (by rw [bc_length]; exact hi'), List.take_succ_cons, List.take_zero]
   simp [bc]
  rw [e]
  exact ⟨[.int .u8 (K[i].toNat : Int)], by simp [Program.keyLits, Tryz.underlying5, byte_wf]⟩)
 rw [hbs]
 exact ⟨_, rfl⟩
theorem lits_inv (m : Nat) (cs : List Value) (l : List Lit) (h : Tryz.prog.keyLits (m + 2) 54 cs = some l) : ∃ K : List UInt8, K.length = 24 ∧ cs = bc K := by
 unfold Program.keyLits at h
 simp only [Tryz.underlying54] at h
 split at h
 · rename_i hsz
   rw [key_arr.size] at hsz
   cases hq : (List.range 24).mapM (fun i => Tryz.prog.keyLits (m + 1) 5 ((cs.drop (i * Tryz.prog.cellsOf 5)).take (Tryz.prog.cellsOf 5))) with
   | none => rw [hq] at h; cases h
   | some bs =>
    have each := mapM_each _ _ hq
    obtain ⟨K, hK⟩ := bytes_list cs (fun v hv => by
     obtain ⟨i, hi, rfl⟩ := List.mem_iff_getElem.1 hv
     have hi' : i < 24 := by rw [← hsz]; exact hi
     obtain ⟨b, hb⟩ := each i (by simpa using hi')
     rw [key_arr.one, Nat.mul_one, List.drop_eq_getElem_cons hi, List.take_succ_cons, List.take_zero] at hb
     generalize cs[i] = u at hb ⊢
     cases u with
     | int q n =>
      simp only [Program.keyLits, Tryz.underlying5] at hb
      split at hb
      · rename_i hw
        obtain ⟨rfl, wf⟩ := hw
        have hb2 := bounds_u8 wf
        refine ⟨UInt8.ofNat n.toNat, ?_⟩
        rw [UInt8.toNat_ofNat']
        exact congrArg (Value.int .u8) (by omega)
      · cases hb
     | _ => simp [Program.keyLits, Tryz.underlying5] at hb)
    refine ⟨K, ?_, hK⟩
    have := congrArg List.length hK
    rw [bc_length] at this
    omega
 · cases h
theorem bool_inv (m : Nat) (cs : List Value) (l : List Lit) (h : Tryz.prog.keyLits (m + 1) 4 cs = some l) : ∃ b, cs = [.bool b] := by
 unfold Program.keyLits at h
 simp only [Tryz.underlying4] at h
 split at h <;> first | exact ⟨_, rfl⟩ | simp_all
theorem span_keyed : Maps.Keyed Tryz.prog 56 := Maps.Keyed.of_law (deep_law (m := 3) (by omega) (by kernel_rfl) (by kernel_rfl) (by rw [Tryz.underlying56]))
theorem span_cells : Tryz.prog.cellsOf 56 = 49 := by kernel_rfl
theorem key_cells : Tryz.prog.cellsOf 54 = 24 := by kernel_rfl
theorem bool_cells : Tryz.prog.cellsOf 4 = 1 := by kernel_rfl
theorem types_pos3 : ∃ m, Tryz.prog.types.size = m + 3 := by
 have h : 3 ≤ Tryz.prog.types.size := of_decide_eq_true (by kernel_rfl)
 exact ⟨Tryz.prog.types.size - 3, by omega⟩
theorem span_type : Tryz.prog.keyType 56 = true := by kernel_rfl
theorem span_some (s : Sp) : ∃ l, keyOf Tryz.prog 56 (spv s) = some l := by
 obtain ⟨m, hm⟩ := types_pos3
 have hlen : (sc s.F s.T s.e).length = 49 := by simp [sc, bc_length, s.hF, s.hT]
 obtain ⟨a, ha⟩ := lits_some (m + 1) s.F s.hF
 obtain ⟨b, hb⟩ := lits_some (m + 1) s.T s.hT
 have e1 : (sc s.F s.T s.e).take 24 = bc s.F := by
  rw [sc, List.append_assoc, List.take_append_of_le_length (by rw [bc_length, s.hF]; exact Nat.le_refl _), List.take_of_length_le (by rw [bc_length, s.hF]; exact Nat.le_refl _)]
 have e2 : ((sc s.F s.T s.e).drop 24).take 24 = bc s.T := by
  rw [sc, List.append_assoc, List.drop_append_of_le_length (by rw [bc_length, s.hF]; exact Nat.le_refl _), List.drop_of_length_le (by rw [bc_length, s.hF]; exact Nat.le_refl _), List.nil_append, List.take_append_of_le_length (by rw [bc_length, s.hT]; exact Nat.le_refl _), List.take_of_length_le (by rw [bc_length, s.hT]; exact Nat.le_refl _)]
 have e3 : ((sc s.F s.T s.e).drop 48).take 1 = [.bool s.e] := by
  rw [sc, List.drop_append_of_le_length (by simp [bc_length, s.hF, s.hT]), List.drop_of_length_le (by simp [bc_length, s.hF, s.hT])]
  rfl
 unfold keyOf
 simp only [Tryz.underlying56]
 rw [if_pos (by rw [span_type]; simp [Value.formed, Tryz.underlying56, span_cells, hlen]), hm]
 unfold Program.keyLits
 simp only [Tryz.underlying56, Value.cells, List.toList_toArray]
 rw [if_pos (by rw [span_cells, hlen]; exact ⟨rfl, by kernel_rfl⟩)]
 have hc : Tryz.prog.keyLits (m + 3) 4 [.bool s.e] = some [.bool s.e] := by simp [Program.keyLits, Tryz.underlying4]
 simp only [List.mapM_cons, List.mapM_nil, List.drop_zero, key_cells, bool_cells, e1, e2, e3]
 rw [ha, hb, hc]
 exact ⟨_, rfl⟩
theorem span_inv {v : Value} {l : Lit} (h : keyOf Tryz.prog 56 v = some l) : ∃ s : Sp, v = spv s := by
 obtain ⟨m, hm⟩ := types_pos3
 unfold keyOf at h
 simp only [Tryz.underlying56] at h
 split at h
 · rename_i hf
   have hf2 : v.formed Tryz.prog 56 = true := by
    simp only [Bool.and_eq_true] at hf
    exact hf.2
   cases v with
   | agg xs =>
    have hsz : xs.size = 49 := by
     simp only [Value.formed, Tryz.underlying56, span_cells, beq_iff_eq] at hf2
     exact hf2
    rw [hm] at h
    unfold Program.keyLits at h
    simp only [Tryz.underlying56, Value.cells] at h
    rw [if_pos (by rw [span_cells]; exact ⟨by simpa using hsz, by kernel_rfl⟩)] at h
    simp only [List.mapM_cons, List.mapM_nil, List.drop_zero, key_cells, bool_cells] at h
    cases h1 : Tryz.prog.keyLits (m + 3) 54 (xs.toList.take 24) with
    | none => rw [h1] at h; cases h
    | some a =>
     rw [h1] at h
     cases h2 : Tryz.prog.keyLits (m + 3) 54 ((xs.toList.drop 24).take 24) with
     | none => rw [h2] at h; cases h
     | some b =>
      rw [h2] at h
      cases h3 : Tryz.prog.keyLits (m + 3) 4 ((xs.toList.drop 48).take 1) with
      | none => rw [h3] at h; cases h
      | some c =>
       obtain ⟨F, hF, eF⟩ := lits_inv _ _ _ h1
       obtain ⟨T, hT, eT⟩ := lits_inv _ _ _ h2
       obtain ⟨e, ee⟩ := bool_inv _ _ _ h3
       refine ⟨⟨F, T, e, hF, hT⟩, ?_⟩
       have hx : xs.toList = sc F T e := by
        have q1 : xs.toList = xs.toList.take 24 ++ ((xs.toList.drop 24).take 24 ++ (xs.toList.drop 24).drop 24) := by rw [List.take_append_drop, List.take_append_drop]
        rw [List.drop_drop] at q1
        have q2 : (xs.toList.drop 48).take 1 = xs.toList.drop 48 := List.take_of_length_le (by simp [hsz])
        rw [show 24 + 24 = 48 from rfl, ← q2, eF, eT, ee] at q1
        rw [q1, sc, List.append_assoc]
       show Value.agg xs = .agg (sc F T e).toArray
       rw [← hx]
   | _ => simp [Value.formed, Tryz.underlying56] at hf2
 · cases h
noncomputable def slit (s : Sp) : Lit := (span_some s).choose
theorem span_is (s : Sp) : keyOf Tryz.prog 56 (spv s) = some (slit s) := (span_some s).choose_spec
theorem slit_key (s : Sp) : WideAt.IsKeyLit (slit s) := span_keyed.key (span_is s)
theorem sc_inj {s u : Sp} (h : sc s.F s.T s.e = sc u.F u.T u.e) : s = u := by
 unfold sc at h
 rw [List.append_assoc, List.append_assoc] at h
 obtain ⟨h1, h2⟩ := List.append_inj h (by rw [bc_length, bc_length, s.hF, u.hF])
 obtain ⟨h3, h4⟩ := List.append_inj h2 (by rw [bc_length, bc_length, s.hT, u.hT])
 refine Sp.ext' (bc_inj h1) (bc_inj h3) ?_
 simpa using h4
theorem slit_inj {s u : Sp} (h : slit s = slit u) : s = u := by
 have e := span_keyed.inj (span_is s) (h ▸ span_is u)
 have e2 : (sc s.F s.T s.e).toArray = (sc u.F u.T u.e).toArray := by injection e
 exact sc_inj (by simpa using e2)
theorem slit_ne {s u : Sp} (h : s ≠ u) : slit s ≠ slit u := fun e => h (slit_inj e)
structure SetA (w : World) (b n : Nat) (R : List Sp) : Prop where
 data : ∃ D : DataW Value, w.ownsMap Tryz.prog 56 rawElem b n D ∧ ∀ s, Maps.has D (slit s) = true ↔ s ∈ R
variable {w : World} {b n : Nat} {R : List Sp}
theorem SetA.lt (h : SetA w b n R) : b < w.heap.size := by
 obtain ⟨D, h, _⟩ := h
 exact h.lt
theorem SetA.kept {w' : World} (h : SetA w b n R) (hb : w'.heap[b]? = w.heap[b]?) : SetA w' b n R := by
 obtain ⟨D, ⟨es, clock, h1, h2⟩, h3⟩ := h
 exact ⟨D, ⟨es, clock, hb.trans h1, h2⟩, h3⟩
theorem SetA.below {w' : World} {B : Nat} (h : SetA w b n R) (hb : Below B w w') (hB : w.heap.size ≤ B) : SetA w' b n R := h.kept (hb.block b (by have := h.lt; omega))
theorem SetA.made (w : World) (b : Nat) (hb : b = w.heap.size) : SetA (w.alloc (.map #[] 0)) b 0 [] := by
 subst hb
 exact ⟨_, World.ownsMap_made w _ _ _, fun K => ⟨(fun h => by cases h), (fun h => by cases h)⟩⟩
theorem SetA.store {t te : TypeId} (ht : Tryz.prog.underlying t = some (.map 56 te)) (h : SetA w b n R) (hn : n < maxLen) (s : Sp) (v : Value) :
    ∃ w', (Instr.mapUpdate t (.map (some b)) (spv s) v).run Tryz.prog w = .ok () w' ∧ SetA w' b (n + 1) (R ++ [s]) ∧ w.grownBy w' (some b) := by
 obtain ⟨D, ho, hf⟩ := h
 obtain ⟨w', hrun, ho', ht⟩ := ho.store (t := t) span_keyed ht hn (span_is s) (val := v) (d := .held v) (ps := []) rfl
 refine ⟨w', hrun, ⟨_, ho', fun J => ?_⟩, ht.grown⟩
 rw [List.mem_append, List.mem_singleton]
 by_cases e : J = s
 · subst e
   rw [Maps.has_put_same ho.isMap (slit_key _)]
   simp
 · rw [Maps.has_put_other (slit_ne e), hf J]
   simp [e]
section
variable {ops : Array Oper} {rest : List Oper} {o : Oper} {a : Act} {Q : Exit → Act → World → Prop}
end
structure RangeS (w : World) (b r n : Nat) (R : List Sp) (todo : Sp → Prop) (cnt : Nat) : Prop where
 data : ∃ (D : DataW Value) (left : Lit → Bool), w.ranges Tryz.prog 56 rawElem b r n D left cnt ∧ (∀ s, Maps.has D (slit s) = true ↔ s ∈ R) ∧ (∀ s, left (slit s) = true ↔ todo s) ∧ ∀ l, left l = true → ∃ s, l = slit s
 sub : ∀ s, todo s → s ∈ R
variable {r : Nat} {todo : Sp → Prop} {cnt : Nat}
theorem RangeS.left_eq (h : RangeS w b r n R todo cnt) : w.rangeLeft b r = cnt := by
 obtain ⟨⟨D, left, h1, _⟩, _⟩ := h
 exact h1.left_eq
theorem RangeS.lt (h : RangeS w b r n R todo cnt) : r < w.heap.size := by
 obtain ⟨⟨D, left, h1, _⟩, _⟩ := h
 exact h1.lt
theorem RangeS.walks {w' : World} (h : RangeS w b r n R todo cnt) (hk : KeepsWalks w w') : RangeS w' b r n R todo cnt := by
 obtain ⟨⟨D, left, h1, h2⟩, h3⟩ := h
 exact ⟨⟨D, left, h1.of_walks hk, h2⟩, h3⟩
theorem RangeS.walk (h : RangeS w b r n R todo cnt) : ∃ o : Obj, w.heap[r]? = some o ∧ o.isWalk = true := by
 obtain ⟨⟨D, left, h1, h2⟩, h3⟩ := h
 exact h1.iter_walk
theorem RangeS.kept {w' : World} {row : Option Nat} (h : RangeS w b r n R todo cnt) (hg : w.grownBy w' row) (hb : some b ≠ row) (hr : some r ≠ row) : RangeS w' b r n R todo cnt := by
 obtain ⟨⟨D, left, h1, h2⟩, h3⟩ := h
 exact ⟨⟨D, left, h1.kept hg hb hr, h2⟩, h3⟩
theorem RangeS.below {w' : World} {B : Nat} (h : RangeS w b r n R todo cnt) (hb : Below B w w') (hB : w.heap.size ≤ B) : RangeS w' b r n R todo cnt :=
 h.kept (row := none) ⟨hb.os, hb.tape, hb.output, hb.size, fun i hi _ => hb.block i (by omega)⟩ (by simp) (by simp)
theorem lit_hasS {D : DataW Value} {w : World} (ho : w.ownsMap Tryz.prog 56 rawElem b n D) {l : Lit} (h : Maps.has D l = true) : ∃ s, l = slit s := by
 obtain ⟨es, clock, hb, F, _, rfl⟩ := ho
 simp only [Maps.has, List.any_eq_true] at h
 obtain ⟨p, hp, hs⟩ := h
 have hp' := Go.mem_sorted.1 hp
 obtain ⟨x, hx, rfl⟩ := List.mem_map.1 hp'
 obtain ⟨y, hy⟩ := F.reads x hx
 rw [WideElems.rg_of hy] at hs
 have hk := WideElems.rd_key hy
 obtain ⟨s, hK⟩ := span_inv hk
 rw [hK, span_is] at hk
 rw [← Option.some.inj hk] at hs
 exact ⟨s, (WideAt.sameKey_eq hs).symm⟩
theorem RangeS.step {D : DataW Value} {left : Lit → Bool} {w' : World} {cnt' : Nat} (hf : ∀ s, Maps.has D (slit s) = true ↔ s ∈ R) (hL : ∀ s, left (slit s) = true ↔ todo s) (hS : ∀ l, left l = true → ∃ s, l = slit s) (hs : ∀ s, todo s → s ∈ R) (K : Sp)
    (h : w'.ranges Tryz.prog 56 rawElem b r n D (fun z => left z && !z.sameKey (slit K)) cnt') : RangeS w' b r n R (fun s => todo s ∧ s ≠ K) cnt' := by
 refine ⟨⟨D, _, h, hf, fun J => ?_, fun l hl => hS l (by simp only [Bool.and_eq_true] at hl; exact hl.1)⟩, fun J hJ => hs J hJ.1⟩
 show (left (slit J) && !(slit J).sameKey (slit K)) = true ↔ _
 rw [Bool.and_eq_true, hL]
 by_cases e : J = K
 · subst e
   rw [WideAt.sameKey_self (slit_key _)]
   simp
 · have h1 : (slit J).sameKey (slit K) = false := by
     cases hs : (slit J).sameKey (slit K) with
     | false => rfl
     | true => exact absurd (WideAt.sameKey_eq hs) (slit_ne e)
   rw [h1]
   simp [e]
section
variable {ops : Array Oper} {rest : List Oper} {o : Oper} {a : Act} {Q : Exit → Act → World → Prop} {F : Fence} {nf : Nat}
theorem rangeIn_s {t te : TypeId} (ht : Tryz.prog.underlying t = some (.map 56 te)) (hg : o.guard = none) (m : Operand) (hop : o.op = Op.range t m) (b n : Nat) (R : List Sp) (hm : a.eval m = .map (some b)) (h : SetA w b n R)
    (hK : ∀ w' cnt, RangeS w' b w.heap.size n R (fun s => s ∈ R) cnt → cnt ≤ n → w.grownBy w' none → w'.heap.size = w.heap.size + 1 → wpListIn F nf Tryz.prog ops Q rest (a.put o.dst (.pointer (some ⟨w.heap.size, 0, none⟩))) w') :
    wpListIn F nf Tryz.prog ops Q (o :: rest) a w := by
 obtain ⟨D, ho, hf⟩ := h
 exact wpListIn_range_own _ hg m t hop 56 te span_keyed ht rawElem b n D hm ho fun w' h1 h2 h3 => hK w' _ ⟨⟨D, _, h1, hf, hf, fun l hl => lit_hasS ho hl⟩, fun _ h => h⟩ ho.size_le h2 h3
theorem nextIn_s (hg : o.guard = none) (it : Operand) (hop : o.op = Op.next it false) (b r n : Nat) (R : List Sp) (todo : Sp → Prop) (cnt : Nat) (hit : a.eval it = .pointer (some ⟨r, 0, none⟩)) (h : RangeS w b r n R todo cnt)
    (hDone : (∀ s, ¬ todo s) → wpListIn F nf Tryz.prog ops Q rest (a.put o.dst (.tuple #[.bool false])) w)
    (hMore : ∀ (K : Sp) (c : Value) (w' : World) (cnt' : Nat), todo K → RangeS w' b r n R (fun s => todo s ∧ s ≠ K) cnt' → cnt' < cnt → w.grownBy w' (some r) → w'.heap.size = w.heap.size →
      (Instr.entry (.pointer (some ⟨r, 0, none⟩))).run Tryz.prog w' = .ok (.tuple #[spv K, c]) w' → wpListIn F nf Tryz.prog ops Q rest (a.put o.dst (.tuple #[.bool true, spv K, c])) w') :
    wpListIn F nf Tryz.prog ops Q (o :: rest) a w := by
 obtain ⟨⟨D, left, h1, hf, hL, hS⟩, hs⟩ := h
 refine wpListIn_next_ranges _ hg it hop 56 span_keyed rawElem (fun s : Sp => spv s) id (fun _ _ hk => span_inv hk) (fun v _ _ => ⟨v, rfl⟩) b r n D left cnt hit h1 ?_ ?_
 · intro _ hl
   exact hDone fun K ht => by rw [← hL, hl _] at ht; cases ht
 · intro K c kl y w' cnt' hkey hlk hv hat hrg hlt hg2 hs2 hen
   rw [span_is] at hkey
   cases hkey
   exact hMore K c w' cnt' ((hL K).1 hlk) (RangeS.step hf hL hS hs K hrg) hlt hg2 hs2 hen
end
end
section
open Go.RowKit
def spz0 : Sp := ⟨zs 24, zs 24, false, rfl, rfl⟩
section
variable {F : Fence} {n : Nat} {ops : Array Oper} {rest : List Oper} {o : Oper} {a : Act} {w : World} {Q : Exit → Act → World → Prop}
theorem loadIn_s (hg : o.guard = none) (x : Operand) (ho : o.op = .load 56 x) (b : Nat) (hx : a.eval x = .pointer (some ⟨b, 0, none⟩)) (K : Sp) (hK : InB encS 56 w b K)
    (h : wpListIn F n Tryz.prog ops Q rest (a.put o.dst (.agg (encS.c K).toArray)) w) : wpListIn F n Tryz.prog ops Q (o :: rest) a w := by
 refine wpListIn_plain hg fun K' hK' => ?_
 unfold Oper.wpIn
 refine ⟨by simp [Oper.about, ho], ?_⟩
 rw [Oper.semAt_plain F _ _ (by rw [ho]; intro c hc; cases hc)]
 unfold execOp
 simp only [ho, hx, Instr.loadAt, Instr.sureAddr, Sem.run_bind, Sem.run_pure, Result.andThen_ok, run_loadVar_row w b _ _ _ _ _ hK.blk Tryz.underlying56 rfl (by rw [encS.size]; exact elS.info)]
 exact hK' _ _ h
theorem storeIn_s (hg : o.guard = none) (x y : Operand) (ho : o.op = .store 56 x y) (b : Nat) (hx : a.eval x = .pointer (some ⟨b, 0, none⟩)) (L : Sp) (hy : a.eval y = .agg (encS.c L).toArray) (K : Sp) (hK : InB encS 56 w b K)
    (h : ∀ w', InB encS 56 w' b L → Touch b none w w' → w'.heap.size = w.heap.size → wpListIn F n Tryz.prog ops Q rest (a.put o.dst undef) w') : wpListIn F n Tryz.prog ops Q (o :: rest) a w := by
 refine wpListIn_plain hg fun K' hK' => ?_
 unfold Oper.wpIn
 refine ⟨by simp [Oper.about, ho], ?_⟩
 rw [Oper.semAt_plain F _ _ (by rw [ho]; intro c hc; cases hc)]
 unfold execOp
 simp only [ho, hx, hy, Instr.storeAt, Instr.sureAddr, Sem.run_bind, Sem.run_pure, Result.andThen_ok, run_storeVar_row w b _ 56 _ _ hK.blk (by rw [encS.size]; exact elS.info) (by rw [encS.size, encS.size]) (encS.all L)]
 exact hK' _ _ (h _ ⟨setRow_heap w b _ _ _ _ hK.blk⟩ (touch_setRow _ _ _) (by simp))
theorem buildIn_s (hg : o.guard = none) (x : Operand) (ho : o.op = .buildSlice 42 1 #[(0, x)]) (K : Sp) (hx : a.eval x = .agg (encS.c K).toArray)
    (h : wpListIn F n Tryz.prog ops Q rest (a.put o.dst (.slice (some ⟨w.heap.size, 0, none⟩) 1 1)) (w.alloc (.cells (encS.c K).toArray 56))) : wpListIn F n Tryz.prog ops Q (o :: rest) a w := by
 obtain ⟨i, z, hi, hz, hsz, hby, hzc⟩ := rowS.parts
 refine wpListIn_plain hg fun K' hK' => ?_
 unfold Oper.wpIn
 refine ⟨by simp [Oper.about, ho], ?_⟩
 rw [Oper.semAt_plain F _ _ (by rw [ho]; intro c hc; cases hc)]
 unfold execOp
 have hf : Instr.fill (fun i' => some (i' * i.size, i.size)) ((Array.range (1 * i.size)).map (z.cells[· % z.cells.size]!)) (#[(0, x)].map fun (i, x) => (i, a.eval x)).toList = some (encS.c K).toArray := by
  have := fill_els encS [K] 0 ((Array.range (1 * 49)).map (z.cells[· % z.cells.size]!)) (by simp)
  rw [hsz]
  simpa [hx, Enc.flat] using this
 simp only [ho, Sem.run_bind, run_buildSlice w 42 56 1 _ (encS.c K).toArray i z Tryz.underlying42 hi hz (by rw [hsz]; omega) (by rw [hsz]; omega) hf, Result.andThen_ok]
 exact hK' _ _ h
end
def apAssignS : Code := (Code.region 2 #[{ dst := some 5, op := Op.alloc 56, type := 0, pos := "iter.go:51", after := #[], guard := none }, { dst := none, op := Op.store 56 (Operand.tmp 5) (Operand.tmp 7), type := 0, pos := "iter.go:51", after := #[{ on := 0, ground := Ground.data }, { on := 0, ground := Ground.phase }], guard := none }] false)
def apBodyS : Code := (Code.block 1 (Code.region 3 #[{ dst := some 8, op := Op.load 42 (Operand.tmp 2), type := 42, pos := "iter.go:52", after := #[], guard := none },
 { dst := some 9, op := Op.load 56 (Operand.tmp 5), type := 56, pos := "iter.go:52", after := #[], guard := none },
 { dst := some 10, op := Op.buildSlice 42 1 #[(0, Operand.tmp 9)], type := 42, pos := "iter.go:52", after := #[{ on := 1, ground := Ground.data }], guard := none },
 { dst := some 11, op := Op.call { callee := Callee.builtin Builtin.append, args := #[Operand.tmp 8, Operand.tmp 10], argTypes := #[42, 42] }, type := 42, pos := "iter.go:52", after := #[{ on := 0, ground := Ground.data }, { on := 2, ground := Ground.data }], guard := none },
 { dst := none, op := Op.store 42 (Operand.tmp 2) (Operand.tmp 11), type := 0, pos := "iter.go:52", after := #[{ on := 3, ground := Ground.data }, { on := 3, ground := Ground.chain }, { on := 0, ground := Ground.phase }, { on := 1, ground := Ground.phase }, { on := 2, ground := Ground.phase }, { on := 3, ground := Ground.phase }], guard := none }] false))
def apRecS (fn : FuncId) (sv : Value) (Bs D : Nat) (st : LoopState) (pend : Option Code) : Loop :=
 { state := st, pending := pend, fn, tmps := #[.slice none 0 0, sv, .pointer (some ⟨Bs, 0, none⟩), undef, .slice none 0 0, undef, sv, undef, undef, undef, undef, undef, undef], params := #[7], assign := apAssignS, body := apBodyS, defers := D }
structure ApAtS (w0 : World) (fn : FuncId) (sv : Value) (Bs l D : Nat) (ss : List Sp) (W : World) : Prop where
 box : ∃ v, W.heap[Bs]? = some (.cells #[v] 42 (0, 0)) ∧ Own encS 56 W w0.heap.size v ss
 L : W.heap[l]? = some (.loop (apRecS fn sv Bs D .ready none))
 K : W.heap[D]? = some (.deferred (some []))
 below : Below w0.heap.size w0 W
theorem ap_abidesS (w0 : World) (fn : FuncId) (sv : Value) (Bs l D B : Nat) (hB : w0.heap.size ≤ B) : AbidesFrom B (ApAtS w0 fn sv Bs l D) := fun s W W' row h hg hrow => by
 have hrow' : ∀ r, row = some r → ∃ o : Obj, W.heap[r]? = some o ∧ o.isWalk = true := fun r e => (hrow r e).2
 obtain ⟨v, hv, hr⟩ := h.box
 exact ⟨⟨v, (grownBy_keeps hg hrow' hv rfl).trans hv, ownsRow_abides_a hr hg hrow'⟩, (grownBy_keeps hg hrow' h.L rfl).trans h.L, (grownBy_keeps hg hrow' h.K rfl).trans h.K,
   h.below.grown hg h.below.size (fun k e => Nat.le_trans hB (hrow k e).1)⟩
theorem ne_tyS : (42 : TypeId) ≠ 56 := by decide
theorem box_noS (v : Value) : ∀ cur, (Obj.cells #[v] 42 (0, 0)) ≠ .cells cur 56 (0, 0) := fun cur e => ne_tyS (Obj.cells.inj e).2.1
theorem loop_noS (r : Loop) : ∀ cur, (Obj.loop r) ≠ .cells cur 56 (0, 0) := fun cur e => by cases e
theorem def_noS (d : Option (List Deferred)) : ∀ cur, (Obj.deferred d) ≠ .cells cur 56 (0, 0) := fun cur e => by cases e
theorem ownKey_neS {W : World} {base : Nat} {v : Value} {ss : List Sp} (h : Own encS 56 W base v ss) {j : Nat} {o : Obj} (hj : W.heap[j]? = some o) (hno : ∀ cur, o ≠ .cells cur 56 (0, 0)) : some j ≠ v.ownBlock := by
 rcases ownsRow_ne_a h hj hno with e | e
 · rw [e]; simp
 · exact fun e' => e e'.symm
theorem apYieldS (m : Nat) (w0 : World) (fn : FuncId) (sv : Value) (Bs l D : Nat) (hBl : Bs ≠ l) (hDl : D ≠ l) (hDB : D ≠ Bs) (h0B : w0.heap.size ≤ Bs) (h0l : w0.heap.size ≤ l)
    (ss : List Sp) (x : Sp) (W : World) (h : ApAtS w0 fn sv Bs l D ss W) (hlen : ss.length < 1000000) :
    YieldAt Fence.wide m Tryz.prog l #[.agg (encS.c x).toArray] W fun e W' => e = .returned (.bool true) ∧ ApAtS w0 fn sv Bs l D (ss ++ [x]) W' ∧ KeepsWalks W W' := by
 obtain ⟨i0, z0, hi, hz0, hz1, hz2, hzc⟩ := rowS.parts
 obtain ⟨v, hv, hrow⟩ := h.box
 refine ⟨fn, #[.slice none 0 0, sv, .pointer (some ⟨Bs, 0, none⟩), undef, .slice none 0 0, undef, sv, .agg (encS.c x).toArray, undef, undef, undef, undef, undef], apAssignS, apBodyS, by simpa [apRecS] using run_yield (P := Tryz.prog) (args := #[.agg (encS.c x).toArray]) h.L rfl, roundIn_of_wpIn trivial ?_⟩
 have hBlt : Bs < W.heap.size := lt_of_block hv
 have hl : l < W.heap.size := lt_of_block h.L
 have hDlt : D < W.heap.size := lt_of_block h.K
 unfold apAssignS
 gi_wp2_with (first
  | (refine storeIn_s rfl _ _ rfl W.heap.size rfl x rfl spz0 (InB.new encS 56 W spz0 _ rfl) ?_
     intro w2 hw2 t2 s2
     have B2 : Below W.heap.size W w2 := ((Below.refl _ W).alloc (Nat.le_refl _) _).trans (t2.below (by simp) (Nat.le_refl _) (by simp))
     have hL2 := (B2.block l hl).trans h.L
     have hbr := run_beginRound (P := Tryz.prog) hL2 rfl
     obtain ⟨w3, hW3⟩ : ∃ w3, w2.putObj l (.loop { apRecS fn sv Bs D .ready none with state := .busy }) = w3 := ⟨_, rfl⟩
     rw [hW3] at hbr)
  | gi_round_op_a)
 have hs2 : W.heap.size < w2.heap.size := by rw [s2]; simp
 have hl2 : l < w2.heap.size := by omega
 have hrow2 := hrow.below B2
 have hg3 : w2.grownBy w3 (some l) := by rw [← hW3]; exact grownBy_putObj_a _ _ _
 have hw3 : InB encS 56 w3 W.heap.size x := ⟨by rw [← hW3]; exact (World.putObj_heap_other (by omega)).trans hw2.blk⟩
 have hv3 : w3.heap[Bs]? = some (.cells #[v] 42 (0, 0)) := by rw [← hW3]; exact (World.putObj_heap_other hBl).trans ((B2.block Bs hBlt).trans hv)
 have hK3 : w3.heap[D]? = some (.deferred (some [])) := by rw [← hW3]; exact (World.putObj_heap_other hDl).trans ((B2.block D hDlt).trans h.K)
 have hL3 : w3.heap[l]? = some (.loop { apRecS fn sv Bs D .ready none with state := .busy }) := by rw [← hW3]; exact World.putObj_heap_same hl2
 have hrow3 : Own encS 56 w3 w0.heap.size v ss := hrow2.kept hg3 (ownsRow_ne_a hrow2 hL2 (loop_noS _))
 have hb2 : Below w0.heap.size w0 w2 := h.below.trans (B2.mono h.below.size)
 have hb3 : Below w0.heap.size w0 w3 := hb2.grown hg3 hb2.size (fun k e => by cases e; exact h0l)
 have hk3 : KeepsWalks W w3 := (KeepsWalks.trans ⟨B2.size, fun k o ho _ => (B2.block k (lt_of_block ho)).trans ho⟩ (by rw [← hW3]; exact KeepsWalks.putObj _ hL2 rfl))
 obtain ⟨hc3, hf3⟩ := cell_of_box_a hv3
 have hBlt3 : Bs < w3.heap.size := lt_of_block hv3
 clear hv hrow hrow2 hb2 B2 t2 s2 hW3 hbr hL2 h hg3 hw2
 generalize W.heap.size = q at *
 unfold apBodyS
 gi_wp2_with (first
  | (refine loadIn_s rfl _ rfl q rfl x hw3 ?_)
  | (refine buildIn_s rfl _ rfl x rfl ?_)
  | (gi_at_builtin
     refine wpListIn_append_own _ rfl _ _ 42 rfl w0.heap.size 56 i0 z0 49 49 Tryz.underlying42 hi hz0 hz1 hz2 hzc (by decide) _ _ _ rfl (Own.below hrow3 ((Below.refl _ w3).alloc (Nat.le_refl _) _)) ⟨w3.heap.size, 0, none⟩ 1 1 (encS.c x) rfl (encS.len x) (fun j u hu => by rw [Addr.add_mid, Nat.zero_add, cell_of_row _ _ _ _ _ _ (heap_alloc_new _ _)]; simpa using hu) (encS.one x) (by unfold maxLen; omega) (by omega) (by have := hb3.size; simp; omega) ?_
     intro v' w4 hown' hg4 hnil4
     have hv4 : w4.heap[Bs]? = some (.cells #[v] 42 (0, 0)) := (hg4.block Bs (by simp; omega) (ownKey_neS hrow3 hv3 (box_noS _))).trans ((Below.heap_alloc _ _ Bs hBlt3).trans hv3)
     obtain ⟨hc4, hf4⟩ := cell_of_box_a hv4
     obtain ⟨g', cap', cur', rfl, _⟩ : ∃ g' cap' cur', v' = .slice (some ⟨g', 0, none⟩) (ss.length + 1) cap' ∧ w0.heap.size ≤ g' ∧ w4.heap[g']? = some (.cells cur' 56 (0, 0)) ∧ ss.length + 1 ≤ cap' ∧ cap' ≤ maxLen ∧ cur'.size = cap' * 49 ∧ cur'.toList.take ((ss.length + 1) * 49) = encS.flat ss ++ encS.c x := by
      rcases hown'.2 with ⟨_, h0⟩ | h'
      · exact absurd h0 (by omega)
      · exact h'
     go_frame)
  | gi_round_op_a)
 have hg4' : (w3.alloc (.cells (encS.c x).toArray 56)).grownBy w4 v.ownBlock := hg4
 have hl3 : l < w3.heap.size := lt_of_block hL3
 have hD3 : D < w3.heap.size := lt_of_block hK3
 have hL4 := (hg4'.block l (by simp; omega) (ownKey_neS hrow3 hL3 (loop_noS _))).trans ((Below.heap_alloc _ _ l hl3).trans hL3)
 have hK4 := (hg4'.block D (by simp; omega) (ownKey_neS hrow3 hK3 (def_noS _))).trans ((Below.heap_alloc _ _ D hD3).trans hK3)
 have hown4 : Own encS 56 w4 w0.heap.size (.slice (some ⟨g', 0, none⟩) (ss.length + 1) cap') (ss ++ [x]) := by
  show w4.ownsRow _ _ 49 _ (ss ++ [x]).length (encS.flat (ss ++ [x]))
  rw [List.length_append, List.length_singleton, encS.flat_append, encS.flat_one]
  exact hown'
 obtain ⟨w5, hw5⟩ : ∃ w5, w4.setCell ⟨Bs, 0, none⟩ (.slice (some ⟨g', 0, none⟩) (ss.length + 1) cap') = w5 := ⟨_, rfl⟩
 rw [hw5]
 have hg5 : w4.grownBy w5 (some Bs) := by rw [← hw5]; exact grownBy_setCell0_a _ _ _
 have hv5 : w5.heap[Bs]? = some (.cells #[.slice (some ⟨g', 0, none⟩) (ss.length + 1) cap'] 42 (0, 0)) := by rw [← hw5]; exact heap_setCell_box_a _ hv4
 have hL5 := (hg5.block l (lt_of_block hL4) (fun e => hBl (by cases e; rfl))).trans hL4
 have hK5 := (hg5.block D (lt_of_block hK4) (fun e => hDB (by cases e; rfl))).trans hK4
 have hrow5 : Own encS 56 w5 w0.heap.size (.slice (some ⟨g', 0, none⟩) (ss.length + 1) cap') (ss ++ [x]) := hown4.kept hg5 (ownsRow_ne_a hown4 hv4 (box_noS _))
 have hl5 : l < w5.heap.size := lt_of_block hL5
 have hb4 : Below w0.heap.size w0 w4 := (hb3.alloc hb3.size _).grown hg4' (by have := hb3.size; simp; omega) (fun k e => (hrow3.lt k e).1)
 have hb5 : Below w0.heap.size w0 w5 := hb4.grown hg5 hb4.size (fun k e => by cases e; exact h0B)
 have hk5 : KeepsWalks W w5 := ((hk3.trans (KeepsWalks.alloc _ _)).trans (KeepsWalks.of_grownBy hg4' (ownsRow_not_walk_a (Own.below hrow3 ((Below.refl _ w3).alloc (Nat.le_refl _) _))))).trans (by rw [← hw5]; exact KeepsWalks.setCell _ _ _)
 clear hw5
 refine ⟨_, _, run_endRound none hL5, rfl, ⟨⟨_, (World.putObj_heap_other hBl).trans hv5, ?_⟩, World.putObj_heap_same hl5, (World.putObj_heap_other hDl).trans hK5, hb5.grown (grownBy_putObj_a _ _ _) hb5.size (fun k e => by cases e; exact h0l)⟩, hk5.trans (KeepsWalks.putObj _ hL5 rfl)⟩
 exact Own.same hrow5 fun g hg => World.putObj_heap_other (fun e => by subst e; exact ownKey_neS hrow5 hL5 (loop_noS _) hg.symm)
theorem appendSeq_inS (n : Nat) (g : Nat) (lb : Array Value) (eg : ∀ args w, (callFunc g args).run Tryz.prog w = .ok (.enter g args) w)
    (S : List Sp → Prop) (N : Nat) (hN : N ≤ 1000000) (w : World) (hseq : SeqGives Fence.wide (n - 1) Tryz.prog g lb (fun K : Sp => .agg (encS.c K).toArray) S N w) (hn : 1 ≤ n) :
    CallsIn Fence.wide n Tryz.prog 95 #[.slice none 0 0, .func (.func g) #[] lb] w fun e w' => ∃ (v : Value) (ss : List Sp), e = .returned v ∧ S ss ∧ Own encS 56 w' w.heap.size v ss ∧ Below w.heap.size w w' := by
 refine callsIn_of_wp_marks Tryz.func95 rfl trivial ?_ rfl
 simp only [Tryz.ntmps95, List.size_toArray, List.length_cons, List.length_nil, Nat.reduceAdd, Nat.reduceSub, Array.replicate_succ, Array.replicate_zero, List.push_toArray, List.append_toArray, List.nil_append, List.cons_append]
 gi_wp2
 refine wpIn_rangeFunc ?_
 intro fn hfn
 rw [show Fence.wide.round = none from rfl]
 obtain ⟨W0, hW0⟩ : ∃ W0, w.alloc (.cells #[.slice none 0 0] 42) = W0 := ⟨_, rfl⟩
 have hs0 : W0.heap.size = w.heap.size + 1 := by rw [← hW0]; simp
 have hv0 : W0.heap[w.heap.size]? = some (.cells #[.slice none 0 0] 42 (0, 0)) := by rw [← hW0]; exact World.alloc_heap_new w _
 have hb0 : Below w.heap.size w W0 := by rw [← hW0]; exact (Below.refl _ w).alloc (Nat.le_refl _) _
 rw [hW0]
 obtain ⟨W1, hW1⟩ : ∃ W1, (W0.alloc (.deferred (some []))).alloc (.loop (apRecS fn (.func (.func g) #[] lb) w.heap.size W0.heap.size .ready none)) = W1 := ⟨_, rfl⟩
 have hold : ∀ k, k < W0.heap.size → W1.heap[k]? = W0.heap[k]? := fun k hk => by
  rw [← hW1]; exact (Below.heap_alloc _ _ k (by simp; omega)).trans (Below.heap_alloc _ _ k hk)
 have hb1 : Below w.heap.size w W1 := by rw [← hW1]; exact (hb0.alloc hb0.size _).alloc (by have := hb0.size; simp; omega) _
 have hs1 : W1.heap.size = W0.heap.size + 2 := by rw [← hW1]; simp
 have hM : ApAtS w fn (.func (.func g) #[] lb) w.heap.size (W0.heap.size + 1) W0.heap.size [] W1 :=
  ⟨⟨_, (hold w.heap.size (by omega)).trans hv0, Own.nil _ _ _ _⟩,
   by rw [← hW1]; have := World.alloc_heap_new (W0.alloc (.deferred (some []))) (.loop (apRecS fn (.func (.func g) #[] lb) w.heap.size W0.heap.size .ready none)); rwa [World.size_alloc] at this,
   by rw [← hW1]; exact (Below.heap_alloc _ _ _ (by simp)).trans (World.alloc_heap_new W0 _), hb1⟩
 refine ⟨W0.heap.size + 1, [{ target := .collected W0.heap.size, args := #[] }], W1, { target := .fn (.func g) lb, args := #[.func (.yield (W0.heap.size + 1)) #[] #[]] }, W1, g,
   #[.func (.yield (W0.heap.size + 1)) #[] #[]] ++ lb, W1, ?_, ?_, ?_, ?_, fun _ => hn, ?_⟩
 · rw [← hW1]; exact run_enterLoop_outer _ _ _ _ _
 · simp [resolve, go_sem]
 · intro f' hf'; trivial
 · simp [invoke, go_sem, eg]
 · refine (hseq (W0.heap.size + 1) (ApAtS w fn (.func (.func g) #[] lb) w.heap.size (W0.heap.size + 1) W0.heap.size) W1 hb1 (ap_abidesS _ _ _ _ _ _ _ hb1.size)
     (fun pre x W hJ hl => apYieldS (n - 1 - 1) w fn _ w.heap.size (W0.heap.size + 1) W0.heap.size (by omega) (by omega) (by omega) (Nat.le_refl _) (by omega) pre x W hJ (by omega)) hM).mono ?_
   rintro e W2 ⟨⟨v0, rfl⟩, ss, hS, h2⟩
   obtain ⟨v, hv, hrow⟩ := h2.box
   have hend := run_endLoop (P := Tryz.prog) h2.L (by simp [apRecS])
   obtain ⟨W3, hW3⟩ : ∃ W3, W2.putObj (W0.heap.size + 1) (.loop { apRecS fn (.func (.func g) #[] lb) w.heap.size W0.heap.size .ready none with state := .exhausted }) = W3 := ⟨_, rfl⟩
   rw [hW3] at hend
   have hg3 : W2.grownBy W3 (some (W0.heap.size + 1)) := by rw [← hW3]; exact grownBy_putObj_a _ _ _
   have hv3 : W3.heap[w.heap.size]? = some (.cells #[v] 42 (0, 0)) := by rw [← hW3]; exact (World.putObj_heap_other (by omega)).trans hv
   have hK3 : W3.heap[W0.heap.size]? = some (.deferred (some [])) := by rw [← hW3]; exact (World.putObj_heap_other (by omega)).trans h2.K
   have hrow3 : Own encS 56 W3 w.heap.size v ss := hrow.kept hg3 (ownsRow_ne_a hrow h2.L (loop_noS _))
   have hb3 : Below w.heap.size w W3 := h2.below.grown hg3 h2.below.size (fun k e => by cases e; omega)
   obtain ⟨hc3, hf3⟩ := cell_of_box_a hv3
   clear hW3
   refine ⟨none, W3, hend, ?_⟩
   gi_wp2
   rw [← hs0]
   refine ⟨by simp, .inl ⟨_, _, rfl, run_takeDeferred hK3, ?_⟩⟩
   exact ⟨_, results_tmp rfl _ _ _, v, ss, rfl, hS, hrow3.kept (grownBy_putObj_a _ _ _) (ownsRow_ne_a hrow3 hK3 (def_noS _)), hb3.grown (grownBy_putObj_a _ _ _) hb3.size (fun k e => by cases e; omega)⟩
theorem collect_inS (n : Nat) (g : Nat) (lb : Array Value) (eg : ∀ args w, (callFunc g args).run Tryz.prog w = .ok (.enter g args) w)
    (S : List Sp → Prop) (N : Nat) (hN : N ≤ 1000000) (w : World) (hseq : SeqGives Fence.wide (n - 1) Tryz.prog g lb (fun K : Sp => .agg (encS.c K).toArray) S N w) (hn : 1 ≤ n) :
    Calls Tryz.prog 51 #[.func (.func g) #[] lb] w fun e w' => ∃ (v : Value) (ss : List Sp), e = .returned v ∧ S ss ∧ Own encS 56 w' w.heap.size v ss ∧ Below w.heap.size w w' := by
 have hA := callsIn_wide.1 (appendSeq_inS n g lb eg S N hN w hseq hn)
 go_enter Tryz.func51, Tryz.ntmps51
 go_wp2_with (go_at_call 95; refine hA.mono ?_; rintro e w1 ⟨v, ss, rfl, h1, h2, h3⟩)
 go_ret
 exact ⟨v, ss, rfl, h1, h2, h3⟩
def SpsL (n : Nat) (R : List Sp) (ss : List Sp) : Prop := ss.length ≤ n ∧ ∀ s, s ∈ ss ↔ s ∈ R
structure GotS (R : List Sp) (todo : Sp → Prop) (ss : List Sp) : Prop where
 mem : ∀ s, s ∈ R ↔ s ∈ ss ∨ todo s
theorem GotS.start (R : List Sp) : GotS R (fun s => s ∈ R) [] := ⟨fun s => by simp⟩
theorem GotS.step {R : List Sp} {todo : Sp → Prop} {ss : List Sp} (h : GotS R todo ss) (K : Sp) (hK : todo K) : GotS R (fun s => todo s ∧ s ≠ K) (ss ++ [K]) := ⟨fun s => by
 rw [h.mem, List.mem_append, List.mem_singleton]
 by_cases e : s = K
 · subst e; simp [hK]
 · simp [e]⟩
theorem GotS.done {R : List Sp} {todo : Sp → Prop} {ss : List Sp} (h : GotS R todo ss) (ht : ∀ s, ¬ todo s) : ∀ s, s ∈ ss ↔ s ∈ R := fun s => by rw [h.mem]; simp [ht]
theorem keys1S_in (n : Nat) (l Bm b nn : Nat) (L : List Sp) (J : List Sp → World → Prop)
    (hY : ∀ pre (x : Sp) W, J pre W → pre.length < nn → YieldAt Fence.wide (n - 1) Tryz.prog l #[.agg (encS.c x).toArray] W fun e W' => e = .returned (.bool true) ∧ J (pre ++ [x]) W' ∧ KeepsWalks W W')
    (W : World) (hJ : AbidesFrom W.heap.size J) (hm : W.cell? ⟨Bm, 0, none⟩ = some (.map (some b))) (hown : SetA W b nn L) (h0 : J [] W) :
    CallsIn Fence.wide n Tryz.prog 96 #[.func (.yield l) #[] #[], .pointer (some ⟨Bm, 0, none⟩)] W fun e W' => (∃ v, e = .returned v) ∧ ∃ ss : List Sp, SpsL nn L ss ∧ J ss W' := by
 refine callsIn_of_wp Tryz.func96 rfl trivial ?_ rfl
 simp only [Tryz.ntmps96, List.size_toArray, List.length_cons, List.length_nil, Nat.reduceAdd, Nat.reduceSub, Array.replicate_succ, Array.replicate_zero, List.push_toArray, List.append_toArray, List.nil_append, List.cons_append]
 gi_wp2_with (first
  | (gi_at_range; refine rangeIn_s Tryz.underlying74 rfl _ rfl b nn L rfl hown ?_; intro w0 cnt0 hrg0 hc0 hg0 hs0)
  | gi_in)
 go_frame
 gi_loopw [3] (fun _ wr => ∃ (todo : Sp → Prop) (cnt : Nat) (ss : List Sp), RangeS wr b W.heap.size nn L todo cnt ∧ ss.length + cnt ≤ nn ∧ GotS L todo ss ∧ J ss wr)
   (fun _ wr => wr.rangeLeft b W.heap.size)
 case atStart =>
  exact ⟨_, cnt0, [], hrg0, by simpa using hc0, GotS.start _, hJ [] W w0 none h0 hg0 (fun r e => by cases e)⟩
 case round =>
  obtain ⟨todo, cnt, ss, hrg, hcs, hC, hJs⟩ := hrel
  have HWT : Hid (W.heap.size ≤ W.heap.size ∧ W.heap.size < wr.heap.size) := ⟨Nat.le_refl _, hrg.lt⟩
  gi_wp2_with (first
   | (gi_at_next; refine nextIn_s rfl _ rfl b W.heap.size nn L todo cnt rfl hrg ?_ ?_)
   | gi_in)
  · intro hl0
    gi_wp2
    go_end0
    exact ⟨⟨_, rfl⟩, ss, ⟨by omega, hC.done hl0⟩, hJs⟩
  · intro K x w2 cnt2 hK hrg2 hlt hg2 hs2 hen
    have hJ2 : J ss w2 := hJ ss wr w2 (some W.heap.size) hJs hg2 (fun r e => by cases e; exact ⟨Nat.le_refl _, hrg.walk⟩)
    have HR2 : Hid (RangeS w2 b W.heap.size nn L (fun s => todo s ∧ s ≠ K) cnt2) := hrg2
    have HJ2 : Hid (J ss w2) := hJ2
    clear hs2 hrg2 hJ2 hg2
    gi_wp2_with (first
     | (refine storeIn_s rfl _ _ rfl w2.heap.size rfl K rfl spz0 (InB.new encS 56 w2 spz0 _ rfl) ?_
        intro w3 hw3 t3 s3
        have B3 : Below w2.heap.size w2 w3 := ((Below.refl _ w2).alloc (Nat.le_refl _) _).trans (t3.below (by simp) (Nat.le_refl _) (by simp))
        have hJ3 : J ss w3 := hJ ss w2 w3 none HJ2.out ⟨B3.os, B3.tape, B3.output, B3.size, fun i hi _ => B3.block i hi⟩ (fun r e => by cases e)
        have hrg3 := HR2.out.below B3 (Nat.le_refl _)
        obtain ⟨fn, tmps, assign, body, hy, hR⟩ := hY ss K w3 hJ3 (by omega)
        clear B3 t3 s3 hen)
     | (refine loadIn_s rfl _ rfl w2.heap.size rfl K hw3 ?_)
     | gi_in)
    refine ⟨(fun h => by cases h), hR.mono ?_⟩
    rintro e W3 ⟨rfl, hJ4, hk4⟩
    gi_wp2
    have hrg4 := hrg3.walks hk4
    go_roundw
    case rel => exact ⟨_, cnt2, ss ++ [K], hrg4, by simp; omega, hC.step K hK, hJ4⟩
    case measure => rw [hrg4.left_eq, hrg.left_eq]; exact hlt
theorem keysS_gives (n : Nat) (Bm b nn : Nat) (L : List Sp) (w : World) (hBm : Bm < w.heap.size) (hm : w.cell? ⟨Bm, 0, none⟩ = some (.map (some b))) (hown : SetA w b nn L) :
    SeqGives Fence.wide n Tryz.prog 96 #[.pointer (some ⟨Bm, 0, none⟩)] (fun K : Sp => .agg (encS.c K).toArray) (SpsL nn L) nn w := fun l J W hW hJ hY h0 =>
 keys1S_in n l Bm b nn L J hY W hJ ((hW.cell (p := ⟨Bm, 0, none⟩) hBm).trans hm) (hown.below hW (Nat.le_refl _)) h0
theorem keysS_calls (mb : Option Nat) (w : World) :
    Calls Tryz.prog 52 #[.map mb] w fun e w' => e = .returned (.func (.func 96) #[] #[.pointer (some ⟨w.heap.size, 0, none⟩)]) ∧ w' = w.alloc (.cells #[.map mb] 74) := by
 go_enter Tryz.func52, Tryz.ntmps52
 go_wp2
 go_ret
 exact ⟨rfl, rfl⟩
end
end Go.Proofs.YtdmindhjmjnagaaGreatDoor
