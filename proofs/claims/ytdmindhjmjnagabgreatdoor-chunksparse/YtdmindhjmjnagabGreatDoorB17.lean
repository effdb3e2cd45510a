import Derived.Test.YtdmindhjmjnagabGreatDoorB15
import Derived.Test.YtdmindhjmjnagabGreatDoorB16
import Derived.Test.YtdmindhjmjnagabGreatDoorSi
import Derived.Test.YtdmindhjmjnagabGreatDoorB07
import Derived.Test.YtdmindhjmjnagabGreatDoorB08
import Derived.Lib.VarintMem
import Derived.Shelf.SlSortCmp.NoneTotal
import Derived.Shelf.SlGeneric
import Derived.Ground.SlsfProg
import Derived.Test.YtdmindhjmjnagabGreatDoorChecked
/- Maps keyed by spans: a set of spans, as view keeps what was read. -/
namespace Go.Proofs.YtdmindhjmjnagabGreatDoor
set_option linter.unusedVariables false
set_option maxRecDepth 100000
open Go.RowKit

/-! How a span is told. -/
theorem lits_some (m : Nat) (K : List UInt8) (hK : K.length = 24) : ∃ l, Tryz.prog.keyLits (m + 2) 31 (bc K) = some l := by
  have hlen : (bc K).length = 24 := by rw [bc_length, hK]
  unfold Program.keyLits
  simp only [Tryz.underlying31]
  rw [if_pos (by rw [key_arr.size, hlen])]
  obtain ⟨bs, hbs⟩ := mapM_ok (f := fun i => Tryz.prog.keyLits (m + 1) 5 (((bc K).drop (i * Tryz.prog.cellsOf 5)).take (Tryz.prog.cellsOf 5))) (List.range 24) (fun i hi => by
    have hi' : i < K.length := by rw [hK]; simpa using hi
    have e : ((bc K).drop (i * Tryz.prog.cellsOf 5)).take (Tryz.prog.cellsOf 5) = [.int .u8 (K[i].toNat : Int)] := by
      rw [key_arr.one, Nat.mul_one, List.drop_eq_getElem_cons (by rw [bc_length]; exact hi'), List.take_succ_cons, List.take_zero]
      simp [bc]
    rw [e]
    exact ⟨[.int .u8 (K[i].toNat : Int)], by simp [Program.keyLits, Tryz.underlying5, byte_wf]⟩)
  rw [hbs]
  exact ⟨_, rfl⟩
theorem lits_inv (m : Nat) (cs : List Value) (l : List Lit) (h : Tryz.prog.keyLits (m + 2) 31 cs = some l) : ∃ K : List UInt8, K.length = 24 ∧ cs = bc K := by
  unfold Program.keyLits at h
  simp only [Tryz.underlying31] at h
  split at h
  · rename_i hsz
    rw [key_arr.size] at hsz
    cases hq : (List.range 24).mapM (fun i => Tryz.prog.keyLits (m + 1) 5 ((cs.drop (i * Tryz.prog.cellsOf 5)).take (Tryz.prog.cellsOf 5))) with
    | none => rw [hq] at h; cases h
    | some bs =>
      have each := mapM_each _ _ hq
      obtain ⟨K, hK⟩ := bytes_list cs (fun v hv => by
        obtain ⟨i, hi, rfl⟩ := List.mem_iff_getElem.1 hv
        have hi' : i < 24 := by rw [← hsz]; exact hi
        obtain ⟨b, hb⟩ := each i (by simpa using hi')
        rw [key_arr.one, Nat.mul_one, List.drop_eq_getElem_cons hi, List.take_succ_cons, List.take_zero] at hb
        generalize cs[i] = u at hb ⊢
        cases u with
        | int q n =>
          simp only [Program.keyLits, Tryz.underlying5] at hb
          split at hb
          · rename_i hw
            obtain ⟨rfl, wf⟩ := hw
            have hb2 := bounds_u8 wf
            refine ⟨UInt8.ofNat n.toNat, ?_⟩
            rw [UInt8.toNat_ofNat']
            exact congrArg (Value.int .u8) (by omega)
          · cases hb
        | _ => simp [Program.keyLits, Tryz.underlying5] at hb)
      refine ⟨K, ?_, hK⟩
      have := congrArg List.length hK
      rw [bc_length] at this
      omega
  · cases h
theorem bool_inv (m : Nat) (cs : List Value) (l : List Lit) (h : Tryz.prog.keyLits (m + 1) 4 cs = some l) : ∃ b, cs = [.bool b] := by
  unfold Program.keyLits at h
  simp only [Tryz.underlying4] at h
  split at h <;> first | exact ⟨_, rfl⟩ | simp_all
theorem span_keyed : Maps.Keyed Tryz.prog 33 := Maps.Keyed.of_law (deep_law (m := 3) (by omega) (by kernel_rfl) (by kernel_rfl) (by rw [Tryz.underlying33]))
theorem span_cells : Tryz.prog.cellsOf 33 = 49 := by kernel_rfl
theorem key_cells : Tryz.prog.cellsOf 31 = 24 := by kernel_rfl
theorem bool_cells : Tryz.prog.cellsOf 4 = 1 := by kernel_rfl
theorem types_pos3 : ∃ m, Tryz.prog.types.size = m + 3 := by
  have h : 3 ≤ Tryz.prog.types.size := of_decide_eq_true (by kernel_rfl)
  exact ⟨Tryz.prog.types.size - 3, by omega⟩
theorem span_type : Tryz.prog.keyType 33 = true := by kernel_rfl
theorem span_some (s : Sp) : ∃ l, keyOf Tryz.prog 33 (spv s) = some l := by
  obtain ⟨m, hm⟩ := types_pos3
  have hlen : (sc s.F s.T s.e).length = 49 := by simp [sc, bc_length, s.hF, s.hT]
  obtain ⟨a, ha⟩ := lits_some (m + 1) s.F s.hF
  obtain ⟨b, hb⟩ := lits_some (m + 1) s.T s.hT
  have e1 : (sc s.F s.T s.e).take 24 = bc s.F := by
    rw [sc, List.append_assoc, List.take_append_of_le_length (by rw [bc_length, s.hF]; exact Nat.le_refl _), List.take_of_length_le (by rw [bc_length, s.hF]; exact Nat.le_refl _)]
  have e2 : ((sc s.F s.T s.e).drop 24).take 24 = bc s.T := by
    rw [sc, List.append_assoc, List.drop_append_of_le_length (by rw [bc_length, s.hF]; exact Nat.le_refl _), List.drop_of_length_le (by rw [bc_length, s.hF]; exact Nat.le_refl _), List.nil_append, List.take_append_of_le_length (by rw [bc_length, s.hT]; exact Nat.le_refl _), List.take_of_length_le (by rw [bc_length, s.hT]; exact Nat.le_refl _)]
  have e3 : ((sc s.F s.T s.e).drop 48).take 1 = [.bool s.e] := by
    rw [sc, List.drop_append_of_le_length (by simp [bc_length, s.hF, s.hT]), List.drop_of_length_le (by simp [bc_length, s.hF, s.hT])]
    rfl
  unfold keyOf
  simp only [Tryz.underlying33]
  rw [if_pos (by rw [span_type]; simp [Value.formed, Tryz.underlying33, span_cells, hlen]), hm]
  unfold Program.keyLits
  simp only [Tryz.underlying33, Value.cells, List.toList_toArray]
  rw [if_pos (by rw [span_cells, hlen]; exact ⟨rfl, by kernel_rfl⟩)]
  have hc : Tryz.prog.keyLits (m + 3) 4 [.bool s.e] = some [.bool s.e] := by simp [Program.keyLits, Tryz.underlying4]
  simp only [List.mapM_cons, List.mapM_nil, List.drop_zero, key_cells, bool_cells, e1, e2, e3]
  rw [ha, hb, hc]
  exact ⟨_, rfl⟩
theorem span_inv {v : Value} {l : Lit} (h : keyOf Tryz.prog 33 v = some l) : ∃ s : Sp, v = spv s := by
  obtain ⟨m, hm⟩ := types_pos3
  unfold keyOf at h
  simp only [Tryz.underlying33] at h
  split at h
  · rename_i hf
    have hf2 : v.formed Tryz.prog 33 = true := by
      simp only [Bool.and_eq_true] at hf
      exact hf.2
    cases v with
    | agg xs =>
      have hsz : xs.size = 49 := by
        simp only [Value.formed, Tryz.underlying33, span_cells, beq_iff_eq] at hf2
        exact hf2
      rw [hm] at h
      unfold Program.keyLits at h
      simp only [Tryz.underlying33, Value.cells] at h
      rw [if_pos (by rw [span_cells]; exact ⟨by simpa using hsz, by kernel_rfl⟩)] at h
      simp only [List.mapM_cons, List.mapM_nil, List.drop_zero, key_cells, bool_cells] at h
      cases h1 : Tryz.prog.keyLits (m + 3) 31 (xs.toList.take 24) with
      | none => rw [h1] at h; cases h
      | some a =>
        rw [h1] at h
        cases h2 : Tryz.prog.keyLits (m + 3) 31 ((xs.toList.drop 24).take 24) with
        | none => rw [h2] at h; cases h
        | some b =>
          rw [h2] at h
          cases h3 : Tryz.prog.keyLits (m + 3) 4 ((xs.toList.drop 48).take 1) with
          | none => rw [h3] at h; cases h
          | some c =>
            obtain ⟨F, hF, eF⟩ := lits_inv _ _ _ h1
            obtain ⟨T, hT, eT⟩ := lits_inv _ _ _ h2
            obtain ⟨e, ee⟩ := bool_inv _ _ _ h3
            refine ⟨⟨F, T, e, hF, hT⟩, ?_⟩
            have hx : xs.toList = sc F T e := by
              have q1 : xs.toList = xs.toList.take 24 ++ ((xs.toList.drop 24).take 24 ++ (xs.toList.drop 24).drop 24) := by rw [List.take_append_drop, List.take_append_drop]
              rw [List.drop_drop] at q1
              have q2 : (xs.toList.drop 48).take 1 = xs.toList.drop 48 := List.take_of_length_le (by simp [hsz])
              rw [show 24 + 24 = 48 from rfl, ← q2, eF, eT, ee] at q1
              rw [q1, sc, List.append_assoc]
            show Value.agg xs = .agg (sc F T e).toArray
            rw [← hx]
    | _ => simp [Value.formed, Tryz.underlying33] at hf2
  · cases h
noncomputable def slit (s : Sp) : Lit := (span_some s).choose
theorem span_is (s : Sp) : keyOf Tryz.prog 33 (spv s) = some (slit s) := (span_some s).choose_spec
theorem slit_key (s : Sp) : WideAt.IsKeyLit (slit s) := span_keyed.key (span_is s)
theorem sc_inj {s u : Sp} (h : sc s.F s.T s.e = sc u.F u.T u.e) : s = u := by
  unfold sc at h
  rw [List.append_assoc, List.append_assoc] at h
  obtain ⟨h1, h2⟩ := List.append_inj h (by rw [bc_length, bc_length, s.hF, u.hF])
  obtain ⟨h3, h4⟩ := List.append_inj h2 (by rw [bc_length, bc_length, s.hT, u.hT])
  refine Sp.ext' (bc_inj h1) (bc_inj h3) ?_
  simpa using h4
theorem slit_inj {s u : Sp} (h : slit s = slit u) : s = u := by
  have e := span_keyed.inj (span_is s) (h ▸ span_is u)
  have e2 : (sc s.F s.T s.e).toArray = (sc u.F u.T u.e).toArray := by injection e
  exact sc_inj (by simpa using e2)
theorem slit_ne {s u : Sp} (h : s ≠ u) : slit s ≠ slit u := fun e => h (slit_inj e)

/-! A set. -/
/-- Block b is a set of at most n spans: those of R. -/
structure SetA (w : World) (b n : Nat) (R : List Sp) : Prop where
  data : ∃ D : DataW Value, w.ownsMap Tryz.prog 33 rawElem b n D ∧ ∀ s, Maps.has D (slit s) = true ↔ s ∈ R
variable {w : World} {b n : Nat} {R : List Sp}
theorem SetA.lt (h : SetA w b n R) : b < w.heap.size := by
  obtain ⟨D, h, _⟩ := h
  exact h.lt
theorem SetA.kept {w' : World} (h : SetA w b n R) (hb : w'.heap[b]? = w.heap[b]?) : SetA w' b n R := by
  obtain ⟨D, ⟨es, clock, h1, h2⟩, h3⟩ := h
  exact ⟨D, ⟨es, clock, hb.trans h1, h2⟩, h3⟩
theorem SetA.below {w' : World} {B : Nat} (h : SetA w b n R) (hb : Below B w w') (hB : w.heap.size ≤ B) : SetA w' b n R := h.kept (hb.block b (by have := h.lt; omega))
theorem SetA.grown {w' : World} {row : Option Nat} (h : SetA w b n R) (hg : w.grownBy w' row) (hne : row ≠ some b) : SetA w' b n R := h.kept (hg.block b h.lt (fun e => hne e.symm))
theorem SetA.made (w : World) (b : Nat) (hb : b = w.heap.size) : SetA (w.alloc (.map #[] 0)) b 0 [] := by
  subst hb
  exact ⟨_, World.ownsMap_made w _ _ _, fun K => ⟨(fun h => by cases h), (fun h => by cases h)⟩⟩
theorem SetA.store {t te : TypeId} (ht : Tryz.prog.underlying t = some (.map 33 te)) (h : SetA w b n R) (hn : n < maxLen) (s : Sp) (v : Value) :
    ∃ w', (Instr.mapUpdate t (.map (some b)) (spv s) v).run Tryz.prog w = .ok () w' ∧ SetA w' b (n + 1) (R ++ [s]) ∧ w.grownBy w' (some b) := by
  obtain ⟨D, ho, hf⟩ := h
  obtain ⟨w', hrun, ho', ht⟩ := ho.store (t := t) span_keyed ht hn (span_is s) (val := v) (d := .held v) (ps := []) rfl
  refine ⟨w', hrun, ⟨_, ho', fun J => ?_⟩, ht.grown⟩
  rw [List.mem_append, List.mem_singleton]
  by_cases e : J = s
  · subst e
    rw [Maps.has_put_same ho.isMap (slit_key _)]
    simp
  · rw [Maps.has_put_other (slit_ne e), hf J]
    simp [e]
section
variable {ops : Array Oper} {rest : List Oper} {o : Oper} {a : Act} {Q : Exit → Act → World → Prop}
theorem store_s {t te : TypeId} (ht : Tryz.prog.underlying t = some (.map 33 te)) (hg : o.guard = none) (m x v : Operand) (hop : o.op = Op.mapUpdate t m x v)
    (b n : Nat) (R : List Sp) (hm : a.eval m = .map (some b)) (h : SetA w b n R) (hn : n < 1000000000) (s : Sp) (hx : a.eval x = spv s)
    (hK : ∀ w', SetA w' b (n + 1) (R ++ [s]) → w.grownBy w' (some b) → wpList Tryz.prog ops Q rest (a.put o.dst undef) w') : wpList Tryz.prog ops Q (o :: rest) a w := by
  refine wpList_plain hg fun K' hK' => ?_
  obtain ⟨w', hrun, r1, r2⟩ := h.store ht (by unfold maxLen; omega) s (a.eval v)
  unfold Oper.wp
  simp [execOp, hop, hm, hx, hrun, Result.andThen]
  exact hK' _ _ (hK w' r1 r2)
end

/-! It is ranged over. -/
/-- Under way: of the spans those of 'todo' are still to come. -/
structure RangeS (w : World) (b r n : Nat) (R : List Sp) (todo : Sp → Prop) (cnt : Nat) : Prop where
  data : ∃ (D : DataW Value) (left : Lit → Bool), w.ranges Tryz.prog 33 rawElem b r n D left cnt ∧ (∀ s, Maps.has D (slit s) = true ↔ s ∈ R) ∧ (∀ s, left (slit s) = true ↔ todo s) ∧ ∀ l, left l = true → ∃ s, l = slit s
  sub : ∀ s, todo s → s ∈ R
variable {r : Nat} {todo : Sp → Prop} {cnt : Nat}
theorem RangeS.left_eq (h : RangeS w b r n R todo cnt) : w.rangeLeft b r = cnt := by
  obtain ⟨⟨D, left, h1, _⟩, _⟩ := h
  exact h1.left_eq
theorem RangeS.lt (h : RangeS w b r n R todo cnt) : r < w.heap.size := by
  obtain ⟨⟨D, left, h1, _⟩, _⟩ := h
  exact h1.lt
theorem RangeS.walks {w' : World} (h : RangeS w b r n R todo cnt) (hk : KeepsWalks w w') : RangeS w' b r n R todo cnt := by
  obtain ⟨⟨D, left, h1, h2⟩, h3⟩ := h
  exact ⟨⟨D, left, h1.of_walks hk, h2⟩, h3⟩
theorem RangeS.walk (h : RangeS w b r n R todo cnt) : ∃ o : Obj, w.heap[r]? = some o ∧ o.isWalk = true := by
  obtain ⟨⟨D, left, h1, h2⟩, h3⟩ := h
  exact h1.iter_walk
theorem RangeS.kept {w' : World} {row : Option Nat} (h : RangeS w b r n R todo cnt) (hg : w.grownBy w' row) (hb : some b ≠ row) (hr : some r ≠ row) : RangeS w' b r n R todo cnt := by
  obtain ⟨⟨D, left, h1, h2⟩, h3⟩ := h
  exact ⟨⟨D, left, h1.kept hg hb hr, h2⟩, h3⟩
theorem RangeS.below {w' : World} {B : Nat} (h : RangeS w b r n R todo cnt) (hb : Below B w w') (hB : w.heap.size ≤ B) : RangeS w' b r n R todo cnt :=
  h.kept (row := none) ⟨hb.os, hb.tape, hb.output, hb.size, fun i hi _ => hb.block i (by omega)⟩ (by simp) (by simp)
theorem lit_hasS {D : DataW Value} {w : World} (ho : w.ownsMap Tryz.prog 33 rawElem b n D) {l : Lit} (h : Maps.has D l = true) : ∃ s, l = slit s := by
  obtain ⟨es, clock, hb, F, _, rfl⟩ := ho
  simp only [Maps.has, List.any_eq_true] at h
  obtain ⟨p, hp, hs⟩ := h
  have hp' := Go.mem_sorted.1 hp
  obtain ⟨x, hx, rfl⟩ := List.mem_map.1 hp'
  obtain ⟨y, hy⟩ := F.reads x hx
  rw [WideElems.rg_of hy] at hs
  have hk := WideElems.rd_key hy
  obtain ⟨s, hK⟩ := span_inv hk
  rw [hK, span_is] at hk
  rw [← Option.some.inj hk] at hs
  exact ⟨s, (WideAt.sameKey_eq hs).symm⟩
theorem RangeS.step {D : DataW Value} {left : Lit → Bool} {w' : World} {cnt' : Nat} (hf : ∀ s, Maps.has D (slit s) = true ↔ s ∈ R) (hL : ∀ s, left (slit s) = true ↔ todo s) (hS : ∀ l, left l = true → ∃ s, l = slit s) (hs : ∀ s, todo s → s ∈ R) (K : Sp)
    (h : w'.ranges Tryz.prog 33 rawElem b r n D (fun z => left z && !z.sameKey (slit K)) cnt') : RangeS w' b r n R (fun s => todo s ∧ s ≠ K) cnt' := by
  refine ⟨⟨D, _, h, hf, fun J => ?_, fun l hl => hS l (by simp only [Bool.and_eq_true] at hl; exact hl.1)⟩, fun J hJ => hs J hJ.1⟩
  show (left (slit J) && !(slit J).sameKey (slit K)) = true ↔ _
  rw [Bool.and_eq_true, hL]
  by_cases e : J = K
  · subst e
    rw [WideAt.sameKey_self (slit_key _)]
    simp
  · have h1 : (slit J).sameKey (slit K) = false := by
      cases hs : (slit J).sameKey (slit K) with
      | false => rfl
      | true => exact absurd (WideAt.sameKey_eq hs) (slit_ne e)
    rw [h1]
    simp [e]
section
variable {ops : Array Oper} {rest : List Oper} {o : Oper} {a : Act} {Q : Exit → Act → World → Prop} {F : Fence} {nf : Nat}
theorem rangeIn_s {t te : TypeId} (ht : Tryz.prog.underlying t = some (.map 33 te)) (hg : o.guard = none) (m : Operand) (hop : o.op = Op.range t m) (b n : Nat) (R : List Sp) (hm : a.eval m = .map (some b)) (h : SetA w b n R)
    (hK : ∀ w' cnt, RangeS w' b w.heap.size n R (fun s => s ∈ R) cnt → cnt ≤ n → w.grownBy w' none → w'.heap.size = w.heap.size + 1 → wpListIn F nf Tryz.prog ops Q rest (a.put o.dst (.pointer (some ⟨w.heap.size, 0, none⟩))) w') :
    wpListIn F nf Tryz.prog ops Q (o :: rest) a w := by
  obtain ⟨D, ho, hf⟩ := h
  exact wpListIn_range_own _ hg m t hop 33 te span_keyed ht rawElem b n D hm ho fun w' h1 h2 h3 => hK w' _ ⟨⟨D, _, h1, hf, hf, fun l hl => lit_hasS ho hl⟩, fun _ h => h⟩ ho.size_le h2 h3
theorem nextIn_s (hg : o.guard = none) (it : Operand) (hop : o.op = Op.next it false) (b r n : Nat) (R : List Sp) (todo : Sp → Prop) (cnt : Nat) (hit : a.eval it = .pointer (some ⟨r, 0, none⟩)) (h : RangeS w b r n R todo cnt)
    (hDone : (∀ s, ¬ todo s) → wpListIn F nf Tryz.prog ops Q rest (a.put o.dst (.tuple #[.bool false])) w)
    (hMore : ∀ (K : Sp) (c : Value) (w' : World) (cnt' : Nat), todo K → RangeS w' b r n R (fun s => todo s ∧ s ≠ K) cnt' → cnt' < cnt → w.grownBy w' (some r) → w'.heap.size = w.heap.size →
      (Instr.entry (.pointer (some ⟨r, 0, none⟩))).run Tryz.prog w' = .ok (.tuple #[spv K, c]) w' → wpListIn F nf Tryz.prog ops Q rest (a.put o.dst (.tuple #[.bool true, spv K, c])) w') :
    wpListIn F nf Tryz.prog ops Q (o :: rest) a w := by
  obtain ⟨⟨D, left, h1, hf, hL, hS⟩, hs⟩ := h
  refine wpListIn_next_ranges _ hg it hop 33 span_keyed rawElem (fun s : Sp => spv s) id (fun _ _ hk => span_inv hk) (fun v _ _ => ⟨v, rfl⟩) b r n D left cnt hit h1 ?_ ?_
  · intro _ hl
    exact hDone fun K ht => by rw [← hL, hl _] at ht; cases ht
  · intro K c kl y w' cnt' hkey hlk hv hat hrg hlt hg2 hs2 hen
    rw [span_is] at hkey
    cases hkey
    exact hMore K c w' cnt' ((hL K).1 hlk) (RangeS.step hf hL hS hs K hrg) hlt hg2 hs2 hen
end
end Go.Proofs.YtdmindhjmjnagabGreatDoor
/- The spans of a set, collected: maps.Keys, slices.AppendSeq, slices.Collect. -/
namespace Go.Proofs.YtdmindhjmjnagabGreatDoor
set_option linter.unusedVariables false
set_option maxRecDepth 100000
open Go.RowKit

def spz0 : Sp := ⟨zs 24, zs 24, false, rfl, rfl⟩
section
variable {F : Fence} {n : Nat} {ops : Array Oper} {rest : List Oper} {o : Oper} {a : Act} {w : World} {Q : Exit → Act → World → Prop}
theorem loadIn_s (hg : o.guard = none) (x : Operand) (ho : o.op = .load 33 x) (b : Nat) (hx : a.eval x = .pointer (some ⟨b, 0, none⟩)) (K : Sp) (hK : InB encS 33 w b K)
    (h : wpListIn F n Tryz.prog ops Q rest (a.put o.dst (.agg (encS.c K).toArray)) w) : wpListIn F n Tryz.prog ops Q (o :: rest) a w := by
  refine wpListIn_plain hg fun K' hK' => ?_
  unfold Oper.wpIn
  refine ⟨by simp [Oper.about, ho], ?_⟩
  rw [Oper.semAt_plain F _ _ (by rw [ho]; intro c hc; cases hc)]
  unfold execOp
  simp only [ho, hx, Instr.loadAt, Instr.sureAddr, Sem.run_bind, Sem.run_pure, Result.andThen_ok, run_loadVar_row w b _ _ _ _ _ hK.blk Tryz.underlying33 rfl (by rw [encS.size]; exact elS.info)]
  exact hK' _ _ h
theorem storeIn_s (hg : o.guard = none) (x y : Operand) (ho : o.op = .store 33 x y) (b : Nat) (hx : a.eval x = .pointer (some ⟨b, 0, none⟩)) (L : Sp) (hy : a.eval y = .agg (encS.c L).toArray) (K : Sp) (hK : InB encS 33 w b K)
    (h : ∀ w', InB encS 33 w' b L → Touch b none w w' → w'.heap.size = w.heap.size → wpListIn F n Tryz.prog ops Q rest (a.put o.dst undef) w') : wpListIn F n Tryz.prog ops Q (o :: rest) a w := by
  refine wpListIn_plain hg fun K' hK' => ?_
  unfold Oper.wpIn
  refine ⟨by simp [Oper.about, ho], ?_⟩
  rw [Oper.semAt_plain F _ _ (by rw [ho]; intro c hc; cases hc)]
  unfold execOp
  simp only [ho, hx, hy, Instr.storeAt, Instr.sureAddr, Sem.run_bind, Sem.run_pure, Result.andThen_ok, run_storeVar_row w b _ 33 _ _ hK.blk (by rw [encS.size]; exact elS.info) (by rw [encS.size, encS.size]) (encS.all L)]
  exact hK' _ _ (h _ ⟨setRow_heap w b _ _ _ _ hK.blk⟩ (touch_setRow _ _ _) (by simp))
end
/-! slices.AppendSeq. -/
def apAssignS : Code := (Code.region 2 #[{ dst := some 5, op := Op.alloc 33, type := 0, pos := "iter.go:51", after := #[], guard := none }, { dst := none, op := Op.store 33 (Operand.tmp 5) (Operand.tmp 7), type := 0, pos := "iter.go:51", after := #[{ on := 0, ground := Ground.data }, { on := 0, ground := Ground.phase }], guard := none }] false)
theorem loop_noS (r : Loop) : ∀ cur, (Obj.loop r) ≠ .cells cur 33 (0, 0) := fun cur e => by cases e
theorem def_noS (d : Option (List Deferred)) : ∀ cur, (Obj.deferred d) ≠ .cells cur 33 (0, 0) := fun cur e => by cases e
theorem ownKey_neS {W : World} {base : Nat} {v : Value} {ss : List Sp} (h : Own encS 33 W base v ss) {j : Nat} {o : Obj} (hj : W.heap[j]? = some o) (hno : ∀ cur, o ≠ .cells cur 33 (0, 0)) : some j ≠ v.ownBlock := by
  rcases ownsRow_ne_a h hj hno with e | e
  · rw [e]; simp
  · exact fun e' => e e'.symm
/-- Just the spans of R. -/
def SpsL (n : Nat) (R : List Sp) (ss : List Sp) : Prop := ss.length ≤ n ∧ ∀ s, s ∈ ss ↔ s ∈ R
structure GotS (R : List Sp) (todo : Sp → Prop) (ss : List Sp) : Prop where
  mem : ∀ s, s ∈ R ↔ s ∈ ss ∨ todo s
theorem GotS.start (R : List Sp) : GotS R (fun s => s ∈ R) [] := ⟨fun s => by simp⟩
theorem GotS.step {R : List Sp} {todo : Sp → Prop} {ss : List Sp} (h : GotS R todo ss) (K : Sp) (hK : todo K) : GotS R (fun s => todo s ∧ s ≠ K) (ss ++ [K]) := ⟨fun s => by
  rw [h.mem, List.mem_append, List.mem_singleton]
  by_cases e : s = K
  · subst e; simp [hK]
  · simp [e]⟩
theorem GotS.done {R : List Sp} {todo : Sp → Prop} {ss : List Sp} (h : GotS R todo ss) (ht : ∀ s, ¬ todo s) : ∀ s, s ∈ ss ↔ s ∈ R := fun s => by rw [h.mem]; simp [ht]
end Go.Proofs.YtdmindhjmjnagabGreatDoor
/- bytes.Compare of keys that lie anywhere; when it is nought. -/
namespace Go.Proofs.YtdmindhjmjnagabGreatDoor
set_option linter.unusedVariables false
set_option maxRecDepth 100000
open Go.RowKit

/-! bytes.Compare. -/
theorem run_bytesOf_at (w : World) (b : Nat) (K : List UInt8) (hK : K.length = 24) (h : w.rangeAt b 0 (bc K)) (cap : Nat) : (Extern.Bytes.bytesOf (.slice (some ⟨b, 0, none⟩) 24 cap)).run Tryz.prog w = .ok (str K) w := by
  have hl := Lib.run_loadBytesX (P := Tryz.prog) w (K.map fun b => (b.toNat : Int)) ⟨b, 0, none⟩ .empty (fun j x hj => by
    have e : (⟨b, 0, none⟩ : Addr).add j = ⟨b, j, none⟩ := by unfold Addr.add; split <;> simp_all
    rw [e]
    have := h j (.int .u8 x) (by
      simp only [bc, List.getElem?_map, Option.map_eq_some_iff] at hj ⊢
      obtain ⟨a, ha, rfl⟩ := hj
      exact ⟨a, ha, rfl⟩)
    simpa using this)
  rw [List.length_map, hK, bytes_num] at hl
  have e : (⟨ByteArray.empty.data ++ K.toArray⟩ : ByteArray) = str K := by
    apply ByteArray.ext
    show (#[] : Array UInt8) ++ K.toArray = K.toArray
    simp
  rw [e] at hl
  exact hl
theorem run_compare_at (w : World) (b c : Nat) (K L : List UInt8) (hK : K.length = 24) (hL : L.length = 24) (h : w.rangeAt b 0 (bc K)) (h' : w.rangeAt c 0 (bc L)) (cap cap' : Nat) :
    (Extern.BytealgCompare.compare #[.slice (some ⟨b, 0, none⟩) 24 cap, .slice (some ⟨c, 0, none⟩) 24 cap']).run Tryz.prog w = .ok (.int .i64 (Lib.compareBytes K L)) w := by
  change Sem.run Tryz.prog (do pure (goInt (Extern.BytealgCompare.cmp (← Extern.Bytes.bytesOf (.slice (some ⟨b, 0, none⟩) 24 cap)) (← Extern.Bytes.bytesOf (.slice (some ⟨c, 0, none⟩) 24 cap'))))) w = _
  simp only [Sem.run_bind, run_bytesOf_at w b K hK h, run_bytesOf_at w c L hL h', Result.andThen_ok, Sem.run_pure]
  rw [Lib.cmp_eq, str_list, str_list]
  rfl
set_option maxRecDepth 100000 in
set_option maxHeartbeats 1000000 in
theorem compareAt_calls (w : World) (b c : Nat) (K L : List UInt8) (hK : K.length = 24) (hL : L.length = 24) (h : w.rangeAt b 0 (bc K)) (h' : w.rangeAt c 0 (bc L)) (cap cap' : Nat) :
    Calls Tryz.prog 70 #[.slice (some ⟨b, 0, none⟩) 24 cap, .slice (some ⟨c, 0, none⟩) 24 cap'] w fun e w' => e = .returned (.int .i64 (Lib.compareBytes K L)) ∧ w' = w := by
  have H := run_compare_at w b c K L hK hL h h' cap cap'
  clear h h'
  go_enter Tryz.func70, Tryz.ntmps70
  go_wp2
  rw [run_callFunc_extern Tryz.func93 (by kernel_rfl) (by kernel_rfl) (by kernel_rfl) (e := Extern.BytealgCompare.compare) (by kernel_rfl), H]
  simp only [Result.andThen]
  rw [Oper.upon_value]
  go_wp2
  go_ret
  exact ⟨rfl, rfl⟩
theorem compare_zero : ∀ (K L : List UInt8), Lib.compareBytes K L = 0 ↔ K = L
  | [], [] => by simp [Lib.compareBytes]
  | [], _ :: _ => by simp [Lib.compareBytes]
  | _ :: _, [] => by simp [Lib.compareBytes]
  | a :: xs, b :: ys => by
    have ih := compare_zero xs ys
    rw [Lib.compareBytes]
    by_cases h1 : a < b
    · have : ¬ a = b := fun e => by subst e; simp at h1
      simp [h1, this]
    · by_cases h2 : b < a
      · have : ¬ a = b := fun e => by subst e; exact h1 h2
        simp [h1, h2, this]
      · have : a = b := by
          apply UInt8.toNat_inj.1
          simp only [UInt8.lt_iff_toNat_lt] at h1 h2
          omega
        subst this
        simp [ih]
end Go.Proofs.YtdmindhjmjnagabGreatDoor
/- A row of elements of k cells as the library's sort holds it. -/
namespace Go.Proofs.YtdmindhjmjnagabGreatDoor
set_option linter.unusedVariables false
set_option maxRecDepth 100000
open Go.RowKit Go.Sort

theorem Own.frozenAt9 {α : Type} {k : Nat} {E : Enc α k} {ty : TypeId} {w : World} {base g n cap : Nat} {l : List α} (h : Own E ty w base (.slice (some ⟨g, 0, none⟩) n cap) l) (j : Nat) : w.frozen? ⟨g, j, none⟩ = false := by
  rcases h.2 with ⟨h', _⟩ | ⟨g', cap', cur, h', _, hg, _⟩
  · cases h'
  · cases h'
    simp [World.frozen?, hg]
section
variable {α : Type} [Inhabited α] {k : Nat} (E : Enc α k)
theorem flatK_eq9 (d : Array α) : flatK E.c k d = (E.flat d.toList).toArray := by
  refine ext_get! (by simp [E.flat_length]) fun t ht => ?_
  have ht' : t < d.size * k := by simpa using ht
  have k0 : 0 < k := by
    rcases Nat.eq_zero_or_pos k with h | h
    · subst h; simp at ht'
    · exact h
  have hd : t / k < d.toList.length := by
    rw [Array.length_toList]
    exact Nat.div_lt_of_lt_mul (by rwa [Nat.mul_comm] at ht')
  have hm : t % k < (E.c d.toList[t / k]).length := by rw [E.len]; exact Nat.mod_lt _ k0
  have h1 := E.flat_get d.toList (t / k) (t % k) hd _ (List.getElem?_eq_getElem hm)
  rw [show t / k * k + t % k = t by rw [Nat.mul_comm]; exact Nat.div_add_mod t k] at h1
  rw [get_flatK _ _ _ t ht']
  have h2 : d[t / k]! = d.toList[t / k] := by
    have : t / k < d.size := by simpa using hd
    rw [getElem!_pos d _ this]; rfl
  rw [h2]
  have h3 : (E.c d.toList[t / k])[t % k]! = (E.c d.toList[t / k])[t % k] := getElem!_pos (E.c d.toList[t / k]) (t % k) hm
  rw [h3]
  have h4 := List.getElem?_eq_some_iff.1 h1
  obtain ⟨h5, h6⟩ := h4
  rw [getElem!_pos (E.flat d.toList).toArray t (by simpa using h5)]
  simpa using h6.symm
theorem holds_own9 {ty : TypeId} {w : World} {base g cap : Nat} {l : List α} (h : Own E ty w base (.slice (some ⟨g, 0, none⟩) l.length cap) l) : HoldsK E.c k w g 0 l.toArray := by
  intro j hj
  rw [flatK_eq9] at hj ⊢
  have hj' : j < (E.flat l).length := by simpa using hj
  have h1 := h.cells (g := g) rfl j _ (List.getElem?_eq_getElem hj')
  rw [Addr.add_mid] at h1
  refine ⟨?_, by simpa using h.frozenAt9 (0 + j)⟩
  rw [h1, getElem!_pos (E.flat l).toArray j (by simpa using hj')]
  simp
theorem take_put9 (cur : Array Value) (F : List Value) (h : F.length ≤ cur.size) : (putCells id 0 F.toArray cur).toList.take F.length = F := by
  apply List.ext_getElem?
  intro j
  by_cases hj : j < F.length
  · rw [List.getElem?_take_of_lt hj, Array.getElem?_toList]
    simp [putCells, hj, show j < cur.size by omega]
  · rw [List.getElem?_take_eq_none (by omega), List.getElem?_eq_none (by omega)]
theorem own_sorted9 {ty : TypeId} {w : World} {base g cap n : Nat} {l : List α} {os : Array Obj} (h : Own E ty w base (.slice (some ⟨g, 0, none⟩) l.length cap) l) (d : Array α) (hd : d.size = l.length) :
    Own E ty (sortWorldK E.c k w g 0 n d os) base (.slice (some ⟨g, 0, none⟩) l.length cap) d.toList ∧ w.grownBy (sortWorldK E.c k w g 0 n d os) (some g) := by
  rcases h.2 with ⟨h0, _⟩ | ⟨g', cap', cur, hv, h2, h3, h4, h5, h6, h7⟩
  · cases h0
  · cases hv
    have hg : g < w.heap.size := lt_of_block h3
    have hlen : (E.flat d.toList).length = l.length * k := by rw [E.flat_length, Array.length_toList, hd]
    have hb : (sortWorldK E.c k w g 0 n d os).heap[g]? = some (.cells (putCells id 0 (E.flat d.toList).toArray cur) ty (0, 0)) := by
      unfold sortWorldK putRowK
      rw [flatK_eq9, heap_grow_old _ _ (by simpa using hg)]
      simp [putRow, mapBlock, Array.getElem?_modify, h3, onCells]
    refine ⟨⟨by rw [E.flat_length], .inr ⟨g, cap, _, by rw [show d.toList.length = l.length by simpa using hd], h2, hb, by rw [Array.length_toList, hd]; exact h4, h5, by simp [putCells, h6], ?_⟩⟩, ?_⟩
    · rw [Array.length_toList, hd, ← hlen]
      refine take_put9 cur _ ?_
      rw [hlen, h6]
      exact Nat.mul_le_mul_right k h4
    · unfold sortWorldK putRowK
      refine ⟨rfl, rfl, rfl, by simp, fun j hj hne => ?_⟩
      rw [heap_grow_old _ _ (by simpa using hj)]
      have : g ≠ j := fun e => hne (by rw [e])
      simp [putRow, mapBlock, Array.getElem?_modify, this]
end
end Go.Proofs.YtdmindhjmjnagabGreatDoor
/- The library's contracts that package delta leans on, laid at this program: each body is held against the one that the contract was proved of. -/
namespace Go.Proofs.YtdmindhjmjnagabGreatDoor
open Go.Shelf
def Tryz.sortK_ren : Go.Shelf.Ren := ⟨fun | 6 => 86 | 15 => 104 | 14 => 103 | 28 => 118 | 29 => 119 | 20 => 110 | 21 => 111 | 22 => 112 | 23 => 113 | 24 => 114 | 25 => 115 | 26 => 116 | 27 => 117 | 46 => 125 | 47 => 126 | 48 => 127 | 49 => 128 | 50 => 129 | 57 => 131 | n => n, fun | 22 => 112 | 24 => 31 | 25 => 117 | 3 => 3 | 39 => 154 | 0 => 0 | 53 => 179 | 55 => 181 | 4 => 4 | 46 => 173 | 45 => 172 | 50 => 125 | 5 => 5 | 9 => 9 | 66 => 189 | 70 => 193 | 76 => 199 | 77 => 200 | n => n, fun | n => n⟩
theorem Tryz.sortK : Go.Proofs.SlLaysF0.n6 Tryz.prog Tryz.sortK_ren := {
  mixed := by kernel_rfl
  f6 := ⟨Tryz.f86.name, by decide, Tryz.func86.trans (congrArg some (by kernel_rfl))⟩
  f14 := ⟨Tryz.f103.name, by decide, Tryz.func103.trans (congrArg some (by kernel_rfl))⟩
  f15 := Tryz.func104.trans (congrArg some (by kernel_rfl))
  f20 := ⟨Tryz.f110.name, by decide, Tryz.func110.trans (congrArg some (by kernel_rfl))⟩
  f21 := ⟨Tryz.f111.name, by decide, Tryz.func111.trans (congrArg some (by kernel_rfl))⟩
  f22 := ⟨Tryz.f112.name, by decide, Tryz.func112.trans (congrArg some (by kernel_rfl))⟩
  f23 := ⟨Tryz.f113.name, by decide, Tryz.func113.trans (congrArg some (by kernel_rfl))⟩
  f24 := ⟨Tryz.f114.name, by decide, Tryz.func114.trans (congrArg some (by kernel_rfl))⟩
  f25 := ⟨Tryz.f115.name, by decide, Tryz.func115.trans (congrArg some (by kernel_rfl))⟩
  f26 := ⟨Tryz.f116.name, by decide, Tryz.func116.trans (congrArg some (by kernel_rfl))⟩
  f27 := ⟨Tryz.f117.name, by decide, Tryz.func117.trans (congrArg some (by kernel_rfl))⟩
  f28 := Tryz.func118.trans (congrArg some (by kernel_rfl))
  f29 := Tryz.func119.trans (congrArg some (by kernel_rfl))
  f46 := ⟨Tryz.f125.name, by decide, Tryz.func125.trans (congrArg some (by kernel_rfl))⟩
  f47 := Tryz.func126.trans (congrArg some (by kernel_rfl))
  f48 := Tryz.func127.trans (congrArg some (by kernel_rfl))
  f49 := ⟨Tryz.f128.name, by decide, Tryz.func128.trans (congrArg some (by kernel_rfl))⟩
  f50 := ⟨Tryz.f129.name, by decide, Tryz.func129.trans (congrArg some (by kernel_rfl))⟩
  f57 := ⟨Tryz.f131.name, by decide, Tryz.func131.trans (congrArg some (by kernel_rfl))⟩
  t0 := Tryz.underlying0
  a0 := Tryz.isAgg0
  z0 := Tryz.sizeOf0
  v0 := Tryz.zeroValue0
  t3 := Tryz.underlying3
  a3 := Tryz.isAgg3
  z3 := Tryz.sizeOf3
  v3 := Tryz.zeroValue3
  t4 := Tryz.underlying4
  a4 := Tryz.isAgg4
  z4 := Tryz.sizeOf4
  v4 := Tryz.zeroValue4
  t5 := Tryz.underlying5
  a5 := Tryz.isAgg5
  z5 := Tryz.sizeOf5
  v5 := Tryz.zeroValue5
  t9 := Tryz.underlying9
  a9 := Tryz.isAgg9
  z9 := Tryz.sizeOf9
  v9 := Tryz.zeroValue9
  t22 := Tryz.underlying112
  a22 := Tryz.isAgg112
  z22 := Tryz.sizeOf112
  v22 := Tryz.zeroValue112
  t25 := Tryz.underlying117
  a25 := Tryz.isAgg117
  z25 := Tryz.sizeOf117
  v25 := Tryz.zeroValue117
  t39 := Tryz.underlying154
  a39 := Tryz.isAgg154
  z39 := Tryz.sizeOf154
  v39 := Tryz.zeroValue154
  t45 := Tryz.underlying172
  a45 := Tryz.isAgg172
  z45 := Tryz.sizeOf172
  v45 := Tryz.zeroValue172
  t46 := Tryz.underlying173
  a46 := Tryz.isAgg173
  z46 := Tryz.sizeOf173
  v46 := Tryz.zeroValue173
  t50 := Tryz.underlying125
  a50 := Tryz.isAgg125
  z50 := Tryz.sizeOf125
  v50 := Tryz.zeroValue125
  t53 := Tryz.underlying179
  a53 := Tryz.isAgg179
  z53 := Tryz.sizeOf179
  v53 := Tryz.zeroValue179
  t55 := Tryz.underlying181
  a55 := Tryz.isAgg181
  z55 := Tryz.sizeOf181
  v55 := Tryz.zeroValue181
  t66 := Tryz.underlying189
  a66 := Tryz.isAgg189
  z66 := Tryz.sizeOf189
  v66 := Tryz.zeroValue189
  t70 := Tryz.underlying193
  a70 := Tryz.isAgg193
  z70 := Tryz.sizeOf193
  v70 := Tryz.zeroValue193
  t76 := Tryz.underlying199
  a76 := Tryz.isAgg199
  z76 := Tryz.sizeOf199
  v76 := Tryz.zeroValue199
  t77 := Tryz.underlying200
  a77 := Tryz.isAgg200
  z77 := Tryz.sizeOf200
  v77 := Tryz.zeroValue200 }
end Go.Proofs.YtdmindhjmjnagabGreatDoor
