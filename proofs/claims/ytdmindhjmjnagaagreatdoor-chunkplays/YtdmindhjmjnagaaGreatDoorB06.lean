import Derived.Test.YtdmindhjmjnagaaGreatDoorB04
import Derived.Test.YtdmindhjmjnagaaGreatDoorB05
import Derived.Maps.OwnSet
import Derived.Maps.RangeWalk
import Derived.WideKeyArr
import Derived.Sort.MapsRangeIn
import Derived.RangeFuncSeq
import Derived.Test.YtdmindhjmjnagaaGreatDoorB01
import Derived.Deep.RegionHeld
import Derived.Test.YtdmindhjmjnagaaGreatDoorSi
import Derived.Test.YtdmindhjmjnagaaGreatDoorChecked
import Derived.Defers
import Derived.Recover
/- KvA RgZ DvA Ca14 -/
namespace Go.Proofs.YtdmindhjmjnagaaGreatDoor
set_option linter.unusedVariables false
set_option maxRecDepth 1000000
set_option maxHeartbeats 32000000
section
open Go.RowKit
theorem mapM_ok {α β : Type} {f : α → Option β} : ∀ (l : List α), (∀ a ∈ l, ∃ b, f a = some b) → ∃ bs, l.mapM f = some bs
 | [], _ => ⟨[], rfl⟩
 | a :: l, h => by
  obtain ⟨b, hb⟩ := h a (by simp)
  obtain ⟨bs, hbs⟩ := mapM_ok l fun c hc => h c (by simp [hc])
  exact ⟨b :: bs, by rw [List.mapM_cons, hb, hbs]; rfl⟩
theorem mapM_each {α β : Type} {f : α → Option β} : ∀ (l : List α) (bs : List β), l.mapM f = some bs → ∀ a ∈ l, ∃ b, f a = some b
 | [], _, _ => by simp
 | a :: l, bs, h => by
  rw [List.mapM_cons] at h
  cases ha : f a with
  | none => rw [ha] at h; cases h
  | some b =>
   rw [ha] at h
   cases hl : l.mapM f with
   | none => rw [hl] at h; cases h
   | some bs' =>
    intro c hc
    rcases List.mem_cons.1 hc with rfl | hc
    · exact ⟨b, ha⟩
    · exact mapM_each l bs' hl c hc
theorem key_arr : WideMaps.ArrKey Tryz.prog 54 5 24 := ⟨Tryz.underlying54, by kernel_rfl, by kernel_rfl, by kernel_rfl⟩
theorem keyed_key : Maps.Keyed Tryz.prog 54 := Maps.Keyed.of_law key_arr.law
theorem types_pos : ∃ m, Tryz.prog.types.size = m + 1 := by
 have h : 0 < Tryz.prog.types.size := of_decide_eq_true (by kernel_rfl)
 exact ⟨Tryz.prog.types.size - 1, by omega⟩
theorem byte_wf (b : UInt8) : (Lit.int .u8 (b.toNat : Int)).wf = true := by
 have := b.toNat_lt
 have e1 : IntKind.u8.min = 0 := by rfl
 have e2 : IntKind.u8.max = 255 := by rfl
 simp [Lit.wf, e1, e2]
 omega
theorem key_some (K : Kz) : ∃ l, keyOf Tryz.prog 54 (kv K.k) = some l := by
 have hkt := key_arr.keyType types_pos
 obtain ⟨m, hm⟩ := types_pos
 have hlen : (bc K.k).length = 24 := by rw [bc_length, K.h]
 unfold keyOf
 simp only [Tryz.underlying54]
 rw [if_pos (by rw [hkt]; simp [Value.formed, Tryz.underlying54, key_arr.size, hlen]), hm]
 unfold Program.keyLits
 simp only [Tryz.underlying54, Value.cells, List.toList_toArray]
 rw [if_pos (by rw [key_arr.size, hlen])]
 obtain ⟨bs, hbs⟩ := mapM_ok (f := fun i => Tryz.prog.keyLits (m + 1) 5 (((bc K.k).drop (i * Tryz.prog.cellsOf 5)).take (Tryz.prog.cellsOf 5))) (List.range 24) (fun i hi => by
  have hi' : i < K.k.length := by rw [K.h]; simpa using hi
  have e : ((bc K.k).drop (i * Tryz.prog.cellsOf 5)).take (Tryz.prog.cellsOf 5) = [.int .u8 (K.k[i].toNat : Int)] := by
   rw [key_arr.one, Nat.mul_one, List.drop_eq_getElem_cons (by rw [bc_length]; exact hi'), List.take_succ_cons, List.take_zero]
   simp [bc]
  rw [e]
  exact ⟨[.int .u8 (K.k[i].toNat : Int)], by simp [Program.keyLits, Tryz.underlying5, byte_wf]⟩)
 rw [hbs]
 exact ⟨_, rfl⟩
noncomputable def klit (K : Kz) : Lit := (key_some K).choose
theorem key_is (K : Kz) : keyOf Tryz.prog 54 (kv K.k) = some (klit K) := (key_some K).choose_spec
theorem klit_key (K : Kz) : WideAt.IsKeyLit (klit K) := keyed_key.key (key_is K)
theorem bc_inj {K L : List UInt8} (h : bc K = bc L) : K = L := by
 unfold bc at h
 refine List.map_inj_right (fun a b hab => ?_) |>.1 h
 have : (a.toNat : Int) = (b.toNat : Int) := by injection hab
 exact UInt8.toNat_inj.1 (by omega)
theorem klit_inj {K L : Kz} (h : klit K = klit L) : K = L := by
 have e := keyed_key.inj (key_is K) (h ▸ key_is L)
 have e2 : bc K.k = bc L.k := by
  have : (bc K.k).toArray = (bc L.k).toArray := by injection e
  simpa using this
 obtain ⟨k, hk⟩ := K
 obtain ⟨l, hl⟩ := L
 have : k = l := bc_inj e2
 subst this
 rfl
theorem klit_ne {K L : Kz} (h : K ≠ L) : klit K ≠ klit L := fun e => h (klit_inj e)
theorem key_inv {v : Value} {l : Lit} (h : keyOf Tryz.prog 54 v = some l) : ∃ K : Kz, v = kv K.k := by
 obtain ⟨m, hm⟩ := types_pos
 unfold keyOf at h
 simp only [Tryz.underlying54] at h
 split at h
 · rename_i hf
   have hf2 : v.formed Tryz.prog 54 = true := by
    simp only [Bool.and_eq_true] at hf
    exact hf.2
   cases v with
   | agg xs =>
    have hsz : xs.size = 24 := by
     simp only [Value.formed, Tryz.underlying54, key_arr.size, beq_iff_eq] at hf2
     exact hf2
    rw [hm] at h
    unfold Program.keyLits at h
    simp only [Tryz.underlying54, Value.cells] at h
    rw [if_pos (by rw [key_arr.size]; simpa using hsz)] at h
    cases hq : (List.range 24).mapM (fun i => Tryz.prog.keyLits (m + 1) 5 ((xs.toList.drop (i * Tryz.prog.cellsOf 5)).take (Tryz.prog.cellsOf 5))) with
    | none => rw [hq] at h; cases h
    | some bs =>
     have each := mapM_each _ _ hq
     obtain ⟨K, hK⟩ := bytes_list xs.toList (fun v hv => by
      obtain ⟨i, hi, rfl⟩ := List.mem_iff_getElem.1 hv
      have hi' : i < 24 := by rw [← hsz]; simpa using hi
      obtain ⟨b, hb⟩ := each i (by simpa using hi')
      rw [key_arr.one, Nat.mul_one, List.drop_eq_getElem_cons hi, List.take_succ_cons, List.take_zero] at hb
      generalize xs.toList[i] = u at hb ⊢
      cases u with
      | int q n =>
       simp only [Program.keyLits, Tryz.underlying5] at hb
       split at hb
       · rename_i hw
         obtain ⟨rfl, wf⟩ := hw
         have hb2 := bounds_u8 wf
         refine ⟨UInt8.ofNat n.toNat, ?_⟩
         rw [UInt8.toNat_ofNat']
         exact congrArg (Value.int .u8) (by omega)
       · cases hb
      | _ => simp [Program.keyLits, Tryz.underlying5] at hb)
     refine ⟨⟨K, ?_⟩, ?_⟩
     · have := congrArg List.length hK
       rw [bc_length] at this
       rw [← this]
       simpa using hsz
     · show Value.agg xs = kv K
       unfold kv
       rw [← hK]
   | _ => simp [Value.formed, Tryz.underlying54] at hf2
 · cases h
def rawElem (v : Value) : Option (DataW Value × List MemPlace) := some (.held v, [])
theorem held_inj {v x : Value} (h : (DataW.held v : DataW Value) = .held x) : v = x := by cases h; rfl
section
variable {α : Type} {k : Nat}
def Tells (E : Enc α k) (key : α → Int) (L : List α) (D : DataW Value) : Prop :=
 ∀ K : Kz, Maps.has D (klit K) = (look key L K.n).isSome ∧ ∀ x, look key L K.n = some x → ∀ z, D.atKey (klit K) z = .held (.agg (E.c x).toArray)
structure MapA (E : Enc α k) (key : α → Int) (w : World) (b n : Nat) (L : List α) : Prop where
 data : ∃ D : DataW Value, w.ownsMap Tryz.prog 54 rawElem b n D ∧ Tells E key L D
 asc : Asc key L
variable {E : Enc α k} {key : α → Int} {w : World} {b n : Nat} {L : List α}
theorem MapA.lt (h : MapA E key w b n L) : b < w.heap.size := by
 obtain ⟨⟨D, h, _⟩, _⟩ := h
 exact h.lt
theorem MapA.kept {w' : World} (h : MapA E key w b n L) (hb : w'.heap[b]? = w.heap[b]?) : MapA E key w' b n L := by
 obtain ⟨⟨D, ⟨es, clock, h1, h2⟩, h3⟩, h4⟩ := h
 exact ⟨⟨D, ⟨es, clock, hb.trans h1, h2⟩, h3⟩, h4⟩
theorem MapA.below {w' : World} {B : Nat} (h : MapA E key w b n L) (hb : Below B w w') (hB : w.heap.size ≤ B) : MapA E key w' b n L := h.kept (hb.block b (by have := h.lt; omega))
theorem MapA.alloc (h : MapA E key w b n L) (o : Obj) : MapA E key (w.alloc o) b n L := h.kept (Below.heap_alloc _ _ _ h.lt)
theorem MapA.mono {n' : Nat} (h : MapA E key w b n L) (hn : n ≤ n') : MapA E key w b n' L := by
 obtain ⟨⟨D, h1, h3⟩, h4⟩ := h
 exact ⟨⟨D, h1.mono hn, h3⟩, h4⟩
theorem MapA.made (E : Enc α k) (key : α → Int) (w : World) (b : Nat) (hb : b = w.heap.size) : MapA E key (w.alloc (.map #[] 0)) b 0 [] := by
 subst hb
 exact ⟨⟨_, World.ownsMap_made w _ _ _, fun K => ⟨rfl, fun x h => by cases h⟩⟩, List.Pairwise.nil⟩
structure MapTy (E : Enc α k) (t te : TypeId) (z : α) : Prop where
 under : Tryz.prog.underlying t = some (.map 54 te)
 zero : ∀ w, (zeroValue te).run Tryz.prog w = .ok (.agg (E.c z).toArray) w
variable {t te : TypeId} {z : α}
theorem MapA.atK {D : DataW Value} (hf : Tells E key L D) (z : α) (K : Kz) {v : Value} (hv : (DataW.held v : DataW Value) = D.atKey (klit K) (.held (.agg (E.c z).toArray))) : v = .agg (E.c ((look key L K.n).getD z)).toArray := by
 cases hfk : look key L K.n with
 | none =>
  have h1 : Maps.has D (klit K) = false := by rw [(hf K).1, hfk]; rfl
  rw [Maps.atKey_of_not_has h1] at hv
  exact held_inj hv
 | some x =>
  rw [(hf K).2 x hfk] at hv
  exact held_inj hv
theorem MapA.look2 (h : MapA E key w b n L) (T : MapTy E t te z) (K : Kz) :
    (Instr.lookup t (.map (some b)) (kv K.k) true).run Tryz.prog w = .ok (.tuple #[.agg (E.c ((look key L K.n).getD z)).toArray, .bool (look key L K.n).isSome]) w := by
 obtain ⟨⟨D, ho, hf⟩, _⟩ := h
 obtain ⟨v, ps, hrun, hv⟩ := ho.look_ok (t := t) keyed_key T.under (T.zero w) (zd := .held (.agg (E.c z).toArray)) (zp := []) rfl (key_is K)
 unfold rawElem at hv
 simp only [Option.some.injEq, Prod.mk.injEq] at hv
 rw [hrun, (hf K).1, MapA.atK hf z K hv.1]
theorem MapA.look1 (h : MapA E key w b n L) (T : MapTy E t te z) (K : Kz) :
    (Instr.lookup t (.map (some b)) (kv K.k) false).run Tryz.prog w = .ok (.agg (E.c ((look key L K.n).getD z)).toArray) w := by
 obtain ⟨⟨D, ho, hf⟩, _⟩ := h
 obtain ⟨v, ps, hrun, hv⟩ := ho.lookup (t := t) keyed_key T.under (T.zero w) (zd := .held (.agg (E.c z).toArray)) (zp := []) rfl (key_is K)
 unfold rawElem at hv
 simp only [Option.some.injEq, Prod.mk.injEq] at hv
 rw [hrun, MapA.atK hf z K hv.1]
theorem kz_ne {K J : Kz} (h : J ≠ K) : J.n ≠ K.n := fun e => h (Kz.same e)
theorem MapA.store (h : MapA E key w b n L) (T : MapTy E t te z) (hn : n < maxLen) (K : Kz) (x : α) (hx : key x = K.n) :
    ∃ w', (Instr.mapUpdate t (.map (some b)) (kv K.k) (.agg (E.c x).toArray)).run Tryz.prog w = .ok () w' ∧ MapA E key w' b (n + 1) (putA key L x) ∧ w.grownBy w' (some b) := by
 obtain ⟨⟨D, ho, hf⟩, ha⟩ := h
 obtain ⟨w', hrun, ho', ht⟩ := ho.store (t := t) keyed_key T.under hn (key_is K) (val := .agg (E.c x).toArray) (d := .held (.agg (E.c x).toArray)) (ps := []) rfl
 refine ⟨w', hrun, ⟨⟨_, ho', fun J => ?_⟩, putA_asc key x ha⟩, ht.grown⟩
 rw [putA_look key x J.n ha, hx]
 by_cases e : J = K
 · subst e
   rw [Maps.has_put_same ho.isMap (klit_key _), if_pos rfl]
   refine ⟨rfl, fun y hy z => ?_⟩
   cases hy
   exact Maps.atKey_put_same ho.isMap (klit_key _) _ z
 · rw [Maps.has_put_other (klit_ne e), if_neg (fun q => kz_ne e q.symm)]
   refine ⟨(hf J).1, fun y hy z => ?_⟩
   rw [Maps.atKey_put_other (klit_ne e)]
   exact (hf J).2 y hy z
theorem MapA.drop (h : MapA E key w b n L) (T : MapTy E t te z) (K : Kz) (ty : TypeId) :
    ∃ w', (Builtin.delete_ #[t, 54] ty #[.map (some b), kv K.k]).run Tryz.prog w = .ok (.tuple #[]) w' ∧ MapA E key w' b n (delA key L K.n) ∧ w.grownBy w' (some b) := by
 obtain ⟨⟨D, ho, hf⟩, ha⟩ := h
 obtain ⟨w', hrun, ho', ht⟩ := ho.drop (t := t) keyed_key T.under (key_is K) ty
 refine ⟨w', hrun, ⟨⟨_, ho', fun J => ?_⟩, delA_asc key _ ha⟩, ht.grown⟩
 rw [delA_look key K.n J.n ha]
 by_cases e : J = K
 · subst e
   rw [Maps.has_del_same, if_pos rfl]
   exact ⟨rfl, fun x hx => by cases hx⟩
 · rw [Maps.has_del_other (klit_ne e), if_neg (fun q => kz_ne e q.symm)]
   refine ⟨(hf J).1, fun x hx z => ?_⟩
   rw [Maps.atKey_del_other (klit_ne e)]
   exact (hf J).2 x hx z
section
variable {ops : Array Oper} {rest : List Oper} {o : Oper} {a : Act} {Q : Exit → Act → World → Prop}
theorem store_a (T : MapTy E t te z) (hg : o.guard = none) (m x v : Operand) (hop : o.op = Op.mapUpdate t m x v)
    (b n : Nat) (L : List α) (hm : a.eval m = .map (some b)) (h : MapA E key w b n L) (hn : n < 1000000000) (K : Kz) (hx : a.eval x = kv K.k) (y : α) (hv : a.eval v = .agg (E.c y).toArray) (hy : key y = K.n)
    (hK : ∀ w', MapA E key w' b (n + 1) (putA key L y) → w.grownBy w' (some b) → wpList Tryz.prog ops Q rest (a.put o.dst undef) w') : wpList Tryz.prog ops Q (o :: rest) a w := by
 refine wpList_plain hg fun K' hK' => ?_
 obtain ⟨w', hrun, r1, r2⟩ := h.store T (by unfold maxLen; omega) K y hy
 unfold Oper.wp
 simp [execOp, hop, hm, hx, hv, hrun, Result.andThen]
 exact hK' _ _ (hK w' r1 r2)
theorem drop_a (T : MapTy E t te z) (hg : o.guard = none) (m x : Operand) (hop : o.op = Op.call { callee := Callee.builtin Builtin.delete, args := #[m, x], argTypes := #[t, 54] })
    (b n : Nat) (L : List α) (hm : a.eval m = .map (some b)) (h : MapA E key w b n L) (K : Kz) (hx : a.eval x = kv K.k)
    (hK : ∀ w', MapA E key w' b n (delA key L K.n) → w.grownBy w' (some b) → wpList Tryz.prog ops Q rest (a.put o.dst (.tuple #[])) w') : wpList Tryz.prog ops Q (o :: rest) a w := by
 refine wpList_plain hg fun K' hK' => ?_
 obtain ⟨w', hrun, r1, r2⟩ := h.drop T K o.type
 unfold Oper.wp
 simp [execOp, hop, resolve, invoke, builtin, hm, hx, hrun, Result.andThen]
 exact hK' _ _ (hK w' r1 r2)
end
structure RangeA (E : Enc α k) (key : α → Int) (w : World) (b r n : Nat) (L : List α) (todo : Kz → Bool) (cnt : Nat) : Prop where
 data : ∃ (D : DataW Value) (left : Lit → Bool), w.ranges Tryz.prog 54 rawElem b r n D left cnt ∧ Tells E key L D ∧ (∀ K, left (klit K) = todo K) ∧ ∀ l, left l = true → ∃ K, l = klit K
 sub : ∀ K, todo K = true → (look key L K.n).isSome = true
 asc : Asc key L
variable {r : Nat} {todo : Kz → Bool} {cnt : Nat}
theorem RangeA.left_eq (h : RangeA E key w b r n L todo cnt) : w.rangeLeft b r = cnt := by
 obtain ⟨⟨D, left, h1, _⟩, _⟩ := h
 exact h1.left_eq
theorem RangeA.lt (h : RangeA E key w b r n L todo cnt) : r < w.heap.size := by
 obtain ⟨⟨D, left, h1, _⟩, _⟩ := h
 exact h1.lt
theorem RangeA.map (h : RangeA E key w b r n L todo cnt) : MapA E key w b n L := by
 obtain ⟨⟨D, left, h1, h2, _⟩, _, h4⟩ := h
 exact ⟨⟨D, h1.owns, h2⟩, h4⟩
theorem RangeA.kept {w' : World} {row : Option Nat} (h : RangeA E key w b r n L todo cnt) (hg : w.grownBy w' row) (hb : some b ≠ row) (hr : some r ≠ row) : RangeA E key w' b r n L todo cnt := by
 obtain ⟨⟨D, left, h1, h2⟩, h3, h4⟩ := h
 exact ⟨⟨D, left, h1.kept hg hb hr, h2⟩, h3, h4⟩
theorem RangeA.below {w' : World} {B : Nat} (h : RangeA E key w b r n L todo cnt) (hb : Below B w w') (hB : w.heap.size ≤ B) : RangeA E key w' b r n L todo cnt :=
 h.kept (row := none) ⟨hb.os, hb.tape, hb.output, hb.size, fun i hi _ => hb.block i (by omega)⟩ (by simp) (by simp)
def without (todo : Kz → Bool) (K : Kz) : Kz → Bool := fun J => todo J && decide (J.n ≠ K.n)
theorem lit_has {D : DataW Value} {w : World} (ho : w.ownsMap Tryz.prog 54 rawElem b n D) {l : Lit} (h : Maps.has D l = true) : ∃ K, l = klit K := by
 obtain ⟨es, clock, hb, F, _, rfl⟩ := ho
 simp only [Maps.has, List.any_eq_true] at h
 obtain ⟨p, hp, hs⟩ := h
 have hp' := Go.mem_sorted.1 hp
 obtain ⟨x, hx, rfl⟩ := List.mem_map.1 hp'
 obtain ⟨y, hy⟩ := F.reads x hx
 rw [WideElems.rg_of hy] at hs
 have hk := WideElems.rd_key hy
 obtain ⟨K, hK⟩ := key_inv hk
 rw [hK, key_is] at hk
 rw [← Option.some.inj hk] at hs
 exact ⟨K, (WideAt.sameKey_eq hs).symm⟩
theorem RangeA.start {D : DataW Value} {w w' : World} (ho : w.ownsMap Tryz.prog 54 rawElem b n D) (hf : Tells E key L D) (ha : Asc key L) (h : w'.ranges Tryz.prog 54 rawElem b r n D (Maps.has D) (Maps.size D)) :
    RangeA E key w' b r n L (fun K => (look key L K.n).isSome) (Maps.size D) :=
 ⟨⟨D, _, h, hf, fun K => (hf K).1, fun l hl => lit_has ho hl⟩, fun _ h => h, ha⟩
theorem RangeA.step {D : DataW Value} {left : Lit → Bool} {w' : World} {cnt' : Nat} (hf : Tells E key L D) (hL : ∀ K, left (klit K) = todo K) (hS : ∀ l, left l = true → ∃ K, l = klit K) (hs : ∀ K, todo K = true → (look key L K.n).isSome = true) (ha : Asc key L) (K : Kz)
    (h : w'.ranges Tryz.prog 54 rawElem b r n D (fun z => left z && !z.sameKey (klit K)) cnt') : RangeA E key w' b r n L (without todo K) cnt' := by
 refine ⟨⟨D, _, h, hf, fun J => ?_, fun l hl => hS l (by simp only [Bool.and_eq_true] at hl; exact hl.1)⟩, fun J hJ => hs J (by unfold without at hJ; simp only [Bool.and_eq_true] at hJ; exact hJ.1), ha⟩
 unfold without
 show (left (klit J) && !(klit J).sameKey (klit K)) = _
 rw [hL]
 by_cases e : J = K
 · subst e
   rw [WideAt.sameKey_self (klit_key _)]
   simp
 · have h1 : (klit J).sameKey (klit K) = false := by
     cases hs : (klit J).sameKey (klit K) with
     | false => rfl
     | true => exact absurd (WideAt.sameKey_eq hs) (klit_ne e)
   rw [h1, decide_eq_true (kz_ne e)]
   rfl
section
variable {ops : Array Oper} {rest : List Oper} {o : Oper} {a : Act} {Q : Exit → Act → World → Prop}
theorem range_a (T : MapTy E t te z) (hg : o.guard = none) (m : Operand) (hop : o.op = Op.range t m) (b n : Nat) (L : List α) (hm : a.eval m = .map (some b)) (h : MapA E key w b n L)
    (hK : ∀ w' cnt, RangeA E key w' b w.heap.size n L (fun K => (look key L K.n).isSome) cnt → cnt ≤ n → w.grownBy w' none → w'.heap.size = w.heap.size + 1 → wpList Tryz.prog ops Q rest (a.put o.dst (.pointer (some ⟨w.heap.size, 0, none⟩))) w') :
    wpList Tryz.prog ops Q (o :: rest) a w := by
 obtain ⟨⟨D, ho, hf⟩, ha⟩ := h
 exact wpList_range_own _ hg m t hop 54 te keyed_key T.under rawElem b n D hm ho fun w' h1 h2 h3 => hK w' _ (RangeA.start ho hf ha h1) ho.size_le h2 h3
theorem next_a (hg : o.guard = none) (it : Operand) (hop : o.op = Op.next it false) (b r n : Nat) (L : List α) (todo : Kz → Bool) (cnt : Nat) (hit : a.eval it = .pointer (some ⟨r, 0, none⟩)) (h : RangeA E key w b r n L todo cnt)
    (hDone : (∀ K, todo K = false) → wpList Tryz.prog ops Q rest (a.put o.dst (.tuple #[.bool false])) w)
    (hMore : ∀ (K : Kz) (x : α) (w' : World) (cnt' : Nat), todo K = true → look key L K.n = some x → RangeA E key w' b r n L (without todo K) cnt' → cnt' < cnt → w.grownBy w' (some r) → w'.heap.size = w.heap.size →
      (Instr.entry (.pointer (some ⟨r, 0, none⟩))).run Tryz.prog w' = .ok (.tuple #[kv K.k, .agg (E.c x).toArray]) w' → wpList Tryz.prog ops Q rest (a.put o.dst (.tuple #[.bool true, kv K.k, .agg (E.c x).toArray])) w') :
    wpList Tryz.prog ops Q (o :: rest) a w := by
 obtain ⟨⟨D, left, h1, hf, hL, hS⟩, hs, ha⟩ := h
 refine wpList_next_ranges _ hg it hop 54 keyed_key rawElem (fun K : Kz => kv K.k) id (fun _ _ hk => key_inv hk) (fun v _ _ => ⟨v, rfl⟩) b r n D left cnt hit h1 ?_ ?_
 · intro _ hl
   exact hDone fun K => by rw [← hL]; exact hl _
 · intro K c kl y w' cnt' hkey hlk hv hat hrg hlt hg2 hs2 hen
   rw [key_is] at hkey
   cases hkey
   have ht : todo K = true := by rw [← hL]; exact hlk
   obtain ⟨x, hx⟩ := Option.isSome_iff_exists.1 (hs K ht)
   have hc : c = .agg (E.c x).toArray := by
    have := hat .nil
    rw [(hf K).2 x hx] at this
    unfold rawElem at hv
    simp only [Option.some.injEq, id] at hv
    rw [← hv] at this
    exact (held_inj this).symm
   subst hc
   exact hMore K x w' cnt' ht hx (RangeA.step hf hL hS hs ha K hrg) hlt hg2 hs2 hen
variable {F : Fence} {nf : Nat}
theorem rangeIn_a (T : MapTy E t te z) (hg : o.guard = none) (m : Operand) (hop : o.op = Op.range t m) (b n : Nat) (L : List α) (hm : a.eval m = .map (some b)) (h : MapA E key w b n L)
    (hK : ∀ w' cnt, RangeA E key w' b w.heap.size n L (fun K => (look key L K.n).isSome) cnt → cnt ≤ n → w.grownBy w' none → w'.heap.size = w.heap.size + 1 → wpListIn F nf Tryz.prog ops Q rest (a.put o.dst (.pointer (some ⟨w.heap.size, 0, none⟩))) w') :
    wpListIn F nf Tryz.prog ops Q (o :: rest) a w := by
 obtain ⟨⟨D, ho, hf⟩, ha⟩ := h
 exact wpListIn_range_own _ hg m t hop 54 te keyed_key T.under rawElem b n D hm ho fun w' h1 h2 h3 => hK w' _ (RangeA.start ho hf ha h1) ho.size_le h2 h3
theorem nextIn_a (hg : o.guard = none) (it : Operand) (hop : o.op = Op.next it false) (b r n : Nat) (L : List α) (todo : Kz → Bool) (cnt : Nat) (hit : a.eval it = .pointer (some ⟨r, 0, none⟩)) (h : RangeA E key w b r n L todo cnt)
    (hDone : (∀ K, todo K = false) → wpListIn F nf Tryz.prog ops Q rest (a.put o.dst (.tuple #[.bool false])) w)
    (hMore : ∀ (K : Kz) (x : α) (w' : World) (cnt' : Nat), todo K = true → look key L K.n = some x → RangeA E key w' b r n L (without todo K) cnt' → cnt' < cnt → w.grownBy w' (some r) → w'.heap.size = w.heap.size →
      (Instr.entry (.pointer (some ⟨r, 0, none⟩))).run Tryz.prog w' = .ok (.tuple #[kv K.k, .agg (E.c x).toArray]) w' → wpListIn F nf Tryz.prog ops Q rest (a.put o.dst (.tuple #[.bool true, kv K.k, .agg (E.c x).toArray])) w') :
    wpListIn F nf Tryz.prog ops Q (o :: rest) a w := by
 obtain ⟨⟨D, left, h1, hf, hL, hS⟩, hs, ha⟩ := h
 refine wpListIn_next_ranges _ hg it hop 54 keyed_key rawElem (fun K : Kz => kv K.k) id (fun _ _ hk => key_inv hk) (fun v _ _ => ⟨v, rfl⟩) b r n D left cnt hit h1 ?_ ?_
 · intro _ hl
   exact hDone fun K => by rw [← hL]; exact hl _
 · intro K c kl y w' cnt' hkey hlk hv hat hrg hlt hg2 hs2 hen
   rw [key_is] at hkey
   cases hkey
   have ht : todo K = true := by rw [← hL]; exact hlk
   obtain ⟨x, hx⟩ := Option.isSome_iff_exists.1 (hs K ht)
   have hc : c = .agg (E.c x).toArray := by
    have := hat .nil
    rw [(hf K).2 x hx] at this
    unfold rawElem at hv
    simp only [Option.some.injEq, id] at hv
    rw [← hv] at this
    exact (held_inj this).symm
   subst hc
   exact hMore K x w' cnt' ht hx (RangeA.step hf hL hS hs ha K hrg) hlt hg2 hs2 hen
end
end
end
section
open Go
section
variable {P : Program} {ops : Array Oper} {Q : Exit → Act → World → Prop} {md : Region.Mode} {S : World → Prop} {z : Nat}
def wpAnyZ (P : Program) (md : Region.Mode) (ops : Array Oper) (Q : Exit → Act → World → Prop) (S : World → Prop) (z : Nat) : Nat → Array Bool → Act → World → Prop
 | 0, listed, a, w => Region.ready md ops listed = [] ∧ Q .normal a w
 | fuel + 1, listed, a, w =>
  (Region.ready md ops listed = [] → Q .normal a w) ∧
  ∀ i ∈ Region.ready md ops listed, wpOp P ops Q i (fun a' w' => ((listed.setIfInBounds i true).getD z false = false → S w') ∧ wpAnyZ P md ops Q S z fuel (listed.setIfInBounds i true) a' w') a w
theorem wpAny_of_Z : ∀ (fuel : Nat) (listed : Array Bool) (a : Act) (w : World), wpAnyZ P md ops Q S z fuel listed a w → wpAny P md ops Q fuel listed a w
 | 0, _, _, _, h => h
 | fuel + 1, _, _, _, h => ⟨fun e => h.1 e, fun i hi => wpOp_mono (fun a' w' h' => wpAny_of_Z fuel _ a' w' h'.2) (h.2 i hi)⟩
def waits (md : Region.Mode) (ops : Array Oper) (listed : Array Bool) (i z : Nat) (D : List Nat) : Bool :=
 D.contains z && !D.contains i && D.all fun d => !listed.getD d false && match ops[d]? with
  | none => false
  | some o => o.after.any fun e => Region.binds md e && (e.on == i || D.contains e.on)
structure Waits (md : Region.Mode) (ops : Array Oper) (listed : Array Bool) (i z : Nat) (D : List Nat) : Prop where
 hz : z ∈ D
 hi : i ∉ D
 un : ∀ d ∈ D, listed.getD d false = false
 on : ∀ d ∈ D, ∀ o, ops[d]? = some o → ∃ e ∈ o.after, Region.binds md e = true ∧ (e.on = i ∨ e.on ∈ D)
theorem waits_spec {listed : Array Bool} {i : Nat} {D : List Nat} (h : waits md ops listed i z D = true) : Waits md ops listed i z D := by
 simp only [waits, Bool.and_eq_true, List.contains_iff_mem, Bool.not_eq_true', List.all_eq_true] at h
 obtain ⟨⟨h1, h2⟩, h3⟩ := h
 refine ⟨h1, fun q => ?_, fun d hd => (h3 d hd).1, fun d hd o ho => ?_⟩
 · have := List.contains_iff_mem.2 q
   rw [this] at h2
   cases h2
 · have h4 := (h3 d hd).2
   rw [ho] at h4
   obtain ⟨e, he, hb⟩ := Array.any_eq_true'.1 h4
   simp only [Bool.and_eq_true, Bool.or_eq_true, beq_iff_eq, List.contains_iff_mem] at hb
   exact ⟨e, he, hb.1, hb.2⟩
theorem Waits.notReady {listed : Array Bool} {i j : Nat} {D : List Nat} (h : Waits md ops listed i z D) (hi : listed.getD i false = false) (hj : j ∈ Region.ready md ops listed) : j ∉ D := fun hd => by
 obtain ⟨-, o, ho, hall⟩ := mem_ready.1 hj
 obtain ⟨e, he, hb, q⟩ := h.on j hd o ho
 have h1 := hall e he hb
 rcases q with q | q
 · rw [q, hi] at h1
   cases h1
 · rw [h.un _ q] at h1
   cases h1
theorem getD_ff {listed : Array Bool} {i : Nat} (h : listed.getD i true = false) : listed.getD i false = false := by
 rcases Nat.lt_or_ge i listed.size with h' | h'
 · simpa [h'] using h
 · simp [h']
theorem Waits.step {listed : Array Bool} {i j : Nat} {D : List Nat} (h : Waits md ops listed i z D) (hj : j ∉ D) : Waits md ops (listed.setIfInBounds j true) i z D :=
 ⟨h.hz, h.hi, fun d hd => by
  have hne : j ≠ d := by rintro rfl; exact hj hd
  rw [getD_set_ne false hne]; exact h.un d hd, h.on⟩
theorem wpAnyZ_first {i : Nat} {oi : Oper} {v : Value} {D : List Nat} (hi : ops[i]? = some oi) (hsel : ∀ (j : Nat) (o : Oper) cs b, ops[j]? = some o → o.op ≠ .select cs b)
    (hQ : ∀ c a w, Q (.panic c) (a.put oi.dst v) w → Q (.panic c) a w) :
    ∀ (fuel : Nat) (listed : Array Bool) (a : Act) (w : World),
      (∀ j oj, ops[j]? = some oj → j ≠ i → listed.getD j true = false → (∀ e ∈ oj.after, Region.binds md e = true → e.on ≠ i) → oi.apart ops oj = true) →
      i ∈ Region.ready md ops listed → Waits md ops listed i z D → YieldsIf P ops S oi v a → S w →
      wpAnyZ P md ops Q S z fuel (listed.setIfInBounds i true) (a.put oi.dst v) w → wpAnyZ P md ops Q S z (fuel + 1) listed a w := by
 intro fuel
 induction fuel with
 | zero =>
  intro listed a w _ hr hd hy hS H
  refine ⟨fun h => (by rw [h] at hr; cases hr), fun j hj => ?_⟩
  by_cases hji : j = i
  · subst hji; exact hy.wpOp hi hS ⟨fun _ => hS, H⟩
  · have := ready_mono hj hji
    rw [H.1] at this
    cases this
 | succ fuel ih =>
  intro listed a w hfree hr hd hy hS H
  refine ⟨fun h => (by rw [h] at hr; cases hr), fun j hj => ?_⟩
  by_cases hji : j = i
  · subst hji; exact hy.wpOp hi hS ⟨fun _ => hS, H⟩
  · have h1 := H.2 j (ready_mono hj hji)
    obtain ⟨hjun, oj, hoj, hall⟩ := mem_ready.1 hj
    have hjD : j ∉ D := hd.notReady (getD_ff (mem_ready.1 hr).1) hj
    have hnot : ∀ e ∈ oj.after, Region.binds md e = true → e.on ≠ i := fun e he hb heq => by
     have h1 := hall e he hb
     have h0 := (mem_ready.1 hr).1
     rw [heq] at h1
     rcases Nat.lt_or_ge i listed.size with h' | h'
     · simp [h'] at h0 h1; rw [h0] at h1; cases h1
     · simp [Array.getElem?_eq_none h'] at h1
    have h2 := wpOp_putIf hoj (hfree j oj hoj hji hjun hnot) (fun cs b => hsel i oi cs b hi) (fun cs b => hsel j oj cs b hoj) hQ hy h1
    have hfree' : ∀ k ok, ops[k]? = some ok → k ≠ i → (listed.setIfInBounds j true).getD k true = false →
        (∀ e ∈ ok.after, Region.binds md e = true → e.on ≠ i) → oi.apart ops ok = true := fun k ok hk hki hun hno => by
      refine hfree k ok hk hki ?_ hno
      by_cases hjk : j = k
      · subst hjk; exact hjun
      · rw [getD_set_ne true hjk] at hun; exact hun
    have hdj := hd.step (j := j) hjD
    have hzz : ((listed.setIfInBounds i true).setIfInBounds j true).getD z false = false := by
     have n1 : j ≠ z := by rintro rfl; exact hjD hd.hz
     have n2 : i ≠ z := by rintro rfl; exact hd.hi hd.hz
     rw [getD_set_ne false n1, getD_set_ne false n2]
     exact hd.un z hd.hz
    refine wpOp_mono (fun a' w' h3 => ⟨fun _ => h3.2.1 hzz, ih (listed.setIfInBounds j true) a' w' hfree' (ready_mono hr (Ne.symm hji)) hdj h3.1 (h3.2.1 hzz) ?_⟩) h2
    rw [Array.setIfInBounds_comm _ _ hji]
    exact h3.2.2
theorem wpAnyZ_take {i : Nat} {oi : Oper} {v : Value} {fuel : Nat} {listed : Array Bool} {a : Act} {w : World} (D : List Nat) (hi : ops[i]? = some oi)
    (hs : Region.noSelect ops = true) (hf : Region.free md ops listed i = true) (hr : (Region.ready md ops listed).contains i = true) (hd : waits md ops listed i z D = true)
    (hQ : ∀ c a w, Q (.panic c) (a.put oi.dst v) w → Q (.panic c) a w) (hy : YieldsIf P ops S oi v a) (hS : S w)
    (h : wpAnyZ P md ops Q S z fuel (listed.setIfInBounds i true) (a.put oi.dst v) w) : wpAnyZ P md ops Q S z (fuel + 1) listed a w :=
 wpAnyZ_first hi (Region.noSelect_spec hs) hQ fuel listed a w (Region.free_spec hi hf) (by simpa using hr) (waits_spec hd) hy hS h
theorem wpAnyZ_done {listed : Array Bool} {a : Act} {w : World} (hr : Region.ready md ops listed = []) (h : Q .normal a w) : ∀ fuel, wpAnyZ P md ops Q S z fuel listed a w
 | 0 => ⟨hr, h⟩
 | _ + 1 => ⟨fun _ => h, by rw [hr]; simp⟩
def AllReadyZ (P : Program) (md : Region.Mode) (ops : Array Oper) (Q : Exit → Act → World → Prop) (S : World → Prop) (z fuel : Nat) (listed : Array Bool) (a : Act) (w : World) (rs : List Nat) : Prop :=
 ∀ i ∈ rs, wpOp P ops Q i (fun a' w' => ((listed.setIfInBounds i true).getD z false = false → S w') ∧ wpAnyZ P md ops Q S z fuel (listed.setIfInBounds i true) a' w') a w
theorem AllReadyZ.nil {fuel : Nat} {listed : Array Bool} {a : Act} {w : World} : AllReadyZ P md ops Q S z fuel listed a w [] := fun _ h => by cases h
theorem AllReadyZ.cons {fuel : Nat} {listed : Array Bool} {a : Act} {w : World} {i : Nat} {o : Oper} {rs : List Nat} (ho : ops[i]? = some o)
    (h : ∀ K' : Act → World → Prop, Shut (∀ a w, ((listed.setIfInBounds i true).getD z false = false → S w) → wpAnyZ P md ops Q S z fuel (listed.setIfInBounds i true) a w → K' a w) → if Region.wanted o (yielded ops a.tmps) = true then Oper.wp P o a w K' Q else K' (a.put o.dst undef) w)
    (hs : AllReadyZ P md ops Q S z fuel listed a w rs) : AllReadyZ P md ops Q S z fuel listed a w (i :: rs) := fun j hj => by
 rcases List.mem_cons.1 hj with rfl | hj
 · exact wpOp_step ho (fun K' hK => h K' (fun a w hS hW => hK a w ⟨hS, hW⟩))
 · exact hs j hj
theorem wpAnyZ_ready {rs : List Nat} {fuel : Nat} {listed : Array Bool} {a : Act} {w : World} (hr : Region.ready md ops listed = rs) (hne : rs ≠ [])
    (h : AllReadyZ P md ops Q S z fuel listed a w rs) : wpAnyZ P md ops Q S z (fuel + 1) listed a w := ⟨fun h0 => absurd (hr ▸ h0) hne, hr ▸ h⟩
theorem wp_region_Z {id : Nat} {a : Act} {w : World} (z : Nat) (S : World → Prop) (hm : P.follows .mixedOrders = true) (hS : S w.drew)
    (h : S w.drew → wpAnyZ P .any ops Q S z ops.size (Array.replicate ops.size false) a w.drew) : (Code.region id ops true).wp P Q a w :=
 wp_region_any hm (wpAny_of_Z _ _ _ _ (h hS))
end
end
section
open Go.RowKit
end
section
open Go.RowKit
end
end Go.Proofs.YtdmindhjmjnagaaGreatDoor
