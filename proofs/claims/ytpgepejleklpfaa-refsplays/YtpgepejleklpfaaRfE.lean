/- What Used, Same and Clone come to. -/
import Derived.Test.YtpgepejleklpfaaRfD
import Derived.Test.YtpgepejleklpfaaRfL
import Derived.Shelf.AbstractIn
import Derived.Shelf.SlMaps.Clone
import Derived.MapKept
import Derived.Laws.Externs
namespace Go.Proofs.Ytpgepejleklpfaa
set_option linter.unusedVariables false
open Go.RowKit Go.Maps Go.Sort Go.Shelf
attribute [local go_sem ↓] Go.wp_at_zero Go.wp_at_succ

theorem sorts_in (m : Nat) : AnyZI.SortsIn Try.prog Try.sortedA_ren Fence.wide m :=
  ⟨fun blk off cap ss W hH hblk hsz => callsIn_wide.2 (AnyM.slices_Sort_int Try.sortA blk off cap ss W hH hblk hsz),
   fun p cap W => callsIn_wide.2 (AnyM.slices_Sort_int_none Try.sortA p cap W)⟩
set_option maxHeartbeats 1000000 in
theorem rising0 {H : Type} (b nn : Nat) (D0 : DataW H) (R : Value → Option (DataW H × List MemPlace)) (w : World) (hown : w.ownsMap Try.prog 3 R b nn D0) (hmax : Maps.size D0 ≤ maxLen) (hbytes : Maps.size D0 * 8 ≤ 140737488355328) :
    Calls Try.prog 37 #[.map (some b)] w fun e w' => ∃ (v : Value) (ss : List Int), e = .returned v ∧ ss.Perm (intKeys D0) ∧
      w'.ownsRow w.heap.size 3 1 v ss.length ((ss.mergeSort (fun x y => decide (x ≤ y))).map encZ) ∧ (v = .slice none 0 0 ↔ ss = []) ∧ Below w.heap.size w w' := by
  refine (callsIn_wide (n := 6)).1 ?_
  have hbl := hown.lt
  have hseq : SeqGives Fence.wide 2 Try.prog 46 #[.pointer (some ⟨w.heap.size, 0, none⟩)] encZ (fun ss => ss.Perm (intKeys D0)) (Maps.size D0) (w.alloc (.cells #[.map (some b)] 51)) :=
    AnyZI.keys_gives (ρ := Try.keysA_ren) { Try.keysA with } Fence.wide _ trivial rfl (by omega) w.heap.size b nn D0 _ (by simp) (by simp) (by
      obtain ⟨es, clock, hb, Ft, hs, hD⟩ := hown
      exact ⟨es, clock, (Below.heap_alloc _ _ b hbl).trans hb, Ft, hs, hD⟩)
  have cK : ∀ mb W, CallsIn Fence.wide 5 Try.prog 43 #[.map mb] W fun e w' => e = .returned (.func (.func 46) #[] #[.pointer (some ⟨W.heap.size, 0, none⟩)]) ∧ w' = W.alloc (.cells #[.map mb] 51) := fun mb W => AnyZI.keys_in Try.keysA Fence.wide 5 trivial rfl mb W
  have cS := AnyZI.sorted_in Try.sortedA Fence.wide 5 trivial trivial trivial trivial rfl (by omega) (sorts_in _) (enters_of Try.func45 (by kernel_rfl) rfl) 46 #[.pointer (some ⟨w.heap.size, 0, none⟩)] trivial (enters_of Try.func46 (by kernel_rfl) rfl) _ _ hmax hbytes _ hseq
  change CallsIn _ _ Try.prog 42 _ _ _ at cS
  have hfK : Fence.wide.fn 43 := trivial
  have hfS : Fence.wide.fn 42 := trivial
  refine callsIn_of_wp Try.func37 rfl trivial ?_ rfl
  simp only [Try.ntmps37, List.size_toArray, List.length_cons, List.length_nil, Nat.reduceAdd, Nat.reduceSub, Array.replicate_succ, Array.replicate_zero, List.push_toArray, List.append_toArray, List.nil_append, List.cons_append]
  gi_wp2_with (first
    | (gi_at_call 43; refine (cK _ _).mono ?_; rintro e w' ⟨rfl, rfl⟩)
    | (gi_at_call 42; refine cS.mono ?_; rintro e w' ⟨v, ss, rfl, hS, hrow, hnil, hb⟩))
  go_ret
  exact ⟨v, ss, rfl, hS, ownsRow_base_a hrow (by simp), hnil, ((Below.refl _ w).alloc (Nat.le_refl _) _).trans (hb.mono (by simp))⟩

theorem keys_dm (L : PL) : intKeys (dm L) = L.map Prod.fst := by
  simp only [intKeys, dm, de, klit, List.map_map, Function.comp_def]
  rfl
theorem sort_rise {L : PL} (h : Rise L) {ss : List Int} (hp : ss.Perm (intKeys (dm L))) : ss.mergeSort (fun x y => decide (x ≤ y)) = L.map Prod.fst := by
  rw [mergeSort_of_perm_i hp, keys_dm]
  refine List.mergeSort_of_pairwise (List.pairwise_map.2 (h.imp fun {p q} hpq => ?_))
  simp only [leI, decide_eq_true_eq]
  omega
/-- A slice of numbers of its own. -/
def IntsIn (w : World) (base : Nat) (v : Value) (l : List Int) : Prop := w.ownsRow base 3 1 v l.length (l.map encZ)
theorem rising_calls (w : World) (b K : Nat) (L : PL) (h : MapR w b K L) (hr : Rise L) (hK : K ≤ 1000000) :
    Calls Try.prog 37 #[.map (some b)] w fun e w' => ∃ v, e = .returned v ∧ IntsIn w' w.heap.size v (L.map Prod.fst) ∧ Below w.heap.size w w' := by
  have hs := h.size
  refine (rising0 b K (dm L) _ w h (by rw [dm_size]; unfold maxLen; omega) (by rw [dm_size]; omega)).mono ?_
  rintro e w' ⟨v, ss, h1, h2, h3, h4, h5⟩
  have hl : ss.length = (L.map Prod.fst).length := by rw [← keys_dm]; exact h2.length_eq
  rw [sort_rise hr h2, hl] at h3
  exact ⟨v, h1, h3, h5⟩
set_option maxHeartbeats 400000 in
theorem used_calls (w : World) (p b K : Nat) (S : RfS) (h : Rf w p b K S) (hK : K ≤ 1000000) : Calls Try.prog 21 #[.pointer (some ⟨p, 0, none⟩)] w fun e w' => ∃ v, e = .returned v ∧ IntsIn w' w.heap.size v S.usedL ∧ Below w.heap.size w w' := by
  obtain ⟨_, c1, _⟩ := cells3 h.blk
  have hr := rising_calls w b K S.L h.mp h.ok.rise hK
  clear h
  go_enter Try.func21, Try.ntmps21
  go_wp2_with (go_at_call 37; refine hr.mono ?_; rintro e w1 ⟨v, rfl, h1, h2⟩)
  go_ret
  exact ⟨v, rfl, h1, h2⟩

/-! Same. -/
def eqd (x y : DataW Unit) : Bool := match x, y with | .lit (.int _ a), .lit (.int _ b) => a == b | _, _ => false
theorem neq_int (W : World) (x y : Value) (xd yd : DataW Unit) (xp yp : List MemPlace) (hx : plainElem Try.prog 3 x = some (xd, xp)) (hy : plainElem Try.prog 3 y = some (yd, yp)) :
    (binOp .neq 3 x y).run Try.prog W = .ok (.bool (!eqd xd yd)) W ∧ ∀ (a b : Operand), (eqGuard .neq 3 a b x y).run Try.prog W = .ok () W := by
  obtain ⟨a, rfl, h1, _⟩ := plainElem_int_inv Try.underlying3 hx
  obtain ⟨b, rfl, h2, _⟩ := plainElem_int_inv Try.underlying3 hy
  obtain rfl : xd = .lit (.int .i64 a) := by simpa using (congrArg Prod.fst h1)
  obtain rfl : yd = .lit (.int .i64 b) := by simpa using (congrArg Prod.fst h2)
  refine ⟨?_, fun _ _ => by rw [eqGuard_at_int]; rfl⟩
  simp [go_sem, eqd, binOp]
  rfl
theorem rise_le : ∀ {B A : PL}, Rise A → Rise B → (∀ p ∈ A, p ∈ B) → A.length ≤ B.length
  | [], A, _, _, h => by
    cases A with
    | nil => simp
    | cons a r => exact absurd (h a (by simp)) (by simp)
  | b :: B', A, hA, hB, h => by
    cases A with
    | nil => simp
    | cons a r =>
      have hA' := List.pairwise_cons.1 hA
      have hB' := List.pairwise_cons.1 hB
      rcases List.mem_cons.1 (h a (by simp)) with e | e
      · subst e
        have := rise_le (B := B') hA'.2 hB'.2 fun p hp => by
          rcases List.mem_cons.1 (h p (by simp [hp])) with e | e
          · subst e; have := hA'.1 p hp; omega
          · exact e
        simp; omega
      · have := rise_le (B := B') hA hB'.2 fun p hp => by
          rcases List.mem_cons.1 (h p hp) with e2 | e2
          · subst e2
            have x1 := hB'.1 a e
            rcases List.mem_cons.1 hp with e3 | e3
            · rw [e3] at x1; omega
            · have := hA'.1 p e3; omega
          · exact e2
        simp only [List.length_cons] at this ⊢; omega
theorem rise_eq : ∀ {A B : PL}, Rise A → Rise B → A.length = B.length → (∀ p ∈ A, p ∈ B) → A = B
  | [], B, _, _, hl, _ => by cases B with | nil => rfl | cons b r => simp at hl
  | a :: r, B, hA, hB, hl, h => by
    cases B with
    | nil => simp at hl
    | cons b B' =>
      have hA' := List.pairwise_cons.1 hA
      have hB' := List.pairwise_cons.1 hB
      rcases List.mem_cons.1 (h a (by simp)) with e | e
      · subst e
        rw [rise_eq hA'.2 hB'.2 (by simpa using hl) fun p hp => by
          rcases List.mem_cons.1 (h p (by simp [hp])) with e | e
          · subst e; have := hA'.1 p hp; omega
          · exact e]
      · have := rise_le (A := a :: r) (B := B') hA hB'.2 fun p hp => by
          rcases List.mem_cons.1 (h p hp) with e2 | e2
          · subst e2
            have x1 := hB'.1 a e
            rcases List.mem_cons.1 hp with e3 | e3
            · rw [e3] at x1; omega
            · have := hA'.1 p e3; omega
          · exact e2
        simp only [List.length_cons] at this hl; omega
theorem has_dm (L : PL) (n : Int) : Maps.has (dm L) (klit n) = L.any fun p => p.1 == n := by
  simp only [dm, Maps.has, List.any_map]
  congr 1
  funext p
  simp only [Function.comp, de, same_lit]
theorem at_dm {L : PL} (hr : Rise L) {p : Int × Int} (h : p ∈ L) (z : DataW Unit) : (dm L).atKey (klit p.1) z = .lit (.int .i64 p.2) := by
  have h1 : Maps.has (dm L) (klit p.1) = true := by rw [has_dm]; exact List.any_eq_true.2 ⟨p, h, by simp⟩
  rw [Maps.atKey_indep h1 z (.lit (.int .i64 0)), dm_at, cnt_mem hr h]
theorem eq_dm {A B : PL} (hA : Rise A) (hB : Rise B) : Lib.equalFuncD eqd (dm A) (dm B) = decide (A = B) := by
  by_cases e : A = B
  · subst e
    rw [decide_eq_true rfl]
    unfold Lib.equalFuncD
    rw [decide_eq_true rfl, Bool.true_and]
    refine List.all_eq_true.2 fun q hq => ?_
    obtain ⟨p, hp, rfl⟩ := List.mem_map.1 (show q ∈ A.map de from hq)
    unfold Lib.goodD
    have h1 : Maps.has (dm A) (de p).1 = true := by
      show Maps.has (dm A) (klit p.1) = true
      rw [has_dm]; exact List.any_eq_true.2 ⟨p, hp, by simp⟩
    rw [h1, Bool.true_and]
    show eqd (.lit (.int .i64 p.2)) ((dm A).atKey (klit p.1) .nil) = true
    rw [at_dm hA hp]
    simp [eqd]
  · rw [decide_eq_false e]
    cases hh : Lib.equalFuncD eqd (dm A) (dm B) with
    | false => rfl
    | true =>
      exfalso
      unfold Lib.equalFuncD at hh
      rw [Bool.and_eq_true, decide_eq_true_eq, dm_size, dm_size] at hh
      refine e (rise_eq hA hB hh.1 fun p hp => ?_)
      have h1 := List.all_eq_true.1 hh.2 (de p) (show de p ∈ A.map de from List.mem_map.2 ⟨p, hp, rfl⟩)
      unfold Lib.goodD at h1
      rw [Bool.and_eq_true] at h1
      have h2 : Maps.has (dm B) (klit p.1) = true := h1.1
      have h3 : eqd (.lit (.int .i64 p.2)) ((dm B).atKey (klit p.1) .nil) = true := h1.2
      rw [has_dm] at h2
      obtain ⟨q, hq, hq2⟩ := List.any_eq_true.1 h2
      have e1 : q.1 = p.1 := by simpa using hq2
      rw [← e1, at_dm hB hq] at h3
      have e2 : p.2 = q.2 := by simpa [eqd] using h3
      have : p = q := Prod.ext e1.symm e2
      rw [this]; exact hq
def RfS.same (S T : RfS) : Bool := decide (S.blocks = T.blocks ∧ S.L = T.L)
theorem mequal_calls (w : World) (b1 b2 K1 K2 : Nat) (A B : PL) (h1 : MapR w b1 K1 A) (h2 : MapR w b2 K2 B) (r1 : Rise A) (r2 : Rise B) :
    Calls Try.prog 33 #[.map (some b1), .map (some b2)] w fun e w' => e = .returned (.bool (decide (A = B))) ∧ Below w.heap.size w w' := by
  have hcon : Calls Try.prog 33 #[.map (some b1), .map (some b2)] w (fun e w' => e = .returned (.bool (Lib.equalFuncD eqd (dm A) (dm B))) ∧ w.grownBy w' none) :=
    AnyEq.maps_Equal Try.eqA keyed_int (plainElem Try.prog 3) (plainElem Try.prog 3) eqd b1 b2 K1 K2 (dm A) (dm B) w h1 h2 (.int .i64 0) Try.zeroValue3 (.lit (.int .i64 0)) [] (plainElem_int Try.underlying3 (by decide)) neq_int
  refine hcon.mono ?_
  rintro e w' ⟨rfl, hg⟩
  rw [eq_dm r1 r2]
  exact ⟨rfl, (Below.refl _ w).grown hg (Nat.le_refl _) (fun j hj => by cases hj)⟩

set_option maxHeartbeats 1000000 in
theorem same_nil (w : World) (p : Nat) : Calls Try.prog 16 #[.pointer (some ⟨p, 0, none⟩), .pointer none] w fun e w' => e = .returned (.bool false) ∧ Below w.heap.size w w' := by
  have B : Below w.heap.size w w := Below.refl _ _
  go_enter Try.func16, Try.ntmps16
  go_wp2
  go_quiet (fail)
  go_wp2
  go_ret
  exact ⟨rfl, below_drewN B _⟩
set_option maxHeartbeats 2000000 in
theorem same_calls (w : World) (p b K q c M : Nat) (S T : RfS) (h : Rf w p b K S) (h2 : Rf w q c M T) : Calls Try.prog 16 #[.pointer (some ⟨p, 0, none⟩), .pointer (some ⟨q, 0, none⟩)] w fun e w' => e = .returned (.bool (S.same T)) ∧ Below w.heap.size w w' := by
  obtain ⟨c0, c1, _⟩ := cells3 h.blk
  obtain ⟨d0, d1, _⟩ := cells3 h2.blk
  have B : Below w.heap.size w w := Below.refl _ _
  by_cases e : S.blocks = T.blocks
  · have E : Hid (S.same T = decide (S.L = T.L)) := by show _ = _; unfold RfS.same; simp [e]
    have hm := mequal_calls w.drew b c K M S.L T.L (h.mp.kept rfl) (h2.mp.kept rfl) h.ok.rise h2.ok.rise
    rw [← e] at d0
    have l1 := h.lt
    have l2 := h2.lt
    have HC : Hid (∀ w', Below w.heap.size w w' → w'.cell? ⟨p, 0, none⟩ = some (.int .i64 S.blocks) ∧ w'.cell? ⟨p, 1, none⟩ = some (.map (some b)) ∧ w'.cell? ⟨q, 0, none⟩ = some (.int .i64 S.blocks) ∧ w'.cell? ⟨q, 1, none⟩ = some (.map (some c))) := fun w' hb =>
      ⟨(World.cell?_of_block (hb.block p l1.1)).trans c0, (World.cell?_of_block (hb.block p l1.1)).trans c1, (World.cell?_of_block (hb.block q l2.1)).trans d0, (World.cell?_of_block (hb.block q l2.1)).trans d1⟩
    clear e h h2 l1 l2
    generalize decide (S.L = T.L) = r at *
    go_enter Try.func16, Try.ntmps16
    go_wp2_with fail
    go_region_held3 (fun w' => w'.cell? ⟨p, 0, none⟩ = some (.int .i64 S.blocks) ∧ w'.cell? ⟨p, 1, none⟩ = some (.map (some b)) ∧ w'.cell? ⟨q, 0, none⟩ = some (.int .i64 S.blocks) ∧ w'.cell? ⟨q, 1, none⟩ = some (.map (some c))) (first | exact ⟨c0, c1, d0, d1⟩ | exact k1)
      (first | (go_at_call 33; refine hm.mono ?_; rintro e w1 ⟨rfl, b0⟩; have b1 : Below w.heap.size w w1 := ⟨b0.os, b0.tape, b0.output, b0.size, b0.block⟩; have k1 := HC.out _ b1))
    go_wp2
    go_ret
    exact ⟨by rw [E.out]; rfl, b1⟩
  · have E : Hid (S.same T = false) := by show _ = _; unfold RfS.same; simp [e]
    have e2 : (S.blocks == T.blocks) = false := by simpa using e
    clear e h h2
    go_enter Try.func16, Try.ntmps16
    go_wp2
    go_quiet (fail)
    go_wp2
    go_ret
    exact ⟨by rw [E.out]; rfl, below_drewN B _⟩

/-! Clone. -/
set_option maxHeartbeats 400000 in
theorem mclone_calls (w : World) (b : Nat) (es : Array MapEntry) (clock : Nat) (hb : w.heap[b]? = some (.map es clock)) :
    Calls Try.prog 24 #[.map (some b)] w fun e w' => e = .returned (.map (some w.heap.size)) ∧ w' = w.alloc (.map es clock) := by
  have hq := fun w => run_eql_map_nil_sl (P := Try.prog) w 51 _ _ (some b) Try.underlying51
  go_enter Try.func24, Try.ntmps24
  go_wp2
  rw [run_callFunc_extern Try.func39 (by kernel_rfl) (by kernel_rfl) (by kernel_rfl) (e := Extern.MapsClone.clone) (by kernel_rfl), run_maps_clone_sl w 51 hb]
  simp only [Result.andThen]
  rw [Oper.upon_value]
  go_wp2
  rw [run_typeAssert_map_sl _ 51 20 _ _ _ Try.underlying51]
  simp only [Result.andThen]
  rw [Oper.upon_value]
  go_wp2
  go_ret
  exact ⟨rfl, rfl⟩
theorem MapR.copied {w w' : World} {b b' K : Nat} {L : PL} (h : MapR w b K L) (hb : w'.heap[b']? = w.heap[b]?) : MapR w' b' K L := by
  obtain ⟨es, clock, h1, h2⟩ := h
  exact ⟨es, clock, hb.trans h1, h2⟩
set_option maxHeartbeats 1000000 in
theorem clone_calls (w : World) (p b K : Nat) (S : RfS) (h : Rf w p b K S) : Calls Try.prog 11 #[.pointer (some ⟨p, 0, none⟩)] w fun e w' => e = .returned (.pointer (some ⟨w.heap.size, 0, none⟩)) ∧ Rf w' w.heap.size (w.heap.size + 1) K S ∧ Below w.heap.size w w' := by
  obtain ⟨c0, c1, c2⟩ := cells3 h.blk
  obtain ⟨es, clock, he, hF⟩ := h.mp
  have hlt := h.lt
  go_enter Try.func11, Try.ntmps11
  go_wp2_with (go_at_call 24; refine (mclone_calls _ b es clock ?_).mono ?_; rotate_left; rintro e w1 ⟨rfl, rfl⟩)
  case refine_1 => rw [Below.heap_alloc _ _ _ hlt.2]; exact he
  go_ret
  have e1 : ((w.alloc (.cells #[.int .i64 S.blocks, .map (some (w.heap.size + 1)), .int .i64 S.low] 53)).alloc (.map es clock)).heap[w.heap.size + 1]? = some (.map es clock) := by
    have := heap_alloc_new (w.alloc (.cells #[.int .i64 S.blocks, .map (some (w.heap.size + 1)), .int .i64 S.low] 53)) (.map es clock)
    simpa using this
  refine ⟨rfl, ⟨h.ok, ?_, h.mp.copied (e1.trans he.symm), by omega⟩, ((Below.refl _ _).alloc (Nat.le_refl _) _).alloc (by simp) _⟩
  rw [Below.heap_alloc _ _ _ (by simp)]
  exact heap_alloc_new _ _
end Go.Proofs.Ytpgepejleklpfaa
