/- Refs in memory, as package refs lays them: the map's operations at the walk; New and the calls that only look at one block. -/
import Derived.Test.YtpgepejleklpfaaRfA
import Derived.Deep.QuietTactic
import Derived.BigQuiet
import Derived.Deep.RegionHeld3
import Derived.Deep.RegionLaw
import Derived.Deep.RegionWith
import Derived.LoopN
import Derived.Deep.LoopGhost
import Derived.Deep.DeepCutAuto
import Derived.Shelf.Abstract
import Derived.Deep.DrawnRows
namespace Go.Proofs.Ytpgepejleklpfaa
set_option linter.unusedVariables false
open Go.RowKit
attribute [local go_sem ↓] Go.wp_at_zero Go.wp_at_succ

/-- Block b is the map of the counts L, of at most K entries. -/
def MapR (w : World) (b K : Nat) (L : PL) : Prop := w.ownsMap Try.prog 3 (plainElem Try.prog 3) b K (dm L)
theorem MapR.lt {w : World} {b K : Nat} {L : PL} (h : MapR w b K L) : b < w.heap.size := World.ownsMap.lt h
theorem MapR.kept {w w' : World} {b K : Nat} {L : PL} (h : MapR w b K L) (hb : w'.heap[b]? = w.heap[b]?) : MapR w' b K L := by
  obtain ⟨es, clock, h1, h2⟩ := h
  exact ⟨es, clock, hb.trans h1, h2⟩
theorem MapR.mono {w : World} {b K K' : Nat} {L : PL} (h : MapR w b K L) (hn : K ≤ K') : MapR w b K' L := World.ownsMap.mono h hn
theorem zero_int (w : World) : (zeroValue 3).run Try.prog w = .ok (.int .i64 0) w := by kernel_rfl
theorem MapR.look {w : World} {b K : Nat} {L : PL} (h : MapR w b K L) {k : Int} (hk : I64 k) :
    (Instr.lookup 51 (.map (some b)) (.int .i64 k) false).run Try.prog w = .ok (.int .i64 (cnt L k)) w := by
  obtain ⟨c, hrun, hat, _⟩ := World.ownsMap.lookup_int (t := 51) h keyed_int Try.underlying51 Try.underlying3 (zero_int w) (key_is hk)
  rw [dm_at] at hat
  have e : cnt L k = c := by simpa using hat
  rw [hrun, e]
theorem MapR.len {w : World} {b K : Nat} {L : PL} (h : MapR w b K L) (ty : TypeId) : (Builtin.len_ #[51] ty #[.map (some b)]).run Try.prog w = .ok (.int .i64 (L.length : Int)) w := by
  have := World.ownsMap.len (t := 51) h Try.underlying51 ty
  rw [dm_size] at this
  exact this
theorem MapR.size {w : World} {b K : Nat} {L : PL} (h : MapR w b K L) : L.length ≤ K := by
  have := World.ownsMap.size_le h
  rw [dm_size] at this
  exact this
theorem MapR.store {w : World} {b K : Nat} {L : PL} (h : MapR w b K L) (hn : K < maxLen) {k c : Int} (hk : I64 k) (hc : I64 c) :
    ∃ w', (Instr.mapUpdate 51 (.map (some b)) (.int .i64 k) (.int .i64 c)).run Try.prog w = .ok () w' ∧ MapR w' b (K + 1) (putL L k c) ∧ w.grownBy w' (some b) := by
  obtain ⟨w', hrun, ho, hg⟩ := World.ownsMap.update (t := 51) h keyed_int Try.underlying51 hn (key_is hk) (plainElem_int Try.underlying3 hc.wf)
  rw [dm_put] at ho
  exact ⟨w', hrun, ho, hg⟩
theorem MapR.drop {w : World} {b K : Nat} {L : PL} (h : MapR w b K L) {k : Int} (hk : I64 k) (ty : TypeId) :
    ∃ w', (Builtin.delete_ #[51, 3] ty #[.map (some b), .int .i64 k]).run Try.prog w = .ok (.tuple #[]) w' ∧ MapR w' b K (delL L k) ∧ w.grownBy w' (some b) := by
  obtain ⟨w', hrun, ho, ht⟩ := World.ownsMap.drop (t := 51) h keyed_int Try.underlying51 (key_is hk) ty
  rw [dm_del] at ho
  exact ⟨w', hrun, ho, ht.grown⟩
/-- A store at the operation, for the walk. -/
theorem wpList_store_r (w : World) {ops : Array Oper} {rest : List Oper} {o : Oper} {a : Act} {Q : Exit → Act → World → Prop} (hg : o.guard = none) (m x v : Operand) (hop : o.op = Op.mapUpdate 51 m x v)
    (b K : Nat) (L : PL) (hm : a.eval m = .map (some b)) (h : MapR w b K L) (hn : K < maxLen) (k : Int) (hk : I64 k) (hx : a.eval x = .int .i64 k) (c : Int) (hc : I64 c) (hv : a.eval v = .int .i64 c)
    (hK : ∀ w', MapR w' b (K + 1) (putL L k c) → w.grownBy w' (some b) → wpList Try.prog ops Q rest (a.put o.dst undef) w') : wpList Try.prog ops Q (o :: rest) a w := by
  refine wpList_plain hg fun K' hK' => ?_
  obtain ⟨w', hrun, r1, r2⟩ := h.store hn hk hc
  unfold Oper.wp
  simp [execOp, hop, hm, hx, hv, hrun, Result.andThen]
  exact hK' _ _ (hK w' r1 r2)
/-- A delete at the operation, for the walk. -/
theorem wpList_delete_r (w : World) {ops : Array Oper} {rest : List Oper} {o : Oper} {a : Act} {Q : Exit → Act → World → Prop} (hg : o.guard = none) (m x : Operand)
    (hop : o.op = Op.call { callee := Callee.builtin Builtin.delete, args := #[m, x], argTypes := #[51, 3] })
    (b K : Nat) (L : PL) (hm : a.eval m = .map (some b)) (h : MapR w b K L) (k : Int) (hk : I64 k) (hx : a.eval x = .int .i64 k)
    (hK : ∀ w', MapR w' b K (delL L k) → w.grownBy w' (some b) → wpList Try.prog ops Q rest (a.put o.dst (.tuple #[])) w') : wpList Try.prog ops Q (o :: rest) a w := by
  refine wpList_plain hg fun K' hK' => ?_
  obtain ⟨w', hrun, r1, r2⟩ := h.drop hk o.type
  unfold Oper.wp
  simp [execOp, hop, resolve, invoke, builtin, hm, hx, hrun, Result.andThen]
  exact hK' _ _ (hK w' r1 r2)
theorem MapR.made (w : World) : MapR (w.alloc (.map #[] 0)) w.heap.size 0 [] := World.ownsMap_made w _ _ _

/-- Refs in memory: the struct in block p, its map in block b. -/
structure Rf (w : World) (p b K : Nat) (S : RfS) : Prop where
  ok : S.Ok K
  blk : w.heap[p]? = some (.cells #[.int .i64 S.blocks, .map (some b), .int .i64 S.low] 53 (0, 0))
  mp : MapR w b K S.L
  pb : p ≠ b
theorem lt_block {w : World} {k : Nat} {o : Obj} (h : w.heap[k]? = some o) : k < w.heap.size := (Array.getElem?_eq_some_iff.1 h).1
theorem Rf.lt {w : World} {p b K : Nat} {S : RfS} (h : Rf w p b K S) : p < w.heap.size ∧ b < w.heap.size := ⟨lt_block h.blk, h.mp.lt⟩
theorem Rf.kept {w w' : World} {p b K : Nat} {S : RfS} (h : Rf w p b K S) (hp : w'.heap[p]? = w.heap[p]?) (hb : w'.heap[b]? = w.heap[b]?) : Rf w' p b K S := ⟨h.ok, hp.trans h.blk, h.mp.kept hb, h.pb⟩
theorem Rf.below {w w' : World} {p b K : Nat} {S : RfS} (h : Rf w p b K S) {B : Nat} (hb : Below B w w') (hB : w.heap.size ≤ B) : Rf w' p b K S := by
  have := h.lt
  exact h.kept (hb.block p (by omega)) (hb.block b (by omega))
theorem Rf.mono {w : World} {p b K K' : Nat} {S : RfS} (h : Rf w p b K S) (hk : K ≤ K') : Rf w p b K' S := ⟨h.ok.mono hk, h.blk, h.mp.mono hk, h.pb⟩
/-- What a call comes to: the same blocks, other contents; all else stands. -/
def RGo (w : World) (p b K : Nat) (S' : RfS) (w' : World) : Prop := Rf w' p b (K + 1) S' ∧ Touch p (some b) w w'

set_option maxHeartbeats 400000 in
theorem has_calls (w : World) (p b K : Nat) (S : RfS) (n : Int) (h : Rf w p b K S) : Calls Try.prog 34 #[.pointer (some ⟨p, 0, none⟩), .int .i64 n] w fun e w' => e = .returned (.bool (S.has n)) ∧ w' = w := by
  obtain ⟨c0, _⟩ := cells3 h.blk
  clear h
  by_cases h0 : 2 ≤ n
  · have E : Hid (S.has n = decide (n < S.blocks)) := by show _ = _; unfold RfS.has; simp [h0]
    go_enter Try.func34, Try.ntmps34
    go_wp2
    go_ret
    exact ⟨by rw [E.out]; rfl, rfl⟩
  · have E : Hid (S.has n = false) := by show _ = _; unfold RfS.has; simp [h0]
    go_enter Try.func34, Try.ntmps34
    go_wp2
    go_ret
    exact ⟨by rw [E.out]; rfl, rfl⟩
set_option maxHeartbeats 400000 in
theorem count_calls (w : World) (p b K : Nat) (S : RfS) (n : Int) (h : Rf w p b K S) (hn : I64 n) : Calls Try.prog 19 #[.pointer (some ⟨p, 0, none⟩), .int .i64 n] w fun e w' => e = .returned (.int .i64 (cnt S.L n)) ∧ w' = w := by
  obtain ⟨_, c1, _⟩ := cells3 h.blk
  have hl := h.mp.look hn
  clear h
  go_enter Try.func19, Try.ntmps19
  go_wp2
  go_ret
  exact ⟨rfl, rfl⟩
set_option maxHeartbeats 400000 in
theorem needed_calls (w : World) (p b K : Nat) (S : RfS) (n : Int) (h : Rf w p b K S) (hn : I64 n) : Calls Try.prog 38 #[.pointer (some ⟨p, 0, none⟩), .int .i64 n] w fun e w' => e = .returned (.int .i64 (S.need n)) ∧ w' = w := by
  obtain ⟨_, c1, _⟩ := cells3 h.blk
  have hl := h.mp.look hn
  have hh := has_calls w p b K S n h
  clear h
  cases hb : S.has n with
  | false =>
    have E : Hid (S.need n = 1) := by show _ = _; unfold RfS.need; rw [if_pos hb]
    rw [hb] at hh
    clear hb
    go_enter Try.func38, Try.ntmps38
    go_wp2_with (go_at_call 34; refine hh.mono ?_; rintro e w1 ⟨rfl, rfl⟩)
    go_ret
    exact ⟨by rw [E.out]; rfl, rfl⟩
  | true =>
    rw [hb] at hh
    by_cases hz : cnt S.L n = 0
    · have E : Hid (S.need n = 13) := by show _ = _; unfold RfS.need; rw [if_neg (by rw [hb]; simp), if_pos hz]
      rw [hz] at hl
      clear hb hz
      go_enter Try.func38, Try.ntmps38
      go_wp2_with (go_at_call 34; refine hh.mono ?_; rintro e w1 ⟨rfl, rfl⟩)
      go_ret
      exact ⟨by rw [E.out]; rfl, rfl⟩
    · have E : Hid (S.need n = 0) := by show _ = _; unfold RfS.need; rw [if_neg (by rw [hb]; simp), if_neg hz]
      clear hb
      have hz2 : (cnt S.L n == 0) = false := by simpa using hz
      clear hz
      generalize cnt S.L n = c at *
      go_enter Try.func38, Try.ntmps38
      go_wp2_with (go_at_call 34; refine hh.mono ?_; rintro e w1 ⟨rfl, rfl⟩)
      go_ret
      exact ⟨by rw [E.out]; rfl, rfl⟩
set_option maxHeartbeats 400000 in
theorem free_calls (w : World) (p b K : Nat) (S : RfS) (h : Rf w p b K S) (hK : K ≤ 1000000) : Calls Try.prog 20 #[.pointer (some ⟨p, 0, none⟩)] w fun e w' => e = .returned (.int .i64 S.free) ∧ ∃ n, w' = w.drewN n := by
  obtain ⟨c0, c1, _⟩ := cells3 h.blk
  have hl := (h.mp.kept (w' := w.drew) rfl).len 3
  have hs := h.mp.size
  have h1 := h.ok.b1
  have h2 := h.ok.b2
  have E : Hid (S.free = S.blocks - 2 - (S.L.length : Int)) := rfl
  clear h
  generalize S.L.length = len at *
  generalize S.blocks = B at *
  go_enter Try.func20, Try.ntmps20
  go_wp2
  go_region
  go_wp2
  go_ret
  exact ⟨by rw [E.out]; rfl, _, rfl⟩

def newW (w : World) (b : Int) : World := (w.alloc (.map #[] 0)).alloc (.cells #[.int .i64 b, .map (some w.heap.size), .int .i64 2] 53)
theorem new_is (w : World) (n b : Int) (hb : b = (RfS.new n).blocks) : Rf (newW w b) (w.heap.size + 1) w.heap.size 0 (RfS.new n) ∧ Below w.heap.size w (newW w b) := by
  subst hb
  refine ⟨⟨RfS.new_ok n, ?_, ?_, by omega⟩, (((Below.refl _ _).alloc (Nat.le_refl _) _).alloc (by simp) _)⟩
  · have h1 := heap_alloc_new (w.alloc (.map #[] 0)) (.cells #[.int .i64 (RfS.new n).blocks, .map (some w.heap.size), .int .i64 2] 53)
    have h2 : (w.alloc (.map #[] 0)).heap.size = w.heap.size + 1 := by simp
    rw [h2] at h1
    exact h1
  · refine (MapR.made w).kept ?_
    unfold newW
    rw [Below.heap_alloc _ _ _ (by simp)]
set_option maxHeartbeats 400000 in
theorem new_calls (w : World) (n : Int) (hn : I64 n) : Calls Try.prog 9 #[.int .i64 n] w fun e w' => e = .returned (.pointer (some ⟨w.heap.size + 1, 0, none⟩)) ∧ Rf w' (w.heap.size + 1) w.heap.size 0 (RfS.new n) ∧ Below w.heap.size w w' := by
  have R := new_is w n
  unfold newW at R
  have e : (RfS.new n).blocks = min (max n 2) 4294967296 := rfl
  rw [e] at R
  have hmm := @run_makeMap Try.prog
  clear e hn
  go_enter Try.func9, Try.ntmps9
  go_wp2
  all_goals
    go_ret
    refine ⟨rfl, R _ (by omega)⟩
end Go.Proofs.Ytpgepejleklpfaa
