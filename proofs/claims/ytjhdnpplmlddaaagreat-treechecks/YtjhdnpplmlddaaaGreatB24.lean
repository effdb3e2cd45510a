import Derived.Test.YtjhdnpplmlddaaaGreatB01
import Derived.Test.YtjhdnpplmlddaaaGreatChecked
import Derived.Maps.OwnSet
import Derived.Maps.Ext
import Derived.Lib.SlKeysI
import Derived.Deep.QuietTactic
import Derived.BigQuiet
import Derived.Deep.RegionHeld3
import Derived.Deep.RegionLaw
import Derived.Deep.RegionWith
import Derived.LoopN
import Derived.Deep.LoopGhost
import Derived.Deep.DeepCutAuto
import Derived.Shelf.Abstract
import Derived.Deep.DrawnRows
/- Counts of blocks as plain data: a rising list of numbers with their counts; the map that holds them in memory, and what a look-up, a store, a delete and a count of it come to. -/
namespace Go.Proofs.YtjhdnpplmlddaaaGreat
set_option linter.unusedVariables false
open Go.RowKit

abbrev PL := List (Int × Int)
def klit (k : Int) : Lit := .int .i64 k
/-- A number that an int can be. -/
def I64 (k : Int) : Prop := -9223372036854775808 ≤ k ∧ k ≤ 9223372036854775807
theorem I64.wf {k : Int} (h : I64 k) : (Lit.int .i64 k).wf = true := by
  obtain ⟨h1, h2⟩ := h
  have e1 : IntKind.i64.min = -9223372036854775808 := by rfl
  have e2 : IntKind.i64.max = 9223372036854775807 := by rfl
  simp [Lit.wf, e1, e2]
  omega
theorem key_is {k : Int} (h : I64 k) : keyOf Tryz.prog 3 (.int .i64 k) = some (klit k) := Maps.keyOf_int_mk Tryz.underlying3 h.wf
theorem keyed_int : Maps.Keyed Tryz.prog 3 := Maps.int_keyed Tryz.underlying3

def de (p : Int × Int) : Lit × DataW Unit := (klit p.1, .lit (.int .i64 p.2))
def dm (L : PL) : DataW Unit := .map (L.map de)
/-- The count of a number. -/
def cnt (L : PL) (n : Int) : Int := match L.find? (fun p => p.1 == n) with | some p => p.2 | none => 0
def delL (L : PL) (n : Int) : PL := L.filter fun p => !(p.1 == n)
def insL (x : Int × Int) : PL → PL
  | [] => [x]
  | y :: r => if x.1 < y.1 then x :: y :: r else y :: insL x r
def putL (L : PL) (n c : Int) : PL := insL (n, c) (delL L n)

theorem same_lit (a b : Int) : (klit a).sameKey (klit b) = (a == b) := by
  simp only [klit, Lit.sameKey]
  by_cases h : a = b <;> simp [h]
theorem dm_at (L : PL) (n : Int) : (dm L).atKey (klit n) (.lit (.int .i64 0)) = .lit (.int .i64 (cnt L n)) := by
  simp only [dm, DataW.atKey, cnt, List.find?_map]
  have : ((fun p : Lit × DataW Unit => p.1.sameKey (klit n)) ∘ de) = fun p : Int × Int => p.1 == n := by
    funext p
    simp only [Function.comp, de, same_lit]
  rw [this]
  cases L.find? fun p => p.1 == n <;> rfl
theorem dm_del (L : PL) (n : Int) : (dm L).del (klit n) = dm (delL L n) := by
  simp only [dm, DataW.del, delL, List.filter_map]
  congr 3
  funext p
  simp only [Function.comp, de, same_lit]
theorem ins_map (x : Int × Int) : ∀ L : PL, DataW.insert (de x) (L.map de) = (insL x L).map de
  | [] => rfl
  | y :: r => by
    simp only [List.map_cons, DataW.insert, insL]
    have : (de x).1.before (de y).1 = decide (x.1 < y.1) := rfl
    rw [this]
    by_cases h : x.1 < y.1
    · simp [h]
    · simp [h, ins_map x r]
theorem dm_put (L : PL) (n c : Int) : (dm L).put (klit n) (.lit (.int .i64 c)) = dm (putL L n c) := by
  have h := dm_del L n
  simp only [dm, DataW.del, DataW.map.injEq] at h
  simp only [dm, DataW.put, putL]
  rw [h]
  exact congrArg _ (ins_map (n, c) _)
theorem dm_size (L : PL) : Maps.size (dm L) = L.length := by simp [dm, Maps.size]

/-- Strictly rising. -/
def Rise (L : PL) : Prop := L.Pairwise fun p q => p.1 < q.1
theorem cnt_nil (n : Int) : cnt [] n = 0 := rfl
theorem cnt_cons (p : Int × Int) (L : PL) (n : Int) : cnt (p :: L) n = if p.1 = n then p.2 else cnt L n := by
  unfold cnt
  by_cases h : p.1 = n
  · simp [h]
  · simp [h]
theorem cnt_none {L : PL} {n : Int} (h : ∀ p ∈ L, p.1 ≠ n) : cnt L n = 0 := by
  induction L with
  | nil => rfl
  | cons p r ih =>
    rw [cnt_cons, if_neg (h p (by simp)), ih fun q hq => h q (by simp [hq])]
theorem cnt_mem {L : PL} (hr : Rise L) {p : Int × Int} (h : p ∈ L) : cnt L p.1 = p.2 := by
  induction L with
  | nil => cases h
  | cons q r ih =>
    rw [cnt_cons]
    have hr' := List.pairwise_cons.1 hr
    rcases List.mem_cons.1 h with e | e
    · subst e; rw [if_pos rfl]
    · have := hr'.1 p e
      rw [if_neg (by omega), ih hr'.2 e]
theorem cnt_ne {L : PL} {n : Int} (h : cnt L n ≠ 0) : ∃ p ∈ L, p.1 = n ∧ p.2 = cnt L n := by
  induction L with
  | nil => exact absurd rfl h
  | cons q r ih =>
    rw [cnt_cons] at h ⊢
    by_cases e : q.1 = n
    · rw [if_pos e]; exact ⟨q, by simp, e, rfl⟩
    · rw [if_neg e] at h ⊢
      obtain ⟨p, h1, h2⟩ := ih h
      exact ⟨p, by simp [h1], h2⟩
theorem mem_del {L : PL} {n : Int} {p : Int × Int} : p ∈ delL L n ↔ p ∈ L ∧ p.1 ≠ n := by simp [delL]
theorem mem_ins {x p : Int × Int} : ∀ {L : PL}, p ∈ insL x L ↔ p = x ∨ p ∈ L
  | [] => by simp [insL]
  | y :: r => by
    unfold insL
    split
    · simp
    · simp only [List.mem_cons, mem_ins (L := r)]
      constructor
      · rintro (h | h | h)
        · exact .inr (.inl h)
        · exact .inl h
        · exact .inr (.inr h)
      · rintro (h | h | h)
        · exact .inr (.inl h)
        · exact .inl h
        · exact .inr (.inr h)
theorem mem_put {L : PL} {n c : Int} {p : Int × Int} : p ∈ putL L n c ↔ p = (n, c) ∨ (p ∈ L ∧ p.1 ≠ n) := by rw [putL, mem_ins, mem_del]
theorem rise_del {L : PL} (h : Rise L) (n : Int) : Rise (delL L n) := List.Pairwise.filter _ h
theorem rise_ins {x : Int × Int} : ∀ {L : PL}, Rise L → (∀ p ∈ L, p.1 ≠ x.1) → Rise (insL x L)
  | [], _, _ => by simp [insL, Rise]
  | y :: r, h, hn => by
    have h' := List.pairwise_cons.1 h
    unfold insL
    split
    · rename_i hlt
      refine List.pairwise_cons.2 ⟨fun p hp => ?_, h⟩
      rcases List.mem_cons.1 hp with e | e
      · subst e; exact hlt
      · have := h'.1 p e; omega
    · rename_i hlt
      have hy := hn y (by simp)
      refine List.pairwise_cons.2 ⟨fun p hp => ?_, rise_ins h'.2 fun p hp => hn p (by simp [hp])⟩
      rcases mem_ins.1 hp with e | e
      · subst e; omega
      · exact h'.1 p e
theorem rise_put {L : PL} (h : Rise L) (n c : Int) : Rise (putL L n c) := rise_ins (rise_del h n) fun p hp => (mem_del.1 hp).2
theorem cnt_eq {L : PL} (hr : Rise L) {n c : Int} (h : (n, c) ∈ L) : cnt L n = c := cnt_mem hr h
theorem cnt_put {L : PL} (h : Rise L) (n c m : Int) : cnt (putL L n c) m = if m = n then c else cnt L m := by
  by_cases e : m = n
  · subst e
    rw [if_pos rfl]
    exact cnt_eq (rise_put h m c) (mem_put.2 (.inl rfl))
  · rw [if_neg e]
    by_cases h0 : ∃ p ∈ L, p.1 = m
    · obtain ⟨p, hp, e2⟩ := h0
      subst e2
      rw [cnt_mem h hp]
      exact cnt_mem (rise_put h n c) (mem_put.2 (.inr ⟨hp, e⟩))
    · rw [cnt_none (L := L) fun p hp e2 => h0 ⟨p, hp, e2⟩]
      refine cnt_none fun p hp e2 => ?_
      rcases mem_put.1 hp with e3 | e3
      · subst e3; exact e e2.symm
      · exact h0 ⟨p, e3.1, e2⟩
theorem cnt_del {L : PL} (h : Rise L) (n m : Int) : cnt (delL L n) m = if m = n then 0 else cnt L m := by
  by_cases e : m = n
  · subst e
    rw [if_pos rfl]
    exact cnt_none fun p hp => (mem_del.1 hp).2
  · rw [if_neg e]
    by_cases h0 : ∃ p ∈ L, p.1 = m
    · obtain ⟨p, hp, e2⟩ := h0
      subst e2
      rw [cnt_mem h hp]
      exact cnt_mem (rise_del h n) (mem_del.2 ⟨hp, e⟩)
    · rw [cnt_none (L := L) fun p hp e2 => h0 ⟨p, hp, e2⟩]
      exact cnt_none fun p hp e2 => h0 ⟨p, (mem_del.1 hp).1, e2⟩
theorem del_put {L : PL} (n c : Int) : delL (putL L n c) n = delL L n := by
  have h1 : ∀ (M : PL), delL (insL (n, c) M) n = delL M n := by
    intro M
    induction M with
    | nil => simp [insL, delL]
    | cons y r ih =>
      unfold insL
      split
      · simp [delL]
      · simp only [delL, List.filter_cons] at ih ⊢
        rw [ih]
  rw [putL, h1]
  simp [delL]

/-- Counts as plain data. -/
structure RfS where
  blocks : Int
  L : PL
  low : Int
structure RfS.Ok (S : RfS) (K : Nat) : Prop where
  b1 : 2 ≤ S.blocks
  b2 : S.blocks ≤ 4294967296
  rise : Rise S.L
  inB : ∀ p ∈ S.L, 2 ≤ p.1 ∧ p.1 < S.blocks ∧ 1 ≤ p.2 ∧ p.2 ≤ (K : Int)
  l1 : 2 ≤ S.low
  l2 : S.low ≤ S.blocks
  used : ∀ n, 2 ≤ n → n < S.low → cnt S.L n ≠ 0
theorem RfS.Ok.cnt0 {S : RfS} {K : Nat} (h : S.Ok K) (n : Int) : 0 ≤ cnt S.L n ∧ cnt S.L n ≤ (K : Int) := by
  by_cases e : cnt S.L n = 0
  · omega
  · obtain ⟨p, h1, h2, h3⟩ := cnt_ne e
    have := h.inB p h1
    omega
theorem RfS.Ok.out {S : RfS} {K : Nat} (h : S.Ok K) {n : Int} (hn : n < 2 ∨ S.blocks ≤ n) : cnt S.L n = 0 :=
  cnt_none fun p hp e => by have := h.inB p hp; omega
theorem RfS.Ok.put {S : RfS} {K : Nat} (h : S.Ok K) {n c : Int} (hn : 2 ≤ n ∧ n < S.blocks) (hc : 1 ≤ c ∧ c ≤ (K : Int) + 1) : (⟨S.blocks, putL S.L n c, S.low⟩ : RfS).Ok (K + 1) where
  b1 := h.b1
  b2 := h.b2
  rise := rise_put h.rise _ _
  inB := fun p hp => by
    rcases mem_put.1 hp with e | e
    · subst e; refine ⟨hn.1, hn.2, hc.1, ?_⟩; simp only; omega
    · have := h.inB p e.1; refine ⟨this.1, this.2.1, this.2.2.1, ?_⟩; omega
  l1 := h.l1
  l2 := h.l2
  used := fun m h1 h2 => by
    show cnt (putL S.L n c) m ≠ 0
    rw [cnt_put h.rise]
    by_cases e : m = n
    · rw [if_pos e]; omega
    · rw [if_neg e]; exact h.used m h1 h2
theorem RfS.Ok.del {S : RfS} {K : Nat} (h : S.Ok K) (n : Int) (hn : 2 ≤ n) : (⟨S.blocks, delL S.L n, min S.low n⟩ : RfS).Ok K where
  b1 := h.b1
  b2 := h.b2
  rise := rise_del h.rise _
  inB := fun p hp => h.inB p (mem_del.1 hp).1
  l1 := by have := h.l1; show 2 ≤ min S.low n; omega
  l2 := by have := h.l2; show min S.low n ≤ S.blocks; omega
  used := fun m h1 h2 => by
    have h2' : m < min S.low n := h2
    show cnt (delL S.L n) m ≠ 0
    rw [cnt_del h.rise, if_neg (by omega)]
    exact h.used m h1 (by omega)
theorem RfS.Ok.mono {S : RfS} {K K' : Nat} (h : S.Ok K) (hk : K ≤ K') : S.Ok K' :=
  { h with inB := fun p hp => by have := h.inB p hp; refine ⟨this.1, this.2.1, this.2.2.1, ?_⟩; omega }

/-- The least number that fits, or the one behind all of them. -/
def lst (f : Int → Bool) (low : Int) : Nat → Int
  | 0 => low
  | k + 1 => if f low = true then low else lst f (low + 1) k
theorem lst_spec (f : Int → Bool) : ∀ (k : Nat) (low : Int), low ≤ lst f low k ∧ lst f low k ≤ low + (k : Int) ∧ (∀ j, low ≤ j → j < lst f low k → f j = false) ∧ (lst f low k < low + (k : Int) → f (lst f low k) = true)
  | 0, low => by simp only [lst]; refine ⟨by omega, by omega, fun j h1 h2 => by omega, fun h => by omega⟩
  | k + 1, low => by
    simp only [lst]
    split
    · rename_i h
      exact ⟨by omega, by omega, fun j h1 h2 => by omega, fun _ => h⟩
    · rename_i h
      obtain ⟨h1, h2, h3, h4⟩ := lst_spec f k (low + 1)
      refine ⟨by omega, by omega, fun j j1 j2 => ?_, fun hl => h4 (by omega)⟩
      by_cases e : j = low
      · subst e; simpa using h
      · exact h3 j (by omega) j2
theorem lst_is (f : Int → Bool) (k : Nat) (low n : Int) (h1 : low ≤ n) (h2 : n ≤ low + (k : Int)) (h3 : ∀ j, low ≤ j → j < n → f j = false) (h4 : n < low + (k : Int) → f n = true) : lst f low k = n := by
  obtain ⟨a1, a2, a3, a4⟩ := lst_spec f k low
  by_cases e1 : lst f low k < n
  · have x := a4 (by omega)
    rw [h3 _ a1 e1] at x; cases x
  · by_cases e2 : n < lst f low k
    · have x := h4 (by omega)
      rw [a3 n h1 e2] at x; cases x
    · omega

/-! What each call makes of it. -/
def RfS.new (n : Int) : RfS := ⟨min (max n 2) 4294967296, [], 2⟩
def RfS.has (S : RfS) (n : Int) : Bool := decide (2 ≤ n ∧ n < S.blocks)
def RfS.next (S : RfS) : Int := lst (fun n => cnt S.L n == 0) S.low (S.blocks - S.low).toNat
def RfS.take (S : RfS) : RfS := ⟨S.blocks, if S.next = S.blocks then S.L else putL S.L S.next 1, S.next⟩
def RfS.tookN (S : RfS) : Int := if S.next = S.blocks then 0 else S.next
def RfS.took (S : RfS) : Bool := !(S.next == S.blocks)
def RfS.need (S : RfS) (n : Int) : Int := if S.has n = false then 1 else if cnt S.L n = 0 then 13 else 0
def RfS.inc (S : RfS) (n : Int) : RfS := if S.need n = 0 then ⟨S.blocks, putL S.L n (cnt S.L n + 1), S.low⟩ else S
def RfS.dec (S : RfS) (n : Int) : RfS := if S.need n = 0 then (if cnt S.L n = 1 then ⟨S.blocks, delL S.L n, min S.low n⟩ else ⟨S.blocks, putL S.L n (cnt S.L n - 1), S.low⟩) else S
def RfS.last (S : RfS) (n : Int) : Bool := decide (S.need n = 0 ∧ cnt S.L n = 1)
def RfS.mark (S : RfS) (n : Int) : RfS := if S.has n = true then ⟨S.blocks, putL S.L n (cnt S.L n + 1), S.low⟩ else S
def RfS.first (S : RfS) (n : Int) : Bool := decide (S.has n = true ∧ cnt S.L n = 0)
def RfS.merr (S : RfS) (n : Int) : Int := if S.has n = true then 0 else 1
def RfS.free (S : RfS) : Int := S.blocks - 2 - (S.L.length : Int)
def RfS.usedL (S : RfS) : List Int := S.L.map Prod.fst

theorem RfS.new_ok (n : Int) : (RfS.new n).Ok 0 where
  b1 := by show 2 ≤ min (max n 2) 4294967296; omega
  b2 := by show min (max n 2) 4294967296 ≤ 4294967296; omega
  rise := by simp [RfS.new, Rise]
  inB := fun p hp => by cases hp
  l1 := by show (2 : Int) ≤ 2; omega
  l2 := by show (2 : Int) ≤ min (max n 2) 4294967296; omega
  used := fun m h1 h2 => by have : m < 2 := h2; omega
theorem RfS.Ok.next {S : RfS} {K : Nat} (h : S.Ok K) : 2 ≤ S.next ∧ S.next ≤ S.blocks ∧ (∀ j, 2 ≤ j → j < S.next → cnt S.L j ≠ 0) ∧ (S.next < S.blocks → cnt S.L S.next = 0) := by
  obtain ⟨a1, a2, a3, a4⟩ := lst_spec (fun n => cnt S.L n == 0) (S.blocks - S.low).toNat S.low
  have h1 := h.l1
  have h2 := h.l2
  refine ⟨by unfold RfS.next; omega, by unfold RfS.next; omega, fun j j1 j2 => ?_, fun hl => ?_⟩
  · by_cases e : j < S.low
    · exact h.used j j1 e
    · have := a3 j (by omega) j2
      simpa using this
  · have := a4 (by unfold RfS.next at hl; omega)
    unfold RfS.next
    simpa using this
theorem RfS.next_is {S : RfS} {K : Nat} (h : S.Ok K) {n : Int} (h1 : 2 ≤ n) (h2 : n ≤ S.blocks) (h3 : ∀ j, 2 ≤ j → j < n → cnt S.L j ≠ 0) (h4 : n < S.blocks → cnt S.L n = 0) : S.next = n := by
  obtain ⟨a1, a2, a3, a4⟩ := h.next
  by_cases e1 : S.next < n
  · exact absurd (a4 (by omega)) (h3 _ a1 e1)
  · by_cases e2 : n < S.next
    · exact absurd (h4 (by omega)) (a3 _ h1 e2)
    · omega
theorem RfS.Ok.take {S : RfS} {K : Nat} (h : S.Ok K) : S.take.Ok (K + 1) := by
  obtain ⟨a1, a2, a3, a4⟩ := h.next
  unfold RfS.take
  by_cases e : S.next = S.blocks
  · rw [if_pos e]
    have hp := h.mono (Nat.le_succ K)
    exact ⟨hp.b1, hp.b2, hp.rise, hp.inB, a1, a2, a3⟩
  · rw [if_neg e]
    have hu : ∀ m, 2 ≤ m → m < S.next → cnt (putL S.L S.next 1) m ≠ 0 := fun m m1 m2 => by
      rw [cnt_put h.rise, if_neg (by omega)]
      exact a3 m m1 m2
    have hp := h.put (n := S.next) (c := 1) ⟨a1, by omega⟩ ⟨Int.le_refl _, by omega⟩
    exact ⟨hp.b1, hp.b2, hp.rise, hp.inB, a1, a2, hu⟩
theorem RfS.has_iff {S : RfS} {n : Int} : S.has n = true ↔ 2 ≤ n ∧ n < S.blocks := by unfold RfS.has; simp
theorem RfS.need_zero {S : RfS} {n : Int} (h : S.need n = 0) : S.has n = true ∧ cnt S.L n ≠ 0 := by
  unfold RfS.need at h
  cases e : S.has n
  · rw [e] at h; simp at h
  · rw [e] at h; simp only [Bool.true_eq_false, if_false] at h
    refine ⟨rfl, fun e2 => ?_⟩
    rw [if_pos e2] at h; omega
theorem RfS.Ok.inc {S : RfS} {K : Nat} (h : S.Ok K) (n : Int) : (S.inc n).Ok (K + 1) := by
  unfold RfS.inc
  split
  · rename_i e
    have e1 := RfS.has_iff.1 (RfS.need_zero e).1
    have e2 := h.cnt0 n
    exact h.put e1 ⟨by omega, by omega⟩
  · exact h.mono (Nat.le_succ K)
theorem RfS.Ok.mark {S : RfS} {K : Nat} (h : S.Ok K) (n : Int) : (S.mark n).Ok (K + 1) := by
  unfold RfS.mark
  split
  · rename_i e
    have e1 := RfS.has_iff.1 e
    have e2 := h.cnt0 n
    exact h.put e1 ⟨by omega, by omega⟩
  · exact h.mono (Nat.le_succ K)
theorem RfS.Ok.dec {S : RfS} {K : Nat} (h : S.Ok K) (n : Int) : (S.dec n).Ok (K + 1) := by
  unfold RfS.dec
  split
  · rename_i e
    have e1 := RfS.has_iff.1 (RfS.need_zero e).1
    have e2 := h.cnt0 n
    have e3 := (RfS.need_zero e).2
    split
    · exact (h.del n e1.1).mono (Nat.le_succ K)
    · exact h.put e1 ⟨by omega, by omega⟩
  · exact h.mono (Nat.le_succ K)
theorem RfS.take_blocks (S : RfS) : S.take.blocks = S.blocks := rfl
theorem RfS.inc_blocks (S : RfS) (n : Int) : (S.inc n).blocks = S.blocks := by unfold RfS.inc; split <;> rfl
theorem RfS.mark_blocks (S : RfS) (n : Int) : (S.mark n).blocks = S.blocks := by unfold RfS.mark; split <;> rfl
theorem RfS.dec_blocks (S : RfS) (n : Int) : (S.dec n).blocks = S.blocks := by unfold RfS.dec; split; split <;> rfl; rfl
end Go.Proofs.YtjhdnpplmlddaaaGreat
/- Refs in memory, as package refs lays them: the map's operations at the walk; New and the calls that only look at one block. -/
namespace Go.Proofs.YtjhdnpplmlddaaaGreat
set_option linter.unusedVariables false
open Go.RowKit
attribute [local go_sem ↓] Go.wp_at_zero Go.wp_at_succ

/-- Block b is the map of the counts L, of at most K entries. -/
def MapR (w : World) (b K : Nat) (L : PL) : Prop := w.ownsMap Tryz.prog 3 (plainElem Tryz.prog 3) b K (dm L)
theorem MapR.lt {w : World} {b K : Nat} {L : PL} (h : MapR w b K L) : b < w.heap.size := World.ownsMap.lt h
theorem MapR.kept {w w' : World} {b K : Nat} {L : PL} (h : MapR w b K L) (hb : w'.heap[b]? = w.heap[b]?) : MapR w' b K L := by
  obtain ⟨es, clock, h1, h2⟩ := h
  exact ⟨es, clock, hb.trans h1, h2⟩
theorem MapR.mono {w : World} {b K K' : Nat} {L : PL} (h : MapR w b K L) (hn : K ≤ K') : MapR w b K' L := World.ownsMap.mono h hn
theorem zero_int (w : World) : (zeroValue 3).run Tryz.prog w = .ok (.int .i64 0) w := by kernel_rfl
theorem MapR.look {w : World} {b K : Nat} {L : PL} (h : MapR w b K L) {k : Int} (hk : I64 k) :
    (Instr.lookup 106 (.map (some b)) (.int .i64 k) false).run Tryz.prog w = .ok (.int .i64 (cnt L k)) w := by
  obtain ⟨c, hrun, hat, _⟩ := World.ownsMap.lookup_int (t := 106) h keyed_int Tryz.underlying106 Tryz.underlying3 (zero_int w) (key_is hk)
  rw [dm_at] at hat
  have e : cnt L k = c := by simpa using hat
  rw [hrun, e]
theorem MapR.len {w : World} {b K : Nat} {L : PL} (h : MapR w b K L) (ty : TypeId) : (Builtin.len_ #[106] ty #[.map (some b)]).run Tryz.prog w = .ok (.int .i64 (L.length : Int)) w := by
  have := World.ownsMap.len (t := 106) h Tryz.underlying106 ty
  rw [dm_size] at this
  exact this
theorem MapR.size {w : World} {b K : Nat} {L : PL} (h : MapR w b K L) : L.length ≤ K := by
  have := World.ownsMap.size_le h
  rw [dm_size] at this
  exact this
theorem MapR.store {w : World} {b K : Nat} {L : PL} (h : MapR w b K L) (hn : K < maxLen) {k c : Int} (hk : I64 k) (hc : I64 c) :
    ∃ w', (Instr.mapUpdate 106 (.map (some b)) (.int .i64 k) (.int .i64 c)).run Tryz.prog w = .ok () w' ∧ MapR w' b (K + 1) (putL L k c) ∧ w.grownBy w' (some b) := by
  obtain ⟨w', hrun, ho, hg⟩ := World.ownsMap.update (t := 106) h keyed_int Tryz.underlying106 hn (key_is hk) (plainElem_int Tryz.underlying3 hc.wf)
  rw [dm_put] at ho
  exact ⟨w', hrun, ho, hg⟩
theorem MapR.drop {w : World} {b K : Nat} {L : PL} (h : MapR w b K L) {k : Int} (hk : I64 k) (ty : TypeId) :
    ∃ w', (Builtin.delete_ #[106, 3] ty #[.map (some b), .int .i64 k]).run Tryz.prog w = .ok (.tuple #[]) w' ∧ MapR w' b K (delL L k) ∧ w.grownBy w' (some b) := by
  obtain ⟨w', hrun, ho, ht⟩ := World.ownsMap.drop (t := 106) h keyed_int Tryz.underlying106 (key_is hk) ty
  rw [dm_del] at ho
  exact ⟨w', hrun, ho, ht.grown⟩
/-- A store at the operation, for the walk. -/
theorem wpList_store_r (w : World) {ops : Array Oper} {rest : List Oper} {o : Oper} {a : Act} {Q : Exit → Act → World → Prop} (hg : o.guard = none) (m x v : Operand) (hop : o.op = Op.mapUpdate 106 m x v)
    (b K : Nat) (L : PL) (hm : a.eval m = .map (some b)) (h : MapR w b K L) (hn : K < maxLen) (k : Int) (hk : I64 k) (hx : a.eval x = .int .i64 k) (c : Int) (hc : I64 c) (hv : a.eval v = .int .i64 c)
    (hK : ∀ w', MapR w' b (K + 1) (putL L k c) → w.grownBy w' (some b) → wpList Tryz.prog ops Q rest (a.put o.dst undef) w') : wpList Tryz.prog ops Q (o :: rest) a w := by
  refine wpList_plain hg fun K' hK' => ?_
  obtain ⟨w', hrun, r1, r2⟩ := h.store hn hk hc
  unfold Oper.wp
  simp [execOp, hop, hm, hx, hv, hrun, Result.andThen]
  exact hK' _ _ (hK w' r1 r2)
/-- A delete at the operation, for the walk. -/
theorem wpList_delete_r (w : World) {ops : Array Oper} {rest : List Oper} {o : Oper} {a : Act} {Q : Exit → Act → World → Prop} (hg : o.guard = none) (m x : Operand)
    (hop : o.op = Op.call { callee := Callee.builtin Builtin.delete, args := #[m, x], argTypes := #[106, 3] })
    (b K : Nat) (L : PL) (hm : a.eval m = .map (some b)) (h : MapR w b K L) (k : Int) (hk : I64 k) (hx : a.eval x = .int .i64 k)
    (hK : ∀ w', MapR w' b K (delL L k) → w.grownBy w' (some b) → wpList Tryz.prog ops Q rest (a.put o.dst (.tuple #[])) w') : wpList Tryz.prog ops Q (o :: rest) a w := by
  refine wpList_plain hg fun K' hK' => ?_
  obtain ⟨w', hrun, r1, r2⟩ := h.drop hk o.type
  unfold Oper.wp
  simp [execOp, hop, resolve, invoke, builtin, hm, hx, hrun, Result.andThen]
  exact hK' _ _ (hK w' r1 r2)
theorem MapR.made (w : World) : MapR (w.alloc (.map #[] 0)) w.heap.size 0 [] := World.ownsMap_made w _ _ _

/-- Refs in memory: the struct in block p, its map in block b. -/
structure Rf (w : World) (p b K : Nat) (S : RfS) : Prop where
  ok : S.Ok K
  blk : w.heap[p]? = some (.cells #[.int .i64 S.blocks, .map (some b), .int .i64 S.low] 108 (0, 0))
  mp : MapR w b K S.L
  pb : p ≠ b
theorem lt_block {w : World} {k : Nat} {o : Obj} (h : w.heap[k]? = some o) : k < w.heap.size := (Array.getElem?_eq_some_iff.1 h).1
theorem Rf.lt {w : World} {p b K : Nat} {S : RfS} (h : Rf w p b K S) : p < w.heap.size ∧ b < w.heap.size := ⟨lt_block h.blk, h.mp.lt⟩
theorem Rf.kept {w w' : World} {p b K : Nat} {S : RfS} (h : Rf w p b K S) (hp : w'.heap[p]? = w.heap[p]?) (hb : w'.heap[b]? = w.heap[b]?) : Rf w' p b K S := ⟨h.ok, hp.trans h.blk, h.mp.kept hb, h.pb⟩
theorem Rf.below {w w' : World} {p b K : Nat} {S : RfS} (h : Rf w p b K S) {B : Nat} (hb : Below B w w') (hB : w.heap.size ≤ B) : Rf w' p b K S := by
  have := h.lt
  exact h.kept (hb.block p (by omega)) (hb.block b (by omega))
theorem Rf.mono {w : World} {p b K K' : Nat} {S : RfS} (h : Rf w p b K S) (hk : K ≤ K') : Rf w p b K' S := ⟨h.ok.mono hk, h.blk, h.mp.mono hk, h.pb⟩
/-- What a call comes to: the same blocks, other contents; all else stands. -/
def RGo (w : World) (p b K : Nat) (S' : RfS) (w' : World) : Prop := Rf w' p b (K + 1) S' ∧ Touch p (some b) w w'

set_option maxHeartbeats 400000 in
theorem has_calls (w : World) (p b K : Nat) (S : RfS) (n : Int) (h : Rf w p b K S) : Calls Tryz.prog 126 #[.pointer (some ⟨p, 0, none⟩), .int .i64 n] w fun e w' => e = .returned (.bool (S.has n)) ∧ w' = w := by
  obtain ⟨c0, _⟩ := cells3 h.blk
  clear h
  by_cases h0 : 2 ≤ n
  · have E : Hid (S.has n = decide (n < S.blocks)) := by show _ = _; unfold RfS.has; simp [h0]
    go_enter Tryz.func126, Tryz.ntmps126
    go_wp2
    go_ret
    exact ⟨by rw [E.out]; rfl, rfl⟩
  · have E : Hid (S.has n = false) := by show _ = _; unfold RfS.has; simp [h0]
    go_enter Tryz.func126, Tryz.ntmps126
    go_wp2
    go_ret
    exact ⟨by rw [E.out]; rfl, rfl⟩
set_option maxHeartbeats 400000 in
theorem count_calls (w : World) (p b K : Nat) (S : RfS) (n : Int) (h : Rf w p b K S) (hn : I64 n) : Calls Tryz.prog 44 #[.pointer (some ⟨p, 0, none⟩), .int .i64 n] w fun e w' => e = .returned (.int .i64 (cnt S.L n)) ∧ w' = w := by
  obtain ⟨_, c1, _⟩ := cells3 h.blk
  have hl := h.mp.look hn
  clear h
  go_enter Tryz.func44, Tryz.ntmps44
  go_wp2
  go_ret
  exact ⟨rfl, rfl⟩
set_option maxHeartbeats 400000 in
theorem needed_calls (w : World) (p b K : Nat) (S : RfS) (n : Int) (h : Rf w p b K S) (hn : I64 n) : Calls Tryz.prog 123 #[.pointer (some ⟨p, 0, none⟩), .int .i64 n] w fun e w' => e = .returned (.int .i64 (S.need n)) ∧ w' = w := by
  obtain ⟨_, c1, _⟩ := cells3 h.blk
  have hl := h.mp.look hn
  have hh := has_calls w p b K S n h
  clear h
  cases hb : S.has n with
  | false =>
    have E : Hid (S.need n = 1) := by show _ = _; unfold RfS.need; rw [if_pos hb]
    rw [hb] at hh
    clear hb
    go_enter Tryz.func123, Tryz.ntmps123
    go_wp2_with (go_at_call 126; refine hh.mono ?_; rintro e w1 ⟨rfl, rfl⟩)
    go_ret
    exact ⟨by rw [E.out]; rfl, rfl⟩
  | true =>
    rw [hb] at hh
    by_cases hz : cnt S.L n = 0
    · have E : Hid (S.need n = 13) := by show _ = _; unfold RfS.need; rw [if_neg (by rw [hb]; simp), if_pos hz]
      rw [hz] at hl
      clear hb hz
      go_enter Tryz.func123, Tryz.ntmps123
      go_wp2_with (go_at_call 126; refine hh.mono ?_; rintro e w1 ⟨rfl, rfl⟩)
      go_ret
      exact ⟨by rw [E.out]; rfl, rfl⟩
    · have E : Hid (S.need n = 0) := by show _ = _; unfold RfS.need; rw [if_neg (by rw [hb]; simp), if_neg hz]
      clear hb
      have hz2 : (cnt S.L n == 0) = false := by simpa using hz
      clear hz
      generalize cnt S.L n = c at *
      go_enter Tryz.func123, Tryz.ntmps123
      go_wp2_with (go_at_call 126; refine hh.mono ?_; rintro e w1 ⟨rfl, rfl⟩)
      go_ret
      exact ⟨by rw [E.out]; rfl, rfl⟩
set_option maxHeartbeats 400000 in
theorem free_calls (w : World) (p b K : Nat) (S : RfS) (h : Rf w p b K S) (hK : K ≤ 1000000) : Calls Tryz.prog 37 #[.pointer (some ⟨p, 0, none⟩)] w fun e w' => e = .returned (.int .i64 S.free) ∧ ∃ n, w' = w.drewN n := by
  obtain ⟨c0, c1, _⟩ := cells3 h.blk
  have hl := (h.mp.kept (w' := w.drew) rfl).len 3
  have hs := h.mp.size
  have h1 := h.ok.b1
  have h2 := h.ok.b2
  have E : Hid (S.free = S.blocks - 2 - (S.L.length : Int)) := rfl
  clear h
  generalize S.L.length = len at *
  generalize S.blocks = B at *
  go_enter Tryz.func37, Tryz.ntmps37
  go_wp2
  go_region
  go_wp2
  go_ret
  exact ⟨by rw [E.out]; rfl, _, rfl⟩

def newW (w : World) (b : Int) : World := (w.alloc (.map #[] 0)).alloc (.cells #[.int .i64 b, .map (some w.heap.size), .int .i64 2] 108)
theorem new_is (w : World) (n b : Int) (hb : b = (RfS.new n).blocks) : Rf (newW w b) (w.heap.size + 1) w.heap.size 0 (RfS.new n) ∧ Below w.heap.size w (newW w b) := by
  subst hb
  refine ⟨⟨RfS.new_ok n, ?_, ?_, by omega⟩, (((Below.refl _ _).alloc (Nat.le_refl _) _).alloc (by simp) _)⟩
  · have h1 := heap_alloc_new (w.alloc (.map #[] 0)) (.cells #[.int .i64 (RfS.new n).blocks, .map (some w.heap.size), .int .i64 2] 108)
    have h2 : (w.alloc (.map #[] 0)).heap.size = w.heap.size + 1 := by simp
    rw [h2] at h1
    exact h1
  · refine (MapR.made w).kept ?_
    unfold newW
    rw [Below.heap_alloc _ _ _ (by simp)]
set_option maxHeartbeats 400000 in
theorem new_calls (w : World) (n : Int) (hn : I64 n) : Calls Tryz.prog 22 #[.int .i64 n] w fun e w' => e = .returned (.pointer (some ⟨w.heap.size + 1, 0, none⟩)) ∧ Rf w' (w.heap.size + 1) w.heap.size 0 (RfS.new n) ∧ Below w.heap.size w w' := by
  have R := new_is w n
  unfold newW at R
  have e : (RfS.new n).blocks = min (max n 2) 4294967296 := rfl
  rw [e] at R
  have hmm := @run_makeMap Tryz.prog
  clear e hn
  go_enter Tryz.func22, Tryz.ntmps22
  go_wp2
  all_goals
    go_ret
    refine ⟨rfl, R _ (by omega)⟩
end Go.Proofs.YtjhdnpplmlddaaaGreat
