/- The document's own refs in memory: a list of numbers with their counts, rising; what its set, its count and its search come to as plain data. -/
import Derived.Test.YtpgepejleklpfaaRfW
import Derived.Deep.AppendLies
namespace Go.Proofs.Ytpgepejleklpfaa
set_option linter.unusedVariables false
open Go.RowKit

def f2 (L : PL) : List Value := L.flatMap fun p => [.int .i64 p.1, .int .i64 p.2]
theorem f2_length (L : PL) : (f2 L).length = L.length * 2 := by
  induction L with
  | nil => rfl
  | cons p r ih => simp [f2] at ih ⊢; omega
theorem f2_append (A B : PL) : f2 (A ++ B) = f2 A ++ f2 B := by simp [f2]
theorem f2_cons (p : Int × Int) (r : PL) : f2 (p :: r) = .int .i64 p.1 :: .int .i64 p.2 :: f2 r := rfl
theorem f2_at : ∀ (L : PL) (i : Nat) (h : i < L.length), (f2 L)[i * 2]? = some (.int .i64 L[i].1) ∧ (f2 L)[i * 2 + 1]? = some (.int .i64 L[i].2)
  | [], i, h => by simp at h
  | p :: r, 0, _ => ⟨rfl, rfl⟩
  | p :: r, i + 1, h => by
    have := f2_at r i (by simpa using h)
    rw [f2_cons]
    have e : (i + 1) * 2 = i * 2 + 1 + 1 := by omega
    rw [e]
    simpa using this
theorem f2_one (L : PL) : ∀ u ∈ f2 L, u.oneCell' = true := by
  intro u hu
  simp only [f2, List.mem_flatMap] at hu
  obtain ⟨p, _, hp⟩ := hu
  simp at hp
  rcases hp with rfl | rfl <;> rfl

/-- The document's refs: the struct in block q, its list in a row. -/
structure RD (w : World) (q : Nat) (lv : Value) (B : Int) (L : PL) (bs : Nat) : Prop where
  blk : w.heap[q]? = some (.cells #[.int .i64 B, lv] 56 (0, 0))
  row : w.ownsRow bs 60 2 lv L.length (f2 L)
  far : ∀ k, lv.ownBlock = some k → k ≠ q
theorem RD.lt {w : World} {q bs : Nat} {lv : Value} {B : Int} {L : PL} (h : RD w q lv B L bs) : q < w.heap.size := lt_block h.blk
theorem row2_kept {w w' : World} {bs n : Nat} {lv : Value} {xs : List Value} {t : TypeId} (h : w.ownsRow bs t 2 lv n xs) (hb : ∀ k, lv.ownBlock = some k → w'.heap[k]? = w.heap[k]?) : w'.ownsRow bs t 2 lv n xs := by
  refine ⟨h.1, ?_⟩
  rcases h.2 with e | ⟨g, cap, cur, rfl, h3, h4, h5⟩
  · exact .inl e
  · exact .inr ⟨g, cap, cur, rfl, h3, (hb g rfl).trans h4, h5⟩
theorem RD.kept {w w' : World} {q bs : Nat} {lv : Value} {B : Int} {L : PL} (h : RD w q lv B L bs) (hq : w'.heap[q]? = w.heap[q]?) (hb : ∀ k, lv.ownBlock = some k → w'.heap[k]? = w.heap[k]?) : RD w' q lv B L bs := ⟨hq.trans h.blk, row2_kept h.row hb, h.far⟩
theorem RD.below {w w' : World} {q bs C : Nat} {lv : Value} {B : Int} {L : PL} (h : RD w q lv B L bs) (hb : Below C w w') (hC : w.heap.size ≤ C) : RD w' q lv B L bs :=
  h.kept (hb.block q (by have := h.lt; omega)) (fun k hk => hb.block k (by have := (h.row.lt k hk).2; omega))
theorem RD.form {w : World} {q bs : Nat} {lv : Value} {B : Int} {L : PL} (h : RD w q lv B L bs) : ∃ a c, lv = .slice a L.length c := by
  rcases h.row.2 with ⟨e, e2⟩ | ⟨g, cap, cur, e, _⟩
  · exact ⟨none, 0, by rw [e, e2]⟩
  · exact ⟨_, cap, e⟩
theorem RD.at {w : World} {q bs : Nat} {lv : Value} {B : Int} {L : PL} (h : RD w q lv B L bs) {i : Nat} (hi : i < L.length) : ∃ g c, lv = .slice (some ⟨g, 0, none⟩) L.length c ∧ L.length ≤ c ∧ w.cell? ⟨g, i * 2, none⟩ = some (.int .i64 L[i].1) ∧ w.cell? ⟨g, i * 2 + 1, none⟩ = some (.int .i64 L[i].2) := by
  rcases h.row.2 with ⟨e, e2⟩ | ⟨g, cap, cur, rfl, h3, h4, h5, _⟩
  · omega
  · have c1 := World.ownsRow.cellAt h.row (i * 2) (by omega)
    have c2 := World.ownsRow.cellAt h.row (i * 2 + 1) (by omega)
    exact ⟨g, cap, rfl, h5, by rw [c1]; exact (f2_at L i hi).1, by rw [c2]; exact (f2_at L i hi).2⟩
theorem RD.max {w : World} {q bs : Nat} {lv : Value} {B : Int} {L : PL} (h : RD w q lv B L bs) : L.length ≤ maxLen := by
  rcases h.row.2 with ⟨_, e2⟩ | ⟨g, cap, cur, e, _, _, h5, h6, _⟩
  · rw [e2]; exact Nat.zero_le _
  · omega
theorem Try.info_ref : (Try.prog.info? 60).map (fun i => (i.zero, i.size, i.bytes)) = some (some (.agg #[.int .i64 0, .int .i64 0]), 2, 16) := by kernel_rfl

/-! The document's set. -/
def setL (L : PL) (n c : Int) : PL := if c = 0 then delL L n else putL L n c
def goR (n c : Int) : Bool → PL → PL
  | true, [] => []
  | false, [] => [(n, c)]
  | true, p :: r => if p.1 = n then goR n c true r else p :: goR n c true r
  | false, p :: r => if n ≤ p.1 then (if p.1 = n then (n, c) :: goR n c true r else (n, c) :: p :: goR n c true r) else p :: goR n c false r
theorem goR_true (n c : Int) : ∀ L : PL, goR n c true L = delL L n
  | [] => rfl
  | p :: r => by
    simp only [goR, delL, List.filter_cons]
    have ih := goR_true n c r
    unfold delL at ih
    by_cases e : p.1 = n
    · simp [e, ih]
    · simp [e, ih]
theorem del_none {L : PL} {n : Int} (h : ∀ p ∈ L, p.1 ≠ n) : delL L n = L := List.filter_eq_self.2 fun p hp => by simpa using h p hp
theorem ins_low {x : Int × Int} {L : PL} (h : ∀ p ∈ L, x.1 < p.1) : insL x L = x :: L := by
  cases L with
  | nil => rfl
  | cons p r => simp only [insL, if_pos (h p (by simp))]
theorem goR_false (n c : Int) : ∀ L : PL, Rise L → goR n c false L = putL L n c
  | [], _ => rfl
  | p :: r, h => by
    have h' := List.pairwise_cons.1 h
    simp only [goR, goR_true]
    by_cases e : n ≤ p.1
    · rw [if_pos e]
      have hr : ∀ q ∈ r, q.1 ≠ n := fun q hq => by have := h'.1 q hq; omega
      by_cases e2 : p.1 = n
      · rw [if_pos e2]
        have : delL (p :: r) n = delL r n := by simp [delL, e2]
        rw [putL, this, del_none hr, ins_low fun q hq => by have := h'.1 q hq; simp only; omega]
      · rw [if_neg e2]
        have : delL (p :: r) n = p :: r := del_none fun q hq => by
          rcases List.mem_cons.1 hq with e3 | e3
          · rw [e3]; exact e2
          · exact hr q e3
        rw [putL, this, del_none hr, ins_low fun q hq => by
          rcases List.mem_cons.1 hq with e3 | e3
          · rw [e3]; simp only; omega
          · have := h'.1 q e3; simp only; omega]
    · rw [if_neg e, goR_false n c r h'.2]
      have : delL (p :: r) n = p :: delL r n := by
        have e2 : ¬ (p.1 = n) := by omega
        simp [delL, e2]
      rw [putL, putL, this]
      simp only [insL, if_neg (show ¬ n < p.1 by omega)]
theorem goR_set (n c : Int) (L : PL) (h : Rise L) : goR n c (c == 0) L = setL L n c := by
  unfold setL
  by_cases e : c = 0
  · rw [if_pos e, show (c == 0) = true by simpa using e]; exact goR_true n c L
  · rw [if_neg e, show (c == 0) = false by simpa using e]; exact goR_false n c L h
/-- The length of the run from 2 on. -/
theorem run_free {L : PL} (hr : Rise L) (h2 : ∀ p ∈ L, 2 ≤ p.1) {i : Nat} (hi : i ≤ L.length) (hrun : ∀ j (hj : j < L.length), j < i → L[j].1 = 2 + (j : Int)) (hend : i = L.length ∨ ∃ h : i < L.length, L[i].1 ≠ 2 + (i : Int)) :
    (∀ m, 2 ≤ m → m < 2 + (i : Int) → ∃ p ∈ L, p.1 = m) ∧ cnt L (2 + (i : Int)) = 0 := by
  refine ⟨fun m a b => ?_, cnt_none fun p hp => ?_⟩
  · obtain ⟨j, rfl⟩ : ∃ j : Nat, m = 2 + (j : Int) := ⟨(m - 2).toNat, by omega⟩
    exact ⟨L[j]'(by omega), List.getElem_mem _, hrun j (by omega) (by omega)⟩
  · obtain ⟨j, hj, rfl⟩ := List.mem_iff_getElem.1 hp
    by_cases e : j < i
    · rw [hrun j hj e]; omega
    · rcases hend with e2 | ⟨h, e2⟩
      · omega
      · have hlo : 2 + (i : Int) ≤ L[i].1 := by
          by_cases e0 : i = 0
          · have := h2 L[i] (List.getElem_mem _); omega
          · have h3 := List.pairwise_iff_getElem.1 hr (i - 1) i (by omega) h (by omega)
            rw [hrun (i - 1) (by omega) (by omega)] at h3
            omega
        by_cases e3 : j = i
        · subst e3; exact e2
        · have h3 := List.pairwise_iff_getElem.1 hr i j h hj (by omega)
          omega
end Go.Proofs.Ytpgepejleklpfaa
