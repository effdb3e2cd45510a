/- The document's own device in memory: a list of blocks, each a number, what is flushed, what is newest; the numbers of the loose ones; the crash to come. Plain lemmas, and the calls that only look. -/
import Derived.Test.YtmemhckkfhlnmaaCrashL
import Derived.Deep.QuietTactic
import Derived.BigQuiet
namespace Go.Proofs.Ytmemhckkfhlnmaa
set_option linter.unusedVariables false
open Go.RowKit
attribute [local go_sem ↓] Go.wp_at_zero Go.wp_at_succ

/-- The list of blocks as cells. -/
def lcells (fl nw : Int → List UInt8) (ns : List Int) : List Value := ns.flatMap fun n => [.int .i64 n, .string (str (fl n)), .string (str (nw n))]
/-- A function with another value at one number. -/
def upd (f : Int → List UInt8) (n : Int) (v : List UInt8) : Int → List UInt8 := fun k => if k = n then v else f k
theorem lcells_length (fl nw : Int → List UInt8) (ns : List Int) : (lcells fl nw ns).length = ns.length * 3 := by
  induction ns with
  | nil => rfl
  | cons a l ih => simp [lcells] at ih ⊢; omega
theorem lcells_cons (fl nw : Int → List UInt8) (a : Int) (l : List Int) : lcells fl nw (a :: l) = .int .i64 a :: .string (str (fl a)) :: .string (str (nw a)) :: lcells fl nw l := rfl
theorem lcells_append (fl nw : Int → List UInt8) (a b : List Int) : lcells fl nw (a ++ b) = lcells fl nw a ++ lcells fl nw b := by simp [lcells]
theorem lcells_one (fl nw : Int → List UInt8) (ns : List Int) : ∀ u ∈ lcells fl nw ns, u.oneCell' = true := by
  intro u hu
  simp only [lcells, List.mem_flatMap] at hu
  obtain ⟨n, _, hu⟩ := hu
  simp at hu
  rcases hu with rfl | rfl | rfl <;> rfl
theorem lcells_at (fl nw : Int → List UInt8) (ns : List Int) (j : Nat) (h : j < ns.length) :
    (lcells fl nw ns)[j * 3]? = some (.int .i64 ns[j]) ∧ (lcells fl nw ns)[j * 3 + 1]? = some (.string (str (fl ns[j]))) ∧ (lcells fl nw ns)[j * 3 + 2]? = some (.string (str (nw ns[j]))) := by
  induction ns generalizing j with
  | nil => simp at h
  | cons a l ih =>
    rw [lcells_cons]
    cases j with
    | zero => exact ⟨rfl, rfl, rfl⟩
    | succ j =>
      have := ih j (by simpa using h)
      rw [show (j + 1) * 3 = j * 3 + 3 by omega]
      exact this
theorem lcells_congr (fl nw fl' nw' : Int → List UInt8) (ns : List Int) (h : ∀ n ∈ ns, fl n = fl' n ∧ nw n = nw' n) : lcells fl nw ns = lcells fl' nw' ns := by
  induction ns with
  | nil => rfl
  | cons a l ih =>
    rw [lcells_cons, lcells_cons, (h a (by simp)).1, (h a (by simp)).2, ih fun n hn => h n (by simp [hn])]
theorem lcells_set (fl nw : Int → List UInt8) (ns : List Int) (nd : ns.Nodup) (j : Nat) (h : j < ns.length) (v : List UInt8) :
    (lcells fl nw ns).set (j * 3 + 1) (.string (str v)) = lcells (upd fl ns[j] v) nw ns ∧ (lcells fl nw ns).set (j * 3 + 2) (.string (str v)) = lcells fl (upd nw ns[j] v) ns ∧ (lcells fl nw ns).set (j * 3) (.int .i64 ns[j]) = lcells fl nw ns := by
  induction ns generalizing j with
  | nil => simp at h
  | cons a l ih =>
    have nd' := List.nodup_cons.1 nd
    cases j with
    | zero =>
      have e : ∀ (f : Int → List UInt8), ∀ n ∈ l, upd f a v n = f n := fun f n hn => by
        unfold upd
        rw [if_neg (fun (e : n = a) => nd'.1 (by rw [← e]; exact hn))]
      refine ⟨?_, ?_, rfl⟩
      · show _ :: _ :: _ :: lcells fl nw l = _
        simp only [List.getElem_cons_zero]
        rw [lcells_cons, lcells_congr (upd fl a v) nw fl nw l fun n hn => ⟨e fl n hn, rfl⟩]
        simp [upd]
      · show _ :: _ :: _ :: lcells fl nw l = _
        simp only [List.getElem_cons_zero]
        rw [lcells_cons, lcells_congr fl (upd nw a v) fl nw l fun n hn => ⟨rfl, e nw n hn⟩]
        simp [upd]
    | succ j =>
      have hj : j < l.length := by simpa using h
      have hne : a ≠ l[j] := fun e => nd'.1 (by rw [e]; exact List.getElem_mem hj)
      obtain ⟨i1, i2, i3⟩ := ih nd'.2 j hj
      have e1 : (j + 1) * 3 + 1 = (j * 3 + 1) + 3 := by omega
      have e2 : (j + 1) * 3 + 2 = (j * 3 + 2) + 3 := by omega
      have e3 : (j + 1) * 3 = j * 3 + 3 := by omega
      rw [e1, e2, e3]
      refine ⟨?_, ?_, ?_⟩
      · show _ :: _ :: _ :: (lcells fl nw l).set (j * 3 + 1) _ = _
        rw [i1, lcells_cons]
        simp [upd, hne]
      · show _ :: _ :: _ :: (lcells fl nw l).set (j * 3 + 2) _ = _
        rw [i2, lcells_cons]
        simp [upd, hne]
      · show _ :: _ :: _ :: (lcells fl nw l).set (j * 3) _ = _
        simp only [List.getElem_cons_succ]
        rw [i3, lcells_cons]

/-- Where a number stands in a list; -1: nowhere. -/
def atIx (ns : List Int) (n : Int) : Int := if n ∈ ns then (ns.idxOf n : Int) else -1
theorem atIx_at (ns : List Int) (nd : ns.Nodup) (n : Int) (j : Nat) (h : j < ns.length) (he : ns[j] = n) : atIx ns n = (j : Int) := by
  subst he
  unfold atIx
  rw [if_pos (List.getElem_mem h), idx_of_at nd j h]
theorem atIx_none (ns : List Int) (n : Int) (hne : ∀ i (hi : i < ns.length), ns[i] ≠ n) : atIx ns n = -1 := by
  unfold atIx
  rw [if_neg]
  intro hm
  obtain ⟨i, hi, e⟩ := List.getElem_of_mem hm
  exact hne i hi e

/-- The document's device. -/
def refCells (D : DS) (lv ov : Value) : Array Value := #[.int .i64 D.blocks, lv, ov, .bool D.down, .int .i64 D.calls, .int .i64 D.armed, .int .u64 D.mask, .int .i64 D.torn, .int .i64 D.bytes]
structure RD (w : World) (q : Nat) (D : DS) (lv ov : Value) (ns : List Int) : Prop where
  ok : D.Ok
  blk : w.heap[q]? = some (.cells (refCells D lv ov) 63 (0, 0))
  lrow : w.ownsRow 0 69 3 lv ns.length (lcells D.fl D.nw ns)
  orow : w.ownsRow 0 3 1 ov D.loose.length (ic D.loose)
  rm : 0 ≤ D.mask ∧ D.mask ≤ 18446744073709551615
  rt : I64 D.torn
  ry : I64 D.bytes
  ra : D.armed ≤ 9223372036854775807
  nd : ns.Nodup
  sub : ∀ n, n ∈ D.loose → n ∈ ns
  out : ∀ n, n ∉ ns → D.fl n = nought ∧ D.nw n = nought
  ln : (ns.length : Int) ≤ D.calls
  inB : ∀ n, n ∈ ns → 0 ≤ n ∧ n < D.blocks
  ql : lv.ownBlock ≠ some q
  qo : ov.ownBlock ≠ some q
  lo : ∀ k, lv.ownBlock = some k → ov.ownBlock ≠ some k
/-- The blocks that it writes. -/
def RMine (q : Nat) (lv ov : Value) : Nat → Prop := fun k => k = q ∨ lv.ownBlock = some k ∨ ov.ownBlock = some k
theorem RD.mine_lt {w : World} {q : Nat} {D : DS} {lv ov : Value} {ns : List Int} (h : RD w q D lv ov ns) {k : Nat} (hk : RMine q lv ov k) : k < w.heap.size := by
  rcases hk with rfl | hk | hk
  · exact lt_block h.blk
  · exact (h.lrow.lt k hk).2
  · exact (h.orow.lt k hk).2
theorem row_kept3 {w w' : World} {base s : Nat} {e : TypeId} {v : Value} {n : Nat} {xs : List Value} (h : w.ownsRow base e s v n xs) (hk : ∀ k, v.ownBlock = some k → w'.heap[k]? = w.heap[k]?) : w'.ownsRow base e s v n xs := by
  refine ⟨h.1, ?_⟩
  rcases h.2 with h2 | ⟨g, cap, cur, rfl, h3, h4, h5⟩
  · exact .inl h2
  · exact .inr ⟨g, cap, cur, rfl, h3, (hk g rfl).trans h4, h5⟩
theorem RD.kept {w w' : World} {q : Nat} {D : DS} {lv ov : Value} {ns : List Int} (h : RD w q D lv ov ns) (hk : ∀ k, RMine q lv ov k → w'.heap[k]? = w.heap[k]?) : RD w' q D lv ov ns :=
  { h with blk := (hk q (.inl rfl)).trans h.blk, lrow := row_kept3 h.lrow fun k e => hk k (.inr (.inl e)), orow := row_kept3 h.orow fun k e => hk k (.inr (.inr e)) }
theorem RD.below {w w' : World} {q : Nat} {D : DS} {lv ov : Value} {ns : List Int} (h : RD w q D lv ov ns) {B : Nat} (hb : Below B w w') (hB : w.heap.size ≤ B) : RD w' q D lv ov ns :=
  h.kept fun k hk => hb.block k (by have := h.mine_lt hk; omega)
theorem cell9 {w : World} {q : Nat} {D : DS} {lv ov : Value} {t : TypeId} (h : w.heap[q]? = some (.cells (refCells D lv ov) t (0, 0))) :
    w.cell? ⟨q, 0, none⟩ = some (.int .i64 D.blocks) ∧ w.cell? ⟨q, 1, none⟩ = some lv ∧ w.cell? ⟨q, 2, none⟩ = some ov ∧ w.cell? ⟨q, 3, none⟩ = some (.bool D.down) ∧ w.cell? ⟨q, 4, none⟩ = some (.int .i64 D.calls) ∧ w.cell? ⟨q, 5, none⟩ = some (.int .i64 D.armed) ∧
    w.cell? ⟨q, 6, none⟩ = some (.int .u64 D.mask) ∧ w.cell? ⟨q, 7, none⟩ = some (.int .i64 D.torn) ∧ w.cell? ⟨q, 8, none⟩ = some (.int .i64 D.bytes) := by
  refine ⟨?_, ?_, ?_, ?_, ?_, ?_, ?_, ?_, ?_⟩ <;> simp [World.cell?, h, refCells]
theorem free9 {w : World} {q : Nat} {D : DS} {lv ov : Value} {t : TypeId} (h : w.heap[q]? = some (.cells (refCells D lv ov) t (0, 0))) (o : Nat) : w.frozen? ⟨q, o, none⟩ = false := by
  simp [World.frozen?, h]
theorem own_form3 {w : World} {base s : Nat} {e : TypeId} {v : Value} {n : Nat} {xs : List Value} (h : w.ownsRow base e s v n xs) : ∃ a c, v = .slice a n c := by
  rcases h.2 with ⟨rfl, rfl⟩ | ⟨g, cap, cur, rfl, _⟩
  · exact ⟨none, 0, rfl⟩
  · exact ⟨_, _, rfl⟩
end Go.Proofs.Ytmemhckkfhlnmaa
