/- Spans, edges and keys in memory; the small calls of package span. -/
import Derived.Test.YtbdolhmeknlnpaaKeyD
import Derived.Test.YtbdolhmeknlnpaaSl2
import Derived.Test.YtbdolhmeknlnpaaSpE
import Derived.Test.YtbdolhmeknlnpaaSpL
namespace Go.Proofs.Ytbdolhmeknlnpaa
set_option linter.unusedVariables false
open Go.RowKit

/-- A key as an element. -/
structure Ky where
  k : List UInt8
  h : k.length = 24
instance : Inhabited Ky := ⟨⟨zs 24, rfl⟩⟩
instance : Inhabited Sp := ⟨⟨zs 24, zs 24, false, rfl, rfl⟩⟩
def encK : Enc Ky 24 := ⟨fun x => bc x.k, fun x => by rw [bc_length, x.h], fun x => bc_one x.k⟩
def encS : Enc Sp 49 := ⟨fun s => sc s.F s.T s.e, fun s => by simp [sc, bc_length, s.hF, s.hT], fun s v hv => by
  simp only [sc, List.mem_append, List.mem_singleton] at hv
  rcases hv with (h | h) | rfl
  · exact bc_one _ v h
  · exact bc_one _ v h
  · rfl⟩
def ecd (e : Ed) : List Value := bc e.k ++ [.int .i64 e.a, .int .i64 e.b]
def encE : Enc Ed 26 := ⟨ecd, fun e => by simp [ecd, bc_length, e.hk], fun e v hv => by
  simp only [ecd, List.mem_append, List.mem_cons, List.not_mem_nil, or_false] at hv
  rcases hv with h | rfl | rfl
  · exact bc_one _ v h
  · rfl
  · rfl⟩
abbrev spv (s : Sp) : Value := sv s.F s.T s.e
abbrev edv (e : Ed) : Value := .agg (ecd e).toArray
theorem rowS : RowTy Try.prog encS 22 35 49 := ⟨Try.underlying22, ⟨.agg (sc (zs 24) (zs 24) false).toArray, by kernel_rfl, by simp [Value.cells, sc, bc_length, zs_length]⟩, by decide⟩
theorem rowE : RowTy Try.prog encE 54 57 40 := ⟨Try.underlying54, ⟨.agg (ecd ⟨zs 24, 0, 0, rfl⟩).toArray, by kernel_rfl, by simp [Value.cells, ecd, bc_length, zs_length]⟩, by decide⟩
theorem elS : ElTy Try.prog encS 35 := ⟨⟨_, Try.underlying35, rfl, rfl⟩, Try.span_info⟩
theorem elE : ElTy Try.prog encE 57 := ⟨⟨_, Try.underlying57, rfl, rfl⟩, by kernel_rfl⟩
theorem HasS.inB {w : World} {b : Nat} {s : Sp} (h : HasS w b s.F s.T s.e) : InB encS 35 w b s := ⟨h.blk⟩
theorem InB.hasS {w : World} {b : Nat} {s : Sp} (h : InB encS 35 w b s) : HasS w b s.F s.T s.e := ⟨s.hF, s.hT, h.blk⟩
theorem range_F {w : World} {g o : Nat} {s : Sp} (h : w.rangeAt g o (encS.c s)) : w.rangeAt g o (bc s.F) := fun j v hv => by
  refine h j v ?_
  show (sc s.F s.T s.e)[j]? = some v
  rw [sc, List.append_assoc, List.getElem?_append_left (List.getElem?_eq_some_iff.1 hv).1]
  exact hv
theorem range_T {w : World} {g o : Nat} {s : Sp} (h : w.rangeAt g o (encS.c s)) : w.rangeAt g (o + 24) (bc s.T) := fun j v hv => by
  have hj := (List.getElem?_eq_some_iff.1 hv).1
  have := h (24 + j) v (by
    show (sc s.F s.T s.e)[24 + j]? = some v
    rw [sc, List.append_assoc, List.getElem?_append_right (by rw [bc_length, s.hF]; omega), bc_length, s.hF, Nat.add_sub_cancel_left, List.getElem?_append_left hj]
    exact hv)
  rwa [← Nat.add_assoc] at this
theorem range_E {w : World} {g o : Nat} {s : Sp} (h : w.rangeAt g o (encS.c s)) : w.cell? ⟨g, o + 48, none⟩ = some (.bool s.e) := by
  refine h 48 _ ?_
  show (sc s.F s.T s.e)[48]? = _
  have hF : (bc s.F).length = 24 := by rw [bc_length, s.hF]
  have hT : (bc s.T).length = 24 := by rw [bc_length, s.hT]
  rw [sc, List.append_assoc, List.getElem?_append_right (by omega), List.getElem?_append_right (by omega), hF, hT]
  rfl
theorem range_k {w : World} {g o : Nat} {e : Ed} (h : w.rangeAt g o (encE.c e)) : w.rangeAt g o (bc e.k) := fun j v hv => by
  refine h j v ?_
  show (ecd e)[j]? = some v
  rw [ecd, List.getElem?_append_left (List.getElem?_eq_some_iff.1 hv).1]
  exact hv
theorem range_ab {w : World} {g o : Nat} {e : Ed} (h : w.rangeAt g o (encE.c e)) : w.cell? ⟨g, o + 24, none⟩ = some (.int .i64 e.a) ∧ w.cell? ⟨g, o + 25, none⟩ = some (.int .i64 e.b) := by
  have hk : (bc e.k).length = 24 := by rw [bc_length, e.hk]
  refine ⟨h 24 _ ?_, h 25 _ ?_⟩
  · show (ecd e)[24]? = _
    rw [ecd, List.getElem?_append_right (by omega), hk]
    rfl
  · show (ecd e)[25]? = _
    rw [ecd, List.getElem?_append_right (by omega), hk]
    rfl
theorem in_num (s : Sp) (K : List UInt8) (hK : K.length = 24) : inS s.F s.T s.e K = s.inb (num K) := by
  unfold inS Sp.inb
  rw [less_num K s.F (by rw [hK, s.hF]), less_num K s.T (by rw [hK, s.hT])]
  congr 1
  · rw [← decide_not, Bool.eq_iff_iff]; simp
  · congr 1; rw [Bool.eq_iff_iff]; simp

theorem grow_made (w : World) (a b : Obj) (n : Nat) : ((w.alloc a).alloc b).drewN n = Go.Sort.grow (w.drewN n) #[a, b] := by
  rw [Go.Sort.alloc_eq_grow, Go.Sort.alloc_eq_grow, Go.Sort.grow_grow]
  rfl
theorem below_grow {B : Nat} (w : World) (n : Nat) (os : Array Obj) (hB : B ≤ w.heap.size) : Below B w (Go.Sort.grow (w.drewN n) os) := ⟨rfl, rfl, rfl, by simp [Go.Sort.grow], fun k hk => by
  show (w.heap ++ os)[k]? = w.heap[k]?
  exact Array.getElem?_append_left (by omega)⟩
set_option maxRecDepth 100000 in
set_option maxHeartbeats 1000000 in
theorem cmp_calls (w : World) (K L : List UInt8) (hK : K.length = 24) (hL : L.length = 24) :
    Calls Try.prog 44 #[kv K, kv L] w fun e w' => e = .returned (.int .i64 (Lib.compareBytes K L)) ∧ ∃ q os, w' = Go.Sort.grow (w.drewN q) os := by
  have h1 : Has ((w.alloc (.cells (bc K).toArray 30)).alloc (.cells (bc L).toArray 30)) w.heap.size K := (Has.new w K hK).alloc _
  have h2 : Has ((w.alloc (.cells (bc K).toArray 30)).alloc (.cells (bc L).toArray 30)) (w.heap.size + 1) L := by have := Has.new (w.alloc (.cells (bc K).toArray 30)) L hL; simpa using this
  have H1 : Hid (Has ((w.alloc (.cells (bc K).toArray 30)).alloc (.cells (bc L).toArray 30)) w.heap.size K) := h1
  have H2 : Hid (Has ((w.alloc (.cells (bc K).toArray 30)).alloc (.cells (bc L).toArray 30)) (w.heap.size + 1) L) := h2
  clear h1 h2
  go_enter Try.func44, Try.ntmps44
  go_wp2
  go_quiet (first | (go_at_call 58; exact Calls.quiet_of_same (compare_calls _ w.heap.size (w.heap.size + 1) K L (by exact ⟨hK, H1.out.blk⟩) (by exact ⟨hL, H2.out.blk⟩) 24 24)))
  go_wp2
  go_ret
  exact ⟨rfl, _, _, grow_made _ _ _ _⟩
theorem cmp_eq (K L : List UInt8) : Lib.compareBytes K L < 0 ↔ Op.bytesLess K L = true := by rw [← compare_less]; simp
set_option maxRecDepth 100000 in
set_option maxHeartbeats 1000000 in
/-- The closure that the sort asks. -/
theorem cmp3_calls (w : World) (x y : Ed) : Calls Try.prog 43 #[edv x, edv y] w fun e w' => e = .returned (.int .i64 (Lib.compareBytes x.k y.k)) ∧ ∃ q os, w' = Go.Sort.grow (w.drewN q) os := by
  have h1 : InB encE 57 ((w.alloc (.cells (ecd x).toArray 57)).alloc (.cells (ecd y).toArray 57)) w.heap.size x := (InB.new encE _ w x _ rfl).alloc _
  have h2 : InB encE 57 ((w.alloc (.cells (ecd x).toArray 57)).alloc (.cells (ecd y).toArray 57)) (w.heap.size + 1) y := InB.new encE _ _ y _ (by simp)
  have HC : Hid (∀ W, Calls Try.prog 44 #[kv x.k, kv y.k] W fun e w' => e = .returned (.int .i64 (Lib.compareBytes x.k y.k)) ∧ ∃ q os, w' = Go.Sort.grow (W.drewN q) os) := fun W => cmp_calls W x.k y.k x.hk y.hk
  generalize Lib.compareBytes x.k y.k = r at *
  go_enter Try.func43, Try.ntmps43
  go_wp2_with (first
    | (refine load_part _ rfl w.heap.size 0 rfl rfl _ x.hk (range_k h1.range) ?_)
    | (refine load_part _ rfl (w.heap.size + 1) 0 rfl rfl _ y.hk (range_k h2.range) ?_)
    | (go_at_call 44; refine (HC.out _).mono ?_; rintro e w1 ⟨rfl, q, os, rfl⟩))
  go_ret
  refine ⟨rfl, q, #[.cells (ecd x).toArray 57, .cells (ecd y).toArray 57] ++ os, ?_⟩
  rw [grow_made, Go.Sort.grow_grow]
set_option maxHeartbeats 1000000 in
theorem isEmpty_calls (w : World) (s : Sp) : Calls Try.prog 55 #[spv s] w fun x w' => x = .returned (.bool s.empty) ∧ Below w.heap.size w w' := by
  have h1 : HasS (w.alloc (.cells (sc s.F s.T s.e).toArray 35)) w.heap.size s.F s.T s.e := HasS.new w _ _ _ s.hF s.hT
  have hc := in_calls (w.alloc (.cells (sc s.F s.T s.e).toArray 35)) s.F s.T s.e s.F s.hF s.hT s.hF
  rw [in_num s s.F s.hF] at hc
  have HE : Hid (s.empty = !s.inb (num s.F)) := rfl
  generalize s.inb (num s.F) = r at *
  go_enter Try.func55, Try.ntmps55
  go_wp2_with (first
    | (refine load_el elS _ rfl w.heap.size 0 rfl rfl s h1.inB.range ?_)
    | (refine load_part _ rfl w.heap.size 0 rfl rfl _ s.hF h1.ofF ?_)
    | (go_at_call 35; refine hc.mono ?_; rintro e w1 ⟨rfl, b1⟩))
  go_ret
  exact ⟨by rw [HE.out]; rfl, below_called (below_made (Below.refl _ w) (Nat.le_refl _) _) b1 (Nat.le_refl _)⟩
set_option maxHeartbeats 1000000 in
theorem clean1_calls (w : World) (x y : Bool) : Calls Try.prog 27 #[.bool x, .bool y] w fun e w' => e = .returned (.bool x) ∧ w' = w := by
  go_enter Try.func27, Try.ntmps27
  go_wp2
  go_ret
  exact ⟨rfl, rfl⟩
set_option maxHeartbeats 1000000 in
theorem both1_calls (w : World) (x y : Bool) : Calls Try.prog 31 #[.bool x, .bool y] w fun e w' => e = .returned (.bool (x && y)) ∧ w' = w := by
  cases x <;> cases y
  all_goals
    go_enter Try.func31, Try.ntmps31
    go_wp2
    go_ret
    exact ⟨rfl, rfl⟩
set_option maxHeartbeats 1000000 in
theorem less1_calls (w : World) (x y : Bool) : Calls Try.prog 32 #[.bool x, .bool y] w fun e w' => e = .returned (.bool (x && !y)) ∧ w' = w := by
  cases x <;> cases y
  all_goals
    go_enter Try.func32, Try.ntmps32
    go_wp2
    go_ret
    exact ⟨rfl, rfl⟩
end Go.Proofs.Ytbdolhmeknlnpaa
