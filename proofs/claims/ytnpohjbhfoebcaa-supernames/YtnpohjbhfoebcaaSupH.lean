/- One snapshot that is read: snapBy. -/
import Derived.Test.YtnpohjbhfoebcaaSupG
namespace Go.Proofs.Ytnpohjbhfoebcaa
set_option linter.unusedVariables false
open Go.RowKit

def rdSnap (s : RS) : Snp := ⟨str s.text, (num (s.atext.got 4) : Int), i64 (num ((s.atext.take 4).got 8))⟩
def rdRest (s : RS) : RS := (s.atext.take 4).take 8
/-- What snapBy's walk holds. -/
structure SSt (w wr : World) (p nb : Nat) (r : Option Nat) (s : RS) (X : Snp) : Prop where
  rd : RdS wr p s r
  lg : longAt wr nb p
  z : wr.heap[w.heap.size]? = some (.cells (snc nilS).toArray 40 (0, 0))
  v : wr.heap[w.heap.size + 1]? = some (.cells (snc X).toArray 40 (0, 0))
  t : Touch p none w wr
  hp : p < w.heap.size
  hr : ∀ k, r = some k → k < w.heap.size
  hn : nb < w.heap.size
  pn : nb ≠ p
theorem SSt.read {w wr w' : World} {p nb : Nat} {r : Option Nat} {s s' : RS} {X : Snp} (h : SSt w wr p nb r s X) (g : RdG p wr r s' w') : SSt w w' p nb r s' X := by
  have := h.hp; have := h.hn; have h3 := lt_of_block h.v; have h4 := h.t.size
  exact ⟨g.1, (g.2.block nb (by omega) h.pn (by simp)).trans h.lg, (g.2.block _ (by omega) (by omega) (by simp)).trans h.z, (g.2.block _ h3 (by omega) (by simp)).trans h.v, h.t.trans g.2 (Near.none _ _), h.hp, h.hr, h.hn, h.pn⟩
theorem SSt.set {w wr : World} {p nb : Nat} {r : Option Nat} {s : RS} {X Y : Snp} (h : SSt w wr p nb r s X) (j : Nat) (u : Value) (e : (wr.setCell ⟨w.heap.size + 1, j, none⟩ u).heap[w.heap.size + 1]? = some (.cells (snc Y).toArray 40 (0, 0))) : SSt w (wr.setCell ⟨w.heap.size + 1, j, none⟩ u) p nb r s Y := by
  have := h.hp; have := h.hn
  have hh : ∀ k, k ≠ w.heap.size + 1 → (wr.setCell ⟨w.heap.size + 1, j, none⟩ u).heap[k]? = wr.heap[k]? := fun k hk => Below.heap_setCell _ _ _ _ (by simpa using hk)
  exact ⟨h.rd.kept (hh _ (by omega)) (fun k hk => hh _ (by have := h.hr k hk; omega)), (hh _ (by omega)).trans h.lg, (hh _ (by omega)).trans h.z, e,
    ⟨h.t.os, h.t.tape, h.t.output, by have := h.t.size; simpa [World.setCell] using this, fun k hk hp hr => (hh k (by omega)).trans (h.t.block k hk hp hr)⟩, h.hp, h.hr, h.hn, h.pn⟩
theorem snap_row {w : World} {b : Nat} {X : Snp} (h : w.heap[b]? = some (.cells (snc X).toArray 40 (0, 0))) : w.heap[b]? = some (.cells #[.string X.n, .int .i64 X.r, .int .i64 X.c] 40 (0, 0)) := h
theorem Try.snap_info : (Try.prog.info? 40).map (·.size) = some 3 := by kernel_rfl
theorem sncs_all1 (X : Snp) : (snc X).toArray.all (·.oneCell') = true := all_oneCell_toArray (by
  intro u hu
  simp only [snc, List.mem_cons, List.not_mem_nil, or_false] at hu
  rcases hu with rfl | rfl | rfl <;> rfl)
set_option maxHeartbeats 4000000 in
theorem snapBy_calls (w : World) (p nb : Nat) (s : RS) (r : Option Nat) (h : RdS w p s r) (hn : longAt w nb p) (hr : ∀ k, r = some k → k < w.heap.size) (pn : nb ≠ p) :
    Calls Try.prog 36 #[.func (Fn.func 31) #[.pointer (some ⟨p, 0, none⟩)] #[], .func (Fn.func 30) #[.pointer (some ⟨p, 0, none⟩)] #[], .func (Fn.func 43) #[] #[.pointer (some ⟨nb, 0, none⟩)]] w
      fun e w' => e = .returned (.agg (snc (rdSnap s)).toArray) ∧ RdG p w r (rdRest s) w' := by
  have hl := h.lt
  have hnl := lt_of_block hn
  have H0 : SSt w ((w.alloc (.cells #[.string ⟨#[]⟩, .int .i64 0, .int .i64 0] 40)).alloc (.cells #[.string ⟨#[]⟩, .int .i64 0, .int .i64 0] 40)) p nb r s nilS := by
    have hb : Below w.heap.size w ((w.alloc (.cells #[.string ⟨#[]⟩, .int .i64 0, .int .i64 0] 40)).alloc (.cells #[.string ⟨#[]⟩, .int .i64 0, .int .i64 0] 40)) := ((Below.refl _ w).alloc (Nat.le_refl _) _).alloc (by simp) _
    refine ⟨h.kept (hb.block _ hl) fun k hk => hb.block _ (hr k hk), (hb.block _ hnl).trans hn, (Below.heap_alloc _ _ _ (by simp)).trans (heap_alloc_new _ _), ?_, ⟨hb.os, hb.tape, hb.output, hb.size, fun k hk _ _ => hb.block k hk⟩, hl, hr, hnl, pn⟩
    rw [show w.heap.size + 1 = (w.alloc (.cells #[.string ⟨#[]⟩, .int .i64 0, .int .i64 0] 40)).heap.size by simp]
    exact heap_alloc_new _ _
  clear h hn hr pn hl hnl
  go_enter Try.func36, Try.ntmps36
  go_upto_region 2 with fail
  generalize (w.alloc (.cells #[.string ⟨#[]⟩, .int .i64 0, .int .i64 0] 40)).alloc (.cells #[.string ⟨#[]⟩, .int .i64 0, .int .i64 0] 40) = w0 at *
  go_upto_region 3 with (go_at_call 31; refine (text_reads _ p s r H0.rd).mono ?_; rintro e w1 ⟨rfl, g1⟩; have H1 := H0.read g1; obtain ⟨q0, q1, q2⟩ := cells3 (snap_row H1.v); obtain ⟨f0, f1, f2⟩ := free3 (snap_row H1.v))
  have K1 := H1.set (Y := ⟨str s.text, 0, 0⟩) 0 (.string (str s.text)) (set3 (snap_row H1.v)).1
  clear H1 H0 g1 q0 q1 q2 f0 f1 f2
  generalize w1.setCell ⟨w.heap.size + 1, 0, none⟩ (.string (str s.text)) = w2 at *
  go_upto_region 4 with (go_at_call 30; refine (word_reads _ p s.atext r K1.rd).mono ?_; rintro e w3 ⟨rfl, g1⟩; have H1 := K1.read g1; obtain ⟨q0, q1, q2⟩ := cells3 (snap_row H1.v); obtain ⟨f0, f1, f2⟩ := free3 (snap_row H1.v))
  have K3 := H1.set (Y := ⟨str s.text, (num (s.atext.got 4) : Int), 0⟩) 1 (.int .i64 (num (s.atext.got 4) : Int)) (set3 (snap_row H1.v)).2.1
  clear H1 K1 g1 q0 q1 q2 f0 f1 f2
  generalize w3.setCell ⟨w.heap.size + 1, 1, none⟩ (.int .i64 (num (s.atext.got 4) : Int)) = w4 at *
  go_upto_region 5 with (go_at_call 43; refine (long_of _ p nb (s.atext.take 4) r K3.rd K3.lg).mono ?_; rintro e w5 ⟨rfl, g1⟩; have H1 := K3.read g1; obtain ⟨q0, q1, q2⟩ := cells3 (snap_row H1.v); obtain ⟨f0, f1, f2⟩ := free3 (snap_row H1.v))
  have K5 := H1.set (Y := rdSnap s) 2 (.int .i64 (i64 (num ((s.atext.take 4).got 8)))) (set3 (snap_row H1.v)).2.2
  clear H1 K3 g1 q0 q1 q2 f0 f1 f2
  generalize w5.setCell ⟨w.heap.size + 1, 2, none⟩ (.int .i64 (i64 (num ((s.atext.take 4).got 8)))) = w6 at *
  have HK : Hid (SSt w w6 p nb r (rdRest s) (rdSnap s)) := K5
  obtain ⟨q0, q1, q2⟩ := cells3 (snap_row K5.v)
  clear K5
  go_wp2_with (refine wpList_store_row rfl _ _ _ rfl w.heap.size _ rfl rfl _ _ HK.out.z Try.snap_info rfl (sncs_all1 (rdSnap s)) ?_)
  refine bodyPost_ret (results_cell_row rfl _ _ w.heap.size _ _ _ _ rfl (setRow_heap _ w.heap.size _ _ _ _ HK.out.z) Try.underlying40 rfl Try.snap_info) rfl ⟨rfl, ?_⟩
  have hK := HK.out
  have hh : ∀ k, k ≠ w.heap.size → (w6.setRow w.heap.size (snc (rdSnap s)).toArray).heap[k]? = w6.heap[k]? := fun k hk => setRow_other _ _ _ _ hk
  exact ⟨hK.rd.kept (hh _ (by have := hK.hp; omega)) fun k hk => hh _ (by have := hK.hr k hk; omega), hK.t.os, hK.t.tape, hK.t.output, by have := hK.t.size; simpa using this, fun k hk hp hr => (hh k (by omega)).trans (hK.t.block k hk hp hr)⟩
end Go.Proofs.Ytnpohjbhfoebcaa
