/- What each call on the document's own device comes to: New, Start, Arm, Crash, the count of calls. -/
import Derived.Test.YtmemhckkfhlnmaaRefE
import Derived.Test.YtmemhckkfhlnmaaCrashL
namespace Go.Proofs.Ytmemhckkfhlnmaa
set_option linter.unusedVariables false
open Go.RowKit
attribute [local go_sem ↓] Go.wp_at_zero Go.wp_at_succ

theorem RD.turn {w w' : World} {q : Nat} {D : DS} {lv ov : Value} {ns : List Int} (h : RD w q D lv ov ns) (D' : DS) (blk : w'.heap[q]? = some (.cells (refCells D' lv ov) 63 (0, 0))) (ho : OnlyP q w w') (ok : D'.Ok)
    (e1 : D'.loose = D.loose) (e2 : D'.fl = D.fl) (e3 : D'.nw = D.nw) (e4 : D'.blocks = D.blocks) (rm : 0 ≤ D'.mask ∧ D'.mask ≤ 18446744073709551615) (rt : I64 D'.torn) (ry : I64 D'.bytes) (ra : D'.armed ≤ 9223372036854775807) (hc : D.calls ≤ D'.calls) : RD w' q D' lv ov ns where
  ok := ok
  blk := blk
  lrow := by rw [e2, e3]; exact row_kept3 h.lrow fun k e => ho.block k (fun e' => h.ql (by rw [e, e']))
  orow := by rw [e1]; exact row_kept3 h.orow fun k e => ho.block k (fun e' => h.qo (by rw [e, e']))
  rm := rm
  rt := rt
  ry := ry
  ra := ra
  nd := h.nd
  sub := by rw [e1]; exact h.sub
  out := by rw [e2, e3]; exact h.out
  ln := by have := h.ln; omega
  inB := by rw [e4]; exact h.inB
  ql := h.ql
  qo := h.qo
  lo := h.lo
theorem OnlyP.fr {q : Nat} {w w' : World} {lv ov : Value} (ho : OnlyP q w w') : Fr (RMine q lv ov) w w' :=
  ⟨ho.os, ho.tape, ho.output, by rw [ho.size]; exact Nat.le_refl _, fun k _ hn => ho.block k (fun e => hn (.inl e))⟩
theorem RGo.of {w w' : World} {q : Nat} {D' : DS} {lv ov : Value} {ns : List Int} (h : RD w' q D' lv ov ns) (ho : OnlyP q w w') : RGo q w lv ov D' w' := ⟨lv, ov, ns, h, ho.fr, fun k hk => .inl hk⟩

set_option maxHeartbeats 400000 in
theorem rnew_calls (w : World) (n : Int) : Calls Try.prog 11 #[.int .i64 n] w fun e w' => e = .returned (.pointer (some ⟨w.heap.size, 0, none⟩)) ∧ RD w' w.heap.size (DS.new n) (.slice none 0 0) (.slice none 0 0) [] ∧ Below w.heap.size w w' := by
  have R : ∀ b, b = (DS.new n).blocks → RD (w.alloc (.cells #[.int .i64 b, .slice none 0 0, .slice none 0 0, .bool false, .int .i64 0, .int .i64 0, .int .u64 0, .int .i64 0, .int .i64 0] 63)) w.heap.size (DS.new n) (.slice none 0 0) (.slice none 0 0) [] := fun b hb => by
    subst hb
    exact {
      ok := DS.new_ok n
      blk := heap_alloc_new _ _
      lrow := World.ownsRow_nil _ _ _ _
      orow := World.ownsRow_nil _ _ _ _
      rm := ⟨Int.le_refl _, by show (0 : Int) ≤ 18446744073709551615; omega⟩
      rt := ⟨by show -9223372036854775808 ≤ (0 : Int); omega, by show (0 : Int) ≤ 9223372036854775807; omega⟩
      ry := ⟨by show -9223372036854775808 ≤ (0 : Int); omega, by show (0 : Int) ≤ 9223372036854775807; omega⟩
      ra := by show (0 : Int) ≤ 9223372036854775807; omega
      nd := List.nodup_nil
      sub := fun k e => by cases e
      out := fun k _ => ⟨by simp only [DS.new], by simp only [DS.new]⟩
      ln := Int.le_refl _
      inB := fun k e => by cases e
      ql := fun e => by cases e
      qo := fun e => by cases e
      lo := fun k e => by cases e }
  have HR : Hid (_) := R
  have e : Hid ((DS.new n).blocks = max (min n 4294967296) 1) := rfl
  clear R
  go_enter Try.func11, Try.ntmps11
  go_wp2
  all_goals
    go_ret
    exact ⟨rfl, HR.out _ (by rw [e.out]; omega), (Below.refl _ _).alloc (Nat.le_refl _) _⟩
set_option maxHeartbeats 400000 in
theorem rstart_calls (w : World) (q : Nat) (D : DS) (lv ov : Value) (ns : List Int) (h : RD w q D lv ov ns) : Calls Try.prog 19 #[.pointer (some ⟨q, 0, none⟩)] w fun e w' => e = .returned (.tuple #[]) ∧ RGo q w lv ov D.start w' := by
  have R : RGo q w lv ov D.start (w.setCell ⟨q, 3, none⟩ (.bool false)) := RGo.of (h.turn D.start (by simp [World.setCell, Array.getElem?_modify, h.blk, refCells, DS.start]) ((OnlyP.refl _ _).setCell _ _) h.ok.start rfl rfl rfl rfl h.rm h.rt h.ry h.ra (Int.le_refl _)) ((OnlyP.refl _ _).setCell _ _)
  obtain ⟨c0, c1, c2, c3, _⟩ := cell9 h.blk
  have f3 := free9 h.blk 3
  clear h
  go_enter Try.func19, Try.ntmps19
  go_wp2
  go_end0
  exact ⟨rfl, R⟩
set_option maxHeartbeats 800000 in
theorem rarm_calls (w : World) (q : Nat) (D : DS) (lv ov : Value) (ns : List Int) (n mask torn bytes : Int) (h : RD w q D lv ov ns) (hn : I64 n) (hm : 0 ≤ mask ∧ mask ≤ 18446744073709551615) (ht : I64 torn) (hy : I64 bytes) :
    Calls Try.prog 35 #[.pointer (some ⟨q, 0, none⟩), .int .i64 n, .int .u64 mask, .int .i64 torn, .int .i64 bytes] w fun e w' => e = .returned (.tuple #[]) ∧ RGo q w lv ov (D.arm n mask torn bytes) w' := by
  have hn2 := hn.2
  have R : ∀ a, a = max n 0 → RGo q w lv ov (D.arm n mask torn bytes) ((((w.setCell ⟨q, 5, none⟩ (.int .i64 a)).setCell ⟨q, 6, none⟩ (.int .u64 mask)).setCell ⟨q, 7, none⟩ (.int .i64 torn)).setCell ⟨q, 8, none⟩ (.int .i64 bytes)) := fun a e => by
    subst e
    exact RGo.of (h.turn _ (by simp [World.setCell, Array.getElem?_modify, h.blk, refCells, DS.arm]) (((((OnlyP.refl _ _).setCell _ _).setCell _ _).setCell _ _).setCell _ _) (h.ok.arm _ _ _ _) rfl rfl rfl rfl hm ht hy (by show max n 0 ≤ _; omega) (Int.le_refl _)) (((((OnlyP.refl _ _).setCell _ _).setCell _ _).setCell _ _).setCell _ _)
  obtain ⟨c0, c1, c2, c3, c4, c5, c6, c7, c8⟩ := cell9 h.blk
  have f5 := free9 h.blk 5
  have f6 := free9 h.blk 6
  have f7 := free9 h.blk 7
  have f8 := free9 h.blk 8
  clear h
  go_enter Try.func35, Try.ntmps35
  go_wp2
  all_goals
    go_end0
    exact ⟨rfl, R _ (by omega)⟩
end Go.Proofs.Ytmemhckkfhlnmaa
