import Derived.Test.YtdmindhjmjnagabGreatDoorB34
import Derived.Test.YtdmindhjmjnagabGreatDoorB28
import Derived.RangeFuncWrites
import Derived.RangeFuncLeaves
import Derived.Lib.OthersKept
import Derived.Shelf.Strings.Builder1
import Derived.Shelf.Strings.BuilderK
import Derived.Test.YtdmindhjmjnagabGreatDoorB10
import Derived.TacticsIn
import Derived.Deep.RegionHeld
import Derived.OrdersIn
import Derived.RangeFuncCalls
/- chunk: the pieces of some bytes, as an iterator. -/
namespace Go.Proofs.YtdmindhjmjnagabGreatDoor
set_option linter.unusedVariables false
set_option maxRecDepth 100000
open Go.RowKit

/-- A number's cell, or a piece's. -/
def KpO (o : Obj) : Prop := ∃ c t f, o = .cells c t f ∧ (t = 3 ∨ t = 71)
theorem KpO.mk (c : Array Value) (t : TypeId) (f : Nat × Nat) (h : t = 3 ∨ t = 71) : KpO (.cells c t f) := ⟨c, t, f, rfl, h⟩
/-- All these stand but those in S. -/
def KpC (S : Nat → Prop) (W W' : World) : Prop := W.heap.size ≤ W'.heap.size ∧ ∀ b o, W.heap[b]? = some o → KpO o → ¬ S b → W'.heap[b]? = some o
theorem kpC_t {S : Nat → Prop} {X Y Z : World} (h : KpC S X Y) (k : KpC S Y Z) : KpC S X Z := ⟨Nat.le_trans h.1 k.1, fun b o hb hc hs => k.2 b o (h.2 b o hb hc hs) hc hs⟩
theorem kpC_b {S : Nat → Prop} {n : Nat} (W : World) (l : Nat) (o o' : Obj) (_ : n ≤ l) (h : W.heap[l]? = some o) (hc : o.isCells = false) (_ : o.isWalk = false) : KpC S W (W.putObj l o') :=
  ⟨(grownBy_putObj' W l o').size, fun b o2 hb h2 _ => (World.putObj_heap_other (fun e => by subst e; rw [h] at hb; cases hb; obtain ⟨c, t, f, rfl, -⟩ := h2; cases hc)).trans hb⟩
theorem KpC.of_frv {S : Nat → Prop} {W W' : World} (h : FrV S W W') : KpC S W W' := ⟨h.size, fun b o hb _ hs => (h.block b (lt_of_block hb) hs).trans hb⟩
theorem KpC.of_kept {b : Nat} {W W' : World} (hs : W.heap.size ≤ W'.heap.size) (h : Lib.OthersKept 5 (some b) W W') : KpC (fun i => i = b) W W' :=
  ⟨hs, fun k o hk ho hn => by obtain ⟨c, t, f, rfl, ht⟩ := ho; exact h k _ hk (fun e => hn (by cases e; rfl)) (fun c fz e => by cases e; revert ht; decide)⟩
theorem KeepsFrom.of_kept {B b : Nat} {W W' : World} (hs : W.heap.size ≤ W'.heap.size) (hb : ∃ c t f, W.heap[b]? = some (.cells c t f)) (h : Lib.OthersKept 5 (some b) W W') : KeepsFrom B W W' :=
  ⟨hs, fun k o _ hk hc => h k o hk (fun e => by cases e; obtain ⟨c, t, f, q⟩ := hb; rw [q] at hk; cases hk; cases hc) (fun c fz e => by subst e; cases hc)⟩
theorem KeepsFrom.of_below {B : Nat} {W W' : World} (h : Below W.heap.size W W') : KeepsFrom B W W' := ⟨h.size, fun k _ _ hk _ => (h.block k (lt_of_block hk)).trans hk⟩
theorem KpC.of_grown {S : Nat → Prop} {W W' : World} {row : Option Nat} (h : W.grownBy W' row) (hr : ∀ g, row = some g → ∃ c t f, W.heap[g]? = some (.cells c t f) ∧ t ≠ 3 ∧ t ≠ 71) : KpC S W W' :=
  ⟨h.size, fun k o hk ho _ => (h.block k (lt_of_block hk) (fun e => by
    obtain ⟨c, t, f, q, h1, h2⟩ := hr k e.symm
    obtain ⟨c', t', f', rfl, ht⟩ := ho
    rw [q] at hk
    cases hk
    exact ht.elim h1 h2)).trans hk⟩
theorem KeepsFrom.of_cells {B : Nat} {W W' : World} {row : Option Nat} (h : W.grownBy W' row) (hr : ∀ g, row = some g → ∃ c t f, W.heap[g]? = some (.cells c t f)) : KeepsFrom B W W' :=
  ⟨h.size, fun k o _ hk hc => (h.block k (lt_of_block hk) (fun e => by obtain ⟨c, t, f, q⟩ := hr k e.symm; rw [q] at hk; cases hk; cases hc)).trans hk⟩
theorem grown_none {W W' : World} (h : Below W.heap.size W W') : W.grownBy W' none := ⟨h.os, h.tape, h.output, h.size, fun k hk _ => h.block k hk⟩
/-- The piece x, whatever x is. -/
def pcM (off n x : Nat) : Pc := pcK off n (min x (pN off n - 1))
theorem pcM_at {off n x : Nat} (h : x < pN off n) : pcM off n x = pcK off n x := by unfold pcM; rw [Nat.min_eq_left (by omega)]
set_option maxRecDepth 100000 in
set_option maxHeartbeats 4000000 in
theorem pieces1_in (m : Nat) (hm : 2 ≤ m) (l B1 B2 off n Bs : Nat) (ho : off ≤ 1048576) (hn : n ≤ 1048576) (S : Nat → Prop) (hS1 : ¬ S B1) (hS2 : ¬ S B2) (hS : ∀ i, S i → i < Bs) (J Jx : List Nat → World → Prop) (W : World) (hBs : Bs ≤ W.heap.size)
    (hJ : AbidesFrom W.heap.size J)
    (hY : ∀ pre (x : Nat) W, J pre W → pre.length < pN off n → YieldAt Fence.wide (m - 1) Tryz.prog l #[pcv (pcM off n x)] W fun e W' =>
      (e = .returned (.bool true) ∧ J (pre ++ [x]) W' ∧ KpC S W W') ∨ (e = .returned (.bool false) ∧ Jx (pre ++ [x]) W'))
    (c1 : W.heap[B1]? = some (.cells #[.int .i64 (n : Int)] 3 (0, 0))) (c2 : W.heap[B2]? = some (.cells #[.int .i64 (off : Int)] 3 (0, 0))) (h0 : J [] W) :
    CallsIn Fence.wide m Tryz.prog 48 #[.func (.yield l) #[] #[], .pointer (some ⟨B1, 0, none⟩), .pointer (some ⟨B2, 0, none⟩)] W fun e W' => (∃ v, e = .returned v) ∧
      ((∃ xs, xs = List.range (pN off n) ∧ J xs W') ∨ (∃ pre, (∃ k, k ≤ pN off n ∧ pre = List.range k) ∧ Jx pre W')) := by
  have H1 : Hid (∀ wr, KpC S W wr → wr.cell? ⟨B1, 0, none⟩ = some (.int .i64 (n : Int))) := fun wr h => by rw [cell_of_row _ _ _ _ _ _ (h.2 B1 _ c1 (KpO.mk _ _ _ (by decide)) hS1)]; rfl
  have H2 : Hid (∀ wr, KpC S W wr → wr.cell? ⟨B2, 0, none⟩ = some (.int .i64 (off : Int))) := fun wr h => by rw [cell_of_row _ _ _ _ _ _ (h.2 B2 _ c2 (KpO.mk _ _ _ (by decide)) hS2)]; rfl
  have hK0 : KpC S W W := ⟨Nat.le_refl _, fun _ _ h _ _ => h⟩
  clear c1 c2
  refine callsIn_of_wp Tryz.func48 rfl trivial ?_ rfl
  simp only [Tryz.ntmps48, List.size_toArray, List.length_cons, List.length_nil, Nat.reduceAdd, Nat.reduceSub, Array.replicate_succ, Array.replicate_zero, List.push_toArray, List.append_toArray, List.nil_append, List.cons_append]
  gi_wp2
  gi_loopw [4] (fun i wr => ∃ k : Nat, k ≤ pN off n ∧ i = .int .i64 ((min (pIx off k) n : Nat) : Int) ∧ J (List.range k) wr ∧ KpC S W wr)
    (fun i _ => ((n : Int) - intOf i).toNat)
  case atStart => exact ⟨0, Nat.zero_le _, by rw [pIx_zero]; simp, h0, hK0⟩
  case round =>
    obtain ⟨k, hk, rfl, hJs, hkp⟩ := hrel
    have hc1 := H1.out wr hkp
    by_cases hkn : k < pN off n
    · have hlt := pIx_lt.2 hkn
      have hc2 := H2.out wr hkp
      rw [Nat.min_eq_left (Nat.le_of_lt hlt)]
      have hnx := pIx_next hkn
      have hok := (pcK_ok hkn).1
      have hpp := pcM_at hkn
      have hY1 := hY (List.range k) k
      rw [hpp] at hY1
      have HNX : Hid (min (pIx off (k + 1)) n = pIx off k + (pTt off n k - pFr off k) ∧ pFr off k < pTt off n k) := ⟨hnx.symm, (pcK_ok hkn).2⟩
      have hP := fun w => pieceAt_calls ((off : Int) + (pIx off k : Int)) ((n : Int) - (pIx off k : Int)) (by omega) (by omega) (by omega) (by omega) w
      have hpl := pIx_place off k
      have hS1 := fun w => psize_calls (pcK off n k) hok.f0 hok.ft hok.t32 w
      have e1 : ((off : Int) + (pIx off k : Int)) / 32 = ((off / 32 + k : Nat) : Int) := by omega
      have e2 : ((off : Int) + (pIx off k : Int)) % 32 = (pFr off k : Int) := by unfold pFr; omega
      have e3 : min ((pFr off k : Int) + ((n : Int) - (pIx off k : Int))) 32 = (pTt off n k : Int) := by unfold pTt; omega
      simp only [e1, e2, e3] at hP
      have hpc : pcK off n k = ⟨((off / 32 + k : Nat) : Int), (pFr off k : Int), (pTt off n k : Int), (pIx off k : Int)⟩ := rfl
      rw [hpc] at hS1 hY1
      have hltI : (pIx off k : Int) < (n : Int) := by omega
      have hoI : (0 : Int) ≤ (off : Int) ∧ (off : Int) ≤ 1048576 := by omega
      have hnI : (0 : Int) ≤ (n : Int) ∧ (n : Int) ≤ 1048576 := by omega
      have hxI : (0 : Int) ≤ (pIx off k : Int) := by omega
      clear hpl e1 e2 e3 hpc hok hnx hlt hpp
      generalize hA : ((off / 32 + k : Nat) : Int) = a at *
      generalize hB : (pFr off k : Int) = b at *
      generalize hC : (pTt off n k : Int) = c at *
      generalize hD : (pIx off k : Int) = d at *
      have hP2 : ∀ w, Calls Tryz.prog 49 #[.int .i64 ((off : Int) + d), .int .i64 ((n : Int) - d)] w fun e w' => e = .returned (.agg #[.int .i64 a, .int .i64 b, .int .i64 c, .int .i64 0]) ∧ Below w.heap.size w w' := hP
      have hS2 : ∀ w, Calls Tryz.prog 50 #[.agg #[.int .i64 a, .int .i64 b, .int .i64 c, .int .i64 d]] w fun e w' => e = .returned (.int .i64 (c - b)) ∧ Below w.heap.size w w' := hS1
      clear hP hS1
      gi_wp2
      refine ⟨trivial, fun _ => by omega, (callsIn_wide.2 (hP2 _)).mono ?_⟩
      rintro e w1 ⟨rfl, b1⟩
      gi_wp2
      have hbw : Below wr.heap.size wr (w1.alloc (.cells #[.int .i64 a, .int .i64 b, .int .i64 c, .int .i64 d] 71)) := b1.trans (((Below.refl _ w1).alloc (Nat.le_refl _) _).mono b1.size)
      obtain ⟨fn, tmps, assign, body, hy, hR⟩ := hY1 _ (hJ _ _ _ none hJs (grown_none hbw) (fun r e => by cases e)) (by rw [List.length_range]; exact hkn)
      have hy2 : Sem.run Tryz.prog (Instr.yield l #[.agg #[.int .i64 a, .int .i64 b, .int .i64 c, .int .i64 d]]) (w1.alloc (.cells #[.int .i64 a, .int .i64 b, .int .i64 c, .int .i64 d] 71)) = .ok (.round l fn tmps assign body) (w1.alloc (.cells #[.int .i64 a, .int .i64 b, .int .i64 c, .int .i64 d] 71)) := hy
      rw [hy2]
      have hsz : w1.heap.size < (w1.alloc (.cells #[.int .i64 a, .int .i64 b, .int .i64 c, .int .i64 d] 71)).heap.size := by simp
      have hpn : (w1.alloc (.cells #[.int .i64 a, .int .i64 b, .int .i64 c, .int .i64 d] 71)).heap[w1.heap.size]? = some (.cells #[.int .i64 a, .int .i64 b, .int .i64 c, .int .i64 d] 71 (0, 0)) := heap_alloc_new _ _
      have hkw : KpC S W (w1.alloc (.cells #[.int .i64 a, .int .i64 b, .int .i64 c, .int .i64 d] 71)) := kpC_t hkp (KpC.of_frv (FrV.of_below hbw))
      have hnS : ¬ S w1.heap.size := fun e => by have := hS _ e; have := hkp.1; have := b1.size; omega
      clear hy hy2 hc1 hc2
      gi_wp2
      refine ⟨fun _ => by omega, hR.mono ?_⟩
      clear hR
      rintro e W3 (⟨rfl, hJ3, hk3⟩ | ⟨rfl, hJx3⟩)
      · have hp3 := hk3.2 _ _ hpn (KpO.mk _ _ _ (by decide)) hnS
        have hc0 : W3.cell? ⟨w1.heap.size, 0, none⟩ = some (.int .i64 a) := by rw [cell_of_row _ _ _ _ _ _ hp3]; rfl
        have hc1 : W3.cell? ⟨w1.heap.size, 1, none⟩ = some (.int .i64 b) := by rw [cell_of_row _ _ _ _ _ _ hp3]; rfl
        have hc2 : W3.cell? ⟨w1.heap.size, 2, none⟩ = some (.int .i64 c) := by rw [cell_of_row _ _ _ _ _ _ hp3]; rfl
        have hc3 : W3.cell? ⟨w1.heap.size, 3, none⟩ = some (.int .i64 d) := by rw [cell_of_row _ _ _ _ _ _ hp3]; rfl
        have hcb : 0 < c - b ∧ c - b ≤ 32 := by have := HNX.out.2; have h32 : pTt off n k ≤ 32 := Nat.min_le_right _ _; omega
        gi_wp2
        refine ⟨trivial, fun _ => by omega, (callsIn_wide.2 (hS2 _)).mono ?_⟩
        rintro e W4 ⟨rfl, b4⟩
        have hd2 : IntKind.i64.wrap (d + (c - b)) = d + (c - b) := by rw [IntKind.wrap_i64]; omega
        gi_wp2
        go_roundw
        case rel => exact ⟨k + 1, hkn, (by have := HNX.out; rw [this.1]; congr 1; omega), by rw [List.range_succ]; exact hJ _ _ _ none hJ3 (grown_none b4) (fun r e => by cases e), kpC_t (kpC_t hkw hk3) (KpC.of_frv (FrV.of_below b4))⟩
        case measure => simp only [intOf]; omega
      · gi_wp2
        refine bodyPost_ret (results_none rfl _ _ _) rfl ?_
        exact ⟨⟨_, rfl⟩, .inr ⟨_, ⟨k + 1, hkn, List.range_succ.symm⟩, hJx3⟩⟩
    · obtain rfl : k = pN off n := by omega
      have hge : n ≤ pIx off (pN off n) := Nat.not_lt.1 (fun e => Nat.lt_irrefl _ (pIx_lt.1 e))
      rw [Nat.min_eq_right hge]
      gi_wp2
      go_end0
      exact ⟨⟨_, rfl⟩, .inl ⟨_, rfl, hJs⟩⟩
theorem pieces_calls (w : World) (off n : Int) :
    Calls Tryz.prog 29 #[.int .i64 off, .int .i64 n] w fun e w' => e = .returned (.func (.func 48) #[] #[.pointer (some ⟨w.heap.size + 1, 0, none⟩), .pointer (some ⟨w.heap.size, 0, none⟩)]) ∧ w' = (w.alloc (.cells #[.int .i64 off] 3)).alloc (.cells #[.int .i64 n] 3) := by
  go_enter Tryz.func29, Tryz.ntmps29
  go_wp2
  go_ret
  exact ⟨rfl, rfl⟩
theorem pieces_stops (m : Nat) (hm : 2 ≤ m) (B1 B2 off n Bs : Nat) (ho : off ≤ 1048576) (hn : n ≤ 1048576) (S : Nat → Prop) (hS1 : ¬ S B1) (hS2 : ¬ S B2) (hS : ∀ i, S i → i < Bs) (w : World) (hBs : Bs ≤ w.heap.size) (h1 : B1 < w.heap.size) (h2 : B2 < w.heap.size)
    (c1 : w.heap[B1]? = some (.cells #[.int .i64 (n : Int)] 3 (0, 0))) (c2 : w.heap[B2]? = some (.cells #[.int .i64 (off : Int)] 3 (0, 0))) :
    SeqStopsK Fence.wide m Tryz.prog 48 #[.pointer (some ⟨B1, 0, none⟩), .pointer (some ⟨B2, 0, none⟩)] (fun x : Nat => #[pcv (pcM off n x)]) (KpC S) (fun xs => xs = List.range (pN off n)) (fun pre => ∃ k, k ≤ pN off n ∧ pre = List.range k) (pN off n) w := fun l J Jx W hW hJ _ hY h0 =>
  pieces1_in m hm l B1 B2 off n Bs ho hn S hS1 hS2 hS J Jx W (Nat.le_trans hBs hW.size) hJ hY ((hW.block B1 h1).trans c1) ((hW.block B2 h2).trans c2) h0
end Go.Proofs.YtdmindhjmjnagabGreatDoor
/- chunk: strings.Builder, by the shelf. -/
namespace Go.Proofs.YtdmindhjmjnagabGreatDoor
set_option linter.unusedVariables false
set_option maxRecDepth 100000
open Go.RowKit Go.Shelf

/-! The library's contracts, laid at this program: each body is held against the one that the contract was proved of. -/
def Tryz.bwsA_ren : Go.Shelf.Ren := ⟨fun | 166 => 39 | 240 => 63 | 276 => 89 | n => n, fun | 0 => 0 | 3 => 3 | 4 => 4 | 9 => 9 | 20 => 20 | 37 => 36 | 70 => 84 | 72 => 86 | 75 => 88 | 164 => 148 | 5 => 5 | 80 => 92 | n => n, fun | n => n⟩
theorem Tryz.bwsA : Go.Proofs.Lays.n166 Tryz.prog Tryz.bwsA_ren := {
  mixed := by kernel_rfl
  f166 := Tryz.func39.trans (congrArg some (by kernel_rfl))
  f240 := Tryz.func63.trans (congrArg some (by kernel_rfl))
  f276 := Tryz.func89.trans (congrArg some (by kernel_rfl))
  t0 := Tryz.underlying0
  a0 := Tryz.isAgg0
  z0 := Tryz.sizeOf0
  v0 := Tryz.zeroValue0
  t3 := Tryz.underlying3
  a3 := Tryz.isAgg3
  z3 := Tryz.sizeOf3
  v3 := Tryz.zeroValue3
  t4 := Tryz.underlying4
  a4 := Tryz.isAgg4
  z4 := Tryz.sizeOf4
  v4 := Tryz.zeroValue4
  t9 := Tryz.underlying9
  a9 := Tryz.isAgg9
  z9 := Tryz.sizeOf9
  v9 := Tryz.zeroValue9
  t20 := Tryz.underlying20
  a20 := Tryz.isAgg20
  z20 := Tryz.sizeOf20
  v20 := Tryz.zeroValue20
  t37 := Tryz.underlying36
  a37 := Tryz.isAgg36
  z37 := Tryz.sizeOf36
  v37 := Tryz.zeroValue36
  t70 := Tryz.underlying84
  a70 := Tryz.isAgg84
  z70 := Tryz.sizeOf84
  v70 := Tryz.zeroValue84
  t72 := Tryz.underlying86
  a72 := Tryz.isAgg86
  z72 := Tryz.sizeOf86
  v72 := Tryz.zeroValue86
  t75 := Tryz.underlying88
  a75 := Tryz.isAgg88
  z75 := Tryz.sizeOf88
  v75 := Tryz.zeroValue88
  t164 := Tryz.underlying148
  a164 := Tryz.isAgg148
  z164 := Tryz.sizeOf148
  v164 := Tryz.zeroValue148 }
def Tryz.bstrA_ren : Go.Shelf.Ren := ⟨fun | 169 => 42 | n => n, fun | 0 => 0 | 3 => 3 | 9 => 9 | 37 => 36 | 70 => 84 | 72 => 86 | 127 => 129 | 5 => 5 | n => n, fun | n => n⟩
theorem Tryz.bstrA : Go.Proofs.Lays.n169 Tryz.prog Tryz.bstrA_ren := {
  mixed := by kernel_rfl
  f169 := Tryz.func42.trans (congrArg some (by kernel_rfl))
  t0 := Tryz.underlying0
  a0 := Tryz.isAgg0
  z0 := Tryz.sizeOf0
  v0 := Tryz.zeroValue0
  t3 := Tryz.underlying3
  a3 := Tryz.isAgg3
  z3 := Tryz.sizeOf3
  v3 := Tryz.zeroValue3
  t9 := Tryz.underlying9
  a9 := Tryz.isAgg9
  z9 := Tryz.sizeOf9
  v9 := Tryz.zeroValue9
  t37 := Tryz.underlying36
  a37 := Tryz.isAgg36
  z37 := Tryz.sizeOf36
  v37 := Tryz.zeroValue36
  t70 := Tryz.underlying84
  a70 := Tryz.isAgg84
  z70 := Tryz.sizeOf84
  v70 := Tryz.zeroValue84
  t72 := Tryz.underlying86
  a72 := Tryz.isAgg86
  z72 := Tryz.sizeOf86
  v72 := Tryz.zeroValue86
  t127 := Tryz.underlying129
  a127 := Tryz.isAgg129
  z127 := Tryz.sizeOf129
  v127 := Tryz.zeroValue129 }
theorem Tryz.bwsA_extra : Builder.Extra Tryz.prog Tryz.bwsA_ren where
  sizeBuilder := by kernel_rfl
  liesBuilder := by kernel_rfl
  t5 := Tryz.underlying5
  a5 := Tryz.isAgg5
  z5 := Tryz.sizeOf5
  v5 := Tryz.zeroValue5
  infoByte := by kernel_rfl
  cellsByte := by kernel_rfl
  sizeByte := by kernel_rfl
  neB5 := by decide
theorem Tryz.bstrA_extra : Builder.Extra Tryz.prog Tryz.bstrA_ren where
  sizeBuilder := by kernel_rfl
  liesBuilder := by kernel_rfl
  t5 := Tryz.underlying5
  a5 := Tryz.isAgg5
  z5 := Tryz.sizeOf5
  v5 := Tryz.zeroValue5
  infoByte := by kernel_rfl
  cellsByte := by kernel_rfl
  sizeByte := by kernel_rfl
  neB5 := by decide
/-- A builder that holds these bytes; its own row lies at B or beyond. -/
abbrev BuF (B b : Nat) (l : List UInt8) (w : World) : Prop := Lib.IsBuilderF 86 5 B b (Lib.byteCells l) w
theorem bws_calls (B b : Nat) (l v : List UInt8) (w : World) (h : BuF B b l w) (hl : l.length + v.length ≤ 100000000) (hB : B ≤ w.heap.size) :
    Calls Tryz.prog 39 #[.pointer (some ⟨b, 0, none⟩), .string (str v)] w fun e w' => (∃ u, e = .returned u) ∧ BuF B b (l ++ v) w' ∧ Below B w w' ∧ Lib.OthersKept 5 (some b) w w' := by
  refine (Any.Builder_WriteString_k Tryz.bwsA Tryz.bwsA_extra B b (Lib.byteCells l) (str v) w h (by rw [Lib.byteCells_length, str_size]; omega) hB).mono ?_
  rintro e w' ⟨rfl, h1, h2, h3⟩
  refine ⟨⟨_, rfl⟩, ?_, h2, h3⟩
  have e1 : Lib.byteCells l ++ Lib.strCells (str v) = Lib.byteCells (l ++ v) := by
    rw [Lib.byteCells_append]
    congr 1
  rw [e1] at h1
  exact .inr h1
theorem bstr_calls (B b : Nat) (l : List UInt8) (w : World) (h : BuF B b l w) (hB : B ≤ w.heap.size) :
    Calls Tryz.prog 42 #[.pointer (some ⟨b, 0, none⟩)] w fun e w' => e = .returned (.string (str l)) ∧ Below B w w' ∧ Lib.OthersKept 5 (some b) w w' :=
  (Any.Builder_String_any_k Tryz.bstrA Tryz.bstrA_extra B b l w h hB).mono fun _ _ ⟨h1, _, h2, h3⟩ => ⟨h1, h2, h3⟩
theorem buF_new (w : World) : BuF w.heap.size w.heap.size [] (w.alloc (.cells #[.pointer none, .slice none 0 0] 86)) := Lib.IsBuilderF.of (Lib.fresh_isBuilder _ _ w)
end Go.Proofs.YtdmindhjmjnagabGreatDoor
/- A drawn region in a round of a range over a function, by the laws of the plain walk. -/
namespace Go.Proofs.YtdmindhjmjnagabGreatDoor
set_option linter.unusedVariables false
set_option maxRecDepth 100000
open Go

section
variable {P : Program} {ops : Array Oper} {Q : Exit → Act → World → Prop} {md : Region.Mode} {S : World → Prop}
theorem wpIn_of_wp (l n : Nat) {o : Oper} (hd : ∀ c, o.op ≠ .defer c) {K : Act → World → Prop} {a : Act} {w : World} (h : o.wp P a w K Q) : o.wpIn (Fence.wide.inRound l) n P a w K Q := by
  unfold Oper.wpIn
  refine ⟨fun f _ => trivial, ?_⟩
  rw [Oper.semAt_eq _ _ _ hd]
  unfold Oper.wp at h
  generalize (execOp a.eval o).run P w = r at *
  cases r with
  | ok x w' =>
    cases x <;> simp only [Oper.upon, Oper.uponIn] at h ⊢
    case value => exact h
    case skip => exact h
    case defer => exact h
    case enter f args => exact ⟨fun e => by simp [Fence.inRound, Fence.wide] at e, CallsIn.inRound l (callsIn_wide.2 (h.mono fun e w'' he => by cases e <;> exact he))⟩
    case row row args => exact ⟨fun e => by simp [Fence.inRound, Fence.wide] at e, fun c cs _ => let ⟨v, w', r, s⟩ := h c cs; ⟨v, w', r, stepsIn_wide.2 s⟩⟩
  | halt x w' => cases x <;> simp only [Oper.upon, Oper.uponIn] at h ⊢; exact h
/-- No operation of the region is a defer statement. -/
def noDefer (ops : Array Oper) : Bool := ops.all fun o => match o.op with
  | .defer _ => false
  | _ => true
theorem noDefer_spec {i : Nat} {o : Oper} (h : noDefer ops = true) (hi : ops[i]? = some o) : ∀ c, o.op ≠ .defer c := fun c e => by
  obtain ⟨hlt, rfl⟩ := Array.getElem?_eq_some_iff.1 hi
  have := Array.all_eq_true.1 h i hlt
  rw [e] at this
  cases this
theorem wpOpIn_of_wpOp (l n : Nat) (hl : ¬ LetsOut Q) (h : noDefer ops = true) {i : Nat} {K : Act → World → Prop} {a : Act} {w : World} (hh : wpOp P ops Q i K a w) : wpOpIn (Fence.wide.inRound l) n P ops Q i K a w := by
  unfold wpOpIn
  unfold wpOp at hh
  split
  · rename_i e
    rw [e] at hh
    exact hh
  · rename_i o e
    rw [e] at hh
    dsimp only at hh
    split
    · rename_i hw
      rw [if_pos hw] at hh
      exact hh.elim (wpIn_of_wp l n (noDefer_spec h e)) (fun q => absurd q.2 hl)
    · rename_i hw
      rw [if_neg hw] at hh
      exact ⟨fun _ _ => trivial, hh⟩
theorem wpAnyIn_of_wpAny (l n : Nat) (hl : ¬ LetsOut Q) (h : noDefer ops = true) : ∀ (fuel : Nat) (listed : Array Bool) (a : Act) (w : World), wpAny P md ops Q fuel listed a w → wpAnyIn (Fence.wide.inRound l) n P md ops Q fuel listed a w
  | 0, _, _, _, hh => hh
  | fuel + 1, _, _, _, hh => ⟨hh.1, fun i hi => wpOpIn_mono (fun a' w' h' => wpAnyIn_of_wpAny l n hl h fuel _ a' w' h') (wpOpIn_of_wpOp l n hl h (hh.2 i hi))⟩
/-- The beginning. -/
theorem wpIn_region_held (l n : Nat) {id : Nat} {a : Act} {w : World} (hl : ¬ LetsOut Q) (hm : P.follows .mixedOrders = true) (hd : noDefer ops = true) (hS : S w.drew)
    (h : S w.drew → wpAnyH P .any ops Q S ops.size (Array.replicate ops.size false) a w.drew) : (Code.region id ops true).wpIn (Fence.wide.inRound l) n P Q a w :=
  wpIn_region_any hm (wpAnyIn_of_wpAny l n hl hd _ _ _ _ (wpAny_of_held _ _ _ _ (h hS)))
/-- The same, where the last store writes what the loads have read. -/
theorem wpIn_region_Z (l n : Nat) {id : Nat} {a : Act} {w : World} (z : Nat) (S : World → Prop) (hl : ¬ LetsOut Q) (hm : P.follows .mixedOrders = true) (hd : noDefer ops = true) (hS : S w.drew)
    (h : S w.drew → wpAnyZ P .any ops Q S z ops.size (Array.replicate ops.size false) a w.drew) : (Code.region id ops true).wpIn (Fence.wide.inRound l) n P Q a w :=
  wpIn_region_any hm (wpAnyIn_of_wpAny l n hl hd _ _ _ _ (wpAny_of_Z _ _ _ _ (h hS)))
theorem wpListIn_of_wpList (l n : Nat) (hl : ¬ LetsOut Q) : ∀ (rest : List Oper) (a : Act) (w : World), (∀ o ∈ rest, ∀ c, o.op ≠ .defer c) → wpList P ops Q rest a w → wpListIn (Fence.wide.inRound l) n P ops Q rest a w
  | [], _, _, _, h => h
  | o :: rest, a, w, hd, h => by
    unfold wpListIn
    unfold wpList at h
    have ih := fun a w => wpListIn_of_wpList l n hl rest a w (fun o ho => hd o (List.mem_cons_of_mem _ ho))
    split
    · rename_i hw
      rw [if_pos hw] at h
      exact h.elim (fun q => wpIn_of_wp l n (hd o List.mem_cons_self) (Oper.wp_mono (fun a w q => ih a w q) q)) (fun q => absurd q.2 hl)
    · rename_i hw
      rw [if_neg hw] at h
      exact ⟨fun _ _ => trivial, ih _ _ h⟩
/-- A region that draws no order. -/
theorem wpIn_region_plain (l n : Nat) {id : Nat} {L : List Oper} {a : Act} {w : World} (hl : ¬ LetsOut Q) (hd : noDefer L.toArray = true) (h : wpList P L.toArray Q L a w) : (Code.region id L.toArray false).wpIn (Fence.wide.inRound l) n P Q a w :=
  wpIn_region_lit (wpListIn_of_wpList l n hl L a w (fun o ho => by
    obtain ⟨i, hi, rfl⟩ := List.mem_iff_getElem.1 ho
    exact noDefer_spec (i := i) hd (by simp [hi])) h)
end
end Go.Proofs.YtdmindhjmjnagabGreatDoor
