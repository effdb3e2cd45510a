import Derived.Test.YtgicanpggndbeaaGreatB17
/- The keys of a map, in order: maps.Keys, slices.SortedFunc. -/
namespace Go.Proofs.YtgicanpggndbeaaGreat
set_option linter.unusedVariables false
set_option maxRecDepth 100000
open Go.RowKit

/-- A pair, a change, as they lie. -/
def pcd (p : Pa) : List Value := bc p.k ++ [.string (str p.v)]
def ccd (c : Ch) : List Value := bc c.k ++ [.string (str c.v), .bool c.g]
def encP : Enc Pa 25 := ⟨pcd, fun p => by simp [pcd, bc_length, p.h], fun p v hv => by
  simp only [pcd, List.mem_append, List.mem_singleton] at hv
  rcases hv with h | rfl
  · exact bc_one _ v h
  · rfl⟩
def encC : Enc Ch 26 := ⟨ccd, fun p => by simp [ccd, bc_length, p.h], fun p v hv => by
  simp only [ccd, List.mem_append, List.mem_cons, List.not_mem_nil, or_false] at hv
  rcases hv with h | rfl | rfl
  · exact bc_one _ v h
  · rfl
  · rfl⟩
def pa0 : Pa := ⟨zs 24, rfl, []⟩
def ch0 : Ch := ⟨zs 24, rfl, [], false⟩
theorem rowP : RowTy Tryz.prog encP 52 88 40 := ⟨Tryz.underlying52, ⟨.agg (pcd pa0).toArray, by kernel_rfl, by simp [Value.cells, pcd, bc_length, pa0, zs_length]⟩, by decide⟩
theorem rowC : RowTy Tryz.prog encC 50 64 48 := ⟨Tryz.underlying50, ⟨.agg (ccd ch0).toArray, by kernel_rfl, by simp [Value.cells, ccd, bc_length, ch0, zs_length]⟩, by decide⟩
theorem elP : ElTy Tryz.prog encP 88 := ⟨⟨_, Tryz.underlying88, rfl, rfl⟩, by kernel_rfl⟩
theorem elC : ElTy Tryz.prog encC 64 := ⟨⟨_, Tryz.underlying64, rfl, rfl⟩, by kernel_rfl⟩
theorem elK : ElTy Tryz.prog encKz 29 := ⟨⟨_, Tryz.underlying29, rfl, rfl⟩, Tryz.key_info⟩
theorem tyP : MapTy encP 165 88 pa0 := ⟨Tryz.underlying165, fun w => by kernel_rfl⟩
theorem tyC : MapTy encC 71 64 ch0 := ⟨Tryz.underlying71, fun w => by kernel_rfl⟩

/-- Just the keys of L, each once. -/
def KeysL {α : Type} (key : α → Int) (L : List α) (ss : List Kz) : Prop := ss.Nodup ∧ ∀ K, K ∈ ss ↔ (look key L K.n).isSome = true
theorem RangeA.walks {α : Type} {k : Nat} {E : Enc α k} {key : α → Int} {w w' : World} {b r n : Nat} {L : List α} {todo : Kz → Bool} {cnt : Nat} (h : RangeA E key w b r n L todo cnt) (hk : KeepsWalks w w') : RangeA E key w' b r n L todo cnt := by
  obtain ⟨⟨D, left, h1, h2⟩, h3, h4⟩ := h
  exact ⟨⟨D, left, h1.of_walks hk, h2⟩, h3, h4⟩
theorem RangeA.walk {α : Type} {k : Nat} {E : Enc α k} {key : α → Int} {w : World} {b r n : Nat} {L : List α} {todo : Kz → Bool} {cnt : Nat} (h : RangeA E key w b r n L todo cnt) : ∃ o : Obj, w.heap[r]? = some o ∧ o.isWalk = true := by
  obtain ⟨⟨D, left, h1, h2⟩, h3, h4⟩ := h
  exact h1.iter_walk
/-- Where the loop over a map stands. -/
structure Got {α : Type} (key : α → Int) (L : List α) (todo : Kz → Bool) (ss : List Kz) : Prop where
  nodup : ss.Nodup
  mem : ∀ K, K ∈ ss ↔ (look key L K.n).isSome = true ∧ todo K = false
theorem Got.start {α : Type} (key : α → Int) (L : List α) : Got key L (fun K => (look key L K.n).isSome) [] := ⟨List.nodup_nil, fun K => by cases (look key L K.n).isSome <;> simp⟩
theorem Got.step {α : Type} {key : α → Int} {L : List α} {todo : Kz → Bool} {ss : List Kz} (h : Got key L todo ss) {K : Kz} (hK : todo K = true) {x : α} (hx : look key L K.n = some x) : Got key L (without todo K) (ss ++ [K]) := by
  refine ⟨List.nodup_append.2 ⟨h.nodup, by simp, fun a ha b hb => ?_⟩, fun J => ?_⟩
  · rw [List.mem_singleton] at hb
    subst hb
    intro e
    subst e
    have := ((h.mem a).1 ha).2
    rw [hK] at this
    cases this
  · rw [List.mem_append, List.mem_singleton, h.mem]
    unfold without
    by_cases e : J = K
    · subst e
      simp [hx]
    · simp [e, kz_ne e]
theorem Got.done {α : Type} {key : α → Int} {L : List α} {todo : Kz → Bool} {ss : List Kz} (h : Got key L todo ss) (ht : ∀ K, todo K = false) : KeysL key L ss := ⟨h.nodup, fun K => by rw [h.mem, ht]; simp⟩
set_option maxRecDepth 100000 in
set_option maxHeartbeats 2000000 in
theorem keys1P_in (n : Nat) (l Bm b nn : Nat) (L : List Pa) (J : List Kz → World → Prop)
    (hY : ∀ pre (x : Kz) W, J pre W → pre.length < nn → YieldAt Fence.wide (n - 1) Tryz.prog l #[kv x.k] W fun e W' => e = .returned (.bool true) ∧ J (pre ++ [x]) W' ∧ KeepsWalks W W')
    (W : World) (hJ : AbidesFrom W.heap.size J) (hm : W.cell? ⟨Bm, 0, none⟩ = some (.map (some b))) (hown : MapA encP Pa.n W b nn L) (h0 : J [] W) :
    CallsIn Fence.wide n Tryz.prog 161 #[.func (.yield l) #[] #[], .pointer (some ⟨Bm, 0, none⟩)] W fun e W' => (∃ v, e = .returned v) ∧ ∃ ss : List Kz, KeysL Pa.n L ss ∧ J ss W' := by
  refine callsIn_of_wp Tryz.func161 rfl trivial ?_ rfl
  simp only [Tryz.ntmps161, List.size_toArray, List.length_cons, List.length_nil, Nat.reduceAdd, Nat.reduceSub, Array.replicate_succ, Array.replicate_zero, List.push_toArray, List.append_toArray, List.nil_append, List.cons_append]
  gi_wp2_with (first
    | (gi_at_range; refine rangeIn_a tyP rfl _ rfl b nn L rfl hown ?_; intro w0 cnt0 hrg0 hc0 hg0 hs0)
    | gi_in)
  go_frame
  gi_loopw [3] (fun _ wr => ∃ (todo : Kz → Bool) (cnt : Nat) (ss : List Kz), RangeA encP Pa.n wr b W.heap.size nn L todo cnt ∧ ss.length + cnt ≤ nn ∧ Got Pa.n L todo ss ∧ J ss wr)
    (fun _ wr => wr.rangeLeft b W.heap.size)
  case atStart =>
    exact ⟨_, cnt0, [], hrg0, by simpa using hc0, Got.start _ _, hJ [] W w0 none h0 hg0 (fun r e => by cases e)⟩
  case round =>
    obtain ⟨todo, cnt, ss, hrg, hcs, hC, hJs⟩ := hrel
    have HWT : Hid (W.heap.size ≤ W.heap.size ∧ W.heap.size < wr.heap.size) := ⟨Nat.le_refl _, hrg.lt⟩
    gi_wp2_with (first
      | (gi_at_next; refine nextIn_a rfl _ rfl b W.heap.size nn L todo cnt rfl hrg ?_ ?_)
      | gi_in)
    · intro hl0
      gi_wp2
      go_end0
      exact ⟨⟨_, rfl⟩, ss, hC.done hl0, hJs⟩
    · intro K x w2 cnt2 hK hx hrg2 hlt hg2 hs2 hen
      have hJ2 : J ss w2 := hJ ss wr w2 (some W.heap.size) hJs hg2 (fun r e => by cases e; exact ⟨Nat.le_refl _, hrg.walk⟩)
      have HR2 : Hid (RangeA encP Pa.n w2 b W.heap.size nn L (without todo K) cnt2) := hrg2
      have HJ2 : Hid (J ss w2) := hJ2
      clear hs2 hrg2 hJ2 hg2
      gi_wp2_with (first
        | (refine storeIn_key rfl _ _ rfl w2.heap.size rfl K.k rfl K.h (zs 24) (Has.new w2 (zs 24) rfl) ?_
           intro w3 hw3 t3 s3
           have B3 : Below w2.heap.size w2 w3 := ((Below.refl _ w2).alloc (Nat.le_refl _) _).trans (t3.below (by simp) (Nat.le_refl _) (by simp))
           have hJ3 : J ss w3 := hJ ss w2 w3 none HJ2.out ⟨B3.os, B3.tape, B3.output, B3.size, fun i hi _ => B3.block i hi⟩ (fun r e => by cases e)
           have hrg3 := HR2.out.below B3 (Nat.le_refl _)
           obtain ⟨fn, tmps, assign, body, hy, hR⟩ := hY ss K w3 hJ3 (by omega)
           clear B3 t3 s3 hen)
        | (refine loadIn_key rfl _ rfl w2.heap.size rfl K.k hw3 ?_)
        | gi_in)
      refine ⟨(fun h => by cases h), hR.mono ?_⟩
      rintro e W3 ⟨rfl, hJ4, hk4⟩
      gi_wp2
      have hrg4 := hrg3.walks hk4
      go_roundw
      case rel => exact ⟨_, cnt2, ss ++ [K], hrg4, by simp; omega, hC.step hK hx, hJ4⟩
      case measure => rw [hrg4.left_eq, hrg.left_eq]; exact hlt
theorem keysP_gives (n : Nat) (Bm b nn : Nat) (L : List Pa) (w : World) (hBm : Bm < w.heap.size) (hm : w.cell? ⟨Bm, 0, none⟩ = some (.map (some b))) (hown : MapA encP Pa.n w b nn L) :
    SeqGives Fence.wide n Tryz.prog 161 #[.pointer (some ⟨Bm, 0, none⟩)] (fun K : Kz => kv K.k) (KeysL Pa.n L) nn w := fun l J W hW hJ hY h0 =>
  keys1P_in n l Bm b nn L J hY W hJ ((hW.cell (p := ⟨Bm, 0, none⟩) hBm).trans hm) (hown.below hW (Nat.le_refl _)) h0
set_option maxHeartbeats 1000000 in
theorem keysP_calls (mb : Option Nat) (w : World) :
    Calls Tryz.prog 140 #[.map mb] w fun e w' => e = .returned (.func (.func 161) #[] #[.pointer (some ⟨w.heap.size, 0, none⟩)]) ∧ w' = w.alloc (.cells #[.map mb] 165) := by
  go_enter Tryz.func140, Tryz.ntmps140
  go_wp2
  go_ret
  exact ⟨rfl, rfl⟩
set_option maxRecDepth 100000 in
set_option maxHeartbeats 2000000 in
theorem keys1C_in (n : Nat) (l Bm b nn : Nat) (L : List Ch) (J : List Kz → World → Prop)
    (hY : ∀ pre (x : Kz) W, J pre W → pre.length < nn → YieldAt Fence.wide (n - 1) Tryz.prog l #[kv x.k] W fun e W' => e = .returned (.bool true) ∧ J (pre ++ [x]) W' ∧ KeepsWalks W W')
    (W : World) (hJ : AbidesFrom W.heap.size J) (hm : W.cell? ⟨Bm, 0, none⟩ = some (.map (some b))) (hown : MapA encC Ch.n W b nn L) (h0 : J [] W) :
    CallsIn Fence.wide n Tryz.prog 156 #[.func (.yield l) #[] #[], .pointer (some ⟨Bm, 0, none⟩)] W fun e W' => (∃ v, e = .returned v) ∧ ∃ ss : List Kz, KeysL Ch.n L ss ∧ J ss W' := by
  refine callsIn_of_wp Tryz.func156 rfl trivial ?_ rfl
  simp only [Tryz.ntmps156, List.size_toArray, List.length_cons, List.length_nil, Nat.reduceAdd, Nat.reduceSub, Array.replicate_succ, Array.replicate_zero, List.push_toArray, List.append_toArray, List.nil_append, List.cons_append]
  gi_wp2_with (first
    | (gi_at_range; refine rangeIn_a tyC rfl _ rfl b nn L rfl hown ?_; intro w0 cnt0 hrg0 hc0 hg0 hs0)
    | gi_in)
  go_frame
  gi_loopw [3] (fun _ wr => ∃ (todo : Kz → Bool) (cnt : Nat) (ss : List Kz), RangeA encC Ch.n wr b W.heap.size nn L todo cnt ∧ ss.length + cnt ≤ nn ∧ Got Ch.n L todo ss ∧ J ss wr)
    (fun _ wr => wr.rangeLeft b W.heap.size)
  case atStart =>
    exact ⟨_, cnt0, [], hrg0, by simpa using hc0, Got.start _ _, hJ [] W w0 none h0 hg0 (fun r e => by cases e)⟩
  case round =>
    obtain ⟨todo, cnt, ss, hrg, hcs, hC, hJs⟩ := hrel
    have HWT : Hid (W.heap.size ≤ W.heap.size ∧ W.heap.size < wr.heap.size) := ⟨Nat.le_refl _, hrg.lt⟩
    gi_wp2_with (first
      | (gi_at_next; refine nextIn_a rfl _ rfl b W.heap.size nn L todo cnt rfl hrg ?_ ?_)
      | gi_in)
    · intro hl0
      gi_wp2
      go_end0
      exact ⟨⟨_, rfl⟩, ss, hC.done hl0, hJs⟩
    · intro K x w2 cnt2 hK hx hrg2 hlt hg2 hs2 hen
      have hJ2 : J ss w2 := hJ ss wr w2 (some W.heap.size) hJs hg2 (fun r e => by cases e; exact ⟨Nat.le_refl _, hrg.walk⟩)
      have HR2 : Hid (RangeA encC Ch.n w2 b W.heap.size nn L (without todo K) cnt2) := hrg2
      have HJ2 : Hid (J ss w2) := hJ2
      clear hs2 hrg2 hJ2 hg2
      gi_wp2_with (first
        | (refine storeIn_key rfl _ _ rfl w2.heap.size rfl K.k rfl K.h (zs 24) (Has.new w2 (zs 24) rfl) ?_
           intro w3 hw3 t3 s3
           have B3 : Below w2.heap.size w2 w3 := ((Below.refl _ w2).alloc (Nat.le_refl _) _).trans (t3.below (by simp) (Nat.le_refl _) (by simp))
           have hJ3 : J ss w3 := hJ ss w2 w3 none HJ2.out ⟨B3.os, B3.tape, B3.output, B3.size, fun i hi _ => B3.block i hi⟩ (fun r e => by cases e)
           have hrg3 := HR2.out.below B3 (Nat.le_refl _)
           obtain ⟨fn, tmps, assign, body, hy, hR⟩ := hY ss K w3 hJ3 (by omega)
           clear B3 t3 s3 hen)
        | (refine loadIn_key rfl _ rfl w2.heap.size rfl K.k hw3 ?_)
        | gi_in)
      refine ⟨(fun h => by cases h), hR.mono ?_⟩
      rintro e W3 ⟨rfl, hJ4, hk4⟩
      gi_wp2
      have hrg4 := hrg3.walks hk4
      go_roundw
      case rel => exact ⟨_, cnt2, ss ++ [K], hrg4, by simp; omega, hC.step hK hx, hJ4⟩
      case measure => rw [hrg4.left_eq, hrg.left_eq]; exact hlt
theorem keysC_gives (n : Nat) (Bm b nn : Nat) (L : List Ch) (w : World) (hBm : Bm < w.heap.size) (hm : w.cell? ⟨Bm, 0, none⟩ = some (.map (some b))) (hown : MapA encC Ch.n w b nn L) :
    SeqGives Fence.wide n Tryz.prog 156 #[.pointer (some ⟨Bm, 0, none⟩)] (fun K : Kz => kv K.k) (KeysL Ch.n L) nn w := fun l J W hW hJ hY h0 =>
  keys1C_in n l Bm b nn L J hY W hJ ((hW.cell (p := ⟨Bm, 0, none⟩) hBm).trans hm) (hown.below hW (Nat.le_refl _)) h0
set_option maxHeartbeats 1000000 in
theorem keysC_calls (mb : Option Nat) (w : World) :
    Calls Tryz.prog 130 #[.map mb] w fun e w' => e = .returned (.func (.func 156) #[] #[.pointer (some ⟨w.heap.size, 0, none⟩)]) ∧ w' = w.alloc (.cells #[.map mb] 71) := by
  go_enter Tryz.func130, Tryz.ntmps130
  go_wp2
  go_ret
  exact ⟨rfl, rfl⟩
end Go.Proofs.YtgicanpggndbeaaGreat
