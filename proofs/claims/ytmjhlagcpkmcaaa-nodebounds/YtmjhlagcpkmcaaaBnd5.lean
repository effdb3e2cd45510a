/- NodeBounds: the node that it builds, and what is right of it (plain), and the operations that it needs. -/
import Derived.Test.YtmjhlagcpkmcaaaNodS
import Derived.OwnWalk
namespace Go.Proofs.Ytmjhlagcpkmcaaa
set_option linter.unusedVariables false
open Go.RowKit

def kp (i : Nat) : List UInt8 := zs 23 ++ [UInt8.ofNat i]
def kk (i : Nat) : List UInt8 := zs 5 ++ UInt8.ofNat i :: zs 18
def mP (s : ByteArray) (i : Nat) : Pr := ⟨kp i, s⟩
def mK (i : Nat) : Kd := ⟨kk i, 99 - (i : Int)⟩
def bP (n : Nat) (s : ByteArray) : List Pr := (List.range n).map (mP s)
def bK (n : Nat) : List Kd := (List.range n).map mK
theorem kp_length (i : Nat) : (kp i).length = 24 := by simp [kp, zs]
theorem kk_length (i : Nat) : (kk i).length = 24 := by simp [kk, zs]
theorem bP_length (n : Nat) (s : ByteArray) : (bP n s).length = n := by simp [bP]
theorem bK_length (n : Nat) : (bK n).length = n := by simp [bK]
theorem bP_succ (n : Nat) (s : ByteArray) : bP (n + 1) s = bP n s ++ [mP s n] := by simp [bP, List.range_succ]
theorem bK_succ (n : Nat) : bK (n + 1) = bK n ++ [mK n] := by simp [bK, List.range_succ]
theorem flat_append (a b : List El) : flat (a ++ b) = flat a ++ flat b := by simp [flat]
theorem flat_P (n : Nat) (s : ByteArray) : flat ((bP (n + 1) s).map Pr.el) = flat ((bP n s).map Pr.el) ++ ec (mP s n).el := by
  rw [bP_succ, List.map_append, flat_append]; simp [flat]
theorem flat_K (n : Nat) : flat ((bK (n + 1)).map Kd.el) = flat ((bK n).map Kd.el) ++ ec (mK n).el := by
  rw [bK_succ, List.map_append, flat_append]; simp [flat]
theorem okP (n : Nat) (s : ByteArray) : ∀ i (hi : i < ((bP n s).map Pr.el).length), (((bP n s).map Pr.el)[i]).Ok := fun i hi => by
  simp only [bP, List.map_map, List.getElem_map]
  exact Pr.ok_el (kp_length _)
theorem okK (n : Nat) : ∀ i (hi : i < ((bK n).map Kd.el).length), (((bK n).map Kd.el)[i]).Ok := fun i hi => by
  simp only [bK, List.map_map, List.getElem_map]
  exact Kd.ok_el (kk_length _)
theorem bP_keys (n : Nat) (s : ByteArray) : (bP n s).map Pr.k = (List.range n).map kp := by simp [bP, mP]
theorem bK_keys (n : Nat) : (bK n).map Kd.k = (List.range n).map kk := by simp [bK, mK]
theorem all_p : ((List.range 16).all fun n => rises ((List.range n).map kp)) = true := by decide +kernel
theorem all_k : ((List.range 32).all fun n => rises ((List.range n).map kk) && apart (bK n) && !anyK (bK n)) = true := by decide +kernel
theorem any_bP (n : Nat) (s : ByteArray) (h : 1 ≤ n) : anyP (bP n s) = decide (40 < s.size) := by
  cases hd : decide (40 < s.size) with
  | true =>
    rw [anyP, List.any_eq_true]
    exact ⟨mP s 0, by simp only [bP, List.mem_map, List.mem_range]; exact ⟨0, by omega, rfl⟩, hd⟩
  | false =>
    rw [anyP, List.any_eq_false]
    intro p hp
    simp only [bP, List.mem_map, List.mem_range] at hp
    obtain ⟨i, _, rfl⟩ := hp
    have hd' : ¬ 40 < s.size := of_decide_eq_false hd
    simp only [badP, mP]
    exact fun q => hd' (of_decide_eq_true q)
/-- What is right. -/
theorem right_b (lv : Int) (n m : Nat) (s : ByteArray) (hn : n < 16) (hm : m < 32) : rightN ⟨lv, bP n s, bK m⟩ = true ↔ (lv = 0 ∧ 1 ≤ n ∧ n ≤ 7 ∧ m = 0 ∧ s.size ≤ 40) ∨ (1 ≤ lv ∧ lv ≤ 11 ∧ 2 ≤ m ∧ m ≤ 18 ∧ n = 0) := by
  have hp := List.all_eq_true.1 all_p n (List.mem_range.2 hn)
  have hk := List.all_eq_true.1 all_k m (List.mem_range.2 hm)
  simp only [Bool.and_eq_true, Bool.not_eq_true'] at hk
  obtain ⟨⟨h1, h2⟩, h3⟩ := hk
  simp only [rightN, okPairs, okKids, bP_keys, bK_keys, bP_length, bK_length, hp, h1, h2, h3]
  by_cases c1 : lv < 0 ∨ 12 ≤ lv
  · rw [if_pos c1]
    simp
    omega
  · rw [if_neg c1]
    by_cases c2 : lv = 0
    · rw [if_pos c2]
      by_cases c3 : 1 ≤ n
      · rw [any_bP n s c3]
        simp
        omega
      · simp
        omega
    · rw [if_neg c2]
      simp
      omega
theorem made_zeros (n : Nat) : (madeCells (Value.int .u8 0).cells (n * 1)).toList = bc (List.replicate n 0) := by
  apply List.ext_getElem
  · simp [madeCells, bc]
  · intro i h1 h2
    simp [madeCells, bc, Value.cells, Nat.mod_one]
theorem wp_make_zeros {o : Oper} {a : Act} {w : World} {K : Act → World → Prop} {Q : Exit → Act → World → Prop} (l c : Operand) (hop : o.op = Op.makeSlice 26 l c) (base n : Nat) (L : Int) (hl : a.eval l = .int .i64 L) (hc : a.eval c = .int .i64 L) (hL : L = (n : Int)) (b2 : n ≤ 100000) (b4 : base ≤ w.heap.size)
    (h : ∀ w', w'.ownsRow base 5 1 (.slice (some ⟨w.heap.size, 0, none⟩) n n) n (bc (List.replicate n 0)) → w.grownBy w' none → K (a.put o.dst (.slice (some ⟨w.heap.size, 0, none⟩) n n)) w') : o.wp Try.prog a w K Q := by
  obtain ⟨i0, hi, hz0, hz1, hz2⟩ := info_parts Try.info_u8
  obtain ⟨w', hrun, r1, r2⟩ := run_make_full (P := Try.prog) w base 26 5 i0 (.int .u8 0) 1 Try.underlying26 hi hz0 hz1 .i64 .i64 n (by rw [hz2]; omega) (by unfold maxLen; omega) b4
  subst hL
  rw [made_zeros] at r1
  unfold Oper.wp
  simp [execOp, hop, hl, hc, hrun, Result.andThen]
  exact h w' r1 r2
theorem Try.kp_built (x : Int) : Try.prog.built 39 [(23, .int .u8 x)] = some (bc (zs 23) ++ [Value.int .u8 x]).toArray := by kernel_rfl
theorem Try.kk_built (x : Int) : Try.prog.built 39 [(5, .int .u8 x)] = some (bc (zs 5) ++ Value.int .u8 x :: bc (zs 18)).toArray := by kernel_rfl
theorem kp_cells (k : Nat) (h : k < 256) : (bc (zs 23) ++ [Value.int .u8 (k : Int)]).toArray = (bc (kp k)).toArray := by
  simp only [kp, bc_append]
  simp [bc, Nat.mod_eq_of_lt h]
theorem kk_cells (k : Nat) (h : k < 256) : (bc (zs 5) ++ Value.int .u8 (k : Int) :: bc (zs 18)).toArray = (bc (kk k)).toArray := by
  simp only [kk, bc_append]
  simp [bc, Nat.mod_eq_of_lt h]
theorem kp_made (k : Nat) (h : k < 256) : Try.prog.built 39 [(23, .int .u8 (k : Int))] = some (bc (kp k)).toArray := by rw [Try.kp_built, kp_cells k h]
theorem kk_made (k : Nat) (h : k < 256) : Try.prog.built 39 [(5, .int .u8 (k : Int))] = some (bc (kk k)).toArray := by rw [Try.kk_built, kk_cells k h]
theorem Try.node_built (x : Int) : Try.prog.built 25 [(0, .int .i64 x)] = some #[.int .i64 x, .slice none 0 0, .slice none 0 0] := by kernel_rfl
theorem wp_buildSliceTo {o : Oper} {a : Act} {w : World} {K : Act → World → Prop} {Q : Exit → Act → World → Prop} (t e : TypeId) (len : Nat) (parts : Array (Nat × Operand)) (ho : o.op = .buildSlice t len parts) (hu : Try.prog.underlying t = some (.slice e)) (cells : Array Value)
    (hf : Try.prog.builtSlice e len (parts.map fun (i, x) => (i, a.eval x)).toList = some cells)
    (h : K (a.put o.dst (.slice (some ⟨w.heap.size, 0, none⟩) len len)) (w.alloc (.cells cells e))) : o.wp Try.prog a w K Q := by
  unfold Program.builtSlice at hf
  cases hie : Try.prog.info? e with
  | none => simp [hie] at hf
  | some ie =>
    simp only [hie] at hf
    cases hz : ie.zero with
    | none => simp [hz] at hf
    | some z =>
      simp only [hz] at hf
      by_cases hc : len * ie.size > 2 ^ 24 ∨ len * ie.size = 0
      · simp [hc] at hf
      · rw [if_neg hc] at hf
        exact wp_buildSlice t e len parts ho cells ie z hu hie hz (fun h' => hc (Or.inl h')) (fun h' => hc (Or.inr h')) hf h
theorem slice_one (z : Value) (e : TypeId) (b : Nat) (hi : (Try.prog.info? e).map (fun i => (i.zero, i.size, i.bytes)) = some (some z, 25, b)) (hz : z.cells.size = 25) (x : El) (h : x.Ok) : Try.prog.builtSlice e 1 [(0, ev x)] = some (ec x).toArray := by
  obtain ⟨i0, h0, hz0, hz1, hz2⟩ := info_parts hi
  unfold Program.builtSlice
  simp only [h0, hz0, hz1]
  rw [if_neg (by decide), fill_put (off := 0) (size := 25) rfl (by simp [Value.cells, ec_length h]) (by simp)]
  simp [Instr.fill, Value.cells]
end Go.Proofs.Ytmjhlagcpkmcaaa
