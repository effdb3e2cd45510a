/- The calls that make keys: what each comes to. -/
import Derived.Test.YtbdolhmeknlnpaaKeyA
import Derived.Laws.ResultCell
namespace Go.Proofs.Ytbdolhmeknlnpaa
set_option linter.unusedVariables false
open Go.RowKit

theorem ret_key {fn : Func} {R : Ending → World → Prop} {a : Act} {w : World} {p : Tmp} (hr : fn.results = #[.cell p 30]) (b : Nat) (K : List UInt8) (hp : a.tmps.getD p undef = .pointer (some ⟨b, 0, none⟩)) (hK : Has w b K)
    (hd : a.defers = []) (hR : R (.returned (kv K)) w) : bodyPost Try.prog fn R .ret a w :=
  bodyPost_ret (results_cell_row hr _ w b _ _ _ _ hp hK.blk Try.underlying30 rfl (by rw [bc_size, hK.len]; exact Try.key_info)) hd hR
theorem ret_key_ok {fn : Func} {R : Ending → World → Prop} {a : Act} {w : World} {p u : Tmp} (hr : fn.results = #[.cell p 30, .tmp u]) (b : Nat) (K : List UInt8) (v : Value) (hp : a.tmps.getD p undef = .pointer (some ⟨b, 0, none⟩)) (hv : a.tmps.getD u undef = v) (hK : Has w b K)
    (hd : a.defers = []) (hR : R (.returned (.tuple #[kv K, v])) w) : bodyPost Try.prog fn R .ret a w := by
  refine bodyPost_ret (v := .tuple #[kv K, v]) ?_ hd hR
  have hl := run_loadVar_row (P := Try.prog) w b 30 30 _ _ _ hK.blk Try.underlying30 rfl (by rw [bc_size, hK.len]; exact Try.key_info)
  rw [results_cell_tmp hr, hp, hv]
  simp [asAddr, Result.andThen, hl]

/-- The least key of a number and a kind; the keys of an inode, an entry, a chunk. -/
def headK (n : Nat) (k : UInt8) : List UInt8 := be n 4 ++ k :: zs 19
def entryK (n : Nat) (s : List UInt8) : List UInt8 := be n 4 ++ 2 :: (s ++ zs (18 - s.length) ++ [UInt8.ofNat s.length])
def chunkK (n p : Nat) : List UInt8 := be n 4 ++ 3 :: (zs 15 ++ be p 4)
theorem headK_length (n : Nat) (k : UInt8) : (headK n k).length = 24 := by simp [headK, be_length, zs_length]
theorem entryK_length (n : Nat) (s : List UInt8) (h : s.length ≤ 18) : (entryK n s).length = 24 := by simp [entryK, be_length, zs_length]; omega
theorem chunkK_length (n p : Nat) : (chunkK n p).length = 24 := by simp [chunkK, be_length, zs_length]

theorem zero_has (w : World) (b : Nat) (hb : b = w.heap.size) : Has (w.alloc (.cells #[.int .u8 0, .int .u8 0, .int .u8 0, .int .u8 0, .int .u8 0, .int .u8 0, .int .u8 0, .int .u8 0, .int .u8 0, .int .u8 0, .int .u8 0, .int .u8 0, .int .u8 0, .int .u8 0, .int .u8 0, .int .u8 0, .int .u8 0, .int .u8 0, .int .u8 0, .int .u8 0, .int .u8 0, .int .u8 0, .int .u8 0, .int .u8 0] 30)) b (zs 24) := hb ▸ Has.new w (zs 24) rfl

/-- Numbers, names and places that keys are made of. -/
def okN (n : Int) : Bool := decide (1 ≤ n ∧ n < 1073741824)
def okP (p : Int) : Bool := decide (0 ≤ p ∧ p ≤ 4294967295)
def okS (s : List UInt8) : Bool := decide (1 ≤ s.length ∧ s.length ≤ 18 ∧ (0 : UInt8) ∉ s)
def inodeR (n : Int) : List UInt8 := if okN n then headK n.toNat 1 else zs 24
def entryR (n : Int) (s : List UInt8) : List UInt8 := if okN n && okS s then entryK n.toNat s else zs 24
def chunkR (n p : Int) : List UInt8 := if okN n && okP p then chunkK n.toNat p.toNat else zs 24
theorem inodeR_length (n : Int) : (inodeR n).length = 24 := by unfold inodeR; split <;> simp [headK_length, zs_length]
theorem entryR_length (n : Int) (s : List UInt8) : (entryR n s).length = 24 := by
  unfold entryR
  split
  · rename_i h
    simp only [okS, Bool.and_eq_true, decide_eq_true_eq] at h
    exact entryK_length _ _ h.2.2.1
  · exact zs_length 24
theorem chunkR_length (n p : Int) : (chunkR n p).length = 24 := by unfold chunkR; split <;> simp [chunkK_length, zs_length]

theorem indexByte_neg (l : List UInt8) (c : UInt8) : decide (Lib.indexByte l c < 0) = decide (c ∉ l) := by
  induction l with
  | nil => simp [Lib.indexByte]
  | cons b l ih =>
    have hg := Lib.indexByte_ge l c
    unfold Lib.indexByte
    by_cases hb : b = c
    · subst hb; simp
    · have hb' : (b == c) = false := by simpa using hb
      have hc : ¬ c = b := fun e => hb e.symm
      simp only [decide_eq_decide] at ih ⊢
      rw [hb']
      simp only [Bool.false_eq_true, if_false, List.mem_cons, hc, false_or]
      rw [← ih]
      by_cases h1 : Lib.indexByte l c = -1
      · simp [h1]
      · have : (Lib.indexByte l c == -1) = false := by simpa using h1
        rw [this]
        simp only [Bool.false_eq_true, if_false]
        omega
theorem bc_map (l : List UInt8) : Lib.byteCells l = bc l := rfl
theorem bc_take (l : List UInt8) (k : Nat) : (bc l).take k = bc (l.take k) := by simp [bc]
theorem bc_drop' (l : List UInt8) (k : Nat) : (bc l).drop k = bc (l.drop k) := by simp [bc]
theorem entry_list (n : Nat) (s : List UInt8) (h : s.length ≤ 18) : ((headK n 2).take 5 ++ s ++ (headK n 2).drop (5 + s.length)).set 23 (UInt8.ofNat s.length) = entryK n s := by
  have h1 : (headK n 2).take 5 = be n 4 ++ [2] := rfl
  have h2 : (headK n 2).drop (5 + s.length) = zs (18 - s.length) ++ [0] := by
    have e : headK n 2 = be n 4 ++ [2] ++ zs 19 := by simp [headK]
    rw [e, List.drop_append, List.drop_of_length_le (by simp [be_length])]
    simp only [List.length_append, be_length, List.length_cons, List.length_nil, List.nil_append, zs, List.drop_replicate]
    rw [show 19 - (5 + s.length - (4 + (0 + 1))) = (18 - s.length) + 1 by omega, List.replicate_succ']
  rw [h1, h2, entryK, List.set_append_right _ _ (by simp [be_length]; omega), List.set_append_right _ _ (by simp [be_length, zs]; omega)]
  simp [be_length, zs, List.append_assoc]
  rw [show 23 - (4 + (s.length + 1)) - (18 - s.length) = 0 by omega]
  simp

theorem Has.copied {w : World} {b : Nat} {K : List UInt8} (h : Has w b K) (o : Nat) (s : ByteArray) (ho : o + s.size ≤ 24) :
    Has (w.setRow b ((bc K).toArray.toList.take o ++ Lib.byteCells s.data.toList ++ (bc K).toArray.toList.drop (o + s.size)).toArray) b (K.take o ++ s.data.toList ++ K.drop (o + s.data.toList.length)) := by
  have hs : s.size = s.data.toList.length := rfl
  have e : ((bc K).toArray.toList.take o ++ Lib.byteCells s.data.toList ++ (bc K).toArray.toList.drop (o + s.size)) = bc (K.take o ++ s.data.toList ++ K.drop (o + s.data.toList.length)) := by
    rw [bc_map, bc_append, bc_append, ← bc_take, ← bc_drop', hs]
  rw [e]
  refine h.setRow _ ?_
  have := h.len
  simp only [List.length_append, List.length_take, List.length_drop]
  omega
theorem chunk_list (n p : Nat) : (headK n 3).take 20 ++ be p 4 ++ (headK n 3).drop (20 + 4) = chunkK n p := rfl
end Go.Proofs.Ytbdolhmeknlnpaa
