import Derived.WalkKit
import Derived.Test.YtdmindhjmjnagabGreatDoorB31
import Derived.Test.YtdmindhjmjnagabGreatDoorB14
/- Masks and remainders on an int. -/
namespace Go.Proofs.YtdmindhjmjnagabGreatDoor
set_option linter.unusedVariables false
set_option maxRecDepth 100000
theorem and_ones (n : Int) (m j : Nat) (hm : (BitVec.ofInt 64 (m : Int)).toNat = 2 ^ j - 1) : (BitVec.ofInt 64 n &&& BitVec.ofInt 64 (m : Int)).toNat = (n % ((2 ^ 64 : Nat) : Int)).toNat % 2 ^ j := by
  rw [BitVec.toNat_and, BitVec.toNat_ofInt, hm, Nat.and_two_pow_sub_one_eq_mod]
theorem and63 (n : Int) : bits .and .i64 n 63 = n % 64 := by
  show IntKind.i64.wrap ((BitVec.ofInt 64 n &&& BitVec.ofInt 64 ((63 : Nat) : Int)).toNat : Nat) = n % 64
  rw [and_ones n 63 6 (by decide), IntKind.wrap_i64]
  omega
theorem and65535 (n : Int) : bits .and .i64 n 65535 = n % 65536 := by
  show IntKind.i64.wrap ((BitVec.ofInt 64 n &&& BitVec.ofInt 64 ((65535 : Nat) : Int)).toNat : Nat) = n % 65536
  rw [and_ones n 65535 16 (by decide), IntKind.wrap_i64]
  omega
theorem and24 (n : Int) : bits .and .i64 n 16777215 = n % 16777216 := by
  show IntKind.i64.wrap ((BitVec.ofInt 64 n &&& BitVec.ofInt 64 ((16777215 : Nat) : Int)).toNat : Nat) = n % 16777216
  rw [and_ones n 16777215 24 (by decide), IntKind.wrap_i64]
  omega
theorem and32 (n : Int) : bits .and .i64 n 4294967295 = n % 4294967296 := by
  show IntKind.i64.wrap ((BitVec.ofInt 64 n &&& BitVec.ofInt 64 ((4294967295 : Nat) : Int)).toNat : Nat) = n % 4294967296
  rw [and_ones n 4294967295 32 (by decide), IntKind.wrap_i64]
  omega
theorem and1i (n : Int) : bits .and .i64 n 1 = n % 2 := by
  show IntKind.i64.wrap ((BitVec.ofInt 64 n &&& BitVec.ofInt 64 ((1 : Nat) : Int)).toNat : Nat) = n % 2
  rw [and_ones n 1 1 (by decide), IntKind.wrap_i64]
  omega
open Go.RowKit
theorem wrap64_of_range {x : Int} (h1 : -9223372036854775808 ≤ x) (h2 : x ≤ 9223372036854775807) : wrap64 x = x := by unfold wrap64; omega
end Go.Proofs.YtdmindhjmjnagabGreatDoor
/- dir: the statements' cuts. -/
namespace Go.Proofs.YtdmindhjmjnagabGreatDoor
set_option linter.unusedVariables false
set_option maxRecDepth 100000
open Go.RowKit

theorem str_cut40 (v : List UInt8) : (str v).extract 0 (min ((str v).size : Int) 40).toNat = str (v.take 40) := by
  have h : (min ((str v).size : Int) 40).toNat = min v.length 40 := by rw [str_size]; omega
  rw [h]
  apply ByteArray.ext
  apply Array.ext'
  rw [ByteArray.data_extract]
  simp only [Array.toList_extract, str_list, List.extract_eq_take_drop, List.drop_zero, Nat.sub_zero]
  by_cases q : v.length ≤ 40
  · rw [Nat.min_eq_left q, List.take_length, List.take_of_length_le q]
  · rw [Nat.min_eq_right (by omega)]
theorem strD (s : ByteArray) : str s.data.toList = s := by
  apply ByteArray.ext
  simp [str]
theorem numK_ok {K : Int} (h : 0 ≤ K ∧ K ≤ 65535) : okNum (1 + K) = true := by
  unfold okNum
  rw [decide_eq_true (by omega), decide_eq_true (by omega)]
  rfl
theorem getW_none (V : VS) (h : V.C = []) (K : Kz) : getW V K = { V with R := V.R ++ [oneSp K] } := by unfold getW; rw [h]; rfl
theorem getW_C (V : VS) (K : Kz) : (getW V K).C = V.C := by unfold getW; split <;> rfl
theorem okE_bad (n : Int) {s : List UInt8} (h : rightP s = false) : okE n s = false := by unfold okE; rw [h, Bool.and_false]
theorem NV.ran {d : NV} {w0 y y' : World} {x' : VR} {V' : VS} {k nb : Nat} (t : VRan noB w0 d.lim (NI d.lim d.p d.pv d.base) k (nI d.p) d.q d.x nb V' y x' y') : NV.at_ { d with x := x', V := V' } w0 y' := t.at_.re 9
end Go.Proofs.YtdmindhjmjnagabGreatDoor
/- shown() of layer 11: it answers true, and changes nothing that was there. -/
namespace Go.Proofs.YtdmindhjmjnagabGreatDoor
set_option linter.unusedVariables false
set_option maxRecDepth 100000
open Go.RowKit

theorem of_unlike {L : List UInt8} {o : Option Ino} (h : OfIs L o) (hl : L.length ≠ 1) (hl2 : L.length ≠ 9) : o = none := by
  cases o with
  | none => rfl
  | some n =>
    have h1 := ((h n).1 rfl).2
    have h2 := valI_length n
    rw [h1] at h2
    split at h2 <;> omega
theorem sw4 (w : World) : Calls Tryz.prog 32 #[.string ⟨#[97, 0]⟩] w fun e w' => e = .returned (.string ⟨#[97]⟩) ∧ Below w.heap.size w w' := by
  refine (trim_calls w [97, 0]).mono ?_
  rintro e w' ⟨rfl, hb⟩
  exact ⟨rfl, hb⟩
theorem full_length (L : List UInt8) : (fullP L).length = 32 := by
  unfold fullP
  rw [List.length_append, List.length_replicate, List.length_take]
  omega
theorem sw5 (w : World) : Calls Tryz.prog 40 #[.string ⟨#[97]⟩] w fun e w' => ∃ s : ByteArray, e = .returned (.string s) ∧ ((s.size : Int) == 32) = true ∧ Below w.heap.size w w' := by
  refine (full_calls w [97]).mono ?_
  rintro e w' ⟨rfl, hb⟩
  exact ⟨_, rfl, by rw [str_size, full_length]; rfl, hb⟩
end Go.Proofs.YtdmindhjmjnagabGreatDoor
/- Chunks: noughts at the end, taken away and put again (mathematics). -/
namespace Go.Proofs.YtdmindhjmjnagabGreatDoor
set_option linter.unusedVariables false
set_option maxRecDepth 100000
open Go.RowKit

/-- Where the noughts at the end begin. -/
theorem trim_spec : ∀ (n : Nat) (L : List UInt8), L.length = n → ∃ k, k ≤ L.length ∧ Lib.trimRightB L 0 = L.take k ∧ (∀ (j : Nat) b, k ≤ j → L[j]? = some b → b = 0) ∧ (∀ b, 0 < k → L[k - 1]? = some b → b ≠ 0)
  | 0, L, h => by
    have e : L = [] := List.eq_nil_of_length_eq_zero h
    subst e
    exact ⟨0, Nat.le_refl _, rfl, fun j b _ hb => by simp at hb, fun b h _ => absurd h (by omega)⟩
  | n + 1, L, h => by
    rcases List.eq_nil_or_concat L with e | ⟨L', b, e⟩
    · subst e; simp at h
    · subst e
      rw [List.concat_eq_append] at h ⊢
      by_cases hb : b = 0
      · subst hb
        obtain ⟨k, h1, h2, h3, h4⟩ := trim_spec n L' (by simpa using h)
        have e : Lib.trimRightB (L' ++ [0]) 0 = Lib.trimRightB L' 0 := by simp [Lib.trimRightB]
        refine ⟨k, by simp; omega, by rw [e, h2, List.take_append_of_le_length h1], fun j b hj hb => ?_, fun b hk hb => ?_⟩
        · by_cases hl : j < L'.length
          · rw [List.getElem?_append_left hl] at hb
            exact h3 j b hj hb
          · rw [List.getElem?_append_right (by omega)] at hb
            have : j - L'.length = 0 := by
              have := List.getElem?_eq_some_iff.1 hb
              obtain ⟨h', _⟩ := this
              simp at h'
              omega
            rw [this] at hb
            simpa using hb.symm
        · rw [List.getElem?_append_left (by omega)] at hb
          exact h4 b hk hb
      · refine ⟨(L' ++ [b]).length, Nat.le_refl _, ?_, fun j c hj hc => ?_, fun c _ hc => ?_⟩
        · rw [List.take_length]
          simp [Lib.trimRightB, hb]
        · have := (List.getElem?_eq_some_iff.1 hc).1
          omega
        · have e : (L' ++ [b]).length - 1 = L'.length := by simp
          rw [e, List.getElem?_append_right (Nat.le_refl _), Nat.sub_self] at hc
          have : b = c := by simpa using hc
          rw [← this]
          exact hb
/-- What a trimmed chunk is, and what it is filled up to. -/
structure Chunk (S T F : List UInt8) : Prop where
  le : T.length ≤ S.length
  lt : S.length ≤ 32
  tk : S.take T.length = T
  fl : F.length = 32
  ft : F.take T.length = T
  f0 : ∀ j, T.length ≤ j → j < 32 → F[j]? = some 0
  s0 : ∀ j, T.length ≤ j → j < S.length → S[j]? = some 0
  l0 : ∀ b, 0 < T.length → T[T.length - 1]? = some b → b ≠ 0
  tt : trimmed T = T
  tf : trimmed F = T
  fs : fullP S = F
theorem chunk_is (S : List UInt8) (hS : S.length ≤ 32) : Chunk S (trimmed S) (fullP (trimmed S)) := by
  obtain ⟨k, h1, h2, h3, h4⟩ := trim_spec S.length S rfl
  have e : trimmed S = S.take k := by rw [trimmed, List.take_of_length_le hS, h2]
  have el : (S.take k).length = k := by rw [List.length_take]; omega
  have ef : fullP (S.take k) = S.take k ++ List.replicate (32 - k) 0 := by
    rw [fullP, List.take_of_length_le (i := 32) (by omega), el]
  have hl : ∀ b, 0 < (S.take k).length → (S.take k)[(S.take k).length - 1]? = some b → b ≠ 0 := fun b hk hb => by
    rw [el] at hk hb
    rw [List.getElem?_take_of_lt (by omega)] at hb
    exact h4 b hk hb
  have hd : S.drop k = List.replicate (S.length - k) 0 := by
    rw [List.eq_replicate_iff]
    refine ⟨by simp, fun b hb => ?_⟩
    obtain ⟨i, hi, e'⟩ := List.mem_iff_getElem.1 hb
    refine h3 (k + i) b (by omega) ?_
    rw [← List.getElem?_drop, ← e']
    exact List.getElem?_eq_getElem hi
  rw [e, ef]
  refine ⟨by omega, hS, by rw [el], by simp; omega, ?_, fun j hj hj2 => ?_, fun j hj hj2 => ?_, hl, ?_, ?_, ?_⟩
  · rw [List.take_append_of_le_length (Nat.le_refl _), List.take_length]
  · rw [List.getElem?_append_right hj, List.getElem?_replicate, if_pos (by rw [el]; omega)]
  · rw [el] at hj
    rw [List.getElem?_eq_getElem hj2]
    exact congrArg some (h3 j _ hj (List.getElem?_eq_getElem hj2))
  · rw [trimmed, List.take_of_length_le (by omega), Lib.trimRightB_take (S.take k) 0 (S.take k).length (Nat.le_refl _) (fun j b hj hb => by have := (List.getElem?_eq_some_iff.1 hb).1; omega) hl, List.take_length]
  · rw [trimmed, List.take_of_length_le (by simp; omega), Lib.trimRightB_take _ 0 k (by simp; omega) (fun j b hj hb => ?_) (fun b hk hb => ?_)]
    · rw [List.take_append_of_le_length (by omega), List.take_of_length_le (by omega)]
    · rw [List.getElem?_append_right (by omega), List.getElem?_replicate] at hb
      split at hb
      · exact (Option.some.inj hb).symm
      · cases hb
    · rw [List.getElem?_append_left (by omega), List.getElem?_take_of_lt (by omega)] at hb
      exact h4 b hk hb
  · rw [fullP, List.take_of_length_le hS]
    conv => lhs; rw [← List.take_append_drop k S]
    rw [hd, List.append_assoc, List.replicate_append_replicate]
    congr 2
    rw [List.length_append, el, List.length_replicate]
    omega
end Go.Proofs.YtdmindhjmjnagabGreatDoor
/- chunk: pieces, keys. -/
namespace Go.Proofs.YtdmindhjmjnagabGreatDoor
set_option linter.unusedVariables false
set_option maxRecDepth 100000
open Go.RowKit

/-- A piece. -/
structure Pc where
  pl : Int
  fr : Int
  tt : Int
  ix : Int
def pcd4 (p : Pc) : List Value := [.int .i64 p.pl, .int .i64 p.fr, .int .i64 p.tt, .int .i64 p.ix]
def encPc : Enc Pc 4 := ⟨pcd4, fun _ => rfl, fun p v hv => by simp [pcd4] at hv; rcases hv with rfl | rfl | rfl | rfl <;> rfl⟩
abbrev pcv (p : Pc) : Value := .agg (pcd4 p).toArray
theorem elPc : ElTy Tryz.prog encPc 71 := ⟨⟨_, Tryz.underlying71, rfl, rfl⟩, by kernel_rfl⟩
theorem cnum_calls (n : Int) (w : World) : Calls Tryz.prog 12 #[.int .i64 n] w fun e w' => e = .returned (.bool (okNum n)) ∧ w' = w := by
  go_enter Tryz.func12, Tryz.ntmps12
  unfold okNum
  by_cases h1 : 1 ≤ n
  · by_cases h2 : n < 1073741824
    · go_wp2
      go_ret
      simp [h1, h2]
    · go_wp2
      go_ret
      simp [h2]
  · go_wp2
    go_ret
    refine ⟨?_, rfl⟩
    simp
    omega
/-- May a file have n bytes from off on? -/
def okW (off n : Int) : Bool := decide (0 ≤ off) && decide (0 ≤ n) && decide (off ≤ 1048576) && decide (n ≤ 1048576 - off)
set_option maxHeartbeats 1000000 in
theorem cwithin_calls (off n : Int) (hn : n ≤ 9223372036854775807) (ho : off ≤ 9223372036854775807) (w : World) : Calls Tryz.prog 13 #[.int .i64 off, .int .i64 n] w fun e w' => e = .returned (.bool (okW off n)) ∧ w' = w := by
  go_enter Tryz.func13, Tryz.ntmps13
  unfold okW
  by_cases h1 : 0 ≤ off
  · by_cases h2 : 0 ≤ n
    · by_cases h3 : n ≤ 1048576 - off
      · have h4 : off ≤ 1048576 := by omega
        go_wp2
        go_ret
        simp [h1, h2, h3, h4]
      · have h4 : IntKind.i64.wrap (1048576 - off) = 1048576 - off := by rw [IntKind.wrap_i64]; omega
        go_wp2
        go_ret
        simp [h3]
    · go_wp2
      go_ret
      refine ⟨?_, rfl⟩
      simp
      omega
  · go_wp2
    go_ret
    refine ⟨?_, rfl⟩
    simp
    omega
set_option maxHeartbeats 1000000 in
theorem pieceAt_calls (off n : Int) (h0 : 0 ≤ off) (h1 : off ≤ 4000000) (h2 : 0 ≤ n) (h3 : n ≤ 4000000) (w : World) :
    Calls Tryz.prog 49 #[.int .i64 off, .int .i64 n] w fun e w' => e = .returned (pcv ⟨off / 32, off % 32, min (off % 32 + n) 32, 0⟩) ∧ Below w.heap.size w w' := by
  go_enter Tryz.func49, Tryz.ntmps49
  go_wp2
  refine ret_el elPc rfl w.heap.size ⟨off / 32, off % 32, min (off % 32 + n) 32, 0⟩ rfl (InB.mk (heap_alloc_new _ _)) rfl ?_
  exact ⟨rfl, (Below.refl _ w).alloc (Nat.le_refl _) _⟩
set_option maxHeartbeats 1000000 in
theorem psize_calls (p : Pc) (h0 : 0 ≤ p.fr) (h1 : p.fr ≤ p.tt) (h2 : p.tt ≤ 32) (w : World) :
    Calls Tryz.prog 50 #[pcv p] w fun e w' => e = .returned (.int .i64 (p.tt - p.fr)) ∧ Below w.heap.size w w' := by
  obtain ⟨a, b, c, d⟩ := p
  have hw : IntKind.i64.wrap (c - b) = c - b := by rw [IntKind.wrap_i64]; dsimp only at h0 h1 h2; omega
  change Calls Tryz.prog 50 #[.agg #[.int .i64 a, .int .i64 b, .int .i64 c, .int .i64 d]] w fun e w' => e = .returned (.int .i64 (c - b)) ∧ Below w.heap.size w w'
  dsimp only at h0 h1 h2
  go_enter Tryz.func50, Tryz.ntmps50
  go_wp2
  go_ret
  exact ⟨rfl, (Below.refl _ w).alloc (Nat.le_refl _) _⟩
set_option maxHeartbeats 1000000 in
theorem pwhole_calls (p : Pc) (h0 : 0 ≤ p.fr) (h1 : p.fr ≤ p.tt) (h2 : p.tt ≤ 32) (w : World) :
    Calls Tryz.prog 52 #[pcv p] w fun e w' => e = .returned (.bool (decide (p.tt - p.fr = 32))) ∧ Below w.heap.size w w' := by
  have hS := fun y => psize_calls p h0 h1 h2 y
  obtain ⟨a, b, c, d⟩ := p
  change Calls Tryz.prog 52 #[.agg #[.int .i64 a, .int .i64 b, .int .i64 c, .int .i64 d]] w fun e w' => e = .returned (.bool (decide (c - b = 32))) ∧ Below w.heap.size w w'
  have hS2 : ∀ y, Calls Tryz.prog 50 #[.agg #[.int .i64 a, .int .i64 b, .int .i64 c, .int .i64 d]] y fun e w' => e = .returned (.int .i64 (c - b)) ∧ Below y.heap.size y w' := hS
  clear hS
  dsimp only at h0 h1 h2
  have hB : Hid (Below w.heap.size w (w.alloc (.cells #[.int .i64 a, .int .i64 b, .int .i64 c, .int .i64 d] 71))) := (Below.refl _ w).alloc (Nat.le_refl _) _
  have hd : ((c - b) == 32) = decide (c - b = 32) := by
    by_cases h : c - b = 32
    · rw [h]; rfl
    · rw [decide_eq_false h]; simpa using h
  go_enter Tryz.func52, Tryz.ntmps52
  go_wp2_with (go_at_call 50; refine (hS2 _).mono ?_; rintro e w1 ⟨rfl, b1⟩)
  go_ret
  exact ⟨by rw [← hd]; rfl, hB.out.trans (b1.mono hB.out.size)⟩
set_option maxHeartbeats 2000000 in
theorem keyOf_calls (ino pl : Int) (w : World) :
    Calls Tryz.prog 30 #[.int .i64 ino, .int .i64 pl] w fun e w' => e = .returned (kv (chunkR ino pl)) ∧ Below w.heap.size w w' := by
  have hE := fun y => chunk_calls ino pl y
  have hKl := chunkR_length ino pl
  have HZ : Hid (Has (w.alloc (.cells (bc (zs 24)).toArray 31)) w.heap.size (zs 24) ∧ Below w.heap.size w (w.alloc (.cells (bc (zs 24)).toArray 31))) := ⟨Has.new w (zs 24) rfl, (Below.refl _ w).alloc (Nat.le_refl _) _⟩
  generalize chunkR ino pl = K at *
  generalize (okN ino && okP pl) = ok at *
  go_enter Tryz.func30, Tryz.ntmps30
  go_upto_region 1 with fail
  change Code.wp _ _ _ _ (w.alloc (.cells (bc (zs 24)).toArray 31))
  generalize hW0 : w.alloc (.cells (bc (zs 24)).toArray 31) = w0 at *
  clear hW0
  go_upto_region 2 with (first
    | (go_at_call 51; refine (hE _).mono ?_; rintro e w1 ⟨rfl, b1⟩)
    | (refine store_key rfl _ _ rfl _ rfl _ rfl hKl (zs 24) (zero_has w1 w1.heap.size rfl) ?_; intro w2 h2 t2 s2))
  have hb0 : w.heap.size < w0.heap.size := HZ.out.1.lt
  have B2 : Below w0.heap.size w0 w2 := b1.trans (((Below.refl _ w1).alloc (Nat.le_refl _) _).trans (t2.below (by simp) (Nat.le_refl _) (by simp)) |>.mono b1.size)
  have HH : Hid (Has w2 w1.heap.size K ∧ Has w2 w.heap.size (zs 24) ∧ Below w.heap.size w w2) := ⟨h2, HZ.out.1.below B2 hb0, HZ.out.2.trans (B2.mono (Nat.le_of_lt hb0))⟩
  clear h2 t2 s2 b1 B2 hb0 HZ hE
  go_wp2_with (first
    | (refine load_key _ rfl w1.heap.size rfl rfl K HH.out.1 ?_)
    | (refine store_key rfl _ _ rfl w.heap.size rfl K rfl hKl (zs 24) HH.out.2.1 ?_; intro w4 h4 t4 s4))
  refine ret_key rfl _ _ rfl h4 rfl ?_
  exact ⟨rfl, HH.out.2.2.trans ⟨t4.os, t4.tape, t4.output, Nat.le_of_eq s4.symm, fun k hk => t4.block k (Nat.lt_of_lt_of_le hk HH.out.2.2.size) (Nat.ne_of_lt hk) (by simp)⟩⟩
end Go.Proofs.YtdmindhjmjnagabGreatDoor
