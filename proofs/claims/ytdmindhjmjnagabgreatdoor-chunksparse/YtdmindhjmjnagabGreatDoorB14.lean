import Derived.Test.YtdmindhjmjnagabGreatDoorB13
import Derived.Shelf.Strings.Trim
import Derived.Shelf.Strconv.Clone
import Derived.Ground.NamesProg
import Derived.Test.YtdmindhjmjnagabGreatDoorChecked
import Derived.Lib.TrimByte
import Derived.Lib.ConvBytes
/- Package inode, call by call: first, written, reader, isFile, Value, Number. -/
namespace Go.Proofs.YtdmindhjmjnagabGreatDoor
set_option linter.unusedVariables false
set_option maxRecDepth 100000
open Go.RowKit

set_option maxHeartbeats 400000 in
theorem first_long (w : World) (L : List UInt8) (n : Nat) (N : Int) (hN : N = (n : Int)) (hn : N ≤ ((str L).size : Int)) (hm : min N ((str L).size : Int) = N) :
    Calls Tryz.prog 56 #[.string (str L), .int .i64 N] w fun e w' => e = .returned (.string (str (L.take n))) ∧ w' = w := by
  have h0 : 0 ≤ N := by omega
  have e1 : (str L).extract 0 N.toNat = str (L.take n) := by rw [hN]; exact ext_take L n
  generalize str (L.take n) = R at *
  generalize str L = S at *
  clear hN
  go_enter Tryz.func56, Tryz.ntmps56
  go_wp2
  go_ret
  exact ⟨rfl, rfl⟩
set_option maxHeartbeats 400000 in
theorem first_short (w : World) (L : List UInt8) (N : Int) (hn : ((str L).size : Int) < N) :
    Calls Tryz.prog 56 #[.string (str L), .int .i64 N] w fun e w' => e = .returned (.string (str L)) ∧ w' = w := by
  have e1 : (str L).extract 0 (str L).size = str L := by rw [ext_take, str_size, List.take_length]
  generalize str L = S at *
  go_enter Tryz.func56, Tryz.ntmps56
  go_wp2
  go_ret
  first
    | exact ⟨rfl, rfl⟩
    | exact ⟨by rw [show min N (S.size : Int) = (S.size : Int) by omega]; exact congrArg (fun x => Ending.returned (.string x)) e1, rfl⟩
theorem first_calls (w : World) (L : List UInt8) (n : Nat) (N : Int) (hN : N = (n : Int)) :
    Calls Tryz.prog 56 #[.string (str L), .int .i64 N] w fun e w' => e = .returned (.string (str (L.take n))) ∧ w' = w := by
  by_cases h : n ≤ L.length
  · exact first_long w L n N hN (by rw [str_size]; omega) (by rw [str_size]; omega)
  · rw [List.take_of_length_le (by omega)]
    exact first_short w L N (by rw [str_size]; omega)

set_option maxHeartbeats 400000 in
theorem written_calls (w : World) (p : Nat) (S : WS) (r : Option Nat) (h : WrS w p S r) (hb : S.bad = false) :
    Calls Tryz.prog 67 #[.pointer (some ⟨p, 0, none⟩)] w fun e w' => e = .returned (.string (str S.l)) ∧ Below w.heap.size w w' := by
  have H := done_ok w p S r h hb
  clear h hb
  go_enter Tryz.func67, Tryz.ntmps67
  go_wp2_with fail
  refine H.mono ?_
  rintro e w1 ⟨a, c, rfl, ho, hbel⟩
  clear H
  have hc := conv_bytes (own_bytes ho)
  clear ho
  go_wp2
  go_ret
  exact ⟨rfl, hbel⟩

/-- An inode's value in memory. -/
abbrev iv (n : Ino) : Value := .agg #[.bool n.d, .int .i64 n.l, .int .i64 n.s]

/-- A writer of one's own, new since the world w. -/
def Wri (w w1 : World) (p : Nat) (S : WS) : Prop := ∃ r, WrS w1 p S r ∧ Below w.heap.size w w1 ∧ w.heap.size ≤ p
theorem Wri.of {w w0 w1 : World} {p : Nat} {S : WS} (hb : Below w.heap.size w w0) (h : WrS w1 p S none) (hp : p = w0.heap.size) (k : Below w0.heap.size w0 w1) : Wri w w1 p S :=
  ⟨none, h, hb.trans (k.mono hb.size), by rw [hp]; exact hb.size⟩
theorem Wri.to {w w1 w2 : World} {p : Nat} {S S' : WS} {r : Option Nat} (h1 : WrS w1 p S r) (h2 : Below w.heap.size w w1) (h3 : w.heap.size ≤ p) (g : WrG p w1 r S' w2) : Wri w w2 p S' := by
  obtain ⟨r', g1, g2, g3⟩ := g
  have hl := h1.lt
  exact ⟨r', g1, h2.trans (g2.below h2.size h3 fun k hk => by have := hl.2 k hk; omega), h3⟩
theorem wri_new {w w0 : World} (hb : Below w.heap.size w w0) (n : Int) (h0 : 0 ≤ n) (h1 : n ≤ 2147483647) :
    Calls Tryz.prog 64 #[.int .i64 n] w0 fun e w' => ∃ p, e = .returned (.pointer (some ⟨p, 0, none⟩)) ∧ Wri w w' p ⟨n, [], false⟩ := by
  refine (new_calls w0 n h0 h1).mono ?_
  rintro e w' ⟨rfl, h, k⟩
  exact ⟨_, rfl, Wri.of hb h rfl k⟩
theorem wri_raw {w w1 : World} {p : Nat} {S : WS} (h : Wri w w1 p S) (L : List UInt8) (ht : L.length ≤ 140737488351232) :
    Calls Tryz.prog 65 #[.pointer (some ⟨p, 0, none⟩), .string (str L)] w1 fun e w' => e = .returned (.tuple #[]) ∧ Wri w w' p (S.put L) := by
  obtain ⟨r, h1, h2, h3⟩ := h
  refine (raw_calls w1 p (str L) S r h1 (by rw [str_size]; exact ht)).mono ?_
  rintro e w' ⟨rfl, g⟩
  rw [str_list] at g
  exact ⟨rfl, Wri.to h1 h2 h3 g⟩
theorem wri_fill {w w1 : World} {p : Nat} {S : WS} (h : Wri w w1 p S) (n : Int) (hn : n ≤ 9223372036854775807) :
    Calls Tryz.prog 66 #[.pointer (some ⟨p, 0, none⟩), .int .i64 n] w1 fun e w' => e = .returned (.tuple #[]) ∧ Wri w w' p (S.fill n) := by
  obtain ⟨r, h1, h2, h3⟩ := h
  refine (fill_calls w1 p n S r h1 hn).mono ?_
  rintro e w' ⟨rfl, g⟩
  exact ⟨rfl, Wri.to h1 h2 h3 g⟩
theorem wri_written {w w1 : World} {p : Nat} {S : WS} (h : Wri w w1 p S) (L : List UInt8) (hS : S = ⟨S.m, L, false⟩) :
    Calls Tryz.prog 67 #[.pointer (some ⟨p, 0, none⟩)] w1 fun e w' => e = .returned (.string (str L)) ∧ Below w.heap.size w w' := by
  obtain ⟨r, h1, h2, h3⟩ := h
  refine (written_calls w1 p S r h1 (by rw [hS])).mono ?_
  rintro e w' ⟨rfl, g⟩
  exact ⟨by rw [hS], h2.trans (g.mono h2.size)⟩
theorem Wri.called {w w1 w2 : World} {p : Nat} {S : WS} (h : Wri w w1 p S) (hb : Below w1.heap.size w1 w2) : Wri w w2 p S := by
  obtain ⟨r, h1, h2, h3⟩ := h
  have hl := h1.lt
  exact ⟨r, h1.kept (hb.block _ hl.1) fun k hk => hb.block _ (hl.2 k hk).2, h2.trans (hb.mono h2.size), h3⟩
theorem put_ok (m : Int) (L x : List UInt8) (h : (L.length : Int) + x.length ≤ m) : (⟨m, L, false⟩ : WS).put x = ⟨m, L ++ x, false⟩ := by
  unfold WS.put
  rw [if_neg (by simp), if_pos h]
theorem ws_file (n : Ino) (h : isFil n = true) : (((⟨9, [], false⟩ : WS).byte 2).word n.l).word n.s = ⟨9, valI n, false⟩ := by
  obtain ⟨h0, h1, h2, h3, h4⟩ := isFil_in h
  have e1 : (⟨9, [], false⟩ : WS).byte 2 = ⟨9, [2], false⟩ := by
    rw [WS.byte, if_neg (by omega), put_ok _ _ _ (by decide)]
    rfl
  have e2 : (⟨9, [2], false⟩ : WS).word n.l = ⟨9, [2] ++ be n.l.toNat 4, false⟩ := by rw [WS.word, if_neg (by omega), put_ok _ _ _ (by simp [be_length])]
  rw [e1, e2, WS.word, if_neg (by omega), put_ok _ _ _ (by simp [be_length])]
  simp [valI, h0]
theorem ws_dir : (⟨9, [], false⟩ : WS).byte 1 = ⟨9, valI dirI, false⟩ := by
  rw [WS.byte, if_neg (by omega), put_ok _ _ _ (by decide)]
  rfl
theorem ws_num (n : Int) (h : okNum n = true) : (⟨4, [], false⟩ : WS).word n = ⟨4, numT n, false⟩ := by
  obtain ⟨h1, h2⟩ := okNum_in h
  rw [WS.word, if_neg (by omega), put_ok _ _ _ (by simp [be_length])]
  simp [numT, h]
theorem ws_full (L : List UInt8) (h : L.length ≤ 32) : ((⟨32, [], false⟩ : WS).put L).fill 32 = ⟨32, L ++ List.replicate (32 - L.length) 0, false⟩ := by
  rw [put_ok _ _ _ (by simp; omega), WS.fill, if_neg (by simp; omega), put_ok _ _ _ (by simp; omega)]
  simp
end Go.Proofs.YtdmindhjmjnagabGreatDoor
/- The library's contracts that package inode leans on, laid at this program: each body is held against the one that the contract was proved of. -/
namespace Go.Proofs.YtdmindhjmjnagabGreatDoor
open Go.Shelf
def Tryz.trimA_ren : Go.Shelf.Ren := ⟨fun | 162 => 55 | 232 => 79 | 227 => 80 | 234 => 81 | 236 => 82 | 228 => 98 | 271 => 99 | 151 => 100 | 120 => 106 | 197 => 107 | 152 => 108 | 260 => 121 | 137 => 120 | 119 => 122 | 224 => 123 | 225 => 124 | 217 => 130 | 266 => 132 | n => n, fun | 9 => 9 | 4 => 4 | 3 => 3 | 5 => 5 | 117 => 138 | 116 => 137 | 0 => 0 | 124 => 141 | 21 => 21 | 105 => 159 | 46 => 154 | 119 => 195 | 139 => 198 | 138 => 197 | n => n, fun | 3 => 1 | 4 => 2 | n => n⟩
theorem Tryz.trimA : Go.Proofs.Lays.n162 Tryz.prog Tryz.trimA_ren := {
  mixed := by kernel_rfl
  f119 := Tryz.func122.trans (congrArg some (by kernel_rfl))
  f120 := Tryz.func106.trans (congrArg some (by kernel_rfl))
  f137 := Tryz.func120.trans (congrArg some (by kernel_rfl))
  f151 := Tryz.func100.trans (congrArg some (by kernel_rfl))
  f152 := Tryz.func108.trans (congrArg some (by kernel_rfl))
  f162 := Tryz.func55.trans (congrArg some (by kernel_rfl))
  f197 := Tryz.func107.trans (congrArg some (by kernel_rfl))
  f217 := Tryz.func130.trans (congrArg some (by kernel_rfl))
  f224 := Tryz.func123.trans (congrArg some (by kernel_rfl))
  f225 := Tryz.func124.trans (congrArg some (by kernel_rfl))
  f227 := Tryz.func80.trans (congrArg some (by kernel_rfl))
  f228 := Tryz.func98.trans (congrArg some (by kernel_rfl))
  f232 := Tryz.func79.trans (congrArg some (by kernel_rfl))
  f234 := Tryz.func81.trans (congrArg some (by kernel_rfl))
  f236 := Tryz.func82.trans (congrArg some (by kernel_rfl))
  f260 := Tryz.func121.trans (congrArg some (by kernel_rfl))
  f266 := Tryz.func132.trans (congrArg some (by kernel_rfl))
  f271 := Tryz.func99.trans (congrArg some (by kernel_rfl))
  t0 := Tryz.underlying0
  a0 := Tryz.isAgg0
  z0 := Tryz.sizeOf0
  v0 := Tryz.zeroValue0
  t3 := Tryz.underlying3
  a3 := Tryz.isAgg3
  z3 := Tryz.sizeOf3
  v3 := Tryz.zeroValue3
  t4 := Tryz.underlying4
  a4 := Tryz.isAgg4
  z4 := Tryz.sizeOf4
  v4 := Tryz.zeroValue4
  t5 := Tryz.underlying5
  a5 := Tryz.isAgg5
  z5 := Tryz.sizeOf5
  v5 := Tryz.zeroValue5
  t9 := Tryz.underlying9
  a9 := Tryz.isAgg9
  z9 := Tryz.sizeOf9
  v9 := Tryz.zeroValue9
  t21 := Tryz.underlying21
  a21 := Tryz.isAgg21
  z21 := Tryz.sizeOf21
  v21 := Tryz.zeroValue21
  t46 := Tryz.underlying154
  a46 := Tryz.isAgg154
  z46 := Tryz.sizeOf154
  v46 := Tryz.zeroValue154
  t105 := Tryz.underlying159
  a105 := Tryz.isAgg159
  z105 := Tryz.sizeOf159
  v105 := Tryz.zeroValue159
  t116 := Tryz.underlying137
  a116 := Tryz.isAgg137
  z116 := Tryz.sizeOf137
  t117 := Tryz.underlying138
  a117 := Tryz.isAgg138
  z117 := Tryz.sizeOf138
  v117 := Tryz.zeroValue138
  t119 := Tryz.underlying195
  a119 := Tryz.isAgg195
  z119 := Tryz.sizeOf195
  t124 := Tryz.underlying141
  a124 := Tryz.isAgg141
  z124 := Tryz.sizeOf141
  v124 := Tryz.zeroValue141
  t138 := Tryz.underlying197
  a138 := Tryz.isAgg197
  z138 := Tryz.sizeOf197
  v138 := Tryz.zeroValue197
  t139 := Tryz.underlying198
  a139 := Tryz.isAgg198
  z139 := Tryz.sizeOf198
  v139 := Tryz.zeroValue198
  g3 := by kernel_rfl
  g4 := by kernel_rfl }
def Tryz.cloneA_ren : Go.Shelf.Ren := ⟨fun | 316 => 78 | n => n, fun | 9 => 9 | 3 => 3 | 4 => 4 | 37 => 36 | 0 => 0 | 127 => 129 | 5 => 5 | n => n, fun | n => n⟩
theorem Tryz.cloneA : Go.Proofs.LaysM.n316 Tryz.prog Tryz.cloneA_ren := {
  mixed := by kernel_rfl
  f316 := Tryz.func78.trans (congrArg some (by kernel_rfl))
  t0 := Tryz.underlying0
  a0 := Tryz.isAgg0
  z0 := Tryz.sizeOf0
  v0 := Tryz.zeroValue0
  t3 := Tryz.underlying3
  a3 := Tryz.isAgg3
  z3 := Tryz.sizeOf3
  v3 := Tryz.zeroValue3
  t4 := Tryz.underlying4
  a4 := Tryz.isAgg4
  z4 := Tryz.sizeOf4
  v4 := Tryz.zeroValue4
  t9 := Tryz.underlying9
  a9 := Tryz.isAgg9
  z9 := Tryz.sizeOf9
  v9 := Tryz.zeroValue9
  t37 := Tryz.underlying36
  a37 := Tryz.isAgg36
  z37 := Tryz.sizeOf36
  v37 := Tryz.zeroValue36
  t127 := Tryz.underlying129
  a127 := Tryz.isAgg129
  z127 := Tryz.sizeOf129
  v127 := Tryz.zeroValue129
  t5 := Tryz.underlying5
  a5 := Tryz.isAgg5
  z5 := Tryz.sizeOf5
  v5 := Tryz.zeroValue5
  i0 := by kernel_rfl
  i3 := by kernel_rfl
  i4 := by kernel_rfl
  i5 := by kernel_rfl
  i9 := by kernel_rfl
  i37 := by kernel_rfl
  i127 := by kernel_rfl }
end Go.Proofs.YtdmindhjmjnagabGreatDoor
/- Package inode: Value, Number, Full, Trim. -/
namespace Go.Proofs.YtdmindhjmjnagabGreatDoor
set_option linter.unusedVariables false
set_option maxRecDepth 100000
open Go.RowKit

theorem Wri.block {w w1 : World} {p : Nat} {S : WS} (h : Wri w w1 p S) {b : Nat} {o : Obj} (hb : w.heap[b]? = some o) : w1.heap[b]? = some o := by
  obtain ⟨r, h1, h2, h3⟩ := h
  exact (h2.block b (lt_of_block hb)).trans hb
theorem below_box {w w' : World} {o : Obj} (h : Below (w.alloc o).heap.size (w.alloc o) w') : Below w.heap.size w w' :=
  ((Below.refl _ w).alloc (Nat.le_refl _) o).trans (h.mono (by simp))
/-- All bytes of a chunk. -/
def fullP (L : List UInt8) : List UInt8 := L.take 32 ++ List.replicate (32 - (L.take 32).length) 0
set_option maxHeartbeats 400000 in
theorem full_calls (w : World) (L : List UInt8) :
    Calls Tryz.prog 40 #[.string (str L)] w fun e w' => e = .returned (.string (str (fullP L))) ∧ Below w.heap.size w w' := by
  have hws : ((⟨32, [], false⟩ : WS).put (L.take 32)).fill 32 = ⟨32, fullP L, false⟩ := ws_full (L.take 32) (by rw [List.length_take]; omega)
  have hl : (L.take 32).length ≤ 140737488351232 := by rw [List.length_take]; omega
  have HF := fun w => first_calls w L 32 32 rfl
  go_enter Tryz.func40, Tryz.ntmps40
  go_wp2_with fail
  refine (wri_new (Below.refl _ _) 32 (by decide) (by decide)).mono ?_
  rintro e w1 ⟨p, rfl, H⟩
  go_wp2_with fail
  refine (HF _).mono ?_
  rintro e w2 ⟨rfl, hw⟩
  rw [hw]
  clear hw HF
  go_wp2_with fail
  refine (wri_raw H _ hl).mono ?_
  rintro e w3 ⟨rfl, H3⟩
  clear H hl
  go_wp2_with fail
  refine (wri_fill H3 32 (by decide)).mono ?_
  rintro e w4 ⟨rfl, H4⟩
  rw [hws] at H4
  clear H3 hws
  go_wp2_with fail
  refine (wri_written H4 _ rfl).mono ?_
  rintro e w5 ⟨rfl, H5⟩
  go_wp2
  go_ret
  exact ⟨rfl, H5⟩

/-- Noughts at the end, taken away; of the first 32 bytes. -/
def trimmed (L : List UInt8) : List UInt8 := Lib.trimRightB (L.take 32) 0
theorem trim_length (L : List UInt8) (c : UInt8) : (Lib.trimRightB L c).length ≤ L.length := by
  unfold Lib.trimRightB
  rw [List.length_reverse]
  have := (List.dropWhile_sublist (· == c) (l := L.reverse)).length_le
  simpa using this
set_option maxHeartbeats 400000 in
theorem clone_calls (w : World) (L : List UInt8) (hl : L.length ≤ 32) :
    Calls Tryz.prog 54 #[.string (str L)] w fun e w' => e = .returned (.string (str L)) ∧ Below w.heap.size w w' := by
  have H := Any.stringslite_Clone Tryz.cloneA (str L) w (by rw [str_size]; omega)
  go_enter Tryz.func54, Tryz.ntmps54
  go_wp2_with fail
  refine H.mono ?_
  rintro e w1 ⟨rfl, hb⟩
  clear H
  go_wp2
  go_ret
  exact ⟨rfl, hb⟩
set_option maxHeartbeats 400000 in
theorem trim_calls (w : World) (L : List UInt8) :
    Calls Tryz.prog 32 #[.string (str L)] w fun e w' => e = .returned (.string (str (trimmed L))) ∧ Below w.heap.size w w' := by
  have hl : (L.take 32).length ≤ 32 := by rw [List.length_take]; omega
  have HF := fun w => first_calls w L 32 32 rfl
  have HT := fun w => Any.strings_TrimRight_one Tryz.trimA (str (L.take 32)) 0 (by decide) w (by rw [str_size]; omega)
  rw [str_list] at HT
  have HC := fun w => clone_calls w (trimmed L) (Nat.le_trans (trim_length _ _) hl)
  go_enter Tryz.func32, Tryz.ntmps32
  go_wp2_with fail
  refine (HF _).mono ?_
  rintro e w2 ⟨rfl, hw⟩
  rw [hw]
  clear hw HF
  go_wp2_with fail
  refine (HT _).mono ?_
  rintro e w3 ⟨rfl, hw⟩
  rw [hw]
  clear hw HT
  go_wp2_with fail
  refine (HC _).mono ?_
  rintro e w4 ⟨rfl, hb⟩
  clear HC
  go_wp2
  go_ret
  exact ⟨rfl, hb⟩
end Go.Proofs.YtdmindhjmjnagabGreatDoor
/- Package inode: reader, said, Of, Numbered. -/
namespace Go.Proofs.YtdmindhjmjnagabGreatDoor
set_option linter.unusedVariables false
set_option maxRecDepth 100000
open Go.RowKit

/-- A text as bytes, in a row of its own. -/
theorem conv_text (w : World) (L : List UInt8) : ∃ cap w1, (convert 9 36 (.string (str L))).run Tryz.prog w = .ok (.slice (some ⟨w.heap.size, 0, none⟩) L.length cap) w1 ∧ BytesIn w1 (.slice (some ⟨w.heap.size, 0, none⟩) L.length cap) L (some w.heap.size) ∧ Below w.heap.size w w1 := by
  have h := Lib.run_convert_string_bytes (P := Tryz.prog) w 9 36 5 (str L) Tryz.underlying9 Tryz.underlying36 Tryz.underlying5
  rw [str_size] at h
  refine ⟨_, _, h, ⟨_, _, rfl, grownCap_ge _ _ _ _, .inr ⟨w.heap.size, 0, rfl, rfl, by rw [Lib.bytesWorld_size]; omega, fun j u hu => ?_⟩⟩, ⟨rfl, rfl, rfl, by rw [Lib.bytesWorld_size]; omega, fun k hk => Lib.bytesWorld_at_old _ _ _ _ hk⟩⟩
  have hj := bc_get hu
  rw [Nat.zero_add, Lib.bytesWorld_cell w _ _ j (by rw [str_size]; exact hj), ← hu, bc_at L j hj, str_list]
  simp [List.getD, hj]
theorem upon_run {P : Program} {o : Oper} {a : Act} {K : Act → World → Prop} {Q : Exit → Act → World → Prop} {m : Sem Value} {w w' : World} {v : Value} (hr : m.run P w = .ok v w') (h : K (a.put o.dst v) w') : Oper.upon P o a K Q ((m.run P w).andThen fun a w' => Result.ok (Next.value a) w') := by
  rw [hr]
  simp only [Result.andThen]
  rw [Oper.upon_value]
  exact h

theorem iset_blk {w : World} {b : Nat} {C : Array Value} {t : TypeId} (h : w.heap[b]? = some (.cells C t (0, 0))) (j : Nat) (u : Value) : (w.setCell ⟨b, j, none⟩ u).heap[b]? = some (.cells (C.setIfInBounds j u) t (0, 0)) := by
  rw [setCell_eq_setRow w b j C t _ u h, setRow_heap w b _ _ _ _ h]
theorem below_set3 {w w' : World} {b : Nat} (h : Below w.heap.size w w') (hb : w.heap.size ≤ b) (x y z : Value) : Below w.heap.size w (((w'.setCell ⟨b, 0, none⟩ x).setCell ⟨b, 1, none⟩ y).setCell ⟨b, 2, none⟩ z) :=
  ((h.setCell (by simpa using hb) _).setCell (by simpa using hb) _).setCell (by simpa using hb) _
theorem below_alloc0 (w : World) (o : Obj) {w' : World} (h : Below (w.alloc o).heap.size (w.alloc o) w') : Below w.heap.size w w' := below_box h

/-- What Of tells. -/
def OfTo (L : List UInt8) (w : World) (e : Ending) (w' : World) : Prop := ∃ o, OfIs L o ∧ e = .returned (.tuple #[iv (o.getD nilI), .bool o.isSome]) ∧ Below w.heap.size w w'
end Go.Proofs.YtdmindhjmjnagabGreatDoor
/- Package inode: Of, Numbered. -/
namespace Go.Proofs.YtdmindhjmjnagabGreatDoor
set_option linter.unusedVariables false
set_option maxRecDepth 100000
open Go.RowKit

theorem str_ne {a b : List UInt8} : ((str a).toList == (str b).toList) = (a == b) := by rw [str_toList, str_toList]
theorem str_inj {a b : List UInt8} (h : str a = str b) : a = b := by rw [← str_list a, ← str_list b, h]
/-- What Numbered tells. -/
def NmTo (L : List UInt8) (w : World) (e : Ending) (w' : World) : Prop := ∃ o, NmIs L o ∧ e = .returned (.tuple #[.int .i64 (o.getD 0), .bool o.isSome]) ∧ Below w.heap.size w w'
end Go.Proofs.YtdmindhjmjnagabGreatDoor
