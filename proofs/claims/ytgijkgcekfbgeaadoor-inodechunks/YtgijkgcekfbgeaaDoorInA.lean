/- Package inode, call by call: first, written, reader, isFile, Value, Number. -/
import Derived.Test.YtgijkgcekfbgeaaDoorInM
import Derived.Test.YtgijkgcekfbgeaaDoorRefR
namespace Go.Proofs.YtgijkgcekfbgeaaDoor
set_option linter.unusedVariables false
open Go.RowKit

set_option maxHeartbeats 400000 in
theorem first_long (w : World) (L : List UInt8) (n : Nat) (N : Int) (hN : N = (n : Int)) (hn : N ≤ ((str L).size : Int)) (hm : min N ((str L).size : Int) = N) :
    Calls Tryd.prog 38 #[.string (str L), .int .i64 N] w fun e w' => e = .returned (.string (str (L.take n))) ∧ w' = w := by
  have h0 : 0 ≤ N := by omega
  have e1 : (str L).extract 0 N.toNat = str (L.take n) := by rw [hN]; exact ext_take L n
  generalize str (L.take n) = R at *
  generalize str L = S at *
  clear hN
  go_enter Tryd.func38, Tryd.ntmps38
  go_wp2
  go_ret
  exact ⟨rfl, rfl⟩
set_option maxHeartbeats 400000 in
theorem first_short (w : World) (L : List UInt8) (N : Int) (hn : ((str L).size : Int) < N) :
    Calls Tryd.prog 38 #[.string (str L), .int .i64 N] w fun e w' => e = .returned (.string (str L)) ∧ w' = w := by
  have e1 : (str L).extract 0 (str L).size = str L := by rw [ext_take, str_size, List.take_length]
  generalize str L = S at *
  go_enter Tryd.func38, Tryd.ntmps38
  go_wp2
  go_ret
  exact ⟨rfl, rfl⟩
theorem first_calls (w : World) (L : List UInt8) (n : Nat) (N : Int) (hN : N = (n : Int)) :
    Calls Tryd.prog 38 #[.string (str L), .int .i64 N] w fun e w' => e = .returned (.string (str (L.take n))) ∧ w' = w := by
  by_cases h : n ≤ L.length
  · exact first_long w L n N hN (by rw [str_size]; omega) (by rw [str_size]; omega)
  · rw [List.take_of_length_le (by omega)]
    exact first_short w L N (by rw [str_size]; omega)

set_option maxHeartbeats 400000 in
theorem written_calls (w : World) (p : Nat) (S : WS) (r : Option Nat) (h : WrS w p S r) (hb : S.bad = false) :
    Calls Tryd.prog 25 #[.pointer (some ⟨p, 0, none⟩)] w fun e w' => e = .returned (.string (str S.l)) ∧ Below w.heap.size w w' := by
  have H := done_ok w p S r h hb
  clear h hb
  go_enter Tryd.func25, Tryd.ntmps25
  go_wp2_with fail
  refine H.mono ?_
  rintro e w1 ⟨a, c, rfl, ho, hbel⟩
  clear H
  have hc := conv_bytes (own_bytes ho)
  clear ho
  go_wp2
  go_ret
  exact ⟨rfl, hbel⟩

/-- An inode's value in memory. -/
abbrev iv (n : Ino) : Value := .agg #[.bool n.d, .int .i64 n.l, .int .i64 n.s]

set_option maxHeartbeats 400000 in
theorem isFile_calls (w : World) (n : Ino) :
    Calls Tryd.prog 23 #[iv n] w fun e w' => e = .returned (.bool (isFil n)) ∧ Below w.heap.size w w' := by
  obtain ⟨d, l, s⟩ := n
  go_enter Tryd.func23, Tryd.ntmps23
  go_wp2
  all_goals
    go_ret
    refine ⟨congrArg (fun b => Ending.returned (Value.bool b)) ?_, (Below.refl _ _).alloc (Nat.le_refl _) _⟩
    first
    | (simp [isFil]; done)
    | (simp_all [isFil]; done)
    | (simp_all [isFil]; omega)

/-- A writer of one's own, new since the world w. -/
def Wri (w w1 : World) (p : Nat) (S : WS) : Prop := ∃ r, WrS w1 p S r ∧ Below w.heap.size w w1 ∧ w.heap.size ≤ p
theorem Wri.of {w w0 w1 : World} {p : Nat} {S : WS} (hb : Below w.heap.size w w0) (h : WrS w1 p S none) (hp : p = w0.heap.size) (k : Below w0.heap.size w0 w1) : Wri w w1 p S :=
  ⟨none, h, hb.trans (k.mono hb.size), by rw [hp]; exact hb.size⟩
theorem Wri.to {w w1 w2 : World} {p : Nat} {S S' : WS} {r : Option Nat} (h1 : WrS w1 p S r) (h2 : Below w.heap.size w w1) (h3 : w.heap.size ≤ p) (g : WrG p w1 r S' w2) : Wri w w2 p S' := by
  obtain ⟨r', g1, g2, g3⟩ := g
  have hl := h1.lt
  exact ⟨r', g1, h2.trans (g2.below h2.size h3 fun k hk => by have := hl.2 k hk; omega), h3⟩
theorem wri_new {w w0 : World} (hb : Below w.heap.size w w0) (n : Int) (h0 : 0 ≤ n) (h1 : n ≤ 2147483647) :
    Calls Tryd.prog 21 #[.int .i64 n] w0 fun e w' => ∃ p, e = .returned (.pointer (some ⟨p, 0, none⟩)) ∧ Wri w w' p ⟨n, [], false⟩ := by
  refine (new_calls w0 n h0 h1).mono ?_
  rintro e w' ⟨rfl, h, k⟩
  exact ⟨_, rfl, Wri.of hb h rfl k⟩
theorem wri_byte {w w1 : World} {p : Nat} {S : WS} (h : Wri w w1 p S) (v : Int) (hv : v ≤ 9223372036854775807) :
    Calls Tryd.prog 22 #[.pointer (some ⟨p, 0, none⟩), .int .i64 v] w1 fun e w' => e = .returned (.tuple #[]) ∧ Wri w w' p (S.byte v) := by
  obtain ⟨r, h1, h2, h3⟩ := h
  refine (byte_calls w1 p v S r h1 hv).mono ?_
  rintro e w' ⟨rfl, g⟩
  exact ⟨rfl, Wri.to h1 h2 h3 g⟩
theorem wri_word {w w1 : World} {p : Nat} {S : WS} (h : Wri w w1 p S) (v : Int) (hv : v ≤ 9223372036854775807) :
    Calls Tryd.prog 24 #[.pointer (some ⟨p, 0, none⟩), .int .i64 v] w1 fun e w' => e = .returned (.tuple #[]) ∧ Wri w w' p (S.word v) := by
  obtain ⟨r, h1, h2, h3⟩ := h
  refine (word_calls w1 p v S r h1 hv).mono ?_
  rintro e w' ⟨rfl, g⟩
  exact ⟨rfl, Wri.to h1 h2 h3 g⟩
theorem wri_raw {w w1 : World} {p : Nat} {S : WS} (h : Wri w w1 p S) (L : List UInt8) (ht : L.length ≤ 140737488351232) :
    Calls Tryd.prog 39 #[.pointer (some ⟨p, 0, none⟩), .string (str L)] w1 fun e w' => e = .returned (.tuple #[]) ∧ Wri w w' p (S.put L) := by
  obtain ⟨r, h1, h2, h3⟩ := h
  refine (raw_calls w1 p (str L) S r h1 (by rw [str_size]; exact ht)).mono ?_
  rintro e w' ⟨rfl, g⟩
  rw [str_list] at g
  exact ⟨rfl, Wri.to h1 h2 h3 g⟩
theorem wri_fill {w w1 : World} {p : Nat} {S : WS} (h : Wri w w1 p S) (n : Int) (hn : n ≤ 9223372036854775807) :
    Calls Tryd.prog 40 #[.pointer (some ⟨p, 0, none⟩), .int .i64 n] w1 fun e w' => e = .returned (.tuple #[]) ∧ Wri w w' p (S.fill n) := by
  obtain ⟨r, h1, h2, h3⟩ := h
  refine (fill_calls w1 p n S r h1 hn).mono ?_
  rintro e w' ⟨rfl, g⟩
  exact ⟨rfl, Wri.to h1 h2 h3 g⟩
theorem wri_written {w w1 : World} {p : Nat} {S : WS} (h : Wri w w1 p S) (L : List UInt8) (hS : S = ⟨S.m, L, false⟩) :
    Calls Tryd.prog 25 #[.pointer (some ⟨p, 0, none⟩)] w1 fun e w' => e = .returned (.string (str L)) ∧ Below w.heap.size w w' := by
  obtain ⟨r, h1, h2, h3⟩ := h
  refine (written_calls w1 p S r h1 (by rw [hS])).mono ?_
  rintro e w' ⟨rfl, g⟩
  exact ⟨by rw [hS], h2.trans (g.mono h2.size)⟩
theorem Wri.called {w w1 w2 : World} {p : Nat} {S : WS} (h : Wri w w1 p S) (hb : Below w1.heap.size w1 w2) : Wri w w2 p S := by
  obtain ⟨r, h1, h2, h3⟩ := h
  have hl := h1.lt
  exact ⟨r, h1.kept (hb.block _ hl.1) fun k hk => hb.block _ (hl.2 k hk).2, h2.trans (hb.mono h2.size), h3⟩
theorem put_ok (m : Int) (L x : List UInt8) (h : (L.length : Int) + x.length ≤ m) : (⟨m, L, false⟩ : WS).put x = ⟨m, L ++ x, false⟩ := by
  unfold WS.put
  rw [if_neg (by simp), if_pos h]
theorem ws_file (n : Ino) (h : isFil n = true) : (((⟨9, [], false⟩ : WS).byte 2).word n.l).word n.s = ⟨9, valI n, false⟩ := by
  obtain ⟨h0, h1, h2, h3, h4⟩ := isFil_in h
  have e1 : (⟨9, [], false⟩ : WS).byte 2 = ⟨9, [2], false⟩ := by
    rw [WS.byte, if_neg (by omega), put_ok _ _ _ (by decide)]
    rfl
  have e2 : (⟨9, [2], false⟩ : WS).word n.l = ⟨9, [2] ++ be n.l.toNat 4, false⟩ := by rw [WS.word, if_neg (by omega), put_ok _ _ _ (by simp [be_length])]
  rw [e1, e2, WS.word, if_neg (by omega), put_ok _ _ _ (by simp [be_length])]
  simp [valI, h0]
theorem ws_dir : (⟨9, [], false⟩ : WS).byte 1 = ⟨9, valI dirI, false⟩ := by
  rw [WS.byte, if_neg (by omega), put_ok _ _ _ (by decide)]
  rfl
theorem ws_num (n : Int) (h : okNum n = true) : (⟨4, [], false⟩ : WS).word n = ⟨4, numT n, false⟩ := by
  obtain ⟨h1, h2⟩ := okNum_in h
  rw [WS.word, if_neg (by omega), put_ok _ _ _ (by simp [be_length])]
  simp [numT, h]
theorem ws_full (L : List UInt8) (h : L.length ≤ 32) : ((⟨32, [], false⟩ : WS).put L).fill 32 = ⟨32, L ++ List.replicate (32 - L.length) 0, false⟩ := by
  rw [put_ok _ _ _ (by simp; omega), WS.fill, if_neg (by simp; omega), put_ok _ _ _ (by simp; omega)]
  simp
end Go.Proofs.YtgijkgcekfbgeaaDoor
