/- What each call on a pack.Reader comes to: the state of a reader as plain data. -/
import Derived.Test.YtgijkgcekfbgeaaDoorPackD
import Derived.Laws.BitsAllLaws
import Derived.Laws.BytesArg
namespace Go.Proofs.YtgijkgcekfbgeaaDoor
set_option linter.unusedVariables false
open Go.RowKit

/-- A reader as plain data: the bytes that are left, wrong. -/
structure RS where
  l : List UInt8
  bad : Bool

/-- A slice of bytes: they are L, and lie in the row r. -/
def BytesIn (w : World) (sv : Value) (L : List UInt8) (r : Option Nat) : Prop :=
  ∃ ad cap, sv = .slice ad L.length cap ∧ L.length ≤ cap ∧
    ((ad = none ∧ L = [] ∧ cap = 0) ∨ ∃ g off, ad = some ⟨g, off, none⟩ ∧ r = some g ∧ g < w.heap.size ∧ ∀ j u, (bc L)[j]? = some u → w.cell? ⟨g, off + j, none⟩ = some u)
def RdS (w : World) (p : Nat) (s : RS) (r : Option Nat) : Prop :=
  ∃ sv, w.heap[p]? = some (.cells #[sv, .bool s.bad] 79 (0, 0)) ∧ BytesIn w sv s.l r ∧ (s.bad = true → s.l = []) ∧ r ≠ some p
def RdG (p : Nat) (w : World) (r : Option Nat) (s : RS) (w' : World) : Prop := RdS w' p s r ∧ Touch p none w w'

theorem BytesIn.kept {w w' : World} {sv : Value} {L : List UInt8} {r : Option Nat} (h : BytesIn w sv L r) (hr : ∀ k, r = some k → w'.heap[k]? = w.heap[k]?) : BytesIn w' sv L r := by
  obtain ⟨ad, cap, h1, h2, h3⟩ := h
  refine ⟨ad, cap, h1, h2, ?_⟩
  rcases h3 with h3 | ⟨g, off, h4, h5, h6, h7⟩
  · exact .inl h3
  · have hb := hr g h5
    refine .inr ⟨g, off, h4, h5, ?_, fun j u hu => (World.cell?_of_block (w := w) hb).trans (h7 j u hu)⟩
    have h8 : w'.heap[g]? = some w.heap[g] := hb.trans (by simp [h6])
    exact (Array.getElem?_eq_some_iff.1 h8).1
theorem RdS.kept {w w' : World} {p : Nat} {s : RS} {r : Option Nat} (h : RdS w p s r) (hp : w'.heap[p]? = w.heap[p]?) (hr : ∀ k, r = some k → w'.heap[k]? = w.heap[k]?) : RdS w' p s r := by
  obtain ⟨sv, h1, h2, h3, h4⟩ := h
  exact ⟨sv, hp.trans h1, h2.kept hr, h3, h4⟩
theorem RdS.lt {w : World} {p : Nat} {s : RS} {r : Option Nat} (h : RdS w p s r) : p < w.heap.size := by
  obtain ⟨sv, h1, _⟩ := h
  exact lt_of_block h1

def RS.got (s : RS) (n : Int) : List UInt8 := if s.bad = true ∨ n < 0 ∨ (s.l.length : Int) < n then [] else s.l.take n.toNat
def RS.take (s : RS) (n : Int) : RS := if s.bad = true ∨ n < 0 ∨ (s.l.length : Int) < n then ⟨[], true⟩ else ⟨s.l.drop n.toNat, false⟩
theorem RS.got_length (s : RS) (n : Int) : ((s.got n).length : Int) ≤ n ∨ (s.got n).length = 0 := by
  unfold RS.got
  split
  · exact .inr rfl
  · left
    simp
    omega
theorem bc_at (l : List UInt8) (j : Nat) (h : j < l.length) : (bc l)[j]? = some (.int .u8 (l[j].toNat : Int)) := by simp [bc, h]
theorem take_setCells {w : World} {p : Nat} {sv : Value} {b : Bool} {r : Option Nat} (h1 : w.heap[p]? = some (.cells #[sv, .bool b] 79 (0, 0))) (hr : r ≠ some p) :
    RdG p w r ⟨[], true⟩ ((w.setCell ⟨p, 1, none⟩ (.bool true)).setCell ⟨p, 0, none⟩ (.slice none 0 0)) :=
  ⟨⟨_, (set2 (set2 h1).2).1, ⟨none, 0, rfl, Nat.le_refl _, .inl ⟨rfl, rfl, rfl⟩⟩, fun _ => rfl, hr⟩, ((Touch.refl _ _ _).setCell _ _).setCell _ _⟩

set_option maxHeartbeats 400000 in
theorem take_no_bad (w : World) (p : Nat) (n : Int) (sv : Value) (h1 : w.heap[p]? = some (.cells #[sv, .bool true] 79 (0, 0))) :
    Calls Tryd.prog 58 #[.pointer (some ⟨p, 0, none⟩), .int .i64 n] w fun e w' => e = .returned (.slice none 0 0) ∧ w' = (w.setCell ⟨p, 1, none⟩ (.bool true)).setCell ⟨p, 0, none⟩ (.slice none 0 0) := by
  obtain ⟨c0, c1⟩ := cells2 h1
  obtain ⟨f0, f1⟩ := free2 h1
  clear h1
  go_enter Tryd.func58, Tryd.ntmps58
  go_wp2
  go_ret
  exact ⟨rfl, rfl⟩
set_option maxHeartbeats 400000 in
theorem take_no_neg (w : World) (p : Nat) (n : Int) (sv : Value) (h1 : w.heap[p]? = some (.cells #[sv, .bool false] 79 (0, 0))) (hn : n < 0) :
    Calls Tryd.prog 58 #[.pointer (some ⟨p, 0, none⟩), .int .i64 n] w fun e w' => e = .returned (.slice none 0 0) ∧ w' = (w.setCell ⟨p, 1, none⟩ (.bool true)).setCell ⟨p, 0, none⟩ (.slice none 0 0) := by
  obtain ⟨c0, c1⟩ := cells2 h1
  obtain ⟨f0, f1⟩ := free2 h1
  clear h1
  go_enter Tryd.func58, Tryd.ntmps58
  go_wp2
  go_ret
  exact ⟨rfl, rfl⟩
set_option maxHeartbeats 400000 in
theorem take_no_big (w : World) (p : Nat) (n : Int) (a : Option Addr) (l c : Nat) (h1 : w.heap[p]? = some (.cells #[.slice a l c, .bool false] 79 (0, 0))) (hn : (l : Int) < n) :
    Calls Tryd.prog 58 #[.pointer (some ⟨p, 0, none⟩), .int .i64 n] w fun e w' => e = .returned (.slice none 0 0) ∧ w' = (w.setCell ⟨p, 1, none⟩ (.bool true)).setCell ⟨p, 0, none⟩ (.slice none 0 0) := by
  obtain ⟨c0, c1⟩ := cells2 h1
  obtain ⟨f0, f1⟩ := free2 h1
  clear h1
  have h0 : ¬ n < 0 := by omega
  go_enter Tryd.func58, Tryd.ntmps58
  go_wp2
  go_ret
  exact ⟨rfl, rfl⟩
set_option maxHeartbeats 400000 in
theorem take_yes (w : World) (p n l c : Nat) (a : Option Addr) (h1 : w.heap[p]? = some (.cells #[.slice a l c, .bool false] 79 (0, 0))) (hn : n ≤ l) (hc : l ≤ c) :
    Calls Tryd.prog 58 #[.pointer (some ⟨p, 0, none⟩), .int .i64 (n : Int)] w fun e w' => e = .returned (.slice a n c) ∧ w' = w.setCell ⟨p, 0, none⟩ (.slice (if c = n then a else a.map (·.add n)) (l - n) (c - n)) := by
  obtain ⟨c0, c1⟩ := cells2 h1
  obtain ⟨f0, f1⟩ := free2 h1
  clear h1
  have h0 : ¬ (n : Int) < 0 := by omega
  have h2 : ¬ (l : Int) < (n : Int) := by omega
  by_cases hcn : c = n
  · subst hcn
    rw [if_pos rfl]
    go_enter Tryd.func58, Tryd.ntmps58
    go_wp2
    go_ret
    exact ⟨rfl, rfl⟩
  · rw [if_neg hcn]
    go_enter Tryd.func58, Tryd.ntmps58
    go_wp2
    go_ret
    exact ⟨rfl, rfl⟩

theorem add_lit (g off n : Nat) : (⟨g, off, none⟩ : Addr).add n = ⟨g, off + n, none⟩ := by unfold Addr.add; split <;> simp_all
theorem bc_get {l : List UInt8} {j : Nat} {u : Value} (h : (bc l)[j]? = some u) : j < l.length := by
  have := (List.getElem?_eq_some_iff.1 h).1
  rwa [bc_length] at this
theorem bc_take {l : List UInt8} {n j : Nat} {u : Value} (h : (bc (l.take n))[j]? = some u) : (bc l)[j]? = some u := by
  have hj := bc_get h
  rw [List.length_take] at hj
  rw [bc_at _ _ (by rw [List.length_take]; omega)] at h
  rw [bc_at _ _ (by omega)]
  simpa using h
theorem bc_drop {l : List UInt8} {n j : Nat} {u : Value} (h : (bc (l.drop n))[j]? = some u) : (bc l)[n + j]? = some u := by
  have hj := bc_get h
  rw [List.length_drop] at hj
  rw [bc_at _ _ (by rw [List.length_drop]; omega)] at h
  rw [bc_at _ _ (by omega)]
  simpa using h

/-- take: so many bytes, or none, and wrong. -/
theorem take_calls (w : World) (p : Nat) (n : Int) (s : RS) (r : Option Nat) (h : RdS w p s r) :
    Calls Tryd.prog 58 #[.pointer (some ⟨p, 0, none⟩), .int .i64 n] w fun e w' => ∃ sv, e = .returned sv ∧ BytesIn w' sv (s.got n) r ∧ RdG p w r (s.take n) w' := by
  obtain ⟨sv, h1, h2, h3, h4⟩ := h
  have nil : ∀ w', BytesIn w' (.slice none 0 0) [] r := fun w' => ⟨none, 0, rfl, Nat.le_refl _, .inl ⟨rfl, rfl, rfl⟩⟩
  obtain ⟨L, bad⟩ := s
  unfold RS.got RS.take
  simp only at h1 h2 h3 ⊢
  obtain ⟨ad, cap, rfl, hcap, hcs⟩ := h2
  cases bad with
  | true =>
    rw [if_pos (.inl rfl), if_pos (.inl rfl)]
    refine (take_no_bad w p n _ h1).mono ?_
    rintro e w' ⟨rfl, rfl⟩
    exact ⟨_, rfl, nil _, take_setCells h1 h4⟩
  | false =>
    by_cases hn : n < 0
    · rw [if_pos (.inr (.inl hn)), if_pos (.inr (.inl hn))]
      refine (take_no_neg w p n _ h1 hn).mono ?_
      rintro e w' ⟨rfl, rfl⟩
      exact ⟨_, rfl, nil _, take_setCells h1 h4⟩
    · by_cases hl : (L.length : Int) < n
      · rw [if_pos (.inr (.inr hl)), if_pos (.inr (.inr hl))]
        refine (take_no_big w p n ad L.length cap h1 hl).mono ?_
        rintro e w' ⟨rfl, rfl⟩
        exact ⟨_, rfl, nil _, take_setCells h1 h4⟩
      · have hc : ¬ (false = true ∨ n < 0 ∨ (L.length : Int) < n) := by simp; omega
        rw [if_neg hc, if_neg hc]
        obtain ⟨k, rfl⟩ := Int.eq_ofNat_of_zero_le (show 0 ≤ n by omega)
        rw [Int.toNat_natCast]
        refine (take_yes w p k L.length cap ad h1 (by omega) hcap).mono ?_
        rintro e w' ⟨rfl, rfl⟩
        have ht : (L.take k).length = k := by rw [List.length_take]; omega
        have hd : (L.drop k).length = L.length - k := List.length_drop
        have hblk : ∀ g, r = some g → (w.setCell ⟨p, 0, none⟩ (.slice (if cap = k then ad else ad.map (·.add k)) (L.length - k) (cap - k))).heap[g]? = w.heap[g]? := fun g hg => Below.heap_setCell _ _ _ _ (fun e => h4 (by rw [hg]; simp at e; rw [e]))
        have B1 : BytesIn w (.slice ad k cap) (L.take k) r := by
          refine ⟨ad, cap, by rw [ht], by omega, ?_⟩
          rcases hcs with ⟨ha, hL, hcp⟩ | ⟨g, off, ha, hg, hlt, hcell⟩
          · exact .inl ⟨ha, by rw [hL]; simp, hcp⟩
          · exact .inr ⟨g, off, ha, hg, hlt, fun j u hu => hcell j u (bc_take hu)⟩
        have B2 : BytesIn w (.slice (if cap = k then ad else ad.map (·.add k)) (L.length - k) (cap - k)) (L.drop k) r := by
          refine ⟨_, cap - k, by rw [hd], by omega, ?_⟩
          rcases hcs with ⟨ha, hL, hcp⟩ | ⟨g, off, ha, hg, hlt, hcell⟩
          · refine .inl ⟨?_, by rw [hL]; simp, by omega⟩
            rw [ha]; split <;> rfl
          · by_cases hck : cap = k
            · rw [if_pos hck]
              refine .inr ⟨g, off, ha, hg, hlt, fun j u hu => ?_⟩
              have := bc_get hu
              omega
            · rw [if_neg hck, ha]
              refine .inr ⟨g, off + k, by rw [Option.map_some, add_lit], hg, hlt, fun j u hu => ?_⟩
              rw [Nat.add_assoc]
              exact hcell (k + j) u (bc_drop hu)
        exact ⟨_, rfl, B1.kept hblk, ⟨_, (set2 h1).1, B2.kept hblk, (fun e => by cases e), h4⟩, (Touch.refl _ _ _).setCell _ _⟩

theorem or_byte (a b : Nat) (ha : a < 72057594037927936) (hb : b < 256) : bits .or .u64 ((a : Int) * 256) (b : Int) = ((256 * a + b : Nat) : Int) := by
  have e : ((a : Int) * 256) = ((256 * a : Nat) : Int) := by omega
  rw [e, u64_or_nat (256 * a) b (by omega) (by omega)]
  have := Nat.two_pow_add_eq_or_of_lt (i := 8) (b := b) (by omega) a
  rw [show (2 : Nat) ^ 8 = 256 from rfl] at this
  rw [this]
set_option maxHeartbeats 400000 in
theorem number_reads (w : World) (p n : Nat) (s : RS) (r : Option Nat) (h : RdS w p s r) (hn : n ≤ 8) :
    Calls Tryd.prog 48 #[.pointer (some ⟨p, 0, none⟩), .int .i64 (n : Int)] w fun e w' => e = .returned (.int .u64 (num (s.got n) : Int)) ∧ RdG p w r (s.take n) w' := by
  have hgl : (s.got n).length ≤ 8 := by rcases s.got_length n with e | e <;> omega
  go_enter Tryd.func48, Tryd.ntmps48
  go_wp2_with (go_at_call 58; refine (take_calls _ p n s r h).mono ?_; rintro e w1 ⟨sv, rfl, ⟨ad, cap, rfl, hcap, hcs⟩, hg⟩)
  have HG0 : Hid (s.got n = s.got n) := rfl
  generalize hG : s.got n = G at hgl hcap hcs ⊢
  have HG : Hid (s.got n = G) := hG
  clear hG HG0
  go_loop [5, 7, 12] (fun v _ i => ∃ k : Nat, k ≤ G.length ∧ i = .int .i64 k ∧ v = .int .u64 (num (G.take k) : Int)) (fun _ _ i => G.length - (intOf i).toNat)
  case atStart => exact ⟨0, Nat.zero_le _, rfl, rfl⟩
  case round =>
    obtain ⟨k, hk, rfl, rfl⟩ := hrel
    by_cases hlt : k < G.length
    · rcases hcs with ⟨_, hL, _⟩ | ⟨g, off, rfl, _, _, hcell⟩
      · rw [hL] at hlt; simp at hlt
      · have hc := hcell k _ (bc_at G k hlt)
        have hv := num_small7 (l := G.take k) (by rw [List.length_take]; omega)
        have hb := (G[k]).toNat_lt
        have HV : Hid (bits .or .u64 ((num (G.take k) : Int) * 256) ((G[k]).toNat : Int) = (num (G.take (k + 1)) : Int)) := by
          rw [take_snoc8 G k hlt, num_snoc]
          exact or_byte _ _ hv hb
        clear hcell
        go_wp2
        go_round
        case rel => exact ⟨k + 1, by omega, by go_num, by rw [HV.out]⟩
        case measure => simp [intOf]; omega
    · have e : k = G.length := by omega
      subst e
      go_wp2
      go_ret
      rw [HG.out]
      exact ⟨by simp, hg⟩
end Go.Proofs.YtgijkgcekfbgeaaDoor
