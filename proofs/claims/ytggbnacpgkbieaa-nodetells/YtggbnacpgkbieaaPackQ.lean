/- What each exported call on a pack.Reader comes to. -/
import Derived.Test.YtggbnacpgkbieaaPackR
namespace Go.Proofs.Ytggbnacpgkbieaa
set_option linter.unusedVariables false
open Go.RowKit

theorem conv_bytes {w : World} {sv : Value} {L : List UInt8} {r : Option Nat} (h : BytesIn w sv L r) : (convert 26 9 sv).run Try.prog w = .ok (.string (str L)) w := by
  obtain ⟨ad, cap, rfl, hcap, hcs⟩ := h
  rcases hcs with ⟨rfl, rfl, rfl⟩ | ⟨g, off, rfl, _, _, hcell⟩
  · exact run_convert_bytes_nil w 26 5 Try.underlying26 Try.underlying5 0 0 9 Try.underlying9
  · have := run_convert_bytes_arg (P := Try.prog) w 26 5 Try.underlying26 Try.underlying5 g off L.length cap (L.map fun b => (b.toNat : Int)) (by simp) (fun i hi => by
      rw [hcell i _ (bc_at L i hi)]
      simp [hi]) 9 Try.underlying9
    rw [str_of] at this
    exact this

set_option maxHeartbeats 400000 in
theorem byte_reads (w : World) (p : Nat) (s : RS) (r : Option Nat) (h : RdS w p s r) :
    Calls Try.prog 32 #[.pointer (some ⟨p, 0, none⟩)] w fun e w' => e = .returned (.int .i64 (num (s.got 1) : Int)) ∧ RdG p w r (s.take 1) w' := by
  have hs := num_small7 (l := s.got 1) (by rcases s.got_length 1 with e | e <;> omega)
  go_enter Try.func32, Try.ntmps32
  go_wp2_with (go_at_call 52; refine (number_reads _ p 1 s r h (by omega)).mono ?_; rintro e w1 ⟨rfl, hg⟩)
  go_ret
  exact ⟨rfl, hg⟩
set_option maxHeartbeats 400000 in
theorem word_reads (w : World) (p : Nat) (s : RS) (r : Option Nat) (h : RdS w p s r) :
    Calls Try.prog 38 #[.pointer (some ⟨p, 0, none⟩)] w fun e w' => e = .returned (.int .i64 (num (s.got 4) : Int)) ∧ RdG p w r (s.take 4) w' := by
  have hs := num_small7 (l := s.got 4) (by rcases s.got_length 4 with e | e <;> omega)
  go_enter Try.func38, Try.ntmps38
  go_wp2_with (go_at_call 52; refine (number_reads _ p 4 s r h (by omega)).mono ?_; rintro e w1 ⟨rfl, hg⟩)
  go_ret
  exact ⟨rfl, hg⟩
set_option maxHeartbeats 400000 in
theorem raw_reads (w : World) (p : Nat) (n : Int) (s : RS) (r : Option Nat) (h : RdS w p s r) :
    Calls Try.prog 31 #[.pointer (some ⟨p, 0, none⟩), .int .i64 n] w fun e w' => e = .returned (.string (str (s.got n))) ∧ RdG p w r (s.take n) w' := by
  go_enter Try.func31, Try.ntmps31
  go_wp2_with (go_at_call 51; refine (take_calls _ p n s r h).mono ?_; rintro e w1 ⟨sv, rfl, hb, hg⟩; have hcv := conv_bytes hb)
  go_ret
  exact ⟨rfl, hg⟩
def RS.text (s : RS) : List UInt8 := (s.take 1).got (num (s.got 1))
def RS.atext (s : RS) : RS := (s.take 1).take (num (s.got 1))
theorem RdG.trans {p : Nat} {w w1 w2 : World} {r : Option Nat} {s1 s2 : RS} (h : RdG p w r s1 w1) (k : RdG p w1 r s2 w2) : RdG p w r s2 w2 := ⟨k.1, h.2.trans k.2 (Near.none _ _)⟩
set_option maxHeartbeats 400000 in
theorem text_reads (w : World) (p : Nat) (s : RS) (r : Option Nat) (h : RdS w p s r) :
    Calls Try.prog 35 #[.pointer (some ⟨p, 0, none⟩)] w fun e w' => e = .returned (.string (str s.text)) ∧ RdG p w r s.atext w' := by
  go_enter Try.func35, Try.ntmps35
  go_wp2_with (first
    | (go_at_call 32; refine (byte_reads _ p s r h).mono ?_; rintro e w1 ⟨rfl, hg⟩)
    | (go_at_call 31; refine (raw_reads _ p _ (s.take 1) r hg.1).mono ?_; rintro e w2 ⟨rfl, hg2⟩))
  go_ret
  exact ⟨rfl, hg.trans hg2⟩
set_option maxHeartbeats 400000 in
theorem nought_reads (w : World) (p q i : Nat) (s : RS) (r : Option Nat) (h : RdS w p s r) (hq : w.heap[q]? = some (.cells #[.pointer (some ⟨p, 0, none⟩)] 60 (0, 0))) (hi : i < s.l.length) :
    Calls Try.prog 53 #[.int .i64 (i : Int), .pointer (some ⟨q, 0, none⟩)] w fun e w' => e = .returned (.bool (((s.l[i]).toNat : Int) == 0)) ∧ w' = w := by
  obtain ⟨sv, h1, ⟨ad, cap, rfl, hcap, hcs⟩, _⟩ := h
  obtain ⟨c0, c1⟩ := cells2 h1
  have cq := cell_of_one hq
  clear h1 hq
  rcases hcs with ⟨_, hL, _⟩ | ⟨g, off, rfl, _, _, hcell⟩
  · rw [hL] at hi; simp at hi
  · have hc := hcell i _ (bc_at s.l i hi)
    clear hcell
    go_enter Try.func53, Try.ntmps53
    go_wp2
    go_ret
    exact ⟨rfl, rfl⟩
theorem all_take (l : List UInt8) (k : Nat) (h : k < l.length) (h1 : (l.take k).all (· == 0) = true) (h2 : (((l[k]).toNat : Int) == 0) = true) : (l.take (k + 1)).all (· == 0) = true := by
  have e : l[k] = 0 := by
    have h3 : ((l[k]).toNat : Int) = 0 := by simpa using h2
    have h4 : (l[k]).toNat = (0 : UInt8).toNat := by simp; omega
    exact UInt8.toNat_inj.1 h4
  rw [take_snoc8 l k h, List.all_append, h1, e]
  rfl
theorem all_not (l : List UInt8) (k : Nat) (h : k < l.length) (h2 : (((l[k]).toNat : Int) == 0) = false) : l.all (· == 0) = false := by
  rw [List.all_eq_false]
  refine ⟨l[k], List.getElem_mem h, ?_⟩
  intro e
  have e2 : l[k] = 0 := by simpa using e
  rw [e2] at h2
  simp at h2
set_option maxHeartbeats 400000 in
theorem all_calls (w : World) (p q : Nat) (s : RS) (r : Option Nat) (h : RdS w p s r) (hq : w.heap[q]? = some (.cells #[.pointer (some ⟨p, 0, none⟩)] 60 (0, 0))) (hl : s.l.length ≤ 9223372036854775806) :
    Calls Try.prog 54 #[.int .i64 (s.l.length : Int), .func (Fn.func 53) #[] #[.pointer (some ⟨q, 0, none⟩)]] w fun e w' => e = .returned (.bool (s.l.all (· == 0))) ∧ w' = w := by
  go_enter Try.func54, Try.ntmps54
  go_wp2
  go_loop [5, 7] (fun _ i => ∃ k : Nat, k ≤ s.l.length ∧ i = .int .i64 k ∧ (s.l.take k).all (· == 0) = true) (fun _ i => s.l.length - (intOf i).toNat)
  case atStart => exact ⟨0, Nat.zero_le _, rfl, rfl⟩
  case round =>
    obtain ⟨k, hk, rfl, hall⟩ := hrel
    have HA : Hid ((s.l.take k).all (· == 0) = true) := hall
    clear hall
    by_cases hlt : k < s.l.length
    · by_cases hz : (((s.l[k]).toNat : Int) == 0) = true
      · have HN : Hid ((s.l.take (k + 1)).all (· == 0) = true) := all_take s.l k hlt HA.out hz
        go_wp2_with (go_at_call 53; refine (nought_reads _ p q k s r h hq hlt).mono ?_; rintro e w1 ⟨rfl, rfl⟩)
        go_round
        case rel => exact ⟨k + 1, by omega, by go_num, HN.out⟩
        case measure => simp [intOf]; omega
      · have hz2 : (((s.l[k]).toNat : Int) == 0) = false := by simpa using hz
        clear hz
        have HN : Hid (s.l.all (· == 0) = false) := all_not s.l k hlt hz2
        go_wp2_with (go_at_call 53; refine (nought_reads _ p q k s r h hq hlt).mono ?_; rintro e w1 ⟨rfl, rfl⟩)
        go_ret
        rw [HN.out]
        exact ⟨rfl, rfl⟩
    · have e : k = s.l.length := by omega
      have HN : Hid (s.l.all (· == 0) = true) := by have := HA.out; rw [e, List.take_length] at this; exact this
      subst e
      go_wp2
      go_ret
      rw [HN.out]
      exact ⟨rfl, rfl⟩
set_option maxHeartbeats 400000 in
theorem noughts_bad (w : World) (p : Nat) (s : RS) (r : Option Nat) (h : RdS w p s r) (hb : s.bad = true) :
    Calls Try.prog 39 #[.pointer (some ⟨p, 0, none⟩)] w fun e w' => e = .returned (.bool false) ∧ Below w.heap.size w w' := by
  obtain ⟨sv, h1, ⟨ad, cap, rfl, hcap, hcs⟩, _⟩ := h
  rw [hb] at h1
  obtain ⟨c0, c1⟩ := cells2 h1
  have hp := lt_of_block h1
  clear h1
  go_enter Try.func39, Try.ntmps39
  go_wp2
  go_ret
  exact ⟨rfl, (Below.refl _ _).alloc (Nat.le_refl _) _⟩
set_option maxHeartbeats 400000 in
theorem noughts_ok (w : World) (p : Nat) (s : RS) (r : Option Nat) (h : RdS w p s r) (hr : ∀ k, r = some k → k < w.heap.size) (hb : s.bad = false) (hl : s.l.length ≤ 9223372036854775806) :
    Calls Try.prog 39 #[.pointer (some ⟨p, 0, none⟩)] w fun e w' => e = .returned (.bool (s.l.all (· == 0))) ∧ Below w.heap.size w w' := by
  have hA : RdS (w.alloc (.cells #[.pointer (some ⟨p, 0, none⟩)] 60)) p s r := h.kept (Below.heap_alloc _ _ _ h.lt) (fun k hk => Below.heap_alloc _ _ _ (hr k hk))
  obtain ⟨sv, h1, ⟨ad, cap, rfl, hcap, hcs⟩, _⟩ := h
  rw [hb] at h1
  obtain ⟨c0, c1⟩ := cells2 h1
  have hp := lt_of_block h1
  clear h1
  go_enter Try.func39, Try.ntmps39
  go_wp2_with (go_at_call 54; refine (all_calls _ p w.heap.size s r (by exact hA) (by exact heap_alloc_new _ _) hl).mono ?_; rintro e w1 ⟨rfl, rfl⟩)
  go_ret
  exact ⟨rfl, (Below.refl _ _).alloc (Nat.le_refl _) _⟩
/-- Noughts: are all that are left 0, and is it not wrong? -/
theorem noughts_reads (w : World) (p : Nat) (s : RS) (r : Option Nat) (h : RdS w p s r) (hr : ∀ k, r = some k → k < w.heap.size) (hl : s.l.length ≤ 9223372036854775806) :
    Calls Try.prog 39 #[.pointer (some ⟨p, 0, none⟩)] w fun e w' => e = .returned (.bool (!s.bad && s.l.all (· == 0))) ∧ Below w.heap.size w w' := by
  cases hb : s.bad with
  | true => exact noughts_bad w p s r h hb
  | false => exact noughts_ok w p s r h hr hb hl
end Go.Proofs.Ytggbnacpgkbieaa
