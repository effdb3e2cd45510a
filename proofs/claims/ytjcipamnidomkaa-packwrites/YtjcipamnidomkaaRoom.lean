/- A writer takes as many bytes as it has room for, and no more: the walk of PackRoom. -/
import Derived.Test.YtjcipamnidomkaaShown
import Derived.Test.YtjcipamnidomkaaBeMath
import Derived.Test.YtjcipamnidomkaaMasks
import Derived.Deep.QuietTactic
import Derived.BigQuiet
namespace Go.Proofs.Ytjcipamnidomkaa
set_option linter.unusedVariables false
open Go.RowKit

/-- A slice of strings that came in. -/
def StrsIn (w : World) (a : Option Addr) (len : Nat) (ss : Nat → ByteArray) : Prop :=
  ∀ i, i < len → ∃ b off, a = some ⟨b, off, none⟩ ∧ b < w.heap.size ∧ w.cell? ⟨b, off + i, none⟩ = some (.string (ss i)) ∧ (ss i).size ≤ maxLen

theorem text_fits (m : Int) (L : List UInt8) (t : ByteArray) (h : (L.length : Int) + 1 + t.size ≤ m) (ht : t.size ≤ 255) : WS.text ⟨m, L, false⟩ t = ⟨m, L ++ be t.size 1 ++ t.data.toList, false⟩ := by
  have hb : t.data.toList.length = t.size := by simp
  unfold WS.text WS.byte
  rw [if_neg (by omega)]
  have e : WS.put ⟨m, L, false⟩ (be ((t.size : Int)).toNat 1) = ⟨m, L ++ be t.size 1, false⟩ := by
    unfold WS.put
    rw [if_neg (by simp), if_pos (by rw [be_length]; simp; omega), Int.toNat_natCast]
  rw [e]
  unfold WS.put
  rw [if_neg (by simp), if_pos (by rw [hb, List.length_append, be_length]; simp; omega)]
theorem put_bad (s : WS) (h : s.bad = true) (x : List UInt8) : s.put x = s := by unfold WS.put; rw [if_pos h]
theorem text_over (m : Int) (L : List UInt8) (t : ByteArray) (h : m < (L.length : Int) + 1 + t.size) (ht : t.size ≤ 255) : (WS.text ⟨m, L, false⟩ t).bad = true := by
  have hb : t.data.toList.length = t.size := by simp
  unfold WS.text WS.byte
  rw [if_neg (by omega)]
  by_cases h1 : (L.length : Int) + 1 ≤ m
  · have e : WS.put ⟨m, L, false⟩ (be ((t.size : Int)).toNat 1) = ⟨m, L ++ be t.size 1, false⟩ := by
      unfold WS.put
      rw [if_neg (by simp), if_pos (by rw [be_length]; simp; omega), Int.toNat_natCast]
    rw [e]
    unfold WS.put
    rw [if_neg (by simp), if_neg (by rw [hb, List.length_append, be_length]; simp; omega)]
    rfl
  · have e : WS.put ⟨m, L, false⟩ (be ((t.size : Int)).toNat 1) = ⟨m, [], true⟩ := by
      unfold WS.put
      rw [if_neg (by simp), if_neg (by rw [be_length]; simp; omega)]
      rfl
    rw [e, put_bad _ rfl]
theorem fill_fits (m : Int) (L : List UInt8) (h : (L.length : Int) ≤ m) : ∃ L', WS.fill ⟨m, L, false⟩ m = ⟨m, L', false⟩ ∧ (L'.length : Int) = m := by
  refine ⟨L ++ List.replicate (m - L.length).toNat 0, ?_, ?_⟩
  · unfold WS.fill WS.put
    rw [if_neg (by simp; omega), if_neg (by simp), if_pos (by simp; omega)]
  · simp
    omega

/-- The first n bytes of a string. -/
theorem cut_size (t : ByteArray) (n : Nat) (h : n ≤ t.size) : (t.extract 0 n).size = n := by simp; omega

set_option maxHeartbeats 800000 in
set_option maxRecDepth 100000 in
theorem room_walk (n : Int) (a : Option Addr) (len cap : Nat) (ss : Nat → ByteArray) (w : World) (hl : len ≤ maxLen) (hs : StrsIn w a len ss) : Calls Try.prog 7 #[.int .i64 n, .slice a len cap] w fun e w' => e = .returned (.bool true) ∧ Below w.heap.size w w' := by
  unfold maxLen at hl
  obtain ⟨M, hM, hM0, hM1⟩ : ∃ M : Int, bits .and .i64 n 1023 = M ∧ 0 ≤ M ∧ M ≤ 1023 := ⟨_, and1023 n, by omega, by omega⟩
  go_enter Try.func7, Try.ntmps7
  go_wp2_with (first
    | (go_at_call 9; refine (shown_calls _).mono ?_; rintro e w0 ⟨rfl, b0⟩)
    | (go_at_call 10; refine (new_calls _ M hM0 (by omega)).mono ?_; rintro e w1 ⟨rfl, h1, b1⟩))
  clear hM
  have s0 := b0.size
  generalize hp0 : w0.heap.size = p at *
  have Hp : Hid (w0.heap.size = p) := hp0
  clear hp0
  go_loopw [7, 8, 9, 10, 11] (fun sz i _ _ _ wr => ∃ (k : Nat) (L : List UInt8) (r : Option Nat), k ≤ len ∧ k ≤ 30 ∧ i = .int .i64 k ∧ sz = .int .i64 (L.length : Int) ∧ (L.length : Int) ≤ M ∧ WrS wr p ⟨M, L, false⟩ r ∧ Below w.heap.size w wr)
    (fun _ i _ _ _ _ => len - (intOf i).toNat)
  case atStart => exact ⟨0, [], none, Nat.zero_le _, by omega, rfl, rfl, by simpa using hM0, h1, b0.trans (b1.mono s0)⟩
  case round =>
    obtain ⟨k, L, r, hk, hk30, rfl, rfl, hLM, hw, hbel⟩ := hrel
    clear h1 b0 b1
    by_cases hlt : k < len
    · by_cases hk30' : k < 30
      · obtain ⟨b, off, rfl, hb, hc0, hts⟩ := hs k hlt
        have hc : wr.cell? ⟨b, off + k, none⟩ = some (.string (ss k)) := (hbel.cell (by exact hb)).trans hc0
        clear hc0 hs
        generalize ss k = t at *
        unfold maxLen at hts
        by_cases h255 : (t.size : Int) ≤ 255
        · by_cases hfit : (L.length : Int) + 1 + (t.size : Int) ≤ M
          · have htf := text_fits M L t (by omega) (by omega)
            obtain ⟨L', hL', hlen⟩ : ∃ L', L ++ be t.size 1 ++ t.data.toList = L' ∧ L'.length = L.length + 1 + t.size := ⟨_, rfl, by rw [List.length_append, List.length_append, be_length]; simp⟩
            rw [hL'] at htf
            have Htf : Hid (WS.text ⟨M, L, false⟩ t = ⟨M, L', false⟩) := htf
            have hne : ((L'.length : Int) != (L.length : Int) + 1 + (t.size : Int)) = false := by rw [bne_eq_false_iff_eq]; omega
            have hLe : (L'.length : Int) ≤ (L.length : Int) + 1 + (t.size : Int) ∧ (L.length : Int) + 1 + (t.size : Int) ≤ (L'.length : Int) := by omega
            clear htf hL' hlen
            go_wp2
            go_quiet (fail)
            go_wp2_with (first
              | (go_at_call 18; refine (text_calls _ p t _ r (by exact hw) (by omega)).mono ?_; rintro e w2 ⟨rfl, r2, h2, t2, n2⟩; rw [Htf.out] at h2)
              | (go_at_call 24; refine (done_ok _ p _ r2 h2 rfl).mono ?_; rintro e w3 ⟨a3, c3, rfl, o3, b3⟩))
            have bel2 := (below_drewN hbel _).trans (t2.below (B := w.heap.size) (by have := hbel.size; simp; omega) (by omega) (fun j hj => by have := (hw.lt.2 j hj).1; omega))
            have bel3 := bel2.trans (b3.mono (by have := bel2.size; omega))
            have h3 := h2.below b3 (Nat.le_refl _)
            go_roundw
            case rel => exact ⟨k + 1, L', r2, by omega, by omega, by go_num, by go_num, by omega, h3, bel3⟩
            case measure => simp [intOf]; omega
          · have hto := text_over M L t (by omega) (by omega)
            have Hto : Hid ((WS.text ⟨M, L, false⟩ t).bad = true) := hto
            clear hto
            go_wp2
            go_quiet (fail)
            go_wp2_with (first
              | (go_at_call 18; refine (text_calls _ p t _ r (by exact hw) (by omega)).mono ?_; rintro e w2 ⟨rfl, r2, h2, t2, n2⟩)
              | (go_at_call 24; refine (done_bad _ p _ r2 h2 Hto.out).mono ?_; rintro e w3 ⟨rfl, rfl⟩))
            go_ret
            exact ⟨rfl, (below_drewN hbel _).trans (t2.below (B := w.heap.size) (by have := hbel.size; simp; omega) (by omega) (fun j hj => by have := (hw.lt.2 j hj).1; omega))⟩
        · have hsz : (t.extract 0 255).size = 255 := cut_size t 255 (by omega)
          have hsi : ((t.extract 0 255).size : Int) ≤ 255 := by omega
          by_cases hfit : (L.length : Int) + 1 + ((t.extract 0 255).size : Int) ≤ M
          · have htf := text_fits M L (t.extract 0 255) (by omega) (by omega)
            obtain ⟨L', hL', hlen⟩ : ∃ L', L ++ be (t.extract 0 255).size 1 ++ (t.extract 0 255).data.toList = L' ∧ L'.length = L.length + 1 + (t.extract 0 255).size := ⟨_, rfl, by rw [List.length_append, List.length_append, be_length]; simp⟩
            rw [hL'] at htf
            have Htf : Hid (WS.text ⟨M, L, false⟩ (t.extract 0 255) = ⟨M, L', false⟩) := htf
            have hne : ((L'.length : Int) != (L.length : Int) + 1 + ((t.extract 0 255).size : Int)) = false := by rw [bne_eq_false_iff_eq]; omega
            have hLe : (L'.length : Int) ≤ (L.length : Int) + 1 + ((t.extract 0 255).size : Int) ∧ (L.length : Int) + 1 + ((t.extract 0 255).size : Int) ≤ (L'.length : Int) := by omega
            clear htf hL' hlen
            go_wp2
            go_quiet (fail)
            go_wp2_with (first
              | (go_at_call 18; refine (text_calls _ p (t.extract 0 255) _ r (by exact hw) (by omega)).mono ?_; rintro e w2 ⟨rfl, r2, h2, t2, n2⟩; rw [Htf.out] at h2)
              | (go_at_call 24; refine (done_ok _ p _ r2 h2 rfl).mono ?_; rintro e w3 ⟨a3, c3, rfl, o3, b3⟩))
            have bel2 := (below_drewN hbel _).trans (t2.below (B := w.heap.size) (by have := hbel.size; simp; omega) (by omega) (fun j hj => by have := (hw.lt.2 j hj).1; omega))
            have bel3 := bel2.trans (b3.mono (by have := bel2.size; omega))
            have h3 := h2.below b3 (Nat.le_refl _)
            go_roundw
            case rel => exact ⟨k + 1, L', r2, by omega, by omega, by go_num, by go_num, by omega, h3, bel3⟩
            case measure => simp [intOf]; omega
          · have hto := text_over M L (t.extract 0 255) (by omega) (by omega)
            have Hto : Hid ((WS.text ⟨M, L, false⟩ (t.extract 0 255)).bad = true) := hto
            clear hto
            go_wp2
            go_quiet (fail)
            go_wp2_with (first
              | (go_at_call 18; refine (text_calls _ p (t.extract 0 255) _ r (by exact hw) (by omega)).mono ?_; rintro e w2 ⟨rfl, r2, h2, t2, n2⟩)
              | (go_at_call 24; refine (done_bad _ p _ r2 h2 Hto.out).mono ?_; rintro e w3 ⟨rfl, rfl⟩))
            go_ret
            exact ⟨rfl, (below_drewN hbel _).trans (t2.below (B := w.heap.size) (by have := hbel.size; simp; omega) (by omega) (fun j hj => by have := (hw.lt.2 j hj).1; omega))⟩
      · have h30 : ¬ (k : Int) < 30 := by omega
        obtain ⟨L', hf, hL'⟩ := fill_fits M L hLM
        have Hf : Hid (WS.fill ⟨M, L, false⟩ M = ⟨M, L', false⟩) := hf
        have heq : ((L'.length : Int) == M) = true := by rw [beq_iff_eq]; exact hL'
        clear hf hL'
        go_wp2_with (first
          | (go_at_call 22; refine (fill_calls _ p M _ r hw (by omega)).mono ?_; rintro e w2 ⟨rfl, r2, h2, t2, n2⟩; rw [Hf.out] at h2)
          | (go_at_call 24; refine (done_ok _ p _ r2 h2 rfl).mono ?_; rintro e w3 ⟨a3, c3, rfl, o3, b3⟩))
        have bel2 := hbel.trans (t2.below (B := w.heap.size) hbel.size (by omega) (fun j hj => by have := (hw.lt.2 j hj).1; omega))
        go_ret
        exact ⟨by simp, bel2.trans (b3.mono bel2.size)⟩
    · have h30 : ¬ (k : Int) < len := by omega
      obtain ⟨L', hf, hL'⟩ := fill_fits M L hLM
      have Hf : Hid (WS.fill ⟨M, L, false⟩ M = ⟨M, L', false⟩) := hf
      have heq : ((L'.length : Int) == M) = true := by rw [beq_iff_eq]; exact hL'
      clear hf hL'
      go_wp2_with (first
        | (go_at_call 22; refine (fill_calls _ p M _ r hw (by omega)).mono ?_; rintro e w2 ⟨rfl, r2, h2, t2, n2⟩; rw [Hf.out] at h2)
        | (go_at_call 24; refine (done_ok _ p _ r2 h2 rfl).mono ?_; rintro e w3 ⟨a3, c3, rfl, o3, b3⟩))
      have bel2 := hbel.trans (t2.below (B := w.heap.size) hbel.size (by omega) (fun j hj => by have := (hw.lt.2 j hj).1; omega))
      go_ret
      exact ⟨by simp, bel2.trans (b3.mono bel2.size)⟩
end Go.Proofs.Ytjcipamnidomkaa
