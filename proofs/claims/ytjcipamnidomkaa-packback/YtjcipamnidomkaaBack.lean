/- What is written is read, one behind the other: the walk of PackBack. -/
import Derived.Test.YtjcipamnidomkaaArgs
import Derived.Test.YtjcipamnidomkaaMasks
import Derived.Test.YtjcipamnidomkaaRoom
import Derived.Deep.RegionHeld3
import Derived.Deep.CutBlock
import Derived.Deep.DeepCutAuto
namespace Go.Proofs.Ytjcipamnidomkaa
set_option linter.unusedVariables false
open Go.RowKit

/-- A string's first 255 bytes. -/
def cut255 (t : ByteArray) : ByteArray := if t.size ≤ 255 then t else t.extract 0 255
theorem cut255_size (t : ByteArray) : (cut255 t).size ≤ 255 := by
  unfold cut255
  split
  · assumption
  · rw [cut_size t 255 (by omega)]
    omega
/-- The bytes of a field. -/
def enc (f : FD) : List UInt8 :=
  if f.kind % 4 = 0 then be (f.n % 256).toNat 1 else if f.kind % 4 = 1 then be (f.n % 4294967296).toNat 4 else if f.kind % 4 = 2 then be f.v.toNat 8 else be (cut255 f.s).size 1 ++ (cut255 f.s).data.toList
theorem enc_length (f : FD) : (enc f).length ≤ 256 := by
  have := cut255_size f.s
  unfold enc
  split
  · rw [be_length]; omega
  · split
    · rw [be_length]; omega
    · split
      · rw [be_length]; omega
      · rw [List.length_append, be_length]
        simp
        omega
/-- The bytes of n fields from the a-th on. -/
def encs (fs : Nat → FD) : Nat → Nat → List UInt8
  | _, 0 => []
  | a, n + 1 => enc (fs a) ++ encs fs (a + 1) n
theorem encs_snoc (fs : Nat → FD) : ∀ (n a : Nat), encs fs a (n + 1) = encs fs a n ++ enc (fs (a + n))
  | 0, a => by simp [encs]
  | n + 1, a => by
    have ih := encs_snoc fs n (a + 1)
    rw [encs, ih, encs, List.append_assoc, show a + 1 + n = a + (n + 1) by omega]
theorem encs_length (fs : Nat → FD) : ∀ (n a : Nat), (encs fs a n).length ≤ 256 * n
  | 0, a => by simp [encs]
  | n + 1, a => by
    have ih := encs_length fs n (a + 1)
    have := enc_length (fs a)
    rw [encs, List.length_append]
    omega

theorem put_fits (m : Int) (L x : List UInt8) (h : (L.length : Int) + x.length ≤ m) : WS.put ⟨m, L, false⟩ x = ⟨m, L ++ x, false⟩ := by
  unfold WS.put
  rw [if_neg (by simp), if_pos h]
theorem byte_fits (m : Int) (L : List UInt8) (v : Int) (h0 : 0 ≤ v) (h1 : v < 256) (h : (L.length : Int) + 1 ≤ m) : WS.byte ⟨m, L, false⟩ v = ⟨m, L ++ be v.toNat 1, false⟩ := by
  unfold WS.byte
  rw [if_neg (by omega), put_fits _ _ _ (by rw [be_length]; omega)]
theorem word_fits (m : Int) (L : List UInt8) (v : Int) (h0 : 0 ≤ v) (h1 : v < 4294967296) (h : (L.length : Int) + 4 ≤ m) : WS.word ⟨m, L, false⟩ v = ⟨m, L ++ be v.toNat 4, false⟩ := by
  unfold WS.word
  rw [if_neg (by omega), put_fits _ _ _ (by rw [be_length]; omega)]
theorem long_fits (m : Int) (L : List UInt8) (v : Nat) (h : (L.length : Int) + 8 ≤ m) : WS.long ⟨m, L, false⟩ v = ⟨m, L ++ be v 8, false⟩ := by
  unfold WS.long
  rw [put_fits _ _ _ (by rw [be_length]; omega)]

theorem got_pre (x rest : List UInt8) : RS.got ⟨x ++ rest, false⟩ x.length = x ∧ RS.take ⟨x ++ rest, false⟩ x.length = ⟨rest, false⟩ := by
  unfold RS.got RS.take
  have hc : ¬ (false = true ∨ (x.length : Int) < 0 ∨ (((x ++ rest).length : Nat) : Int) < x.length) := by simp; omega
  rw [if_neg hc, if_neg hc, Int.toNat_natCast]
  simp

theorem encs_step (fs : Nat → FD) (k : Nat) : encs fs 0 (k + 1) = encs fs 0 k ++ enc (fs k) := by rw [encs_snoc, Nat.zero_add]
theorem encs_next (fs : Nat → FD) (k K : Nat) (h : k < K) : encs fs k (K - k) = enc (fs k) ++ encs fs (k + 1) (K - (k + 1)) := by
  obtain ⟨j, hj⟩ : ∃ j, K - k = j + 1 := ⟨K - k - 1, by omega⟩
  rw [hj, encs, show K - (k + 1) = j by omega]
theorem enc0 {f : FD} (h : f.kind % 4 = 0) : enc f = be (f.n % 256).toNat 1 := by unfold enc; rw [if_pos h]
theorem enc1 {f : FD} (h : f.kind % 4 = 1) : enc f = be (f.n % 4294967296).toNat 4 := by unfold enc; rw [if_neg (by omega), if_pos h]
theorem enc2 {f : FD} (h : f.kind % 4 = 2) : enc f = be f.v.toNat 8 := by unfold enc; rw [if_neg (by omega), if_neg (by omega), if_pos h]
theorem enc3 {f : FD} (h : f.kind % 4 = 3) : enc f = be (cut255 f.s).size 1 ++ (cut255 f.s).data.toList := by unfold enc; rw [if_neg (by omega), if_neg (by omega), if_neg (by omega)]
theorem got_be (x n : Nat) (rest : List UInt8) (hx : x < 256 ^ n) : num (RS.got ⟨be x n ++ rest, false⟩ n) = x ∧ RS.take ⟨be x n ++ rest, false⟩ n = ⟨rest, false⟩ := by
  have h := got_pre (be x n) rest
  rw [be_length] at h
  exact ⟨by rw [h.1, num_be n x hx], h.2⟩
theorem text_pre (t : ByteArray) (rest : List UInt8) (ht : t.size ≤ 255) : RS.text ⟨be t.size 1 ++ t.data.toList ++ rest, false⟩ = t.data.toList ∧ RS.atext ⟨be t.size 1 ++ t.data.toList ++ rest, false⟩ = ⟨rest, false⟩ := by
  rw [List.append_assoc]
  have h1 := got_be t.size 1 (t.data.toList ++ rest) (by omega)
  have h2 := got_pre t.data.toList rest
  have hb : t.data.toList.length = t.size := by simp
  rw [hb] at h2
  have e1 : num (RS.got ⟨be t.size 1 ++ (t.data.toList ++ rest), false⟩ 1) = t.size := h1.1
  have e2 : RS.take ⟨be t.size 1 ++ (t.data.toList ++ rest), false⟩ 1 = ⟨t.data.toList ++ rest, false⟩ := h1.2
  unfold RS.text RS.atext
  rw [e1, e2]
  exact h2

set_option maxHeartbeats 4000000 in
set_option maxRecDepth 100000 in
theorem back_walk (a : Option Addr) (len cap : Nat) (fs : Nat → FD) (w : World) (hl : len ≤ maxLen) (hs : FieldsIn w a len fs) :
    Calls Try.prog 5 #[.slice a len cap] w fun e w' => e = .returned (.bool true) ∧ Below w.heap.size w w' := by
  unfold maxLen at hl
  obtain ⟨K, hK1, hK2, hK3⟩ : ∃ K : Nat, K ≤ len ∧ K ≤ 60 ∧ (len ≤ K ∨ 60 ≤ K) := ⟨min len 60, by omega, by omega, by omega⟩
  have hEl := encs_length fs
  have HEl : Hid (∀ (n a : Nat), (encs fs a n).length ≤ 256 * n) := hEl
  clear hEl
  go_enter Try.func5, Try.ntmps5
  go_upto_block 0 with (first
    | (go_at_call 9; refine (shown_calls _).mono ?_; rintro e w0 ⟨rfl, b0⟩)
    | (go_at_call 10; refine (new_calls _ 20000 (by omega) (by omega)).mono ?_; rintro e w1 ⟨rfl, h1, b1⟩))
  have s0 := b0.size
  have bel1 := b0.trans (b1.mono s0)
  generalize hp0 : w0.heap.size = p at *
  have Hp : Hid (w0.heap.size = p) := hp0
  clear hp0 b0 b1
  go_cut [5, 6] (fun _ _ wc => ∃ r, WrS wc p ⟨20000, encs fs 0 K, false⟩ r ∧ Below w.heap.size w wc)
  case first =>
    go_wp2_with fail
    go_loopw [5, 6] (fun i _ wr => ∃ (k : Nat) (r : Option Nat), k ≤ K ∧ True ∧ i = .int .i64 k ∧ WrS wr p ⟨20000, encs fs 0 k, false⟩ r ∧ Below w.heap.size w wr)
      (fun i _ _ => len - (intOf i).toNat)
    case atStart => exact ⟨0, none, Nat.zero_le _, trivial, rfl, h1, bel1⟩
    case round =>
      obtain ⟨k, r, hk, _, rfl, hw, hbel⟩ := hrel
      clear h1 bel1
      have hE := HEl.out k 0
      by_cases hkK : k < K
      · have hlt : k < len := by omega
        have hk60 : (k : Int) < 60 := by omega
        obtain ⟨g, off, rfl, hg, c0, c1, c2, c3, hkb, hnb, hv, hts⟩ := hs k hlt
        have d0 := (hbel.cell (p := ⟨g, off + k * 4, none⟩) (by exact hg)).trans c0
        have d1 := (hbel.cell (p := ⟨g, off + k * 4 + 1, none⟩) (by exact hg)).trans c1
        have d2 := (hbel.cell (p := ⟨g, off + k * 4 + 2, none⟩) (by exact hg)).trans c2
        have d3 := (hbel.cell (p := ⟨g, off + k * 4 + 3, none⟩) (by exact hg)).trans c3
        clear c0 c1 c2 c3
        unfold maxLen at hts
        by_cases h255 : ((fs k).s.size : Int) ≤ 255
        · have hcut : cut255 (fs k).s = (fs k).s := by unfold cut255; rw [if_pos (by omega)]
          rcases (show (fs k).kind % 4 = 0 ∨ (fs k).kind % 4 = 1 ∨ (fs k).kind % 4 = 2 ∨ (fs k).kind % 4 = 3 by omega) with hk4 | hk4 | hk4 | hk4
          · have Hen : Hid (encs fs 0 (k + 1) = encs fs 0 k ++ be ((fs k).n % 256).toNat 1) := (encs_step fs k).trans (by rw [enc0 hk4])
            have hK : bits .and .i64 (fs k).kind 3 = 0 := (and3 _).trans hk4
            obtain ⟨x, hx⟩ := Int.eq_ofNat_of_zero_le (show 0 ≤ (fs k).n % 256 by omega)
            have hN : bits .and .i64 (fs k).n 255 = (x : Int) := (and255 _).trans hx
            have hx2 : (x : Int) < 256 := by omega
            rw [hx, Int.toNat_natCast] at Hen
            clear hk4 hcut hx
            generalize (fs k).kind = K0 at *
            generalize encs fs 0 k = E at *
            go_wp2
            go_quiet (fail)
            go_wp2_with (go_at_call 12; refine (byte_calls _ p x _ r (by exact hw) (by omega)).mono ?_; rintro e w2 ⟨rfl, r2, h2, t2, n2⟩; rw [byte_fits _ _ _ (by omega) hx2 (by omega), Int.toNat_natCast] at h2)
            have bel2 := (below_drewN hbel _).trans (t2.below (B := w.heap.size) (by have := hbel.size; simp; omega) (by omega) (fun j hj => by have := (hw.lt.2 j hj).1; omega))
            go_roundw
            case rel => exact ⟨k + 1, r2, by omega, by omega, by go_num, by rw [Hen.out]; exact h2, bel2⟩
            case measure => simp [intOf]; omega
          · have Hen : Hid (encs fs 0 (k + 1) = encs fs 0 k ++ be ((fs k).n % 4294967296).toNat 4) := (encs_step fs k).trans (by rw [enc1 hk4])
            have hK : bits .and .i64 (fs k).kind 3 = 1 := (and3 _).trans hk4
            obtain ⟨x, hx⟩ := Int.eq_ofNat_of_zero_le (show 0 ≤ (fs k).n % 4294967296 by omega)
            have hN : bits .and .i64 (fs k).n 4294967295 = (x : Int) := (and32 _).trans hx
            have hx2 : (x : Int) < 4294967296 := by omega
            rw [hx, Int.toNat_natCast] at Hen
            clear hk4 hcut hx
            generalize (fs k).kind = K0 at *
            generalize encs fs 0 k = E at *
            go_wp2
            go_quiet (fail)
            go_wp2_with (go_at_call 14; refine (word_calls _ p x _ r (by exact hw) (by omega)).mono ?_; rintro e w2 ⟨rfl, r2, h2, t2, n2⟩; rw [word_fits _ _ _ (by omega) hx2 (by omega), Int.toNat_natCast] at h2)
            have bel2 := (below_drewN hbel _).trans (t2.below (B := w.heap.size) (by have := hbel.size; simp; omega) (by omega) (fun j hj => by have := (hw.lt.2 j hj).1; omega))
            go_roundw
            case rel => exact ⟨k + 1, r2, by omega, by omega, by go_num, by rw [Hen.out]; exact h2, bel2⟩
            case measure => simp [intOf]; omega
          · have Hen : Hid (encs fs 0 (k + 1) = encs fs 0 k ++ be (fs k).v.toNat 8) := (encs_step fs k).trans (by rw [enc2 hk4])
            have hK : bits .and .i64 (fs k).kind 3 = 2 := (and3 _).trans hk4
            obtain ⟨x, hx⟩ := Int.eq_ofNat_of_zero_le hv.1
            rw [hx] at d2
            rw [hx, Int.toNat_natCast] at Hen
            clear hk4 hcut hx
            generalize (fs k).kind = K0 at *
            generalize encs fs 0 k = E at *
            go_wp2
            go_quiet (fail)
            go_wp2_with (go_at_call 16; refine (long_calls _ p x _ r (by exact hw)).mono ?_; rintro e w2 ⟨rfl, r2, h2, t2, n2⟩; rw [long_fits _ _ _ (by omega)] at h2)
            have bel2 := (below_drewN hbel _).trans (t2.below (B := w.heap.size) (by have := hbel.size; simp; omega) (by omega) (fun j hj => by have := (hw.lt.2 j hj).1; omega))
            go_roundw
            case rel => exact ⟨k + 1, r2, by omega, by omega, by go_num, by rw [Hen.out]; exact h2, bel2⟩
            case measure => simp [intOf]; omega
          · have Hen : Hid (encs fs 0 (k + 1) = encs fs 0 k ++ be (fs k).s.size 1 ++ (fs k).s.data.toList) := (encs_step fs k).trans (by rw [enc3 hk4, hcut, List.append_assoc])
            have hK : bits .and .i64 (fs k).kind 3 = 3 := (and3 _).trans hk4
            clear hk4 hcut
            generalize (fs k).kind = K0 at *
            generalize encs fs 0 k = E at *
            go_wp2
            go_quiet (fail)
            go_wp2_with (go_at_call 18; refine (text_calls _ p (fs k).s _ r (by exact hw) (by omega)).mono ?_; rintro e w2 ⟨rfl, r2, h2, t2, n2⟩; rw [text_fits _ _ (fs k).s (by omega) (by omega)] at h2)
            have bel2 := (below_drewN hbel _).trans (t2.below (B := w.heap.size) (by have := hbel.size; simp; omega) (by omega) (fun j hj => by have := (hw.lt.2 j hj).1; omega))
            go_roundw
            case rel => exact ⟨k + 1, r2, by omega, by omega, by go_num, by rw [Hen.out]; exact h2, bel2⟩
            case measure => simp [intOf]; omega
        · have hcut : cut255 (fs k).s = (fs k).s.extract 0 255 := by unfold cut255; rw [if_neg (by omega)]
          have hsz : ((fs k).s.extract 0 255).size = 255 := cut_size _ 255 (by omega)
          rcases (show (fs k).kind % 4 = 0 ∨ (fs k).kind % 4 = 1 ∨ (fs k).kind % 4 = 2 ∨ (fs k).kind % 4 = 3 by omega) with hk4 | hk4 | hk4 | hk4
          · have Hen : Hid (encs fs 0 (k + 1) = encs fs 0 k ++ be ((fs k).n % 256).toNat 1) := (encs_step fs k).trans (by rw [enc0 hk4])
            have hK : bits .and .i64 (fs k).kind 3 = 0 := (and3 _).trans hk4
            obtain ⟨x, hx⟩ := Int.eq_ofNat_of_zero_le (show 0 ≤ (fs k).n % 256 by omega)
            have hN : bits .and .i64 (fs k).n 255 = (x : Int) := (and255 _).trans hx
            have hx2 : (x : Int) < 256 := by omega
            rw [hx, Int.toNat_natCast] at Hen
            clear hk4 hcut hx
            generalize (fs k).kind = K0 at *
            generalize encs fs 0 k = E at *
            go_wp2
            go_quiet (fail)
            go_wp2_with (go_at_call 12; refine (byte_calls _ p x _ r (by exact hw) (by omega)).mono ?_; rintro e w2 ⟨rfl, r2, h2, t2, n2⟩; rw [byte_fits _ _ _ (by omega) hx2 (by omega), Int.toNat_natCast] at h2)
            have bel2 := (below_drewN hbel _).trans (t2.below (B := w.heap.size) (by have := hbel.size; simp; omega) (by omega) (fun j hj => by have := (hw.lt.2 j hj).1; omega))
            go_roundw
            case rel => exact ⟨k + 1, r2, by omega, by omega, by go_num, by rw [Hen.out]; exact h2, bel2⟩
            case measure => simp [intOf]; omega
          · have Hen : Hid (encs fs 0 (k + 1) = encs fs 0 k ++ be ((fs k).n % 4294967296).toNat 4) := (encs_step fs k).trans (by rw [enc1 hk4])
            have hK : bits .and .i64 (fs k).kind 3 = 1 := (and3 _).trans hk4
            obtain ⟨x, hx⟩ := Int.eq_ofNat_of_zero_le (show 0 ≤ (fs k).n % 4294967296 by omega)
            have hN : bits .and .i64 (fs k).n 4294967295 = (x : Int) := (and32 _).trans hx
            have hx2 : (x : Int) < 4294967296 := by omega
            rw [hx, Int.toNat_natCast] at Hen
            clear hk4 hcut hx
            generalize (fs k).kind = K0 at *
            generalize encs fs 0 k = E at *
            go_wp2
            go_quiet (fail)
            go_wp2_with (go_at_call 14; refine (word_calls _ p x _ r (by exact hw) (by omega)).mono ?_; rintro e w2 ⟨rfl, r2, h2, t2, n2⟩; rw [word_fits _ _ _ (by omega) hx2 (by omega), Int.toNat_natCast] at h2)
            have bel2 := (below_drewN hbel _).trans (t2.below (B := w.heap.size) (by have := hbel.size; simp; omega) (by omega) (fun j hj => by have := (hw.lt.2 j hj).1; omega))
            go_roundw
            case rel => exact ⟨k + 1, r2, by omega, by omega, by go_num, by rw [Hen.out]; exact h2, bel2⟩
            case measure => simp [intOf]; omega
          · have Hen : Hid (encs fs 0 (k + 1) = encs fs 0 k ++ be (fs k).v.toNat 8) := (encs_step fs k).trans (by rw [enc2 hk4])
            have hK : bits .and .i64 (fs k).kind 3 = 2 := (and3 _).trans hk4
            obtain ⟨x, hx⟩ := Int.eq_ofNat_of_zero_le hv.1
            rw [hx] at d2
            rw [hx, Int.toNat_natCast] at Hen
            clear hk4 hcut hx
            generalize (fs k).kind = K0 at *
            generalize encs fs 0 k = E at *
            go_wp2
            go_quiet (fail)
            go_wp2_with (go_at_call 16; refine (long_calls _ p x _ r (by exact hw)).mono ?_; rintro e w2 ⟨rfl, r2, h2, t2, n2⟩; rw [long_fits _ _ _ (by omega)] at h2)
            have bel2 := (below_drewN hbel _).trans (t2.below (B := w.heap.size) (by have := hbel.size; simp; omega) (by omega) (fun j hj => by have := (hw.lt.2 j hj).1; omega))
            go_roundw
            case rel => exact ⟨k + 1, r2, by omega, by omega, by go_num, by rw [Hen.out]; exact h2, bel2⟩
            case measure => simp [intOf]; omega
          · have Hen : Hid (encs fs 0 (k + 1) = encs fs 0 k ++ be ((fs k).s.extract 0 255).size 1 ++ ((fs k).s.extract 0 255).data.toList) := (encs_step fs k).trans (by rw [enc3 hk4, hcut, List.append_assoc])
            have hK : bits .and .i64 (fs k).kind 3 = 3 := (and3 _).trans hk4
            clear hk4 hcut
            generalize (fs k).kind = K0 at *
            generalize encs fs 0 k = E at *
            go_wp2
            go_quiet (fail)
            go_wp2_with (go_at_call 18; refine (text_calls _ p ((fs k).s.extract 0 255) _ r (by exact hw) (by omega)).mono ?_; rintro e w2 ⟨rfl, r2, h2, t2, n2⟩; rw [text_fits _ _ ((fs k).s.extract 0 255) (by omega) (by omega)] at h2)
            have bel2 := (below_drewN hbel _).trans (t2.below (B := w.heap.size) (by have := hbel.size; simp; omega) (by omega) (fun j hj => by have := (hw.lt.2 j hj).1; omega))
            go_roundw
            case rel => exact ⟨k + 1, r2, by omega, by omega, by go_num, by rw [Hen.out]; exact h2, bel2⟩
            case measure => simp [intOf]; omega
      · have e : k = K := by omega
        subst e
        rcases hK3 with h60 | h60
        · have h60' : ¬ (k : Int) < len := by omega
          go_wp2
          go_meet
          case rel => exact ⟨r, hw, hbel⟩
        · have h60' : ¬ (k : Int) < 60 := by omega
          by_cases hlt : (k : Int) < len
          · go_wp2
            go_meet
            case rel => exact ⟨r, hw, hbel⟩
          · go_wp2
            go_meet
            case rel => exact ⟨r, hw, hbel⟩
  case rest =>
    obtain ⟨r, hw, hbel⟩ := hcut
    clear h1 bel1
    have hE := HEl.out K 0
    go_wp2_with (first
      | (go_at_call 24; refine (done_ok _ p _ r hw rfl).mono ?_; rintro e w4 ⟨a4, c4, rfl, o4, b4⟩)
      | (go_at_call 26; refine (read_calls _ _ _ _ (own_bytes o4) (by omega)).mono ?_; rintro e w5 ⟨q, rr, rfl, h5, b5, q5, k5⟩))
    have z4 := b4.size
    have z0 := hbel.size
    have bel5 := (hbel.trans (b4.mono z0)).trans (b5.mono (by omega))
    have hq : w.heap.size ≤ q := by omega
    have hrr5 : ∀ j, rr = some j → j < w5.heap.size := fun j hj => (k5 j hj).2
    clear k5 b4 b5 o4 hw hbel
    go_loopw [10, 11, 12] (fun i _ _ wr => ∃ (k : Nat), k ≤ K ∧ i = .int .i64 k ∧ RdS wr q ⟨encs fs k (K - k), false⟩ rr ∧ Below w.heap.size w wr ∧ ∀ j, rr = some j → j < wr.heap.size)
      (fun i _ _ _ => len - (intOf i).toNat)
    case atStart => exact ⟨0, Nat.zero_le _, rfl, h5, bel5, hrr5⟩
    case round =>
      obtain ⟨k, hk, rfl, hr, hbel, hrr⟩ := hrel
      clear h5 bel5 hrr5
      by_cases hkK : k < K
      · have hlt : k < len := by omega
        have hk60 : (k : Int) < 60 := by omega
        obtain ⟨g, off, rfl, hg, c0, c1, c2, c3, hkb, hnb, hv, hts⟩ := hs k hlt
        have d0 := (hbel.cell (p := ⟨g, off + k * 4, none⟩) (by exact hg)).trans c0
        have d1 := (hbel.cell (p := ⟨g, off + k * 4 + 1, none⟩) (by exact hg)).trans c1
        have d2 := (hbel.cell (p := ⟨g, off + k * 4 + 2, none⟩) (by exact hg)).trans c2
        have d3 := (hbel.cell (p := ⟨g, off + k * 4 + 3, none⟩) (by exact hg)).trans c3
        unfold maxLen at hts
        by_cases h255 : ((fs k).s.size : Int) ≤ 255
        · have hcut : cut255 (fs k).s = (fs k).s := by unfold cut255; rw [if_pos (by omega)]
          rcases (show (fs k).kind % 4 = 0 ∨ (fs k).kind % 4 = 1 ∨ (fs k).kind % 4 = 2 ∨ (fs k).kind % 4 = 3 by omega) with hk4 | hk4 | hk4 | hk4
          · have Hen : Hid (encs fs k (K - k) = be ((fs k).n % 256).toNat 1 ++ encs fs (k + 1) (K - (k + 1))) := (encs_next fs k K hkK).trans (by rw [enc0 hk4])
            have hK : bits .and .i64 (fs k).kind 3 = 0 := (and3 _).trans hk4
            obtain ⟨x, hx⟩ := Int.eq_ofNat_of_zero_le (show 0 ≤ (fs k).n % 256 by omega)
            have hN : bits .and .i64 (fs k).n 255 = (x : Int) := (and255 _).trans hx
            have hgt := got_be x 1 (encs fs (k + 1) (K - (k + 1))) (by omega)
            rw [hx, Int.toNat_natCast] at Hen
            rw [Hen.out] at hr
            have Hg : Hid (num (RS.got ⟨be x 1 ++ encs fs (k + 1) (K - (k + 1)), false⟩ 1) = x ∧ RS.take ⟨be x 1 ++ encs fs (k + 1) (K - (k + 1)), false⟩ 1 = ⟨encs fs (k + 1) (K - (k + 1)), false⟩) := hgt
            clear hk4 hcut hx hgt
            generalize (fs k).kind = K0 at *
            go_wp2
            go_quiet (fail)
            go_wp2
            go_region_held3 (fun w' => w'.cell? ⟨g, off + k * 4 + 1, none⟩ = some (.int .i64 (fs k).n)) (first | go_keep | exact d5)
              ((go_at_call 27; refine (byte_reads _ q _ rr (by exact hr)).mono ?_; rintro e w2 ⟨rfl, hg2⟩; simp only [Hg.out.1]; rw [Hg.out.2] at hg2; have e2 := (below_drewN (below_drewN hbel nq) 1).trans (hg2.2.below (B := w.heap.size) (by have := hbel.size; simp; omega) (by omega) (fun j hj => by cases hj)); have d5 := (e2.cell (p := ⟨g, off + k * 4 + 1, none⟩) (by exact hg)).trans c1))
            go_wp2
            go_roundw
            case rel => exact ⟨k + 1, by omega, by go_num, hg2.1, e2, fun j hj => by have := hrr j hj; have := hg2.2.size; simp at this; omega⟩
            case measure => simp [intOf]; omega
          · have Hen : Hid (encs fs k (K - k) = be ((fs k).n % 4294967296).toNat 4 ++ encs fs (k + 1) (K - (k + 1))) := (encs_next fs k K hkK).trans (by rw [enc1 hk4])
            have hK : bits .and .i64 (fs k).kind 3 = 1 := (and3 _).trans hk4
            obtain ⟨x, hx⟩ := Int.eq_ofNat_of_zero_le (show 0 ≤ (fs k).n % 4294967296 by omega)
            have hN : bits .and .i64 (fs k).n 4294967295 = (x : Int) := (and32 _).trans hx
            have hgt := got_be x 4 (encs fs (k + 1) (K - (k + 1))) (by rw [p4]; omega)
            rw [hx, Int.toNat_natCast] at Hen
            rw [Hen.out] at hr
            have Hg : Hid (num (RS.got ⟨be x 4 ++ encs fs (k + 1) (K - (k + 1)), false⟩ 4) = x ∧ RS.take ⟨be x 4 ++ encs fs (k + 1) (K - (k + 1)), false⟩ 4 = ⟨encs fs (k + 1) (K - (k + 1)), false⟩) := hgt
            clear hk4 hcut hx hgt
            generalize (fs k).kind = K0 at *
            go_wp2
            go_quiet (fail)
            go_wp2
            go_region_held3 (fun w' => w'.cell? ⟨g, off + k * 4 + 1, none⟩ = some (.int .i64 (fs k).n)) (first | go_keep | exact d5)
              ((go_at_call 29; refine (word_reads _ q _ rr (by exact hr)).mono ?_; rintro e w2 ⟨rfl, hg2⟩; simp only [Hg.out.1]; rw [Hg.out.2] at hg2; have e2 := (below_drewN (below_drewN hbel nq) 1).trans (hg2.2.below (B := w.heap.size) (by have := hbel.size; simp; omega) (by omega) (fun j hj => by cases hj)); have d5 := (e2.cell (p := ⟨g, off + k * 4 + 1, none⟩) (by exact hg)).trans c1))
            go_wp2
            go_roundw
            case rel => exact ⟨k + 1, by omega, by go_num, hg2.1, e2, fun j hj => by have := hrr j hj; have := hg2.2.size; simp at this; omega⟩
            case measure => simp [intOf]; omega
          · have Hen : Hid (encs fs k (K - k) = be (fs k).v.toNat 8 ++ encs fs (k + 1) (K - (k + 1))) := (encs_next fs k K hkK).trans (by rw [enc2 hk4])
            have hK : bits .and .i64 (fs k).kind 3 = 2 := (and3 _).trans hk4
            obtain ⟨x, hx⟩ := Int.eq_ofNat_of_zero_le hv.1
            have hgt := got_be x 8 (encs fs (k + 1) (K - (k + 1))) (by rw [p8]; omega)
            rw [hx] at d2 c2
            rw [hx, Int.toNat_natCast] at Hen
            rw [Hen.out] at hr
            have Hg : Hid (num (RS.got ⟨be x 8 ++ encs fs (k + 1) (K - (k + 1)), false⟩ 8) = x ∧ RS.take ⟨be x 8 ++ encs fs (k + 1) (K - (k + 1)), false⟩ 8 = ⟨encs fs (k + 1) (K - (k + 1)), false⟩) := hgt
            clear hk4 hcut hx hgt hv
            generalize (fs k).kind = K0 at *
            go_wp2
            go_quiet (fail)
            go_wp2
            go_region_held3 (fun w' => w'.cell? ⟨g, off + k * 4 + 2, none⟩ = some (.int .u64 (x : Int))) (first | go_keep | exact d5)
              ((go_at_call 31; refine (long_reads _ q _ rr (by exact hr)).mono ?_; rintro e w2 ⟨rfl, hg2⟩; simp only [Hg.out.1]; rw [Hg.out.2] at hg2; have e2 := (below_drewN (below_drewN hbel nq) 1).trans (hg2.2.below (B := w.heap.size) (by have := hbel.size; simp; omega) (by omega) (fun j hj => by cases hj)); have d5 := (e2.cell (p := ⟨g, off + k * 4 + 2, none⟩) (by exact hg)).trans c2))
            go_wp2
            go_roundw
            case rel => exact ⟨k + 1, by omega, by go_num, hg2.1, e2, fun j hj => by have := hrr j hj; have := hg2.2.size; simp at this; omega⟩
            case measure => simp [intOf]; omega
          · have Hen : Hid (encs fs k (K - k) = be (fs k).s.size 1 ++ (fs k).s.data.toList ++ encs fs (k + 1) (K - (k + 1))) := (encs_next fs k K hkK).trans (by rw [enc3 hk4, hcut])
            have hK : bits .and .i64 (fs k).kind 3 = 3 := (and3 _).trans hk4
            have hgt := text_pre (fs k).s (encs fs (k + 1) (K - (k + 1))) (by omega)
            rw [Hen.out] at hr
            have Hg : Hid (RS.text ⟨be (fs k).s.size 1 ++ (fs k).s.data.toList ++ encs fs (k + 1) (K - (k + 1)), false⟩ = (fs k).s.data.toList ∧ RS.atext ⟨be (fs k).s.size 1 ++ (fs k).s.data.toList ++ encs fs (k + 1) (K - (k + 1)), false⟩ = ⟨encs fs (k + 1) (K - (k + 1)), false⟩) := hgt
            clear hk4 hcut hgt
            generalize (fs k).kind = K0 at *
            go_wp2
            go_quiet (fail)
            go_wp2_with (go_at_call 33; refine (text_reads _ q _ rr (by exact hr)).mono ?_; rintro e w2 ⟨rfl, hg2⟩; simp only [Hg.out.1, str_data]; rw [Hg.out.2] at hg2)
            have e2 := (below_drewN hbel nq).trans (hg2.2.below (B := w.heap.size) (by have := hbel.size; simp; omega) (by omega) (fun j hj => by cases hj))
            go_roundw
            case rel => exact ⟨k + 1, by omega, by go_num, hg2.1, e2, fun j hj => by have := hrr j hj; have := hg2.2.size; simp at this; omega⟩
            case measure => simp [intOf]; omega
        · have hcut : cut255 (fs k).s = (fs k).s.extract 0 255 := by unfold cut255; rw [if_neg (by omega)]
          have hsz : ((fs k).s.extract 0 255).size = 255 := cut_size _ 255 (by omega)
          rcases (show (fs k).kind % 4 = 0 ∨ (fs k).kind % 4 = 1 ∨ (fs k).kind % 4 = 2 ∨ (fs k).kind % 4 = 3 by omega) with hk4 | hk4 | hk4 | hk4
          · have Hen : Hid (encs fs k (K - k) = be ((fs k).n % 256).toNat 1 ++ encs fs (k + 1) (K - (k + 1))) := (encs_next fs k K hkK).trans (by rw [enc0 hk4])
            have hK : bits .and .i64 (fs k).kind 3 = 0 := (and3 _).trans hk4
            obtain ⟨x, hx⟩ := Int.eq_ofNat_of_zero_le (show 0 ≤ (fs k).n % 256 by omega)
            have hN : bits .and .i64 (fs k).n 255 = (x : Int) := (and255 _).trans hx
            have hgt := got_be x 1 (encs fs (k + 1) (K - (k + 1))) (by omega)
            rw [hx, Int.toNat_natCast] at Hen
            rw [Hen.out] at hr
            have Hg : Hid (num (RS.got ⟨be x 1 ++ encs fs (k + 1) (K - (k + 1)), false⟩ 1) = x ∧ RS.take ⟨be x 1 ++ encs fs (k + 1) (K - (k + 1)), false⟩ 1 = ⟨encs fs (k + 1) (K - (k + 1)), false⟩) := hgt
            clear hk4 hcut hx hgt
            generalize (fs k).kind = K0 at *
            go_wp2
            go_quiet (fail)
            go_wp2
            go_region_held3 (fun w' => w'.cell? ⟨g, off + k * 4 + 1, none⟩ = some (.int .i64 (fs k).n)) (first | go_keep | exact d5)
              ((go_at_call 27; refine (byte_reads _ q _ rr (by exact hr)).mono ?_; rintro e w2 ⟨rfl, hg2⟩; simp only [Hg.out.1]; rw [Hg.out.2] at hg2; have e2 := (below_drewN (below_drewN hbel nq) 1).trans (hg2.2.below (B := w.heap.size) (by have := hbel.size; simp; omega) (by omega) (fun j hj => by cases hj)); have d5 := (e2.cell (p := ⟨g, off + k * 4 + 1, none⟩) (by exact hg)).trans c1))
            go_wp2
            go_roundw
            case rel => exact ⟨k + 1, by omega, by go_num, hg2.1, e2, fun j hj => by have := hrr j hj; have := hg2.2.size; simp at this; omega⟩
            case measure => simp [intOf]; omega
          · have Hen : Hid (encs fs k (K - k) = be ((fs k).n % 4294967296).toNat 4 ++ encs fs (k + 1) (K - (k + 1))) := (encs_next fs k K hkK).trans (by rw [enc1 hk4])
            have hK : bits .and .i64 (fs k).kind 3 = 1 := (and3 _).trans hk4
            obtain ⟨x, hx⟩ := Int.eq_ofNat_of_zero_le (show 0 ≤ (fs k).n % 4294967296 by omega)
            have hN : bits .and .i64 (fs k).n 4294967295 = (x : Int) := (and32 _).trans hx
            have hgt := got_be x 4 (encs fs (k + 1) (K - (k + 1))) (by rw [p4]; omega)
            rw [hx, Int.toNat_natCast] at Hen
            rw [Hen.out] at hr
            have Hg : Hid (num (RS.got ⟨be x 4 ++ encs fs (k + 1) (K - (k + 1)), false⟩ 4) = x ∧ RS.take ⟨be x 4 ++ encs fs (k + 1) (K - (k + 1)), false⟩ 4 = ⟨encs fs (k + 1) (K - (k + 1)), false⟩) := hgt
            clear hk4 hcut hx hgt
            generalize (fs k).kind = K0 at *
            go_wp2
            go_quiet (fail)
            go_wp2
            go_region_held3 (fun w' => w'.cell? ⟨g, off + k * 4 + 1, none⟩ = some (.int .i64 (fs k).n)) (first | go_keep | exact d5)
              ((go_at_call 29; refine (word_reads _ q _ rr (by exact hr)).mono ?_; rintro e w2 ⟨rfl, hg2⟩; simp only [Hg.out.1]; rw [Hg.out.2] at hg2; have e2 := (below_drewN (below_drewN hbel nq) 1).trans (hg2.2.below (B := w.heap.size) (by have := hbel.size; simp; omega) (by omega) (fun j hj => by cases hj)); have d5 := (e2.cell (p := ⟨g, off + k * 4 + 1, none⟩) (by exact hg)).trans c1))
            go_wp2
            go_roundw
            case rel => exact ⟨k + 1, by omega, by go_num, hg2.1, e2, fun j hj => by have := hrr j hj; have := hg2.2.size; simp at this; omega⟩
            case measure => simp [intOf]; omega
          · have Hen : Hid (encs fs k (K - k) = be (fs k).v.toNat 8 ++ encs fs (k + 1) (K - (k + 1))) := (encs_next fs k K hkK).trans (by rw [enc2 hk4])
            have hK : bits .and .i64 (fs k).kind 3 = 2 := (and3 _).trans hk4
            obtain ⟨x, hx⟩ := Int.eq_ofNat_of_zero_le hv.1
            have hgt := got_be x 8 (encs fs (k + 1) (K - (k + 1))) (by rw [p8]; omega)
            rw [hx] at d2 c2
            rw [hx, Int.toNat_natCast] at Hen
            rw [Hen.out] at hr
            have Hg : Hid (num (RS.got ⟨be x 8 ++ encs fs (k + 1) (K - (k + 1)), false⟩ 8) = x ∧ RS.take ⟨be x 8 ++ encs fs (k + 1) (K - (k + 1)), false⟩ 8 = ⟨encs fs (k + 1) (K - (k + 1)), false⟩) := hgt
            clear hk4 hcut hx hgt hv
            generalize (fs k).kind = K0 at *
            go_wp2
            go_quiet (fail)
            go_wp2
            go_region_held3 (fun w' => w'.cell? ⟨g, off + k * 4 + 2, none⟩ = some (.int .u64 (x : Int))) (first | go_keep | exact d5)
              ((go_at_call 31; refine (long_reads _ q _ rr (by exact hr)).mono ?_; rintro e w2 ⟨rfl, hg2⟩; simp only [Hg.out.1]; rw [Hg.out.2] at hg2; have e2 := (below_drewN (below_drewN hbel nq) 1).trans (hg2.2.below (B := w.heap.size) (by have := hbel.size; simp; omega) (by omega) (fun j hj => by cases hj)); have d5 := (e2.cell (p := ⟨g, off + k * 4 + 2, none⟩) (by exact hg)).trans c2))
            go_wp2
            go_roundw
            case rel => exact ⟨k + 1, by omega, by go_num, hg2.1, e2, fun j hj => by have := hrr j hj; have := hg2.2.size; simp at this; omega⟩
            case measure => simp [intOf]; omega
          · have Hen : Hid (encs fs k (K - k) = be ((fs k).s.extract 0 255).size 1 ++ ((fs k).s.extract 0 255).data.toList ++ encs fs (k + 1) (K - (k + 1))) := (encs_next fs k K hkK).trans (by rw [enc3 hk4, hcut])
            have hK : bits .and .i64 (fs k).kind 3 = 3 := (and3 _).trans hk4
            have hgt := text_pre ((fs k).s.extract 0 255) (encs fs (k + 1) (K - (k + 1))) (by omega)
            rw [Hen.out] at hr
            have Hg : Hid (RS.text ⟨be ((fs k).s.extract 0 255).size 1 ++ ((fs k).s.extract 0 255).data.toList ++ encs fs (k + 1) (K - (k + 1)), false⟩ = ((fs k).s.extract 0 255).data.toList ∧ RS.atext ⟨be ((fs k).s.extract 0 255).size 1 ++ ((fs k).s.extract 0 255).data.toList ++ encs fs (k + 1) (K - (k + 1)), false⟩ = ⟨encs fs (k + 1) (K - (k + 1)), false⟩) := hgt
            clear hk4 hcut hgt
            generalize (fs k).kind = K0 at *
            go_wp2
            go_quiet (fail)
            go_wp2_with (go_at_call 33; refine (text_reads _ q _ rr (by exact hr)).mono ?_; rintro e w2 ⟨rfl, hg2⟩; simp only [Hg.out.1, str_data]; rw [Hg.out.2] at hg2)
            have e2 := (below_drewN hbel nq).trans (hg2.2.below (B := w.heap.size) (by have := hbel.size; simp; omega) (by omega) (fun j hj => by cases hj))
            go_roundw
            case rel => exact ⟨k + 1, by omega, by go_num, hg2.1, e2, fun j hj => by have := hrr j hj; have := hg2.2.size; simp at this; omega⟩
            case measure => simp [intOf]; omega
      · have e : k = K := by omega
        subst e
        rw [Nat.sub_self] at hr
        have hr0 : RdS wr q ⟨[], false⟩ rr := hr
        clear hr
        rcases hK3 with h60 | h60
        · have h60' : ¬ (k : Int) < len := by omega
          go_wp2_with (first
            | (go_at_call 37; refine (left_reads _ q _ rr hr0).mono ?_; rintro e w6 ⟨rfl, rfl⟩)
            | (go_at_call 38; refine (wrong_reads _ q _ rr hr0).mono ?_; rintro e w7 ⟨rfl, rfl⟩)
            | (go_at_call 39; refine (noughts_reads _ q _ rr hr0 hrr (by simp)).mono ?_; rintro e w8 ⟨rfl, b8⟩))
          go_ret
          exact ⟨by simp, hbel.trans (b8.mono hbel.size)⟩
        · have h60' : ¬ (k : Int) < 60 := by omega
          by_cases hlt : (k : Int) < len
          all_goals
            go_wp2_with (first
              | (go_at_call 37; refine (left_reads _ q _ rr hr0).mono ?_; rintro e w6 ⟨rfl, rfl⟩)
              | (go_at_call 38; refine (wrong_reads _ q _ rr hr0).mono ?_; rintro e w7 ⟨rfl, rfl⟩)
              | (go_at_call 39; refine (noughts_reads _ q _ rr hr0 hrr (by simp)).mono ?_; rintro e w8 ⟨rfl, b8⟩))
            go_ret
            exact ⟨by simp, hbel.trans (b8.mono hbel.size)⟩
end Go.Proofs.Ytjcipamnidomkaa
