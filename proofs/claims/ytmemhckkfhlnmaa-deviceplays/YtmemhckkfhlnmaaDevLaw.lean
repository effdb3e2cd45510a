/- The blocks that the statements of layer 2 are about: content, filled, Noughts: what each call comes to. -/
import Derived.Test.YtmemhckkfhlnmaaPackRd
namespace Go.Proofs.Ytmemhckkfhlnmaa
set_option linter.unusedVariables false
open Go.RowKit

/-- A row that a call has made and given back: its bytes are L; nothing that was there has turned. -/
def Made (w : World) (L : List UInt8) (e : Ending) (w' : World) : Prop :=
  e = .returned (.slice (some ⟨w.heap.size, 0, none⟩) L.length L.length) ∧ w'.ownsRow w.heap.size 5 1 (.slice (some ⟨w.heap.size, 0, none⟩) L.length L.length) L.length (bc L) ∧ Below w.heap.size w w'

theorem cells_all (L : List UInt8) (xs : List Value) (hl : xs.length = L.length) (h : ∀ j (hj : j < L.length), xs[j]? = some (.int .u8 ((L[j]).toNat : Int))) : xs = bc L := by
  apply List.ext_getElem?
  intro j
  by_cases hj : j < L.length
  · rw [h j hj, bc_at L j hj]
  · rw [List.getElem?_eq_none (by omega), List.getElem?_eq_none (by rw [bc_length]; omega)]

/-- A row of m bytes by their places. -/
def rowOf (m : Nat) (f : Nat → UInt8) : List UInt8 := (List.range m).map f
theorem rowOf_length (m : Nat) (f : Nat → UInt8) : (rowOf m f).length = m := by simp [rowOf]
theorem rowOf_at (m : Nat) (f : Nat → UInt8) (j : Nat) (h : j < (rowOf m f).length) : (rowOf m f)[j] = f j := by simp [rowOf]
/-- The i-th byte of a block's content. -/
def contV (n i : Int) : Int := (n + n / 256 % 256 * (i % 256) + i / 256) % 256
theorem contV_byte (n i : Int) : ((UInt8.ofNat (contV n i).toNat).toNat : Int) = contV n i := by
  unfold contV
  simp
  omega
def cont (n : Int) : List UInt8 := rowOf 512 fun i => UInt8.ofNat (contV n i).toNat
def fill (c : UInt8) : List UInt8 := rowOf 512 fun _ => c
theorem fill_at (c : UInt8) (j : Nat) (h : j < (fill c).length) : (fill c)[j] = c := rowOf_at 512 (fun _ => c) j h
theorem cont_at (n : Int) (j : Nat) (h : j < (cont n).length) : (cont n)[j] = UInt8.ofNat (contV n j).toNat := rowOf_at 512 (fun i => UInt8.ofNat (contV n i).toNat) j h
theorem cont_length (n : Int) : (cont n).length = 512 := rowOf_length _ _
theorem fill_length (c : UInt8) : (fill c).length = 512 := rowOf_length _ _

set_option maxHeartbeats 400000 in
theorem filled_calls (w : World) (c : UInt8) :
    Calls Try.prog 30 #[.int .u8 (c.toNat : Int)] w fun e w' => Made w (fill c) e w' := by
  obtain ⟨i0, hi, hz0, hz1, hz2⟩ := info_parts Try.info_u8
  go_enter Try.func30, Try.ntmps30
  go_wp2_with (at_make; refine wpList_make_full _ rfl (.const (.int .i64 512)) (.const (.int .i64 512)) 42 rfl w.heap.size 5 i0 (.int .u8 0) 1 Try.underlying42 hi hz0 hz1 .i64 .i64 512 512 512 rfl rfl rfl rfl (by rw [hz2]; omega) (by unfold maxLen; omega) (Nat.le_refl _) ?_; intro w1 hown hgrow)
  have hb1 : Below w.heap.size w w1 := (Below.refl _ _).grown hgrow (Nat.le_refl _) (fun k hk => by cases hk)
  clear hgrow
  go_loopw [4] (fun i wr => ∃ (k : Nat) (xs : List Value), k ≤ 512 ∧ i = .int .i64 (k : Int) ∧ wr.ownsRow w.heap.size 5 1 (.slice (some ⟨w.heap.size, 0, none⟩) 512 512) 512 xs ∧ Hid (∀ j : Nat, j < k → xs[j]? = some (.int .u8 ((c.toNat : Int)))) ∧ Below w.heap.size w wr)
    (fun i _ => 512 - (intOf i).toNat)
  case atStart => exact ⟨0, _, Nat.zero_le _, rfl, hown, fun j h => by omega, hb1⟩
  case round =>
    obtain ⟨k, xs, hk, rfl, ho, HX, hbel⟩ := hrel
    clear hown hb1
    by_cases hk5 : k < 512
    · have hc := ho.cellAt k (by omega)
      have hfz := ho.frozenAt k
      have hxl : k < xs.length := by have := ho.1; omega
      rw [List.getElem?_eq_getElem hxl] at hc
      have hki : (k : Int) < 512 := by omega
      have hst := ho.stored k (.int .u8 ((c.toNat : Int)))
      have R1 := hst.1
      have R2 := hbel.grown hst.2 hbel.size (fun i hi => by cases hi; exact Nat.le_refl _)
      clear hst
      go_wp2
      go_roundw
      case rel =>
        refine ⟨k + 1, _, by omega, by go_num, R1, fun j hj => ?_, R2⟩
        by_cases e : j = k
        · subst e
          rw [List.getElem?_set_self hxl]
        · rw [List.getElem?_set_ne (by omega)]
          exact HX.out j (by omega)
      case measure => simp [intOf]; omega
    · have e : k = 512 := by omega
      subst e
      have hL := fill_length c
      have hxe := cells_all (fill c) xs (by have := ho.1; omega) (fun j hj => by rw [HX.out j (by omega)]; rw [fill_at])
      rw [hxe] at ho
      have R : Made w (fill c) (.returned (.slice (some ⟨w.heap.size, 0, none⟩) 512 512)) wr := by
        unfold Made
        rw [hL]
        exact ⟨rfl, ho, hbel⟩
      clear ho HX hL hxe
      go_wp2
      go_ret
      exact R
set_option maxHeartbeats 400000 in
theorem content_calls (w : World) (n : Int) :
    Calls Try.prog 22 #[.int .i64 n] w fun e w' => Made w (cont n) e w' := by
  obtain ⟨i0, hi, hz0, hz1, hz2⟩ := info_parts Try.info_u8
  go_enter Try.func22, Try.ntmps22
  go_wp2_with (at_make; refine wpList_make_full _ rfl (.const (.int .i64 512)) (.const (.int .i64 512)) 42 rfl w.heap.size 5 i0 (.int .u8 0) 1 Try.underlying42 hi hz0 hz1 .i64 .i64 512 512 512 rfl rfl rfl rfl (by rw [hz2]; omega) (by unfold maxLen; omega) (Nat.le_refl _) ?_; intro w1 hown hgrow)
  have hb1 : Below w.heap.size w w1 := (Below.refl _ _).grown hgrow (Nat.le_refl _) (fun k hk => by cases hk)
  clear hgrow
  go_loopw [4] (fun i wr => ∃ (k : Nat) (xs : List Value), k ≤ 512 ∧ i = .int .i64 (k : Int) ∧ wr.ownsRow w.heap.size 5 1 (.slice (some ⟨w.heap.size, 0, none⟩) 512 512) 512 xs ∧ Hid (∀ j : Nat, j < k → xs[j]? = some (.int .u8 (contV n j))) ∧ Below w.heap.size w wr)
    (fun i _ => 512 - (intOf i).toNat)
  case atStart => exact ⟨0, _, Nat.zero_le _, rfl, hown, fun j h => by omega, hb1⟩
  case round =>
    obtain ⟨k, xs, hk, rfl, ho, HX, hbel⟩ := hrel
    clear hown hb1
    by_cases hk5 : k < 512
    · have hc := ho.cellAt k (by omega)
      have hfz := ho.frozenAt k
      have hxl : k < xs.length := by have := ho.1; omega
      rw [List.getElem?_eq_getElem hxl] at hc
      have hki : (k : Int) < 512 := by omega
      have hst := ho.stored k (.int .u8 (contV n k))
      have R1 := hst.1
      have R2 := hbel.grown hst.2 hbel.size (fun i hi => by cases hi; exact Nat.le_refl _)
      clear hst
      go_wp2
      go_roundw
      case rel =>
        refine ⟨k + 1, _, by omega, by go_num, R1, fun j hj => ?_, R2⟩
        by_cases e : j = k
        · subst e
          rw [List.getElem?_set_self hxl]
        · rw [List.getElem?_set_ne (by omega)]
          exact HX.out j (by omega)
      case measure => simp [intOf]; omega
    · have e : k = 512 := by omega
      subst e
      have hL := cont_length n
      have hxe := cells_all (cont n) xs (by have := ho.1; omega) (fun j hj => by rw [HX.out j (by omega)]; rw [cont_at, contV_byte])
      rw [hxe] at ho
      have R : Made w (cont n) (.returned (.slice (some ⟨w.heap.size, 0, none⟩) 512 512)) wr := by
        unfold Made
        rw [hL]
        exact ⟨rfl, ho, hbel⟩
      clear ho HX hL hxe
      go_wp2
      go_ret
      exact R

/-- A block that was never written. -/
def nought : List UInt8 := fill 0
theorem made_noughts {w1 : World} {b g : Nat} (h : w1.ownsRow b 5 1 (.slice (some ⟨g, 0, none⟩) 512 512) 512 (madeCells (Value.int .u8 0).cells (512 * 1)).toList) : (convert 42 9 (.slice (some ⟨g, 0, none⟩) 512 512)).run Try.prog w1 = .ok (.string (str nought)) w1 := by
  have hL : nought.length = 512 := fill_length 0
  have e : (madeCells (Value.int .u8 0).cells (512 * 1)).toList = bc nought := by
    refine cells_all nought _ ?_ (fun j hj => ?_)
    · rw [hL]; exact h.1
    · rw [show (Value.int .u8 0).cells = #[Value.int .u8 0] from rfl, toList_madeCells_one, List.getElem?_replicate, if_pos (by omega)]
      have := fill_at 0 j hj
      unfold nought
      rw [this]
      rfl
  rw [e] at h
  have h2 : w1.ownsRow b 5 1 (.slice (some ⟨g, 0, none⟩) nought.length 512) nought.length (bc nought) := by rw [hL]; exact h
  have := conv_bytes (own_bytes h2)
  rw [hL] at this
  exact this
set_option maxHeartbeats 400000 in
theorem noughts_calls (w : World) :
    Calls Try.prog 25 #[] w fun e w' => e = .returned (.string (str nought)) ∧ Below w.heap.size w w' := by
  obtain ⟨i0, hi, hz0, hz1, hz2⟩ := info_parts Try.info_u8
  go_enter Try.func25, Try.ntmps25
  go_wp2_with (at_make; refine wpList_make_full _ rfl (.const (.int .i64 512)) (.const (.int .i64 512)) 42 rfl w.heap.size 5 i0 (.int .u8 0) 1 Try.underlying42 hi hz0 hz1 .i64 .i64 512 512 512 rfl rfl rfl rfl (by rw [hz2]; omega) (by unfold maxLen; omega) (Nat.le_refl _) ?_; intro w1 hown hgrow; have hcv : (convert 42 9 (.slice (some ⟨w.heap.size, 0, none⟩) 512 512)).run Try.prog w1 = .ok (.string (str nought)) w1 := made_noughts hown)
  go_ret
  exact ⟨rfl, (Below.refl _ _).grown hgrow (Nat.le_refl _) (fun k hk => by cases hk)⟩
end Go.Proofs.Ytmemhckkfhlnmaa
