/- The small case that every statement of layer 2 begins with answers true, and turns nothing that was there. -/
import Derived.Test.YtmemhckkfhlnmaaDevQ
import Derived.Deep.RegionHeld
namespace Go.Proofs.Ytmemhckkfhlnmaa
set_option linter.unusedVariables false
open Go.RowKit
attribute [local go_sem ↓] Go.wp_at_zero Go.wp_at_succ

theorem DS.tick_plain {D : DS} (hd : D.down = false) (ha : D.armed = 0) : D.tick = ({ D with calls := D.calls + 1 }, true) := by
  unfold DS.tick
  rw [if_neg (by rw [hd]; simp), if_pos ha]
theorem DS.write_plain {D : DS} {n : Int} {b : List UInt8} (hd : D.down = false) (ha : D.armed = 0) (h0 : 0 ≤ n) (h1 : n < D.blocks) (hb : b.length = 512) : D.write n b = (({ D with calls := D.calls + 1 } : DS).put n b, 0) := by
  unfold DS.write
  rw [DS.tick_plain hd ha]
  simp only
  rw [if_neg (by simp), if_neg (by omega)]
theorem DS.flush_plain {D : DS} (hd : D.down = false) (ha : D.armed = 0) : D.flush = ({ D with calls := D.calls + 1, fl := D.nw, loose := [] }, 0) := by
  unfold DS.flush
  rw [DS.tick_plain hd ha]
  simp only
  rw [if_neg (by simp)]

/-! The devices of the small case, over any four contents. -/
def dv0 (N : List UInt8) : DS := ⟨4, fun _ => N, fun _ => N, [], false, 0, 0, 0, 0, 0⟩
def dv1 (A N : List UInt8) : DS := ⟨4, fun _ => N, fun k => if k = 0 then A else N, [0], false, 1, 0, 0, 0, 0⟩
def dv2 (A N : List UInt8) : DS := ⟨4, fun k => if k = 0 then A else N, fun k => if k = 0 then A else N, [], false, 2, 0, 0, 0, 0⟩
def dv3 (A B N : List UInt8) : DS := ⟨4, fun k => if k = 0 then A else N, fun k => if k = 0 then B else (if k = 0 then A else N), [0], false, 3, 0, 0, 0, 0⟩
def dv4 (A B C N : List UInt8) : DS := ⟨4, fun k => if k = 0 then A else N, fun k => if k = 1 then C else (if k = 0 then B else (if k = 0 then A else N)), [0, 1], false, 4, 0, 0, 0, 0⟩
def dv5 (A B C N : List UInt8) : DS := (dv4 A B C N).crash 2 0 3
def dv6 (A B C N : List UInt8) : DS := (dv5 A B C N).start
theorem dw0 : DS.new 4 = dv0 nought := by
  unfold DS.new dv0
  simp only [DS.mk.injEq, and_true]
  decide
theorem dw1 (A N : List UInt8) (h : A.length = 512) : (dv0 N).write 0 A = (dv1 A N, 0) := by
  rw [DS.write_plain rfl rfl (by omega) (by unfold dv0; simp only; omega) h]
  rfl
theorem dw2 (A N : List UInt8) : (dv1 A N).flush = (dv2 A N, 0) := by
  rw [DS.flush_plain rfl rfl]
  rfl
theorem dw3 (A B N : List UInt8) (h : B.length = 512) : (dv2 A N).write 0 B = (dv3 A B N, 0) := by
  rw [DS.write_plain rfl rfl (by omega) (by unfold dv2; simp only; omega) h]
  rfl
theorem dw4 (A B C N : List UInt8) (h : C.length = 512) : (dv3 A B N).write 1 C = (dv4 A B C N, 0) := by
  rw [DS.write_plain rfl rfl (by omega) (by unfold dv3; simp only; omega) h]
  rfl
theorem dr5 (A B C N : List UInt8) : (dv5 A B C N).read 0 = ([], 11) := by rfl
theorem dr60 (A B C N : List UInt8) : (dv6 A B C N).read 0 = (B.take 3 ++ A.drop 3, 0) := by rfl
theorem dr61 (A B C N : List UInt8) : (dv6 A B C N).read 1 = (C, 0) := by
  have h : bitOf 2 1 = true := by decide
  have e : (dv4 A B C N).settled 2 0 3 1 = C := by
    unfold DS.settled
    have e1 : (dv4 A B C N).loose = [0, 1] := rfl
    rw [e1, if_pos (by decide), if_neg (by decide), show List.idxOf (1 : Int) [0, 1] = 1 from rfl, if_pos h]
    rfl
  show ((dv4 A B C N).settled 2 0 3 1, (0 : Int)) = (C, 0)
  rw [e]
theorem dr62 (A B C N : List UInt8) : (dv6 A B C N).read 2 = (N, 0) := by rfl
theorem dr64 (A B C N : List UInt8) : (dv6 A B C N).read 4 = ([], 1) := by rfl
theorem dc6 (A B C N : List UInt8) : (dv6 A B C N).calls = 4 ∧ (dv6 A B C N).blocks = 4 := ⟨rfl, rfl⟩

theorem fill_take3 (c : UInt8) : (fill c).take 3 = [c, c, c] := by
  unfold fill rowOf
  rw [← List.map_take, List.take_range, show min 3 512 = 3 from rfl]
  rfl
theorem bbb_str (x : List UInt8) : str ((fill 98).take 3 ++ x) = ⟨#[98, 98, 98]⟩ ++ str x := by
  rw [fill_take3]
  apply Go.WideShapes.bytes_inj
  simp [str]
theorem made_conv {w : World} {g : Nat} {L : List UInt8} {b : Nat} (hl : L.length = 512) (o : w.ownsRow b 5 1 (.slice (some ⟨g, 0, none⟩) L.length L.length) L.length (bc L)) :
    (convert 42 9 (.slice (some ⟨g, 0, none⟩) 512 512)).run Try.prog w = .ok (.string (str L)) w := by
  have := conv_bytes (own_bytes o)
  rw [hl] at this
  exact this
theorem made_conv3 {w : World} {g : Nat} {L : List UInt8} {b : Nat} (hl : L.length = 512) (o : w.ownsRow b 5 1 (.slice (some ⟨g, 0, none⟩) L.length L.length) L.length (bc L)) :
    (convert 42 9 (.slice (some ⟨g, 3, none⟩) 509 509)).run Try.prog w = .ok (.string (str (L.drop 3))) w := by
  have hd : (L.drop 3).length = 509 := by rw [List.length_drop, hl]
  have hb : BytesIn w (.slice (some ⟨g, 3, none⟩) 509 509) (L.drop 3) (some g) := by
    refine ⟨_, 509, by rw [hd], by omega, .inr ⟨g, 3, rfl, rfl, (o.lt g rfl).2, fun j u hu => ?_⟩⟩
    have := o.cells (g := g) rfl (3 + j) u (bc_drop hu)
    rw [add_lit, Nat.zero_add] at this
    exact this
  exact conv_bytes hb

theorem drop_here {w w' : World} {L : List UInt8} (h : Below w.heap.size w w') : w.heap.size ≤ w'.heap.size := h.size
set_option maxHeartbeats 4000000 in
set_option maxRecDepth 100000 in
theorem shown_calls (w : World) : Calls Try.prog 9 #[] w fun e w' => e = .returned (.bool true) ∧ Below w.heap.size w w' := by
  have hfa : (fill 97).length = 512 := fill_length _
  have hfb : (fill 98).length = 512 := fill_length _
  have hfc : (fill 99).length = 512 := fill_length _
  generalize hA : fill 97 = A at *
  generalize hB : fill 98 = B at *
  generalize hC : fill 99 = C at *
  have HA : Hid (fill 97 = A) := hA
  have HB : Hid (fill 98 = B) := hB
  have HC : Hid (fill 99 = C) := hC
  have HAl : Hid (A.length = 512) := hfa
  have HBl : Hid (B.length = 512) := hfb
  have HCl : Hid (C.length = 512) := hfc
  clear hA hB hC hfa hfb hfc
  go_enter Try.func9, Try.ntmps9
  go_wp2_with fail
  refine (newQ w 4 ⟨by omega, by omega⟩).mono ?_
  rintro e w0 ⟨rfl, h0, b0⟩
  rw [dw0] at h0
  generalize w.heap.size + 2 = p at *
  go_wp2_with fail
  refine (filled_calls _ 97).mono ?_
  rintro e w1 ⟨rfl, o1, b1⟩
  rw [HA.out] at o1
  rw [HA.out]
  go_wp2_with fail
  refine (writeQ w0 w1 p (dv0 nought) w.heap.size 0 _ A h0 b1 (made_fresh o1) (by unfold dv0; simp only; omega) (by rw [HAl.out]; exact Nat.le_refl _) ⟨by omega, by omega⟩).mono ?_
  rintro e w2 ⟨rfl, h2, b2⟩
  rw [dw1 A nought HAl.out] at h2
  rw [dw1 A nought HAl.out]
  go_wp2_with fail
  refine (flushQ w2 p (dv1 A nought) w.heap.size h2 (by unfold dv1; simp only; omega)).mono ?_
  rintro e w3 ⟨rfl, h3, b3⟩
  rw [dw2] at h3
  rw [dw2]
  go_wp2_with fail
  refine (filled_calls _ 98).mono ?_
  rintro e w4 ⟨rfl, o4, b4⟩
  rw [HB.out] at o4
  rw [HB.out]
  go_wp2_with fail
  refine (writeQ w3 w4 p (dv2 A nought) w.heap.size 0 _ B h3 b4 (made_fresh o4) (by unfold dv2; simp only; omega) (by rw [HBl.out]; exact Nat.le_refl _) ⟨by omega, by omega⟩).mono ?_
  rintro e w5 ⟨rfl, h5, b5⟩
  rw [dw3 A B nought HBl.out] at h5
  rw [dw3 A B nought HBl.out]
  go_wp2_with fail
  refine (filled_calls _ 99).mono ?_
  rintro e w6 ⟨rfl, o6, b6⟩
  rw [HC.out] at o6
  rw [HC.out]
  go_wp2_with fail
  refine (writeQ w5 w6 p (dv3 A B nought) w.heap.size 1 _ C h5 b6 (made_fresh o6) (by unfold dv3; simp only; omega) (by rw [HCl.out]; exact Nat.le_refl _) ⟨by omega, by omega⟩).mono ?_
  rintro e w7 ⟨rfl, h7, b7⟩
  rw [dw4 A B C nought HCl.out] at h7
  rw [dw4 A B C nought HCl.out]
  have bel7 : Below w.heap.size w w7 := ((((((b0.trans (b1.mono h0.size)).trans b2).trans b3).trans (b4.mono h3.size)).trans b5).trans (b6.mono h5.size)).trans b7
  clear h0 h2 h3 h5 o1 o4 o6 b0 b1 b2 b3 b4 b5 b6 b7
  go_wp2_with fail
  refine (looseQ w7 p (dv4 A B C nought) w.heap.size h7).mono ?_
  rintro e w8 ⟨rfl, rfl⟩
  rw [show ((dv4 A B C nought).loose.length : Int) = 2 from rfl]
  go_wp2_with fail
  refine (crashQ w8 p (dv4 A B C nought) w.heap.size 2 0 3 h7 (by unfold dv4; simp only; omega) ⟨by omega, by omega⟩ ⟨by omega, by omega⟩ ⟨by omega, by omega⟩).mono ?_
  rintro e w9 ⟨rfl, h9, b9⟩
  have h9' : DQ w9 p (dv5 A B C nought) w.heap.size := h9
  go_wp2_with fail
  refine (readQ w9 p (dv5 A B C nought) w.heap.size 0 h9' ⟨by omega, by omega⟩).mono ?_
  rintro e w10 ⟨sv10, rfl, y10, b10⟩
  rw [dr5]
  have h10 := h9'.below b10 (Nat.le_refl _)
  go_wp2_with fail
  refine (startQ w10 p (dv5 A B C nought) w.heap.size h10).mono ?_
  rintro e w11 ⟨rfl, h11, b11⟩
  have h11' : DQ w11 p (dv6 A B C nought) w.heap.size := h11
  go_wp2_with fail
  refine (readQ w11 p (dv6 A B C nought) w.heap.size 0 h11' ⟨by omega, by omega⟩).mono ?_
  rintro e w12 ⟨sv12, rfl, y12, b12⟩
  rw [dr60] at y12
  rw [dr60]
  have h12 := h11'.below b12 (Nat.le_refl _)
  go_wp2_with fail
  refine (readQ w12 p (dv6 A B C nought) w.heap.size 1 h12 ⟨by omega, by omega⟩).mono ?_
  rintro e w13 ⟨sv13, rfl, y13, b13⟩
  rw [dr61] at y13
  rw [dr61]
  have h13 := h12.below b13 (Nat.le_refl _)
  go_wp2_with fail
  refine (readQ w13 p (dv6 A B C nought) w.heap.size 2 h13 ⟨by omega, by omega⟩).mono ?_
  rintro e w14 ⟨sv14, rfl, y14, b14⟩
  rw [dr62] at y14
  rw [dr62]
  have h14 := h13.below b14 (Nat.le_refl _)
  go_wp2_with fail
  refine (readQ w14 p (dv6 A B C nought) w.heap.size 4 h14 ⟨by omega, by omega⟩).mono ?_
  rintro e w15 ⟨sv15, rfl, y15, b15⟩
  rw [dr64]
  have h15 := h14.below b15 (Nat.le_refl _)
  have bel15 : Below w.heap.size w w15 := (((((((bel7.trans b9).trans (b10.mono h9.size)).trans b11).trans (b12.mono h11.size)).trans (b13.mono h12.size)).trans (b14.mono h13.size)).trans (b15.mono h14.size))
  have z12 := ((y12.later b13 (Nat.le_refl _)).later b14 (Nat.le_refl _)).later b15 (Nat.le_refl _)
  have z13 := (y13.later b14 (Nat.le_refl _)).later b15 (Nat.le_refl _)
  have z14 := y14.later b15 (Nat.le_refl _)
  clear h7 h9 h9' h10 h11 h11' h12 h13 h14 bel7 b9 b10 b11 b12 b13 b14 b15 y10 y12 y13 y14 y15
  have HX : Hid (str (B.take 3 ++ A.drop 3) = ⟨#[98, 98, 98]⟩ ++ str (A.drop 3)) := by
    rw [← HB.out]
    exact bbb_str (A.drop 3)
  have HS : Hid (∀ w' : World, Below w15.heap.size w15 w' → ((convert 42 9 sv12).run Try.prog w' = .ok (.string (⟨#[98, 98, 98]⟩ ++ str (A.drop 3))) w' ∧ (convert 42 9 sv13).run Try.prog w' = .ok (.string (str C)) w' ∧ (convert 42 9 sv14).run Try.prog w' = .ok (.string (str nought)) w')) := fun w' hb => by
    refine ⟨?_, conv_got (z13.later hb (Nat.le_refl _)), conv_got (z14.later hb (Nat.le_refl _))⟩
    rw [← HX.out]
    exact conv_got (z12.later hb (Nat.le_refl _))
  clear z12 z13 z14
  have hsz : (str (A.drop 3)).size = 509 := by rw [str_size, List.length_drop, HAl.out]
  go_wp2_with fail
  go_region_held (fun w' => (convert 42 9 sv12).run Try.prog w' = .ok (.string (⟨#[98, 98, 98]⟩ ++ str (A.drop 3))) w' ∧ (convert 42 9 sv13).run Try.prog w' = .ok (.string (str C)) w' ∧ (convert 42 9 sv14).run Try.prog w' = .ok (.string (str nought)) w')
    (first | exact HS.out _ ⟨rfl, rfl, rfl, Nat.le_refl _, fun _ _ => rfl⟩ | exact d16 | exact d17 | exact d18 | fail)
    (first
      | (go_at_call_of 30 (Value.int IntKind.u8 97); refine (filled_calls _ 97).mono ?_; rintro e w16 ⟨rfl, o16, b16⟩; rw [fill_length]; rw [HA.out] at o16; have hcv16 : (convert 42 9 (.slice (some ⟨w15.heap.size, 3, none⟩) 509 509)).run Try.prog w16 = .ok (.string (str (A.drop 3))) w16 := made_conv3 HAl.out o16; have B16 : Below w15.heap.size w15 w16 := ⟨b16.os, b16.tape, b16.output, b16.size, b16.block⟩; have d16 := HS.out w16 B16)
      | (go_at_call_of 30 (Value.int IntKind.u8 99); refine (filled_calls _ 99).mono ?_; rintro e w17 ⟨rfl, o17, b17⟩; rw [fill_length]; rw [HC.out] at o17; have hcv17 : (convert 42 9 (.slice (some ⟨w16.heap.size, 0, none⟩) 512 512)).run Try.prog w17 = .ok (.string (str C)) w17 := made_conv HCl.out o17; have B17 : Below w15.heap.size w15 w17 := B16.trans (Below.mono b17 B16.size); have d17 := HS.out w17 B17)
      | (go_at_call 25; refine (noughts_calls _).mono ?_; rintro e w18 ⟨rfl, b18⟩; have B18 : Below w15.heap.size w15 w18 := B17.trans (Below.mono b18 B17.size); have d18 := HS.out w18 B18; have h18 := h15.below B18 (Nat.le_refl _))
      | (go_at_call 29; refine (countQ _ p _ _ h18).mono ?_; rintro e w19 ⟨rfl, rfl⟩; rw [(dc6 A B C nought).1])
      | (go_at_call 28; refine (blocksQ _ p _ _ h18).mono ?_; rintro e w20 ⟨rfl, rfl⟩; rw [(dc6 A B C nought).2]))
  all_goals
    go_wp2
    go_ret
    refine ⟨by simp, bel15.trans (B18.mono (by have := bel15.size; omega))⟩
end Go.Proofs.Ytmemhckkfhlnmaa
