/- The small case that every statement begins with answers true, and turns nothing that was there. -/
import Derived.Test.YtjcipamnidomkabPackRd
namespace Go.Proofs.Ytjcipamnidomkab
set_option linter.unusedVariables false
open Go.RowKit

theorem sh1 : WS.byte ⟨10, [], false⟩ 5 = ⟨10, [5], false⟩ := by rfl
theorem sh2 : WS.text ⟨10, [5], false⟩ ⟨#[97, 98]⟩ = ⟨10, [5, 2, 97, 98], false⟩ := by rfl
theorem sh3 : WS.fill ⟨10, [5, 2, 97, 98], false⟩ 6 = ⟨10, [5, 2, 97, 98, 0, 0], false⟩ := by rfl
theorem sh4 : num (RS.got ⟨[5, 2, 97, 98, 0, 0], false⟩ 1) = 5 ∧ RS.take ⟨[5, 2, 97, 98, 0, 0], false⟩ 1 = ⟨[2, 97, 98, 0, 0], false⟩ := ⟨by rfl, by rfl⟩
theorem sh5 : RS.text ⟨[2, 97, 98, 0, 0], false⟩ = [97, 98] ∧ RS.atext ⟨[2, 97, 98, 0, 0], false⟩ = ⟨[0, 0], false⟩ := ⟨by rfl, by rfl⟩

theorem BytesIn.below {w w' : World} {B : Nat} {sv : Value} {L : List UInt8} {r : Option Nat} (h : BytesIn w sv L r) (hb : Below B w w') (hr : ∀ k, r = some k → k < B) : BytesIn w' sv L r := h.kept fun k hk => hb.block k (hr k hk)
theorem BytesIn.touch {w w' : World} {p : Nat} {sv : Value} {L : List UInt8} {r r' : Option Nat} (h : BytesIn w sv L r) (ht : Touch p r' w w') (hr : ∀ k, r = some k → k < w.heap.size ∧ k ≠ p ∧ r' ≠ some k) : BytesIn w' sv L r :=
  h.kept fun k hk => ht.block k (hr k hk).1 (hr k hk).2.1 (hr k hk).2.2
theorem WrS.below {w w' : World} {p : Nat} {s : WS} {r : Option Nat} (h : WrS w p s r) {B : Nat} (hb : Below B w w') (hB : w.heap.size ≤ B) : WrS w' p s r :=
  h.kept (hb.block _ (by have := h.lt.1; omega)) (fun k hk => hb.block _ (by have := (h.lt.2 k hk).2; omega))

theorem RdS.below {w w' : World} {p : Nat} {s : RS} {r : Option Nat} (h : RdS w p s r) {B : Nat} (hb : Below B w w') (hp : p < B) (hr : ∀ k, r = some k → k < B) : RdS w' p s r :=
  h.kept (hb.block _ hp) (fun k hk => hb.block _ (hr k hk))
theorem ss1 : str [97, 98] = ⟨#[97, 98]⟩ := rfl
theorem ss2 : str [5, 2, 97, 98, 0, 0] = ⟨#[5, 2, 97, 98, 0, 0]⟩ := rfl
theorem ss3 : (!(⟨[0, 0], false⟩ : RS).bad && (⟨[0, 0], false⟩ : RS).l.all (· == 0)) = true := rfl
theorem Near.ge {r r' : Option Nat} {n B : Nat} (h : Near r r' n) (hr : ∀ k, r = some k → B ≤ k) (hn : B ≤ n) : ∀ k, r' = some k → B ≤ k := fun k hk => by
  rcases h k hk with e | e
  · exact hr k e
  · omega

set_option maxHeartbeats 800000 in
theorem shown_calls (w : World) : Calls Try.prog 4 #[] w fun e w' => e = .returned (.bool true) ∧ Below w.heap.size w w' := by
  go_enter Try.func4, Try.ntmps4
  go_wp2_with (first
    | (go_at_call 5; refine (new_calls _ 10 (by omega) (by omega)).mono ?_; rintro e w0 ⟨rfl, h0, b0⟩)
    | (go_at_call 12; refine (byte_calls _ w.heap.size 5 _ none h0 (by omega)).mono ?_; rintro e w1 ⟨rfl, r1, h1, t1, n1⟩; rw [sh1] at h1)
    | (go_at_call 6; refine (text_calls _ w.heap.size ⟨#[97, 98]⟩ _ r1 h1 (by decide)).mono ?_; rintro e w2 ⟨rfl, r2, h2, t2, n2⟩; rw [sh2] at h2)
    | (go_at_call 13; refine (fill_calls _ w.heap.size 6 _ r2 h2 (by omega)).mono ?_; rintro e w3 ⟨rfl, r3, h3, t3, n3⟩; rw [sh3] at h3)
    | (go_at_call 7; refine (done_ok _ w.heap.size _ r3 h3 rfl).mono ?_; rintro e w4 ⟨a4, c4, rfl, o4, b4⟩)
    | (go_at_call 8; refine (read_calls _ _ [5, 2, 97, 98, 0, 0] _ (own_bytes o4) (by decide)).mono ?_; rintro e w5 ⟨q, r5, rfl, h5, b5, q5, k5⟩)
    | (go_at_call 14; refine (byte_reads _ q _ r5 h5).mono ?_; rintro e w6 ⟨rfl, h6, t6⟩; rw [sh4.2] at h6; simp only [sh4.1])
    | (go_at_call 9; refine (text_reads _ q _ r5 h6).mono ?_; rintro e w7 ⟨rfl, h7, t7⟩; rw [sh5.2] at h7; simp only [sh5.1, ss1]; have hcv : (convert 26 9 (.slice a4 6 c4)).run Try.prog w7 = .ok (.string ⟨#[5, 2, 97, 98, 0, 0]⟩) w7 := conv_bytes ((((own_bytes o4).below b5 (fun k hk => (o4.lt k hk).2)).touch t6 (fun k hk => ⟨by have := (o4.lt k hk).2; have := b5.size; omega, by have := (o4.lt k hk).2; omega, by simp⟩)).touch t7 (fun k hk => ⟨by have := (o4.lt k hk).2; have := b5.size; have := t6.size; omega, by have := (o4.lt k hk).2; omega, by simp⟩)))
    | (go_at_call 15; refine (noughts_reads _ q _ r5 h7 (fun k hk => by have := (k5 k hk).2; have := t6.size; have := t7.size; omega) (by decide)).mono ?_; rintro e w8 ⟨rfl, b8⟩; have h8 := h7.below b8 h7.lt (fun k hk => by have := (k5 k hk).2; have := t6.size; have := t7.size; omega))
    | (go_at_call 11; refine (left_reads _ q _ r5 h8).mono ?_; rintro e w9 ⟨rfl, rfl⟩)
    | (go_at_call 10; refine (wrong_reads _ q _ r5 h8).mono ?_; rintro e w10 ⟨rfl, rfl⟩))
  go_ret
  refine ⟨by simp, ?_⟩
  have s1 := t1.size
  have s2 := t2.size
  have s3 := t3.size
  have s4 := b4.size
  have s5 := b5.size
  have s6 := t6.size
  have s7 := t7.size
  have s0 : w.heap.size ≤ w0.heap.size := b0.size
  have g1 := n1.ge (B := w.heap.size) (fun k hk => by cases hk) s0
  have g2 := n2.ge g1 (by omega)
  exact (((((((b0.trans (t1.below s0 (Nat.le_refl _) (fun k hk => by cases hk))).trans (t2.below (by omega) (Nat.le_refl _) g1)).trans (t3.below (by omega) (Nat.le_refl _) g2)).trans (b4.mono (by omega))).trans (b5.mono (by omega))).trans (t6.below (by omega) (by omega) (fun k hk => by cases hk))).trans (t7.below (by omega) (by omega) (fun k hk => by cases hk))).trans (b8.mono (by omega))
end Go.Proofs.Ytjcipamnidomkab
