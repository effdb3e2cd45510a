/- For DevicePlays: the landed device and the document's own side by side; the statement's inner calls. -/
import Derived.Test.YtmemhckkfhlnmaaRefJ
namespace Go.Proofs.Ytmemhckkfhlnmaa
set_option linter.unusedVariables false
open Go.RowKit
attribute [local go_sem ↓] Go.wp_at_zero Go.wp_at_succ

/-- Two devices of one state: the landed one at p, the document's at q; M: what they may write, S: what they hang on. -/
structure Pair (w : World) (p : Nat) (D : DS) (q : Nat) (E : DS) (M S : Nat → Prop) : Prop where
  ex : ∃ r T lv ov ns, Dev w p D r T ∧ RD w q E lv ov ns ∧ (∀ k, M k ↔ Mine p r k ∨ RMine q lv ov k) ∧ (∀ k, S k ↔ M k ∨ T k) ∧ (∀ k, RMine q lv ov k → ¬ Mine p r k ∧ ¬ T k)
theorem Pair.lt {w : World} {p q : Nat} {D E : DS} {M S : Nat → Prop} (h : Pair w p D q E M S) {k : Nat} (hk : S k) : k < w.heap.size := by
  obtain ⟨r, T, lv, ov, ns, h1, h2, h3, h4, h5⟩ := h.ex
  rcases (h4 k).1 hk with e | e
  · rcases (h3 k).1 e with e | e
    · exact h1.mine_lt e
    · exact h2.mine_lt e
  · exact (h1.tt k e).1
theorem Pair.sub {w : World} {p q : Nat} {D E : DS} {M S : Nat → Prop} (h : Pair w p D q E M S) {k : Nat} (hk : M k) : S k := by
  obtain ⟨r, T, lv, ov, ns, h1, h2, h3, h4, h5⟩ := h.ex
  exact (h4 k).2 (.inl hk)
theorem Pair.kept {w w' : World} {p q : Nat} {D E : DS} {M S : Nat → Prop} (h : Pair w p D q E M S) (hk : ∀ k, S k → w'.heap[k]? = w.heap[k]?) : Pair w' p D q E M S := by
  obtain ⟨r, T, lv, ov, ns, h1, h2, h3, h4, h5⟩ := h.ex
  refine ⟨r, T, lv, ov, ns, h1.kept fun k e => hk k ((h4 k).2 ?_), h2.kept fun k e => hk k ((h4 k).2 (.inl ((h3 k).2 (.inr e)))), h3, h4, h5⟩
  rcases e with e | e
  · exact .inl ((h3 k).2 (.inl e))
  · exact .inr e
theorem Pair.below {w w' : World} {p q : Nat} {D E : DS} {M S : Nat → Prop} (h : Pair w p D q E M S) {B : Nat} (hb : Below B w w') (hB : w.heap.size ≤ B) : Pair w' p D q E M S :=
  h.kept fun k hk => hb.block k (by have := h.lt hk; omega)
/-- What a call on a pair comes to. -/
def PGo (w : World) (M S : Nat → Prop) (p : Nat) (D : DS) (q : Nat) (E : DS) (w' : World) : Prop := ∃ M' S', Pair w' p D q E M' S' ∧ Fr M w w' ∧ Near' M M' w.heap.size ∧ Near' S S' w.heap.size
theorem PGo.refl {w : World} {p q : Nat} {D E : DS} {M S : Nat → Prop} (h : Pair w p D q E M S) : PGo w M S p D q E w := ⟨M, S, h, Fr.refl _ _, fun _ hk => .inl hk, fun _ hk => .inl hk⟩
theorem PGo.trans {w w1 w' : World} {p q : Nat} {D' E' : DS} {M S M1 S1 : Nat → Prop} (h1 : Fr M w w1) (h2 : Near' M M1 w.heap.size) (h3 : Near' S S1 w.heap.size) (h : PGo w1 M1 S1 p D' q E' w') : PGo w M S p D' q E' w' := by
  obtain ⟨M', S', g1, g2, g3, g4⟩ := h
  exact ⟨M', S', g1, h1.trans g2 h2, h2.trans g3 h1.size, h3.trans g4 h1.size⟩
theorem PGo.then_ {w w1 w' : World} {p q : Nat} {D1 E1 D' E' : DS} {M S : Nat → Prop} (h : PGo w M S p D1 q E1 w1) (k : ∀ M1 S1, Pair w1 p D1 q E1 M1 S1 → PGo w1 M1 S1 p D' q E' w') : PGo w M S p D' q E' w' := by
  obtain ⟨M1, S1, g1, g2, g3, g4⟩ := h
  exact PGo.trans g2 g3 g4 (k M1 S1 g1)
theorem PGo.later {w w1 w' : World} {p q : Nat} {D E : DS} {M S : Nat → Prop} (h : PGo w M S p D q E w1) (hb : Below w1.heap.size w1 w') : PGo w M S p D q E w' := by
  obtain ⟨M1, S1, g1, g2, g3, g4⟩ := h
  exact ⟨M1, S1, g1.below hb (Nat.le_refl _), ⟨hb.os.trans g2.os, hb.tape.trans g2.tape, hb.output.trans g2.output, Nat.le_trans g2.size hb.size, fun k hk hn => (hb.block k (by have := g2.size; omega)).trans (g2.block k hk hn)⟩, g3, g4⟩
theorem Pair.dev {w w' : World} {p q : Nat} {D E D' : DS} {M S : Nat → Prop} {r : DR} {T : Nat → Prop} {lv ov : Value} {ns : List Int} (h1 : Dev w p D r T) (h2 : RD w q E lv ov ns) (h3 : ∀ k, M k ↔ Mine p r k ∨ RMine q lv ov k) (h4 : ∀ k, S k ↔ M k ∨ T k) (h5 : ∀ k, RMine q lv ov k → ¬ Mine p r k ∧ ¬ T k) (g : DGo p w r T D' w') : PGo w M S p D' q E w' := by
  obtain ⟨r', U, g1, g2, g3, g4⟩ := g
  refine ⟨fun k => Mine p r' k ∨ RMine q lv ov k, fun k => (Mine p r' k ∨ RMine q lv ov k) ∨ U k, ⟨r', U, lv, ov, ns, g1, h2.kept fun k hk => g2.block k (h2.mine_lt hk) (h5 k hk).1, fun k => Iff.rfl, fun k => Iff.rfl, fun k hk => ?_⟩, ⟨g2.os, g2.tape, g2.output, g2.size, fun k hk hn => g2.block k hk (fun e => hn ((h3 k).2 (.inl e)))⟩, fun k hk => ?_, fun k hk => ?_⟩
  · have hl := h2.mine_lt hk
    refine ⟨fun e => ?_, fun e => ?_⟩
    · rcases g3 k e with e | e
      · exact (h5 k hk).1 e
      · omega
    · rcases g4 k e with e | e
      · exact (h5 k hk).2 e
      · omega
  · rcases hk with e | e
    · rcases g3 k e with e | e
      · exact .inl ((h3 k).2 (.inl e))
      · exact .inr e
    · exact .inl ((h3 k).2 (.inr e))
  · rcases hk with (e | e) | e
    · rcases g3 k e with e | e
      · exact .inl ((h4 k).2 (.inl ((h3 k).2 (.inl e))))
      · exact .inr e
    · exact .inl ((h4 k).2 (.inl ((h3 k).2 (.inr e))))
    · rcases g4 k e with e | e
      · exact .inl ((h4 k).2 (.inr e))
      · exact .inr e
theorem Pair.ref {w w' : World} {p q : Nat} {D E E' : DS} {M S : Nat → Prop} {r : DR} {T : Nat → Prop} {lv ov : Value} {ns : List Int} (h1 : Dev w p D r T) (h2 : RD w q E lv ov ns) (h3 : ∀ k, M k ↔ Mine p r k ∨ RMine q lv ov k) (h4 : ∀ k, S k ↔ M k ∨ T k) (h5 : ∀ k, RMine q lv ov k → ¬ Mine p r k ∧ ¬ T k) (g : RGo q w lv ov E' w') : PGo w M S p D q E' w' := by
  obtain ⟨lv', ov', ns', g1, g2, g3⟩ := g
  refine ⟨fun k => Mine p r k ∨ RMine q lv' ov' k, fun k => (Mine p r k ∨ RMine q lv' ov' k) ∨ T k, ⟨r, T, lv', ov', ns', h1.kept fun k hk => g2.block k ?_ ?_, g1, fun k => Iff.rfl, fun k => Iff.rfl, fun k hk => ?_⟩, ⟨g2.os, g2.tape, g2.output, g2.size, fun k hk hn => g2.block k hk (fun e => hn ((h3 k).2 (.inr e)))⟩, fun k hk => ?_, fun k hk => ?_⟩
  · rcases hk with e | e
    · exact h1.mine_lt e
    · exact (h1.tt k e).1
  · intro e
    rcases hk with e' | e'
    · exact (h5 k e).1 e'
    · exact (h5 k e).2 e'
  · rcases g3 k hk with e | e
    · exact h5 k e
    · exact ⟨fun e' => by have := h1.mine_lt e'; omega, fun e' => by have := (h1.tt k e').1; omega⟩
  · rcases hk with e | e
    · exact .inl ((h3 k).2 (.inl e))
    · rcases g3 k e with e | e
      · exact .inl ((h3 k).2 (.inr e))
      · exact .inr e
  · rcases hk with (e | e) | e
    · exact .inl ((h4 k).2 (.inl ((h3 k).2 (.inl e))))
    · rcases g3 k e with e | e
      · exact .inl ((h4 k).2 (.inl ((h3 k).2 (.inr e))))
      · exact .inr e
    · exact .inl ((h4 k).2 (.inr e))
/-! Calls on a pair. -/
theorem flushP (w : World) (p q : Nat) (D E : DS) (M S : Nat → Prop) (h : Pair w p D q E M S) (hcl : D.calls ≤ 999999) : Calls Try.prog 20 #[.pointer (some ⟨p, 0, none⟩)] w fun e w' => e = .returned (.int .i64 D.flush.2) ∧ PGo w M S p D.flush.1 q E w' := by
  obtain ⟨r, T, lv, ov, ns, h1, h2, h3, h4, h5⟩ := h.ex
  exact (flush_calls w p D r T h1 hcl).mono fun e w' ⟨e1, e2⟩ => ⟨e1, Pair.dev h1 h2 h3 h4 h5 e2⟩
theorem crashP (w : World) (p q : Nat) (D E : DS) (M S : Nat → Prop) (mask torn bytes : Int) (h : Pair w p D q E M S) (hcl : D.calls ≤ 1000000) (hm : 0 ≤ mask ∧ mask ≤ 18446744073709551615) (ht : I64 torn) (hy : I64 bytes) :
    Calls Try.prog 16 #[.pointer (some ⟨p, 0, none⟩), .int .u64 mask, .int .i64 torn, .int .i64 bytes] w fun e w' => e = .returned (.tuple #[]) ∧ PGo w M S p (D.crash mask torn bytes) q E w' := by
  obtain ⟨r, T, lv, ov, ns, h1, h2, h3, h4, h5⟩ := h.ex
  exact (crash_calls w p D r T mask torn bytes h1 hcl hm ht hy).mono fun e w' ⟨e1, e2⟩ => ⟨e1, Pair.dev h1 h2 h3 h4 h5 e2⟩
theorem startP (w : World) (p q : Nat) (D E : DS) (M S : Nat → Prop) (h : Pair w p D q E M S) : Calls Try.prog 18 #[.pointer (some ⟨p, 0, none⟩)] w fun e w' => e = .returned (.tuple #[]) ∧ PGo w M S p D.start q E w' := by
  obtain ⟨r, T, lv, ov, ns, h1, h2, h3, h4, h5⟩ := h.ex
  exact (start_calls w p D r T h1).mono fun e w' ⟨e1, e2⟩ => ⟨e1, Pair.dev h1 h2 h3 h4 h5 e2⟩
theorem armP (w : World) (p q : Nat) (D E : DS) (M S : Nat → Prop) (n mask torn bytes : Int) (h : Pair w p D q E M S) (hn : I64 n) (hm : 0 ≤ mask ∧ mask ≤ 18446744073709551615) (ht : I64 torn) (hy : I64 bytes) :
    Calls Try.prog 27 #[.pointer (some ⟨p, 0, none⟩), .int .i64 n, .int .u64 mask, .int .i64 torn, .int .i64 bytes] w fun e w' => e = .returned (.tuple #[]) ∧ PGo w M S p (D.arm n mask torn bytes) q E w' := by
  obtain ⟨r, T, lv, ov, ns, h1, h2, h3, h4, h5⟩ := h.ex
  exact (arm_calls w p D r T n mask torn bytes h1 hn hm ht hy).mono fun e w' ⟨e1, e2⟩ => ⟨e1, Pair.dev h1 h2 h3 h4 h5 e2⟩
theorem writeP (w : World) (p q : Nat) (D E : DS) (M S : Nat → Prop) (n : Int) (sv : Value) (b : List UInt8) (g : Nat) (h : Pair w p D q E M S) (hsv : BytesIn w sv b (some g)) (hg : ¬ S g) (hcl : D.calls ≤ 999999) (hbl : b.length ≤ 512) (hn : I64 n) :
    Calls Try.prog 21 #[.pointer (some ⟨p, 0, none⟩), .int .i64 n, sv] w fun e w' => e = .returned (.int .i64 (D.write n b).2) ∧ PGo w M S p (D.write n b).1 q E w' := by
  obtain ⟨r, T, lv, ov, ns, h1, h2, h3, h4, h5⟩ := h.ex
  exact (write_calls w p D r T n sv b (some g) h1 hsv (fun k e hm => by cases e; exact hg ((h4 g).2 (.inl ((h3 g).2 (.inl hm))))) hcl hbl hn).mono fun e w' ⟨e1, e2⟩ => ⟨e1, Pair.dev h1 h2 h3 h4 h5 e2⟩
theorem rflushP (w : World) (p q : Nat) (D E : DS) (M S : Nat → Prop) (h : Pair w p D q E M S) (hcl : E.calls ≤ 999999) : Calls Try.prog 34 #[.pointer (some ⟨q, 0, none⟩)] w fun e w' => e = .returned (.int .i64 E.flush.2) ∧ PGo w M S p D q E.flush.1 w' := by
  obtain ⟨r, T, lv, ov, ns, h1, h2, h3, h4, h5⟩ := h.ex
  exact (rflush_calls w q E lv ov ns h2 hcl).mono fun e w' ⟨e1, e2⟩ => ⟨e1, Pair.ref h1 h2 h3 h4 h5 e2⟩
theorem rcrashP (w : World) (p q : Nat) (D E : DS) (M S : Nat → Prop) (mask torn bytes : Int) (h : Pair w p D q E M S) (hcl : E.calls ≤ 1000000) (hm : 0 ≤ mask ∧ mask ≤ 18446744073709551615) :
    Calls Try.prog 17 #[.pointer (some ⟨q, 0, none⟩), .int .u64 mask, .int .i64 torn, .int .i64 bytes] w fun e w' => e = .returned (.tuple #[]) ∧ PGo w M S p D q (E.crash mask torn bytes) w' := by
  obtain ⟨r, T, lv, ov, ns, h1, h2, h3, h4, h5⟩ := h.ex
  exact (rcrash_calls w q E lv ov ns mask torn bytes h2 hcl hm).mono fun e w' ⟨e1, e2⟩ => ⟨e1, Pair.ref h1 h2 h3 h4 h5 e2⟩
theorem rstartP (w : World) (p q : Nat) (D E : DS) (M S : Nat → Prop) (h : Pair w p D q E M S) : Calls Try.prog 19 #[.pointer (some ⟨q, 0, none⟩)] w fun e w' => e = .returned (.tuple #[]) ∧ PGo w M S p D q E.start w' := by
  obtain ⟨r, T, lv, ov, ns, h1, h2, h3, h4, h5⟩ := h.ex
  exact (rstart_calls w q E lv ov ns h2).mono fun e w' ⟨e1, e2⟩ => ⟨e1, Pair.ref h1 h2 h3 h4 h5 e2⟩
theorem rarmP (w : World) (p q : Nat) (D E : DS) (M S : Nat → Prop) (n mask torn bytes : Int) (h : Pair w p D q E M S) (hn : I64 n) (hm : 0 ≤ mask ∧ mask ≤ 18446744073709551615) (ht : I64 torn) (hy : I64 bytes) :
    Calls Try.prog 35 #[.pointer (some ⟨q, 0, none⟩), .int .i64 n, .int .u64 mask, .int .i64 torn, .int .i64 bytes] w fun e w' => e = .returned (.tuple #[]) ∧ PGo w M S p D q (E.arm n mask torn bytes) w' := by
  obtain ⟨r, T, lv, ov, ns, h1, h2, h3, h4, h5⟩ := h.ex
  exact (rarm_calls w q E lv ov ns n mask torn bytes h2 hn hm ht hy).mono fun e w' ⟨e1, e2⟩ => ⟨e1, Pair.ref h1 h2 h3 h4 h5 e2⟩
theorem rwriteP (w : World) (p q : Nat) (D E : DS) (M S : Nat → Prop) (n : Int) (b : List UInt8) (h : Pair w p D q E M S) (hcl : E.calls ≤ 999999) :
    Calls Try.prog 33 #[.pointer (some ⟨q, 0, none⟩), .int .i64 n, .string (str b)] w fun e w' => e = .returned (.int .i64 (E.write n b).2) ∧ PGo w M S p D q (E.write n b).1 w' := by
  obtain ⟨r, T, lv, ov, ns, h1, h2, h3, h4, h5⟩ := h.ex
  exact (rwrite_calls w q E lv ov ns n b h2 hcl).mono fun e w' ⟨e1, e2⟩ => ⟨e1, Pair.ref h1 h2 h3 h4 h5 e2⟩
theorem DS.Ok.read_len {D : DS} (h : D.Ok) (n : Int) : (D.read n).1.length ≤ 512 := by
  unfold DS.read
  split
  · simp
  · split
    · simp
    · simp only [h.ln n, Nat.le_refl]
set_option maxHeartbeats 1000000 in
theorem reads_calls (w : World) (p q : Nat) (D : DS) (M S : Nat → Prop) (n : Int) (h : Pair w p D q D M S) (hcl : D.calls ≤ 1000000) (hn : I64 n) :
    Calls Try.prog 36 #[.pointer (some ⟨p, 0, none⟩), .pointer (some ⟨q, 0, none⟩), .int .i64 n] w fun e w' => e = .returned (.bool true) ∧ Below w.heap.size w w' := by
  obtain ⟨r, T, lv, ov, ns, h1, h2, _⟩ := h.ex
  have hR := readQ w p D 0 n ⟨r, T, h1, fun _ _ => Nat.zero_le _, Nat.zero_le _⟩ hn
  have HRR : Hid (∀ w1, Below w.heap.size w w1 → Calls Try.prog 47 #[.pointer (some ⟨q, 0, none⟩), .int .i64 n] w1 fun e w' => e = .returned (.tuple #[.string (str (D.read n).1), .int .i64 (D.read n).2]) ∧ Below w1.heap.size w1 w') := fun w1 hb => rread_calls w1 q D lv ov ns n (h2.below hb (Nat.le_refl _)) hcl
  have hX := h1.ok.read_len n
  clear h h1 h2
  generalize (D.read n).1 = X at *
  generalize (D.read n).2 = er at *
  go_enter Try.func36, Try.ntmps36
  go_wp2_with (first | (go_at_call 26; refine hR.mono ?_; rintro e w1 ⟨sv, rfl, y1, b1⟩; have hRR := HRR.out w1 b1) | (go_at_call 47; refine hRR.mono ?_; rintro e w2 ⟨rfl, b2⟩; have hcv := conv_got (y1.later b2 (Nat.le_refl _))))
  have hown : w2.ownsRow w.heap.size 5 1 sv X.length (bc X) := by
    rcases y1.later b2 (Nat.le_refl _) with ⟨rfl, rfl⟩ | ⟨g, cap, rfl, g1, g2⟩
    · exact World.ownsRow_nil _ _ _ _
    · exact g2
  have B2 : Below w.heap.size w w2 := b1.trans (b2.mono b1.size)
  obtain ⟨sa, sc, rfl⟩ := own_form3 hown
  clear y1 b1 b2 hcv hRR hR HRR
  generalize hXL : X.length = L at *
  clear hXL
  generalize bc X = xs0 at *
  go_loopw [12] (fun i wr => ∃ (k : Nat) (xs : List Value), k ≤ L ∧ i = .int .i64 (k : Int) ∧ wr.ownsRow w.heap.size 5 1 (.slice sa L sc) L xs ∧ Below w.heap.size w wr)
    (fun i _ => L - (intOf i).toNat)
  case atStart => exact ⟨0, _, Nat.zero_le _, rfl, hown, B2⟩
  case round =>
    obtain ⟨k, xs, hk, rfl, ho, hbel⟩ := hrel
    clear hown B2
    by_cases hk5 : k < L
    · obtain ⟨g, c', e⟩ := row_somewhere ho (by omega)
      cases e
      have hc := ho.cellAt k (by omega)
      have hfz := ho.frozenAt k
      have hxl : k < xs.length := by have := ho.1; omega
      rw [List.getElem?_eq_getElem hxl] at hc
      have hki : (k : Int) < (L : Int) := by omega
      have hst := ho.stored k (.int .u8 63)
      have R1 := hst.1
      have R2 := hbel.grown hst.2 hbel.size (fun i hi => by cases hi; exact (ho.lt g rfl).1)
      clear hst ho hbel
      go_wp2
      go_roundw
      case rel => exact ⟨k + 1, _, by omega, by go_num, R1, R2⟩
      case measure => simp [intOf]; omega
    · have hki : ¬ ((k : Int) < (L : Int)) := by omega
      clear ho
      go_wp2
      go_ret
      exact ⟨by simp, hbel⟩
end Go.Proofs.Ytmemhckkfhlnmaa
