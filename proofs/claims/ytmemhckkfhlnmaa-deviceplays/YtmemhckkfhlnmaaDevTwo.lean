/- Two devices that go on by themselves: what is done to one leaves the other as it was. -/
import Derived.Test.YtmemhckkfhlnmaaDevOps4
namespace Go.Proofs.Ytmemhckkfhlnmaa
set_option linter.unusedVariables false
open Go.RowKit

def D2 (w : World) (p : Nat) (D : DS) (q : Nat) (E : DS) (B : Nat) : Prop :=
  ∃ r T s U, Dev w p D r T ∧ Dev w q E s U ∧ (∀ k, Mine p r k → B ≤ k ∧ ¬ Mine q s k ∧ ¬ U k) ∧ (∀ k, Mine q s k → B ≤ k ∧ ¬ T k) ∧ B ≤ w.heap.size
theorem D2.swap {w : World} {p q : Nat} {D E : DS} {B : Nat} (h : D2 w p D q E B) : D2 w q E p D B := by
  obtain ⟨r, T, s, U, h1, h2, h3, h4, h5⟩ := h
  exact ⟨s, U, r, T, h2, h1, fun k hk => ⟨(h4 k hk).1, fun hm => (h3 k hm).2.1 hk, (h4 k hk).2⟩, fun k hk => ⟨(h3 k hk).1, (h3 k hk).2.2⟩, h5⟩
theorem D2.one {w : World} {p q : Nat} {D E : DS} {B : Nat} (h : D2 w p D q E B) : DQ w p D B := by
  obtain ⟨r, T, s, U, h1, h2, h3, h4, h5⟩ := h
  exact ⟨r, T, h1, fun k hk => (h3 k hk).1, h5⟩
theorem D2.two {w : World} {p q : Nat} {D E : DS} {B : Nat} (h : D2 w p D q E B) : DQ w q E B := h.swap.one
theorem D2.size {w : World} {p q : Nat} {D E : DS} {B : Nat} (h : D2 w p D q E B) : B ≤ w.heap.size := h.one.size
theorem D2.below {w w' : World} {p q : Nat} {D E : DS} {B C : Nat} (h : D2 w p D q E B) (hb : Below C w w') (hC : w.heap.size ≤ C) : D2 w' p D q E B := by
  obtain ⟨r, T, s, U, h1, h2, h3, h4, h5⟩ := h
  exact ⟨r, T, s, U, h1.below hb hC, h2.below hb hC, h3, h4, Nat.le_trans h5 hb.size⟩
theorem D2.step {w w' : World} {p q : Nat} {D E D' : DS} {B : Nat} {r s : DR} {T U : Nat → Prop} (h1 : Dev w p D r T) (h2 : Dev w q E s U) (h3 : ∀ k, Mine p r k → B ≤ k ∧ ¬ Mine q s k ∧ ¬ U k) (h4 : ∀ k, Mine q s k → B ≤ k ∧ ¬ T k) (h5 : B ≤ w.heap.size) (g : DGo p w r T D' w') : D2 w' p D' q E B ∧ Below B w w' := by
  obtain ⟨r', T', g1, g2, g3, g4⟩ := g
  refine ⟨⟨r', T', s, U, g1, h2.kept (fun k hk => ?_), fun k hk => ?_, fun k hk => ⟨(h4 k hk).1, fun ht => ?_⟩, Nat.le_trans h5 g2.size⟩, g2.below h5 (fun k hk => (h3 k hk).1)⟩
  · rcases hk with hk | hk
    · exact g2.block k (h2.mine_lt hk) (fun hm => (h3 k hm).2.1 hk)
    · exact g2.block k (h2.tt k hk).1 (fun hm => (h3 k hm).2.2 hk)
  · rcases g3 k hk with e | e
    · exact h3 k e
    · exact ⟨by omega, fun hm => by have := h2.mine_lt hm; omega, fun hm => by have := (h2.tt k hm).1; omega⟩
  · rcases g4 k ht with e | e
    · exact (h4 k hk).2 e
    · have := h2.mine_lt hk; omega
theorem write2 (w0 w : World) (p q : Nat) (D E : DS) (B : Nat) (n : Int) (sv : Value) (b : List UInt8) (h : D2 w0 p D q E B) (hb : Below w0.heap.size w0 w) (hsv : Fresh w sv b w0.heap.size) (hcl : D.calls ≤ 999999) (hbl : b.length ≤ 512) (hn : I64 n) :
    Calls Try.prog 21 #[.pointer (some ⟨p, 0, none⟩), .int .i64 n, sv] w fun e w' => e = .returned (.int .i64 (D.write n b).2) ∧ D2 w' p (D.write n b).1 q E B ∧ Below B w w' := by
  obtain ⟨r, T, s, U, h1, h2, h3, h4, h5⟩ := h
  obtain ⟨g, hg, hB⟩ := hsv
  exact (write_calls w p D r T n sv b (some g) (h1.below hb (Nat.le_refl _)) hB (fun k e hm => by cases e; have := h1.mine_lt hm; omega) hcl hbl hn).mono fun e w' ⟨e1, e2⟩ => ⟨e1, D2.step (h1.below hb (Nat.le_refl _)) (h2.below hb (Nat.le_refl _)) h3 h4 (Nat.le_trans h5 hb.size) e2⟩
theorem flush2 (w : World) (p q : Nat) (D E : DS) (B : Nat) (h : D2 w p D q E B) (hcl : D.calls ≤ 999999) :
    Calls Try.prog 20 #[.pointer (some ⟨p, 0, none⟩)] w fun e w' => e = .returned (.int .i64 D.flush.2) ∧ D2 w' p D.flush.1 q E B ∧ Below B w w' := by
  obtain ⟨r, T, s, U, h1, h2, h3, h4, h5⟩ := h
  exact (flush_calls w p D r T h1 hcl).mono fun e w' ⟨e1, e2⟩ => ⟨e1, D2.step h1 h2 h3 h4 h5 e2⟩
theorem crash2 (w : World) (p q : Nat) (D E : DS) (B : Nat) (mask torn bytes : Int) (h : D2 w p D q E B) (hcl : D.calls ≤ 1000000) (hm : 0 ≤ mask ∧ mask ≤ 18446744073709551615) (ht : I64 torn) (hy : I64 bytes) :
    Calls Try.prog 16 #[.pointer (some ⟨p, 0, none⟩), .int .u64 mask, .int .i64 torn, .int .i64 bytes] w fun e w' => e = .returned (.tuple #[]) ∧ D2 w' p (D.crash mask torn bytes) q E B ∧ Below B w w' := by
  obtain ⟨r, T, s, U, h1, h2, h3, h4, h5⟩ := h
  exact (crash_calls w p D r T mask torn bytes h1 hcl hm ht hy).mono fun e w' ⟨e1, e2⟩ => ⟨e1, D2.step h1 h2 h3 h4 h5 e2⟩
theorem start2 (w : World) (p q : Nat) (D E : DS) (B : Nat) (h : D2 w p D q E B) :
    Calls Try.prog 18 #[.pointer (some ⟨p, 0, none⟩)] w fun e w' => e = .returned (.tuple #[]) ∧ D2 w' p D.start q E B ∧ Below B w w' := by
  obtain ⟨r, T, s, U, h1, h2, h3, h4, h5⟩ := h
  exact (start_calls w p D r T h1).mono fun e w' ⟨e1, e2⟩ => ⟨e1, D2.step h1 h2 h3 h4 h5 e2⟩
theorem arm2 (w : World) (p q : Nat) (D E : DS) (B : Nat) (n mask torn bytes : Int) (h : D2 w p D q E B) (hn : I64 n) (hm : 0 ≤ mask ∧ mask ≤ 18446744073709551615) (ht : I64 torn) (hy : I64 bytes) :
    Calls Try.prog 27 #[.pointer (some ⟨p, 0, none⟩), .int .i64 n, .int .u64 mask, .int .i64 torn, .int .i64 bytes] w fun e w' => e = .returned (.tuple #[]) ∧ D2 w' p (D.arm n mask torn bytes) q E B ∧ Below B w w' := by
  obtain ⟨r, T, s, U, h1, h2, h3, h4, h5⟩ := h
  exact (arm_calls w p D r T n mask torn bytes h1 hn hm ht hy).mono fun e w' ⟨e1, e2⟩ => ⟨e1, D2.step h1 h2 h3 h4 h5 e2⟩
theorem clone2 (w : World) (p : Nat) (D : DS) (B : Nat) (h : DQ w p D B) (hcl : D.calls ≤ 1000000) :
    Calls Try.prog 13 #[.pointer (some ⟨p, 0, none⟩)] w fun e w' => ∃ q, e = .returned (.pointer (some ⟨q, 0, none⟩)) ∧ D2 w' p D q D B ∧ Below w.heap.size w w' := by
  obtain ⟨r, T, h1, h2, h3⟩ := h
  refine (devclone_calls w p D r T h1 hcl).mono fun e w' ⟨p', r', e1, e2, e3, e4⟩ => ⟨p', e1, ⟨r, T, r', T, h1.below e4 (Nat.le_refl _), e2, fun k hk => ?_, fun k hk => ?_, Nat.le_trans h3 e4.size⟩, e4⟩
  · have := h1.mine_lt hk
    refine ⟨h2 k hk, fun hm => by have := e3 k hm; omega, fun ht => ?_⟩
    have ht' := (h1.tt k ht).2
    rcases hk with e | e | e | e
    · exact ht'.1 e
    · exact ht'.2.1 e
    · exact ht'.2.2.1 e
    · exact ht'.2.2.2 e
  · have := e3 k hk
    exact ⟨by omega, fun ht => by have := (h1.tt k ht).1; omega⟩
/-- A device that is up and not armed. -/
structure Plain (D : DS) (c : Int) : Prop where
  ok : D.Ok
  bl : D.blocks = 8
  dn : D.down = false
  ar : D.armed = 0
  cl : D.calls ≤ c
theorem Plain.first : Plain (DS.new 8) 0 := by
  refine ⟨DS.new_ok 8, ?_, ?_, ?_, ?_⟩ <;> rw [new8]
  exact Int.le_refl _
theorem Plain.write {D : DS} {c : Int} (h : Plain D c) (n : Int) (b : List UInt8) (h0 : 0 ≤ n) (h1 : n < 8) (hb : b.length = 512) : (D.write n b).2 = 0 ∧ Plain (D.write n b).1 (c + 1) := by
  have hok := h.ok.write n b
  have hbl := h.bl
  rw [DS.write_plain h.dn h.ar h0 (by omega) hb] at hok ⊢
  exact ⟨rfl, hok, h.bl, h.dn, h.ar, by have := h.cl; show D.calls + 1 ≤ c + 1; omega⟩
end Go.Proofs.Ytmemhckkfhlnmaa
