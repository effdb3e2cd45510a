/- What a statement's walk holds in memory: superblocks, blocks of bytes, snapshots. -/
import Derived.Test.YtnpohjbhfoebcaaSupS
namespace Go.Proofs.Ytnpohjbhfoebcaa
set_option linter.unusedVariables false
open Go.RowKit

theorem and_ones (n : Int) (m j : Nat) (hm : (BitVec.ofInt 64 (m : Int)).toNat = 2 ^ j - 1) : (BitVec.ofInt 64 n &&& BitVec.ofInt 64 (m : Int)).toNat = (n % ((2 ^ 64 : Nat) : Int)).toNat % 2 ^ j := by
  rw [BitVec.toNat_and, BitVec.toNat_ofInt, hm, Nat.and_two_pow_sub_one_eq_mod]
theorem and1 (n : Int) : bits .and .i64 n 1 = n % 2 := by
  show IntKind.i64.wrap ((BitVec.ofInt 64 n &&& BitVec.ofInt 64 ((1 : Nat) : Int)).toNat : Nat) = n % 2
  rw [and_ones n 1 1 (by decide), IntKind.wrap_i64]
  omega
theorem and3 (n : Int) : bits .and .i64 n 3 = n % 4 := by
  show IntKind.i64.wrap ((BitVec.ofInt 64 n &&& BitVec.ofInt 64 ((3 : Nat) : Int)).toNat : Nat) = n % 4
  rw [and_ones n 3 2 (by decide), IntKind.wrap_i64]
  omega
theorem and511 (n : Int) : bits .and .i64 n 511 = n % 512 := by
  show IntKind.i64.wrap ((BitVec.ofInt 64 n &&& BitVec.ofInt 64 ((511 : Nat) : Int)).toNat : Nat) = n % 512
  rw [and_ones n 511 9 (by decide), IntKind.wrap_i64]
  omega
theorem and65535 (n : Int) : bits .and .i64 n 65535 = n % 65536 := by
  show IntKind.i64.wrap ((BitVec.ofInt 64 n &&& BitVec.ofInt 64 ((65535 : Nat) : Int)).toNat : Nat) = n % 65536
  rw [and_ones n 65535 16 (by decide), IntKind.wrap_i64]
  omega
theorem and24 (n : Int) : bits .and .i64 n 16777215 = n % 16777216 := by
  show IntKind.i64.wrap ((BitVec.ofInt 64 n &&& BitVec.ofInt 64 ((16777215 : Nat) : Int)).toNat : Nat) = n % 16777216
  rw [and_ones n 16777215 24 (by decide), IntKind.wrap_i64]
  omega

/-- Bytes that lie below the heap's end. -/
def Byt (x : World) (sv : Value) (L : List UInt8) : Prop := ∃ r, BytesIn x sv L r ∧ ∀ k, r = some k → k < x.heap.size
/-- Snapshots that do. -/
def Sna (x : World) (sv : Value) (l : List Snp) : Prop := ∃ r, SnapsIn x sv l r ∧ ∀ k, r = some k → k < x.heap.size
structure Held (w x : World) (us : List (Nat × Sup × Value)) (bs : List (Value × List UInt8)) (ss : List (Value × List Snp)) : Prop where
  bel : Below w.heap.size w x
  u : ∀ e ∈ us, HasU x e.1 e.2.1 e.2.2
  b : ∀ e ∈ bs, Byt x e.1 e.2
  s : ∀ e ∈ ss, Sna x e.1 e.2
theorem Byt.below {x y : World} {sv : Value} {L : List UInt8} (h : Byt x sv L) (b : Below x.heap.size x y) : Byt y sv L := by
  obtain ⟨r, h1, h2⟩ := h
  exact ⟨r, h1.kept fun k hk => b.block k (h2 k hk), fun k hk => by have := h2 k hk; have := b.size; omega⟩
theorem Sna.below {x y : World} {sv : Value} {l : List Snp} (h : Sna x sv l) (b : Below x.heap.size x y) : Sna y sv l := by
  obtain ⟨r, h1, h2⟩ := h
  exact ⟨r, h1.below b h2, fun k hk => by have := h2 k hk; have := b.size; omega⟩
theorem Sna.one {x : World} {sv : Value} {l : List Snp} (h : Sna x sv l) : sv.oneCell' = true := by
  obtain ⟨r, h1, h2⟩ := h
  exact h1.one
theorem Byt.nil (x : World) : Byt x (.slice none 0 0) [] := ⟨none, bytes_nil _ _, fun k hk => by cases hk⟩
theorem Sna.nil (x : World) : Sna x (.slice none 0 0) [] := ⟨none, ⟨none, 0, rfl, Nat.le_refl _, Nat.zero_le _, .inl rfl⟩, fun k hk => by cases hk⟩
section
variable {w x y : World} {us : List (Nat × Sup × Value)} {bs : List (Value × List UInt8)} {ss : List (Value × List Snp)}
theorem Held.start (w : World) : Held w w [] [] [] := ⟨Below.refl _ _, (fun _ h => by cases h), (fun _ h => by cases h), (fun _ h => by cases h)⟩
theorem Held.called (h : Held w x us bs ss) (b : Below x.heap.size x y) : Held w y us bs ss :=
  ⟨h.bel.trans (b.mono h.bel.size), fun e he => (h.u e he).below b (h.u e he).lt, fun e he => (h.b e he).below b, fun e he => (h.s e he).below b⟩
theorem Held.addU (h : Held w x us bs ss) {b : Nat} {S : Sup} {sv : Value} (hu : HasU x b S sv) : Held w x ((b, S, sv) :: us) bs ss :=
  ⟨h.bel, fun e he => by rcases List.mem_cons.1 he with rfl | he; exact hu; exact h.u e he, h.b, h.s⟩
theorem Held.addB (h : Held w x us bs ss) {sv : Value} {L : List UInt8} (hb : Byt x sv L) : Held w x us ((sv, L) :: bs) ss :=
  ⟨h.bel, h.u, fun e he => by rcases List.mem_cons.1 he with rfl | he; exact hb; exact h.b e he, h.s⟩
theorem Held.addS (h : Held w x us bs ss) {sv : Value} {l : List Snp} (hb : Sna x sv l) : Held w x us bs ((sv, l) :: ss) :=
  ⟨h.bel, h.u, h.b, fun e he => by rcases List.mem_cons.1 he with rfl | he; exact hb; exact h.s e he⟩
/-- Behind the store into a block that is new. -/
theorem Held.stored (h : Held w x us bs ss) {o : Obj} {S : Sup} {sv : Value} (hu : HasU y x.heap.size S sv) (t : Touch x.heap.size none (x.alloc o) y) : Held w y ((x.heap.size, S, sv) :: us) bs ss :=
  (h.called (step_below (Below.refl _ x) o t)).addU hu
theorem Held.made (h : Held w x us bs ss) (S : Sup) (sv : Value) (hs : sv.oneCell' = true) : Held w (x.alloc (.cells (uc S sv) 24)) ((x.heap.size, S, sv) :: us) bs ss :=
  (h.called ((Below.refl _ x).alloc (Nat.le_refl _) _)).addU (HasU.new x S sv _ rfl hs)
end
theorem of_byt {x : World} {sv : Value} {L : List UInt8} (h : Byt x sv L) : Calls Try.prog 12 #[sv] x (OfTo x (ofP L)) := by
  obtain ⟨r, h1, h2⟩ := h
  exact of_calls x sv L r h1 h2
theorem choose_byt {x : World} {av bv : Value} {A B : List UInt8} (h : Byt x av A) (h' : Byt x bv B) : Calls Try.prog 10 #[av, bv] x (OfTo x (chooseP A B)) := by
  obtain ⟨r, h1, h2⟩ := h
  obtain ⟨r', h1', h2'⟩ := h'
  exact choose_calls x av bv A B r r' h1 h2 h1' h2'
theorem right_sna {x : World} {S : Sup} {sv : Value} (h : Sna x sv S.l) : Calls Try.prog 7 #[uv S sv] x fun e w' => e = .returned (.bool (right S)) ∧ Below x.heap.size x w' := by
  obtain ⟨r, h1, h2⟩ := h
  exact right_calls x sv S r h1 h2
/-- What Bytes gives. -/
theorem bytes_sna {x : World} {S : Sup} {sv : Value} (h : Sna x sv S.l) : Calls Try.prog 9 #[uv S sv] x fun e w' => Below x.heap.size x w' ∧ ((right S = false ∧ e = .returned (.tuple #[.slice none 0 0, .int .i64 1])) ∨ (right S = true ∧ ∃ a c, e = .returned (.tuple #[.slice a 512 c, .int .i64 0]) ∧ Byt w' (.slice a 512 c) (enc S))) := by
  obtain ⟨r, h1, h2⟩ := h
  refine (bytes_calls x sv S r h1 h2).mono ?_
  rintro e w' ⟨b, h | ⟨h, a, c, rfl, ho⟩⟩
  · exact ⟨b, .inl h⟩
  · exact ⟨b, .inr ⟨h, a, c, rfl, _, own_in ho (Below.refl _ _)⟩⟩
/-- What OfTo gives, for the store of it. -/
theorem OfTo.sna {w x : World} {o : Option Sup} {e : Ending} (h : OfTo w o e x) : ∃ sv, e = .returned (.tuple #[uv (o.getD nilU) sv, .int .i64 (code o)]) ∧ Sna x sv (o.getD nilU).l ∧ Below w.heap.size w x := by
  obtain ⟨sv, r, h1, h2, h3, h4⟩ := h
  exact ⟨sv, h1, ⟨r, h2, fun k hk => (h3 k hk).2⟩, h4⟩
end Go.Proofs.Ytnpohjbhfoebcaa
