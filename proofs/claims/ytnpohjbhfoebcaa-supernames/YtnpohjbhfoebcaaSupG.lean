/- Bytes; what reading a block holds in memory; the closures that read. -/
import Derived.Test.YtnpohjbhfoebcaaSupF
namespace Go.Proofs.Ytnpohjbhfoebcaa
set_option linter.unusedVariables false
open Go.RowKit

/-- What Bytes comes to. -/
def BytesTo (w : World) (S : Sup) (e : Ending) (w' : World) : Prop :=
  Below w.heap.size w w' ∧ ((right S = false ∧ e = .returned (.tuple #[.slice none 0 0, .int .i64 1])) ∨ (right S = true ∧ ∃ a c, e = .returned (.tuple #[.slice a 512 c, .int .i64 0]) ∧ w'.ownsRow w.heap.size 5 1 (.slice a 512 c) 512 (bc (enc S))))
set_option maxHeartbeats 4000000 in
theorem bytes_calls (w : World) (sv : Value) (S : Sup) (r : Option Nat) (h : SnapsIn w sv S.l r) (hr : ∀ k, r = some k → k < w.heap.size) :
    Calls Try.prog 9 #[uv S sv] w (BytesTo w S) := by
  have h1 : HasU (w.alloc (.cells (uc S sv) 24)) w.heap.size S sv := HasU.new w S sv _ rfl h.one
  have i1 : SnapsIn (w.alloc (.cells (uc S sv) 24)) sv S.l r := h.kept fun k hk => Below.heap_alloc _ _ _ (hr k hk)
  have r1 : ∀ k, r = some k → k < (w.alloc (.cells (uc S sv) 24)).heap.size := fun k hk => by have := hr k hk; simp; omega
  have b1 : Below w.heap.size w (w.alloc (.cells (uc S sv) 24)) := (Below.refl _ w).alloc (Nat.le_refl _) _
  have H1 : Hid (HasU (w.alloc (.cells (uc S sv) 24)) w.heap.size S sv) := h1
  have I1 : Hid (SnapsIn (w.alloc (.cells (uc S sv) 24)) sv S.l r) := i1
  clear h h1 i1
  cases hS : right S with
  | false =>
    have HS : Hid (right S = false) := hS
    go_enter Try.func9, Try.ntmps9
    go_wp2_with (first
      | (refine load_sup _ rfl w.heap.size rfl rfl _ _ H1.out ?_)
      | (go_at_call 7; refine (right_calls _ sv S r I1.out r1).mono ?_; rintro e w2 ⟨rfl, b2⟩; rw [hS]))
    go_ret2
    exact ⟨b1.trans (b2.mono (by simp)), .inl ⟨HS.out, rfl⟩⟩
  | true =>
    have HS : Hid (right S = true) := hS
    have hl : S.l.length ≤ 8 := (fits hS).len
    go_enter Try.func9, Try.ntmps9
    go_upto_region 3 with (first
      | (refine load_sup _ rfl w.heap.size rfl rfl _ _ H1.out ?_)
      | (go_at_call 7; refine (right_calls _ sv S r I1.out r1).mono ?_; rintro e w2 ⟨rfl, b2⟩; rw [hS]))
    have H2 : Hid (HasU w2 w.heap.size S sv) := H1.out.below b2 (by simp)
    have I2 : Hid (SnapsIn w2 sv S.l r) := I1.out.below b2 r1
    have B2 : Below w.heap.size w w2 := b1.trans (b2.mono (by simp))
    have s2 := b2.size
    have r2 : ∀ k, r = some k → k < w2.heap.size := fun k hk => by have := r1 k hk; omega
    clear H1 I1 b2 r1 b1
    go_wp2_with (first
      | (refine load_sup _ rfl w.heap.size rfl rfl _ _ H2.out ?_)
      | (go_at_call 16; refine (fieldsOf_calls _ sv S r I2.out r2 hl).mono ?_; rintro e w3 ⟨rfl, b3⟩)
      | (go_at_call 15; refine (write_calls _ S HS.out).mono ?_; rintro e w4 ⟨a, c, rfl, ho, b4⟩))
    go_ret2
    have hs := B2.size
    have h3 := b3.size
    exact ⟨B2.trans ((b3.mono hs).trans (b4.mono (by omega))), .inr ⟨HS.out, a, c, rfl, own_lower ho (by omega)⟩⟩

/-- A number that is read as an int. -/
def i64 (n : Nat) : Int := wrap64 (n : Int)
def longAt (w : World) (nb p : Nat) : Prop := w.heap[nb]? = some (.cells #[.func (Fn.func 33) #[.pointer (some ⟨p, 0, none⟩)] #[]] 67 (0, 0))
set_option maxHeartbeats 1000000 in
theorem numberOf_calls (w : World) (p : Nat) :
    Calls Try.prog 32 #[.func (Fn.func 33) #[.pointer (some ⟨p, 0, none⟩)] #[]] w fun e w' => e = .returned (.func (Fn.func 43) #[] #[.pointer (some ⟨w.heap.size, 0, none⟩)]) ∧ longAt w' w.heap.size p ∧ Below w.heap.size w w' ∧ w'.heap.size = w.heap.size + 1 := by
  go_enter Try.func32, Try.ntmps32
  go_wp2
  go_ret
  exact ⟨rfl, heap_alloc_new _ _, (Below.refl _ _).alloc (Nat.le_refl _) _, by simp⟩
set_option maxHeartbeats 1000000 in
theorem long_of (w : World) (p nb : Nat) (s : RS) (r : Option Nat) (h : RdS w p s r) (hn : longAt w nb p) :
    Calls Try.prog 43 #[.pointer (some ⟨nb, 0, none⟩)] w fun e w' => e = .returned (.int .i64 (i64 (num (s.got 8)))) ∧ RdG p w r (s.take 8) w' := by
  have cq := cell_of_one hn
  clear hn
  go_enter Try.func43, Try.ntmps43
  go_wp2_with (go_at_call 33; refine (long_reads _ p s r h).mono ?_; rintro e w1 ⟨rfl, hg⟩)
  go_ret
  exact ⟨rfl, hg⟩
end Go.Proofs.Ytnpohjbhfoebcaa
