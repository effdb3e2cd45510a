/- The key behind a key, the span of one key. -/
import Derived.Test.YtkencjibpljpfaaKeyD
namespace Go.Proofs.Ytkencjibpljpfaa
set_option linter.unusedVariables false
open Go.RowKit

/-- The least key above one: the bytes from place i down are counted on. -/
def nxt (K : List UInt8) : Nat → List UInt8 × Bool
  | 0 => (K, false)
  | i + 1 => if K.getD i 0 + 1 = 0 then nxt (K.set i 0) i else (K.set i (K.getD i 0 + 1), true)
theorem nxt_length (K : List UInt8) : ∀ i, (nxt K i).1.length = K.length := by
  intro i
  induction i generalizing K with
  | zero => rfl
  | succ i ih =>
    rw [nxt]
    split
    · rw [ih]; simp
    · simp
theorem u8_next (x : UInt8) : IntKind.u8.wrap ((x.toNat : Int) + 1) = (((x + 1).toNat : Nat) : Int) := by
  rw [IntKind.wrap_u8]
  simp [UInt8.toNat_add]
theorem u8_zero (x : UInt8) : ((x.toNat : Nat) : Int) = 0 ↔ x = 0 := by
  rw [← UInt8.toNat_inj]
  simp

theorem u8_back {x : UInt8} (h : x + 1 = 0) : x = 255 := by
  have h1 : (x + 1).toNat = 0 := by rw [h]; rfl
  rw [UInt8.toNat_add, show (1 : UInt8).toNat = 1 from rfl] at h1
  have h2 := x.toNat_lt
  exact UInt8.toNat_inj.1 (show x.toNat = 255 by omega)
theorem u8_less {x : UInt8} (h : ¬ x + 1 = 0) : (x.toNat : Int) < 255 := by
  have h1 := x.toNat_lt
  have h2 : x.toNat ≠ 255 := fun e => h (by
    have : x = 255 := UInt8.toNat_inj.1 (by rw [e]; rfl)
    subst this
    rfl)
  omega
theorem u8_plus {x : UInt8} (h : ¬ x + 1 = 0) : (((x + 1).toNat : Nat) : Int) = (x.toNat : Int) + 1 := by
  have := u8_less h
  rw [UInt8.toNat_add]
  have e : (1 : UInt8).toNat = 1 := rfl
  rw [e]
  omega
set_option maxRecDepth 100000 in
set_option maxHeartbeats 2000000 in
theorem after_calls (w : World) (K : List UInt8) (hK : K.length = 24) :
    Calls Try.prog 36 #[kv K] w fun e w' => e = .returned (.tuple #[kv (nxt K 24).1, .bool (nxt K 24).2]) ∧ Below w.heap.size w w' := by
  have h1 : Has ((w.alloc (.cells (bc K).toArray 24)).alloc (.cells (bc (zs 24)).toArray 24)) w.heap.size K := (Has.new w K hK).alloc _
  have h2 : Has ((w.alloc (.cells (bc K).toArray 24)).alloc (.cells (bc (zs 24)).toArray 24)) (w.heap.size + 1) (zs 24) := by have := Has.new (w.alloc (.cells (bc K).toArray 24)) (zs 24) rfl; simpa using this
  have B1 : Below w.heap.size w ((w.alloc (.cells (bc K).toArray 24)).alloc (.cells (bc (zs 24)).toArray 24)) := below_made (below_made (Below.refl _ w) (Nat.le_refl _) _) (Nat.le_refl _) _
  go_enter Try.func36, Try.ntmps36
  go_wp2
  go_loopw [4] (fun i w' => ∃ (j : Nat) (L : List UInt8), j ≤ 24 ∧ i = .int .i64 ((j : Int) - 1) ∧ Has w' w.heap.size L ∧ Has w' (w.heap.size + 1) (zs 24) ∧ Below w.heap.size w w' ∧ nxt L j = nxt K 24) (fun i _ => (intOf i + 1).toNat)
  case atStart => exact ⟨24, K, by omega, rfl, h1, h2, B1, rfl⟩
  case round =>
    obtain ⟨j, L, hj, rfl, h3, h4, B3, hn⟩ := hrel
    have HN : Hid (nxt L j = nxt K 24) := hn
    clear hn h1 h2 B1
    by_cases hj0 : j = 0
    · subst hj0
      go_wp2_with (first
        | (refine load_key _ rfl _ rfl rfl _ h3 ?_)
        | (refine store_key rfl _ _ rfl _ rfl _ rfl h3.len _ h4 ?_; intro w5 h5 t5 s5))
      refine ret_key_ok rfl _ _ _ rfl rfl h5 rfl ⟨by rw [← HN.out]; rfl, below_touched B3 t5 (by omega) (Nat.le_refl _)⟩
    · obtain ⟨i, rfl⟩ : ∃ i, j = i + 1 := ⟨j - 1, by omega⟩
      have c1 := h3.cell i (by omega)
      have f1 := h3.free i
      have e1 : ((i + 1 : Nat) : Int) - 1 = (i : Int) := by omega
      rw [e1]
      rw [nxt] at HN
      by_cases hx : L.getD i 0 + 1 = 0
      · have hx1 : (L.getD i 0).toNat = 255 := by rw [u8_back hx]; rfl
        rw [if_pos hx] at HN
        rw [hx1] at c1
        have h5 := h3.setCell i 0
        go_wp2
        go_roundw
        case rel => exact ⟨i, L.set i 0, by omega, by go_num, h5, h4.setOther (by omega) _ _, B3.setCell (by simp) _, HN.out⟩
        case measure => simp [intOf]
      · rw [if_neg hx] at HN
        have hx1 := u8_less hx
        have h5 := h3.setCell i (L.getD i 0 + 1)
        rw [u8_plus hx] at h5
        have HX : Hid (¬ L.getD i 0 + 1 = 0) := hx
        clear hx
        have hl5 := h5.len
        generalize L.set i (L.getD i 0 + 1) = L5 at h5 HN hl5
        generalize L.getD i 0 = x at *
        go_wp2_with (first
          | (refine load_key _ rfl _ rfl rfl _ h5 ?_)
          | (refine store_key rfl _ _ rfl _ rfl _ rfl hl5 _ (h4.setOther (by omega) _ _) ?_; intro w6 h6 t6 s6))
        refine ret_key_ok rfl _ _ _ rfl rfl h6 rfl ⟨by rw [← HN.out]; rfl, below_touched (B3.setCell (by simp) _) t6 (by omega) (Nat.le_refl _)⟩

def oneT (K : List UInt8) : List UInt8 := (nxt K 24).1
def oneE (K : List UInt8) : Bool := !(nxt K 24).2
theorem oneT_length (K : List UInt8) (h : K.length = 24) : (oneT K).length = 24 := by rw [oneT, nxt_length, h]
set_option maxHeartbeats 2000000 in
theorem one_calls (w : World) (K : List UInt8) (hK : K.length = 24) :
    Calls Try.prog 18 #[kv K] w fun e w' => e = .returned (sv K (oneT K) (oneE K)) ∧ Below w.heap.size w w' := by
  have hT := oneT_length K hK
  have h1 : Has ((w.alloc (.cells (bc K).toArray 24)).alloc (.cells (sc (zs 24) (zs 24) false).toArray 39)) w.heap.size K := (Has.new w K hK).alloc _
  have h2 : HasS ((w.alloc (.cells (bc K).toArray 24)).alloc (.cells (sc (zs 24) (zs 24) false).toArray 39)) (w.heap.size + 1) (zs 24) (zs 24) false := by exact zero_hasS _ _ (by simp)
  have B1 : Below w.heap.size w ((w.alloc (.cells (bc K).toArray 24)).alloc (.cells (sc (zs 24) (zs 24) false).toArray 39)) := below_made (below_made (Below.refl _ w) (Nat.le_refl _) _) (Nat.le_refl _) _
  go_enter Try.func18, Try.ntmps18
  go_wp2_with (first
    | (refine build3 rfl _ _ _ rfl _ _ _ rfl rfl rfl hK hT ?_)
    | (refine store_span rfl _ _ rfl _ rfl _ _ _ rfl hK hT (zs 24) (zs 24) false ((h4.alloc _).touch t4 (by have := h4.lt; omega)) ?_; intro w7 h7 t7 s7)
    | (refine load_key _ rfl w.heap.size rfl rfl _ h5 ?_)
    | (refine load_key _ rfl w3.heap.size rfl rfl _ h6 ?_)
    | (refine load_key _ rfl _ rfl rfl _ h1 ?_)
    | (go_at_call 36; refine (after_calls _ K hK).mono ?_; rintro e w3 ⟨rfl, b3⟩; have h3 := h1.below b3 h1.lt; have h4 := h2.below b3 h2.lt)
    | (refine store_key rfl _ _ rfl _ rfl _ rfl hT (zs 24) (zero_has w3 w3.heap.size rfl) ?_; intro w4 h6 t4 s4; have h5 := (h3.alloc (.cells #[.int .u8 0, .int .u8 0, .int .u8 0, .int .u8 0, .int .u8 0, .int .u8 0, .int .u8 0, .int .u8 0, .int .u8 0, .int .u8 0, .int .u8 0, .int .u8 0, .int .u8 0, .int .u8 0, .int .u8 0, .int .u8 0, .int .u8 0, .int .u8 0, .int .u8 0, .int .u8 0, .int .u8 0, .int .u8 0, .int .u8 0, .int .u8 0] 24)).touch t4 (by have := h3.lt; omega)))
  refine ret_span rfl _ _ _ _ rfl h7 rfl ⟨rfl, ?_⟩
  exact below_touched (below_touched (below_made (below_called B1 b3 (Nat.le_refl _)) (Nat.le_refl _) _) t4 (by have := h3.lt; omega) (Nat.le_refl _)) t7 (by omega) (Nat.le_refl _)
end Go.Proofs.Ytkencjibpljpfaa
