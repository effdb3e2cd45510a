/- KeyBack: what a key is made of is what it says, and one that says something is made of that. -/
import Derived.Test.YtkencjibpljpfaaKeyM2
namespace Go.Proofs.Ytkencjibpljpfaa
set_option linter.unusedVariables false
open Go.RowKit

/-- What a right key says makes it again. -/
theorem right_made {K : List UInt8} (h : right K = true) : ofV K = pv (pIno K) (pKind K) (pName K) (pPlace K) ∧ ((pKind K = 1 ∧ okN (pIno K) = true ∧ inodeR (pIno K) = K) ∨ (pKind K = 2 ∧ (okN (pIno K) && okS (pName K)) = true ∧ entryR (pIno K) (pName K) = K) ∨ (pKind K = 3 ∧ (okN (pIno K) && okP (pPlace K)) = true ∧ chunkR (pIno K) (pPlace K) = K)) := by
  refine ⟨by rw [ofV, if_pos h], ?_⟩
  rw [right, Bool.and_eq_true, beq_iff_eq] at h
  obtain ⟨h1, h2⟩ := h
  unfold madeB at h1
  unfold madeK at h2
  by_cases k1 : pKind K = 1
  · rw [if_pos k1] at h1 h2
    exact .inl ⟨k1, h1, h2⟩
  · rw [if_neg k1] at h1 h2
    by_cases k2 : pKind K = 2
    · rw [if_pos k2] at h1 h2
      exact .inr (.inl ⟨k2, h1, h2⟩)
    · rw [if_neg k2] at h1 h2
      by_cases k3 : pKind K = 3
      · rw [if_pos k3] at h1 h2
        exact .inr (.inr ⟨k3, h1, h2⟩)
      · rw [if_neg k3] at h1
        cases h1
theorem of_value (X : List UInt8) (hX : X.length = 24) {i k : Int} {s : List UInt8} {p : Int} (h : ofV X = pv i k s p) (w : World) : Calls Try.prog 16 #[kv X] w fun e w' => e = .returned (.tuple #[pv i k s p, .bool (right X)]) ∧ Below w.heap.size w w' := by
  rw [← h]
  exact of_calls w X hX

set_option maxRecDepth 100000 in
set_option maxHeartbeats 16000000 in
theorem back_walk (w : World) (a : Int) (s : ByteArray) (p : Int) (K : List UInt8) (hK : K.length = 24) :
    Calls Try.prog 6 #[.int .i64 a, .string s, .int .i64 p, kv K] w fun e w' => e = .returned (.bool true) ∧ Below w.heap.size w w' := by
  obtain ⟨i1, k1, s1, p1, v1⟩ := ofV_pv' (inodeR a)
  obtain ⟨i2, k2, s2, p2, v2⟩ := ofV_pv' (entryR a s.data.toList)
  obtain ⟨i3, k3, s3, p3, v3⟩ := ofV_pv' (chunkR a p)
  have F1 : okN a = true → right (inodeR a) = true ∧ i1 = a ∧ k1 = 1 := fun h => by
    obtain ⟨h1, h2⟩ := inode_right h
    rw [v1] at h2
    injection h2 with h2
    injection h2 with h2
    simp at h2
    exact ⟨h1, h2.1, h2.2.1⟩
  have F2 : (okN a && okS s.data.toList) = true → right (entryR a s.data.toList) = true ∧ i2 = a ∧ k2 = 2 ∧ str s2 = s := fun h => by
    simp only [Bool.and_eq_true] at h
    obtain ⟨h1, h2⟩ := entry_right h.1 h.2
    rw [v2] at h2
    injection h2 with h2
    injection h2 with h2
    simp at h2
    exact ⟨h1, h2.1, h2.2.1, h2.2.2.1.trans (str_data s)⟩
  have F3 : (okN a && okP p) = true → right (chunkR a p) = true ∧ i3 = a ∧ k3 = 3 ∧ p3 = p := fun h => by
    simp only [Bool.and_eq_true] at h
    obtain ⟨h1, h2⟩ := chunk_right h.1 h.2
    rw [v3] at h2
    injection h2 with h2
    injection h2 with h2
    simp at h2
    exact ⟨h1, h2.1, h2.2.1, h2.2.2.2⟩
  have C1 : Hid (∀ w, Calls Try.prog 10 #[.int .i64 a] w fun e w' => e = .returned (.tuple #[kv (inodeR a), .bool (okN a)]) ∧ Below w.heap.size w w') := fun w => inode_calls a w
  have C2 : Hid (∀ w, Calls Try.prog 12 #[.int .i64 a, .string s] w fun e w' => e = .returned (.tuple #[kv (entryR a s.data.toList), .bool (okN a && okS s.data.toList)]) ∧ Below w.heap.size w w') := fun w => entry_calls a s w
  have C3 : Hid (∀ w, Calls Try.prog 14 #[.int .i64 a, .int .i64 p] w fun e w' => e = .returned (.tuple #[kv (chunkR a p), .bool (okN a && okP p)]) ∧ Below w.heap.size w w') := fun w => chunk_calls a p w
  have D1 : Hid (∀ w, Calls Try.prog 16 #[kv (inodeR a)] w fun e w' => e = .returned (.tuple #[pv i1 k1 s1 p1, .bool (right (inodeR a))]) ∧ Below w.heap.size w w') := of_value _ (inodeR_length _) v1
  have D2 : Hid (∀ w, Calls Try.prog 16 #[kv (entryR a s.data.toList)] w fun e w' => e = .returned (.tuple #[pv i2 k2 s2 p2, .bool (right (entryR a s.data.toList))]) ∧ Below w.heap.size w w') := of_value _ (entryR_length _ _) v2
  have D3 : Hid (∀ w, Calls Try.prog 16 #[kv (chunkR a p)] w fun e w' => e = .returned (.tuple #[pv i3 k3 s3 p3, .bool (right (chunkR a p))]) ∧ Below w.heap.size w w') := of_value _ (chunkR_length _ _) v3
  have lX : (inodeR a).length = 24 := inodeR_length _
  have lY : (entryR a s.data.toList).length = 24 := entryR_length _ _
  have lU : (chunkR a p).length = 24 := chunkR_length _ _
  clear v1 v2 v3
  generalize right (inodeR a) = r1 at *
  generalize right (entryR a s.data.toList) = r2 at *
  generalize right (chunkR a p) = r3 at *
  generalize (okN a && okS s.data.toList) = o2 at *
  generalize (okN a && okP p) = o3 at *
  generalize okN a = o1 at *
  generalize inodeR a = X at *
  generalize entryR a s.data.toList = Y at *
  generalize chunkR a p = U at *
  have HF1 : Hid (o1 = true → r1 = true ∧ i1 = a ∧ k1 = 1) := F1
  have HF2 : Hid (o2 = true → r2 = true ∧ i2 = a ∧ k2 = 2 ∧ str s2 = s) := F2
  have HF3 : Hid (o3 = true → r3 = true ∧ i3 = a ∧ k3 = 3 ∧ p3 = p) := F3
  clear F1 F2 F3
  have h0 := Has.new w K hK
  have B0 : Below w.heap.size w (w.alloc (.cells (bc K).toArray 24)) := below_made (Below.refl _ w) (Nat.le_refl _) _
  go_enter Try.func6, Try.ntmps6
  go_upto_region 1 with fail
  generalize w.alloc (.cells (bc K).toArray 24) = W at *
  go_upto_region 2 with (go_at_call 9; refine (shown_calls _).mono ?_; rintro e w0 ⟨rfl, b0⟩)
  have M0 : Mem2 w w0 [(w.heap.size, K)] [] := Mem2.called ⟨B0, ⟨h0, trivial⟩, trivial⟩ b0
  clear b0 h0 B0
  go_upto_region 3 with (first
    | (go_at_call 10; refine (C1.out _).mono ?_; rintro e v1 ⟨rfl, b1⟩)
    | (refine store_key rfl _ _ rfl _ rfl _ rfl lX (zs 24) (zero_has v1 v1.heap.size rfl) ?_; intro w1 h1 t1 s1))
  have M1 := M0.add b1 h1 t1
  clear b1 h1 t1 s1 M0
  generalize v1.heap.size = n1 at *
  go_upto_region 4 with (first
    | (go_at_call 12; refine (C2.out _).mono ?_; rintro e v2 ⟨rfl, b2⟩)
    | (refine store_key rfl _ _ rfl _ rfl _ rfl lY (zs 24) (zero_has v2 v2.heap.size rfl) ?_; intro w2 h2 t2 s2))
  have M2 := M1.add b2 h2 t2
  clear b2 h2 t2 s2 M1
  generalize v2.heap.size = n2 at *
  go_upto_region 5 with (first
    | (go_at_call 14; refine (C3.out _).mono ?_; rintro e v3 ⟨rfl, b3⟩)
    | (refine store_key rfl _ _ rfl _ rfl _ rfl lU (zs 24) (zero_has v3 v3.heap.size rfl) ?_; intro w3 h3 t3 s3))
  have M3 := M2.add b3 h3 t3
  clear b3 h3 t3 s3 M2
  generalize v3.heap.size = n3 at *
  go_upto_region 6 with (first
    | (refine load_key _ rfl n1 rfl rfl _ M3.held.2.2.1 ?_)
    | (go_at_call 16; refine (D1.out _).mono ?_; rintro e v4 ⟨rfl, b4⟩))
  have M4 := M3.addP b4 i1 k1 s1 p1
  clear b4 M3
  generalize v4.alloc (.cells #[.int .i64 i1, .int .i64 k1, .string (str s1), .int .i64 p1] 31) = w4 at *
  generalize v4.heap.size = n4 at *
  go_upto_region 7 with (first
    | (refine load_key _ rfl n2 rfl rfl _ M4.held.2.1 ?_)
    | (go_at_call 16; refine (D2.out _).mono ?_; rintro e v5 ⟨rfl, b5⟩))
  have M5 := M4.addP b5 i2 k2 s2 p2
  clear b5 M4
  generalize v5.alloc (.cells #[.int .i64 i2, .int .i64 k2, .string (str s2), .int .i64 p2] 31) = w5 at *
  generalize v5.heap.size = n5 at *
  go_upto_region 8 with (first
    | (refine load_key _ rfl n3 rfl rfl _ M5.held.1 ?_)
    | (go_at_call 16; refine (D3.out _).mono ?_; rintro e v6 ⟨rfl, b6⟩))
  have M6 := M5.addP b6 i3 k3 s3 p3
  clear b6 M5
  generalize v6.alloc (.cells #[.int .i64 i3, .int .i64 k3, .string (str s3), .int .i64 p3] 31) = w6 at *
  generalize v6.heap.size = n6 at *
  obtain ⟨c10, c11, c12, c13⟩ := cells4 M6.parts.2.2.1
  obtain ⟨c20, c21, c22, c23⟩ := cells4 M6.parts.2.1
  obtain ⟨c30, c31, c32, c33⟩ := cells4 M6.parts.1
  go_cut [122] (fun v wc => v = .bool false ∧ wc = w6)
  case first =>
    cases o1 with
    | false =>
      cases o2 with
      | false =>
        cases o3 with
        | false =>
          go_wp2_with fail
          go_meet
          case rel => exact ⟨rfl, rfl⟩
        | true =>
          obtain ⟨rfl, rfl, rfl, rfl⟩ := HF3.out rfl
          go_wp2_with fail
          go_meet
          case rel => exact ⟨rfl, rfl⟩
      | true =>
        cases o3 with
        | false =>
          obtain ⟨rfl, rfl, rfl, e2s⟩ := HF2.out rfl
          rw [e2s] at c22
          go_wp2_with fail
          go_meet
          case rel => exact ⟨rfl, rfl⟩
        | true =>
          obtain ⟨rfl, rfl, rfl, e2s⟩ := HF2.out rfl
          obtain ⟨rfl, e3i, rfl, rfl⟩ := HF3.out rfl
          rw [e2s] at c22
          rw [e3i] at c30
          go_wp2_with fail
          go_meet
          case rel => exact ⟨rfl, rfl⟩
    | true =>
      cases o2 with
      | false =>
        cases o3 with
        | false =>
          obtain ⟨rfl, rfl, rfl⟩ := HF1.out rfl
          go_wp2_with fail
          go_meet
          case rel => exact ⟨rfl, rfl⟩
        | true =>
          obtain ⟨rfl, rfl, rfl⟩ := HF1.out rfl
          obtain ⟨rfl, e3i, rfl, rfl⟩ := HF3.out rfl
          rw [e3i] at c30
          go_wp2_with fail
          go_meet
          case rel => exact ⟨rfl, rfl⟩
      | true =>
        cases o3 with
        | false =>
          obtain ⟨rfl, rfl, rfl⟩ := HF1.out rfl
          obtain ⟨rfl, e2i, rfl, e2s⟩ := HF2.out rfl
          rw [e2s] at c22
          rw [e2i] at c20
          go_wp2_with fail
          go_meet
          case rel => exact ⟨rfl, rfl⟩
        | true =>
          obtain ⟨rfl, rfl, rfl⟩ := HF1.out rfl
          obtain ⟨rfl, e2i, rfl, e2s⟩ := HF2.out rfl
          obtain ⟨rfl, e3i, rfl, rfl⟩ := HF3.out rfl
          rw [e2s] at c22
          rw [e2i] at c20
          rw [e3i] at c30
          go_wp2_with fail
          go_meet
          case rel => exact ⟨rfl, rfl⟩
  case rest =>
    obtain ⟨rfl, rfl⟩ := hcut
    clear c10 c11 c12 c13 c20 c21 c22 c23 c30 c31 c32 c33 C1 C2 C3 D1 D2 D3 HF1 HF2 HF3
    cases hr : right K with
    | false =>
      have D4 : Hid (∀ w, Calls Try.prog 16 #[kv K] w fun e w' => e = .returned (.tuple #[pv 0 0 [] 0, .bool false]) ∧ Below w.heap.size w w') := fun w => by
        have := of_value K hK (i := 0) (k := 0) (s := []) (p := 0) (by rw [ofV, hr]; rfl) w
        rw [hr] at this
        exact this
      go_upto_region 11 with (first
        | (refine load_key _ rfl w.heap.size rfl rfl _ M6.held.2.2.2.1 ?_)
        | (go_at_call 16; refine (D4.out _).mono ?_; rintro e v7 ⟨rfl, b7⟩))
      have M7 := M6.addP b7 0 0 [] 0
      clear b7 M6
      generalize v7.alloc (.cells #[.int .i64 0, .int .i64 0, .string (str []), .int .i64 0] 31) = w7 at *
      generalize v7.heap.size = n7 at *

      obtain ⟨c0, c1, c2, c3⟩ := cells4 M7.parts.1
      go_wp2_with fail
      go_ret
      exact ⟨rfl, M7.bel⟩
    | true =>
      obtain ⟨hv, hcs⟩ := right_made hr
      have D4 : Hid (∀ w, Calls Try.prog 16 #[kv K] w fun e w' => e = .returned (.tuple #[pv (pIno K) (pKind K) (pName K) (pPlace K), .bool true]) ∧ Below w.heap.size w w') := fun w => by
        have := of_value K hK hv w
        rw [hr] at this
        exact this
      clear hv
      have heq : ∀ w, (Op.equalIn 10000 24 (kv K) (kv K)).run Try.prog w = .ok true w := eq_key' hK hK (by simp)
      have HC : Hid ((pKind K = 1 ∧ okN (pIno K) = true ∧ inodeR (pIno K) = K) ∨ (pKind K = 2 ∧ (okN (pIno K) && okS (pName K)) = true ∧ entryR (pIno K) (pName K) = K) ∨ (pKind K = 3 ∧ (okN (pIno K) && okP (pPlace K)) = true ∧ chunkR (pIno K) (pPlace K) = K)) := hcs
      clear hcs
      generalize pKind K = qk at *
      generalize pIno K = qi at *
      generalize pName K = qs at *
      generalize pPlace K = qp at *
      go_upto_region 11 with (first
        | (refine load_key _ rfl w.heap.size rfl rfl _ M6.held.2.2.2.1 ?_)
        | (go_at_call 16; refine (D4.out _).mono ?_; rintro e v7 ⟨rfl, b7⟩))
      have M7 := M6.addP b7 qi qk qs qp
      clear b7 M6
      generalize v7.alloc (.cells #[.int .i64 qi, .int .i64 qk, .string (str qs), .int .i64 qp] 31) = w7 at *
      generalize v7.heap.size = n7 at *

      obtain ⟨c0, c1, c2, c3⟩ := cells4 M7.parts.1
      have C1 : Hid (∀ w, Calls Try.prog 10 #[.int .i64 qi] w fun e w' => e = .returned (.tuple #[kv (inodeR qi), .bool (okN qi)]) ∧ Below w.heap.size w w') := fun w => inode_calls qi w
      have lX8 : (inodeR qi).length = 24 := inodeR_length _
      go_upto_region 14 with (first
        | (go_at_call 10; refine (C1.out _).mono ?_; rintro e v8 ⟨rfl, b8⟩)
        | (refine store_key rfl _ _ rfl _ rfl _ rfl lX8 (zs 24) (zero_has v8 v8.heap.size rfl) ?_; intro w8 h8 t8 s8))
      have hlt : w.heap.size < v8.heap.size := by have := M7.held.2.2.2.1.lt; have := b8.size; omega
      have hlt7 : n7 < v8.heap.size := by have := lt_of_block M7.parts.1; have := b8.size; omega
      have M8 := M7.add b8 h8 t8
      clear b8 h8 t8 s8 M7
      generalize v8.heap.size = n8 at *

      obtain ⟨c0, c1, c2, c3⟩ := cells4 M8.parts.1
      rcases HC.out with ⟨rfl, e1, e2⟩ | ⟨rfl, e1, e2⟩ | ⟨rfl, e1, e2⟩
      · rw [e2] at M8
        rw [e1]
        go_wp2_with (first
          | (refine load_key _ rfl n8 rfl rfl _ M8.held.1 ?_)
          | (refine load_key _ rfl w.heap.size rfl rfl _ M8.held.2.2.2.2.1 ?_))
        go_ret
        exact ⟨rfl, M8.bel⟩
      · have C2 : Hid (∀ w, Calls Try.prog 12 #[.int .i64 qi, .string (str qs)] w fun e w' => e = .returned (.tuple #[kv K, .bool true]) ∧ Below w.heap.size w w') := fun w => by
          have := entry_calls qi (str qs) w
          rw [str_list, e1, e2] at this
          exact this
        go_wp2_with (first
          | (go_at_call 12; refine (C2.out _).mono ?_; rintro e v9 ⟨rfl, b9⟩; have M9 := M8.called b9)
          | (refine store_key rfl _ _ rfl n8 rfl _ rfl hK _ M9.held.1 ?_; intro w10 h10 t10 s10; have g10 := M9.held.2.2.2.2.1.touch t10 (by omega); have q10 := cells4 (M9.parts.1.touch t10 (by omega)); obtain ⟨d0, d1, d2, d3⟩ := q10)
          | (refine load_key _ rfl n8 rfl rfl _ h10 ?_)
          | (refine load_key _ rfl w.heap.size rfl rfl _ g10 ?_))
        go_ret
        exact ⟨rfl, below_touched M9.bel t10 (by omega) (Nat.le_refl _)⟩
      · have C3 : Hid (∀ w, Calls Try.prog 14 #[.int .i64 qi, .int .i64 qp] w fun e w' => e = .returned (.tuple #[kv K, .bool true]) ∧ Below w.heap.size w w') := fun w => by
          have := chunk_calls qi qp w
          rw [e1, e2] at this
          exact this
        go_wp2_with (first
          | (go_at_call 14; refine (C3.out _).mono ?_; rintro e v9 ⟨rfl, b9⟩; have M9 := M8.called b9)
          | (refine store_key rfl _ _ rfl n8 rfl _ rfl hK _ M9.held.1 ?_; intro w10 h10 t10 s10; have g10 := M9.held.2.2.2.2.1.touch t10 (by omega); have q10 := cells4 (M9.parts.1.touch t10 (by omega)); obtain ⟨d0, d1, d2, d3⟩ := q10)
          | (refine load_key _ rfl n8 rfl rfl _ h10 ?_)
          | (refine load_key _ rfl w.heap.size rfl rfl _ g10 ?_))
        go_ret
        exact ⟨rfl, below_touched M9.bel t10 (by omega) (Nat.le_refl _)⟩

end Go.Proofs.Ytkencjibpljpfaa
