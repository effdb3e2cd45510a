/- KeyOnce: unlike things have unlike keys. -/
import Derived.Test.YtkencjibpljpfabKeyM
namespace Go.Proofs.Ytkencjibpljpfab
set_option linter.unusedVariables false
open Go.RowKit

theorem str_apart {s t : ByteArray} (h : ¬ s = t) : (s.toList == t.toList) = false ∧ (s.data.toList == t.data.toList) = false ∧ (s.data == t.data) = false := by
  have h1 : ¬ s.data = t.data := fun e => h (ByteArray.ext e)
  exact ⟨by rw [ByteArray.toList_eq, ByteArray.toList_eq]; simpa using h1, by simpa using h1, by simpa using h1⟩
set_option maxRecDepth 100000 in
set_option maxHeartbeats 8000000 in
theorem once_walk (w : World) (a : Int) (s : ByteArray) (b : Int) (t : ByteArray) (p q : Int) :
    Calls Try.prog 3 #[.int .i64 a, .string s, .int .i64 b, .string t, .int .i64 p, .int .i64 q] w fun e w' => e = .returned (.bool true) ∧ Below w.heap.size w w' := by
  have F1 : (okN a && okS s.data.toList) = true → (okN b && okS t.data.toList) = true → (entryR a s.data.toList == entryR b t.data.toList) = (a == b && s.data.toList == t.data.toList) := fun h1 h2 => by
    simp only [Bool.and_eq_true] at h1 h2
    exact entry_inj h1.1 h1.2 h2.1 h2.2
  have F2 : (okN a && okP p) = true → (okN b && okP q) = true → (chunkR a p == chunkR b q) = (a == b && p == q) := fun h1 h2 => by
    simp only [Bool.and_eq_true] at h1 h2
    exact chunk_inj h1.1 h1.2 h2.1 h2.2
  have F3 : okN a = true → okN b = true → (inodeR a == inodeR b) = (a == b) := inode_inj
  have F4 : (okN a && okS s.data.toList) = true → (okN a && okP p) = true → (entryR a s.data.toList == chunkR a p) = false := fun h1 h2 => by
    simp only [Bool.and_eq_true] at h1 h2
    exact entry_chunk h1.1 h1.2 h2.1 h2.2
  have F5 : (okN a && okS s.data.toList) = true → okN a = true → (entryR a s.data.toList == inodeR a) = false := fun h1 h2 => by
    simp only [Bool.and_eq_true] at h1
    exact entry_inode h1.1 h1.2 h2
  have F6 : (okN a && okP p) = true → okN a = true → (chunkR a p == inodeR a) = false := fun h1 h2 => by
    simp only [Bool.and_eq_true] at h1
    exact chunk_inode h1.1 h1.2 h2
  have C1 : Hid (∀ w, Calls Try.prog 5 #[.int .i64 a, .string s] w fun e w' => e = .returned (.tuple #[kv (entryR a s.data.toList), .bool (okN a && okS s.data.toList)]) ∧ Below w.heap.size w w') := fun w => entry_calls a s w
  have C2 : Hid (∀ w, Calls Try.prog 5 #[.int .i64 b, .string t] w fun e w' => e = .returned (.tuple #[kv (entryR b t.data.toList), .bool (okN b && okS t.data.toList)]) ∧ Below w.heap.size w w') := fun w => entry_calls b t w
  have C3 : Hid (∀ w, Calls Try.prog 6 #[.int .i64 a, .int .i64 p] w fun e w' => e = .returned (.tuple #[kv (chunkR a p), .bool (okN a && okP p)]) ∧ Below w.heap.size w w') := fun w => chunk_calls a p w
  have C4 : Hid (∀ w, Calls Try.prog 6 #[.int .i64 b, .int .i64 q] w fun e w' => e = .returned (.tuple #[kv (chunkR b q), .bool (okN b && okP q)]) ∧ Below w.heap.size w w') := fun w => chunk_calls b q w
  have C5 : Hid (∀ w, Calls Try.prog 7 #[.int .i64 a] w fun e w' => e = .returned (.tuple #[kv (inodeR a), .bool (okN a)]) ∧ Below w.heap.size w w') := fun w => inode_calls a w
  have C6 : Hid (∀ w, Calls Try.prog 7 #[.int .i64 b] w fun e w' => e = .returned (.tuple #[kv (inodeR b), .bool (okN b)]) ∧ Below w.heap.size w w') := fun w => inode_calls b w
  have lX : (entryR a s.data.toList).length = 24 := entryR_length _ _
  have lY : (entryR b t.data.toList).length = 24 := entryR_length _ _
  have lU : (chunkR a p).length = 24 := chunkR_length _ _
  have lV : (chunkR b q).length = 24 := chunkR_length _ _
  have lW : (inodeR a).length = 24 := inodeR_length _
  have lZ : (inodeR b).length = 24 := inodeR_length _
  generalize (okN a && okS s.data.toList) = o1 at *
  generalize (okN b && okS t.data.toList) = o2 at *
  generalize (okN a && okP p) = o3 at *
  generalize (okN b && okP q) = o4 at *
  generalize okN a = o5 at *
  generalize okN b = o6 at *
  generalize entryR a s.data.toList = X at *
  generalize entryR b t.data.toList = Y at *
  generalize chunkR a p = U at *
  generalize chunkR b q = V at *
  generalize inodeR a = I at *
  generalize inodeR b = J at *
  have HF1 : Hid (o1 = true → o2 = true → (X == Y) = (a == b && s.data.toList == t.data.toList)) := F1
  have HF2 : Hid (o3 = true → o4 = true → (U == V) = (a == b && p == q)) := F2
  have HF3 : Hid (o5 = true → o6 = true → (I == J) = (a == b)) := F3
  have HF4 : Hid (o1 = true → o3 = true → (X == U) = false) := F4
  have HF5 : Hid (o1 = true → o5 = true → (X == I) = false) := F5
  have HF6 : Hid (o3 = true → o5 = true → (U == I) = false) := F6
  clear F1 F2 F3 F4 F5 F6
  go_enter Try.func3, Try.ntmps3
  go_upto_region 2 with (go_at_call 4; refine (shown_calls _).mono ?_; rintro e w0 ⟨rfl, b0⟩)
  have M0 := Mem.start b0
  clear b0
  go_upto_region 3 with (first
    | (go_at_call 5; refine (C1.out _).mono ?_; rintro e v1 ⟨rfl, b1⟩)
    | (refine store_key rfl _ _ rfl _ rfl _ rfl lX (zs 24) (zero_has v1 v1.heap.size rfl) ?_; intro w1 h1 t1 s1))
  have M1 := M0.add b1 h1 t1
  clear b1 h1 t1 s1 M0
  generalize v1.heap.size = n1 at *
  go_upto_region 4 with (first
    | (go_at_call 5; refine (C2.out _).mono ?_; rintro e v2 ⟨rfl, b2⟩)
    | (refine store_key rfl _ _ rfl _ rfl _ rfl lY (zs 24) (zero_has v2 v2.heap.size rfl) ?_; intro w2 h2 t2 s2))
  have M2 := M1.add b2 h2 t2
  clear b2 h2 t2 s2 M1
  generalize v2.heap.size = n2 at *
  go_cut [56] (fun v wc => v = .bool false ∧ wc = w2)
  case first =>
    cases o1 with
    | false =>
      go_wp2_with fail
      go_meet
      case rel => exact ⟨rfl, rfl⟩
    | true =>
      cases o2 with
      | false =>
        go_wp2_with fail
        go_meet
        case rel => exact ⟨rfl, rfl⟩
      | true =>
        by_cases hab : a = b
        · by_cases hst : s = t
          · subst hab hst
            have heq : ∀ w, (Op.equalIn 10000 24 (kv X) (kv Y)).run Try.prog w = .ok true w := eq_key' lX lY ((HF1.out rfl rfl).trans (by simp))
            go_wp2_with (first
              | (refine load_key _ rfl n1 rfl rfl _ M2.held.2.1 ?_)
              | (refine load_key _ rfl n2 rfl rfl _ M2.held.1 ?_))
            go_meet
            case rel => exact ⟨rfl, rfl⟩
          · subst hab
            obtain ⟨e1, e2, e3⟩ := str_apart hst
            have heq : ∀ w, (Op.equalIn 10000 24 (kv X) (kv Y)).run Try.prog w = .ok false w := eq_key' lX lY ((HF1.out rfl rfl).trans (by simp [e2]))
            go_wp2_with (first
              | (refine load_key _ rfl n1 rfl rfl _ M2.held.2.1 ?_)
              | (refine load_key _ rfl n2 rfl rfl _ M2.held.1 ?_))
            go_meet
            case rel => exact ⟨rfl, rfl⟩
        · have e0 : (a == b) = false := by simpa using hab
          have heq : ∀ w, (Op.equalIn 10000 24 (kv X) (kv Y)).run Try.prog w = .ok false w := eq_key' lX lY ((HF1.out rfl rfl).trans (by simp [e0]))
          go_wp2_with (first
            | (refine load_key _ rfl n1 rfl rfl _ M2.held.2.1 ?_)
            | (refine load_key _ rfl n2 rfl rfl _ M2.held.1 ?_))
          go_meet
          case rel => exact ⟨rfl, rfl⟩
  case rest =>
    obtain ⟨rfl, rfl⟩ := hcut
    go_upto_region 7 with (first
      | (go_at_call 6; refine (C3.out _).mono ?_; rintro e v3 ⟨rfl, b3⟩)
      | (refine store_key rfl _ _ rfl _ rfl _ rfl lU (zs 24) (zero_has v3 v3.heap.size rfl) ?_; intro w3 h3 t3 s3))
    have M3 := M2.add b3 h3 t3
    clear b3 h3 t3 s3 M2
    generalize v3.heap.size = n3 at *
    go_upto_region 8 with (first
      | (go_at_call 6; refine (C4.out _).mono ?_; rintro e v4 ⟨rfl, b4⟩)
      | (refine store_key rfl _ _ rfl _ rfl _ rfl lV (zs 24) (zero_has v4 v4.heap.size rfl) ?_; intro w4 h4 t4 s4))
    have M4 := M3.add b4 h4 t4
    clear b4 h4 t4 s4 M3
    generalize v4.heap.size = n4 at *
    go_cut [86] (fun v wc => v = .bool false ∧ wc = w4)
    case first =>
      cases o3 with
      | false =>
        go_wp2_with fail
        go_meet
        case rel => exact ⟨rfl, rfl⟩
      | true =>
        cases o4 with
        | false =>
          go_wp2_with fail
          go_meet
          case rel => exact ⟨rfl, rfl⟩
        | true =>
          by_cases hab : a = b
          · subst hab
            by_cases hpq : p = q
            · subst hpq
              have heq : ∀ w, (Op.equalIn 10000 24 (kv U) (kv V)).run Try.prog w = .ok true w := eq_key' lU lV ((HF2.out rfl rfl).trans (by simp))
              go_wp2_with (first
                | (refine load_key _ rfl n3 rfl rfl _ M4.held.2.1 ?_)
                | (refine load_key _ rfl n4 rfl rfl _ M4.held.1 ?_))
              go_meet
              case rel => exact ⟨rfl, rfl⟩
            · have e1 : (p == q) = false := by simpa using hpq
              have heq : ∀ w, (Op.equalIn 10000 24 (kv U) (kv V)).run Try.prog w = .ok false w := eq_key' lU lV ((HF2.out rfl rfl).trans (by simp [e1]))
              go_wp2_with (first
                | (refine load_key _ rfl n3 rfl rfl _ M4.held.2.1 ?_)
                | (refine load_key _ rfl n4 rfl rfl _ M4.held.1 ?_))
              go_meet
              case rel => exact ⟨rfl, rfl⟩
          · have e0 : (a == b) = false := by simpa using hab
            have heq : ∀ w, (Op.equalIn 10000 24 (kv U) (kv V)).run Try.prog w = .ok false w := eq_key' lU lV ((HF2.out rfl rfl).trans (by simp [e0]))
            go_wp2_with (first
              | (refine load_key _ rfl n3 rfl rfl _ M4.held.2.1 ?_)
              | (refine load_key _ rfl n4 rfl rfl _ M4.held.1 ?_))
            go_meet
            case rel => exact ⟨rfl, rfl⟩
    case rest =>
      obtain ⟨rfl, rfl⟩ := hcut
      go_upto_region 11 with (first
        | (go_at_call 7; refine (C5.out _).mono ?_; rintro e v5 ⟨rfl, b5⟩)
        | (refine store_key rfl _ _ rfl _ rfl _ rfl lW (zs 24) (zero_has v5 v5.heap.size rfl) ?_; intro w5 h5 t5 s5))
      have M5 := M4.add b5 h5 t5
      clear b5 h5 t5 s5 M4
      generalize v5.heap.size = n5 at *
      go_upto_region 12 with (first
        | (go_at_call 7; refine (C6.out _).mono ?_; rintro e v6 ⟨rfl, b6⟩)
        | (refine store_key rfl _ _ rfl _ rfl _ rfl lZ (zs 24) (zero_has v6 v6.heap.size rfl) ?_; intro w6 h6 t6 s6))
      have M6 := M5.add b6 h6 t6
      clear b6 h6 t6 s6 M5
      generalize v6.heap.size = n6 at *
      go_cut [109] (fun v wc => v = .bool false ∧ wc = w6)
      case first =>
        cases o5 with
        | false =>
          go_wp2_with fail
          go_meet
          case rel => exact ⟨rfl, rfl⟩
        | true =>
          cases o6 with
          | false =>
            go_wp2_with fail
            go_meet
            case rel => exact ⟨rfl, rfl⟩
          | true =>
            by_cases hab : a = b
            · subst hab
              have heq : ∀ w, (Op.equalIn 10000 24 (kv I) (kv J)).run Try.prog w = .ok true w := eq_key' lW lZ ((HF3.out rfl rfl).trans (by simp))
              go_wp2_with (first
                | (refine load_key _ rfl n5 rfl rfl _ M6.held.2.1 ?_)
                | (refine load_key _ rfl n6 rfl rfl _ M6.held.1 ?_))
              go_meet
              case rel => exact ⟨rfl, rfl⟩
            · have e0 : (a == b) = false := by simpa using hab
              have heq : ∀ w, (Op.equalIn 10000 24 (kv I) (kv J)).run Try.prog w = .ok false w := eq_key' lW lZ ((HF3.out rfl rfl).trans (by simp [e0]))
              go_wp2_with (first
                | (refine load_key _ rfl n5 rfl rfl _ M6.held.2.1 ?_)
                | (refine load_key _ rfl n6 rfl rfl _ M6.held.1 ?_))
              go_meet
              case rel => exact ⟨rfl, rfl⟩
      case rest =>
        obtain ⟨rfl, rfl⟩ := hcut
        cases o1 with
        | false =>
          cases o3 with
          | false =>
            cases o5 with
            | false =>
              go_wp2_with (first
                | (refine load_key _ rfl n1 rfl rfl _ M6.held.2.2.2.2.2.1 ?_)
                | (refine load_key _ rfl n3 rfl rfl _ M6.held.2.2.2.1 ?_)
                | (refine load_key _ rfl n5 rfl rfl _ M6.held.2.1 ?_))
              go_ret
              exact ⟨rfl, M6.bel⟩
            | true =>
              go_wp2_with (first
                | (refine load_key _ rfl n1 rfl rfl _ M6.held.2.2.2.2.2.1 ?_)
                | (refine load_key _ rfl n3 rfl rfl _ M6.held.2.2.2.1 ?_)
                | (refine load_key _ rfl n5 rfl rfl _ M6.held.2.1 ?_))
              go_ret
              exact ⟨rfl, M6.bel⟩
          | true =>
            cases o5 with
            | false =>
              go_wp2_with (first
                | (refine load_key _ rfl n1 rfl rfl _ M6.held.2.2.2.2.2.1 ?_)
                | (refine load_key _ rfl n3 rfl rfl _ M6.held.2.2.2.1 ?_)
                | (refine load_key _ rfl n5 rfl rfl _ M6.held.2.1 ?_))
              go_ret
              exact ⟨rfl, M6.bel⟩
            | true =>
              have heq6 : ∀ w, (Op.equalIn 10000 24 (kv U) (kv I)).run Try.prog w = .ok false w := eq_key' lU lW (HF6.out rfl rfl)
              go_wp2_with (first
                | (refine load_key _ rfl n1 rfl rfl _ M6.held.2.2.2.2.2.1 ?_)
                | (refine load_key _ rfl n3 rfl rfl _ M6.held.2.2.2.1 ?_)
                | (refine load_key _ rfl n5 rfl rfl _ M6.held.2.1 ?_))
              go_ret
              exact ⟨rfl, M6.bel⟩
        | true =>
          cases o3 with
          | false =>
            cases o5 with
            | false =>
              go_wp2_with (first
                | (refine load_key _ rfl n1 rfl rfl _ M6.held.2.2.2.2.2.1 ?_)
                | (refine load_key _ rfl n3 rfl rfl _ M6.held.2.2.2.1 ?_)
                | (refine load_key _ rfl n5 rfl rfl _ M6.held.2.1 ?_))
              go_ret
              exact ⟨rfl, M6.bel⟩
            | true =>
              have heq5 : ∀ w, (Op.equalIn 10000 24 (kv X) (kv I)).run Try.prog w = .ok false w := eq_key' lX lW (HF5.out rfl rfl)
              go_wp2_with (first
                | (refine load_key _ rfl n1 rfl rfl _ M6.held.2.2.2.2.2.1 ?_)
                | (refine load_key _ rfl n3 rfl rfl _ M6.held.2.2.2.1 ?_)
                | (refine load_key _ rfl n5 rfl rfl _ M6.held.2.1 ?_))
              go_ret
              exact ⟨rfl, M6.bel⟩
          | true =>
            cases o5 with
            | false =>
              have heq4 : ∀ w, (Op.equalIn 10000 24 (kv X) (kv U)).run Try.prog w = .ok false w := eq_key' lX lU (HF4.out rfl rfl)
              go_wp2_with (first
                | (refine load_key _ rfl n1 rfl rfl _ M6.held.2.2.2.2.2.1 ?_)
                | (refine load_key _ rfl n3 rfl rfl _ M6.held.2.2.2.1 ?_)
                | (refine load_key _ rfl n5 rfl rfl _ M6.held.2.1 ?_))
              go_ret
              exact ⟨rfl, M6.bel⟩
            | true =>
              have heq4 : ∀ w, (Op.equalIn 10000 24 (kv X) (kv U)).run Try.prog w = .ok false w := eq_key' lX lU (HF4.out rfl rfl)
              have heq5 : ∀ w, (Op.equalIn 10000 24 (kv X) (kv I)).run Try.prog w = .ok false w := eq_key' lX lW (HF5.out rfl rfl)
              have heq6 : ∀ w, (Op.equalIn 10000 24 (kv U) (kv I)).run Try.prog w = .ok false w := eq_key' lU lW (HF6.out rfl rfl)
              go_wp2_with (first
                | (refine load_key _ rfl n1 rfl rfl _ M6.held.2.2.2.2.2.1 ?_)
                | (refine load_key _ rfl n3 rfl rfl _ M6.held.2.2.2.1 ?_)
                | (refine load_key _ rfl n5 rfl rfl _ M6.held.2.1 ?_))
              go_ret
              exact ⟨rfl, M6.bel⟩

end Go.Proofs.Ytkencjibpljpfab
