/- KeyOrder: entries are ordered as their names, chunks as their places, all as their inodes. -/
import Derived.Test.YtkencjibpljpfaaKeyS
import Derived.Test.YtkencjibpljpfaaKeyO
namespace Go.Proofs.Ytkencjibpljpfaa
set_option linter.unusedVariables false
open Go.RowKit

theorem str_apart {s t : ByteArray} (h : ¬ s = t) : (s.toList == t.toList) = false ∧ (s.data.toList == t.data.toList) = false ∧ (s.data == t.data) = false := by
  have h1 : ¬ s.data = t.data := fun e => h (ByteArray.ext e)
  exact ⟨by rw [ByteArray.toList_eq, ByteArray.toList_eq]; simpa using h1, by simpa using h1, by simpa using h1⟩
theorem rless_val {K L : List UInt8} {b : Bool} (hK : K.length = 24) (hL : L.length = 24) (h : Op.bytesLess K L = b) (w : World) : Calls Try.prog 26 #[kv K, kv L] w fun e w' => e = .returned (.bool b) ∧ Below w.heap.size w w' := by
  rw [← h]
  exact rless_calls w K L hK hL

set_option maxRecDepth 100000 in
set_option maxHeartbeats 16000000 in
theorem order_walk (w : World) (a : Int) (s t : ByteArray) (p q c : Int) :
    Calls Try.prog 7 #[.int .i64 a, .string s, .string t, .int .i64 p, .int .i64 q, .int .i64 c] w fun e w' => e = .returned (.bool true) ∧ Below w.heap.size w w' := by
  have F1 : (okN a && okS s.data.toList) = true → (okN a && okS t.data.toList) = true → Op.bytesLess (entryR a s.data.toList) (entryR a t.data.toList) = Op.bytesLess s.toList t.toList ∧ (entryR a s.data.toList == entryR a t.data.toList) = (s.data.toList == t.data.toList) := fun h1 h2 => by
    simp only [Bool.and_eq_true] at h1 h2
    refine ⟨by rw [entry_less h1.1 h1.2 h2.2, ByteArray.toList_eq, ByteArray.toList_eq], ?_⟩
    rw [entry_inj h1.1 h1.2 h2.1 h2.2]
    simp
  have F2 : (okN a && okP p) = true → (okN a && okP q) = true → Op.bytesLess (chunkR a p) (chunkR a q) = decide (p < q) := fun h1 h2 => by
    simp only [Bool.and_eq_true] at h1 h2
    rw [chunk_less h1.1 h2.1 h1.2 h2.2]
    simp
  have F3 : (okN a && okP p) = true → (okN c && okP p) = true → a < c → Op.bytesLess (chunkR a p) (chunkR c p) = true := fun h1 h2 h3 => by
    simp only [Bool.and_eq_true] at h1 h2
    rw [chunk_less h1.1 h2.1 h1.2 h2.2]
    simp [h3]
  have F4 : okN a = true → (okN a && okS s.data.toList) = true → Op.bytesLess (inodeR a) (entryR a s.data.toList) = true := fun h1 h2 => by
    simp only [Bool.and_eq_true] at h2
    exact inode_entry h1 h2.2
  have F5 : (okN a && okS s.data.toList) = true → (okN a && okP p) = true → Op.bytesLess (entryR a s.data.toList) (chunkR a p) = true := fun h1 h2 => by
    simp only [Bool.and_eq_true] at h1 h2
    exact entry_before h1.1 h1.2 h2.2
  have C1 : Hid (∀ w, Calls Try.prog 12 #[.int .i64 a, .string s] w fun e w' => e = .returned (.tuple #[kv (entryR a s.data.toList), .bool (okN a && okS s.data.toList)]) ∧ Below w.heap.size w w') := fun w => entry_calls a s w
  have C2 : Hid (∀ w, Calls Try.prog 12 #[.int .i64 a, .string t] w fun e w' => e = .returned (.tuple #[kv (entryR a t.data.toList), .bool (okN a && okS t.data.toList)]) ∧ Below w.heap.size w w') := fun w => entry_calls a t w
  have C3 : Hid (∀ w, Calls Try.prog 14 #[.int .i64 a, .int .i64 p] w fun e w' => e = .returned (.tuple #[kv (chunkR a p), .bool (okN a && okP p)]) ∧ Below w.heap.size w w') := fun w => chunk_calls a p w
  have C4 : Hid (∀ w, Calls Try.prog 14 #[.int .i64 a, .int .i64 q] w fun e w' => e = .returned (.tuple #[kv (chunkR a q), .bool (okN a && okP q)]) ∧ Below w.heap.size w w') := fun w => chunk_calls a q w
  have C5 : Hid (∀ w, Calls Try.prog 14 #[.int .i64 c, .int .i64 p] w fun e w' => e = .returned (.tuple #[kv (chunkR c p), .bool (okN c && okP p)]) ∧ Below w.heap.size w w') := fun w => chunk_calls c p w
  have C6 : Hid (∀ w, Calls Try.prog 10 #[.int .i64 a] w fun e w' => e = .returned (.tuple #[kv (inodeR a), .bool (okN a)]) ∧ Below w.heap.size w w') := fun w => inode_calls a w
  have lX : (entryR a s.data.toList).length = 24 := entryR_length _ _
  have lY : (entryR a t.data.toList).length = 24 := entryR_length _ _
  have lU : (chunkR a p).length = 24 := chunkR_length _ _
  have lV : (chunkR a q).length = 24 := chunkR_length _ _
  have lW : (chunkR c p).length = 24 := chunkR_length _ _
  have lZ : (inodeR a).length = 24 := inodeR_length _
  generalize (okN a && okS s.data.toList) = o1 at *
  generalize (okN a && okS t.data.toList) = o2 at *
  generalize (okN a && okP p) = o3 at *
  generalize (okN a && okP q) = o4 at *
  generalize (okN c && okP p) = o5 at *
  generalize okN a = o6 at *
  generalize entryR a s.data.toList = X at *
  generalize entryR a t.data.toList = Y at *
  generalize chunkR a p = U at *
  generalize chunkR a q = V at *
  generalize chunkR c p = I at *
  generalize inodeR a = J at *
  have HF1 : Hid (o1 = true → o2 = true → Op.bytesLess X Y = Op.bytesLess s.toList t.toList ∧ (X == Y) = (s.data.toList == t.data.toList)) := F1
  have HF2 : Hid (o3 = true → o4 = true → Op.bytesLess U V = decide (p < q)) := F2
  have HF3 : Hid (o3 = true → o5 = true → a < c → Op.bytesLess U I = true) := F3
  have HF4 : Hid (o6 = true → o1 = true → Op.bytesLess J X = true) := F4
  have HF5 : Hid (o1 = true → o3 = true → Op.bytesLess X U = true) := F5
  clear F1 F2 F3 F4 F5
  go_enter Try.func7, Try.ntmps7
  go_upto_region 2 with (go_at_call 9; refine (shown_calls _).mono ?_; rintro e w0 ⟨rfl, b0⟩)
  have M0 := Mem.start b0
  clear b0
  go_upto_region 3 with (first
    | (go_at_call 12; refine (C1.out _).mono ?_; rintro e v1 ⟨rfl, b1⟩)
    | (refine store_key rfl _ _ rfl _ rfl _ rfl lX (zs 24) (zero_has v1 v1.heap.size rfl) ?_; intro w1 h1 t1 s1))
  have M1 := M0.add b1 h1 t1
  clear b1 h1 t1 s1 M0
  generalize v1.heap.size = n1 at *
  go_upto_region 4 with (first
    | (go_at_call 12; refine (C2.out _).mono ?_; rintro e v2 ⟨rfl, b2⟩)
    | (refine store_key rfl _ _ rfl _ rfl _ rfl lY (zs 24) (zero_has v2 v2.heap.size rfl) ?_; intro w2 h2 t2 s2))
  have M2 := M1.add b2 h2 t2
  clear b2 h2 t2 s2 M1
  generalize v2.heap.size = n2 at *
  go_cut [60] (fun v wc => v = .bool false ∧ Mem w wc [(n2, Y), (n1, X)])
  case first =>
    cases o1 with
    | false =>
      go_wp2_with fail
      go_meet
      case rel => exact ⟨rfl, M2⟩
    | true =>
      cases o2 with
      | false =>
        go_wp2_with fail
        go_meet
        case rel => exact ⟨rfl, M2⟩
      | true =>
        by_cases hst : s = t
        · subst hst
          have hb : Op.bytesLess s.toList s.toList = false := less_self _
          have L1 : Hid (∀ w, Calls Try.prog 26 #[kv X, kv Y] w fun e w' => e = .returned (.bool false) ∧ Below w.heap.size w w') := rless_val lX lY ((HF1.out rfl rfl).1.trans hb)
          have heq : ∀ w, (Op.equalIn 10000 24 (kv X) (kv Y)).run Try.prog w = .ok true w := eq_key' lX lY ((HF1.out rfl rfl).2.trans (by simp))
          go_wp2_with (first
            | (refine load_key _ rfl n1 rfl rfl _ N.held.2.1 ?_)
            | (refine load_key _ rfl n2 rfl rfl _ N.held.1 ?_)
            | (refine load_key _ rfl n1 rfl rfl _ M2.held.2.1 ?_)
            | (refine load_key _ rfl n2 rfl rfl _ M2.held.1 ?_)
            | (go_at_call 26; refine (L1.out _).mono ?_; rintro e Nw ⟨rfl, Nb⟩; have N := M2.called Nb))
          go_meet
          case rel => exact ⟨rfl, N⟩
        · obtain ⟨e1, e2, e3⟩ := str_apart hst
          cases hb : Op.bytesLess s.toList t.toList with
          | false =>
            have L1 : Hid (∀ w, Calls Try.prog 26 #[kv X, kv Y] w fun e w' => e = .returned (.bool false) ∧ Below w.heap.size w w') := rless_val lX lY ((HF1.out rfl rfl).1.trans hb)
            have heq : ∀ w, (Op.equalIn 10000 24 (kv X) (kv Y)).run Try.prog w = .ok false w := eq_key' lX lY ((HF1.out rfl rfl).2.trans e2)
            go_wp2_with (first
              | (refine load_key _ rfl n1 rfl rfl _ N.held.2.1 ?_)
              | (refine load_key _ rfl n2 rfl rfl _ N.held.1 ?_)
              | (refine load_key _ rfl n1 rfl rfl _ M2.held.2.1 ?_)
              | (refine load_key _ rfl n2 rfl rfl _ M2.held.1 ?_)
              | (go_at_call 26; refine (L1.out _).mono ?_; rintro e Nw ⟨rfl, Nb⟩; have N := M2.called Nb))
            go_meet
            case rel => exact ⟨rfl, N⟩
          | true =>
            have L1 : Hid (∀ w, Calls Try.prog 26 #[kv X, kv Y] w fun e w' => e = .returned (.bool true) ∧ Below w.heap.size w w') := rless_val lX lY ((HF1.out rfl rfl).1.trans hb)
            have heq : ∀ w, (Op.equalIn 10000 24 (kv X) (kv Y)).run Try.prog w = .ok false w := eq_key' lX lY ((HF1.out rfl rfl).2.trans e2)
            go_wp2_with (first
              | (refine load_key _ rfl n1 rfl rfl _ N.held.2.1 ?_)
              | (refine load_key _ rfl n2 rfl rfl _ N.held.1 ?_)
              | (refine load_key _ rfl n1 rfl rfl _ M2.held.2.1 ?_)
              | (refine load_key _ rfl n2 rfl rfl _ M2.held.1 ?_)
              | (go_at_call 26; refine (L1.out _).mono ?_; rintro e Nw ⟨rfl, Nb⟩; have N := M2.called Nb))
            go_meet
            case rel => exact ⟨rfl, N⟩
  case rest =>
    obtain ⟨rfl, M2⟩ := hcut
    go_upto_region 7 with (first
      | (go_at_call 14; refine (C3.out _).mono ?_; rintro e v3 ⟨rfl, b3⟩)
      | (refine store_key rfl _ _ rfl _ rfl _ rfl lU (zs 24) (zero_has v3 v3.heap.size rfl) ?_; intro w3 h3 t3 s3))
    have M3 := M2.add b3 h3 t3
    clear b3 h3 t3 s3 M2
    generalize v3.heap.size = n3 at *
    go_upto_region 8 with (first
      | (go_at_call 14; refine (C4.out _).mono ?_; rintro e v4 ⟨rfl, b4⟩)
      | (refine store_key rfl _ _ rfl _ rfl _ rfl lV (zs 24) (zero_has v4 v4.heap.size rfl) ?_; intro w4 h4 t4 s4))
    have M4 := M3.add b4 h4 t4
    clear b4 h4 t4 s4 M3
    generalize v4.heap.size = n4 at *
    go_cut [85] (fun v wc => v = .bool false ∧ Mem w wc [(n4, V), (n3, U), (n2, Y), (n1, X)])
    case first =>
      cases o3 with
      | false =>
        go_wp2_with fail
        go_meet
        case rel => exact ⟨rfl, M4⟩
      | true =>
        cases o4 with
        | false =>
          go_wp2_with fail
          go_meet
          case rel => exact ⟨rfl, M4⟩
        | true =>
          by_cases hpq : p < q
          · have L1 : Hid (∀ w, Calls Try.prog 26 #[kv U, kv V] w fun e w' => e = .returned (.bool true) ∧ Below w.heap.size w w') := rless_val lU lV ((HF2.out rfl rfl).trans (by simp; omega))
            go_wp2_with (first
              | (refine load_key _ rfl n3 rfl rfl _ M4.held.2.1 ?_)
              | (refine load_key _ rfl n4 rfl rfl _ M4.held.1 ?_)
              | (go_at_call 26; refine (L1.out _).mono ?_; rintro e Nw ⟨rfl, Nb⟩; have N := M4.called Nb))
            go_meet
            case rel => exact ⟨rfl, N⟩
          · have L1 : Hid (∀ w, Calls Try.prog 26 #[kv U, kv V] w fun e w' => e = .returned (.bool false) ∧ Below w.heap.size w w') := rless_val lU lV ((HF2.out rfl rfl).trans (by simp; omega))
            go_wp2_with (first
              | (refine load_key _ rfl n3 rfl rfl _ M4.held.2.1 ?_)
              | (refine load_key _ rfl n4 rfl rfl _ M4.held.1 ?_)
              | (go_at_call 26; refine (L1.out _).mono ?_; rintro e Nw ⟨rfl, Nb⟩; have N := M4.called Nb))
            go_meet
            case rel => exact ⟨rfl, N⟩
    case rest =>
      obtain ⟨rfl, M4⟩ := hcut
      go_upto_region 11 with (first
        | (go_at_call 14; refine (C5.out _).mono ?_; rintro e v5 ⟨rfl, b5⟩)
        | (refine store_key rfl _ _ rfl _ rfl _ rfl lW (zs 24) (zero_has v5 v5.heap.size rfl) ?_; intro w5 h5 t5 s5))
      have M5 := M4.add b5 h5 t5
      clear b5 h5 t5 s5 M4
      generalize v5.heap.size = n5 at *
      go_cut [106] (fun v wc => v = .bool false ∧ Mem w wc [(n5, I), (n4, V), (n3, U), (n2, Y), (n1, X)])
      case first =>
        cases o3 with
        | false =>
          go_wp2_with fail
          go_meet
          case rel => exact ⟨rfl, M5⟩
        | true =>
          cases o5 with
          | false =>
            go_wp2_with fail
            go_meet
            case rel => exact ⟨rfl, M5⟩
          | true =>
            by_cases hac : a < c
            · have L1 : Hid (∀ w, Calls Try.prog 26 #[kv U, kv I] w fun e w' => e = .returned (.bool true) ∧ Below w.heap.size w w') := rless_val lU lW (HF3.out rfl rfl hac)
              go_wp2_with (first
                | (refine load_key _ rfl n3 rfl rfl _ M5.held.2.2.1 ?_)
                | (refine load_key _ rfl n5 rfl rfl _ M5.held.1 ?_)
                | (go_at_call 26; refine (L1.out _).mono ?_; rintro e Nw ⟨rfl, Nb⟩; have N := M5.called Nb))
              go_meet
              case rel => exact ⟨rfl, N⟩
            · go_wp2_with fail
              go_meet
              case rel => exact ⟨rfl, M5⟩
      case rest =>
        obtain ⟨rfl, M5⟩ := hcut
        go_upto_region 14 with (first
          | (go_at_call 10; refine (C6.out _).mono ?_; rintro e v6 ⟨rfl, b6⟩)
          | (refine store_key rfl _ _ rfl _ rfl _ rfl lZ (zs 24) (zero_has v6 v6.heap.size rfl) ?_; intro w6 h6 t6 s6))
        have M6 := M5.add b6 h6 t6
        clear b6 h6 t6 s6 M5
        generalize v6.heap.size = n6 at *
        go_cut [133] (fun v wc => v = .bool false ∧ Mem w wc [(n6, J), (n5, I), (n4, V), (n3, U), (n2, Y), (n1, X)])
        case first =>
          cases o6 with
          | false =>
            cases o1 with
            | false =>
              cases o3 with
              | false =>
                go_wp2_with fail
                go_meet
                case rel => exact ⟨rfl, M6⟩
              | true =>
                go_wp2_with fail
                go_meet
                case rel => exact ⟨rfl, M6⟩
            | true =>
              cases o3 with
              | false =>
                go_wp2_with fail
                go_meet
                case rel => exact ⟨rfl, M6⟩
              | true =>
                have L2 : Hid (∀ w, Calls Try.prog 26 #[kv X, kv U] w fun e w' => e = .returned (.bool true) ∧ Below w.heap.size w w') := rless_val lX lU (HF5.out rfl rfl)
                go_wp2_with (first
                  | (refine load_key _ rfl n1 rfl rfl _ M6.held.2.2.2.2.2.1 ?_)
                  | (refine load_key _ rfl n3 rfl rfl _ M6.held.2.2.2.1 ?_)
                  | (go_at_call 26; refine (L2.out _).mono ?_; rintro e Ow ⟨rfl, Ob⟩; have O := M6.called Ob))
                go_meet
                case rel => exact ⟨rfl, O⟩
          | true =>
            cases o1 with
            | false =>
              cases o3 with
              | false =>
                go_wp2_with fail
                go_meet
                case rel => exact ⟨rfl, M6⟩
              | true =>
                go_wp2_with fail
                go_meet
                case rel => exact ⟨rfl, M6⟩
            | true =>
              cases o3 with
              | false =>
                have L1 : Hid (∀ w, Calls Try.prog 26 #[kv J, kv X] w fun e w' => e = .returned (.bool true) ∧ Below w.heap.size w w') := rless_val lZ lX (HF4.out rfl rfl)
                go_wp2_with (first
                  | (refine load_key _ rfl n6 rfl rfl _ M6.held.1 ?_)
                  | (refine load_key _ rfl n1 rfl rfl _ M6.held.2.2.2.2.2.1 ?_)
                  | (go_at_call 26; refine (L1.out _).mono ?_; rintro e Nw ⟨rfl, Nb⟩; have N := M6.called Nb))
                go_meet
                case rel => exact ⟨rfl, N⟩
              | true =>
                have L1 : Hid (∀ w, Calls Try.prog 26 #[kv J, kv X] w fun e w' => e = .returned (.bool true) ∧ Below w.heap.size w w') := rless_val lZ lX (HF4.out rfl rfl)
                have L2 : Hid (∀ w, Calls Try.prog 26 #[kv X, kv U] w fun e w' => e = .returned (.bool true) ∧ Below w.heap.size w w') := rless_val lX lU (HF5.out rfl rfl)
                go_wp2_with (first
                  | (refine load_key _ rfl n1 rfl rfl _ N.held.2.2.2.2.2.1 ?_)
                  | (refine load_key _ rfl n3 rfl rfl _ N.held.2.2.2.1 ?_)
                  | (refine load_key _ rfl n6 rfl rfl _ M6.held.1 ?_)
                  | (refine load_key _ rfl n1 rfl rfl _ M6.held.2.2.2.2.2.1 ?_)
                  | (go_at_call 26; have _q := N; refine (L2.out _).mono ?_; rintro e Ow ⟨rfl, Ob⟩; have O := N.called Ob)
                  | (go_at_call 26; refine (L1.out _).mono ?_; rintro e Nw ⟨rfl, Nb⟩; have N := M6.called Nb))
                go_meet
                case rel => exact ⟨rfl, O⟩
        case rest =>
          obtain ⟨rfl, M7⟩ := hcut
          go_wp2_with fail
          go_ret
          exact ⟨rfl, M7.bel⟩

end Go.Proofs.Ytkencjibpljpfaa
