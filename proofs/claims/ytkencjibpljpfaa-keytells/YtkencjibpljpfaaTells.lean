/- KeyTells: keys are what the document says. -/
import Derived.Test.YtkencjibpljpfaaKeyR
namespace Go.Proofs.Ytkencjibpljpfaa
set_option linter.unusedVariables false
open Go.RowKit

set_option maxRecDepth 100000 in
set_option maxHeartbeats 8000000 in
theorem tells_walk (w : World) (a : Int) (s : ByteArray) (p : Int) :
    Calls Try.prog 3 #[.int .i64 a, .string s, .int .i64 p] w fun e w' => e = .returned (.bool true) ∧ Below w.heap.size w w' := by
  have C1 : Hid (∀ w, Calls Try.prog 10 #[.int .i64 a] w fun e w' => e = .returned (.tuple #[kv (inodeR a), .bool (okN a)]) ∧ Below w.heap.size w w') := fun w => inode_calls a w
  have C2 : Hid (∀ w, Calls Try.prog 11 #[.int .i64 a] w fun e w' => e = .returned (.tuple #[kv (inodeR a), .bool (okN a)]) ∧ Below w.heap.size w w') := fun w => rinode_calls a w
  have C3 : Hid (∀ w, Calls Try.prog 12 #[.int .i64 a, .string s] w fun e w' => e = .returned (.tuple #[kv (entryR a s.data.toList), .bool (okN a && okS s.data.toList)]) ∧ Below w.heap.size w w') := fun w => entry_calls a s w
  have C4 : Hid (∀ w, Calls Try.prog 13 #[.int .i64 a, .string s] w fun e w' => e = .returned (.tuple #[kv (entryR a s.data.toList), .bool (okN a && okS s.data.toList)]) ∧ Below w.heap.size w w') := fun w => rentry_calls a s w
  have C5 : Hid (∀ w, Calls Try.prog 14 #[.int .i64 a, .int .i64 p] w fun e w' => e = .returned (.tuple #[kv (chunkR a p), .bool (okN a && okP p)]) ∧ Below w.heap.size w w') := fun w => chunk_calls a p w
  have C6 : Hid (∀ w, Calls Try.prog 15 #[.int .i64 a, .int .i64 p] w fun e w' => e = .returned (.tuple #[kv (chunkR a p), .bool (okN a && okP p)]) ∧ Below w.heap.size w w') := fun w => rchunk_calls a p w
  have lX : (inodeR a).length = 24 := inodeR_length _
  have lY : (entryR a s.data.toList).length = 24 := entryR_length _ _
  have lU : (chunkR a p).length = 24 := chunkR_length _ _
  generalize (okN a && okS s.data.toList) = o2 at *
  generalize (okN a && okP p) = o3 at *
  generalize okN a = o1 at *
  generalize inodeR a = X at *
  generalize entryR a s.data.toList = Y at *
  generalize chunkR a p = U at *
  have e1 : ∀ w, (Op.equalIn 10000 24 (kv X) (kv X)).run Try.prog w = .ok true w := eq_key' lX lX (by simp)
  have e2 : ∀ w, (Op.equalIn 10000 24 (kv Y) (kv Y)).run Try.prog w = .ok true w := eq_key' lY lY (by simp)
  have e3 : ∀ w, (Op.equalIn 10000 24 (kv U) (kv U)).run Try.prog w = .ok true w := eq_key' lU lU (by simp)
  go_enter Try.func3, Try.ntmps3
  go_upto_region 2 with (go_at_call 9; refine (shown_calls _).mono ?_; rintro e w0 ⟨rfl, b0⟩)
  have M0 := Mem.start b0
  clear b0
  go_upto_region 3 with (first
    | (go_at_call 10; refine (C1.out _).mono ?_; rintro e v1 ⟨rfl, b1⟩)
    | (refine store_key rfl _ _ rfl _ rfl _ rfl lX (zs 24) (zero_has v1 v1.heap.size rfl) ?_; intro w1 h1 t1 s1))
  have M1 := M0.add b1 h1 t1
  clear b1 h1 t1 s1 M0
  generalize v1.heap.size = n1 at *
  go_upto_region 4 with (first
    | (go_at_call 11; refine (C2.out _).mono ?_; rintro e v2 ⟨rfl, b2⟩)
    | (refine store_key rfl _ _ rfl _ rfl _ rfl lX (zs 24) (zero_has v2 v2.heap.size rfl) ?_; intro w2 h2 t2 s2))
  have M2 := M1.add b2 h2 t2
  clear b2 h2 t2 s2 M1
  generalize v2.heap.size = n2 at *
  go_upto_region 5 with (first
    | (go_at_call 12; refine (C3.out _).mono ?_; rintro e v3 ⟨rfl, b3⟩)
    | (refine store_key rfl _ _ rfl _ rfl _ rfl lY (zs 24) (zero_has v3 v3.heap.size rfl) ?_; intro w3 h3 t3 s3))
  have M3 := M2.add b3 h3 t3
  clear b3 h3 t3 s3 M2
  generalize v3.heap.size = n3 at *
  go_upto_region 6 with (first
    | (go_at_call 13; refine (C4.out _).mono ?_; rintro e v4 ⟨rfl, b4⟩)
    | (refine store_key rfl _ _ rfl _ rfl _ rfl lY (zs 24) (zero_has v4 v4.heap.size rfl) ?_; intro w4 h4 t4 s4))
  have M4 := M3.add b4 h4 t4
  clear b4 h4 t4 s4 M3
  generalize v4.heap.size = n4 at *
  go_upto_region 7 with (first
    | (go_at_call 14; refine (C5.out _).mono ?_; rintro e v5 ⟨rfl, b5⟩)
    | (refine store_key rfl _ _ rfl _ rfl _ rfl lU (zs 24) (zero_has v5 v5.heap.size rfl) ?_; intro w5 h5 t5 s5))
  have M5 := M4.add b5 h5 t5
  clear b5 h5 t5 s5 M4
  generalize v5.heap.size = n5 at *
  go_upto_region 8 with (first
    | (go_at_call 15; refine (C6.out _).mono ?_; rintro e v6 ⟨rfl, b6⟩)
    | (refine store_key rfl _ _ rfl _ rfl _ rfl lU (zs 24) (zero_has v6 v6.heap.size rfl) ?_; intro w6 h6 t6 s6))
  have M6 := M5.add b6 h6 t6
  clear b6 h6 t6 s6 M5
  generalize v6.heap.size = n6 at *
  go_wp2_with (first
    | (refine load_key _ rfl n1 rfl rfl _ M6.held.2.2.2.2.2.1 ?_)
    | (refine load_key _ rfl n2 rfl rfl _ M6.held.2.2.2.2.1 ?_)
    | (refine load_key _ rfl n3 rfl rfl _ M6.held.2.2.2.1 ?_)
    | (refine load_key _ rfl n4 rfl rfl _ M6.held.2.2.1 ?_)
    | (refine load_key _ rfl n5 rfl rfl _ M6.held.2.1 ?_)
    | (refine load_key _ rfl n6 rfl rfl _ M6.held.1 ?_))
  all_goals trace_state
  go_ret
  exact ⟨rfl, M6.bel⟩

end Go.Proofs.Ytkencjibpljpfaa
