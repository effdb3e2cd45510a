/- The document's bounds in memory; its End, to, of, key, Has, Any. -/
import Derived.Test.YtbdolhmeknlnpaaTe8M
import Derived.Test.YtbdolhmeknlnpaaSpN
import Derived.Test.YtbdolhmeknlnpaaKeyS2
namespace Go.Proofs.Ytbdolhmeknlnpaa
set_option linter.unusedVariables false
open Go.RowKit

def encT : Enc Bd 1 := ⟨fun x => [.string (str x.b)], fun _ => rfl, fun _ v hv => by rw [List.mem_singleton] at hv; subst hv; rfl⟩
def encB : Enc Bool 1 := ⟨fun x => [.bool x], fun _ => rfl, fun _ v hv => by rw [List.mem_singleton] at hv; subst hv; rfl⟩
theorem rowT : RowTy Try.prog encT 42 9 16 := ⟨Try.underlying42, ⟨.string ByteArray.empty, by kernel_rfl, rfl⟩, by decide⟩
theorem rowB : RowTy Try.prog encB 44 4 1 := ⟨Try.underlying44, ⟨.bool false, by kernel_rfl, rfl⟩, by decide⟩
theorem str_push (k : Nat) : str (List.replicate k 255) ++ (⟨#[255]⟩ : ByteArray) = str (List.replicate (k + 1) 255) := by
  apply ByteArray.ext
  rw [ByteArray.data_append, List.replicate_succ']
  exact List.append_toArray (List.replicate k (255 : UInt8)) [255]
set_option maxHeartbeats 1000000 in
theorem end_calls (w : World) : Calls Try.prog 59 #[] w fun e w' => e = .returned (.string (str endB)) ∧ w' = w := by
  go_enter Try.func59, Try.ntmps59
  go_wp2
  go_loopg [1, 2] 25 (fun gg s i wr => ∃ k : Nat, k + gg = 25 ∧ i = .int .i64 (k : Int) ∧ s = .string (str (List.replicate k 255)) ∧ wr = w)
  case atStart => exact ⟨0, by omega, rfl, rfl, rfl⟩
  case round =>
    obtain ⟨k, hk, rfl, rfl, rfl⟩ := hrel
    cases gk with
    | zero =>
      have hk2 : k = 25 := by omega
      subst hk2
      go_wp2
      go_ret
      exact ⟨rfl, rfl⟩
    | succ gg =>
      have hlt : (k : Int) < 25 := by omega
      have hp := str_push k
      have hq : (str (List.replicate k 255)).size = k := by rw [str_size, List.length_replicate]
      have hk25 : k < 25 := by omega
      go_wp2
      all_goals (try (exfalso; omega))
      go_roundg gg
      case measure => omega
      case rel => exact ⟨k + 1, by omega, congrArg (Value.int .i64) (show (k : Int) + 1 = ((k + 1 : Nat) : Int) by omega), by first | rfl | (rw [hp]) | (rw [← hp]), rfl⟩
set_option maxRecDepth 100000 in
set_option maxHeartbeats 1000000 in
theorem to_calls (w : World) (s : Sp) : Calls Try.prog 46 #[spv s] w fun e w' => e = .returned (.string (str s.bt.b)) ∧ Below w.heap.size w w' := by
  obtain ⟨F, T, e, hF, hT⟩ := s
  have h1 : HasS (w.alloc (.cells (sc F T e).toArray 35)) w.heap.size F T e := HasS.new w _ _ _ hF hT
  have cE := h1.ofE
  have conv : (convert 53 9 (.slice (some ⟨w.heap.size, 24, none⟩) 24 24)).run Try.prog (w.alloc (.cells (sc F T e).toArray 35)) = .ok (.string (str T)) (w.alloc (.cells (sc F T e).toArray 35)) := conv_part h1.ofT hT 24
  have HB : Hid (Below w.heap.size w (w.alloc (.cells (sc F T e).toArray 35))) := (Below.refl _ w).alloc (Nat.le_refl _) _
  have HT : Hid ((Sp.mk F T e hF hT).bt.b = if e then endB else T) := (show _ = _ by unfold Sp.bt; cases e <;> rfl)
  show Calls Try.prog 46 #[sv F T e] w _
  generalize (Sp.mk F T e hF hT).bt.b = RB at *
  cases e with
  | true =>
    clear h1 conv
    go_enter Try.func46, Try.ntmps46
    go_wp2_with (go_at_call 59; refine (end_calls _).mono ?_; rintro e w1 ⟨rfl, rfl⟩)
    go_ret
    exact ⟨by rw [HT.out]; rfl, HB.out⟩
  | false =>
    clear h1
    go_enter Try.func46, Try.ntmps46
    go_wp2_with (go_at_call 59; refine (end_calls _).mono ?_; rintro e w1 ⟨rfl, rfl⟩)
    (refine bodyPost_ret (v := .string (str T)) (by simp [results, go_sem]) rfl ?_)
    exact ⟨by rw [HT.out]; rfl, HB.out⟩
theorem copy_run (w : World) (g off : Nat) (s : List UInt8) (hl : s.length = 24) (cur : Array Value) (t ty : TypeId) (hg : w.heap[g]? = some (.cells cur t (0, 0))) (hfit : off + 24 ≤ cur.size) :
    (Builtin.copy_ #[53, 9] ty #[.slice (some ⟨g, off, none⟩) 24 24, .string (str s)]).run Try.prog w = .ok (goInt (24 : Nat)) (w.setRow g (cur.toList.take off ++ bc s ++ cur.toList.drop (off + 24)).toArray) := by
  have hsz : (Try.prog.info? 5).map (·.size) = some 1 := by kernel_rfl
  have hs24 : (str s).size = 24 := by rw [str_size, hl]
  have hrun := Lib.run_copy_row_string (P := Try.prog) w 53 9 ty 5 g off 24 24 (str s) cur t Try.underlying53 hsz hg (by rw [hs24]; exact Nat.le_refl _) (by rw [hs24]; exact hfit)
  rw [hs24, str_list, bc_map] at hrun
  exact hrun
theorem copyK (w : World) (g : Nat) (s K : List UInt8) (hl : s.length = 24) (hK : Has w g K) (ty : TypeId) : ∃ w', (Builtin.copy_ #[53, 9] ty #[.slice (some ⟨g, 0, none⟩) 24 24, .string (str s)]).run Try.prog w = .ok (goInt (24 : Nat)) w' ∧ Has w' g s ∧ Touch g none w w' ∧ w'.heap.size = w.heap.size := by
  have h := copy_run w g 0 s hl _ _ ty hK.blk (by rw [bc_size, hK.len]; exact Nat.le_refl _)
  have e : ((bc K).toArray.toList.take 0 ++ bc s ++ (bc K).toArray.toList.drop (0 + 24)).toArray = (bc s).toArray := by
    have hl' : (bc K).length = 24 := by rw [bc_length, hK.len]
    rw [List.take_zero, List.nil_append, List.drop_of_length_le (by simp [hl']), List.append_nil]
  rw [e] at h
  exact ⟨_, h, hK.setRow s hl, touch_setRow _ _ _, by simp⟩
theorem copyF (w : World) (g : Nat) (s F T : List UInt8) (e : Bool) (hl : s.length = 24) (hK : HasS w g F T e) (ty : TypeId) : ∃ w', (Builtin.copy_ #[53, 9] ty #[.slice (some ⟨g, 0, none⟩) 24 24, .string (str s)]).run Try.prog w = .ok (goInt (24 : Nat)) w' ∧ HasS w' g s T e ∧ Touch g none w w' ∧ w'.heap.size = w.heap.size := by
  have h := copy_run w g 0 s hl _ _ ty hK.blk (by rw [sv_size _ _ _ hK.f hK.t]; omega)
  have e1 := sc_F F s T e hK.f hl
  have e2 : (kv s).cells.toList = bc s := rfl
  rw [e2] at e1
  rw [e1] at h
  exact ⟨_, h, hK.row hl hK.t, touch_setRow _ _ _, by simp⟩
theorem copyT (w : World) (g : Nat) (s F T : List UInt8) (e : Bool) (hl : s.length = 24) (hK : HasS w g F T e) (ty : TypeId) : ∃ w', (Builtin.copy_ #[53, 9] ty #[.slice (some ⟨g, 24, none⟩) 24 24, .string (str s)]).run Try.prog w = .ok (goInt (24 : Nat)) w' ∧ HasS w' g F s e ∧ Touch g none w w' ∧ w'.heap.size = w.heap.size := by
  have h := copy_run w g 24 s hl _ _ ty hK.blk (by rw [sv_size _ _ _ hK.f hK.t]; omega)
  have e1 := sc_T F T s e hK.f hK.t
  have e2 : (kv s).cells.toList = bc s := rfl
  rw [e2] at e1
  rw [e1] at h
  exact ⟨_, h, hK.row hK.f hl, touch_setRow _ _ _, by simp⟩
theorem upon_run {P : Program} {o : Oper} {a : Act} {K : Act → World → Prop} {Q : Exit → Act → World → Prop} {m : Sem Value} {w w' : World} {v : Value} (hr : m.run P w = .ok v w') (h : K (a.put o.dst v) w') : Oper.upon P o a K Q ((m.run P w).andThen fun a w' => Result.ok (Next.value a) w') := by
  rw [hr]
  simp only [Result.andThen]
  rw [Oper.upon_value]
  exact h
set_option maxRecDepth 100000 in
set_option maxHeartbeats 1000000 in
/-- The key of a bound that is one. -/
theorem rkey_calls (w : World) (K : List UInt8) (hK : K.length = 24) : Calls Try.prog 29 #[.string (str K)] w fun e w' => e = .returned (kv K) ∧ Below w.heap.size w w' := by
  have h0 : Has ((w.alloc (.cells (bc (zs 24)).toArray 30)).alloc (.cells (bc (zs 24)).toArray 30)) w.heap.size (zs 24) := (Has.new w (zs 24) rfl).alloc _
  have h1 : Has ((w.alloc (.cells (bc (zs 24)).toArray 30)).alloc (.cells (bc (zs 24)).toArray 30)) (w.heap.size + 1) (zs 24) := by have := Has.new (w.alloc (.cells (bc (zs 24)).toArray 30)) (zs 24) rfl; simpa using this
  have HS : Hid (Has ((w.alloc (.cells (bc (zs 24)).toArray 30)).alloc (.cells (bc (zs 24)).toArray 30)) w.heap.size (zs 24) ∧ Has ((w.alloc (.cells (bc (zs 24)).toArray 30)).alloc (.cells (bc (zs 24)).toArray 30)) (w.heap.size + 1) (zs 24)) := ⟨h0, h1⟩
  clear h0 h1
  obtain ⟨w2, hr, h2, t2, s2⟩ := copyK _ (w.heap.size + 1) K (zs 24) hK HS.out.2 3
  have HR : Hid ((Builtin.copy_ #[53, 9] 3 #[.slice (some ⟨w.heap.size + 1, 0, none⟩) 24 24, .string (str K)]).run Try.prog ((w.alloc (.cells (bc (zs 24)).toArray 30)).alloc (.cells (bc (zs 24)).toArray 30)) = .ok (goInt (24 : Nat)) w2) := hr
  clear hr
  go_enter Try.func29, Try.ntmps29
  go_wp2
  refine upon_run HR.out ?_
  go_wp2_with (first
    | (refine load_key _ rfl (w.heap.size + 1) rfl rfl _ h2 ?_)
    | (refine store_key rfl _ _ rfl w.heap.size rfl _ rfl hK (zs 24) (HS.out.1.touch t2 (by omega)) ?_; intro w4 h4 t4 s4))
  refine ret_key rfl _ _ rfl h4 rfl ⟨rfl, ?_⟩
  exact below_touched (below_touched (below_made (below_made (Below.refl _ w) (Nat.le_refl _) _) (Nat.le_refl _) _) t2 (by omega) (Nat.le_refl _)) t4 (Nat.le_refl _) (Nat.le_refl _)
theorem hasS_end {w : World} {b : Nat} {F T : List UInt8} {e : Bool} (h : HasS w b F T e) : HasS (w.setCell ⟨b, 48, none⟩ (.bool true)) b F T true := by
  refine ⟨h.f, h.t, ?_⟩
  rw [setCell_eq_setRow w b 48 _ _ _ _ h.blk, setRow_heap w b _ _ _ _ h.blk]
  have hl : (bc F ++ bc T).length = 48 := by rw [List.length_append, bc_length, bc_length, h.f, h.t]
  congr 2
  simp only [sc, List.setIfInBounds_toArray]
  rw [List.set_append_right _ _ (by omega), hl]
  rfl
theorem hasS_other {w : World} {b p j : Nat} {F T : List UInt8} {e : Bool} {u : Value} (h : HasS w b F T e) (hp : b ≠ p) : HasS (w.setCell ⟨p, j, none⟩ u) b F T e := ⟨h.f, h.t, by rw [Below.heap_setCell _ _ _ _ (by simpa using hp)]; exact h.blk⟩
set_option maxRecDepth 100000 in
set_option maxHeartbeats 2000000 in
/-- The span from a bound to another one. -/
theorem rof_calls (w : World) (a b : Bd) (ha : a.b.length = 24) : Calls Try.prog 48 #[.string (str a.b), .string (str b.b)] w fun e w' => e = .returned (spv (ofB a b ha)) ∧ Below w.heap.size w w' := by
  have h0 : HasS ((w.alloc (.cells (sc (zs 24) (zs 24) false).toArray 35)).alloc (.cells (sc (zs 24) (zs 24) false).toArray 35)) w.heap.size (zs 24) (zs 24) false := (HasS.new w (zs 24) (zs 24) false rfl rfl).alloc _
  have h1 : HasS ((w.alloc (.cells (sc (zs 24) (zs 24) false).toArray 35)).alloc (.cells (sc (zs 24) (zs 24) false).toArray 35)) (w.heap.size + 1) (zs 24) (zs 24) false := by have := HasS.new (w.alloc (.cells (sc (zs 24) (zs 24) false).toArray 35)) (zs 24) (zs 24) false rfl rfl; simpa using this
  have HS : Hid (HasS ((w.alloc (.cells (sc (zs 24) (zs 24) false).toArray 35)).alloc (.cells (sc (zs 24) (zs 24) false).toArray 35)) w.heap.size (zs 24) (zs 24) false ∧ HasS ((w.alloc (.cells (sc (zs 24) (zs 24) false).toArray 35)).alloc (.cells (sc (zs 24) (zs 24) false).toArray 35)) (w.heap.size + 1) (zs 24) (zs 24) false) := ⟨h0, h1⟩
  have heq : ((str b.b).toList == (str endB).toList) = decide (¬ b.b.length = 24) := by
    rw [str_toList, str_toList]
    rcases b.h with h | h
    · have : ¬ b.b = endB := fun e => by rw [e] at h; cases h
      rw [Bool.eq_iff_iff]; simp [h, this]
    · rw [h]; rfl
  clear h0 h1
  by_cases hb : b.b.length = 24
  · have HR : Hid (ofB a b ha = ⟨a.b, b.b, false, ha, hb⟩) := (show _ = _ by unfold ofB; rw [dif_pos hb])
    rw [decide_eq_false (by simpa using hb)] at heq
    have HQ : Hid (((str b.b).toList == (str endB).toList) = false) := heq
    generalize ofB a b ha = R at *
    generalize a.b = A at *
    generalize b.b = Z at *
    obtain ⟨w2, hr, h2, t2, s2⟩ := copyF _ (w.heap.size + 1) A (zs 24) (zs 24) false ha HS.out.2 3
    have HC : Hid ((Builtin.copy_ #[53, 9] 3 #[.slice (some ⟨w.heap.size + 1, 0, none⟩) 24 24, .string (str A)]).run Try.prog ((w.alloc (.cells (sc (zs 24) (zs 24) false).toArray 35)).alloc (.cells (sc (zs 24) (zs 24) false).toArray 35)) = .ok (goInt (24 : Nat)) w2) := hr
    clear hr
    obtain ⟨w3, hr3, h3, t3, s3⟩ := copyT w2 (w.heap.size + 1) Z A (zs 24) false hb h2 3
    have HC3 : Hid ((Builtin.copy_ #[53, 9] 3 #[.slice (some ⟨w.heap.size + 1, 24, none⟩) 24 24, .string (str Z)]).run Try.prog w2 = .ok (goInt (24 : Nat)) w3) := hr3
    clear hr3
    go_enter Try.func48, Try.ntmps48
    go_wp2_with fail
    refine upon_run HC.out ?_
    go_wp2_with (go_at_call 59; refine (end_calls _).mono ?_; rintro e w1 ⟨rfl, rfl⟩)
    refine upon_run HC3.out ?_
    go_wp2_with (first
      | (refine load_el elS _ rfl (w.heap.size + 1) 0 rfl rfl (⟨A, Z, false, ha, hb⟩ : Sp) (HasS.inB (s := ⟨A, Z, false, ha, hb⟩) h3).range ?_)
      | (refine store_span rfl _ _ rfl w.heap.size rfl A Z false rfl ha hb (zs 24) (zs 24) false ((HS.out.1.touch t2 (by omega)).touch t3 (by omega)) ?_; intro w4 h4 t4 s4))
    refine ret_span rfl _ _ _ _ rfl h4 rfl ⟨by rw [HR.out], ?_⟩
    exact below_touched (below_touched (below_touched (below_made (below_made (Below.refl _ w) (Nat.le_refl _) _) (Nat.le_refl _) _) t2 (by omega) (Nat.le_refl _)) t3 (by omega) (Nat.le_refl _)) t4 (Nat.le_refl _) (Nat.le_refl _)
  · have HR : Hid (ofB a b ha = ⟨a.b, zs 24, true, ha, rfl⟩) := (show _ = _ by unfold ofB; rw [dif_neg hb])
    rw [decide_eq_true (by simpa using hb)] at heq
    generalize ofB a b ha = R at *
    generalize a.b = A at *
    generalize b.b = Z at *
    obtain ⟨w2, hr, h2, t2, s2⟩ := copyF _ (w.heap.size + 1) A (zs 24) (zs 24) false ha HS.out.2 3
    have HC : Hid ((Builtin.copy_ #[53, 9] 3 #[.slice (some ⟨w.heap.size + 1, 0, none⟩) 24 24, .string (str A)]).run Try.prog ((w.alloc (.cells (sc (zs 24) (zs 24) false).toArray 35)).alloc (.cells (sc (zs 24) (zs 24) false).toArray 35)) = .ok (goInt (24 : Nat)) w2) := hr
    clear hr
    have cE := h2.ofE
    have fE : w2.frozen? ⟨w.heap.size + 1, 48, none⟩ = false := by simp [World.frozen?, h2.blk]
    go_enter Try.func48, Try.ntmps48
    go_wp2_with fail
    refine upon_run HC.out ?_
    go_wp2_with (first
      | (go_at_call 59; refine (end_calls _).mono ?_; rintro e w1 ⟨rfl, rfl⟩)
      | (refine load_el elS _ rfl (w.heap.size + 1) 0 rfl rfl (⟨A, zs 24, true, ha, rfl⟩ : Sp) (HasS.inB (s := ⟨A, zs 24, true, ha, rfl⟩) (hasS_end h2)).range ?_)
      | (refine store_span rfl _ _ rfl w.heap.size rfl A (zs 24) true rfl ha rfl (zs 24) (zs 24) false (hasS_other (HS.out.1.touch t2 (by omega)) (by omega)) ?_; intro w4 h4 t4 s4))
    refine ret_span rfl _ _ _ _ rfl h4 rfl ⟨by rw [HR.out], ?_⟩
    exact below_touched ((below_touched (below_made (below_made (Below.refl _ w) (Nat.le_refl _) _) (Nat.le_refl _) _) t2 (by omega) (Nat.le_refl _)).setCell (by simp) _) t4 (Nat.le_refl _) (Nat.le_refl _)
end Go.Proofs.Ytbdolhmeknlnpaa
