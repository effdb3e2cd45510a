import Derived.Test.YtdmindhjmjnagaaGreatDoorSi
import Derived.Test.YtdmindhjmjnagaaGreatDoorB03
import Derived.Test.YtdmindhjmjnagaaGreatDoorB31
import Derived.Test.YtdmindhjmjnagaaGreatDoorB14
import Derived.Test.YtdmindhjmjnagaaGreatDoorB01
/- KeyS2 X8A X8B -/
namespace Go.Proofs.YtdmindhjmjnagaaGreatDoor
set_option linter.unusedVariables false
set_option maxRecDepth 1000000
set_option maxHeartbeats 32000000
section
open Go.RowKit
theorem conv_part {w : World} {b o : Nat} {K : List UInt8} (hr : w.rangeAt b o (bc K)) (hl : K.length = 24) (cap : Nat) : (convert 49 9 (.slice (some ⟨b, o, none⟩) 24 cap)).run Tryz.prog w = .ok (.string (str K)) w := by
 have := run_convert_bytes_arg (P := Tryz.prog) w 49 5 Tryz.underlying49 Tryz.underlying5 b o 24 cap (K.map fun b => (b.toNat : Int)) (by simp [hl]) (fun i hi => by
  have hi' : i < K.length := by omega
  rw [hr i (.int .u8 ((K[i]).toNat : Int)) (by simp [bc, hi'])]
  simp [hi']) 9 Tryz.underlying9
 rw [str_of] at this
 exact this
structure Two (w : World) (b c : Nat) (K L : List UInt8) (w' : World) : Prop where
 k : Has w' b K
 l : Has w' c L
 bel : Below w.heap.size w w'
theorem Two.drew {w : World} {b c : Nat} {K L : List UInt8} {w' : World} (h : Two w b c K L w') : Two w b c K L w'.drew := ⟨⟨h.k.len, h.k.blk⟩, ⟨h.l.len, h.l.blk⟩, h.bel.drew⟩
theorem Two.out {w : World} {b c : Nat} {K L : List UInt8} {w' : World} (h : Two w b c K L w') : (convert 49 9 (.slice (some ⟨b, 0, none⟩) 24 24)).run Tryz.prog w' = .ok (.string (str K)) w' ∧ (convert 49 9 (.slice (some ⟨c, 0, none⟩) 24 24)).run Tryz.prog w' = .ok (.string (str L)) w' ∧ Two w b c K L w' :=
 ⟨conv_part h.k.range h.k.len 24, conv_part h.l.range h.l.len 24, h⟩
theorem rless_calls (w : World) (K L : List UInt8) (hK : K.length = 24) (hL : L.length = 24) :
    Calls Tryz.prog 140 #[kv K, kv L] w fun e w' => e = .returned (.bool (Op.bytesLess K L)) ∧ Below w.heap.size w w' := by
 have h0 : Two w w.heap.size (w.heap.size + 1) K L ((w.alloc (.cells (bc K).toArray 54)).alloc (.cells (bc L).toArray 54)) := ⟨(Has.new w K hK).alloc _, by have := Has.new (w.alloc (.cells (bc K).toArray 54)) L hL; simpa using this, below_made (below_made (Below.refl _ w) (Nat.le_refl _) _) (Nat.le_refl _) _⟩
 go_enter Tryz.func140, Tryz.ntmps140
 go_wp2
 generalize (w.alloc (.cells (bc K).toArray 54)).alloc (.cells (bc L).toArray 54) = W at *
 go_region_held3 (fun w' => (convert 49 9 (.slice (some ⟨w.heap.size, 0, none⟩) 24 24)).run Tryz.prog w' = .ok (.string (str K)) w' ∧ (convert 49 9 (.slice (some ⟨w.heap.size + 1, 0, none⟩) 24 24)).run Tryz.prog w' = .ok (.string (str L)) w' ∧ Two w w.heap.size (w.heap.size + 1) K L w') (first | exact h0.drew.out | assumption) (fail)
 go_wp2_with fail
 go_ret
 refine ⟨?_, h0.drew.bel⟩
 show Ending.returned (Value.bool (Op.bytesLess (str K).toList (str L).toList)) = _
 rw [str_toList, str_toList]
structure Tri (w : World) (b c : Nat) (F T : List UInt8) (e : Bool) (K : List UInt8) (w' : World) : Prop where
 s : HasS w' b F T e
 k : Has w' c K
 bel : Below w.heap.size w w'
theorem rin_calls (w : World) (F T : List UInt8) (e : Bool) (K : List UInt8) (hF : F.length = 24) (hT : T.length = 24) (hK : K.length = 24) :
    Calls Tryz.prog 62 #[sv F T e, kv K] w fun x w' => x = .returned (.bool (inS F T e K)) ∧ Below w.heap.size w w' := by
 have h0 : Tri w w.heap.size (w.heap.size + 1) F T e K ((w.alloc (.cells (sc F T e).toArray 56)).alloc (.cells (bc K).toArray 54)) := ⟨(HasS.new w F T e hF hT).alloc _, by have := Has.new (w.alloc (.cells (sc F T e).toArray 56)) K hK; simpa using this, below_made (below_made (Below.refl _ w) (Nat.le_refl _) _) (Nat.le_refl _) _⟩
 have HIN : Hid (inS F T e K = (!Op.bytesLess K F && (e || Op.bytesLess K T))) := rfl
 cases hlf : Op.bytesLess K F with
 | true =>
  have hl1 : Op.bytesLess (str K).toList (str F).toList = true := by rw [str_toList, str_toList]; exact hlf
  go_enter Tryz.func62, Tryz.ntmps62
  go_wp2
  generalize (w.alloc (.cells (sc F T e).toArray 56)).alloc (.cells (bc K).toArray 54) = W at *
  have q1 : ∀ n, (convert 49 9 (.slice (some ⟨w.heap.size + 1, 0, none⟩) 24 24)).run Tryz.prog (W.drewN n) = .ok (.string (str K)) (W.drewN n) := fun n => conv_part (w := W.drewN n) h0.k.range h0.k.len 24
  have q2 : ∀ n, (convert 49 9 (.slice (some ⟨w.heap.size, 0, none⟩) 24 24)).run Tryz.prog (W.drewN n) = .ok (.string (str F)) (W.drewN n) := fun n => conv_part (w := W.drewN n) h0.s.ofF h0.s.f 24
  have HB : Hid (Below w.heap.size w W) := h0.bel
  clear h0
  go_quiet (fail)
  go_wp2_with fail
  go_ret
  exact ⟨by rw [HIN.out, hlf]; rfl, below_drewN HB.out _⟩
 | false =>
  have hl1 : Op.bytesLess (str K).toList (str F).toList = false := by rw [str_toList, str_toList]; exact hlf
  cases e with
  | true =>
   go_enter Tryz.func62, Tryz.ntmps62
   go_wp2
   generalize (w.alloc (.cells (sc F T true).toArray 56)).alloc (.cells (bc K).toArray 54) = W at *
   have q1 : ∀ n, (convert 49 9 (.slice (some ⟨w.heap.size + 1, 0, none⟩) 24 24)).run Tryz.prog (W.drewN n) = .ok (.string (str K)) (W.drewN n) := fun n => conv_part (w := W.drewN n) h0.k.range h0.k.len 24
   have q2 : ∀ n, (convert 49 9 (.slice (some ⟨w.heap.size, 0, none⟩) 24 24)).run Tryz.prog (W.drewN n) = .ok (.string (str F)) (W.drewN n) := fun n => conv_part (w := W.drewN n) h0.s.ofF h0.s.f 24
   have cE := h0.s.ofE
   have HB : Hid (Below w.heap.size w W) := h0.bel
   clear h0
   go_quiet (fail)
   go_wp2_with fail
   go_ret
   exact ⟨by rw [HIN.out, hlf]; rfl, below_drewN HB.out _⟩
  | false =>
   go_enter Tryz.func62, Tryz.ntmps62
   go_wp2
   generalize (w.alloc (.cells (sc F T false).toArray 56)).alloc (.cells (bc K).toArray 54) = W at *
   have q1 : ∀ n, (convert 49 9 (.slice (some ⟨w.heap.size + 1, 0, none⟩) 24 24)).run Tryz.prog (W.drewN n) = .ok (.string (str K)) (W.drewN n) := fun n => conv_part (w := W.drewN n) h0.k.range h0.k.len 24
   have q2 : ∀ n, (convert 49 9 (.slice (some ⟨w.heap.size, 0, none⟩) 24 24)).run Tryz.prog (W.drewN n) = .ok (.string (str F)) (W.drewN n) := fun n => conv_part (w := W.drewN n) h0.s.ofF h0.s.f 24
   have q3 : ∀ n, (convert 49 9 (.slice (some ⟨w.heap.size, 24, none⟩) 24 24)).run Tryz.prog (W.drewN n) = .ok (.string (str T)) (W.drewN n) := fun n => conv_part (w := W.drewN n) h0.s.ofT h0.s.t 24
   have cE := h0.s.ofE
   have HB : Hid (Below w.heap.size w W) := h0.bel
   clear h0
   go_quiet (fail)
   go_wp2_with fail
   go_ret
   refine ⟨?_, below_drewN HB.out _⟩
   show Ending.returned (Value.bool (Op.bytesLess (str K).toList (str T).toList)) = _
   rw [HIN.out, hlf, str_toList, str_toList]
   simp
end
section
open Go.RowKit
def encT : Enc Bd 1 := ⟨fun x => [.string (str x.b)], fun _ => rfl, fun _ v hv => by rw [List.mem_singleton] at hv; subst hv; rfl⟩
def encB : Enc Bool 1 := ⟨fun x => [.bool x], fun _ => rfl, fun _ v hv => by rw [List.mem_singleton] at hv; subst hv; rfl⟩
theorem rowT : RowTy Tryz.prog encT 165 9 16 := ⟨Tryz.underlying165, ⟨.string ByteArray.empty, by kernel_rfl, rfl⟩, by decide⟩
theorem rowB : RowTy Tryz.prog encB 167 4 1 := ⟨Tryz.underlying167, ⟨.bool false, by kernel_rfl, rfl⟩, by decide⟩
theorem str_push (k : Nat) : str (List.replicate k 255) ++ (⟨#[255]⟩ : ByteArray) = str (List.replicate (k + 1) 255) := by
 apply ByteArray.ext
 rw [ByteArray.data_append, List.replicate_succ']
 exact List.append_toArray (List.replicate k (255 : UInt8)) [255]
theorem end_calls (w : World) : Calls Tryz.prog 170 #[] w fun e w' => e = .returned (.string (str endB)) ∧ w' = w := by
 go_enter Tryz.func170, Tryz.ntmps170
 go_wp2
 go_loopg [1, 2] 25 (fun gg s i wr => ∃ k : Nat, k + gg = 25 ∧ i = .int .i64 (k : Int) ∧ s = .string (str (List.replicate k 255)) ∧ wr = w)
 case atStart => exact ⟨0, by omega, rfl, rfl, rfl⟩
 case round =>
  obtain ⟨k, hk, rfl, rfl, rfl⟩ := hrel
  cases gk with
  | zero =>
   have hk2 : k = 25 := by omega
   subst hk2
   go_wp2
   go_ret
   exact ⟨rfl, rfl⟩
  | succ gg =>
   have hlt : (k : Int) < 25 := by omega
   have hp := str_push k
   have hq : (str (List.replicate k 255)).size = k := by rw [str_size, List.length_replicate]
   have hk25 : k < 25 := by omega
   go_wp2
   all_goals (try (exfalso; omega))
   go_roundg gg
   case measure => omega
   case rel => exact ⟨k + 1, by omega, congrArg (Value.int .i64) (show (k : Int) + 1 = ((k + 1 : Nat) : Int) by omega), by first | rfl | (rw [hp]) | (rw [← hp]), rfl⟩
theorem to_calls (w : World) (s : Sp) : Calls Tryz.prog 148 #[spv s] w fun e w' => e = .returned (.string (str s.bt.b)) ∧ Below w.heap.size w w' := by
 obtain ⟨F, T, e, hF, hT⟩ := s
 have h1 : HasS (w.alloc (.cells (sc F T e).toArray 56)) w.heap.size F T e := HasS.new w _ _ _ hF hT
 have cE := h1.ofE
 have conv : (convert 49 9 (.slice (some ⟨w.heap.size, 24, none⟩) 24 24)).run Tryz.prog (w.alloc (.cells (sc F T e).toArray 56)) = .ok (.string (str T)) (w.alloc (.cells (sc F T e).toArray 56)) := conv_part h1.ofT hT 24
 have HB : Hid (Below w.heap.size w (w.alloc (.cells (sc F T e).toArray 56))) := (Below.refl _ w).alloc (Nat.le_refl _) _
 have HT : Hid ((Sp.mk F T e hF hT).bt.b = if e then endB else T) := (show _ = _ by unfold Sp.bt; cases e <;> rfl)
 show Calls Tryz.prog 148 #[sv F T e] w _
 generalize (Sp.mk F T e hF hT).bt.b = RB at *
 cases e with
 | true =>
  clear h1 conv
  go_enter Tryz.func148, Tryz.ntmps148
  go_wp2_with (go_at_call 170; refine (end_calls _).mono ?_; rintro e w1 ⟨rfl, rfl⟩)
  go_ret
  exact ⟨by rw [HT.out]; rfl, HB.out⟩
 | false =>
  clear h1
  go_enter Tryz.func148, Tryz.ntmps148
  go_wp2_with (go_at_call 170; refine (end_calls _).mono ?_; rintro e w1 ⟨rfl, rfl⟩)
  (refine bodyPost_ret (v := .string (str T)) (by simp [results, go_sem]) rfl ?_)
  exact ⟨by rw [HT.out]; rfl, HB.out⟩
theorem copy_run (w : World) (g off : Nat) (s : List UInt8) (hl : s.length = 24) (cur : Array Value) (t ty : TypeId) (hg : w.heap[g]? = some (.cells cur t (0, 0))) (hfit : off + 24 ≤ cur.size) :
    (Builtin.copy_ #[49, 9] ty #[.slice (some ⟨g, off, none⟩) 24 24, .string (str s)]).run Tryz.prog w = .ok (goInt (24 : Nat)) (w.setRow g (cur.toList.take off ++ bc s ++ cur.toList.drop (off + 24)).toArray) := by
 have hsz : (Tryz.prog.info? 5).map (·.size) = some 1 := by kernel_rfl
 have hs24 : (str s).size = 24 := by rw [str_size, hl]
 have hrun := Lib.run_copy_row_string (P := Tryz.prog) w 49 9 ty 5 g off 24 24 (str s) cur t Tryz.underlying49 hsz hg (by rw [hs24]; exact Nat.le_refl _) (by rw [hs24]; exact hfit)
 rw [hs24, str_list, bc_map] at hrun
 exact hrun
theorem copyK (w : World) (g : Nat) (s K : List UInt8) (hl : s.length = 24) (hK : Has w g K) (ty : TypeId) : ∃ w', (Builtin.copy_ #[49, 9] ty #[.slice (some ⟨g, 0, none⟩) 24 24, .string (str s)]).run Tryz.prog w = .ok (goInt (24 : Nat)) w' ∧ Has w' g s ∧ Touch g none w w' ∧ w'.heap.size = w.heap.size := by
 have h := copy_run w g 0 s hl _ _ ty hK.blk (by rw [bc_size, hK.len]; exact Nat.le_refl _)
 have e : ((bc K).toArray.toList.take 0 ++ bc s ++ (bc K).toArray.toList.drop (0 + 24)).toArray = (bc s).toArray := by
  have hl' : (bc K).length = 24 := by rw [bc_length, hK.len]
  rw [List.take_zero, List.nil_append, List.drop_of_length_le (by simp [hl']), List.append_nil]
 rw [e] at h
 exact ⟨_, h, hK.setRow s hl, touch_setRow _ _ _, by simp⟩
theorem copyF (w : World) (g : Nat) (s F T : List UInt8) (e : Bool) (hl : s.length = 24) (hK : HasS w g F T e) (ty : TypeId) : ∃ w', (Builtin.copy_ #[49, 9] ty #[.slice (some ⟨g, 0, none⟩) 24 24, .string (str s)]).run Tryz.prog w = .ok (goInt (24 : Nat)) w' ∧ HasS w' g s T e ∧ Touch g none w w' ∧ w'.heap.size = w.heap.size := by
 have h := copy_run w g 0 s hl _ _ ty hK.blk (by rw [sv_size _ _ _ hK.f hK.t]; omega)
 have e1 := sc_F F s T e hK.f hl
 have e2 : (kv s).cells.toList = bc s := rfl
 rw [e2] at e1
 rw [e1] at h
 exact ⟨_, h, hK.row hl hK.t, touch_setRow _ _ _, by simp⟩
theorem copyT (w : World) (g : Nat) (s F T : List UInt8) (e : Bool) (hl : s.length = 24) (hK : HasS w g F T e) (ty : TypeId) : ∃ w', (Builtin.copy_ #[49, 9] ty #[.slice (some ⟨g, 24, none⟩) 24 24, .string (str s)]).run Tryz.prog w = .ok (goInt (24 : Nat)) w' ∧ HasS w' g F s e ∧ Touch g none w w' ∧ w'.heap.size = w.heap.size := by
 have h := copy_run w g 24 s hl _ _ ty hK.blk (by rw [sv_size _ _ _ hK.f hK.t]; omega)
 have e1 := sc_T F T s e hK.f hK.t
 have e2 : (kv s).cells.toList = bc s := rfl
 rw [e2] at e1
 rw [e1] at h
 exact ⟨_, h, hK.row hK.f hl, touch_setRow _ _ _, by simp⟩
theorem upon_run8 {P : Program} {o : Oper} {a : Act} {K : Act → World → Prop} {Q : Exit → Act → World → Prop} {m : Sem Value} {w w' : World} {v : Value} (hr : m.run P w = .ok v w') (h : K (a.put o.dst v) w') : Oper.upon P o a K Q ((m.run P w).andThen fun a w' => Result.ok (Next.value a) w') := by
 rw [hr]
 simp only [Result.andThen]
 rw [Oper.upon_value]
 exact h
theorem rkey_calls (w : World) (K : List UInt8) (hK : K.length = 24) : Calls Tryz.prog 114 #[.string (str K)] w fun e w' => e = .returned (kv K) ∧ Below w.heap.size w w' := by
 have h0 : Has ((w.alloc (.cells (bc (zs 24)).toArray 54)).alloc (.cells (bc (zs 24)).toArray 54)) w.heap.size (zs 24) := (Has.new w (zs 24) rfl).alloc _
 have h1 : Has ((w.alloc (.cells (bc (zs 24)).toArray 54)).alloc (.cells (bc (zs 24)).toArray 54)) (w.heap.size + 1) (zs 24) := by have := Has.new (w.alloc (.cells (bc (zs 24)).toArray 54)) (zs 24) rfl; simpa using this
 have HS : Hid (Has ((w.alloc (.cells (bc (zs 24)).toArray 54)).alloc (.cells (bc (zs 24)).toArray 54)) w.heap.size (zs 24) ∧ Has ((w.alloc (.cells (bc (zs 24)).toArray 54)).alloc (.cells (bc (zs 24)).toArray 54)) (w.heap.size + 1) (zs 24)) := ⟨h0, h1⟩
 clear h0 h1
 obtain ⟨w2, hr, h2, t2, s2⟩ := copyK _ (w.heap.size + 1) K (zs 24) hK HS.out.2 3
 have HR : Hid ((Builtin.copy_ #[49, 9] 3 #[.slice (some ⟨w.heap.size + 1, 0, none⟩) 24 24, .string (str K)]).run Tryz.prog ((w.alloc (.cells (bc (zs 24)).toArray 54)).alloc (.cells (bc (zs 24)).toArray 54)) = .ok (goInt (24 : Nat)) w2) := hr
 clear hr
 go_enter Tryz.func114, Tryz.ntmps114
 go_wp2
 refine upon_run8 HR.out ?_
 go_wp2_with (first
  | (refine load_key _ rfl (w.heap.size + 1) rfl rfl _ h2 ?_)
  | (refine store_key rfl _ _ rfl w.heap.size rfl _ rfl hK (zs 24) (HS.out.1.touch t2 (by omega)) ?_; intro w4 h4 t4 s4))
 refine ret_key rfl _ _ rfl h4 rfl ⟨rfl, ?_⟩
 exact below_touched (below_touched (below_made (below_made (Below.refl _ w) (Nat.le_refl _) _) (Nat.le_refl _) _) t2 (by omega) (Nat.le_refl _)) t4 (Nat.le_refl _) (Nat.le_refl _)
theorem hasS_end {w : World} {b : Nat} {F T : List UInt8} {e : Bool} (h : HasS w b F T e) : HasS (w.setCell ⟨b, 48, none⟩ (.bool true)) b F T true := by
 refine ⟨h.f, h.t, ?_⟩
 rw [setCell_eq_setRow w b 48 _ _ _ _ h.blk, setRow_heap w b _ _ _ _ h.blk]
 have hl : (bc F ++ bc T).length = 48 := by rw [List.length_append, bc_length, bc_length, h.f, h.t]
 congr 2
 simp only [sc, List.setIfInBounds_toArray]
 rw [List.set_append_right _ _ (by omega), hl]
 rfl
theorem hasS_other {w : World} {b p j : Nat} {F T : List UInt8} {e : Bool} {u : Value} (h : HasS w b F T e) (hp : b ≠ p) : HasS (w.setCell ⟨p, j, none⟩ u) b F T e := ⟨h.f, h.t, by rw [Below.heap_setCell _ _ _ _ (by simpa using hp)]; exact h.blk⟩
theorem rof_calls (w : World) (a b : Bd) (ha : a.b.length = 24) : Calls Tryz.prog 150 #[.string (str a.b), .string (str b.b)] w fun e w' => e = .returned (spv (ofB a b ha)) ∧ Below w.heap.size w w' := by
 have h0 : HasS ((w.alloc (.cells (sc (zs 24) (zs 24) false).toArray 56)).alloc (.cells (sc (zs 24) (zs 24) false).toArray 56)) w.heap.size (zs 24) (zs 24) false := (HasS.new w (zs 24) (zs 24) false rfl rfl).alloc _
 have h1 : HasS ((w.alloc (.cells (sc (zs 24) (zs 24) false).toArray 56)).alloc (.cells (sc (zs 24) (zs 24) false).toArray 56)) (w.heap.size + 1) (zs 24) (zs 24) false := by have := HasS.new (w.alloc (.cells (sc (zs 24) (zs 24) false).toArray 56)) (zs 24) (zs 24) false rfl rfl; simpa using this
 have HS : Hid (HasS ((w.alloc (.cells (sc (zs 24) (zs 24) false).toArray 56)).alloc (.cells (sc (zs 24) (zs 24) false).toArray 56)) w.heap.size (zs 24) (zs 24) false ∧ HasS ((w.alloc (.cells (sc (zs 24) (zs 24) false).toArray 56)).alloc (.cells (sc (zs 24) (zs 24) false).toArray 56)) (w.heap.size + 1) (zs 24) (zs 24) false) := ⟨h0, h1⟩
 have heq : ((str b.b).toList == (str endB).toList) = decide (¬ b.b.length = 24) := by
  rw [str_toList, str_toList]
  rcases b.h with h | h
  · have : ¬ b.b = endB := fun e => by rw [e] at h; cases h
    rw [Bool.eq_iff_iff]; simp [h, this]
  · rw [h]; rfl
 clear h0 h1
 by_cases hb : b.b.length = 24
 · have HR : Hid (ofB a b ha = ⟨a.b, b.b, false, ha, hb⟩) := (show _ = _ by unfold ofB; rw [dif_pos hb])
   rw [decide_eq_false (by simpa using hb)] at heq
   have HQ : Hid (((str b.b).toList == (str endB).toList) = false) := heq
   generalize ofB a b ha = R at *
   generalize a.b = A at *
   generalize b.b = Z at *
   obtain ⟨w2, hr, h2, t2, s2⟩ := copyF _ (w.heap.size + 1) A (zs 24) (zs 24) false ha HS.out.2 3
   have HC : Hid ((Builtin.copy_ #[49, 9] 3 #[.slice (some ⟨w.heap.size + 1, 0, none⟩) 24 24, .string (str A)]).run Tryz.prog ((w.alloc (.cells (sc (zs 24) (zs 24) false).toArray 56)).alloc (.cells (sc (zs 24) (zs 24) false).toArray 56)) = .ok (goInt (24 : Nat)) w2) := hr
   clear hr
   obtain ⟨w3, hr3, h3, t3, s3⟩ := copyT w2 (w.heap.size + 1) Z A (zs 24) false hb h2 3
   have HC3 : Hid ((Builtin.copy_ #[49, 9] 3 #[.slice (some ⟨w.heap.size + 1, 24, none⟩) 24 24, .string (str Z)]).run Tryz.prog w2 = .ok (goInt (24 : Nat)) w3) := hr3
   clear hr3
   go_enter Tryz.func150, Tryz.ntmps150
   go_wp2_with fail
   refine upon_run8 HC.out ?_
   go_wp2_with (go_at_call 170; refine (end_calls _).mono ?_; rintro e w1 ⟨rfl, rfl⟩)
   refine upon_run8 HC3.out ?_
   go_wp2_with (first
    | (refine load_el elS _ rfl (w.heap.size + 1) 0 rfl rfl (⟨A, Z, false, ha, hb⟩ : Sp) (HasS.inB (s := ⟨A, Z, false, ha, hb⟩) h3).range ?_)
    | (refine store_span rfl _ _ rfl w.heap.size rfl A Z false rfl ha hb (zs 24) (zs 24) false ((HS.out.1.touch t2 (by omega)).touch t3 (by omega)) ?_; intro w4 h4 t4 s4))
   refine ret_span rfl _ _ _ _ rfl h4 rfl ⟨by rw [HR.out], ?_⟩
   exact below_touched (below_touched (below_touched (below_made (below_made (Below.refl _ w) (Nat.le_refl _) _) (Nat.le_refl _) _) t2 (by omega) (Nat.le_refl _)) t3 (by omega) (Nat.le_refl _)) t4 (Nat.le_refl _) (Nat.le_refl _)
 · have HR : Hid (ofB a b ha = ⟨a.b, zs 24, true, ha, rfl⟩) := (show _ = _ by unfold ofB; rw [dif_neg hb])
   rw [decide_eq_true (by simpa using hb)] at heq
   generalize ofB a b ha = R at *
   generalize a.b = A at *
   generalize b.b = Z at *
   obtain ⟨w2, hr, h2, t2, s2⟩ := copyF _ (w.heap.size + 1) A (zs 24) (zs 24) false ha HS.out.2 3
   have HC : Hid ((Builtin.copy_ #[49, 9] 3 #[.slice (some ⟨w.heap.size + 1, 0, none⟩) 24 24, .string (str A)]).run Tryz.prog ((w.alloc (.cells (sc (zs 24) (zs 24) false).toArray 56)).alloc (.cells (sc (zs 24) (zs 24) false).toArray 56)) = .ok (goInt (24 : Nat)) w2) := hr
   clear hr
   have cE := h2.ofE
   have fE : w2.frozen? ⟨w.heap.size + 1, 48, none⟩ = false := by simp [World.frozen?, h2.blk]
   go_enter Tryz.func150, Tryz.ntmps150
   go_wp2_with fail
   refine upon_run8 HC.out ?_
   go_wp2_with (first
    | (go_at_call 170; refine (end_calls _).mono ?_; rintro e w1 ⟨rfl, rfl⟩)
    | (refine load_el elS _ rfl (w.heap.size + 1) 0 rfl rfl (⟨A, zs 24, true, ha, rfl⟩ : Sp) (HasS.inB (s := ⟨A, zs 24, true, ha, rfl⟩) (hasS_end h2)).range ?_)
    | (refine store_span rfl _ _ rfl w.heap.size rfl A (zs 24) true rfl ha rfl (zs 24) (zs 24) false (hasS_other (HS.out.1.touch t2 (by omega)) (by omega)) ?_; intro w4 h4 t4 s4))
   refine ret_span rfl _ _ _ _ rfl h4 rfl ⟨by rw [HR.out], ?_⟩
   exact below_touched ((below_touched (below_made (below_made (Below.refl _ w) (Nat.le_refl _) _) (Nat.le_refl _) _) t2 (by omega) (Nat.le_refl _)).setCell (by simp) _) t4 (Nat.le_refl _) (Nat.le_refl _)
end
section
open Go.RowKit
theorem mem_take (l : List Sp) (k : Nat) (h : k < l.length) (x : Int) : mem (l.take (k + 1)) x = (mem (l.take k) x || (l[k]).inb x) := by
 rw [List.take_succ_eq_append_getElem h, mem_append]
 simp [mem]
theorem mem_hit (l : List Sp) (k : Nat) (h : k < l.length) (x : Int) (hi : (l[k]).inb x = true) : mem l x = true := by
 unfold mem
 rw [List.any_eq_true]
 exact ⟨l[k], List.getElem_mem h, hi⟩
theorem rhas_calls (w : World) (u : Value) (l : List Sp) (h : Sl encS w u l) (K : List UInt8) (hK : K.length = 24) : Calls Tryz.prog 25 #[u, kv K] w fun e w' => e = .returned (.bool (mem l (num K))) ∧ Below w.heap.size w w' := by
 have b1 : Below w.heap.size w (w.alloc (.cells (bc K).toArray 54)) := (Below.refl _ w).alloc (Nat.le_refl _) _
 have HS : Hid (Sl encS w u l) := h
 have HK : Hid (Has (w.alloc (.cells (bc K).toArray 54)) w.heap.size K) := Has.new w K hK
 have HB : Hid (Below w.heap.size w (w.alloc (.cells (bc K).toArray 54))) := b1
 obtain ⟨ad, cap, rfl, hcap, hmax, _, _⟩ := h
 have HG : Hid (∀ i (hi : i < l.length), ∃ g off, ad = some ⟨g, off, none⟩ ∧ g < w.heap.size ∧ w.rangeAt g (off + i * 49) (encS.c l[i])) := fun i hi => SlB.at HS.out i hi
 obtain ⟨N, hN⟩ : ∃ N : Nat, N = l.length := ⟨_, rfl⟩
 have HN : Hid (N = l.length) := hN
 rw [← hN] at hcap hmax ⊢
 have HM : Hid (∀ k : Nat, k < N → wrap64 ((k : Int) + 1) = ((k + 1 : Nat) : Int)) := fun k hk => wrap_next hk hmax
 clear b1 hN hmax
 have hiK : (Tryz.prog.info? 54).map (·.size) = some (bc K).length := by rw [bc_length, hK]; exact Tryz.key_info
 go_enter Tryz.func25, Tryz.ntmps25
 go_wp2_with fail
 generalize hW : w.alloc (.cells (bc K).toArray 54) = W at *
 have hbW := HK.out.lt
 go_loopg [5] N (fun gg i wr => ∃ k : Nat, k + gg = N ∧ i = .int .i64 (k : Int) ∧ Hid (Below W.heap.size W wr ∧ mem (l.take k) (num K) = false))
 case atStart => exact ⟨0, by omega, rfl, ⟨Below.refl _ _, rfl⟩⟩
 case round =>
  obtain ⟨k, hkg, rfl, HL⟩ := hrel
  cases gk with
  | zero =>
   have hkN : k = N := by omega
   subst hkN
   go_wp2_with fail
   go_ret
   have h1 := HL.out.2
   rw [List.take_of_length_le (by have := HN.out; omega)] at h1
   exact ⟨by rw [h1]; rfl, HB.out.trans (HL.out.1.mono HB.out.size)⟩
  | succ gg =>
   have hlt : k < N := by omega
   have hltI : (k : Int) < (N : Int) := by omega
   have hk0 : (0 : Int) ≤ (k : Int) := by omega
   have hkl : k < l.length := by have := HN.out; omega
   obtain ⟨g, off, rfl, hg, hr⟩ := HG.out k hkl
   have hgW : g < W.heap.size := Nat.lt_of_lt_of_le hg HB.out.size
   have rS : wr.rangeAt g (off + k * 49) (encS.c l[k]) := range_same' (range_same' hr (HB.out.block g hg)) (HL.out.1.block g hgW)
   have rK : wr.rangeAt w.heap.size 0 (bc K) := (HK.out.below HL.out.1 hbW).range
   have HT : Hid (mem (l.take (k + 1)) (num K) = (mem (l.take k) (num K) || (l[k]).inb (num K))) := mem_take l k hkl _
   have HH : Hid ((l[k]).inb (num K) = true → mem l (num K) = true) := mem_hit l k hkl _
   have hin := fun y => rin_calls y (l[k]).F (l[k]).T (l[k]).e K (l[k]).hF (l[k]).hT hK
   rw [in_num (l[k]) K hK] at hin
   have HIN : Hid (∀ y, Calls Tryz.prog 62 #[spv (l[k]), kv K] y fun x w' => x = .returned (.bool ((l[k]).inb (num K))) ∧ Below y.heap.size y w') := hin
   have hiS : (Tryz.prog.info? 56).map (·.size) = some (encS.c (l[k])).length := by rw [encS.len]; exact Tryz.span_info
   have HKS : Hid (wrap64 ((k : Int) + 1) = ((k + 1 : Nat) : Int)) := HM.out k hlt
   have hws := HL.out.1.size
   clear hin hr
   generalize (l[k]).inb (num K) = rs at *
   generalize l[k] = s at *
   go_upto_region 4 with fail
   refine wp_region_noPanic ?_
   refine wp_region_held_drew (S := (fun yy => yy.rangeAt g (off + k * 49) (encS.c s) ∧ yy.rangeAt w.heap.size 0 (bc K))) (by kernel_rfl) ⟨rS, rK⟩ (fun hh => ?_)
   refine tl ?_ 0 rfl hh ⟨by rfl, ?_⟩ ?_
   case refine_2 => (intro w hSw; go_simp; try with_reducible rfl)
   (try simp only [gs])
   refine tl ?_ 1 rfl hh ⟨by rfl, ?_⟩ ?_
   case refine_2 => (intro w hSw; go_simp; try with_reducible rfl)
   (try simp only [gs])
   refine tl ?_ 2 rfl hh ⟨by rfl, ?_⟩ ?_
   case refine_2 => (intro w hSw; go_simp; try with_reducible rfl)
   (try simp only [gs])
   refine tk 3 rfl hh (yieldsIf_load_mid (by rfl) _ _ rfl _ _ rfl _ _ (fun _ h => h.1) Tryz.underlying56 rfl hiS) ?_
   (try simp only [gs])
   refine tk 4 rfl hh (yieldsIf_load_mid (by rfl) _ _ rfl _ _ rfl _ _ (fun _ h => h.2) Tryz.underlying54 rfl hiK) ?_
   (try simp only [gs])
   refine wpAnyH_ready (rs := [5]) (by kernel_rfl) (by simp) (AllReadyH.cons rfl (fun K hK => ?_) AllReadyH.nil)
   rw [if_pos (by rfl)]
   (try simp only [gs])
   go_simp
   refine (HIN.out _).mono ?_
   rintro e y ⟨rfl, b⟩
   refine hK.out _ _ ⟨range_same' hh.1 (b.block g (by show g < wr.heap.size; omega)), range_same' hh.2 (b.block w.heap.size (by show w.heap.size < wr.heap.size; omega))⟩ (fun hh => ?_)
   clear hK K
   (try simp only [gs])
   have HY : Hid (Below W.heap.size W y) := HL.out.1.drew.trans (b.mono (by show W.heap.size ≤ wr.heap.size; omega))
   refine tl ?_ 6 rfl hh ⟨by rfl, ?_⟩ ?_
   case refine_2 => (intro w hSw; go_simp; try with_reducible rfl)
   (try simp only [gs])
   refine wpAnyH_done (by kernel_rfl) ?_ _
   refine NoPanic.normal ?_
   cases rs with
   | true =>
    go_wp2_with fail
    go_ret
    exact ⟨by rw [show mem l (num K) = true by first | exact HH.out trivial | exact HH.out rfl]; rfl, HB.out.trans (HY.out.mono HB.out.size)⟩
   | false =>
    go_wp2_with fail
    go_roundg gg
    case measure => omega
    case rel => exact ⟨k + 1, by omega, congrArg (Value.int .i64) HKS.out, ⟨HY.out, by rw [HT.out, HL.out.2]; rfl⟩⟩
theorem kP_eq (l : List Bd) (x : Bd) (k : Nat) (h1 : ∀ j (hj : j < l.length), j < k → (l[j]).v < x.v) (hk : k ≤ l.length) (h2 : ∀ h : k < l.length, ¬ (l[k]).v < x.v) : kP l x = k := by
 induction l generalizing k with
 | nil => simp at hk; subst hk; rfl
 | cons z r ih =>
  unfold kP
  cases k with
  | zero =>
   have := h2 (by simp)
   rw [List.takeWhile_cons_of_neg (by simpa using this)]
   rfl
  | succ k =>
   have h0 := h1 0 (by simp) (by omega)
   rw [List.takeWhile_cons_of_pos (by simpa using h0), List.length_cons]
   have := ih k (fun j hj hjk => by have := h1 (j + 1) (by simpa using hj) (by omega); simpa using this) (by simpa using hk) (fun h => by have := h2 (by simpa using h); simpa using this)
   unfold kP at this
   rw [this]
section
variable {α : Type} {k : Nat} {E : Enc α k} {P : Program} {ts te : TypeId} {bytes : Nat} {o : Oper} {a : Act} {w : World} {K : Act → World → Prop} {Q : Exit → Act → World → Prop}
end
end
end Go.Proofs.YtdmindhjmjnagaaGreatDoor
