import Derived.Test.YtkaoehmkmnkmaaaSi
import Derived.Test.YtkaoehmkmnkmaaaB01
import Derived.Test.YtkaoehmkmnkmaaaB27
import Derived.Test.YtkaoehmkmnkmaaaB07
import Derived.Test.YtkaoehmkmnkmaaaB18
import Derived.Test.YtkaoehmkmnkmaaaSi
import Derived.Test.YtkaoehmkmnkmaaaB22
import Derived.Deep.DeepCutAuto
/- ViewBases answers true at every list of pairs, text and number and turns nothing that was there: what is a base is one, and only that. No condition. -/
namespace Go.Proofs.Ytkaoehmkmnkmaaa
set_option linter.unusedVariables false
set_option maxRecDepth 100000
open Go.ChangeShapes Go.WideShapes Go.ChangeAt Go.RowKit
open Go.ChangeMaps (open_string shut_string)

set_option maxRecDepth 100000 in
theorem viewBases_lifted (os : Os) (started : os.Started) (H : Type) (enc : TypeId × Value → H) :
    ReturnsInHanded {} Try.checked os 4 .any (Rows.viewBasesSpec.pre6 enc Try.prog Try.f4 Rows.viewBasesRow.domain false) (Rows.viewBasesSpec.post enc Try.prog Try.f4 false true false false) := by
  refine returnsInHanded_of_change (C := Try.checked) Try.own started (by kernel_rfl) Try.func4
    (ChangeSpec.witness6 (enc := enc) (C := Try.checked) false ⟨#[], #[.slice none 0 0, .string ⟨#[]⟩, .int .i64 0], []⟩ 8 (by kernel_rfl) (by kernel_rfl) (by kernel_rfl) (by kernel_rfl)) ?_
  intro W base args ds gs before hval0 hW hcnd _
  have hval : ∀ (j : Nat) t v, Try.f4.params[j]? = some t → args[j]? = some v → Value.okWide Try.prog W .any base t v := hval0
  have hW' := hW
  obtain ⟨p, q, hA0, hV, rfl, hfz, hnd⟩ := hW
  have hA : DataW.TrodAll enc Try.prog W 0 (fun _ => true) true Try.f4.params.toList args.toList ds p := hA0
  rw [Try.params4] at hA hval
  obtain ⟨v0, vs0, d0, ds0, p0, q0, hargs, rfl, rfl, h0, r0⟩ := trodAll_cons hA
  obtain ⟨v1, vs1, d1, ds1, p1, q1, rfl, rfl, rfl, h1, r1⟩ := trodAll_cons r0
  obtain ⟨v2, vs2, d2, ds2, p2, q2, rfl, rfl, rfl, h2, r2⟩ := trodAll_cons r1
  obtain ⟨rfl, rfl, rfl⟩ := trodAll_nil r2
  obtain rfl : args = #[v0, v1, v2] := by cases args; simp_all
  obtain ⟨rfl, rfl⟩ := trodVars_none hV
  obtain ⟨a0, len0, cap0, rfl⟩ := okWide_slice Try.underlying34 (hval 0 34 v0 rfl rfl)
  have k0 := h0
  have lt0 : ∀ x ∈ p0, x.block < W.heap.size := by obtain ⟨m, hm⟩ := k0; exact DataW.trod_lt m _ _ _ hm
  obtain ⟨z0, w0⟩ := open_pairs h0
  obtain ⟨s1, rfl, rfl, rfl, w1⟩ := open_string Try.underlying9 (hval 1 9 v1 rfl rfl) h1
  obtain ⟨a2, rfl, rfl, rfl, w2⟩ := open_int Try.underlying3 (hval 2 3 v2 rfl rfl) h2
  have b2 := bounds_i64 w2
  clear hA0 hval0
  refine (viewBases_walk W (.slice a0 len0 cap0) z0 w0 s1 a2).mono fun e W' ⟨he, bel⟩ => ?_
  subst he
  exact ⟨_, rfl, _, _, _, [], _, [], hW', trodAll_mk1 (shut_bool Try.underlying4 _), (trodAll_cons_mk (Below.trod Try.laidOut (by kernel_rfl) (of_decide_eq_true (by kernel_rfl)) k0 bel lt0) (trodAll_cons_mk (shut_string Try.underlying9 w1) (trodAll_cons_mk (shut_int Try.underlying3 w2) trodAll_mk0))), rfl, bel.frame _, fun h => by cases h⟩

/-- The statement. -/
theorem viewBases_holds : Rows.ViewBasesSaid :=
  OpenClaim.holds_of_wide 4 Try.f4 rfl rfl rfl rfl rfl rfl rfl ⟨rfl, rfl, rfl, rfl, rfl⟩ rfl rfl rfl rfl rfl (by kernel_rfl) Try.func4 (by kernel_rfl)
    (of_decide_eq_true (by kernel_rfl)) (by unfold Func.isWrapper; first | (rw [if_pos (by decide +kernel)]; kernel_rfl) | (rw [if_neg (by decide +kernel)]; exact ⟨rfl, rfl⟩))
    (fun os started H enc _ => viewBases_lifted os started H enc)
end Go.Proofs.Ytkaoehmkmnkmaaa
/- The document's own keys held against one another, and its spans (as KeyS, over KeyD alone). -/
namespace Go.Proofs.Ytkaoehmkmnkmaaa
set_option linter.unusedVariables false
set_option maxRecDepth 100000
open Go.RowKit

theorem conv_part {w : World} {b o : Nat} {K : List UInt8} (hr : w.rangeAt b o (bc K)) (hl : K.length = 24) (cap : Nat) : (convert 84 9 (.slice (some ⟨b, o, none⟩) 24 cap)).run Try.prog w = .ok (.string (str K)) w := by
  have := run_convert_bytes_arg (P := Try.prog) w 84 5 Try.underlying84 Try.underlying5 b o 24 cap (K.map fun b => (b.toNat : Int)) (by simp [hl]) (fun i hi => by
    have hi' : i < K.length := by omega
    rw [hr i (.int .u8 ((K[i]).toNat : Int)) (by simp [bc, hi'])]
    simp [hi']) 9 Try.underlying9
  rw [str_of] at this
  exact this

/-- What stands while two keys are held against one another. -/
structure Two (w : World) (b c : Nat) (K L : List UInt8) (w' : World) : Prop where
  k : Has w' b K
  l : Has w' c L
  bel : Below w.heap.size w w'
theorem Two.drew {w : World} {b c : Nat} {K L : List UInt8} {w' : World} (h : Two w b c K L w') : Two w b c K L w'.drew := ⟨⟨h.k.len, h.k.blk⟩, ⟨h.l.len, h.l.blk⟩, h.bel.drew⟩
theorem Two.out {w : World} {b c : Nat} {K L : List UInt8} {w' : World} (h : Two w b c K L w') : (convert 84 9 (.slice (some ⟨b, 0, none⟩) 24 24)).run Try.prog w' = .ok (.string (str K)) w' ∧ (convert 84 9 (.slice (some ⟨c, 0, none⟩) 24 24)).run Try.prog w' = .ok (.string (str L)) w' ∧ Two w b c K L w' :=
  ⟨conv_part h.k.range h.k.len 24, conv_part h.l.range h.l.len 24, h⟩

/-- What stands while a key is held against a span. -/
structure Tri (w : World) (b c : Nat) (F T : List UInt8) (e : Bool) (K : List UInt8) (w' : World) : Prop where
  s : HasS w' b F T e
  k : Has w' c K
  bel : Below w.heap.size w w'
theorem Tri.drew {w : World} {b c : Nat} {F T : List UInt8} {e : Bool} {K : List UInt8} {w' : World} (h : Tri w b c F T e K w') : Tri w b c F T e K w'.drew := ⟨⟨h.s.f, h.s.t, h.s.blk⟩, ⟨h.k.len, h.k.blk⟩, h.bel.drew⟩
theorem Tri.out {w : World} {b c : Nat} {F T : List UInt8} {e : Bool} {K : List UInt8} {w' : World} (h : Tri w b c F T e K w') : (convert 84 9 (.slice (some ⟨c, 0, none⟩) 24 24)).run Try.prog w' = .ok (.string (str K)) w' ∧ (convert 84 9 (.slice (some ⟨b, 0, none⟩) 24 24)).run Try.prog w' = .ok (.string (str F)) w' ∧ (convert 84 9 (.slice (some ⟨b, 24, none⟩) 24 24)).run Try.prog w' = .ok (.string (str T)) w' ∧ w'.cell? ⟨b, 48, none⟩ = some (.bool e) ∧ Tri w b c F T e K w' :=
  ⟨conv_part h.k.range h.k.len 24, conv_part h.s.ofF h.s.f 24, conv_part h.s.ofT h.s.t 24, h.s.ofE, h⟩

set_option maxRecDepth 100000 in
set_option maxHeartbeats 4000000 in
theorem rin_calls (w : World) (F T : List UInt8) (e : Bool) (K : List UInt8) (hF : F.length = 24) (hT : T.length = 24) (hK : K.length = 24) :
    Calls Try.prog 18 #[sv F T e, kv K] w fun x w' => x = .returned (.bool (inS F T e K)) ∧ Below w.heap.size w w' := by
  have h0 : Tri w w.heap.size (w.heap.size + 1) F T e K ((w.alloc (.cells (sc F T e).toArray 25)).alloc (.cells (bc K).toArray 23)) := ⟨(HasS.new w F T e hF hT).alloc _, by have := Has.new (w.alloc (.cells (sc F T e).toArray 25)) K hK; simpa using this, below_made (below_made (Below.refl _ w) (Nat.le_refl _) _) (Nat.le_refl _) _⟩
  have HIN : Hid (inS F T e K = (!Op.bytesLess K F && (e || Op.bytesLess K T))) := rfl
  cases hlf : Op.bytesLess K F with
  | true =>
    have hl1 : Op.bytesLess (str K).toList (str F).toList = true := by rw [str_toList, str_toList]; exact hlf
    go_enter Try.func18, Try.ntmps18
    go_wp2
    generalize (w.alloc (.cells (sc F T e).toArray 25)).alloc (.cells (bc K).toArray 23) = W at *
    have q1 : ∀ n, (convert 84 9 (.slice (some ⟨w.heap.size + 1, 0, none⟩) 24 24)).run Try.prog (W.drewN n) = .ok (.string (str K)) (W.drewN n) := fun n => conv_part (w := W.drewN n) h0.k.range h0.k.len 24
    have q2 : ∀ n, (convert 84 9 (.slice (some ⟨w.heap.size, 0, none⟩) 24 24)).run Try.prog (W.drewN n) = .ok (.string (str F)) (W.drewN n) := fun n => conv_part (w := W.drewN n) h0.s.ofF h0.s.f 24
    have HB : Hid (Below w.heap.size w W) := h0.bel
    clear h0
    go_quiet (fail)
    go_wp2_with fail
    go_ret
    exact ⟨by rw [HIN.out, hlf]; rfl, below_drewN HB.out _⟩
  | false =>
    have hl1 : Op.bytesLess (str K).toList (str F).toList = false := by rw [str_toList, str_toList]; exact hlf
    cases e with
    | true =>
      go_enter Try.func18, Try.ntmps18
      go_wp2
      generalize (w.alloc (.cells (sc F T true).toArray 25)).alloc (.cells (bc K).toArray 23) = W at *
      have q1 : ∀ n, (convert 84 9 (.slice (some ⟨w.heap.size + 1, 0, none⟩) 24 24)).run Try.prog (W.drewN n) = .ok (.string (str K)) (W.drewN n) := fun n => conv_part (w := W.drewN n) h0.k.range h0.k.len 24
      have q2 : ∀ n, (convert 84 9 (.slice (some ⟨w.heap.size, 0, none⟩) 24 24)).run Try.prog (W.drewN n) = .ok (.string (str F)) (W.drewN n) := fun n => conv_part (w := W.drewN n) h0.s.ofF h0.s.f 24
      have cE := h0.s.ofE
      have HB : Hid (Below w.heap.size w W) := h0.bel
      clear h0
      go_quiet (fail)
      go_wp2_with fail
      go_ret
      exact ⟨by rw [HIN.out, hlf]; rfl, below_drewN HB.out _⟩
    | false =>
      go_enter Try.func18, Try.ntmps18
      go_wp2
      generalize (w.alloc (.cells (sc F T false).toArray 25)).alloc (.cells (bc K).toArray 23) = W at *
      have q1 : ∀ n, (convert 84 9 (.slice (some ⟨w.heap.size + 1, 0, none⟩) 24 24)).run Try.prog (W.drewN n) = .ok (.string (str K)) (W.drewN n) := fun n => conv_part (w := W.drewN n) h0.k.range h0.k.len 24
      have q2 : ∀ n, (convert 84 9 (.slice (some ⟨w.heap.size, 0, none⟩) 24 24)).run Try.prog (W.drewN n) = .ok (.string (str F)) (W.drewN n) := fun n => conv_part (w := W.drewN n) h0.s.ofF h0.s.f 24
      have q3 : ∀ n, (convert 84 9 (.slice (some ⟨w.heap.size, 24, none⟩) 24 24)).run Try.prog (W.drewN n) = .ok (.string (str T)) (W.drewN n) := fun n => conv_part (w := W.drewN n) h0.s.ofT h0.s.t 24
      have cE := h0.s.ofE
      have HB : Hid (Below w.heap.size w W) := h0.bel
      clear h0
      go_quiet (fail)
      go_wp2_with fail
      go_ret
      refine ⟨?_, below_drewN HB.out _⟩
      show Ending.returned (Value.bool (Op.bytesLess (str K).toList (str T).toList)) = _
      rw [HIN.out, hlf, str_toList, str_toList]
      simp

end Go.Proofs.Ytkaoehmkmnkmaaa
/- The document's Has (as Te8B, over KeyS2 alone). -/
namespace Go.Proofs.Ytkaoehmkmnkmaaa
set_option linter.unusedVariables false
set_option maxRecDepth 100000
open Go.RowKit

theorem mem_take (l : List Sp) (k : Nat) (h : k < l.length) (x : Int) : mem (l.take (k + 1)) x = (mem (l.take k) x || (l[k]).inb x) := by
  rw [List.take_succ_eq_append_getElem h, mem_append]
  simp [mem]
theorem mem_hit (l : List Sp) (k : Nat) (h : k < l.length) (x : Int) (hi : (l[k]).inb x = true) : mem l x = true := by
  unfold mem
  rw [List.any_eq_true]
  exact ⟨l[k], List.getElem_mem h, hi⟩
set_option maxRecDepth 100000 in
set_option maxHeartbeats 4000000 in
theorem rhas_calls (w : World) (u : Value) (l : List Sp) (h : Sl encS w u l) (K : List UInt8) (hK : K.length = 24) : Calls Try.prog 16 #[u, kv K] w fun e w' => e = .returned (.bool (mem l (num K))) ∧ Below w.heap.size w w' := by
  have b1 : Below w.heap.size w (w.alloc (.cells (bc K).toArray 23)) := (Below.refl _ w).alloc (Nat.le_refl _) _
  have HS : Hid (Sl encS w u l) := h
  have HK : Hid (Has (w.alloc (.cells (bc K).toArray 23)) w.heap.size K) := Has.new w K hK
  have HB : Hid (Below w.heap.size w (w.alloc (.cells (bc K).toArray 23))) := b1
  obtain ⟨ad, cap, rfl, hcap, hmax, _, _⟩ := h
  have HG : Hid (∀ i (hi : i < l.length), ∃ g off, ad = some ⟨g, off, none⟩ ∧ g < w.heap.size ∧ w.rangeAt g (off + i * 49) (encS.c l[i])) := fun i hi => SlB.at HS.out i hi
  obtain ⟨N, hN⟩ : ∃ N : Nat, N = l.length := ⟨_, rfl⟩
  have HN : Hid (N = l.length) := hN
  rw [← hN] at hcap hmax ⊢
  have HM : Hid (∀ k : Nat, k < N → wrap64 ((k : Int) + 1) = ((k + 1 : Nat) : Int)) := fun k hk => wrap_next hk hmax
  clear b1 hN hmax
  have hiK : (Try.prog.info? 23).map (·.size) = some (bc K).length := by rw [bc_length, hK]; exact Try.key_info
  go_enter Try.func16, Try.ntmps16
  go_wp2_with fail
  generalize hW : w.alloc (.cells (bc K).toArray 23) = W at *
  have hbW := HK.out.lt
  go_loopg [5] N (fun gg i wr => ∃ k : Nat, k + gg = N ∧ i = .int .i64 (k : Int) ∧ Hid (Below W.heap.size W wr ∧ mem (l.take k) (num K) = false))
  case atStart => exact ⟨0, by omega, rfl, ⟨Below.refl _ _, rfl⟩⟩
  case round =>
    obtain ⟨k, hkg, rfl, HL⟩ := hrel
    cases gk with
    | zero =>
      have hkN : k = N := by omega
      subst hkN
      go_wp2_with fail
      go_ret
      have h1 := HL.out.2
      rw [List.take_of_length_le (by have := HN.out; omega)] at h1
      exact ⟨by rw [h1]; rfl, HB.out.trans (HL.out.1.mono HB.out.size)⟩
    | succ gg =>
      have hlt : k < N := by omega
      have hltI : (k : Int) < (N : Int) := by omega
      have hk0 : (0 : Int) ≤ (k : Int) := by omega
      have hkl : k < l.length := by have := HN.out; omega
      obtain ⟨g, off, rfl, hg, hr⟩ := HG.out k hkl
      have hgW : g < W.heap.size := Nat.lt_of_lt_of_le hg HB.out.size
      have rS : wr.rangeAt g (off + k * 49) (encS.c l[k]) := range_same' (range_same' hr (HB.out.block g hg)) (HL.out.1.block g hgW)
      have rK : wr.rangeAt w.heap.size 0 (bc K) := (HK.out.below HL.out.1 hbW).range
      have HT : Hid (mem (l.take (k + 1)) (num K) = (mem (l.take k) (num K) || (l[k]).inb (num K))) := mem_take l k hkl _
      have HH : Hid ((l[k]).inb (num K) = true → mem l (num K) = true) := mem_hit l k hkl _
      have hin := fun y => rin_calls y (l[k]).F (l[k]).T (l[k]).e K (l[k]).hF (l[k]).hT hK
      rw [in_num (l[k]) K hK] at hin
      have HIN : Hid (∀ y, Calls Try.prog 18 #[spv (l[k]), kv K] y fun x w' => x = .returned (.bool ((l[k]).inb (num K))) ∧ Below y.heap.size y w') := hin
      have hiS : (Try.prog.info? 25).map (·.size) = some (encS.c (l[k])).length := by rw [encS.len]; exact Try.span_info
      have HKS : Hid (wrap64 ((k : Int) + 1) = ((k + 1 : Nat) : Int)) := HM.out k hlt
      have hws := HL.out.1.size
      clear hin hr
      generalize (l[k]).inb (num K) = rs at *
      generalize l[k] = s at *
      go_upto_region 4 with fail
      refine wp_region_noPanic ?_
      refine wp_region_held_drew (S := (fun yy => yy.rangeAt g (off + k * 49) (encS.c s) ∧ yy.rangeAt w.heap.size 0 (bc K))) (by kernel_rfl) ⟨rS, rK⟩ (fun hHeld => ?_)
      refine wpAnyH_take (i := 0) (v := ?_) rfl (by kernel_rfl) (by kernel_rfl) (by kernel_rfl) (fun _ _ _ h => h) (Or.inl ⟨by rfl, ?_⟩) hHeld ?_
      case refine_2 => (intro w hSw; (try dsimp only at hSw); go_simp; try (with_reducible rfl))
      (try simp only [gs])
      refine wpAnyH_take (i := 1) (v := ?_) rfl (by kernel_rfl) (by kernel_rfl) (by kernel_rfl) (fun _ _ _ h => h) (Or.inl ⟨by rfl, ?_⟩) hHeld ?_
      case refine_2 => (intro w hSw; (try dsimp only at hSw); go_simp; try (with_reducible rfl))
      (try simp only [gs])
      refine wpAnyH_take (i := 2) (v := ?_) rfl (by kernel_rfl) (by kernel_rfl) (by kernel_rfl) (fun _ _ _ h => h) (Or.inl ⟨by rfl, ?_⟩) hHeld ?_
      case refine_2 => (intro w hSw; (try dsimp only at hSw); go_simp; try (with_reducible rfl))
      (try simp only [gs])
      refine wpAnyH_take (i := 3) rfl (by kernel_rfl) (by kernel_rfl) (by kernel_rfl) (fun _ _ _ h => h) (yieldsIf_load_mid (by rfl) _ _ rfl _ _ rfl _ _ (fun _ h => h.1) Try.underlying25 rfl hiS) hHeld ?_
      (try simp only [gs])
      refine wpAnyH_take (i := 4) rfl (by kernel_rfl) (by kernel_rfl) (by kernel_rfl) (fun _ _ _ h => h) (yieldsIf_load_mid (by rfl) _ _ rfl _ _ rfl _ _ (fun _ h => h.2) Try.underlying23 rfl hiK) hHeld ?_
      (try simp only [gs])
      refine wpAnyH_ready (rs := [5]) (by kernel_rfl) (by simp) (AllReadyH.cons rfl (fun K hK => ?_) AllReadyH.nil)
      rw [if_pos (by rfl)]
      (try simp only [gs])
      go_simp
      refine (HIN.out _).mono ?_
      rintro e y ⟨rfl, b⟩
      refine hK.out _ _ ⟨range_same' hHeld.1 (b.block g (by show g < wr.heap.size; omega)), range_same' hHeld.2 (b.block w.heap.size (by show w.heap.size < wr.heap.size; omega))⟩ (fun hHeld => ?_)
      clear hK K
      (try simp only [gs])
      have HY : Hid (Below W.heap.size W y) := HL.out.1.drew.trans (b.mono (by show W.heap.size ≤ wr.heap.size; omega))
      refine wpAnyH_take (i := 6) (v := ?_) rfl (by kernel_rfl) (by kernel_rfl) (by kernel_rfl) (fun _ _ _ h => h) (Or.inl ⟨by rfl, ?_⟩) hHeld ?_
      case refine_2 => (intro w hSw; (try dsimp only at hSw); go_simp; try (with_reducible rfl))
      (try simp only [gs])
      refine wpAnyH_done (by kernel_rfl) ?_ _
      refine NoPanic.normal ?_
      cases rs with
      | true =>
        go_wp2_with fail
        go_ret
        exact ⟨by rw [show mem l (num K) = true by first | exact HH.out trivial | exact HH.out rfl]; rfl, HB.out.trans (HY.out.mono HB.out.size)⟩
      | false =>
        go_wp2_with fail
        go_roundg gg
        case measure => omega
        case rel => exact ⟨k + 1, by omega, congrArg (Value.int .i64) HKS.out, ⟨HY.out, by rw [HT.out, HL.out.2]; rfl⟩⟩
end Go.Proofs.Ytkaoehmkmnkmaaa
/- What a key says. -/
namespace Go.Proofs.Ytkaoehmkmnkmaaa
set_option linter.unusedVariables false
set_option maxRecDepth 100000
open Go.RowKit

/-- What the bytes of a key tell, right or not. -/
def pIno (K : List UInt8) : Int := (num [K.getD 0 0, K.getD 1 0, K.getD 2 0, K.getD 3 0] : Int)
def pKind (K : List UInt8) : Int := ((K.getD 4 0).toNat : Int)
def nmLen (K : List UInt8) : Nat := min (K.getD 23 0).toNat 18
def nm (K : List UInt8) : List UInt8 := (K.drop 5).take (nmLen K)
def pName (K : List UInt8) : List UInt8 := if pKind K = 2 then nm K else []
def pPlace (K : List UInt8) : Int := if pKind K = 3 then (num [K.getD 20 0, K.getD 21 0, K.getD 22 0, K.getD 23 0] : Int) else 0
/-- Parts as a value. -/
abbrev pv (i k : Int) (s : List UInt8) (p : Int) : Value := .agg #[.int .i64 i, .int .i64 k, .string (str s), .int .i64 p]

theorem conv_key {w : World} {b : Nat} {K : List UInt8} (h : Has w b K) (o n cap : Nat) (hn : o + n ≤ 24) : (convert 84 9 (.slice (some ⟨b, o, none⟩) n cap)).run Try.prog w = .ok (.string (str ((K.drop o).take n))) w := by
  have hl := h.len
  have := run_convert_bytes_arg (P := Try.prog) w 84 5 Try.underlying84 Try.underlying5 b o n cap (((K.drop o).take n).map fun b => (b.toNat : Int)) (by simp; omega) (fun i hi => by
    rw [h.cell (o + i) (by omega)]
    have hj : o + i < K.length := by omega
    simp [hi, List.getElem?_drop, hj]) 9 Try.underlying9
  rw [str_of] at this
  exact this

theorem slice_key (w : World) (b m : Nat) (hm : m ≤ 18) : (Instr.sliceAt 23 (.pointer (some ⟨b, 0, none⟩)) (some (.int .i64 5)) (some (.int .i64 (5 + (m : Int)))) none).run Try.prog w = .ok (.slice (some ⟨b, 5, none⟩) m 19) w := by
  have hal : Try.prog.arrayLen 23 = 24 := by kernel_rfl
  have hel : Try.prog.elem 23 = 5 := by kernel_rfl
  have hu : Try.prog.underlying 23 = some (.array (Try.prog.arrayLen 23) (Try.prog.elem 23)) := by rw [hal, hel]; exact Try.underlying23
  rw [run_sliceAt_array_lh w 23 ⟨b, 0, none⟩ hu .i64 .i64 5 (5 + (m : Int)) (by omega) (by omega) (by rw [hal]; omega), hel, Try.sizeOf5, hal]
  simp only [Result.andThen, slicedAt]
  have e1 : (5 + (m : Int)).toNat - (5 : Int).toNat = m := by omega
  rw [e1]
  rfl

theorem cells4 {w : World} {b : Nat} {x y z u : Value} {t : TypeId} (h : w.heap[b]? = some (.cells #[x, y, z, u] t (0, 0))) :
    w.cell? ⟨b, 0, none⟩ = some x ∧ w.cell? ⟨b, 1, none⟩ = some y ∧ w.cell? ⟨b, 2, none⟩ = some z ∧ w.cell? ⟨b, 3, none⟩ = some u := by
  refine ⟨?_, ?_, ?_, ?_⟩ <;> (rw [cell_of_row w b _ _ _ _ h]; rfl)
theorem free4 {w : World} {b : Nat} {x y z u : Value} {t : TypeId} (h : w.heap[b]? = some (.cells #[x, y, z, u] t (0, 0))) :
    w.frozen? ⟨b, 0, none⟩ = false ∧ w.frozen? ⟨b, 1, none⟩ = false ∧ w.frozen? ⟨b, 2, none⟩ = false ∧ w.frozen? ⟨b, 3, none⟩ = false := by
  refine ⟨?_, ?_, ?_, ?_⟩ <;> simp [World.frozen?, h]
theorem set_blk {w : World} {b : Nat} {C : Array Value} {t : TypeId} (h : w.heap[b]? = some (.cells C t (0, 0))) (j : Nat) (u : Value) : (w.setCell ⟨b, j, none⟩ u).heap[b]? = some (.cells (C.setIfInBounds j u) t (0, 0)) := by
  rw [setCell_eq_setRow w b j C t _ u h, setRow_heap w b _ _ _ _ h]
/-- The key that parts make. -/
def madeK (i k : Int) (s : List UInt8) (p : Int) : List UInt8 := if k = 1 then inodeR i else if k = 2 then entryR i s else if k = 3 then chunkR i p else zs 24
def madeB (i k : Int) (s : List UInt8) (p : Int) : Bool := if k = 1 then okN i else if k = 2 then okN i && okS s else if k = 3 then okN i && okP p else false
theorem madeK_length (i k : Int) (s : List UInt8) (p : Int) : (madeK i k s p).length = 24 := by
  unfold madeK
  split
  · exact inodeR_length i
  · split
    · exact entryR_length i s
    · split
      · exact chunkR_length i p
      · exact zs_length 24

/-- Does a key say something? -/
def right (K : List UInt8) : Bool := madeB (pIno K) (pKind K) (pName K) (pPlace K) && (madeK (pIno K) (pKind K) (pName K) (pPlace K) == K)
def ofV (K : List UInt8) : Value := if right K then pv (pIno K) (pKind K) (pName K) (pPlace K) else pv 0 0 [] 0

end Go.Proofs.Ytkaoehmkmnkmaaa
/- What keys say and how they are ordered: plain mathematics. -/
namespace Go.Proofs.Ytkaoehmkmnkmaaa
set_option linter.unusedVariables false
set_option maxRecDepth 100000
open Go.RowKit

theorem be4 (n : Nat) : be n 4 = [UInt8.ofNat (n / 256 ^ 3), UInt8.ofNat (n / 256 ^ 2), UInt8.ofNat (n / 256 ^ 1), UInt8.ofNat (n / 256 ^ 0)] := rfl
theorem num_be4 (n : Nat) (h : n < 4294967296) : num [UInt8.ofNat (n / 256 ^ 3), UInt8.ofNat (n / 256 ^ 2), UInt8.ofNat (n / 256 ^ 1), UInt8.ofNat (n / 256 ^ 0)] = n := by
  rw [← be4]
  exact num_be 4 n (by rw [p4]; exact h)
theorem pIno_of (n : Nat) (h : n < 4294967296) (r : List UInt8) : pIno (be n 4 ++ r) = n := by
  show ((num [_, _, _, _] : Nat) : Int) = n
  exact congrArg _ (num_be4 n h)
theorem pKind_of (n : Nat) (k : UInt8) (r : List UInt8) : pKind (be n 4 ++ k :: r) = k.toNat := rfl

theorem okN_lt {n : Int} (h : okN n = true) : 0 ≤ n ∧ n.toNat < 4294967296 ∧ ((n.toNat : Nat) : Int) = n := by
  have : 1 ≤ n ∧ n < 1073741824 := of_decide_eq_true h
  omega
theorem okP_lt {n : Int} (h : okP n = true) : 0 ≤ n ∧ n.toNat < 4294967296 ∧ ((n.toNat : Nat) : Int) = n := by
  have : 0 ≤ n ∧ n ≤ 4294967295 := of_decide_eq_true h
  omega
theorem okS_out {s : List UInt8} (h : okS s = true) : 1 ≤ s.length ∧ s.length ≤ 18 ∧ (0 : UInt8) ∉ s := of_decide_eq_true h

theorem head_says {n : Int} (h : okN n = true) (k : UInt8) : pIno (headK n.toNat k) = n ∧ pKind (headK n.toNat k) = k.toNat := by
  obtain ⟨h0, h1, h2⟩ := okN_lt h
  exact ⟨by rw [headK, pIno_of _ h1, h2], pKind_of _ _ _⟩
theorem chunk_says {n p : Int} (h : okN n = true) (hp : okP p = true) : pIno (chunkK n.toNat p.toNat) = n ∧ pKind (chunkK n.toNat p.toNat) = 3 ∧ pPlace (chunkK n.toNat p.toNat) = p := by
  obtain ⟨h0, h1, h2⟩ := okN_lt h
  obtain ⟨q0, q1, q2⟩ := okP_lt hp
  refine ⟨by rw [chunkK, pIno_of _ h1, h2], pKind_of _ _ _, ?_⟩
  have : pPlace (chunkK n.toNat p.toNat) = ((num [UInt8.ofNat (p.toNat / 256 ^ 3), UInt8.ofNat (p.toNat / 256 ^ 2), UInt8.ofNat (p.toNat / 256 ^ 1), UInt8.ofNat (p.toNat / 256 ^ 0)] : Nat) : Int) := rfl
  rw [this, num_be4 _ q1, q2]
theorem entry_last (n : Nat) (s : List UInt8) (h : s.length ≤ 18) : (entryK n s).getD 23 0 = UInt8.ofNat s.length := by
  have e : entryK n s = (be n 4 ++ 2 :: (s ++ zs (18 - s.length))) ++ [UInt8.ofNat s.length] := by simp [entryK]
  rw [e, List.getD, List.getElem?_append_right (by simp [be_length, zs_length]; omega)]
  have : 23 - (be n 4 ++ 2 :: (s ++ zs (18 - s.length))).length = 0 := by simp [be_length, zs_length]; omega
  rw [this]
  rfl
theorem entry_nm (n : Nat) (s : List UInt8) (h : s.length ≤ 18) : nm (entryK n s) = s := by
  have h1 : nmLen (entryK n s) = s.length := by
    rw [nmLen, entry_last n s h, UInt8.toNat_ofNat']
    omega
  have h2 : (entryK n s).drop 5 = s ++ zs (18 - s.length) ++ [UInt8.ofNat s.length] := rfl
  rw [nm, h1, h2, List.append_assoc, List.take_left']
  rfl
theorem entry_says {n : Int} {s : List UInt8} (h : okN n = true) (hs : okS s = true) : pIno (entryK n.toNat s) = n ∧ pKind (entryK n.toNat s) = 2 ∧ pName (entryK n.toNat s) = s := by
  obtain ⟨h0, h1, h2⟩ := okN_lt h
  have hk : pKind (entryK n.toNat s) = 2 := pKind_of _ _ _
  refine ⟨by rw [entryK, pIno_of _ h1, h2], hk, ?_⟩
  rw [pName, if_pos hk, entry_nm _ _ (okS_out hs).2.1]

/-! Keys that are made say what they are made of. -/
theorem inode_right {n : Int} (h : okN n = true) : right (inodeR n) = true ∧ ofV (inodeR n) = pv n 1 [] 0 := by
  have e : inodeR n = headK n.toNat 1 := by rw [inodeR, if_pos h]
  obtain ⟨h1, h2⟩ := head_says h 1
  have h2 : pKind (headK n.toNat 1) = 1 := h2
  have hN : pName (headK n.toNat 1) = [] := by rw [pName, h2]; rfl
  have hP : pPlace (headK n.toNat 1) = 0 := by rw [pPlace, h2]; rfl
  have hr : right (headK n.toNat 1) = true := by
    rw [right, h1, h2, hN, hP]
    simp [madeB, madeK, h, inodeR]
  rw [e]
  refine ⟨hr, ?_⟩
  rw [ofV, if_pos hr, h1, h2, hN, hP]
theorem entry_right {n : Int} {s : List UInt8} (h : okN n = true) (hs : okS s = true) : right (entryR n s) = true ∧ ofV (entryR n s) = pv n 2 s 0 := by
  have e : entryR n s = entryK n.toNat s := by rw [entryR, h, hs]; rfl
  obtain ⟨h1, h2, h3⟩ := entry_says h hs
  have hP : pPlace (entryK n.toNat s) = 0 := by rw [pPlace, h2]; rfl
  have hr : right (entryK n.toNat s) = true := by
    rw [right, h1, h2, h3, hP]
    simp [madeB, madeK, h, hs, entryR]
  rw [e]
  refine ⟨hr, ?_⟩
  rw [ofV, if_pos hr, h1, h2, h3, hP]
theorem chunk_right {n p : Int} (h : okN n = true) (hp : okP p = true) : right (chunkR n p) = true ∧ ofV (chunkR n p) = pv n 3 [] p := by
  have e : chunkR n p = chunkK n.toNat p.toNat := by rw [chunkR, h, hp]; rfl
  obtain ⟨h1, h2, h3⟩ := chunk_says h hp
  have hN : pName (chunkK n.toNat p.toNat) = [] := by rw [pName, h2]; rfl
  have hr : right (chunkK n.toNat p.toNat) = true := by
    rw [right, h1, h2, h3, hN]
    simp [madeB, madeK, h, hp, chunkR]
  rw [e]
  refine ⟨hr, ?_⟩
  rw [ofV, if_pos hr, h1, h2, h3, hN]

theorem entry_inj {a b : Int} {s t : List UInt8} (ha : okN a = true) (hs : okS s = true) (hb : okN b = true) (ht : okS t = true) : (entryR a s == entryR b t) = (a == b && s == t) := by
  have ea : entryR a s = entryK a.toNat s := by rw [entryR, ha, hs]; rfl
  have eb : entryR b t = entryK b.toNat t := by rw [entryR, hb, ht]; rfl
  obtain ⟨p1, p2, p3⟩ := entry_says ha hs
  obtain ⟨q1, q2, q3⟩ := entry_says hb ht
  rw [Bool.eq_iff_iff]
  simp only [beq_iff_eq, Bool.and_eq_true]
  constructor
  · intro h
    rw [ea, eb] at h
    rw [h] at p1 p3
    exact ⟨p1.symm.trans q1, p3.symm.trans q3⟩
  · rintro ⟨rfl, rfl⟩
    rfl
theorem chunk_inj {a b p q : Int} (ha : okN a = true) (hp : okP p = true) (hb : okN b = true) (hq : okP q = true) : (chunkR a p == chunkR b q) = (a == b && p == q) := by
  have ea : chunkR a p = chunkK a.toNat p.toNat := by rw [chunkR, ha, hp]; rfl
  have eb : chunkR b q = chunkK b.toNat q.toNat := by rw [chunkR, hb, hq]; rfl
  obtain ⟨p1, p2, p3⟩ := chunk_says ha hp
  obtain ⟨q1, q2, q3⟩ := chunk_says hb hq
  rw [Bool.eq_iff_iff]
  simp only [beq_iff_eq, Bool.and_eq_true]
  constructor
  · intro h
    rw [ea, eb] at h
    rw [h] at p1 p3
    exact ⟨p1.symm.trans q1, p3.symm.trans q3⟩
  · rintro ⟨rfl, rfl⟩
    rfl
theorem inode_inj {a b : Int} (ha : okN a = true) (hb : okN b = true) : (inodeR a == inodeR b) = (a == b) := by
  have ea : inodeR a = headK a.toNat 1 := by rw [inodeR, if_pos ha]
  have eb : inodeR b = headK b.toNat 1 := by rw [inodeR, if_pos hb]
  obtain ⟨p1, p2⟩ := head_says ha 1
  obtain ⟨q1, q2⟩ := head_says hb 1
  rw [Bool.eq_iff_iff]
  simp only [beq_iff_eq]
  constructor
  · intro h
    rw [ea, eb] at h
    rw [h] at p1
    exact p1.symm.trans q1
  · rintro rfl
    rfl
theorem kinds_apart {K L : List UInt8} {i j : Int} (hK : pKind K = i) (hL : pKind L = j) (h : i ≠ j) : (K == L) = false := by
  rw [beq_eq_false_iff_ne]
  intro e
  subst e
  exact h (hK.symm.trans hL)
theorem entry_chunk {a b p : Int} {s : List UInt8} (ha : okN a = true) (hs : okS s = true) (hb : okN b = true) (hp : okP p = true) : (entryR a s == chunkR b p) = false := by
  rw [show entryR a s = entryK a.toNat s by rw [entryR, ha, hs]; rfl, show chunkR b p = chunkK b.toNat p.toNat by rw [chunkR, hb, hp]; rfl]
  exact kinds_apart (entry_says ha hs).2.1 (chunk_says hb hp).2.1 (by decide)
theorem entry_inode {a b : Int} {s : List UInt8} (ha : okN a = true) (hs : okS s = true) (hb : okN b = true) : (entryR a s == inodeR b) = false := by
  rw [show entryR a s = entryK a.toNat s by rw [entryR, ha, hs]; rfl, show inodeR b = headK b.toNat 1 by rw [inodeR, if_pos hb]]
  exact kinds_apart (entry_says ha hs).2.1 (head_says hb 1).2 (by decide)
theorem chunk_inode {a b p : Int} (ha : okN a = true) (hp : okP p = true) (hb : okN b = true) : (chunkR a p == inodeR b) = false := by
  rw [show chunkR a p = chunkK a.toNat p.toNat by rw [chunkR, ha, hp]; rfl, show inodeR b = headK b.toNat 1 by rw [inodeR, if_pos hb]]
  exact kinds_apart (chunk_says ha hp).2.1 (head_says hb 1).2 (by decide)
end Go.Proofs.Ytkaoehmkmnkmaaa
