import Derived.Test.YthdoomjhdmklnaaGreatSi
import Derived.Test.YthdoomjhdmklnaaGreatB46
import Derived.Test.YthdoomjhdmklnaaGreatB31
import Derived.Test.YthdoomjhdmklnaaGreatSi
import Derived.WalkKit
/- The document's Has (as Te8B, over KeyS2 alone). -/
namespace Go.Proofs.YthdoomjhdmklnaaGreat
set_option linter.unusedVariables false
set_option maxRecDepth 100000
open Go.RowKit

theorem mem_take (l : List Sp) (k : Nat) (h : k < l.length) (x : Int) : mem (l.take (k + 1)) x = (mem (l.take k) x || (l[k]).inb x) := by
  rw [List.take_succ_eq_append_getElem h, mem_append]
  simp [mem]
theorem mem_hit (l : List Sp) (k : Nat) (h : k < l.length) (x : Int) (hi : (l[k]).inb x = true) : mem l x = true := by
  unfold mem
  rw [List.any_eq_true]
  exact ⟨l[k], List.getElem_mem h, hi⟩
set_option maxRecDepth 100000 in
set_option maxHeartbeats 4000000 in
theorem rhas_calls (w : World) (u : Value) (l : List Sp) (h : Sl encS w u l) (K : List UInt8) (hK : K.length = 24) : Calls Tryz.prog 28 #[u, kv K] w fun e w' => e = .returned (.bool (mem l (num K))) ∧ Below w.heap.size w w' := by
  have b1 : Below w.heap.size w (w.alloc (.cells (bc K).toArray 29)) := (Below.refl _ w).alloc (Nat.le_refl _) _
  have HS : Hid (Sl encS w u l) := h
  have HK : Hid (Has (w.alloc (.cells (bc K).toArray 29)) w.heap.size K) := Has.new w K hK
  have HB : Hid (Below w.heap.size w (w.alloc (.cells (bc K).toArray 29))) := b1
  obtain ⟨ad, cap, rfl, hcap, hmax, _, _⟩ := h
  have HG : Hid (∀ i (hi : i < l.length), ∃ g off, ad = some ⟨g, off, none⟩ ∧ g < w.heap.size ∧ w.rangeAt g (off + i * 49) (encS.c l[i])) := fun i hi => SlB.at HS.out i hi
  obtain ⟨N, hN⟩ : ∃ N : Nat, N = l.length := ⟨_, rfl⟩
  have HN : Hid (N = l.length) := hN
  rw [← hN] at hcap hmax ⊢
  have HM : Hid (∀ k : Nat, k < N → wrap64 ((k : Int) + 1) = ((k + 1 : Nat) : Int)) := fun k hk => wrap_next hk hmax
  clear b1 hN hmax
  have hiK : (Tryz.prog.info? 29).map (·.size) = some (bc K).length := by rw [bc_length, hK]; exact Tryz.key_info
  go_enter Tryz.func28, Tryz.ntmps28
  go_wp2_with fail
  generalize hW : w.alloc (.cells (bc K).toArray 29) = W at *
  have hbW := HK.out.lt
  go_loopg [5] N (fun gg i wr => ∃ k : Nat, k + gg = N ∧ i = .int .i64 (k : Int) ∧ Hid (Below W.heap.size W wr ∧ mem (l.take k) (num K) = false))
  case atStart => exact ⟨0, by omega, rfl, ⟨Below.refl _ _, rfl⟩⟩
  case round =>
    obtain ⟨k, hkg, rfl, HL⟩ := hrel
    cases gk with
    | zero =>
      have hkN : k = N := by omega
      subst hkN
      go_wp2_with fail
      go_ret
      have h1 := HL.out.2
      rw [List.take_of_length_le (by have := HN.out; omega)] at h1
      exact ⟨by rw [h1]; rfl, HB.out.trans (HL.out.1.mono HB.out.size)⟩
    | succ gg =>
      have hlt : k < N := by omega
      have hltI : (k : Int) < (N : Int) := by omega
      have hk0 : (0 : Int) ≤ (k : Int) := by omega
      have hkl : k < l.length := by have := HN.out; omega
      obtain ⟨g, off, rfl, hg, hr⟩ := HG.out k hkl
      have hgW : g < W.heap.size := Nat.lt_of_lt_of_le hg HB.out.size
      have rS : wr.rangeAt g (off + k * 49) (encS.c l[k]) := range_same' (range_same' hr (HB.out.block g hg)) (HL.out.1.block g hgW)
      have rK : wr.rangeAt w.heap.size 0 (bc K) := (HK.out.below HL.out.1 hbW).range
      have HT : Hid (mem (l.take (k + 1)) (num K) = (mem (l.take k) (num K) || (l[k]).inb (num K))) := mem_take l k hkl _
      have HH : Hid ((l[k]).inb (num K) = true → mem l (num K) = true) := mem_hit l k hkl _
      have hin := fun y => rin_calls y (l[k]).F (l[k]).T (l[k]).e K (l[k]).hF (l[k]).hT hK
      rw [in_num (l[k]) K hK] at hin
      have HIN : Hid (∀ y, Calls Tryz.prog 60 #[spv (l[k]), kv K] y fun x w' => x = .returned (.bool ((l[k]).inb (num K))) ∧ Below y.heap.size y w') := hin
      have hiS : (Tryz.prog.info? 96).map (·.size) = some (encS.c (l[k])).length := by rw [encS.len]; exact Tryz.span_info
      have HKS : Hid (wrap64 ((k : Int) + 1) = ((k + 1 : Nat) : Int)) := HM.out k hlt
      have hws := HL.out.1.size
      clear hin hr
      generalize (l[k]).inb (num K) = rs at *
      generalize l[k] = s at *
      go_upto_region 4 with fail
      refine wp_region_noPanic ?_
      refine wp_region_held_drew (S := (fun yy => yy.rangeAt g (off + k * 49) (encS.c s) ∧ yy.rangeAt w.heap.size 0 (bc K))) (by kernel_rfl) ⟨rS, rK⟩ (fun hHeld => ?_)
      refine wpAnyH_take (i := 0) (v := ?_) rfl (by kernel_rfl) (by kernel_rfl) (by kernel_rfl) (fun _ _ _ h => h) (Or.inl ⟨by rfl, ?_⟩) hHeld ?_
      case refine_2 => (intro w hSw; (try dsimp only at hSw); go_simp; try (with_reducible rfl))
      (try simp only [gs])
      refine wpAnyH_take (i := 1) (v := ?_) rfl (by kernel_rfl) (by kernel_rfl) (by kernel_rfl) (fun _ _ _ h => h) (Or.inl ⟨by rfl, ?_⟩) hHeld ?_
      case refine_2 => (intro w hSw; (try dsimp only at hSw); go_simp; try (with_reducible rfl))
      (try simp only [gs])
      refine wpAnyH_take (i := 2) (v := ?_) rfl (by kernel_rfl) (by kernel_rfl) (by kernel_rfl) (fun _ _ _ h => h) (Or.inl ⟨by rfl, ?_⟩) hHeld ?_
      case refine_2 => (intro w hSw; (try dsimp only at hSw); go_simp; try (with_reducible rfl))
      (try simp only [gs])
      refine wpAnyH_take (i := 3) rfl (by kernel_rfl) (by kernel_rfl) (by kernel_rfl) (fun _ _ _ h => h) (yieldsIf_load_mid (by rfl) _ _ rfl _ _ rfl _ _ (fun _ h => h.1) Tryz.underlying96 rfl hiS) hHeld ?_
      (try simp only [gs])
      refine wpAnyH_take (i := 4) rfl (by kernel_rfl) (by kernel_rfl) (by kernel_rfl) (fun _ _ _ h => h) (yieldsIf_load_mid (by rfl) _ _ rfl _ _ rfl _ _ (fun _ h => h.2) Tryz.underlying29 rfl hiK) hHeld ?_
      (try simp only [gs])
      refine wpAnyH_ready (rs := [5]) (by kernel_rfl) (by simp) (AllReadyH.cons rfl (fun K hK => ?_) AllReadyH.nil)
      rw [if_pos (by rfl)]
      (try simp only [gs])
      go_simp
      refine (HIN.out _).mono ?_
      rintro e y ⟨rfl, b⟩
      refine hK.out _ _ ⟨range_same' hHeld.1 (b.block g (by show g < wr.heap.size; omega)), range_same' hHeld.2 (b.block w.heap.size (by show w.heap.size < wr.heap.size; omega))⟩ (fun hHeld => ?_)
      clear hK K
      (try simp only [gs])
      have HY : Hid (Below W.heap.size W y) := HL.out.1.drew.trans (b.mono (by show W.heap.size ≤ wr.heap.size; omega))
      refine wpAnyH_take (i := 6) (v := ?_) rfl (by kernel_rfl) (by kernel_rfl) (by kernel_rfl) (fun _ _ _ h => h) (Or.inl ⟨by rfl, ?_⟩) hHeld ?_
      case refine_2 => (intro w hSw; (try dsimp only at hSw); go_simp; try (with_reducible rfl))
      (try simp only [gs])
      refine wpAnyH_done (by kernel_rfl) ?_ _
      refine NoPanic.normal ?_
      cases rs with
      | true =>
        go_wp2_with fail
        go_ret
        exact ⟨by rw [show mem l (num K) = true by first | exact HH.out trivial | exact HH.out rfl]; rfl, HB.out.trans (HY.out.mono HB.out.size)⟩
      | false =>
        go_wp2_with fail
        go_roundg gg
        case measure => omega
        case rel => exact ⟨k + 1, by omega, congrArg (Value.int .i64) HKS.out, ⟨HY.out, by rw [HT.out, HL.out.2]; rfl⟩⟩
end Go.Proofs.YthdoomjhdmklnaaGreat
/- Masks and remainders on an int. -/
namespace Go.Proofs.YthdoomjhdmklnaaGreat
set_option linter.unusedVariables false
set_option maxRecDepth 100000
theorem and_ones (n : Int) (m j : Nat) (hm : (BitVec.ofInt 64 (m : Int)).toNat = 2 ^ j - 1) : (BitVec.ofInt 64 n &&& BitVec.ofInt 64 (m : Int)).toNat = (n % ((2 ^ 64 : Nat) : Int)).toNat % 2 ^ j := by
  rw [BitVec.toNat_and, BitVec.toNat_ofInt, hm, Nat.and_two_pow_sub_one_eq_mod]
theorem and63 (n : Int) : bits .and .i64 n 63 = n % 64 := by
  show IntKind.i64.wrap ((BitVec.ofInt 64 n &&& BitVec.ofInt 64 ((63 : Nat) : Int)).toNat : Nat) = n % 64
  rw [and_ones n 63 6 (by decide), IntKind.wrap_i64]
  omega
theorem and65535 (n : Int) : bits .and .i64 n 65535 = n % 65536 := by
  show IntKind.i64.wrap ((BitVec.ofInt 64 n &&& BitVec.ofInt 64 ((65535 : Nat) : Int)).toNat : Nat) = n % 65536
  rw [and_ones n 65535 16 (by decide), IntKind.wrap_i64]
  omega
theorem and24 (n : Int) : bits .and .i64 n 16777215 = n % 16777216 := by
  show IntKind.i64.wrap ((BitVec.ofInt 64 n &&& BitVec.ofInt 64 ((16777215 : Nat) : Int)).toNat : Nat) = n % 16777216
  rw [and_ones n 16777215 24 (by decide), IntKind.wrap_i64]
  omega
theorem and32 (n : Int) : bits .and .i64 n 4294967295 = n % 4294967296 := by
  show IntKind.i64.wrap ((BitVec.ofInt 64 n &&& BitVec.ofInt 64 ((4294967295 : Nat) : Int)).toNat : Nat) = n % 4294967296
  rw [and_ones n 4294967295 32 (by decide), IntKind.wrap_i64]
  omega
open Go.RowKit
theorem wrap64_of_range {x : Int} (h1 : -9223372036854775808 ≤ x) (h2 : x ≤ 9223372036854775807) : wrap64 x = x := by unfold wrap64; omega
end Go.Proofs.YthdoomjhdmklnaaGreat
