import Derived.Test.YtgicanpggndbeaaGreatSi
import Derived.Test.YtgicanpggndbeaaGreatB01
import Derived.Test.YtgicanpggndbeaaGreatB31
/- The document's Has and Any. -/
namespace Go.Proofs.YtgicanpggndbeaaGreat
set_option linter.unusedVariables false
set_option maxRecDepth 100000
open Go.RowKit

theorem mem_take (l : List Sp) (k : Nat) (h : k < l.length) (x : Int) : mem (l.take (k + 1)) x = (mem (l.take k) x || (l[k]).inb x) := by
 rw [List.take_succ_eq_append_getElem h, mem_append]
 simp [mem]
theorem mem_hit (l : List Sp) (k : Nat) (h : k < l.length) (x : Int) (hi : (l[k]).inb x = true) : mem l x = true := by
 unfold mem
 rw [List.any_eq_true]
 exact ⟨l[k], List.getElem_mem h, hi⟩
set_option maxRecDepth 100000 in
set_option maxHeartbeats 4000000 in
theorem rhas_calls (w : World) (u : Value) (l : List Sp) (h : Sl encS w u l) (K : List UInt8) (hK : K.length = 24) : Calls Tryz.prog 28 #[u, kv K] w fun e w' => e = .returned (.bool (mem l (num K))) ∧ Below w.heap.size w w' := by
 have b1 : Below w.heap.size w (w.alloc (.cells (bc K).toArray 29)) := (Below.refl _ w).alloc (Nat.le_refl _) _
 have HS : Hid (Sl encS w u l) := h
 have HK : Hid (Has (w.alloc (.cells (bc K).toArray 29)) w.heap.size K) := Has.new w K hK
 have HB : Hid (Below w.heap.size w (w.alloc (.cells (bc K).toArray 29))) := b1
 obtain ⟨ad, cap, rfl, hcap, hmax, _, _⟩ := h
 have HG : Hid (∀ i (hi : i < l.length), ∃ g off, ad = some ⟨g, off, none⟩ ∧ g < w.heap.size ∧ w.rangeAt g (off + i * 49) (encS.c l[i])) := fun i hi => SlB.at HS.out i hi
 obtain ⟨N, hN⟩ : ∃ N : Nat, N = l.length := ⟨_, rfl⟩
 have HN : Hid (N = l.length) := hN
 rw [← hN] at hcap hmax ⊢
 have HM : Hid (∀ k : Nat, k < N → wrap64 ((k : Int) + 1) = ((k + 1 : Nat) : Int)) := fun k hk => wrap_next hk hmax
 clear b1 hN hmax
 have hiK : (Tryz.prog.info? 29).map (·.size) = some (bc K).length := by rw [bc_length, hK]; exact Tryz.key_info
 go_enter Tryz.func28, Tryz.ntmps28
 go_wp2_with fail
 generalize hW : w.alloc (.cells (bc K).toArray 29) = W at *
 have hbW := HK.out.lt
 go_loopg [5] N (fun gg i wr => ∃ k : Nat, k + gg = N ∧ i = .int .i64 (k : Int) ∧ Hid (Below W.heap.size W wr ∧ mem (l.take k) (num K) = false))
 case atStart => exact ⟨0, by omega, rfl, ⟨Below.refl _ _, rfl⟩⟩
 case round =>
  obtain ⟨k, hkg, rfl, HL⟩ := hrel
  cases gk with
  | zero =>
   have hkN : k = N := by omega
   subst hkN
   go_wp2_with fail
   go_ret
   have h1 := HL.out.2
   rw [List.take_of_length_le (by have := HN.out; omega)] at h1
   exact ⟨by rw [h1]; rfl, HB.out.trans (HL.out.1.mono HB.out.size)⟩
  | succ gg =>
   have hlt : k < N := by omega
   have hltI : (k : Int) < (N : Int) := by omega
   have hk0 : (0 : Int) ≤ (k : Int) := by omega
   have hkl : k < l.length := by have := HN.out; omega
   obtain ⟨g, off, rfl, hg, hr⟩ := HG.out k hkl
   have hgW : g < W.heap.size := Nat.lt_of_lt_of_le hg HB.out.size
   have rS : wr.rangeAt g (off + k * 49) (encS.c l[k]) := range_same' (range_same' hr (HB.out.block g hg)) (HL.out.1.block g hgW)
   have rK : wr.rangeAt w.heap.size 0 (bc K) := (HK.out.below HL.out.1 hbW).range
   have HT : Hid (mem (l.take (k + 1)) (num K) = (mem (l.take k) (num K) || (l[k]).inb (num K))) := mem_take l k hkl _
   have HH : Hid ((l[k]).inb (num K) = true → mem l (num K) = true) := mem_hit l k hkl _
   have hin := fun y => rin_calls y (l[k]).F (l[k]).T (l[k]).e K (l[k]).hF (l[k]).hT hK
   rw [in_num (l[k]) K hK] at hin
   have HIN : Hid (∀ y, Calls Tryz.prog 60 #[spv (l[k]), kv K] y fun x w' => x = .returned (.bool ((l[k]).inb (num K))) ∧ Below y.heap.size y w') := hin
   have hiS : (Tryz.prog.info? 96).map (·.size) = some (encS.c (l[k])).length := by rw [encS.len]; exact Tryz.span_info
   have HKS : Hid (wrap64 ((k : Int) + 1) = ((k + 1 : Nat) : Int)) := HM.out k hlt
   have hws := HL.out.1.size
   clear hin hr
   generalize (l[k]).inb (num K) = rs at *
   generalize l[k] = s at *
   go_upto_region 4 with fail
   refine wp_region_noPanic ?_
   refine wp_region_held_drew (S := (fun yy => yy.rangeAt g (off + k * 49) (encS.c s) ∧ yy.rangeAt w.heap.size 0 (bc K))) (by kernel_rfl) ⟨rS, rK⟩ (fun hHeld => ?_)
   refine tk (v := ?_) 0 rfl hHeld (Or.inl ⟨by rfl, ?_⟩) ?_
   case refine_2 => (intro w hSw; (try dsimp only at hSw); go_simp; try (with_reducible rfl))
   (try simp only [gs])
   refine tk (v := ?_) 1 rfl hHeld (Or.inl ⟨by rfl, ?_⟩) ?_
   case refine_2 => (intro w hSw; (try dsimp only at hSw); go_simp; try (with_reducible rfl))
   (try simp only [gs])
   refine tk (v := ?_) 2 rfl hHeld (Or.inl ⟨by rfl, ?_⟩) ?_
   case refine_2 => (intro w hSw; (try dsimp only at hSw); go_simp; try (with_reducible rfl))
   (try simp only [gs])
   refine tk 3 rfl hHeld (yieldsIf_load_mid (by rfl) _ _ rfl _ _ rfl _ _ (fun _ h => h.1) Tryz.underlying96 rfl hiS) ?_
   (try simp only [gs])
   refine tk 4 rfl hHeld (yieldsIf_load_mid (by rfl) _ _ rfl _ _ rfl _ _ (fun _ h => h.2) Tryz.underlying29 rfl hiK) ?_
   (try simp only [gs])
   refine wpAnyH_ready (rs := [5]) (by kernel_rfl) (by simp) (AllReadyH.cons rfl (fun K hK => ?_) AllReadyH.nil)
   rw [if_pos (by rfl)]
   (try simp only [gs])
   go_simp
   refine (HIN.out _).mono ?_
   rintro e y ⟨rfl, b⟩
   refine hK.out _ _ ⟨range_same' hHeld.1 (b.block g (by show g < wr.heap.size; omega)), range_same' hHeld.2 (b.block w.heap.size (by show w.heap.size < wr.heap.size; omega))⟩ (fun hHeld => ?_)
   clear hK K
   (try simp only [gs])
   have HY : Hid (Below W.heap.size W y) := HL.out.1.drew.trans (b.mono (by show W.heap.size ≤ wr.heap.size; omega))
   refine tk (v := ?_) 6 rfl hHeld (Or.inl ⟨by rfl, ?_⟩) ?_
   case refine_2 => (intro w hSw; (try dsimp only at hSw); go_simp; try (with_reducible rfl))
   (try simp only [gs])
   refine wpAnyH_done (by kernel_rfl) ?_ _
   refine NoPanic.normal ?_
   cases rs with
   | true =>
    go_wp2_with fail
    go_ret
    exact ⟨by rw [show mem l (num K) = true by first | exact HH.out trivial | exact HH.out rfl]; rfl, HB.out.trans (HY.out.mono HB.out.size)⟩
   | false =>
    go_wp2_with fail
    go_roundg gg
    case measure => omega
    case rel => exact ⟨k + 1, by omega, congrArg (Value.int .i64) HKS.out, ⟨HY.out, by rw [HT.out, HL.out.2]; rfl⟩⟩
theorem kP_eq (l : List Bd) (x : Bd) (k : Nat) (h1 : ∀ j (hj : j < l.length), j < k → (l[j]).v < x.v) (hk : k ≤ l.length) (h2 : ∀ h : k < l.length, ¬ (l[k]).v < x.v) : kP l x = k := by
 induction l generalizing k with
 | nil => simp at hk; subst hk; rfl
 | cons z r ih =>
  unfold kP
  cases k with
  | zero =>
   have := h2 (by simp)
   rw [List.takeWhile_cons_of_neg (by simpa using this)]
   rfl
  | succ k =>
   have h0 := h1 0 (by simp) (by omega)
   rw [List.takeWhile_cons_of_pos (by simpa using h0), List.length_cons]
   have := ih k (fun j hj hjk => by have := h1 (j + 1) (by simpa using hj) (by omega); simpa using this) (by simpa using hk) (fun h => by have := h2 (by simpa using h); simpa using this)
   unfold kP at this
   rw [this]
section
variable {α : Type} {k : Nat} {E : Enc α k} {P : Program} {ts te : TypeId} {bytes : Nat} {o : Oper} {a : Act} {w : World} {K : Act → World → Prop} {Q : Exit → Act → World → Prop}
end
end Go.Proofs.YtgicanpggndbeaaGreat
