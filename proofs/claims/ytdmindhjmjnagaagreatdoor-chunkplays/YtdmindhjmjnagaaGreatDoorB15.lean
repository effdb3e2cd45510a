import Derived.Test.YtdmindhjmjnagaaGreatDoorSi
import Derived.Test.YtdmindhjmjnagaaGreatDoorB13
import Derived.Test.YtdmindhjmjnagaaGreatDoorB14
import Derived.Test.YtdmindhjmjnagaaGreatDoorSi
import Derived.Test.YtdmindhjmjnagaaGreatDoorB01
import Derived.Test.YtdmindhjmjnagaaGreatDoorB05
/- VwA VwB VwC VwM -/
namespace Go.Proofs.YtdmindhjmjnagaaGreatDoor
set_option linter.unusedVariables false
set_option maxRecDepth 1000000
set_option maxHeartbeats 32000000
section
open Go.RowKit
theorem ord_less (p : Pa) (K : Kz) : decide (Lib.compareBytes p.k K.k < 0) = decide (p.n < K.n) := by
 rw [compare_less, less_num p.k K.k (by rw [p.h, K.h])]
 exact decide_eq_decide.2 ⟨fun h => by unfold Pa.n Kz.n; omega, fun h => by unfold Pa.n Kz.n at h; omega⟩
theorem ord_zero (p : Pa) (K : Kz) : decide (Lib.compareBytes p.k K.k = 0) = decide (p.n = K.n) := by
 refine decide_eq_decide.2 ((compare_zero _ _).trans ⟨fun h => by unfold Pa.n Kz.n; rw [h], fun h => ?_⟩)
 exact num_inj p.k K.k (by rw [p.h, K.h]) (by unfold Pa.n Kz.n at h; omega)
theorem ordP_calls (w : World) (p : Pa) (K : Kz) : Calls Tryz.prog 234 #[.agg (encP.c p).toArray, kv K.k] w fun e w' => ∃ n, e = .returned (.int .i64 n) ∧ decide (n < 0) = decide (p.n < K.n) ∧ decide (n = 0) = decide (p.n = K.n) ∧ Below w.heap.size w w' := by
 have h1 : InB encP 62 ((w.alloc (.cells (encP.c p).toArray 62)).alloc (.cells (bc K.k).toArray 54)) w.heap.size p := (InB.new encP _ w p _ rfl).alloc _
 have h2 : Has ((w.alloc (.cells (encP.c p).toArray 62)).alloc (.cells (bc K.k).toArray 54)) (w.heap.size + 1) K.k := by
  have := Has.new (w.alloc (.cells (encP.c p).toArray 62)) K.k K.h
  simpa using this
 have HB : Hid (Below w.heap.size w ((w.alloc (.cells (encP.c p).toArray 62)).alloc (.cells (bc K.k).toArray 54))) := ((Below.refl _ w).alloc (Nat.le_refl _) _).alloc (by simp) _
 have HC : Hid (∀ W, (W.rangeAt w.heap.size 0 (bc p.k)) → W.rangeAt (w.heap.size + 1) 0 (bc K.k) → Calls Tryz.prog 126 #[.slice (some ⟨w.heap.size, 0, none⟩) 24 24, .slice (some ⟨w.heap.size + 1, 0, none⟩) 24 24] W fun e w' => e = .returned (.int .i64 (Lib.compareBytes p.k K.k)) ∧ w' = W) := fun W a b => compareAt_calls W _ _ _ _ p.h K.h a b 24 24
 have HR : Hid (decide (Lib.compareBytes p.k K.k < 0) = decide (p.n < K.n)) := ord_less p K
 have HZ : Hid (decide (Lib.compareBytes p.k K.k = 0) = decide (p.n = K.n)) := ord_zero p K
 have r1 := range_kP h1.range
 have r2 : ((w.alloc (.cells (encP.c p).toArray 62)).alloc (.cells (bc K.k).toArray 54)).rangeAt (w.heap.size + 1) 0 (bc K.k) := fun j v hv => by
  rw [Nat.zero_add, cell_of_row _ _ _ _ _ _ h2.blk]
  simpa using hv
 have HH : Hid (∀ q, ((((w.alloc (.cells (encP.c p).toArray 62)).alloc (.cells (bc K.k).toArray 54)).drewN q).rangeAt w.heap.size 0 (bc p.k)) ∧ (((w.alloc (.cells (encP.c p).toArray 62)).alloc (.cells (bc K.k).toArray 54)).drewN q).rangeAt (w.heap.size + 1) 0 (bc K.k)) := fun q => ⟨r1, r2⟩
 generalize Lib.compareBytes p.k K.k = r at *
 clear h1 h2 r1 r2
 go_enter Tryz.func234, Tryz.ntmps234
 go_wp2
 go_quiet (first | (go_at_call 126; exact Calls.quiet_of_same (HC.out _ (HH.out _).1 (HH.out _).2)))
 go_wp2
 go_ret
 exact ⟨_, rfl, HR.out, HZ.out, below_drewN HB.out _⟩
end
section
open Go.RowKit
structure SrS (w y : World) (K : List UInt8) : Prop where
 bel : Below w.heap.size w y
 box : Has y w.heap.size K
theorem SrS.called {w y z : World} {K : List UInt8} (h : SrS w y K) (b : Below y.heap.size y z) : SrS w z K := ⟨h.bel.trans (b.mono h.bel.size), h.box.below b h.box.lt⟩
theorem SrS.drew {w y : World} {K : List UInt8} (h : SrS w y K) : SrS w y.drew K := h.called ⟨rfl, rfl, rfl, Nat.le_refl _, fun _ _ => rfl⟩
theorem SrS.key {w y : World} {K : List UInt8} (h : SrS w y K) : y.rangeAt w.heap.size 0 (bc K) := fun j v hv => by
 rw [Nat.zero_add, cell_of_row _ _ _ _ _ _ h.box.blk]
 simpa using hv
theorem bsearch_calls (w : World) (u : Value) (L : List Pa) (K : Kz) (h : Sl encP w u L) (ha : Asc Pa.n L) (hl : L.length ≤ 100000) :
    Calls Tryz.prog 124 #[u, kv K.k, .func (Fn.func 234) #[] #[]] w fun e w' => e = .returned (.tuple #[.int .i64 (posA Pa.n L K.n : Int), .bool (hitA Pa.n L K.n)]) ∧ Below w.heap.size w w' := by
 have hl' := h
 obtain ⟨ad, cap, rfl, hcap, hmax, _, _⟩ := hl'
 obtain ⟨N, hN⟩ : ∃ N : Nat, N = L.length := ⟨_, rfl⟩
 rw [← hN] at hcap hmax hl ⊢
 have HN : Hid (N = L.length) := hN
 have HI : Hid (∀ i (hi : i < L.length), ∃ g off, ad = some ⟨g, off, none⟩ ∧ g < w.heap.size ∧ w.rangeAt g (off + i * 25) (encP.c L[i])) := fun i hi => SlB.at h i hi
 have HA : Hid (∀ i j (hi : i < L.length) (hj : j < L.length), i ≤ j → (L[i]).n ≤ (L[j]).n) := fun i j hi hj hij => by
  rcases Nat.lt_or_ge i j with h | h
  · exact Int.le_of_lt (List.pairwise_iff_getElem.1 ha i j hi hj h)
  · have : i = j := by omega
    subst this
    exact Int.le_refl _
 have HS : Hid (SrS w (w.alloc (.cells (bc K.k).toArray 54)) K.k) := ⟨(Below.refl _ w).alloc (Nat.le_refl _) _, Has.new w K.k K.h⟩
 have HCP : Hid ((Tryz.prog.info? 62).map (·.size) = some 25) := elP.info
 have HCK : Hid ((Tryz.prog.info? 54).map (·.size) = some 24) := Tryz.key_info
 have HKL : Hid ((bc K.k).length = 24) := by show _ = _; rw [bc_length, K.h]
 clear hN h ha
 go_enter Tryz.func124, Tryz.ntmps124
 go_wp2
 go_loopg [9, 10] N (fun gg s9 s10 wr => ∃ lo hi : Nat, s9 = .int .i64 (lo : Int) ∧ s10 = .int .i64 (hi : Int) ∧ lo ≤ hi ∧ hi ≤ N ∧ hi - lo ≤ gg ∧ Hid (SrS w wr K.k) ∧ Hid ((∀ t (ht : t < L.length), t < lo → (L[t]).n < K.n) ∧ ∀ t (ht : t < L.length), hi ≤ t → K.n ≤ (L[t]).n))
 case atStart => exact ⟨0, N, rfl, rfl, Nat.zero_le _, Nat.le_refl _, by omega, HS.out, (⟨fun t _ h => by omega, fun t ht h => by have := HN.out; omega⟩ : (∀ t (ht : t < L.length), t < 0 → (L[t]).n < K.n) ∧ ∀ t (ht : t < L.length), N ≤ t → K.n ≤ (L[t]).n)⟩
 case round =>
  clear HS
  obtain ⟨lo, hi, rfl, rfl, hlh, hin, hg, HE, HM⟩ := hrel
  by_cases hlt : lo < hi
  · obtain ⟨m, hm⟩ : ∃ m : Nat, m = (lo + hi) / 2 := ⟨_, rfl⟩
    have hltI : (lo : Int) < (hi : Int) := by omega
    have hmI : ((lo : Int) + (hi : Int)) / 2 = (m : Int) := by omega
    have hmN : (m : Int) < (N : Int) := by omega
    have hm0 : (0 : Int) ≤ (m : Int) := by omega
    have hloI : (lo : Int) ≤ 100000 := by omega
    have hhiI : (hi : Int) ≤ 100000 := by omega
    have hml : m < L.length := by rw [← HN.out]; omega
    obtain ⟨g0, off, rfl, hg0, hat⟩ := HI.out m hml
    have HX : Hid (∀ y, SrS w y K.k → y.rangeAt g0 (off + m * 25) (encP.c L[m])) := fun y hy => range_same' hat (hy.bel.block g0 hg0)
    have HLM : Hid (∀ t (ht : t < L.length), (t ≤ m → (L[t]).n ≤ (L[m]).n) ∧ (m ≤ t → (L[m]).n ≤ (L[t]).n)) := fun t ht => ⟨fun h => HA.out t m ht hml h, fun h => HA.out m t hml ht h⟩
    have hOR : Hid (∀ y, Calls Tryz.prog 234 #[.agg (encP.c L[m]).toArray, kv K.k] y fun e w' => ∃ n, e = .returned (.int .i64 n) ∧ decide (n < 0) = decide ((L[m]).n < K.n) ∧ decide (n = 0) = decide ((L[m]).n = K.n) ∧ Below y.heap.size y w') := fun y => ordP_calls y _ _
    generalize L[m] = p at *
    have HEP : Hid ((encP.c p).length = 25) := encP.len p
    have HMM : Hid (m = (lo + hi) / 2) := hm
    clear hat hml hm
    cases hbb : decide (p.n < K.n) with
    | false =>
     rw [hbb] at hOR
     have HPK : Hid (decide (p.n < K.n) = false) := hbb
     clear hbb
     go_upto_region 5 with fail
     refine wp_region_noPanic ?_
     refine wp_region_held_drew (S := (fun y => SrS w y K.k)) (by kernel_rfl) (HE.out.drew) (fun hh => ?_)
     refine tl ?_ 0 rfl hh ⟨by rfl, ?_⟩ ?_
     case refine_2 => (intro w hSw; go_simp; try with_reducible rfl)
     (try simp only [gs])
     refine tl ?_ 1 rfl hh ⟨by rfl, ?_⟩ ?_
     case refine_2 => (intro w hSw; go_simp; try with_reducible rfl)
     (try simp only [gs])
     refine tl ?_ 2 rfl hh ⟨by rfl, ?_⟩ ?_
     case refine_2 => (intro w hSw; go_simp; try with_reducible rfl)
     (try simp only [gs])
     refine tl ?_ 3 rfl hh ⟨by rfl, ?_⟩ ?_
     case refine_2 => (intro w hSw; go_simp; try with_reducible rfl)
     (try simp only [gs])
     refine tk 4 rfl hh (yieldsIf_load_mid (by rfl) _ _ rfl _ _ rfl _ _ (fun y h => HX.out y h) Tryz.underlying62 rfl (by rw [HEP.out]; exact HCP.out)) ?_
     (try simp only [gs])
     refine tk 5 rfl hh (yieldsIf_load_mid (by rfl) _ _ rfl _ _ rfl _ _ (fun y h => SrS.key h) Tryz.underlying54 rfl (by rw [HKL.out]; exact HCK.out)) ?_
     (try simp only [gs])
     generalize wr.drew = y1 at *
     refine wpAnyH_ready (rs := [6]) (by kernel_rfl) (by simp) (AllReadyH.cons rfl (fun K hK => ?_) AllReadyH.nil)
     rw [if_pos (by rfl)]
     (try simp only [gs])
     go_simp
     refine (hOR.out _).mono ?_
     rintro e y2 ⟨n, rfl, hn, -, b1⟩
     have hn0 := of_decide_eq_false hn
     clear hn
     refine hK.out _ _ (hh.called b1) (fun g1 => ?_)
     clear hK K
     (try simp only [gs])
     refine tk (v := .bool false) 7 rfl g1 (Or.inl ⟨by rfl, ?_⟩) ?_
     case refine_1 => (intro w hSw; go_simp; first | done | rfl)
     (try simp only [gs])
     refine wpAnyH_done (by kernel_rfl) ?_ _
     refine NoPanic.normal ?_
     have HG1 : Hid (SrS w y2 K.k) := g1
     clear g1 hh b1 hn0 hOR HX
     go_wp2_with fail
     go_roundg (m - lo)
     case measure => (have := HMM.out; omega)
     case rel => exact ⟨lo, m, rfl, congrArg (Value.int .i64) (by first | rfl | omega), (by have := HMM.out; omega), (by have := HMM.out; omega), Nat.le_refl _, HG1.out, (show (∀ t (ht : t < L.length), t < lo → (L[t]).n < K.n) ∧ ∀ t (ht : t < L.length), m ≤ t → K.n ≤ (L[t]).n from ⟨HM.out.1, fun t ht h => by have h1 := (HLM.out t ht).2 h; have h2 := of_decide_eq_false HPK.out; omega⟩)⟩
    | true =>
     rw [hbb] at hOR
     have HPK : Hid (decide (p.n < K.n) = true) := hbb
     clear hbb
     go_upto_region 5 with fail
     refine wp_region_noPanic ?_
     refine wp_region_held_drew (S := (fun y => SrS w y K.k)) (by kernel_rfl) (HE.out.drew) (fun hh => ?_)
     refine tl ?_ 0 rfl hh ⟨by rfl, ?_⟩ ?_
     case refine_2 => (intro w hSw; go_simp; try with_reducible rfl)
     (try simp only [gs])
     refine tl ?_ 1 rfl hh ⟨by rfl, ?_⟩ ?_
     case refine_2 => (intro w hSw; go_simp; try with_reducible rfl)
     (try simp only [gs])
     refine tl ?_ 2 rfl hh ⟨by rfl, ?_⟩ ?_
     case refine_2 => (intro w hSw; go_simp; try with_reducible rfl)
     (try simp only [gs])
     refine tl ?_ 3 rfl hh ⟨by rfl, ?_⟩ ?_
     case refine_2 => (intro w hSw; go_simp; try with_reducible rfl)
     (try simp only [gs])
     refine tk 4 rfl hh (yieldsIf_load_mid (by rfl) _ _ rfl _ _ rfl _ _ (fun y h => HX.out y h) Tryz.underlying62 rfl (by rw [HEP.out]; exact HCP.out)) ?_
     (try simp only [gs])
     refine tk 5 rfl hh (yieldsIf_load_mid (by rfl) _ _ rfl _ _ rfl _ _ (fun y h => SrS.key h) Tryz.underlying54 rfl (by rw [HKL.out]; exact HCK.out)) ?_
     (try simp only [gs])
     generalize wr.drew = y1 at *
     refine wpAnyH_ready (rs := [6]) (by kernel_rfl) (by simp) (AllReadyH.cons rfl (fun K hK => ?_) AllReadyH.nil)
     rw [if_pos (by rfl)]
     (try simp only [gs])
     go_simp
     refine (hOR.out _).mono ?_
     rintro e y2 ⟨n, rfl, hn, -, b1⟩
     have hn0 := of_decide_eq_true hn
     clear hn
     refine hK.out _ _ (hh.called b1) (fun g1 => ?_)
     clear hK K
     (try simp only [gs])
     refine tk (v := .bool true) 7 rfl g1 (Or.inl ⟨by rfl, ?_⟩) ?_
     case refine_1 => (intro w hSw; go_simp; first | done | rfl)
     (try simp only [gs])
     refine wpAnyH_done (by kernel_rfl) ?_ _
     refine NoPanic.normal ?_
     have HG1 : Hid (SrS w y2 K.k) := g1
     clear g1 hh b1 hn0 hOR HX
     go_wp2_with fail
     go_roundg (hi - (m + 1))
     case measure => (have := HMM.out; omega)
     case rel => exact ⟨m + 1, hi, congrArg (Value.int .i64) (by first | omega | (unfold wrap64; omega)), rfl, (by have := HMM.out; omega), hin, Nat.le_refl _, HG1.out, (show (∀ t (ht : t < L.length), t < m + 1 → (L[t]).n < K.n) ∧ ∀ t (ht : t < L.length), hi ≤ t → K.n ≤ (L[t]).n from ⟨fun t ht h => by have h1 := (HLM.out t ht).1 (by omega); have h2 := of_decide_eq_true HPK.out; omega, HM.out.2⟩)⟩
  · obtain rfl : hi = lo := by omega
    have hnlt : decide ((hi : Int) < (hi : Int)) = false := decide_eq_false (by omega)
    have HPO : Hid (posA Pa.n L K.n = hi) := posA_eq Pa.n L K.n hi (fun j hj h => HM.out.1 j hj h) (by have := HN.out; omega) (fun h => Int.not_lt.2 (HM.out.2 hi h (Nat.le_refl _)))
    by_cases hn : hi < N
    · have hnI : (hi : Int) < (N : Int) := by omega
      have hh0 : (0 : Int) ≤ (hi : Int) := by omega
      have hml : hi < L.length := by rw [← HN.out]; exact hn
      obtain ⟨g0, off, rfl, hg0, hat⟩ := HI.out hi hml
      have HX : Hid (∀ y, SrS w y K.k → y.rangeAt g0 (off + hi * 25) (encP.c L[hi])) := fun y hy => range_same' hat (hy.bel.block g0 hg0)
      have hOR : Hid (∀ y, Calls Tryz.prog 234 #[.agg (encP.c L[hi]).toArray, kv K.k] y fun e w' => ∃ n, e = .returned (.int .i64 n) ∧ decide (n < 0) = decide ((L[hi]).n < K.n) ∧ decide (n = 0) = decide ((L[hi]).n = K.n) ∧ Below y.heap.size y w') := fun y => ordP_calls y _ _
      have HHT : Hid (hitA Pa.n L K.n = decide ((L[hi]).n = K.n)) := by
       show _ = _
       unfold hitA
       rw [HPO.out, List.getElem?_eq_getElem hml]
       simp
      generalize L[hi] = p at *
      have HEP : Hid ((encP.c p).length = 25) := encP.len p
      clear hat hml
      cases hbb : decide (p.n = K.n) with
      | false =>
       rw [hbb] at hOR HHT
       clear hbb
       go_upto_region 8 with fail
       refine wp_region_noPanic ?_
       refine wp_region_held_drew (S := (fun y => SrS w y K.k)) (by kernel_rfl) (HE.out.drew) (fun hh => ?_)
       refine tl ?_ 0 rfl hh ⟨by rfl, ?_⟩ ?_
       case refine_2 => (intro w hSw; go_simp; try with_reducible rfl)
       (try simp only [gs])
       refine tl ?_ 1 rfl hh ⟨by rfl, ?_⟩ ?_
       case refine_2 => (intro w hSw; go_simp; try with_reducible rfl)
       (try simp only [gs])
       refine tl ?_ 2 rfl hh ⟨by rfl, ?_⟩ ?_
       case refine_2 => (intro w hSw; go_simp; try with_reducible rfl)
       (try simp only [gs])
       refine tk (v := .bool true) 3 rfl hh (Or.inl ⟨by rfl, ?_⟩) ?_
       case refine_1 => (intro w hSw; go_simp; first | done | rfl)
       (try simp only [gs])
       refine tl ?_ 4 rfl hh ⟨by rfl, ?_⟩ ?_
       case refine_2 => (intro w hSw; go_simp; try with_reducible rfl)
       (try simp only [gs])
       refine tl ?_ 5 rfl hh ⟨by rfl, ?_⟩ ?_
       case refine_2 => (intro w hSw; go_simp; try with_reducible rfl)
       (try simp only [gs])
       refine tl ?_ 6 rfl hh ⟨by rfl, ?_⟩ ?_
       case refine_2 => (intro w hSw; go_simp; try with_reducible rfl)
       (try simp only [gs])
       refine tl ?_ 7 rfl hh ⟨by rfl, ?_⟩ ?_
       case refine_2 => (intro w hSw; go_simp; try with_reducible rfl)
       (try simp only [gs])
       refine tl ?_ 8 rfl hh ⟨by rfl, ?_⟩ ?_
       case refine_2 => (intro w hSw; go_simp; try with_reducible rfl)
       (try simp only [gs])
       refine tk 9 rfl hh (yieldsIf_load_mid (by rfl) _ _ rfl _ _ rfl _ _ (fun y h => HX.out y h) Tryz.underlying62 rfl (by rw [HEP.out]; exact HCP.out)) ?_
       (try simp only [gs])
       refine tk 10 rfl hh (yieldsIf_load_mid (by rfl) _ _ rfl _ _ rfl _ _ (fun y h => SrS.key h) Tryz.underlying54 rfl (by rw [HKL.out]; exact HCK.out)) ?_
       (try simp only [gs])
       generalize wr.drew = y1 at *
       refine wpAnyH_ready (rs := [11]) (by kernel_rfl) (by simp) (AllReadyH.cons rfl (fun K hK => ?_) AllReadyH.nil)
       rw [if_pos (by rfl)]
       (try simp only [gs])
       go_simp
       refine (hOR.out _).mono ?_
       rintro e y2 ⟨n, rfl, -, hn2, b1⟩
       have hn0 : ¬ n = 0 := of_decide_eq_false hn2
       have hz : (n == 0) = false := by simpa using hn0
       clear hn2 hn0
       refine hK.out _ _ (hh.called b1) (fun g1 => ?_)
       clear hK K
       (try simp only [gs])
       refine tk (v := .bool false) 12 rfl g1 (Or.inl ⟨by rfl, ?_⟩) ?_
       case refine_1 => (intro w hSw; go_simp; first | done | rfl)
       (try simp only [gs])
       refine tl ?_ 13 rfl g1 ⟨by rfl, ?_⟩ ?_
       case refine_2 => (intro w hSw; go_simp; try with_reducible rfl)
       (try simp only [gs])
       refine tl ?_ 14 rfl g1 ⟨by rfl, ?_⟩ ?_
       case refine_2 => (intro w hSw; go_simp; try with_reducible rfl)
       (try simp only [gs])
       refine tl ?_ 15 rfl g1 ⟨by rfl, ?_⟩ ?_
       case refine_2 => (intro w hSw; go_simp; try with_reducible rfl)
       (try simp only [gs])
       refine wpAnyH_done (by kernel_rfl) ?_ _
       refine NoPanic.normal ?_
       have HG1 : Hid (SrS w y2 K.k) := g1
       clear g1 hh b1 hz hOR HX
       go_wp2_with fail
       go_ret2
       exact ⟨by rw [HPO.out, HHT.out]; rfl, HG1.out.bel⟩
      | true =>
       rw [hbb] at hOR HHT
       clear hbb
       go_upto_region 8 with fail
       refine wp_region_noPanic ?_
       refine wp_region_held_drew (S := (fun y => SrS w y K.k)) (by kernel_rfl) (HE.out.drew) (fun hh => ?_)
       refine tl ?_ 0 rfl hh ⟨by rfl, ?_⟩ ?_
       case refine_2 => (intro w hSw; go_simp; try with_reducible rfl)
       (try simp only [gs])
       refine tl ?_ 1 rfl hh ⟨by rfl, ?_⟩ ?_
       case refine_2 => (intro w hSw; go_simp; try with_reducible rfl)
       (try simp only [gs])
       refine tl ?_ 2 rfl hh ⟨by rfl, ?_⟩ ?_
       case refine_2 => (intro w hSw; go_simp; try with_reducible rfl)
       (try simp only [gs])
       refine tk (v := .bool true) 3 rfl hh (Or.inl ⟨by rfl, ?_⟩) ?_
       case refine_1 => (intro w hSw; go_simp; first | done | rfl)
       (try simp only [gs])
       refine tl ?_ 4 rfl hh ⟨by rfl, ?_⟩ ?_
       case refine_2 => (intro w hSw; go_simp; try with_reducible rfl)
       (try simp only [gs])
       refine tl ?_ 5 rfl hh ⟨by rfl, ?_⟩ ?_
       case refine_2 => (intro w hSw; go_simp; try with_reducible rfl)
       (try simp only [gs])
       refine tl ?_ 6 rfl hh ⟨by rfl, ?_⟩ ?_
       case refine_2 => (intro w hSw; go_simp; try with_reducible rfl)
       (try simp only [gs])
       refine tl ?_ 7 rfl hh ⟨by rfl, ?_⟩ ?_
       case refine_2 => (intro w hSw; go_simp; try with_reducible rfl)
       (try simp only [gs])
       refine tl ?_ 8 rfl hh ⟨by rfl, ?_⟩ ?_
       case refine_2 => (intro w hSw; go_simp; try with_reducible rfl)
       (try simp only [gs])
       refine tk 9 rfl hh (yieldsIf_load_mid (by rfl) _ _ rfl _ _ rfl _ _ (fun y h => HX.out y h) Tryz.underlying62 rfl (by rw [HEP.out]; exact HCP.out)) ?_
       (try simp only [gs])
       refine tk 10 rfl hh (yieldsIf_load_mid (by rfl) _ _ rfl _ _ rfl _ _ (fun y h => SrS.key h) Tryz.underlying54 rfl (by rw [HKL.out]; exact HCK.out)) ?_
       (try simp only [gs])
       generalize wr.drew = y1 at *
       refine wpAnyH_ready (rs := [11]) (by kernel_rfl) (by simp) (AllReadyH.cons rfl (fun K hK => ?_) AllReadyH.nil)
       rw [if_pos (by rfl)]
       (try simp only [gs])
       go_simp
       refine (hOR.out _).mono ?_
       rintro e y2 ⟨n, rfl, -, hn2, b1⟩
       have hn0 : n = 0 := of_decide_eq_true hn2
       have hz : (n == 0) = true := by simpa using hn0
       clear hn2 hn0
       refine hK.out _ _ (hh.called b1) (fun g1 => ?_)
       clear hK K
       (try simp only [gs])
       refine tk (v := .bool true) 12 rfl g1 (Or.inl ⟨by rfl, ?_⟩) ?_
       case refine_1 => (intro w hSw; go_simp; first | done | rfl)
       (try simp only [gs])
       refine tl ?_ 13 rfl g1 ⟨by rfl, ?_⟩ ?_
       case refine_2 => (intro w hSw; go_simp; try with_reducible rfl)
       (try simp only [gs])
       refine tl ?_ 14 rfl g1 ⟨by rfl, ?_⟩ ?_
       case refine_2 => (intro w hSw; go_simp; try with_reducible rfl)
       (try simp only [gs])
       refine tl ?_ 15 rfl g1 ⟨by rfl, ?_⟩ ?_
       case refine_2 => (intro w hSw; go_simp; try with_reducible rfl)
       (try simp only [gs])
       refine wpAnyH_done (by kernel_rfl) ?_ _
       refine NoPanic.normal ?_
       have HG1 : Hid (SrS w y2 K.k) := g1
       clear g1 hh b1 hz hOR HX
       go_wp2_with fail
       go_ret2
       exact ⟨by rw [HPO.out, HHT.out]; rfl, HG1.out.bel⟩
    · have hnN : hi = N := by omega
      subst hnN
      have HHT : Hid (hitA Pa.n L K.n = false) := by
       show _ = _
       unfold hitA
       rw [HPO.out, List.getElem?_eq_none (by have := HN.out; omega)]
       simp
      go_upto_region 8 with fail
      refine wp_region_noPanic ?_
      refine wp_region_held_drew (S := (fun y => SrS w y K.k)) (by kernel_rfl) (HE.out.drew) (fun hh => ?_)
      refine tl ?_ 0 rfl hh ⟨by rfl, ?_⟩ ?_
      case refine_2 => (intro w hSw; go_simp; try with_reducible rfl)
      (try simp only [gs])
      refine tl ?_ 1 rfl hh ⟨by rfl, ?_⟩ ?_
      case refine_2 => (intro w hSw; go_simp; try with_reducible rfl)
      (try simp only [gs])
      refine tl ?_ 2 rfl hh ⟨by rfl, ?_⟩ ?_
      case refine_2 => (intro w hSw; go_simp; try with_reducible rfl)
      (try simp only [gs])
      refine tk (v := .bool false) 3 rfl hh (Or.inl ⟨by rfl, ?_⟩) ?_
      case refine_1 => (intro w hSw; go_simp; first | done | rfl)
      (try simp only [gs])
      refine tl ?_ 4 rfl hh ⟨by rfl, ?_⟩ ?_
      case refine_2 => (intro w hSw; go_simp; try with_reducible rfl)
      (try simp only [gs])
      refine tk (v := undef) 5 rfl hh (Or.inr ⟨by rfl, rfl⟩) ?_
      (try simp only [gs])
      refine tk (v := undef) 6 rfl hh (Or.inr ⟨by rfl, rfl⟩) ?_
      (try simp only [gs])
      refine tk (v := undef) 7 rfl hh (Or.inr ⟨by rfl, rfl⟩) ?_
      (try simp only [gs])
      refine tk (v := undef) 8 rfl hh (Or.inr ⟨by rfl, rfl⟩) ?_
      (try simp only [gs])
      refine tk (v := undef) 9 rfl hh (Or.inr ⟨by rfl, rfl⟩) ?_
      (try simp only [gs])
      refine tk (v := undef) 10 rfl hh (Or.inr ⟨by rfl, rfl⟩) ?_
      (try simp only [gs])
      refine tk (v := undef) 11 rfl hh (Or.inr ⟨by rfl, rfl⟩) ?_
      (try simp only [gs])
      refine tk (v := undef) 12 rfl hh (Or.inr ⟨by rfl, rfl⟩) ?_
      (try simp only [gs])
      refine tl ?_ 13 rfl hh ⟨by rfl, ?_⟩ ?_
      case refine_2 => (intro w hSw; go_simp; try with_reducible rfl)
      (try simp only [gs])
      refine tl ?_ 14 rfl hh ⟨by rfl, ?_⟩ ?_
      case refine_2 => (intro w hSw; go_simp; try with_reducible rfl)
      (try simp only [gs])
      refine tl ?_ 15 rfl hh ⟨by rfl, ?_⟩ ?_
      case refine_2 => (intro w hSw; go_simp; try with_reducible rfl)
      (try simp only [gs])
      refine wpAnyH_done (by kernel_rfl) ?_ _
      refine NoPanic.normal ?_
      have HG1 : Hid (SrS w wr.drew K.k) := hh
      clear hh
      go_wp2_with fail
      go_ret2
      exact ⟨by rw [HPO.out, HHT.out]; rfl, HG1.out.bel⟩
end
section
open Go.RowKit
structure PlIn (w : World) (p : Nat) (v : Value) (L : List Pa) : Prop where
 blk : w.heap[p]? = some (.cells #[v] 116 (0, 0))
 sl : Sl encP w v L
 asc : Asc Pa.n L
theorem PlIn.lt {w : World} {p : Nat} {v : Value} {L : List Pa} (h : PlIn w p v L) : p < w.heap.size := lt_of_block h.blk
theorem PlIn.called {w y : World} {p : Nat} {v : Value} {L : List Pa} (h : PlIn w p v L) (b : Below w.heap.size w y) : PlIn y p v L := ⟨(b.block p h.lt).trans h.blk, h.sl.called b, h.asc⟩
theorem PlIn.cell {w : World} {p : Nat} {v : Value} {L : List Pa} (h : PlIn w p v L) : w.cell? ⟨p, 0, none⟩ = some v := by rw [cell_of_row _ _ 0 _ _ _ h.blk]; rfl
structure FdS (w y : World) (p : Nat) (v : Value) (L : List Pa) (K : List UInt8) : Prop where
 bel : Below w.heap.size w y
 pl : PlIn y p v L
 box : Has y w.heap.size K
theorem FdS.called {w y z : World} {p : Nat} {v : Value} {L : List Pa} {K : List UInt8} (h : FdS w y p v L K) (b : Below y.heap.size y z) : FdS w z p v L K := ⟨h.bel.trans (b.mono h.bel.size), h.pl.called b, h.box.below b h.box.lt⟩
theorem FdS.drew {w y : World} {p : Nat} {v : Value} {L : List Pa} {K : List UInt8} (h : FdS w y p v L K) : FdS w y.drew p v L K := h.called ⟨rfl, rfl, rfl, Nat.le_refl _, fun _ _ => rfl⟩
theorem FdS.key {w y : World} {p : Nat} {v : Value} {L : List Pa} {K : List UInt8} (h : FdS w y p v L K) : y.rangeAt w.heap.size 0 (bc K) := fun j v hv => by
 rw [Nat.zero_add, cell_of_row _ _ _ _ _ _ h.box.blk]
 simpa using hv
theorem find_calls (w : World) (p : Nat) (v : Value) (L : List Pa) (K : Kz) (h : PlIn w p v L) (hl : L.length ≤ 100000) :
    Calls Tryz.prog 232 #[.pointer (some ⟨p, 0, none⟩), kv K.k] w fun e w' => e = .returned (.tuple #[.int .i64 (posA Pa.n L K.n : Int), .bool (hitA Pa.n L K.n)]) ∧ Below w.heap.size w w' := by
 have b1 : Below w.heap.size w (w.alloc (.cells (bc K.k).toArray 54)) := (Below.refl _ w).alloc (Nat.le_refl _) _
 have HS : Hid (FdS w (w.alloc (.cells (bc K.k).toArray 54)) p v L K.k) := ⟨b1, h.called b1, Has.new w K.k K.h⟩
 have hOR : Hid (∀ y, FdS w y p v L K.k → Calls Tryz.prog 124 #[v, kv K.k, .func (Fn.func 234) #[] #[]] y fun e w' => e = .returned (.tuple #[.int .i64 (posA Pa.n L K.n : Int), .bool (hitA Pa.n L K.n)]) ∧ Below y.heap.size y w') := fun y hy => bsearch_calls y v L K hy.pl.sl hy.pl.asc hl
 have HCK : Hid ((Tryz.prog.info? 54).map (·.size) = some 24) := Tryz.key_info
 have HKL : Hid ((bc K.k).length = 24) := by show _ = _; rw [bc_length, K.h]
 obtain ⟨ad, cap, rfl, -, -, -, -⟩ := id h.sl
 generalize posA Pa.n L K.n = pos at *
 generalize hitA Pa.n L K.n = hit at *
 clear h b1
 go_enter Tryz.func232, Tryz.ntmps232
 go_upto_region 1 with fail
 refine wp_region_noPanic ?_
 refine wp_region_held_drew (S := (fun y => FdS w y p (.slice ad L.length cap) L K.k)) (by kernel_rfl) (HS.out.drew) (fun hh => ?_)
 refine tl ?_ 0 rfl hh ⟨by rfl, ?_⟩ ?_
 case refine_2 => (intro w hSw; go_simp; try with_reducible rfl)
 (try simp only [gs])
 refine tl ?_ 1 rfl hh ⟨by rfl, ?_⟩ ?_
 case refine_2 => (intro w hSw; go_simp; try with_reducible rfl)
 (try simp only [gs])
 refine tl ?_ 2 rfl hh ⟨by rfl, ?_⟩ ?_
 case refine_2 => (intro w hSw; go_simp; try with_reducible rfl)
 (try simp only [gs])
 refine tl ?_ 3 rfl hh ⟨by rfl, ?_⟩ ?_
 case refine_2 => (intro w hSw; have hc := hSw.pl.cell; go_simp; try with_reducible rfl)
 (try simp only [gs])
 refine tk 4 rfl hh (yieldsIf_load_mid (by rfl) _ _ rfl _ _ rfl _ _ (fun y h => FdS.key h) Tryz.underlying54 rfl (by rw [HKL.out]; exact HCK.out)) ?_
 (try simp only [gs])
 generalize (w.alloc (.cells (bc K.k).toArray 54)).drew = y1 at *
 refine wpAnyH_ready (rs := [5]) (by kernel_rfl) (by simp) (AllReadyH.cons rfl (fun K hK => ?_) AllReadyH.nil)
 rw [if_pos (by rfl)]
 (try simp only [gs])
 go_simp
 refine (hOR.out _ hh).mono ?_
 rintro e y2 ⟨rfl, b1⟩
 refine hK.out _ _ (hh.called b1) (fun g1 => ?_)
 clear hK K
 (try simp only [gs])
 refine tl ?_ 6 rfl g1 ⟨by rfl, ?_⟩ ?_
 case refine_2 => (intro w hSw; go_simp; try with_reducible rfl)
 (try simp only [gs])
 refine tl ?_ 7 rfl g1 ⟨by rfl, ?_⟩ ?_
 case refine_2 => (intro w hSw; go_simp; try with_reducible rfl)
 (try simp only [gs])
 refine tl ?_ 8 rfl g1 ⟨by rfl, ?_⟩ ?_
 case refine_2 => (intro w hSw; go_simp; try with_reducible rfl)
 (try simp only [gs])
 refine tl ?_ 9 rfl g1 ⟨by rfl, ?_⟩ ?_
 case refine_2 => (intro w hSw; go_simp; try with_reducible rfl)
 (try simp only [gs])
 refine wpAnyH_done (by kernel_rfl) ?_ _
 refine NoPanic.normal ?_
 have HG1 : Hid (Below w.heap.size w y2) := g1.bel
 clear g1 hh b1 hOR HS
 go_wp2_with fail
 go_ret2
 exact ⟨rfl, HG1.out⟩
def gotV : Option Pa → Value
 | none => .tuple #[.string ⟨#[]⟩, .bool false, .int .i64 0]
 | some x => .tuple #[.string (str x.v), .bool true, .int .i64 0]
theorem pget_calls (w : World) (p : Nat) (v : Value) (L : List Pa) (K : Kz) (h : PlIn w p v L) (hl : L.length ≤ 100000) :
    Calls Tryz.prog 229 #[.pointer (some ⟨p, 0, none⟩), kv K.k] w fun e w' => e = .returned (gotV (look Pa.n L K.n)) ∧ Below w.heap.size w w' := by
 have b1 : Below w.heap.size w (w.alloc (.cells (bc K.k).toArray 54)) := (Below.refl _ w).alloc (Nat.le_refl _) _
 have hk1 : Has (w.alloc (.cells (bc K.k).toArray 54)) w.heap.size K.k := Has.new w K.k K.h
 have h1 := h.called b1
 have hF := find_calls _ p v L K h1 hl
 have HB : Hid (Below w.heap.size w (w.alloc (.cells (bc K.k).toArray 54))) := b1
 have H1 : Hid (PlIn (w.alloc (.cells (bc K.k).toArray 54)) p v L) := h1
 have HLK := hitA_look Pa.n K.n h.asc
 cases hh : hitA Pa.n L K.n with
 | false =>
  rw [hh] at hF HLK
  have HL : Hid (look Pa.n L K.n = none) := (show _ = _ by simpa using HLK)
  generalize posA Pa.n L K.n = pos at *
  clear h h1 b1 HLK hh
  go_enter Tryz.func229, Tryz.ntmps229
  go_wp2_with (first
   | (refine load_key _ rfl w.heap.size rfl rfl K.k hk1 ?_)
   | (go_at_call 232; refine hF.mono ?_; clear hF; rintro e w1 ⟨rfl, b2⟩))
  go_ret3
  exact ⟨by rw [HL.out]; rfl, HB.out.trans (b2.mono HB.out.size)⟩
 | true =>
  rw [hh] at hF HLK
  simp only [if_true] at HLK
  have hpos : posA Pa.n L K.n < L.length := by
   unfold hitA at hh
   have := of_decide_eq_true hh
   cases hq : L[posA Pa.n L K.n]? with
   | none => rw [hq] at this; cases this
   | some x => exact (List.getElem?_eq_some_iff.1 hq).1
  rw [List.getElem?_eq_getElem hpos] at HLK
  have hs1 := h1.sl
  have hcl := h1.cell
  obtain ⟨ad, cap, rfl, hcap, hmax, -, -⟩ := id hs1
  obtain ⟨g0, off, rfl, hg0, hat⟩ := SlB.at hs1 _ hpos
  have hv := (range_vP hat)
  generalize L[posA Pa.n L K.n] = x at *
  have HL : Hid (look Pa.n L K.n = some x) := HLK
  generalize posA Pa.n L K.n = pos at *
  have hpI : (pos : Int) < (L.length : Int) := by omega
  have hp0 : (0 : Int) ≤ (pos : Int) := by omega
  have HC1 : Hid (∀ y, Below (w.alloc (.cells (bc K.k).toArray 54)).heap.size (w.alloc (.cells (bc K.k).toArray 54)) y → y.cell? ⟨p, 0, none⟩ = some (.slice (some ⟨g0, off, none⟩) L.length cap) ∧ y.cell? ⟨g0, off + pos * 25 + 24, none⟩ = some (.string (str x.v))) := fun y hy => ⟨(hy.cell (p := ⟨p, 0, none⟩) h1.lt).trans hcl, (hy.cell (p := ⟨g0, off + pos * 25 + 24, none⟩) hg0).trans hv⟩
  clear h h1 b1 HLK hh hs1 hcl hat hv hpos
  go_enter Tryz.func229, Tryz.ntmps229
  go_wp2_with (first
   | (refine load_key _ rfl w.heap.size rfl rfl K.k hk1 ?_)
   | (go_at_call 232; refine hF.mono ?_; clear hF; rintro e w1 ⟨rfl, b2⟩
      obtain ⟨c1, c2⟩ := HC1.out w1 b2
      clear HC1))
  go_ret3
  exact ⟨by rw [HL.out]; rfl, HB.out.trans (b2.mono HB.out.size)⟩
end
section
theorem posA_from {α : Type} (key : α → Int) : ∀ (l : List α) (x : Int), Asc key l → ∀ j (hj : j < l.length), posA key l x ≤ j → x ≤ key l[j]
 | [], _, _, j, hj, _ => by cases hj
 | a :: r, x, h, j, hj, hp => by
  by_cases ha : key a < x
  · rw [posA_lt key ha] at hp
    cases j with
    | zero => omega
    | succ j =>
     have := posA_from key r x (List.pairwise_cons.1 h).2 j (by simpa using hj) (by omega)
     simpa using this
  · cases j with
    | zero => simp; omega
    | succ j =>
     have := (List.pairwise_cons.1 h).1 (r[j]'(by simpa using hj)) (List.getElem_mem _)
     simp only [List.getElem_cons_succ]
     omega
theorem posA_ahead {α : Type} (key : α → Int) (l : List α) (x : Int) : ∀ a ∈ l.take (posA key l x), key a < x := by
 intro a ha
 have e : l.take (posA key l x) = l.takeWhile (fun a => decide (key a < x)) := ((List.prefix_iff_eq_take).1 (List.takeWhile_prefix _)).symm
 rw [e] at ha
 have : ∀ (l : List α), a ∈ l.takeWhile (fun a => decide (key a < x)) → key a < x := by
  intro l
  induction l with
  | nil => intro h; cases h
  | cons b r ih =>
   intro h
   by_cases hb : key b < x
   · rw [List.takeWhile_cons_of_pos (by simpa using hb)] at h
     rcases List.mem_cons.1 h with rfl | h
     · exact hb
     · exact ih h
   · rw [List.takeWhile_cons_of_neg (by simpa using hb)] at h
     cases h
 exact this l ha
def scanL (s : Sp) (L : List Pa) : List Pa := L.filter fun x => s.inb x.n
theorem scan_filter {L : List Pa} (ha : Asc Pa.n L) (s : Sp) (b : Nat) (hab : posA Pa.n L (num s.F) ≤ b) (hb : b ≤ L.length)
    (hin : ∀ j (hj : j < L.length), posA Pa.n L (num s.F) ≤ j → j < b → s.inb (L[j]).n = true) (hout : ∀ h : b < L.length, s.inb (L[b]).n = false) :
    (L.take b).drop (posA Pa.n L (num s.F)) = scanL s L := by
 generalize hA : posA Pa.n L (num s.F) = a at *
 have e1 : L = L.take a ++ ((L.take b).drop a ++ L.drop b) := by
  have h1 : L.take a = (L.take b).take a := by rw [List.take_take, Nat.min_eq_left hab]
  rw [← List.append_assoc, h1, List.take_append_drop, List.take_append_drop]
 have f1 : (L.take a).filter (fun x => s.inb x.n) = [] := by
  rw [List.filter_eq_nil_iff]
  intro x hx
  have := posA_ahead Pa.n L (num s.F) x (by rw [hA]; exact hx)
  unfold Sp.inb
  rw [decide_eq_false (by omega)]
  simp
 have f2 : ((L.take b).drop a).filter (fun x => s.inb x.n) = (L.take b).drop a := by
  rw [List.filter_eq_self]
  intro x hx
  obtain ⟨i, hi, rfl⟩ := List.mem_iff_getElem.1 hx
  rw [List.length_drop, List.length_take] at hi
  rw [List.getElem_drop, List.getElem_take]
  exact hin (a + i) (by omega) (by omega) (by omega)
 have f3 : (L.drop b).filter (fun x => s.inb x.n) = [] := by
  rw [List.filter_eq_nil_iff]
  intro x hx
  obtain ⟨i, hi, rfl⟩ := List.mem_iff_getElem.1 hx
  rw [List.length_drop] at hi
  rw [List.getElem_drop]
  have h1 := hout (by omega)
  have h2 := posA_from Pa.n L (num s.F) ha b (by omega) (by omega)
  have h3 : (L[b]'(by omega)).n ≤ (L[b + i]'(by omega)).n := by
   rcases Nat.eq_zero_or_pos i with rfl | hp
   · exact Int.le_refl _
   · exact Int.le_of_lt (List.pairwise_iff_getElem.1 ha b (b + i) (by omega) (by omega) (by omega))
  unfold Sp.inb at h1 ⊢
  rw [decide_eq_true h2, Bool.true_and, Bool.or_eq_false_iff] at h1
  have h4 := of_decide_eq_false h1.2
  rw [decide_eq_true (by omega), h1.1, Bool.false_or, decide_eq_false (by omega)]
  simp
 unfold scanL
 conv => rhs; rw [e1]
 rw [List.filter_append, List.filter_append, f1, f2, f3]
 simp
end
end Go.Proofs.YtdmindhjmjnagaaGreatDoor
