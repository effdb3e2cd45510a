import Derived.Test.YtdmindhjmjnagabGreatDoorSi
import Derived.Test.YtdmindhjmjnagabGreatDoorB32
import Derived.Test.YtdmindhjmjnagabGreatDoorB21
/- chunk: valueOf. -/
namespace Go.Proofs.YtdmindhjmjnagabGreatDoor
set_option linter.unusedVariables false
set_option maxRecDepth 100000
open Go.RowKit

set_option maxHeartbeats 1000000 in
theorem cordP_calls (w : World) (p : Pa) (K : Kz) : Calls Tryz.prog 69 #[.agg (encP.c p).toArray, kv K.k] w fun e w' => ∃ n, e = .returned (.int .i64 n) ∧ decide (n < 0) = decide (p.n < K.n) ∧ decide (n = 0) = decide (p.n = K.n) ∧ Below w.heap.size w w' := by
  have h1 : InB encP 76 ((w.alloc (.cells (encP.c p).toArray 76)).alloc (.cells (bc K.k).toArray 31)) w.heap.size p := (InB.new encP _ w p _ rfl).alloc _
  have h2 : Has ((w.alloc (.cells (encP.c p).toArray 76)).alloc (.cells (bc K.k).toArray 31)) (w.heap.size + 1) K.k := by
    have := Has.new (w.alloc (.cells (encP.c p).toArray 76)) K.k K.h
    simpa using this
  have HB : Hid (Below w.heap.size w ((w.alloc (.cells (encP.c p).toArray 76)).alloc (.cells (bc K.k).toArray 31))) := ((Below.refl _ w).alloc (Nat.le_refl _) _).alloc (by simp) _
  have HC : Hid (∀ W, (W.rangeAt w.heap.size 0 (bc p.k)) → W.rangeAt (w.heap.size + 1) 0 (bc K.k) → Calls Tryz.prog 70 #[.slice (some ⟨w.heap.size, 0, none⟩) 24 24, .slice (some ⟨w.heap.size + 1, 0, none⟩) 24 24] W fun e w' => e = .returned (.int .i64 (Lib.compareBytes p.k K.k)) ∧ w' = W) := fun W a b => compareAt_calls W _ _ _ _ p.h K.h a b 24 24
  have HR : Hid (decide (Lib.compareBytes p.k K.k < 0) = decide (p.n < K.n)) := ord_less p K
  have HZ : Hid (decide (Lib.compareBytes p.k K.k = 0) = decide (p.n = K.n)) := ord_zero p K
  have r1 := range_kP h1.range
  have r2 : ((w.alloc (.cells (encP.c p).toArray 76)).alloc (.cells (bc K.k).toArray 31)).rangeAt (w.heap.size + 1) 0 (bc K.k) := fun j v hv => by
    rw [Nat.zero_add, cell_of_row _ _ _ _ _ _ h2.blk]
    simpa using hv
  have HH : Hid (∀ q, ((((w.alloc (.cells (encP.c p).toArray 76)).alloc (.cells (bc K.k).toArray 31)).drewN q).rangeAt w.heap.size 0 (bc p.k)) ∧ (((w.alloc (.cells (encP.c p).toArray 76)).alloc (.cells (bc K.k).toArray 31)).drewN q).rangeAt (w.heap.size + 1) 0 (bc K.k)) := fun q => ⟨r1, r2⟩
  generalize Lib.compareBytes p.k K.k = r at *
  clear h1 h2 r1 r2
  go_enter Tryz.func69, Tryz.ntmps69
  go_wp2
  go_quiet (first | (go_at_call 70; exact Calls.quiet_of_same (HC.out _ (HH.out _).1 (HH.out _).2)))
  go_wp2
  go_ret
  exact ⟨_, rfl, HR.out, HZ.out, below_drewN HB.out _⟩
set_option maxHeartbeats 4000000 in
theorem cbsearch_calls (w : World) (u : Value) (L : List Pa) (K : Kz) (h : Sl encP w u L) (ha : Asc Pa.n L) (hl : L.length ≤ 100000) :
    Calls Tryz.prog 68 #[u, kv K.k, .func (Fn.func 69) #[] #[]] w fun e w' => e = .returned (.tuple #[.int .i64 (posA Pa.n L K.n : Int), .bool (hitA Pa.n L K.n)]) ∧ Below w.heap.size w w' := by
  have hl' := h
  obtain ⟨ad, cap, rfl, hcap, hmax, _, _⟩ := hl'
  obtain ⟨N, hN⟩ : ∃ N : Nat, N = L.length := ⟨_, rfl⟩
  rw [← hN] at hcap hmax hl ⊢
  have HN : Hid (N = L.length) := hN
  have HI : Hid (∀ i (hi : i < L.length), ∃ g off, ad = some ⟨g, off, none⟩ ∧ g < w.heap.size ∧ w.rangeAt g (off + i * 25) (encP.c L[i])) := fun i hi => SlB.at h i hi
  have HA : Hid (∀ i j (hi : i < L.length) (hj : j < L.length), i ≤ j → (L[i]).n ≤ (L[j]).n) := fun i j hi hj hij => by
    rcases Nat.lt_or_ge i j with h | h
    · exact Int.le_of_lt (List.pairwise_iff_getElem.1 ha i j hi hj h)
    · have : i = j := by omega
      subst this
      exact Int.le_refl _
  have HS : Hid (SrS w (w.alloc (.cells (bc K.k).toArray 31)) K.k) := ⟨(Below.refl _ w).alloc (Nat.le_refl _) _, Has.new w K.k K.h⟩
  have HCP : Hid ((Tryz.prog.info? 76).map (·.size) = some 25) := elP.info
  have HCK : Hid ((Tryz.prog.info? 31).map (·.size) = some 24) := Tryz.key_info
  have HKL : Hid ((bc K.k).length = 24) := by show _ = _; rw [bc_length, K.h]
  clear hN h ha
  go_enter Tryz.func68, Tryz.ntmps68
  go_wp2
  go_loopg [9, 10] N (fun gg s9 s10 wr => ∃ lo hi : Nat, s9 = .int .i64 (lo : Int) ∧ s10 = .int .i64 (hi : Int) ∧ lo ≤ hi ∧ hi ≤ N ∧ hi - lo ≤ gg ∧ Hid (SrS w wr K.k) ∧ Hid ((∀ t (ht : t < L.length), t < lo → (L[t]).n < K.n) ∧ ∀ t (ht : t < L.length), hi ≤ t → K.n ≤ (L[t]).n))
  case atStart => exact ⟨0, N, rfl, rfl, Nat.zero_le _, Nat.le_refl _, by omega, HS.out, (⟨fun t _ h => by omega, fun t ht h => by have := HN.out; omega⟩ : (∀ t (ht : t < L.length), t < 0 → (L[t]).n < K.n) ∧ ∀ t (ht : t < L.length), N ≤ t → K.n ≤ (L[t]).n)⟩
  case round =>
    clear HS
    obtain ⟨lo, hi, rfl, rfl, hlh, hin, hg, HE, HM⟩ := hrel
    by_cases hlt : lo < hi
    · obtain ⟨m, hm⟩ : ∃ m : Nat, m = (lo + hi) / 2 := ⟨_, rfl⟩
      have hltI : (lo : Int) < (hi : Int) := by omega
      have hmI : ((lo : Int) + (hi : Int)) / 2 = (m : Int) := by omega
      have hmN : (m : Int) < (N : Int) := by omega
      have hm0 : (0 : Int) ≤ (m : Int) := by omega
      have hloI : (lo : Int) ≤ 100000 := by omega
      have hhiI : (hi : Int) ≤ 100000 := by omega
      have hml : m < L.length := by rw [← HN.out]; omega
      obtain ⟨g0, off, rfl, hg0, hat⟩ := HI.out m hml
      have HX : Hid (∀ y, SrS w y K.k → y.rangeAt g0 (off + m * 25) (encP.c L[m])) := fun y hy => range_same' hat (hy.bel.block g0 hg0)
      have HLM : Hid (∀ t (ht : t < L.length), (t ≤ m → (L[t]).n ≤ (L[m]).n) ∧ (m ≤ t → (L[m]).n ≤ (L[t]).n)) := fun t ht => ⟨fun h => HA.out t m ht hml h, fun h => HA.out m t hml ht h⟩
      have hOR : Hid (∀ y, Calls Tryz.prog 69 #[.agg (encP.c L[m]).toArray, kv K.k] y fun e w' => ∃ n, e = .returned (.int .i64 n) ∧ decide (n < 0) = decide ((L[m]).n < K.n) ∧ decide (n = 0) = decide ((L[m]).n = K.n) ∧ Below y.heap.size y w') := fun y => cordP_calls y _ _
      generalize L[m] = p at *
      have HEP : Hid ((encP.c p).length = 25) := encP.len p
      have HMM : Hid (m = (lo + hi) / 2) := hm
      clear hat hml hm
      cases hbb : decide (p.n < K.n) with
      | false =>
        rw [hbb] at hOR
        have HPK : Hid (decide (p.n < K.n) = false) := hbb
        clear hbb
        go_upto_region 5 with fail
        refine wp_region_noPanic ?_
        refine wp_region_held_drew (S := (fun y => SrS w y K.k)) (by kernel_rfl) (HE.out.drew) (fun hHeld => ?_)
        refine wpAnyH_take (i := 0) (v := ?_) rfl (by kernel_rfl) (by kernel_rfl) (by kernel_rfl) (fun _ _ _ h => h) (Or.inl ⟨by rfl, ?_⟩) hHeld ?_
        case refine_2 => (intro w hSw; (try dsimp only at hSw); go_simp; try (with_reducible rfl))
        (try simp only [gs])
        refine wpAnyH_take (i := 1) (v := ?_) rfl (by kernel_rfl) (by kernel_rfl) (by kernel_rfl) (fun _ _ _ h => h) (Or.inl ⟨by rfl, ?_⟩) hHeld ?_
        case refine_2 => (intro w hSw; (try dsimp only at hSw); go_simp; try (with_reducible rfl))
        (try simp only [gs])
        refine wpAnyH_take (i := 2) (v := ?_) rfl (by kernel_rfl) (by kernel_rfl) (by kernel_rfl) (fun _ _ _ h => h) (Or.inl ⟨by rfl, ?_⟩) hHeld ?_
        case refine_2 => (intro w hSw; (try dsimp only at hSw); go_simp; try (with_reducible rfl))
        (try simp only [gs])
        refine wpAnyH_take (i := 3) (v := ?_) rfl (by kernel_rfl) (by kernel_rfl) (by kernel_rfl) (fun _ _ _ h => h) (Or.inl ⟨by rfl, ?_⟩) hHeld ?_
        case refine_2 => (intro w hSw; (try dsimp only at hSw); go_simp; try (with_reducible rfl))
        (try simp only [gs])
        refine wpAnyH_take (i := 4) rfl (by kernel_rfl) (by kernel_rfl) (by kernel_rfl) (fun _ _ _ h => h) (yieldsIf_load_mid (by rfl) _ _ rfl _ _ rfl _ _ (fun y h => HX.out y h) Tryz.underlying76 rfl (by rw [HEP.out]; exact HCP.out)) hHeld ?_
        (try simp only [gs])
        refine wpAnyH_take (i := 5) rfl (by kernel_rfl) (by kernel_rfl) (by kernel_rfl) (fun _ _ _ h => h) (yieldsIf_load_mid (by rfl) _ _ rfl _ _ rfl _ _ (fun y h => SrS.key h) Tryz.underlying31 rfl (by rw [HKL.out]; exact HCK.out)) hHeld ?_
        (try simp only [gs])
        generalize wr.drew = y1 at *
        refine wpAnyH_ready (rs := [6]) (by kernel_rfl) (by simp) (AllReadyH.cons rfl (fun K hK => ?_) AllReadyH.nil)
        rw [if_pos (by rfl)]
        (try simp only [gs])
        go_simp
        refine (hOR.out _).mono ?_
        rintro e y2 ⟨n, rfl, hn, -, b1⟩
        have hn0 := of_decide_eq_false hn
        clear hn
        refine hK.out _ _ (hHeld.called b1) (fun g1 => ?_)
        clear hK K
        (try simp only [gs])
        refine wpAnyH_take (i := 7) (v := .bool false) rfl (by kernel_rfl) (by kernel_rfl) (by kernel_rfl) (fun _ _ _ h => h) (Or.inl ⟨by rfl, ?_⟩) g1 ?_
        case refine_1 => (intro w hSw; (try dsimp only at hSw); go_simp; first | done | rfl)
        (try simp only [gs])
        refine wpAnyH_done (by kernel_rfl) ?_ _
        refine NoPanic.normal ?_
        have HG1 : Hid (SrS w y2 K.k) := g1
        clear g1 hHeld b1 hn0 hOR HX
        go_wp2_with fail
        go_roundg (m - lo)
        case measure => (have := HMM.out; omega)
        case rel => exact ⟨lo, m, rfl, congrArg (Value.int .i64) (by first | rfl | omega), (by have := HMM.out; omega), (by have := HMM.out; omega), Nat.le_refl _, HG1.out, (show (∀ t (ht : t < L.length), t < lo → (L[t]).n < K.n) ∧ ∀ t (ht : t < L.length), m ≤ t → K.n ≤ (L[t]).n from ⟨HM.out.1, fun t ht h => by have h1 := (HLM.out t ht).2 h; have h2 := of_decide_eq_false HPK.out; omega⟩)⟩
      | true =>
        rw [hbb] at hOR
        have HPK : Hid (decide (p.n < K.n) = true) := hbb
        clear hbb
        go_upto_region 5 with fail
        refine wp_region_noPanic ?_
        refine wp_region_held_drew (S := (fun y => SrS w y K.k)) (by kernel_rfl) (HE.out.drew) (fun hHeld => ?_)
        refine wpAnyH_take (i := 0) (v := ?_) rfl (by kernel_rfl) (by kernel_rfl) (by kernel_rfl) (fun _ _ _ h => h) (Or.inl ⟨by rfl, ?_⟩) hHeld ?_
        case refine_2 => (intro w hSw; (try dsimp only at hSw); go_simp; try (with_reducible rfl))
        (try simp only [gs])
        refine wpAnyH_take (i := 1) (v := ?_) rfl (by kernel_rfl) (by kernel_rfl) (by kernel_rfl) (fun _ _ _ h => h) (Or.inl ⟨by rfl, ?_⟩) hHeld ?_
        case refine_2 => (intro w hSw; (try dsimp only at hSw); go_simp; try (with_reducible rfl))
        (try simp only [gs])
        refine wpAnyH_take (i := 2) (v := ?_) rfl (by kernel_rfl) (by kernel_rfl) (by kernel_rfl) (fun _ _ _ h => h) (Or.inl ⟨by rfl, ?_⟩) hHeld ?_
        case refine_2 => (intro w hSw; (try dsimp only at hSw); go_simp; try (with_reducible rfl))
        (try simp only [gs])
        refine wpAnyH_take (i := 3) (v := ?_) rfl (by kernel_rfl) (by kernel_rfl) (by kernel_rfl) (fun _ _ _ h => h) (Or.inl ⟨by rfl, ?_⟩) hHeld ?_
        case refine_2 => (intro w hSw; (try dsimp only at hSw); go_simp; try (with_reducible rfl))
        (try simp only [gs])
        refine wpAnyH_take (i := 4) rfl (by kernel_rfl) (by kernel_rfl) (by kernel_rfl) (fun _ _ _ h => h) (yieldsIf_load_mid (by rfl) _ _ rfl _ _ rfl _ _ (fun y h => HX.out y h) Tryz.underlying76 rfl (by rw [HEP.out]; exact HCP.out)) hHeld ?_
        (try simp only [gs])
        refine wpAnyH_take (i := 5) rfl (by kernel_rfl) (by kernel_rfl) (by kernel_rfl) (fun _ _ _ h => h) (yieldsIf_load_mid (by rfl) _ _ rfl _ _ rfl _ _ (fun y h => SrS.key h) Tryz.underlying31 rfl (by rw [HKL.out]; exact HCK.out)) hHeld ?_
        (try simp only [gs])
        generalize wr.drew = y1 at *
        refine wpAnyH_ready (rs := [6]) (by kernel_rfl) (by simp) (AllReadyH.cons rfl (fun K hK => ?_) AllReadyH.nil)
        rw [if_pos (by rfl)]
        (try simp only [gs])
        go_simp
        refine (hOR.out _).mono ?_
        rintro e y2 ⟨n, rfl, hn, -, b1⟩
        have hn0 := of_decide_eq_true hn
        clear hn
        refine hK.out _ _ (hHeld.called b1) (fun g1 => ?_)
        clear hK K
        (try simp only [gs])
        refine wpAnyH_take (i := 7) (v := .bool true) rfl (by kernel_rfl) (by kernel_rfl) (by kernel_rfl) (fun _ _ _ h => h) (Or.inl ⟨by rfl, ?_⟩) g1 ?_
        case refine_1 => (intro w hSw; (try dsimp only at hSw); go_simp; first | done | rfl)
        (try simp only [gs])
        refine wpAnyH_done (by kernel_rfl) ?_ _
        refine NoPanic.normal ?_
        have HG1 : Hid (SrS w y2 K.k) := g1
        clear g1 hHeld b1 hn0 hOR HX
        go_wp2_with fail
        go_roundg (hi - (m + 1))
        case measure => (have := HMM.out; omega)
        case rel => exact ⟨m + 1, hi, congrArg (Value.int .i64) (by first | omega | (unfold wrap64; omega)), rfl, (by have := HMM.out; omega), hin, Nat.le_refl _, HG1.out, (show (∀ t (ht : t < L.length), t < m + 1 → (L[t]).n < K.n) ∧ ∀ t (ht : t < L.length), hi ≤ t → K.n ≤ (L[t]).n from ⟨fun t ht h => by have h1 := (HLM.out t ht).1 (by omega); have h2 := of_decide_eq_true HPK.out; omega, HM.out.2⟩)⟩
    · obtain rfl : hi = lo := by omega
      have hnlt : decide ((hi : Int) < (hi : Int)) = false := decide_eq_false (by omega)
      have HPO : Hid (posA Pa.n L K.n = hi) := posA_eq Pa.n L K.n hi (fun j hj h => HM.out.1 j hj h) (by have := HN.out; omega) (fun h => Int.not_lt.2 (HM.out.2 hi h (Nat.le_refl _)))
      by_cases hn : hi < N
      · have hnI : (hi : Int) < (N : Int) := by omega
        have hh0 : (0 : Int) ≤ (hi : Int) := by omega
        have hml : hi < L.length := by rw [← HN.out]; exact hn
        obtain ⟨g0, off, rfl, hg0, hat⟩ := HI.out hi hml
        have HX : Hid (∀ y, SrS w y K.k → y.rangeAt g0 (off + hi * 25) (encP.c L[hi])) := fun y hy => range_same' hat (hy.bel.block g0 hg0)
        have hOR : Hid (∀ y, Calls Tryz.prog 69 #[.agg (encP.c L[hi]).toArray, kv K.k] y fun e w' => ∃ n, e = .returned (.int .i64 n) ∧ decide (n < 0) = decide ((L[hi]).n < K.n) ∧ decide (n = 0) = decide ((L[hi]).n = K.n) ∧ Below y.heap.size y w') := fun y => cordP_calls y _ _
        have HHT : Hid (hitA Pa.n L K.n = decide ((L[hi]).n = K.n)) := by
          show _ = _
          unfold hitA
          rw [HPO.out, List.getElem?_eq_getElem hml]
          simp
        generalize L[hi] = p at *
        have HEP : Hid ((encP.c p).length = 25) := encP.len p
        clear hat hml
        cases hbb : decide (p.n = K.n) with
        | false =>
          rw [hbb] at hOR HHT
          clear hbb
          go_upto_region 8 with fail
          refine wp_region_noPanic ?_
          refine wp_region_held_drew (S := (fun y => SrS w y K.k)) (by kernel_rfl) (HE.out.drew) (fun hHeld => ?_)
          refine wpAnyH_take (i := 0) (v := ?_) rfl (by kernel_rfl) (by kernel_rfl) (by kernel_rfl) (fun _ _ _ h => h) (Or.inl ⟨by rfl, ?_⟩) hHeld ?_
          case refine_2 => (intro w hSw; (try dsimp only at hSw); go_simp; try (with_reducible rfl))
          (try simp only [gs])
          refine wpAnyH_take (i := 1) (v := ?_) rfl (by kernel_rfl) (by kernel_rfl) (by kernel_rfl) (fun _ _ _ h => h) (Or.inl ⟨by rfl, ?_⟩) hHeld ?_
          case refine_2 => (intro w hSw; (try dsimp only at hSw); go_simp; try (with_reducible rfl))
          (try simp only [gs])
          refine wpAnyH_take (i := 2) (v := ?_) rfl (by kernel_rfl) (by kernel_rfl) (by kernel_rfl) (fun _ _ _ h => h) (Or.inl ⟨by rfl, ?_⟩) hHeld ?_
          case refine_2 => (intro w hSw; (try dsimp only at hSw); go_simp; try (with_reducible rfl))
          (try simp only [gs])
          refine wpAnyH_take (i := 3) (v := .bool true) rfl (by kernel_rfl) (by kernel_rfl) (by kernel_rfl) (fun _ _ _ h => h) (Or.inl ⟨by rfl, ?_⟩) hHeld ?_
          case refine_1 => (intro w hSw; (try dsimp only at hSw); go_simp; first | done | rfl)
          (try simp only [gs])
          refine wpAnyH_take (i := 4) (v := ?_) rfl (by kernel_rfl) (by kernel_rfl) (by kernel_rfl) (fun _ _ _ h => h) (Or.inl ⟨by rfl, ?_⟩) hHeld ?_
          case refine_2 => (intro w hSw; (try dsimp only at hSw); go_simp; try (with_reducible rfl))
          (try simp only [gs])
          refine wpAnyH_take (i := 5) (v := ?_) rfl (by kernel_rfl) (by kernel_rfl) (by kernel_rfl) (fun _ _ _ h => h) (Or.inl ⟨by rfl, ?_⟩) hHeld ?_
          case refine_2 => (intro w hSw; (try dsimp only at hSw); go_simp; try (with_reducible rfl))
          (try simp only [gs])
          refine wpAnyH_take (i := 6) (v := ?_) rfl (by kernel_rfl) (by kernel_rfl) (by kernel_rfl) (fun _ _ _ h => h) (Or.inl ⟨by rfl, ?_⟩) hHeld ?_
          case refine_2 => (intro w hSw; (try dsimp only at hSw); go_simp; try (with_reducible rfl))
          (try simp only [gs])
          refine wpAnyH_take (i := 7) (v := ?_) rfl (by kernel_rfl) (by kernel_rfl) (by kernel_rfl) (fun _ _ _ h => h) (Or.inl ⟨by rfl, ?_⟩) hHeld ?_
          case refine_2 => (intro w hSw; (try dsimp only at hSw); go_simp; try (with_reducible rfl))
          (try simp only [gs])
          refine wpAnyH_take (i := 8) (v := ?_) rfl (by kernel_rfl) (by kernel_rfl) (by kernel_rfl) (fun _ _ _ h => h) (Or.inl ⟨by rfl, ?_⟩) hHeld ?_
          case refine_2 => (intro w hSw; (try dsimp only at hSw); go_simp; try (with_reducible rfl))
          (try simp only [gs])
          refine wpAnyH_take (i := 9) rfl (by kernel_rfl) (by kernel_rfl) (by kernel_rfl) (fun _ _ _ h => h) (yieldsIf_load_mid (by rfl) _ _ rfl _ _ rfl _ _ (fun y h => HX.out y h) Tryz.underlying76 rfl (by rw [HEP.out]; exact HCP.out)) hHeld ?_
          (try simp only [gs])
          refine wpAnyH_take (i := 10) rfl (by kernel_rfl) (by kernel_rfl) (by kernel_rfl) (fun _ _ _ h => h) (yieldsIf_load_mid (by rfl) _ _ rfl _ _ rfl _ _ (fun y h => SrS.key h) Tryz.underlying31 rfl (by rw [HKL.out]; exact HCK.out)) hHeld ?_
          (try simp only [gs])
          generalize wr.drew = y1 at *
          refine wpAnyH_ready (rs := [11]) (by kernel_rfl) (by simp) (AllReadyH.cons rfl (fun K hK => ?_) AllReadyH.nil)
          rw [if_pos (by rfl)]
          (try simp only [gs])
          go_simp
          refine (hOR.out _).mono ?_
          rintro e y2 ⟨n, rfl, -, hn2, b1⟩
          have hn0 : ¬ n = 0 := of_decide_eq_false hn2
          have hz : (n == 0) = false := by simpa using hn0
          clear hn2 hn0
          refine hK.out _ _ (hHeld.called b1) (fun g1 => ?_)
          clear hK K
          (try simp only [gs])
          refine wpAnyH_take (i := 12) (v := .bool false) rfl (by kernel_rfl) (by kernel_rfl) (by kernel_rfl) (fun _ _ _ h => h) (Or.inl ⟨by rfl, ?_⟩) g1 ?_
          case refine_1 => (intro w hSw; (try dsimp only at hSw); go_simp; first | done | rfl)
          (try simp only [gs])
          refine wpAnyH_take (i := 13) (v := ?_) rfl (by kernel_rfl) (by kernel_rfl) (by kernel_rfl) (fun _ _ _ h => h) (Or.inl ⟨by rfl, ?_⟩) g1 ?_
          case refine_2 => (intro w hSw; (try dsimp only at hSw); go_simp; try (with_reducible rfl))
          (try simp only [gs])
          refine wpAnyH_take (i := 14) (v := ?_) rfl (by kernel_rfl) (by kernel_rfl) (by kernel_rfl) (fun _ _ _ h => h) (Or.inl ⟨by rfl, ?_⟩) g1 ?_
          case refine_2 => (intro w hSw; (try dsimp only at hSw); go_simp; try (with_reducible rfl))
          (try simp only [gs])
          refine wpAnyH_take (i := 15) (v := ?_) rfl (by kernel_rfl) (by kernel_rfl) (by kernel_rfl) (fun _ _ _ h => h) (Or.inl ⟨by rfl, ?_⟩) g1 ?_
          case refine_2 => (intro w hSw; (try dsimp only at hSw); go_simp; try (with_reducible rfl))
          (try simp only [gs])
          refine wpAnyH_done (by kernel_rfl) ?_ _
          refine NoPanic.normal ?_
          have HG1 : Hid (SrS w y2 K.k) := g1
          clear g1 hHeld b1 hz hOR HX
          go_wp2_with fail
          go_ret2
          exact ⟨by rw [HPO.out, HHT.out]; rfl, HG1.out.bel⟩
        | true =>
          rw [hbb] at hOR HHT
          clear hbb
          go_upto_region 8 with fail
          refine wp_region_noPanic ?_
          refine wp_region_held_drew (S := (fun y => SrS w y K.k)) (by kernel_rfl) (HE.out.drew) (fun hHeld => ?_)
          refine wpAnyH_take (i := 0) (v := ?_) rfl (by kernel_rfl) (by kernel_rfl) (by kernel_rfl) (fun _ _ _ h => h) (Or.inl ⟨by rfl, ?_⟩) hHeld ?_
          case refine_2 => (intro w hSw; (try dsimp only at hSw); go_simp; try (with_reducible rfl))
          (try simp only [gs])
          refine wpAnyH_take (i := 1) (v := ?_) rfl (by kernel_rfl) (by kernel_rfl) (by kernel_rfl) (fun _ _ _ h => h) (Or.inl ⟨by rfl, ?_⟩) hHeld ?_
          case refine_2 => (intro w hSw; (try dsimp only at hSw); go_simp; try (with_reducible rfl))
          (try simp only [gs])
          refine wpAnyH_take (i := 2) (v := ?_) rfl (by kernel_rfl) (by kernel_rfl) (by kernel_rfl) (fun _ _ _ h => h) (Or.inl ⟨by rfl, ?_⟩) hHeld ?_
          case refine_2 => (intro w hSw; (try dsimp only at hSw); go_simp; try (with_reducible rfl))
          (try simp only [gs])
          refine wpAnyH_take (i := 3) (v := .bool true) rfl (by kernel_rfl) (by kernel_rfl) (by kernel_rfl) (fun _ _ _ h => h) (Or.inl ⟨by rfl, ?_⟩) hHeld ?_
          case refine_1 => (intro w hSw; (try dsimp only at hSw); go_simp; first | done | rfl)
          (try simp only [gs])
          refine wpAnyH_take (i := 4) (v := ?_) rfl (by kernel_rfl) (by kernel_rfl) (by kernel_rfl) (fun _ _ _ h => h) (Or.inl ⟨by rfl, ?_⟩) hHeld ?_
          case refine_2 => (intro w hSw; (try dsimp only at hSw); go_simp; try (with_reducible rfl))
          (try simp only [gs])
          refine wpAnyH_take (i := 5) (v := ?_) rfl (by kernel_rfl) (by kernel_rfl) (by kernel_rfl) (fun _ _ _ h => h) (Or.inl ⟨by rfl, ?_⟩) hHeld ?_
          case refine_2 => (intro w hSw; (try dsimp only at hSw); go_simp; try (with_reducible rfl))
          (try simp only [gs])
          refine wpAnyH_take (i := 6) (v := ?_) rfl (by kernel_rfl) (by kernel_rfl) (by kernel_rfl) (fun _ _ _ h => h) (Or.inl ⟨by rfl, ?_⟩) hHeld ?_
          case refine_2 => (intro w hSw; (try dsimp only at hSw); go_simp; try (with_reducible rfl))
          (try simp only [gs])
          refine wpAnyH_take (i := 7) (v := ?_) rfl (by kernel_rfl) (by kernel_rfl) (by kernel_rfl) (fun _ _ _ h => h) (Or.inl ⟨by rfl, ?_⟩) hHeld ?_
          case refine_2 => (intro w hSw; (try dsimp only at hSw); go_simp; try (with_reducible rfl))
          (try simp only [gs])
          refine wpAnyH_take (i := 8) (v := ?_) rfl (by kernel_rfl) (by kernel_rfl) (by kernel_rfl) (fun _ _ _ h => h) (Or.inl ⟨by rfl, ?_⟩) hHeld ?_
          case refine_2 => (intro w hSw; (try dsimp only at hSw); go_simp; try (with_reducible rfl))
          (try simp only [gs])
          refine wpAnyH_take (i := 9) rfl (by kernel_rfl) (by kernel_rfl) (by kernel_rfl) (fun _ _ _ h => h) (yieldsIf_load_mid (by rfl) _ _ rfl _ _ rfl _ _ (fun y h => HX.out y h) Tryz.underlying76 rfl (by rw [HEP.out]; exact HCP.out)) hHeld ?_
          (try simp only [gs])
          refine wpAnyH_take (i := 10) rfl (by kernel_rfl) (by kernel_rfl) (by kernel_rfl) (fun _ _ _ h => h) (yieldsIf_load_mid (by rfl) _ _ rfl _ _ rfl _ _ (fun y h => SrS.key h) Tryz.underlying31 rfl (by rw [HKL.out]; exact HCK.out)) hHeld ?_
          (try simp only [gs])
          generalize wr.drew = y1 at *
          refine wpAnyH_ready (rs := [11]) (by kernel_rfl) (by simp) (AllReadyH.cons rfl (fun K hK => ?_) AllReadyH.nil)
          rw [if_pos (by rfl)]
          (try simp only [gs])
          go_simp
          refine (hOR.out _).mono ?_
          rintro e y2 ⟨n, rfl, -, hn2, b1⟩
          have hn0 : n = 0 := of_decide_eq_true hn2
          have hz : (n == 0) = true := by simpa using hn0
          clear hn2 hn0
          refine hK.out _ _ (hHeld.called b1) (fun g1 => ?_)
          clear hK K
          (try simp only [gs])
          refine wpAnyH_take (i := 12) (v := .bool true) rfl (by kernel_rfl) (by kernel_rfl) (by kernel_rfl) (fun _ _ _ h => h) (Or.inl ⟨by rfl, ?_⟩) g1 ?_
          case refine_1 => (intro w hSw; (try dsimp only at hSw); go_simp; first | done | rfl)
          (try simp only [gs])
          refine wpAnyH_take (i := 13) (v := ?_) rfl (by kernel_rfl) (by kernel_rfl) (by kernel_rfl) (fun _ _ _ h => h) (Or.inl ⟨by rfl, ?_⟩) g1 ?_
          case refine_2 => (intro w hSw; (try dsimp only at hSw); go_simp; try (with_reducible rfl))
          (try simp only [gs])
          refine wpAnyH_take (i := 14) (v := ?_) rfl (by kernel_rfl) (by kernel_rfl) (by kernel_rfl) (fun _ _ _ h => h) (Or.inl ⟨by rfl, ?_⟩) g1 ?_
          case refine_2 => (intro w hSw; (try dsimp only at hSw); go_simp; try (with_reducible rfl))
          (try simp only [gs])
          refine wpAnyH_take (i := 15) (v := ?_) rfl (by kernel_rfl) (by kernel_rfl) (by kernel_rfl) (fun _ _ _ h => h) (Or.inl ⟨by rfl, ?_⟩) g1 ?_
          case refine_2 => (intro w hSw; (try dsimp only at hSw); go_simp; try (with_reducible rfl))
          (try simp only [gs])
          refine wpAnyH_done (by kernel_rfl) ?_ _
          refine NoPanic.normal ?_
          have HG1 : Hid (SrS w y2 K.k) := g1
          clear g1 hHeld b1 hz hOR HX
          go_wp2_with fail
          go_ret2
          exact ⟨by rw [HPO.out, HHT.out]; rfl, HG1.out.bel⟩
      · have hnN : hi = N := by omega
        subst hnN
        have HHT : Hid (hitA Pa.n L K.n = false) := by
          show _ = _
          unfold hitA
          rw [HPO.out, List.getElem?_eq_none (by have := HN.out; omega)]
          simp
        go_upto_region 8 with fail
        refine wp_region_noPanic ?_
        refine wp_region_held_drew (S := (fun y => SrS w y K.k)) (by kernel_rfl) (HE.out.drew) (fun hHeld => ?_)
        refine wpAnyH_take (i := 0) (v := ?_) rfl (by kernel_rfl) (by kernel_rfl) (by kernel_rfl) (fun _ _ _ h => h) (Or.inl ⟨by rfl, ?_⟩) hHeld ?_
        case refine_2 => (intro w hSw; (try dsimp only at hSw); go_simp; try (with_reducible rfl))
        (try simp only [gs])
        refine wpAnyH_take (i := 1) (v := ?_) rfl (by kernel_rfl) (by kernel_rfl) (by kernel_rfl) (fun _ _ _ h => h) (Or.inl ⟨by rfl, ?_⟩) hHeld ?_
        case refine_2 => (intro w hSw; (try dsimp only at hSw); go_simp; try (with_reducible rfl))
        (try simp only [gs])
        refine wpAnyH_take (i := 2) (v := ?_) rfl (by kernel_rfl) (by kernel_rfl) (by kernel_rfl) (fun _ _ _ h => h) (Or.inl ⟨by rfl, ?_⟩) hHeld ?_
        case refine_2 => (intro w hSw; (try dsimp only at hSw); go_simp; try (with_reducible rfl))
        (try simp only [gs])
        refine wpAnyH_take (i := 3) (v := .bool false) rfl (by kernel_rfl) (by kernel_rfl) (by kernel_rfl) (fun _ _ _ h => h) (Or.inl ⟨by rfl, ?_⟩) hHeld ?_
        case refine_1 => (intro w hSw; (try dsimp only at hSw); go_simp; first | done | rfl)
        (try simp only [gs])
        refine wpAnyH_take (i := 4) (v := ?_) rfl (by kernel_rfl) (by kernel_rfl) (by kernel_rfl) (fun _ _ _ h => h) (Or.inl ⟨by rfl, ?_⟩) hHeld ?_
        case refine_2 => (intro w hSw; (try dsimp only at hSw); go_simp; try (with_reducible rfl))
        (try simp only [gs])
        refine wpAnyH_take (i := 5) (v := undef) rfl (by kernel_rfl) (by kernel_rfl) (by kernel_rfl) (fun _ _ _ h => h) (Or.inr ⟨by rfl, rfl⟩) hHeld ?_
        (try simp only [gs])
        refine wpAnyH_take (i := 6) (v := undef) rfl (by kernel_rfl) (by kernel_rfl) (by kernel_rfl) (fun _ _ _ h => h) (Or.inr ⟨by rfl, rfl⟩) hHeld ?_
        (try simp only [gs])
        refine wpAnyH_take (i := 7) (v := undef) rfl (by kernel_rfl) (by kernel_rfl) (by kernel_rfl) (fun _ _ _ h => h) (Or.inr ⟨by rfl, rfl⟩) hHeld ?_
        (try simp only [gs])
        refine wpAnyH_take (i := 8) (v := undef) rfl (by kernel_rfl) (by kernel_rfl) (by kernel_rfl) (fun _ _ _ h => h) (Or.inr ⟨by rfl, rfl⟩) hHeld ?_
        (try simp only [gs])
        refine wpAnyH_take (i := 9) (v := undef) rfl (by kernel_rfl) (by kernel_rfl) (by kernel_rfl) (fun _ _ _ h => h) (Or.inr ⟨by rfl, rfl⟩) hHeld ?_
        (try simp only [gs])
        refine wpAnyH_take (i := 10) (v := undef) rfl (by kernel_rfl) (by kernel_rfl) (by kernel_rfl) (fun _ _ _ h => h) (Or.inr ⟨by rfl, rfl⟩) hHeld ?_
        (try simp only [gs])
        refine wpAnyH_take (i := 11) (v := undef) rfl (by kernel_rfl) (by kernel_rfl) (by kernel_rfl) (fun _ _ _ h => h) (Or.inr ⟨by rfl, rfl⟩) hHeld ?_
        (try simp only [gs])
        refine wpAnyH_take (i := 12) (v := undef) rfl (by kernel_rfl) (by kernel_rfl) (by kernel_rfl) (fun _ _ _ h => h) (Or.inr ⟨by rfl, rfl⟩) hHeld ?_
        (try simp only [gs])
        refine wpAnyH_take (i := 13) (v := ?_) rfl (by kernel_rfl) (by kernel_rfl) (by kernel_rfl) (fun _ _ _ h => h) (Or.inl ⟨by rfl, ?_⟩) hHeld ?_
        case refine_2 => (intro w hSw; (try dsimp only at hSw); go_simp; try (with_reducible rfl))
        (try simp only [gs])
        refine wpAnyH_take (i := 14) (v := ?_) rfl (by kernel_rfl) (by kernel_rfl) (by kernel_rfl) (fun _ _ _ h => h) (Or.inl ⟨by rfl, ?_⟩) hHeld ?_
        case refine_2 => (intro w hSw; (try dsimp only at hSw); go_simp; try (with_reducible rfl))
        (try simp only [gs])
        refine wpAnyH_take (i := 15) (v := ?_) rfl (by kernel_rfl) (by kernel_rfl) (by kernel_rfl) (fun _ _ _ h => h) (Or.inl ⟨by rfl, ?_⟩) hHeld ?_
        case refine_2 => (intro w hSw; (try dsimp only at hSw); go_simp; try (with_reducible rfl))
        (try simp only [gs])
        refine wpAnyH_done (by kernel_rfl) ?_ _
        refine NoPanic.normal ?_
        have HG1 : Hid (SrS w wr.drew K.k) := hHeld
        clear hHeld
        go_wp2_with fail
        go_ret2
        exact ⟨by rw [HPO.out, HHT.out]; rfl, HG1.out.bel⟩
end Go.Proofs.YtdmindhjmjnagabGreatDoor
