import Derived.Test.YtdmindhjmjnagaaGreatDoorSi
import Derived.Test.YtdmindhjmjnagaaGreatDoorB23
import Derived.Test.YtdmindhjmjnagaaGreatDoorB01
import Derived.Test.YtdmindhjmjnagaaGreatDoorB15
/- ChA ChB -/
namespace Go.Proofs.YtdmindhjmjnagaaGreatDoor
set_option linter.unusedVariables false
set_option maxRecDepth 1000000
set_option maxHeartbeats 32000000
section
open Go.RowKit
structure Pc where
 pl : Int
 fr : Int
 tt : Int
 ix : Int
def pcd4 (p : Pc) : List Value := [.int .i64 p.pl, .int .i64 p.fr, .int .i64 p.tt, .int .i64 p.ix]
def encPc : Enc Pc 4 := ⟨pcd4, fun _ => rfl, fun p v hv => by simp [pcd4] at hv; rcases hv with rfl | rfl | rfl | rfl <;> rfl⟩
abbrev pcv (p : Pc) : Value := .agg (pcd4 p).toArray
theorem elPc : ElTy Tryz.prog encPc 122 := ⟨⟨_, Tryz.underlying122, rfl, rfl⟩, by kernel_rfl⟩
theorem cnum_calls (n : Int) (w : World) : Calls Tryz.prog 28 #[.int .i64 n] w fun e w' => e = .returned (.bool (okNum n)) ∧ w' = w := by
 go_enter Tryz.func28, Tryz.ntmps28
 unfold okNum
 by_cases h1 : 1 ≤ n
 · by_cases h2 : n < 1073741824
   · go_wp2
     go_ret
     simp [h1, h2]
   · go_wp2
     go_ret
     simp [h2]
 · go_wp2
   go_ret
   refine ⟨?_, rfl⟩
   simp
   omega
def okW (off n : Int) : Bool := decide (0 ≤ off) && decide (0 ≤ n) && decide (off ≤ 1048576) && decide (n ≤ 1048576 - off)
theorem cwithin_calls (off n : Int) (hn : n ≤ 9223372036854775807) (ho : off ≤ 9223372036854775807) (w : World) : Calls Tryz.prog 29 #[.int .i64 off, .int .i64 n] w fun e w' => e = .returned (.bool (okW off n)) ∧ w' = w := by
 go_enter Tryz.func29, Tryz.ntmps29
 unfold okW
 by_cases h1 : 0 ≤ off
 · by_cases h2 : 0 ≤ n
   · by_cases h3 : n ≤ 1048576 - off
     · have h4 : off ≤ 1048576 := by omega
       go_wp2
       go_ret
       simp [h1, h2, h3, h4]
     · have h4 : IntKind.i64.wrap (1048576 - off) = 1048576 - off := by rw [IntKind.wrap_i64]; omega
       go_wp2
       go_ret
       simp [h3]
   · go_wp2
     go_ret
     refine ⟨?_, rfl⟩
     simp
     omega
 · go_wp2
   go_ret
   refine ⟨?_, rfl⟩
   simp
   omega
theorem pieceAt_calls (off n : Int) (h0 : 0 ≤ off) (h1 : off ≤ 4000000) (h2 : 0 ≤ n) (h3 : n ≤ 4000000) (w : World) :
    Calls Tryz.prog 105 #[.int .i64 off, .int .i64 n] w fun e w' => e = .returned (pcv ⟨off / 32, off % 32, min (off % 32 + n) 32, 0⟩) ∧ Below w.heap.size w w' := by
 go_enter Tryz.func105, Tryz.ntmps105
 go_wp2
 refine ret_el elPc rfl w.heap.size ⟨off / 32, off % 32, min (off % 32 + n) 32, 0⟩ rfl (InB.mk (heap_alloc_new _ _)) rfl ?_
 exact ⟨rfl, (Below.refl _ w).alloc (Nat.le_refl _) _⟩
theorem psize_calls (p : Pc) (h0 : 0 ≤ p.fr) (h1 : p.fr ≤ p.tt) (h2 : p.tt ≤ 32) (w : World) :
    Calls Tryz.prog 106 #[pcv p] w fun e w' => e = .returned (.int .i64 (p.tt - p.fr)) ∧ Below w.heap.size w w' := by
 obtain ⟨a, b, c, d⟩ := p
 have hw : IntKind.i64.wrap (c - b) = c - b := by rw [IntKind.wrap_i64]; dsimp only at h0 h1 h2; omega
 change Calls Tryz.prog 106 #[.agg #[.int .i64 a, .int .i64 b, .int .i64 c, .int .i64 d]] w fun e w' => e = .returned (.int .i64 (c - b)) ∧ Below w.heap.size w w'
 dsimp only at h0 h1 h2
 go_enter Tryz.func106, Tryz.ntmps106
 go_wp2
 go_ret
 exact ⟨rfl, (Below.refl _ w).alloc (Nat.le_refl _) _⟩
theorem pwhole_calls (p : Pc) (h0 : 0 ≤ p.fr) (h1 : p.fr ≤ p.tt) (h2 : p.tt ≤ 32) (w : World) :
    Calls Tryz.prog 107 #[pcv p] w fun e w' => e = .returned (.bool (decide (p.tt - p.fr = 32))) ∧ Below w.heap.size w w' := by
 have hS := fun y => psize_calls p h0 h1 h2 y
 obtain ⟨a, b, c, d⟩ := p
 change Calls Tryz.prog 107 #[.agg #[.int .i64 a, .int .i64 b, .int .i64 c, .int .i64 d]] w fun e w' => e = .returned (.bool (decide (c - b = 32))) ∧ Below w.heap.size w w'
 have hS2 : ∀ y, Calls Tryz.prog 106 #[.agg #[.int .i64 a, .int .i64 b, .int .i64 c, .int .i64 d]] y fun e w' => e = .returned (.int .i64 (c - b)) ∧ Below y.heap.size y w' := hS
 clear hS
 dsimp only at h0 h1 h2
 have hB : Hid (Below w.heap.size w (w.alloc (.cells #[.int .i64 a, .int .i64 b, .int .i64 c, .int .i64 d] 122))) := (Below.refl _ w).alloc (Nat.le_refl _) _
 have hd : ((c - b) == 32) = decide (c - b = 32) := by
  by_cases h : c - b = 32
  · rw [h]; rfl
  · rw [decide_eq_false h]; simpa using h
 go_enter Tryz.func107, Tryz.ntmps107
 go_wp2_with (go_at_call 106; refine (hS2 _).mono ?_; rintro e w1 ⟨rfl, b1⟩)
 go_ret
 exact ⟨by rw [← hd]; rfl, hB.out.trans (b1.mono hB.out.size)⟩
theorem keyOf_calls (ino pl : Int) (w : World) :
    Calls Tryz.prog 67 #[.int .i64 ino, .int .i64 pl] w fun e w' => e = .returned (kv (chunkR ino pl)) ∧ Below w.heap.size w w' := by
 have hE := fun y => chunk_calls ino pl y
 have hKl := chunkR_length ino pl
 have HZ : Hid (Has (w.alloc (.cells (bc (zs 24)).toArray 54)) w.heap.size (zs 24) ∧ Below w.heap.size w (w.alloc (.cells (bc (zs 24)).toArray 54))) := ⟨Has.new w (zs 24) rfl, (Below.refl _ w).alloc (Nat.le_refl _) _⟩
 generalize chunkR ino pl = K at *
 generalize (okN ino && okP pl) = ok at *
 go_enter Tryz.func67, Tryz.ntmps67
 go_upto_region 1 with fail
 change Code.wp _ _ _ _ (w.alloc (.cells (bc (zs 24)).toArray 54))
 generalize hW0 : w.alloc (.cells (bc (zs 24)).toArray 54) = w0 at *
 clear hW0
 go_upto_region 2 with (first
  | (go_at_call 24; refine (hE _).mono ?_; rintro e w1 ⟨rfl, b1⟩)
  | (refine store_key rfl _ _ rfl _ rfl _ rfl hKl (zs 24) (zero_has w1 w1.heap.size rfl) ?_; intro w2 h2 t2 s2))
 have hb0 : w.heap.size < w0.heap.size := HZ.out.1.lt
 have B2 : Below w0.heap.size w0 w2 := b1.trans (((Below.refl _ w1).alloc (Nat.le_refl _) _).trans (t2.below (by simp) (Nat.le_refl _) (by simp)) |>.mono b1.size)
 have HH : Hid (Has w2 w1.heap.size K ∧ Has w2 w.heap.size (zs 24) ∧ Below w.heap.size w w2) := ⟨h2, HZ.out.1.below B2 hb0, HZ.out.2.trans (B2.mono (Nat.le_of_lt hb0))⟩
 clear h2 t2 s2 b1 B2 hb0 HZ hE
 go_wp2_with (first
  | (refine load_key _ rfl w1.heap.size rfl rfl K HH.out.1 ?_)
  | (refine store_key rfl _ _ rfl w.heap.size rfl K rfl hKl (zs 24) HH.out.2.1 ?_; intro w4 h4 t4 s4))
 refine ret_key rfl _ _ rfl h4 rfl ?_
 exact ⟨rfl, HH.out.2.2.trans ⟨t4.os, t4.tape, t4.output, Nat.le_of_eq s4.symm, fun k hk => t4.block k (Nat.lt_of_lt_of_le hk HH.out.2.2.size) (Nat.ne_of_lt hk) (by simp)⟩⟩
end
section
open Go.RowKit
theorem cordP_calls (w : World) (p : Pa) (K : Kz) : Calls Tryz.prog 125 #[.agg (encP.c p).toArray, kv K.k] w fun e w' => ∃ n, e = .returned (.int .i64 n) ∧ decide (n < 0) = decide (p.n < K.n) ∧ decide (n = 0) = decide (p.n = K.n) ∧ Below w.heap.size w w' := by
 have h1 : InB encP 62 ((w.alloc (.cells (encP.c p).toArray 62)).alloc (.cells (bc K.k).toArray 54)) w.heap.size p := (InB.new encP _ w p _ rfl).alloc _
 have h2 : Has ((w.alloc (.cells (encP.c p).toArray 62)).alloc (.cells (bc K.k).toArray 54)) (w.heap.size + 1) K.k := by
  have := Has.new (w.alloc (.cells (encP.c p).toArray 62)) K.k K.h
  simpa using this
 have HB : Hid (Below w.heap.size w ((w.alloc (.cells (encP.c p).toArray 62)).alloc (.cells (bc K.k).toArray 54))) := ((Below.refl _ w).alloc (Nat.le_refl _) _).alloc (by simp) _
 have HC : Hid (∀ W, (W.rangeAt w.heap.size 0 (bc p.k)) → W.rangeAt (w.heap.size + 1) 0 (bc K.k) → Calls Tryz.prog 126 #[.slice (some ⟨w.heap.size, 0, none⟩) 24 24, .slice (some ⟨w.heap.size + 1, 0, none⟩) 24 24] W fun e w' => e = .returned (.int .i64 (Lib.compareBytes p.k K.k)) ∧ w' = W) := fun W a b => compareAt_calls W _ _ _ _ p.h K.h a b 24 24
 have HR : Hid (decide (Lib.compareBytes p.k K.k < 0) = decide (p.n < K.n)) := ord_less p K
 have HZ : Hid (decide (Lib.compareBytes p.k K.k = 0) = decide (p.n = K.n)) := ord_zero p K
 have r1 := range_kP h1.range
 have r2 : ((w.alloc (.cells (encP.c p).toArray 62)).alloc (.cells (bc K.k).toArray 54)).rangeAt (w.heap.size + 1) 0 (bc K.k) := fun j v hv => by
  rw [Nat.zero_add, cell_of_row _ _ _ _ _ _ h2.blk]
  simpa using hv
 have HH : Hid (∀ q, ((((w.alloc (.cells (encP.c p).toArray 62)).alloc (.cells (bc K.k).toArray 54)).drewN q).rangeAt w.heap.size 0 (bc p.k)) ∧ (((w.alloc (.cells (encP.c p).toArray 62)).alloc (.cells (bc K.k).toArray 54)).drewN q).rangeAt (w.heap.size + 1) 0 (bc K.k)) := fun q => ⟨r1, r2⟩
 generalize Lib.compareBytes p.k K.k = r at *
 clear h1 h2 r1 r2
 go_enter Tryz.func125, Tryz.ntmps125
 go_wp2
 go_quiet (first | (go_at_call 126; exact Calls.quiet_of_same (HC.out _ (HH.out _).1 (HH.out _).2)))
 go_wp2
 go_ret
 exact ⟨_, rfl, HR.out, HZ.out, below_drewN HB.out _⟩
theorem cbsearch_calls (w : World) (u : Value) (L : List Pa) (K : Kz) (h : Sl encP w u L) (ha : Asc Pa.n L) (hl : L.length ≤ 100000) :
    Calls Tryz.prog 124 #[u, kv K.k, .func (Fn.func 125) #[] #[]] w fun e w' => e = .returned (.tuple #[.int .i64 (posA Pa.n L K.n : Int), .bool (hitA Pa.n L K.n)]) ∧ Below w.heap.size w w' := by
 have hl' := h
 obtain ⟨ad, cap, rfl, hcap, hmax, _, _⟩ := hl'
 obtain ⟨N, hN⟩ : ∃ N : Nat, N = L.length := ⟨_, rfl⟩
 rw [← hN] at hcap hmax hl ⊢
 have HN : Hid (N = L.length) := hN
 have HI : Hid (∀ i (hi : i < L.length), ∃ g off, ad = some ⟨g, off, none⟩ ∧ g < w.heap.size ∧ w.rangeAt g (off + i * 25) (encP.c L[i])) := fun i hi => SlB.at h i hi
 have HA : Hid (∀ i j (hi : i < L.length) (hj : j < L.length), i ≤ j → (L[i]).n ≤ (L[j]).n) := fun i j hi hj hij => by
  rcases Nat.lt_or_ge i j with h | h
  · exact Int.le_of_lt (List.pairwise_iff_getElem.1 ha i j hi hj h)
  · have : i = j := by omega
    subst this
    exact Int.le_refl _
 have HS : Hid (SrS w (w.alloc (.cells (bc K.k).toArray 54)) K.k) := ⟨(Below.refl _ w).alloc (Nat.le_refl _) _, Has.new w K.k K.h⟩
 have HCP : Hid ((Tryz.prog.info? 62).map (·.size) = some 25) := elP.info
 have HCK : Hid ((Tryz.prog.info? 54).map (·.size) = some 24) := Tryz.key_info
 have HKL : Hid ((bc K.k).length = 24) := by show _ = _; rw [bc_length, K.h]
 clear hN h ha
 go_enter Tryz.func124, Tryz.ntmps124
 go_wp2
 go_loopg [9, 10] N (fun gg s9 s10 wr => ∃ lo hi : Nat, s9 = .int .i64 (lo : Int) ∧ s10 = .int .i64 (hi : Int) ∧ lo ≤ hi ∧ hi ≤ N ∧ hi - lo ≤ gg ∧ Hid (SrS w wr K.k) ∧ Hid ((∀ t (ht : t < L.length), t < lo → (L[t]).n < K.n) ∧ ∀ t (ht : t < L.length), hi ≤ t → K.n ≤ (L[t]).n))
 case atStart => exact ⟨0, N, rfl, rfl, Nat.zero_le _, Nat.le_refl _, by omega, HS.out, (⟨fun t _ h => by omega, fun t ht h => by have := HN.out; omega⟩ : (∀ t (ht : t < L.length), t < 0 → (L[t]).n < K.n) ∧ ∀ t (ht : t < L.length), N ≤ t → K.n ≤ (L[t]).n)⟩
 case round =>
  clear HS
  obtain ⟨lo, hi, rfl, rfl, hlh, hin, hg, HE, HM⟩ := hrel
  by_cases hlt : lo < hi
  · obtain ⟨m, hm⟩ : ∃ m : Nat, m = (lo + hi) / 2 := ⟨_, rfl⟩
    have hltI : (lo : Int) < (hi : Int) := by omega
    have hmI : ((lo : Int) + (hi : Int)) / 2 = (m : Int) := by omega
    have hmN : (m : Int) < (N : Int) := by omega
    have hm0 : (0 : Int) ≤ (m : Int) := by omega
    have hloI : (lo : Int) ≤ 100000 := by omega
    have hhiI : (hi : Int) ≤ 100000 := by omega
    have hml : m < L.length := by rw [← HN.out]; omega
    obtain ⟨g0, off, rfl, hg0, hat⟩ := HI.out m hml
    have HX : Hid (∀ y, SrS w y K.k → y.rangeAt g0 (off + m * 25) (encP.c L[m])) := fun y hy => range_same' hat (hy.bel.block g0 hg0)
    have HLM : Hid (∀ t (ht : t < L.length), (t ≤ m → (L[t]).n ≤ (L[m]).n) ∧ (m ≤ t → (L[m]).n ≤ (L[t]).n)) := fun t ht => ⟨fun h => HA.out t m ht hml h, fun h => HA.out m t hml ht h⟩
    have hOR : Hid (∀ y, Calls Tryz.prog 125 #[.agg (encP.c L[m]).toArray, kv K.k] y fun e w' => ∃ n, e = .returned (.int .i64 n) ∧ decide (n < 0) = decide ((L[m]).n < K.n) ∧ decide (n = 0) = decide ((L[m]).n = K.n) ∧ Below y.heap.size y w') := fun y => cordP_calls y _ _
    generalize L[m] = p at *
    have HEP : Hid ((encP.c p).length = 25) := encP.len p
    have HMM : Hid (m = (lo + hi) / 2) := hm
    clear hat hml hm
    cases hbb : decide (p.n < K.n) with
    | false =>
     rw [hbb] at hOR
     have HPK : Hid (decide (p.n < K.n) = false) := hbb
     clear hbb
     go_upto_region 5 with fail
     refine wp_region_noPanic ?_
     refine wp_region_held_drew (S := (fun y => SrS w y K.k)) (by kernel_rfl) (HE.out.drew) (fun hh => ?_)
     refine tl ?_ 0 rfl hh ⟨by rfl, ?_⟩ ?_
     case refine_2 => (intro w hSw; go_simp; try with_reducible rfl)
     (try simp only [gs])
     refine tl ?_ 1 rfl hh ⟨by rfl, ?_⟩ ?_
     case refine_2 => (intro w hSw; go_simp; try with_reducible rfl)
     (try simp only [gs])
     refine tl ?_ 2 rfl hh ⟨by rfl, ?_⟩ ?_
     case refine_2 => (intro w hSw; go_simp; try with_reducible rfl)
     (try simp only [gs])
     refine tl ?_ 3 rfl hh ⟨by rfl, ?_⟩ ?_
     case refine_2 => (intro w hSw; go_simp; try with_reducible rfl)
     (try simp only [gs])
     refine tk 4 rfl hh (yieldsIf_load_mid (by rfl) _ _ rfl _ _ rfl _ _ (fun y h => HX.out y h) Tryz.underlying62 rfl (by rw [HEP.out]; exact HCP.out)) ?_
     (try simp only [gs])
     refine tk 5 rfl hh (yieldsIf_load_mid (by rfl) _ _ rfl _ _ rfl _ _ (fun y h => SrS.key h) Tryz.underlying54 rfl (by rw [HKL.out]; exact HCK.out)) ?_
     (try simp only [gs])
     generalize wr.drew = y1 at *
     refine wpAnyH_ready (rs := [6]) (by kernel_rfl) (by simp) (AllReadyH.cons rfl (fun K hK => ?_) AllReadyH.nil)
     rw [if_pos (by rfl)]
     (try simp only [gs])
     go_simp
     refine (hOR.out _).mono ?_
     rintro e y2 ⟨n, rfl, hn, -, b1⟩
     have hn0 := of_decide_eq_false hn
     clear hn
     refine hK.out _ _ (hh.called b1) (fun g1 => ?_)
     clear hK K
     (try simp only [gs])
     refine tk (v := .bool false) 7 rfl g1 (Or.inl ⟨by rfl, ?_⟩) ?_
     case refine_1 => (intro w hSw; go_simp; first | done | rfl)
     (try simp only [gs])
     refine wpAnyH_done (by kernel_rfl) ?_ _
     refine NoPanic.normal ?_
     have HG1 : Hid (SrS w y2 K.k) := g1
     clear g1 hh b1 hn0 hOR HX
     go_wp2_with fail
     go_roundg (m - lo)
     case measure => (have := HMM.out; omega)
     case rel => exact ⟨lo, m, rfl, congrArg (Value.int .i64) (by first | rfl | omega), (by have := HMM.out; omega), (by have := HMM.out; omega), Nat.le_refl _, HG1.out, (show (∀ t (ht : t < L.length), t < lo → (L[t]).n < K.n) ∧ ∀ t (ht : t < L.length), m ≤ t → K.n ≤ (L[t]).n from ⟨HM.out.1, fun t ht h => by have h1 := (HLM.out t ht).2 h; have h2 := of_decide_eq_false HPK.out; omega⟩)⟩
    | true =>
     rw [hbb] at hOR
     have HPK : Hid (decide (p.n < K.n) = true) := hbb
     clear hbb
     go_upto_region 5 with fail
     refine wp_region_noPanic ?_
     refine wp_region_held_drew (S := (fun y => SrS w y K.k)) (by kernel_rfl) (HE.out.drew) (fun hh => ?_)
     refine tl ?_ 0 rfl hh ⟨by rfl, ?_⟩ ?_
     case refine_2 => (intro w hSw; go_simp; try with_reducible rfl)
     (try simp only [gs])
     refine tl ?_ 1 rfl hh ⟨by rfl, ?_⟩ ?_
     case refine_2 => (intro w hSw; go_simp; try with_reducible rfl)
     (try simp only [gs])
     refine tl ?_ 2 rfl hh ⟨by rfl, ?_⟩ ?_
     case refine_2 => (intro w hSw; go_simp; try with_reducible rfl)
     (try simp only [gs])
     refine tl ?_ 3 rfl hh ⟨by rfl, ?_⟩ ?_
     case refine_2 => (intro w hSw; go_simp; try with_reducible rfl)
     (try simp only [gs])
     refine tk 4 rfl hh (yieldsIf_load_mid (by rfl) _ _ rfl _ _ rfl _ _ (fun y h => HX.out y h) Tryz.underlying62 rfl (by rw [HEP.out]; exact HCP.out)) ?_
     (try simp only [gs])
     refine tk 5 rfl hh (yieldsIf_load_mid (by rfl) _ _ rfl _ _ rfl _ _ (fun y h => SrS.key h) Tryz.underlying54 rfl (by rw [HKL.out]; exact HCK.out)) ?_
     (try simp only [gs])
     generalize wr.drew = y1 at *
     refine wpAnyH_ready (rs := [6]) (by kernel_rfl) (by simp) (AllReadyH.cons rfl (fun K hK => ?_) AllReadyH.nil)
     rw [if_pos (by rfl)]
     (try simp only [gs])
     go_simp
     refine (hOR.out _).mono ?_
     rintro e y2 ⟨n, rfl, hn, -, b1⟩
     have hn0 := of_decide_eq_true hn
     clear hn
     refine hK.out _ _ (hh.called b1) (fun g1 => ?_)
     clear hK K
     (try simp only [gs])
     refine tk (v := .bool true) 7 rfl g1 (Or.inl ⟨by rfl, ?_⟩) ?_
     case refine_1 => (intro w hSw; go_simp; first | done | rfl)
     (try simp only [gs])
     refine wpAnyH_done (by kernel_rfl) ?_ _
     refine NoPanic.normal ?_
     have HG1 : Hid (SrS w y2 K.k) := g1
     clear g1 hh b1 hn0 hOR HX
     go_wp2_with fail
     go_roundg (hi - (m + 1))
     case measure => (have := HMM.out; omega)
     case rel => exact ⟨m + 1, hi, congrArg (Value.int .i64) (by first | omega | (unfold wrap64; omega)), rfl, (by have := HMM.out; omega), hin, Nat.le_refl _, HG1.out, (show (∀ t (ht : t < L.length), t < m + 1 → (L[t]).n < K.n) ∧ ∀ t (ht : t < L.length), hi ≤ t → K.n ≤ (L[t]).n from ⟨fun t ht h => by have h1 := (HLM.out t ht).1 (by omega); have h2 := of_decide_eq_true HPK.out; omega, HM.out.2⟩)⟩
  · obtain rfl : hi = lo := by omega
    have hnlt : decide ((hi : Int) < (hi : Int)) = false := decide_eq_false (by omega)
    have HPO : Hid (posA Pa.n L K.n = hi) := posA_eq Pa.n L K.n hi (fun j hj h => HM.out.1 j hj h) (by have := HN.out; omega) (fun h => Int.not_lt.2 (HM.out.2 hi h (Nat.le_refl _)))
    by_cases hn : hi < N
    · have hnI : (hi : Int) < (N : Int) := by omega
      have hh0 : (0 : Int) ≤ (hi : Int) := by omega
      have hml : hi < L.length := by rw [← HN.out]; exact hn
      obtain ⟨g0, off, rfl, hg0, hat⟩ := HI.out hi hml
      have HX : Hid (∀ y, SrS w y K.k → y.rangeAt g0 (off + hi * 25) (encP.c L[hi])) := fun y hy => range_same' hat (hy.bel.block g0 hg0)
      have hOR : Hid (∀ y, Calls Tryz.prog 125 #[.agg (encP.c L[hi]).toArray, kv K.k] y fun e w' => ∃ n, e = .returned (.int .i64 n) ∧ decide (n < 0) = decide ((L[hi]).n < K.n) ∧ decide (n = 0) = decide ((L[hi]).n = K.n) ∧ Below y.heap.size y w') := fun y => cordP_calls y _ _
      have HHT : Hid (hitA Pa.n L K.n = decide ((L[hi]).n = K.n)) := by
       show _ = _
       unfold hitA
       rw [HPO.out, List.getElem?_eq_getElem hml]
       simp
      generalize L[hi] = p at *
      have HEP : Hid ((encP.c p).length = 25) := encP.len p
      clear hat hml
      cases hbb : decide (p.n = K.n) with
      | false =>
       rw [hbb] at hOR HHT
       clear hbb
       go_upto_region 8 with fail
       refine wp_region_noPanic ?_
       refine wp_region_held_drew (S := (fun y => SrS w y K.k)) (by kernel_rfl) (HE.out.drew) (fun hh => ?_)
       refine tl ?_ 0 rfl hh ⟨by rfl, ?_⟩ ?_
       case refine_2 => (intro w hSw; go_simp; try with_reducible rfl)
       (try simp only [gs])
       refine tl ?_ 1 rfl hh ⟨by rfl, ?_⟩ ?_
       case refine_2 => (intro w hSw; go_simp; try with_reducible rfl)
       (try simp only [gs])
       refine tl ?_ 2 rfl hh ⟨by rfl, ?_⟩ ?_
       case refine_2 => (intro w hSw; go_simp; try with_reducible rfl)
       (try simp only [gs])
       refine tk (v := .bool true) 3 rfl hh (Or.inl ⟨by rfl, ?_⟩) ?_
       case refine_1 => (intro w hSw; go_simp; first | done | rfl)
       (try simp only [gs])
       refine tl ?_ 4 rfl hh ⟨by rfl, ?_⟩ ?_
       case refine_2 => (intro w hSw; go_simp; try with_reducible rfl)
       (try simp only [gs])
       refine tl ?_ 5 rfl hh ⟨by rfl, ?_⟩ ?_
       case refine_2 => (intro w hSw; go_simp; try with_reducible rfl)
       (try simp only [gs])
       refine tl ?_ 6 rfl hh ⟨by rfl, ?_⟩ ?_
       case refine_2 => (intro w hSw; go_simp; try with_reducible rfl)
       (try simp only [gs])
       refine tl ?_ 7 rfl hh ⟨by rfl, ?_⟩ ?_
       case refine_2 => (intro w hSw; go_simp; try with_reducible rfl)
       (try simp only [gs])
       refine tl ?_ 8 rfl hh ⟨by rfl, ?_⟩ ?_
       case refine_2 => (intro w hSw; go_simp; try with_reducible rfl)
       (try simp only [gs])
       refine tk 9 rfl hh (yieldsIf_load_mid (by rfl) _ _ rfl _ _ rfl _ _ (fun y h => HX.out y h) Tryz.underlying62 rfl (by rw [HEP.out]; exact HCP.out)) ?_
       (try simp only [gs])
       refine tk 10 rfl hh (yieldsIf_load_mid (by rfl) _ _ rfl _ _ rfl _ _ (fun y h => SrS.key h) Tryz.underlying54 rfl (by rw [HKL.out]; exact HCK.out)) ?_
       (try simp only [gs])
       generalize wr.drew = y1 at *
       refine wpAnyH_ready (rs := [11]) (by kernel_rfl) (by simp) (AllReadyH.cons rfl (fun K hK => ?_) AllReadyH.nil)
       rw [if_pos (by rfl)]
       (try simp only [gs])
       go_simp
       refine (hOR.out _).mono ?_
       rintro e y2 ⟨n, rfl, -, hn2, b1⟩
       have hn0 : ¬ n = 0 := of_decide_eq_false hn2
       have hz : (n == 0) = false := by simpa using hn0
       clear hn2 hn0
       refine hK.out _ _ (hh.called b1) (fun g1 => ?_)
       clear hK K
       (try simp only [gs])
       refine tk (v := .bool false) 12 rfl g1 (Or.inl ⟨by rfl, ?_⟩) ?_
       case refine_1 => (intro w hSw; go_simp; first | done | rfl)
       (try simp only [gs])
       refine tl ?_ 13 rfl g1 ⟨by rfl, ?_⟩ ?_
       case refine_2 => (intro w hSw; go_simp; try with_reducible rfl)
       (try simp only [gs])
       refine tl ?_ 14 rfl g1 ⟨by rfl, ?_⟩ ?_
       case refine_2 => (intro w hSw; go_simp; try with_reducible rfl)
       (try simp only [gs])
       refine tl ?_ 15 rfl g1 ⟨by rfl, ?_⟩ ?_
       case refine_2 => (intro w hSw; go_simp; try with_reducible rfl)
       (try simp only [gs])
       refine wpAnyH_done (by kernel_rfl) ?_ _
       refine NoPanic.normal ?_
       have HG1 : Hid (SrS w y2 K.k) := g1
       clear g1 hh b1 hz hOR HX
       go_wp2_with fail
       go_ret2
       exact ⟨by rw [HPO.out, HHT.out]; rfl, HG1.out.bel⟩
      | true =>
       rw [hbb] at hOR HHT
       clear hbb
       go_upto_region 8 with fail
       refine wp_region_noPanic ?_
       refine wp_region_held_drew (S := (fun y => SrS w y K.k)) (by kernel_rfl) (HE.out.drew) (fun hh => ?_)
       refine tl ?_ 0 rfl hh ⟨by rfl, ?_⟩ ?_
       case refine_2 => (intro w hSw; go_simp; try with_reducible rfl)
       (try simp only [gs])
       refine tl ?_ 1 rfl hh ⟨by rfl, ?_⟩ ?_
       case refine_2 => (intro w hSw; go_simp; try with_reducible rfl)
       (try simp only [gs])
       refine tl ?_ 2 rfl hh ⟨by rfl, ?_⟩ ?_
       case refine_2 => (intro w hSw; go_simp; try with_reducible rfl)
       (try simp only [gs])
       refine tk (v := .bool true) 3 rfl hh (Or.inl ⟨by rfl, ?_⟩) ?_
       case refine_1 => (intro w hSw; go_simp; first | done | rfl)
       (try simp only [gs])
       refine tl ?_ 4 rfl hh ⟨by rfl, ?_⟩ ?_
       case refine_2 => (intro w hSw; go_simp; try with_reducible rfl)
       (try simp only [gs])
       refine tl ?_ 5 rfl hh ⟨by rfl, ?_⟩ ?_
       case refine_2 => (intro w hSw; go_simp; try with_reducible rfl)
       (try simp only [gs])
       refine tl ?_ 6 rfl hh ⟨by rfl, ?_⟩ ?_
       case refine_2 => (intro w hSw; go_simp; try with_reducible rfl)
       (try simp only [gs])
       refine tl ?_ 7 rfl hh ⟨by rfl, ?_⟩ ?_
       case refine_2 => (intro w hSw; go_simp; try with_reducible rfl)
       (try simp only [gs])
       refine tl ?_ 8 rfl hh ⟨by rfl, ?_⟩ ?_
       case refine_2 => (intro w hSw; go_simp; try with_reducible rfl)
       (try simp only [gs])
       refine tk 9 rfl hh (yieldsIf_load_mid (by rfl) _ _ rfl _ _ rfl _ _ (fun y h => HX.out y h) Tryz.underlying62 rfl (by rw [HEP.out]; exact HCP.out)) ?_
       (try simp only [gs])
       refine tk 10 rfl hh (yieldsIf_load_mid (by rfl) _ _ rfl _ _ rfl _ _ (fun y h => SrS.key h) Tryz.underlying54 rfl (by rw [HKL.out]; exact HCK.out)) ?_
       (try simp only [gs])
       generalize wr.drew = y1 at *
       refine wpAnyH_ready (rs := [11]) (by kernel_rfl) (by simp) (AllReadyH.cons rfl (fun K hK => ?_) AllReadyH.nil)
       rw [if_pos (by rfl)]
       (try simp only [gs])
       go_simp
       refine (hOR.out _).mono ?_
       rintro e y2 ⟨n, rfl, -, hn2, b1⟩
       have hn0 : n = 0 := of_decide_eq_true hn2
       have hz : (n == 0) = true := by simpa using hn0
       clear hn2 hn0
       refine hK.out _ _ (hh.called b1) (fun g1 => ?_)
       clear hK K
       (try simp only [gs])
       refine tk (v := .bool true) 12 rfl g1 (Or.inl ⟨by rfl, ?_⟩) ?_
       case refine_1 => (intro w hSw; go_simp; first | done | rfl)
       (try simp only [gs])
       refine tl ?_ 13 rfl g1 ⟨by rfl, ?_⟩ ?_
       case refine_2 => (intro w hSw; go_simp; try with_reducible rfl)
       (try simp only [gs])
       refine tl ?_ 14 rfl g1 ⟨by rfl, ?_⟩ ?_
       case refine_2 => (intro w hSw; go_simp; try with_reducible rfl)
       (try simp only [gs])
       refine tl ?_ 15 rfl g1 ⟨by rfl, ?_⟩ ?_
       case refine_2 => (intro w hSw; go_simp; try with_reducible rfl)
       (try simp only [gs])
       refine wpAnyH_done (by kernel_rfl) ?_ _
       refine NoPanic.normal ?_
       have HG1 : Hid (SrS w y2 K.k) := g1
       clear g1 hh b1 hz hOR HX
       go_wp2_with fail
       go_ret2
       exact ⟨by rw [HPO.out, HHT.out]; rfl, HG1.out.bel⟩
    · have hnN : hi = N := by omega
      subst hnN
      have HHT : Hid (hitA Pa.n L K.n = false) := by
       show _ = _
       unfold hitA
       rw [HPO.out, List.getElem?_eq_none (by have := HN.out; omega)]
       simp
      go_upto_region 8 with fail
      refine wp_region_noPanic ?_
      refine wp_region_held_drew (S := (fun y => SrS w y K.k)) (by kernel_rfl) (HE.out.drew) (fun hh => ?_)
      refine tl ?_ 0 rfl hh ⟨by rfl, ?_⟩ ?_
      case refine_2 => (intro w hSw; go_simp; try with_reducible rfl)
      (try simp only [gs])
      refine tl ?_ 1 rfl hh ⟨by rfl, ?_⟩ ?_
      case refine_2 => (intro w hSw; go_simp; try with_reducible rfl)
      (try simp only [gs])
      refine tl ?_ 2 rfl hh ⟨by rfl, ?_⟩ ?_
      case refine_2 => (intro w hSw; go_simp; try with_reducible rfl)
      (try simp only [gs])
      refine tk (v := .bool false) 3 rfl hh (Or.inl ⟨by rfl, ?_⟩) ?_
      case refine_1 => (intro w hSw; go_simp; first | done | rfl)
      (try simp only [gs])
      refine tl ?_ 4 rfl hh ⟨by rfl, ?_⟩ ?_
      case refine_2 => (intro w hSw; go_simp; try with_reducible rfl)
      (try simp only [gs])
      refine tk (v := undef) 5 rfl hh (Or.inr ⟨by rfl, rfl⟩) ?_
      (try simp only [gs])
      refine tk (v := undef) 6 rfl hh (Or.inr ⟨by rfl, rfl⟩) ?_
      (try simp only [gs])
      refine tk (v := undef) 7 rfl hh (Or.inr ⟨by rfl, rfl⟩) ?_
      (try simp only [gs])
      refine tk (v := undef) 8 rfl hh (Or.inr ⟨by rfl, rfl⟩) ?_
      (try simp only [gs])
      refine tk (v := undef) 9 rfl hh (Or.inr ⟨by rfl, rfl⟩) ?_
      (try simp only [gs])
      refine tk (v := undef) 10 rfl hh (Or.inr ⟨by rfl, rfl⟩) ?_
      (try simp only [gs])
      refine tk (v := undef) 11 rfl hh (Or.inr ⟨by rfl, rfl⟩) ?_
      (try simp only [gs])
      refine tk (v := undef) 12 rfl hh (Or.inr ⟨by rfl, rfl⟩) ?_
      (try simp only [gs])
      refine tl ?_ 13 rfl hh ⟨by rfl, ?_⟩ ?_
      case refine_2 => (intro w hSw; go_simp; try with_reducible rfl)
      (try simp only [gs])
      refine tl ?_ 14 rfl hh ⟨by rfl, ?_⟩ ?_
      case refine_2 => (intro w hSw; go_simp; try with_reducible rfl)
      (try simp only [gs])
      refine tl ?_ 15 rfl hh ⟨by rfl, ?_⟩ ?_
      case refine_2 => (intro w hSw; go_simp; try with_reducible rfl)
      (try simp only [gs])
      refine wpAnyH_done (by kernel_rfl) ?_ _
      refine NoPanic.normal ?_
      have HG1 : Hid (SrS w wr.drew K.k) := hh
      clear hh
      go_wp2_with fail
      go_ret2
      exact ⟨by rw [HPO.out, HHT.out]; rfl, HG1.out.bel⟩
end
end Go.Proofs.YtdmindhjmjnagaaGreatDoor
