import Derived.Test.YtjhdnpplmlddaaaGreatSi
import Derived.Test.YtjhdnpplmlddaaaGreatB18
/- wayTo of package tree. -/
namespace Go.Proofs.YtjhdnpplmlddaaaGreat
set_option linter.unusedVariables false
open Go.RowKit

def kidAt (l : List Kd) (i : Nat) : Kd := l.getD i ⟨zs 24, 0⟩
theorem kidAt_eq {l : List Kd} {i : Nat} (h : i < l.length) : kidAt l i = l[i] := by simp [kidAt, h]
/-- The kid in which a key stands, if it does. -/
def wayGo (l : List Kd) (K : List UInt8) : Nat → Nat → Nat
  | 0, i => i
  | m + 1, i => if i + 1 < l.length ∧ Op.bytesLess K (keyAt l (i + 1)) = false then wayGo l K m (i + 1) else i
def wayP (l : List Kd) (K : List UInt8) : Nat := wayGo l K l.length 0
theorem wayGo_lt (l : List Kd) (K : List UInt8) : ∀ (m i : Nat), i < l.length → wayGo l K m i < l.length
  | 0, _, h => h
  | m + 1, i, h => by
    rw [wayGo]
    split
    · rename_i q
      exact wayGo_lt l K m (i + 1) q.1
    · exact h
theorem wayP_lt {l : List Kd} (K : List UInt8) (h : 1 ≤ l.length) : wayP l K < l.length := wayGo_lt l K _ 0 (by omega)
structure WT (w y : World) (K : List UInt8) : Prop where
  h : Has y w.heap.size K
  r : HasK y (w.heap.size + 1) nilK
  bel : Below w.heap.size w y
theorem WT.called {w y z : World} {K : List UInt8} (h : WT w y K) (b : Below y.heap.size y z) : WT w z K := ⟨h.h.below b h.h.lt, h.r.below b h.r.lt, h.bel.trans (b.mono h.bel.size)⟩
set_option maxHeartbeats 8000000 in
set_option maxRecDepth 100000 in
theorem wayTo_calls (w : World) (ad : Option Addr) (cap : Nat) (l : List Kd) (h : Els w (.slice ad l.length cap) (l.map Kd.el)) (h1 : 1 ≤ l.length) (K : List UInt8) (hK : K.length = 24) :
    Calls Tryz.prog 43 #[.slice ad l.length cap, kv K] w fun e w' => e = .returned (ev (kidAt l (wayP l K)).el) ∧ Below w.heap.size w w' := by
  have mQ := (els_max h).2
  have HG0 : Hid (∀ i (hi : i < l.length), ∃ g off, ad = some ⟨g, off, none⟩ ∧ g < w.heap.size ∧ w.rangeAt g (off + i * 25) (ec (Kd.el l[i])) ∧ (Kd.el l[i]).Ok) := els_get h
  obtain ⟨g, off, rfl, hg⟩ : ∃ g off, ad = some ⟨g, off, none⟩ ∧ g < w.heap.size := by obtain ⟨g, off, q1, q2, _, _⟩ := HG0.out 0 (by omega); exact ⟨g, off, q1, q2⟩
  have HG : Hid (∀ i (hi : i < l.length), (∀ y, Below w.heap.size w y → y.rangeAt g (off + i * 25) (ec (Kd.el (kidAt l i)))) ∧ (Kd.el (kidAt l i)).Ok ∧ keyAt l i = (Kd.el (kidAt l i)).k) := fun i hi => by
    obtain ⟨g', off', e1, _, hat, ok⟩ := HG0.out i hi
    cases e1
    rw [kidAt_eq hi, keyAt_eq hi]
    exact ⟨fun y hy => range_same hat (hy.block g hg), ok, rfl⟩
  obtain ⟨Q, hQ⟩ : ∃ Q : Nat, Q = l.length := ⟨_, rfl⟩
  have HQ : Hid (Q = l.length) := hQ
  have hmN : (Q : Int) ≤ 9223372036854775807 := by unfold maxLen at mQ; omega
  obtain ⟨IX, hIX⟩ : ∃ IX, IX = wayP l K := ⟨_, rfl⟩
  have HIX : Hid (wayGo l K Q 0 = IX) := (show _ = _ by rw [hIX, hQ, wayP])
  have HQ1 : Hid (1 ≤ Q) := (show 1 ≤ Q by rw [hQ]; exact h1)
  have HK : Hid (K.length = 24) := hK
  have W0 : WT w ((w.alloc (.cells (bc K).toArray 25)).alloc (.cells #[.int .u8 0, .int .u8 0, .int .u8 0, .int .u8 0, .int .u8 0, .int .u8 0, .int .u8 0, .int .u8 0, .int .u8 0, .int .u8 0, .int .u8 0, .int .u8 0, .int .u8 0, .int .u8 0, .int .u8 0, .int .u8 0, .int .u8 0, .int .u8 0, .int .u8 0, .int .u8 0, .int .u8 0, .int .u8 0, .int .u8 0, .int .u8 0, .int .i64 0] 93)) K := ⟨(Has.new w K hK).alloc _, zero_K _ _ (by simp), ((Below.refl _ w).alloc (Nat.le_refl _) _).alloc (by simp) _⟩
  have HW0 : Hid (WT w ((w.alloc (.cells (bc K).toArray 25)).alloc (.cells #[.int .u8 0, .int .u8 0, .int .u8 0, .int .u8 0, .int .u8 0, .int .u8 0, .int .u8 0, .int .u8 0, .int .u8 0, .int .u8 0, .int .u8 0, .int .u8 0, .int .u8 0, .int .u8 0, .int .u8 0, .int .u8 0, .int .u8 0, .int .u8 0, .int .u8 0, .int .u8 0, .int .u8 0, .int .u8 0, .int .u8 0, .int .u8 0, .int .i64 0] 93)) K) := W0
  rw [← hIX, ← hQ]
  clear h mQ HG0 hQ hIX h1 hK W0 hg
  go_enter Tryz.func43, Tryz.ntmps43
  go_upto_region 1 with fail
  generalize (w.alloc (.cells (bc K).toArray 25)).alloc (.cells #[.int .u8 0, .int .u8 0, .int .u8 0, .int .u8 0, .int .u8 0, .int .u8 0, .int .u8 0, .int .u8 0, .int .u8 0, .int .u8 0, .int .u8 0, .int .u8 0, .int .u8 0, .int .u8 0, .int .u8 0, .int .u8 0, .int .u8 0, .int .u8 0, .int .u8 0, .int .u8 0, .int .u8 0, .int .u8 0, .int .u8 0, .int .u8 0, .int .i64 0] 93) = V at *
  go_wp2_with fail
  go_loopg [5] Q (fun m v wr => ∃ i : Nat, i + m = Q ∧ i < Q ∧ v = .int .i64 (i : Int) ∧ Hid (WT w wr K) ∧ Hid (wayGo l K m i = IX))
  case atStart => exact ⟨0, by omega, by have := HQ1.out; omega, rfl, HW0, HIX⟩
  case round =>
    clear HW0 HIX
    obtain ⟨i, him, hiQ, rfl, HW, HGO⟩ := hrel
    cases gk with
    | zero => omega
    | succ m =>
      have hiI : (i : Int) < (Q : Int) := by omega
      have hil : i < l.length := by rw [← HQ.out]; exact hiQ
      have HGO1 : Hid (IX = if i + 1 < l.length ∧ Op.bytesLess K (keyAt l (i + 1)) = false then wayGo l K m (i + 1) else i) := (show _ = _ by rw [← HGO.out, wayGo])
      have HEND : Hid (∀ y, WT w y K → y.rangeAt g (off + i * 25) (ec (Kd.el (kidAt l i)))) := fun y hy => (HG.out i hil).1 y hy.bel
      have HEOK : Hid (Kd.el (kidAt l i)).Ok := (HG.out i hil).2.1
      have hwi : IntKind.i64.wrap ((i : Int) + 1) = (i : Int) + 1 := by rw [IntKind.wrap_i64]; omega
      clear HGO
      by_cases hn : i + 1 < Q
      · have hn1 : (i : Int) + 1 < (Q : Int) := by omega
        have hnl : i + 1 < l.length := by rw [← HQ.out]; exact hn
        have hn3 : ((i : Int) + 1).toNat = i + 1 := by omega
        have hn4 : (0 : Int) ≤ (i : Int) + 1 := by omega
        obtain ⟨hat1, ok1, ek1⟩ := HG.out (i + 1) hnl
        have HRK : Hid (∀ y, WT w y K → y.rangeAt g (off + (i + 1) * 25) (bc (keyAt l (i + 1)))) := fun y hy => by
          rw [ek1]
          exact range_key (hat1 y hy.bel)
        have HLK : Hid ((keyAt l (i + 1)).length = 24) := (show _ = _ by rw [ek1]; exact ok1.len)
        clear hat1 ok1 ek1
        generalize hkk : keyAt l (i + 1) = KK at *
        clear hkk
        cases hls : Op.bytesLess K KK with
        | true =>
          have HFIN : Hid (IX = i) := (show _ = _ by rw [HGO1.out, if_neg (fun q => by rw [hls] at q; cases q.2)])
          clear HGO1
          go_upto_region 2 with fail
          refine wp_region_noPanic ?_
          refine wp_region_held_drew (S := (fun y => WT w y K)) (by kernel_rfl) (HW.out.called ⟨rfl, rfl, rfl, Nat.le_refl _, fun _ _ => rfl⟩) (fun hHeld => ?_)
          refine wpAnyH_take (i := 0) (v := ?_) rfl (by kernel_rfl) (by kernel_rfl) (by kernel_rfl) (fun _ _ _ h => h) (Or.inl ⟨by rfl, ?_⟩) hHeld ?_
          case refine_2 => (intro w hSw; (try dsimp only at hSw); go_simp; try (with_reducible rfl))
          (try simp only [gs])
          refine wpAnyH_take (i := 1) (v := ?_) rfl (by kernel_rfl) (by kernel_rfl) (by kernel_rfl) (fun _ _ _ h => h) (Or.inl ⟨by rfl, ?_⟩) hHeld ?_
          case refine_2 => (intro w hSw; (try dsimp only at hSw); go_simp; try (with_reducible rfl))
          (try simp only [gs])
          refine wpAnyH_take (i := 2) (v := ?_) rfl (by kernel_rfl) (by kernel_rfl) (by kernel_rfl) (fun _ _ _ h => h) (Or.inl ⟨by rfl, ?_⟩) hHeld ?_
          case refine_2 => (intro w hSw; (try dsimp only at hSw); go_simp; try (with_reducible rfl))
          (try simp only [gs])
          refine wpAnyH_take (i := 3) (v := ?_) rfl (by kernel_rfl) (by kernel_rfl) (by kernel_rfl) (fun _ _ _ h => h) (Or.inl ⟨by rfl, ?_⟩) hHeld ?_
          case refine_2 => (intro w hSw; (try dsimp only at hSw); go_simp; try (with_reducible rfl))
          (try simp only [gs])
          refine wpAnyH_take (i := 4) (v := .bool true) rfl (by kernel_rfl) (by kernel_rfl) (by kernel_rfl) (fun _ _ _ h => h) (Or.inl ⟨by rfl, ?_⟩) hHeld ?_
          case refine_1 => (intro w hSw; (try dsimp only at hSw); go_simp; first | done | rfl)
          (try simp only [gs])
          refine wpAnyH_take (i := 5) (v := ?_) rfl (by kernel_rfl) (by kernel_rfl) (by kernel_rfl) (fun _ _ _ h => h) (Or.inl ⟨by rfl, ?_⟩) hHeld ?_
          case refine_2 => (intro w hSw; (try dsimp only at hSw); go_simp; try (with_reducible rfl))
          (try simp only [gs])
          refine wpAnyH_take (i := 6) rfl (by kernel_rfl) (by kernel_rfl) (by kernel_rfl) (fun _ _ _ h => h) (yieldsIf_load_mid (by rfl) _ _ rfl _ _ rfl _ _ (fun _ h => h.h.range) Tryz.underlying25 rfl (by rw [bc_length, HK.out]; exact Tryz.key_info)) hHeld ?_
          (try simp only [gs])
          refine wpAnyH_take (i := 7) (v := ?_) rfl (by kernel_rfl) (by kernel_rfl) (by kernel_rfl) (fun _ _ _ h => h) (Or.inl ⟨by rfl, ?_⟩) hHeld ?_
          case refine_2 => (intro w hSw; (try dsimp only at hSw); go_simp; try (with_reducible rfl))
          (try simp only [gs])
          refine wpAnyH_take (i := 8) (v := ?_) rfl (by kernel_rfl) (by kernel_rfl) (by kernel_rfl) (fun _ _ _ h => h) (Or.inl ⟨by rfl, ?_⟩) hHeld ?_
          case refine_2 => (intro w hSw; (try dsimp only at hSw); go_simp; try (with_reducible rfl))
          (try simp only [gs])
          refine wpAnyH_take (i := 9) (v := ?_) rfl (by kernel_rfl) (by kernel_rfl) (by kernel_rfl) (fun _ _ _ h => h) (Or.inl ⟨by rfl, ?_⟩) hHeld ?_
          case refine_2 => (intro w hSw; (try dsimp only at hSw); go_simp; try (with_reducible rfl))
          (try simp only [gs])
          refine wpAnyH_take (i := 10) (v := ?_) rfl (by kernel_rfl) (by kernel_rfl) (by kernel_rfl) (fun _ _ _ h => h) (Or.inl ⟨by rfl, ?_⟩) hHeld ?_
          case refine_2 => (intro w hSw; (try dsimp only at hSw); go_simp; try (with_reducible rfl))
          (try simp only [gs])
          refine wpAnyH_take (i := 11) (v := ?_) rfl (by kernel_rfl) (by kernel_rfl) (by kernel_rfl) (fun _ _ _ h => h) (Or.inl ⟨by rfl, ?_⟩) hHeld ?_
          case refine_2 => (intro w hSw; (try dsimp only at hSw); go_simp; try (with_reducible rfl))
          (try simp only [gs])
          refine wpAnyH_take (i := 12) rfl (by kernel_rfl) (by kernel_rfl) (by kernel_rfl) (fun _ _ _ h => h) (yieldsIf_load_mid (by rfl) _ _ rfl _ _ rfl _ _ (fun _ h => HRK.out _ h) Tryz.underlying25 rfl (by rw [bc_length, HLK.out]; exact Tryz.key_info)) hHeld ?_
          (try simp only [gs])
          refine wpAnyH_ready (rs := [13]) (by kernel_rfl) (by simp) (AllReadyH.cons rfl (fun K hK => ?_) AllReadyH.nil)
          rw [if_pos (by rfl)]
          (try simp only [gs])
          go_simp
          refine (tless_calls _ _ KK HK.out HLK.out).mono ?_
          rintro e y1 ⟨rfl, b1⟩
          rw [hls]
          refine hK.out _ _ (hHeld.called b1) (fun g1 => ?_)
          clear hK K
          (try simp only [gs])
          refine wpAnyH_take (i := 14) (v := ?_) rfl (by kernel_rfl) (by kernel_rfl) (by kernel_rfl) (fun _ _ _ h => h) (Or.inl ⟨by rfl, ?_⟩) g1 ?_
          case refine_2 => (intro w hSw; (try dsimp only at hSw); go_simp; try (with_reducible rfl))
          (try simp only [gs])
          refine wpAnyH_take (i := 15) (v := ?_) rfl (by kernel_rfl) (by kernel_rfl) (by kernel_rfl) (fun _ _ _ h => h) (Or.inl ⟨by rfl, ?_⟩) g1 ?_
          case refine_2 => (intro w hSw; (try dsimp only at hSw); go_simp; try (with_reducible rfl))
          (try simp only [gs])
          refine wpAnyH_done (by kernel_rfl) ?_ _
          refine NoPanic.normal ?_
          have HWY : Hid (WT w _ K) := g1
          clear HW HG
          go_wp2_with (first
            | (refine load_K _ rfl g (off + i * 25) rfl rfl _ HEOK.out (HEND.out _ HWY.out) ?_)
            | (refine store_K rfl _ _ rfl (w.heap.size + 1) rfl (Kd.el (kidAt l i)) rfl HEOK.out nilK HWY.out.r ?_; intro x1 hu1 tx1 sx1))
          refine ret_K rfl _ _ rfl hu1 rfl ⟨by rw [HFIN.out], ?_⟩
          exact below_touched HWY.out.bel tx1 (by omega) (Nat.le_refl _)
        | false =>
          have HNX : Hid (wayGo l K m (i + 1) = IX) := (show _ = _ by rw [HGO1.out, if_pos ⟨hnl, hls⟩])
          clear HGO1
          go_upto_region 2 with fail
          refine wp_region_noPanic ?_
          refine wp_region_held_drew (S := (fun y => WT w y K)) (by kernel_rfl) (HW.out.called ⟨rfl, rfl, rfl, Nat.le_refl _, fun _ _ => rfl⟩) (fun hHeld => ?_)
          refine wpAnyH_take (i := 0) (v := ?_) rfl (by kernel_rfl) (by kernel_rfl) (by kernel_rfl) (fun _ _ _ h => h) (Or.inl ⟨by rfl, ?_⟩) hHeld ?_
          case refine_2 => (intro w hSw; (try dsimp only at hSw); go_simp; try (with_reducible rfl))
          (try simp only [gs])
          refine wpAnyH_take (i := 1) (v := ?_) rfl (by kernel_rfl) (by kernel_rfl) (by kernel_rfl) (fun _ _ _ h => h) (Or.inl ⟨by rfl, ?_⟩) hHeld ?_
          case refine_2 => (intro w hSw; (try dsimp only at hSw); go_simp; try (with_reducible rfl))
          (try simp only [gs])
          refine wpAnyH_take (i := 2) (v := ?_) rfl (by kernel_rfl) (by kernel_rfl) (by kernel_rfl) (fun _ _ _ h => h) (Or.inl ⟨by rfl, ?_⟩) hHeld ?_
          case refine_2 => (intro w hSw; (try dsimp only at hSw); go_simp; try (with_reducible rfl))
          (try simp only [gs])
          refine wpAnyH_take (i := 3) (v := ?_) rfl (by kernel_rfl) (by kernel_rfl) (by kernel_rfl) (fun _ _ _ h => h) (Or.inl ⟨by rfl, ?_⟩) hHeld ?_
          case refine_2 => (intro w hSw; (try dsimp only at hSw); go_simp; try (with_reducible rfl))
          (try simp only [gs])
          refine wpAnyH_take (i := 4) (v := .bool true) rfl (by kernel_rfl) (by kernel_rfl) (by kernel_rfl) (fun _ _ _ h => h) (Or.inl ⟨by rfl, ?_⟩) hHeld ?_
          case refine_1 => (intro w hSw; (try dsimp only at hSw); go_simp; first | done | rfl)
          (try simp only [gs])
          refine wpAnyH_take (i := 5) (v := ?_) rfl (by kernel_rfl) (by kernel_rfl) (by kernel_rfl) (fun _ _ _ h => h) (Or.inl ⟨by rfl, ?_⟩) hHeld ?_
          case refine_2 => (intro w hSw; (try dsimp only at hSw); go_simp; try (with_reducible rfl))
          (try simp only [gs])
          refine wpAnyH_take (i := 6) rfl (by kernel_rfl) (by kernel_rfl) (by kernel_rfl) (fun _ _ _ h => h) (yieldsIf_load_mid (by rfl) _ _ rfl _ _ rfl _ _ (fun _ h => h.h.range) Tryz.underlying25 rfl (by rw [bc_length, HK.out]; exact Tryz.key_info)) hHeld ?_
          (try simp only [gs])
          refine wpAnyH_take (i := 7) (v := ?_) rfl (by kernel_rfl) (by kernel_rfl) (by kernel_rfl) (fun _ _ _ h => h) (Or.inl ⟨by rfl, ?_⟩) hHeld ?_
          case refine_2 => (intro w hSw; (try dsimp only at hSw); go_simp; try (with_reducible rfl))
          (try simp only [gs])
          refine wpAnyH_take (i := 8) (v := ?_) rfl (by kernel_rfl) (by kernel_rfl) (by kernel_rfl) (fun _ _ _ h => h) (Or.inl ⟨by rfl, ?_⟩) hHeld ?_
          case refine_2 => (intro w hSw; (try dsimp only at hSw); go_simp; try (with_reducible rfl))
          (try simp only [gs])
          refine wpAnyH_take (i := 9) (v := ?_) rfl (by kernel_rfl) (by kernel_rfl) (by kernel_rfl) (fun _ _ _ h => h) (Or.inl ⟨by rfl, ?_⟩) hHeld ?_
          case refine_2 => (intro w hSw; (try dsimp only at hSw); go_simp; try (with_reducible rfl))
          (try simp only [gs])
          refine wpAnyH_take (i := 10) (v := ?_) rfl (by kernel_rfl) (by kernel_rfl) (by kernel_rfl) (fun _ _ _ h => h) (Or.inl ⟨by rfl, ?_⟩) hHeld ?_
          case refine_2 => (intro w hSw; (try dsimp only at hSw); go_simp; try (with_reducible rfl))
          (try simp only [gs])
          refine wpAnyH_take (i := 11) (v := ?_) rfl (by kernel_rfl) (by kernel_rfl) (by kernel_rfl) (fun _ _ _ h => h) (Or.inl ⟨by rfl, ?_⟩) hHeld ?_
          case refine_2 => (intro w hSw; (try dsimp only at hSw); go_simp; try (with_reducible rfl))
          (try simp only [gs])
          refine wpAnyH_take (i := 12) rfl (by kernel_rfl) (by kernel_rfl) (by kernel_rfl) (fun _ _ _ h => h) (yieldsIf_load_mid (by rfl) _ _ rfl _ _ rfl _ _ (fun _ h => HRK.out _ h) Tryz.underlying25 rfl (by rw [bc_length, HLK.out]; exact Tryz.key_info)) hHeld ?_
          (try simp only [gs])
          refine wpAnyH_ready (rs := [13]) (by kernel_rfl) (by simp) (AllReadyH.cons rfl (fun K hK => ?_) AllReadyH.nil)
          rw [if_pos (by rfl)]
          (try simp only [gs])
          go_simp
          refine (tless_calls _ _ KK HK.out HLK.out).mono ?_
          rintro e y1 ⟨rfl, b1⟩
          rw [hls]
          refine hK.out _ _ (hHeld.called b1) (fun g1 => ?_)
          clear hK K
          (try simp only [gs])
          refine wpAnyH_take (i := 14) (v := ?_) rfl (by kernel_rfl) (by kernel_rfl) (by kernel_rfl) (fun _ _ _ h => h) (Or.inl ⟨by rfl, ?_⟩) g1 ?_
          case refine_2 => (intro w hSw; (try dsimp only at hSw); go_simp; try (with_reducible rfl))
          (try simp only [gs])
          refine wpAnyH_take (i := 15) (v := ?_) rfl (by kernel_rfl) (by kernel_rfl) (by kernel_rfl) (fun _ _ _ h => h) (Or.inl ⟨by rfl, ?_⟩) g1 ?_
          case refine_2 => (intro w hSw; (try dsimp only at hSw); go_simp; try (with_reducible rfl))
          (try simp only [gs])
          refine wpAnyH_done (by kernel_rfl) ?_ _
          refine NoPanic.normal ?_
          go_wp2_with fail
          go_roundg m
          case measure => omega
          case rel => exact ⟨i + 1, by omega, hn, congrArg _ (by first | omega | (unfold wrap64; omega)), g1, HNX⟩
      · have hn1 : ¬ (i : Int) + 1 < (Q : Int) := by omega
        have HFIN : Hid (IX = i) := (show _ = _ by rw [HGO1.out, if_neg (fun q => hn (by rw [HQ.out]; exact q.1))])
        clear HGO1 hn
        go_upto_region 2 with fail
        refine wp_region_noPanic ?_
        refine wp_region_held_drew (S := (fun y => WT w y K)) (by kernel_rfl) (HW.out.called ⟨rfl, rfl, rfl, Nat.le_refl _, fun _ _ => rfl⟩) (fun hHeld => ?_)
        refine wpAnyH_take (i := 0) (v := ?_) rfl (by kernel_rfl) (by kernel_rfl) (by kernel_rfl) (fun _ _ _ h => h) (Or.inl ⟨by rfl, ?_⟩) hHeld ?_
        case refine_2 => (intro w hSw; (try dsimp only at hSw); go_simp; try (with_reducible rfl))
        (try simp only [gs])
        refine wpAnyH_take (i := 1) (v := ?_) rfl (by kernel_rfl) (by kernel_rfl) (by kernel_rfl) (fun _ _ _ h => h) (Or.inl ⟨by rfl, ?_⟩) hHeld ?_
        case refine_2 => (intro w hSw; (try dsimp only at hSw); go_simp; try (with_reducible rfl))
        (try simp only [gs])
        refine wpAnyH_take (i := 2) (v := ?_) rfl (by kernel_rfl) (by kernel_rfl) (by kernel_rfl) (fun _ _ _ h => h) (Or.inl ⟨by rfl, ?_⟩) hHeld ?_
        case refine_2 => (intro w hSw; (try dsimp only at hSw); go_simp; try (with_reducible rfl))
        (try simp only [gs])
        refine wpAnyH_take (i := 3) (v := ?_) rfl (by kernel_rfl) (by kernel_rfl) (by kernel_rfl) (fun _ _ _ h => h) (Or.inl ⟨by rfl, ?_⟩) hHeld ?_
        case refine_2 => (intro w hSw; (try dsimp only at hSw); go_simp; try (with_reducible rfl))
        (try simp only [gs])
        refine wpAnyH_take (i := 4) (v := .bool false) rfl (by kernel_rfl) (by kernel_rfl) (by kernel_rfl) (fun _ _ _ h => h) (Or.inl ⟨by rfl, ?_⟩) hHeld ?_
        case refine_1 => (intro w hSw; (try dsimp only at hSw); go_simp; first | done | rfl)
        (try simp only [gs])
        refine wpAnyH_take (i := 5) (v := ?_) rfl (by kernel_rfl) (by kernel_rfl) (by kernel_rfl) (fun _ _ _ h => h) (Or.inl ⟨by rfl, ?_⟩) hHeld ?_
        case refine_2 => (intro w hSw; (try dsimp only at hSw); go_simp; try (with_reducible rfl))
        (try simp only [gs])
        refine wpAnyH_take (i := 6) (v := undef) rfl (by kernel_rfl) (by kernel_rfl) (by kernel_rfl) (fun _ _ _ h => h) (Or.inr ⟨by rfl, rfl⟩) hHeld ?_
        (try simp only [gs])
        refine wpAnyH_take (i := 7) (v := undef) rfl (by kernel_rfl) (by kernel_rfl) (by kernel_rfl) (fun _ _ _ h => h) (Or.inr ⟨by rfl, rfl⟩) hHeld ?_
        (try simp only [gs])
        refine wpAnyH_take (i := 8) (v := undef) rfl (by kernel_rfl) (by kernel_rfl) (by kernel_rfl) (fun _ _ _ h => h) (Or.inr ⟨by rfl, rfl⟩) hHeld ?_
        (try simp only [gs])
        refine wpAnyH_take (i := 9) (v := undef) rfl (by kernel_rfl) (by kernel_rfl) (by kernel_rfl) (fun _ _ _ h => h) (Or.inr ⟨by rfl, rfl⟩) hHeld ?_
        (try simp only [gs])
        refine wpAnyH_take (i := 10) (v := undef) rfl (by kernel_rfl) (by kernel_rfl) (by kernel_rfl) (fun _ _ _ h => h) (Or.inr ⟨by rfl, rfl⟩) hHeld ?_
        (try simp only [gs])
        refine wpAnyH_take (i := 11) (v := undef) rfl (by kernel_rfl) (by kernel_rfl) (by kernel_rfl) (fun _ _ _ h => h) (Or.inr ⟨by rfl, rfl⟩) hHeld ?_
        (try simp only [gs])
        refine wpAnyH_take (i := 12) (v := undef) rfl (by kernel_rfl) (by kernel_rfl) (by kernel_rfl) (fun _ _ _ h => h) (Or.inr ⟨by rfl, rfl⟩) hHeld ?_
        (try simp only [gs])
        refine wpAnyH_take (i := 13) (v := undef) rfl (by kernel_rfl) (by kernel_rfl) (by kernel_rfl) (fun _ _ _ h => h) (Or.inr ⟨by rfl, rfl⟩) hHeld ?_
        (try simp only [gs])
        refine wpAnyH_take (i := 14) (v := undef) rfl (by kernel_rfl) (by kernel_rfl) (by kernel_rfl) (fun _ _ _ h => h) (Or.inr ⟨by rfl, rfl⟩) hHeld ?_
        (try simp only [gs])
        refine wpAnyH_take (i := 15) (v := ?_) rfl (by kernel_rfl) (by kernel_rfl) (by kernel_rfl) (fun _ _ _ h => h) (Or.inl ⟨by rfl, ?_⟩) hHeld ?_
        case refine_2 => (intro w hSw; (try dsimp only at hSw); go_simp; try (with_reducible rfl))
        (try simp only [gs])
        refine wpAnyH_done (by kernel_rfl) ?_ _
        refine NoPanic.normal ?_
        have HWY : Hid (WT w _ K) := hHeld
        clear HW HG
        go_wp2_with (first
          | (refine load_K _ rfl g (off + i * 25) rfl rfl _ HEOK.out (HEND.out _ HWY.out) ?_)
          | (refine store_K rfl _ _ rfl (w.heap.size + 1) rfl (Kd.el (kidAt l i)) rfl HEOK.out nilK HWY.out.r ?_; intro x1 hu1 tx1 sx1))
        refine ret_K rfl _ _ rfl hu1 rfl ⟨by rw [HFIN.out], ?_⟩
        exact below_touched HWY.out.bel tx1 (by omega) (Nat.le_refl _)
end Go.Proofs.YtjhdnpplmlddaaaGreat
