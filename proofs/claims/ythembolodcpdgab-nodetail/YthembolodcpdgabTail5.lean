/- NodeTail, walked. -/
import Derived.Test.YthembolodcpdgabNodV
import Derived.Test.YthembolodcpdgabNodX
import Derived.Deep.LoopGhost
namespace Go.Proofs.Ythembolodcpdgab
set_option linter.unusedVariables false
open Go.RowKit

theorem rd_any (x : Nod) (hk : Keyed x) (hr : rightN x = true) (Z : List UInt8) : rdN (encB x ++ Z) = x ∧ rdEnd (encB x ++ Z) = ⟨Z, false⟩ := by
  have F := fits hr
  have hl0 := F.l0
  have hl1 := F.l1
  have hnp := F.np
  have hnk := F.nk
  have eL : encB x ++ Z = [87, 84] ++ (be x.lv.toNat 1 ++ (be (x.ps.length + x.ks.length) 1 ++ (encP x.ps ++ encK x.ks ++ Z))) := by
    rw [encB, encH]
    simp [List.append_assoc]
  rw [eL]
  have t2 : (s0 ([87, 84] ++ (be x.lv.toNat 1 ++ (be (x.ps.length + x.ks.length) 1 ++ (encP x.ps ++ encK x.ks ++ Z))))).take 2 = ⟨be x.lv.toNat 1 ++ (be (x.ps.length + x.ks.length) 1 ++ (encP x.ps ++ encK x.ks ++ Z)), false⟩ := by rw [s0, take_app _ _ 2 rfl]
  generalize [87, 84] ++ (be x.lv.toNat 1 ++ (be (x.ps.length + x.ks.length) 1 ++ (encP x.ps ++ encK x.ks ++ Z))) = L at *
  have hlv : lvOf L = x.lv.toNat := by rw [lvOf, t2, got_app _ _ 1 (be_len_int _ 1 1 rfl), be1_num (by omega)]
  have e2 : s2 L = ⟨be (x.ps.length + x.ks.length) 1 ++ (encP x.ps ++ encK x.ks ++ Z), false⟩ := by rw [s2, t2, take_app _ _ 1 (be_len_int _ 1 1 rfl)]
  have n1 : num ((s2 L).got 1) = x.ps.length + x.ks.length := by
    rw [e2, got_app _ _ 1 (be_len_int _ 1 1 rfl)]
    refine be1_num ?_
    omega
  have t3 : (s2 L).take 1 = ⟨encP x.ps ++ encK x.ks ++ Z, false⟩ := by rw [e2, take_app _ _ 1 (be_len_int _ 1 1 rfl)]
  rw [rdN, rdEnd, hlv]
  rcases F.one with ⟨z, e, _⟩ | ⟨z, e, _⟩
  · obtain ⟨q1, q2⟩ := readsP_enc Z x.ps hk.1 F.vs
    have z' : x.lv.toNat = 0 := by omega
    rw [if_pos z', if_pos z', psOf, endP, n1, t3, e]
    have e3 : encP x.ps ++ encK [] ++ Z = encP x.ps ++ Z := by simp [encK]
    simp only [List.length_nil, Nat.add_zero]
    rw [if_neg (by omega), if_neg (by omega), e3, q1, q2]
    obtain ⟨lv, ps, ks⟩ := x
    simp only at e z
    subst e z
    exact ⟨rfl, rfl⟩
  · obtain ⟨q1, q2⟩ := readsK_enc Z x.ks hk.2 F.bs
    have z' : ¬ x.lv.toNat = 0 := by omega
    rw [if_neg z', if_neg z', ksOf, endK, n1, t3, e]
    have e3 : encP [] ++ encK x.ks ++ Z = encK x.ks ++ Z := by simp [encP]
    simp only [List.length_nil, Nat.zero_add]
    rw [if_neg (by omega), if_neg (by omega), e3, q1, q2]
    have e4 : ((x.lv.toNat : Nat) : Int) = x.lv := by omega
    rw [e4]
    obtain ⟨lv, ps, ks⟩ := x
    simp only at e
    subst e
    exact ⟨rfl, rfl⟩
/-- A byte behind what a node has. -/
theorem tail_none (x : Nod) (hk : Keyed x) (hr : rightN x = true) (r : Nat) (c : UInt8) (hc : ¬ c = 0) (h : (encB x).length + r < 512) : ofN ((enc x).set ((encB x).length + r) c) = none := by
  have e : (enc x).set ((encB x).length + r) c = encB x ++ (List.replicate (512 - (encB x).length) (0 : UInt8)).set r c := by
    rw [enc, List.set_append_right _ _ (by omega), Nat.add_sub_cancel_left]
  rw [e, ofN, if_neg]
  rintro ⟨_, _, hz, _⟩
  rw [(rd_any x hk hr _).2] at hz
  simp only [Bool.not_false, Bool.true_and, List.all_eq_true, beq_iff_eq] at hz
  exact hc (hz c (List.mem_iff_getElem.2 ⟨r, by simp; omega, by simp⟩))
theorem enc_tail (x : Nod) (i : Nat) (h : (encB x).length ≤ i) (h2 : i < 512) : (bc (enc x))[i]? = some (.int .u8 0) := by
  simp only [bc, enc, List.getElem?_map]
  rw [List.getElem?_append_right h, List.getElem?_replicate, if_pos (by omega)]
  rfl
theorem encP_step (l : List Pr) (k : Nat) (hk : k < l.length) (hl : ∀ p ∈ l, p.k.length = 24) : (encP (l.take (k + 1))).length = (encP (l.take k)).length + 25 + (l[k]).s.size := by
  rw [List.take_succ_eq_append_getElem hk, encP, List.flatMap_append, List.length_append]
  have := hl l[k] (List.getElem_mem _)
  simp [encP, be_length, this]
  omega
theorem encB_length (x : Nod) (hk : Keyed x) : (encB x).length = 4 + 28 * x.ks.length + (encP x.ps).length := by
  rw [encB, List.length_append, List.length_append, encH_length, encK_length _ hk.2]
  omega
set_option maxHeartbeats 16000000 in
set_option maxRecDepth 100000 in
theorem tail5_walk (w : World) (X : Nod) (pv qv : Value) (at_ : Int) (t : UInt8) (hs : Parts w X pv qv) (hn1 : NilOk pv) (hn2 : NilOk qv) : Calls Try.prog 3 #[nv X pv qv, .int .i64 at_, .int .u8 (t.toNat : Int)] w fun e w' => e = .returned (.bool true) ∧ Below w.heap.size w w' := by
  have HU0 : Hid (HasN (w.alloc (.cells (nc X pv qv) 25)) w.heap.size X pv qv) := HasN.new w X pv qv _ rfl hs.p.one hs.q.one
  have B0 : Below w.heap.size w (w.alloc (.cells (nc X pv qv) 25)) := (Below.refl _ w).alloc (Nat.le_refl _) _
  have HS : Hid (Parts w X pv qv) := hs
  have HNI : Hid (NilOk pv ∧ NilOk qv) := ⟨hn1, hn2⟩
  clear hs hn1 hn2
  go_enter Try.func3, Try.ntmps3
  go_upto_region 2 with (go_at_call 4; refine (shown_calls _).mono ?_; rintro e w1 ⟨rfl, b1⟩)
  have U1 := HU0.out.below b1 (by simp)
  have B1 : Below w.heap.size w w1 := B0.trans (b1.mono (by simp))
  have s1 := b1.size
  simp at s1
  have S1 : Parts w1 X pv qv := HS.out.below B1
  have HU1 : Hid (HasN w1 w.heap.size X pv qv) := U1
  have HC : Hid (Calls Try.prog 5 #[nv X pv qv] w1 (CutTo w1 X)) := cut_calls w1 X pv qv S1 HNI.out.1 HNI.out.2
  clear b1 U1 HU0 B0 HS S1
  go_upto_region 3 with (first
    | (refine load_node _ rfl w.heap.size rfl rfl _ _ _ HU1.out ?_)
    | (go_at_call 5; refine HC.out.mono ?_; rintro e w2 ⟨tp, tq, rfl, ep2, eq2, b2⟩)
    | (refine store_node rfl _ _ rfl w.heap.size rfl (cutN X) tp tq rfl ep2.els.one eq2.els.one X pv qv (HU1.out.below b2 HU1.out.lt) ?_; intro x2 hu2 tx2 sx2))
  have B2 : Below w.heap.size w x2 := below_touched (B1.trans (b2.mono B1.size)) tx2 (Nat.le_refl _) (Nat.le_refl _)
  have hsz2 := tx2.size
  have P2 : Parts x2 (cutN X) tp tq := ⟨(ep2.kept (y := x2) (fun k hk hl => tx2.block k hl (by omega) (by simp)) hsz2).els, (eq2.kept (y := x2) (fun k hk hl => tx2.block k hl (by omega) (by simp)) hsz2).els⟩
  have H2 : Held w x2 [(w.heap.size, cutN X, tp, tq)] [] [(cutN X, tp, tq)] := ⟨B2, (fun e he => by rcases List.mem_singleton.1 he with rfl; exact hu2), (fun e he => by cases he), (fun e he => by rcases List.mem_singleton.1 he with rfl; exact P2)⟩
  clear HU1 B1 s1 b2 ep2 eq2 hu2 tx2 sx2 B2 HC P2 hsz2 HNI
  generalize cutN X = T at *
  have u2 := H2.u (w.heap.size, T, tp, tq) (by simp)
  have hR := right_calls x2 T tp tq (H2.s (T, tp, tq) (by simp))
  cases hr : rightN T with
  | false =>
    rw [hr] at hR
    go_wp2_with (first
      | (refine load_node _ rfl w.heap.size rfl rfl _ _ _ u2 ?_)
      | (go_at_call 6; refine hR.mono ?_; rintro e w4 ⟨rfl, b4⟩))
    go_ret
    exact ⟨rfl, (H2.called b4).bel⟩
  | true =>
    rw [hr] at hR
    have HK : Hid (Keyed T) := (H2.s (T, tp, tq) (by simp)).keyed
    have HF : Hid (Fits T) := fits hr
    have HRR : Hid (rightN T = true) := hr
    have PT : Parts x2 T tp tq := H2.s (T, tp, tq) (by simp)
    obtain ⟨ap, cp, rfl⟩ := PT.lenP
    obtain ⟨aq, cq, rfl⟩ := PT.lenQ
    clear PT
    go_upto_region 5 with (first
      | (refine load_node _ rfl w.heap.size rfl rfl _ _ _ u2 ?_)
      | (go_at_call 6; refine hR.mono ?_; rintro e w3 ⟨rfl, b3⟩))
    have H3 := H2.called b3
    clear H2 b3 u2 hR hr
    obtain ⟨k0, k1, k2⟩ := (H3.u (w.heap.size, T, .slice ap T.ps.length cp, .slice aq T.ks.length cq) (by simp)).cells
    have hnk := HF.out.nk
    have hnp := HF.out.np
    have HEB : Hid ((encB T).length = 4 + 28 * T.ks.length + (encP T.ps).length ∧ (encB T).length ≤ 508) := ⟨encB_length T HK.out, HF.out.encB HK.out⟩
    have HST : Hid (∀ k (hk : k < T.ps.length), (encP (T.ps.take (k + 1))).length = (encP (T.ps.take k)).length + 25 + (T.ps[k]).s.size ∧ (T.ps[k]).s.size ≤ 40) := fun k hk => ⟨encP_step T.ps k hk HK.out.1, HF.out.vs _ (List.getElem_mem _)⟩
    have HLE : Hid (∀ k, (encP (T.ps.take k)).length ≤ 455) := fun k => by
      have := encP_length (T.ps.take k) (fun p hp => HK.out.1 p (List.mem_of_mem_take hp)) (fun p hp => HF.out.vs p (List.mem_of_mem_take hp))
      rw [List.length_take] at this
      have := HF.out.np
      omega
    have HG : Hid (∀ i (hi : i < T.ps.length), ∃ g off, ap = some ⟨g, off, none⟩ ∧ g < w3.heap.size ∧ w3.rangeAt g (off + i * 25) (ec (Pr.el T.ps[i])) ∧ (Pr.el T.ps[i]).Ok) := els_get (H3.s (T, .slice ap T.ps.length cp, .slice aq T.ks.length cq) (by simp)).p
    obtain ⟨N, hN⟩ : ∃ N : Nat, T.ps.length = N := ⟨_, rfl⟩
    obtain ⟨M, hM⟩ : ∃ M : Nat, T.ks.length = M := ⟨_, rfl⟩
    have HNM : Hid (T.ps.length = N ∧ T.ks.length = M) := ⟨hN, hM⟩
    rw [hN] at k1 hnp H3
    rw [hM] at k2 hnk H3
    clear hN hM k0
    rw [HNM.out.1, HNM.out.2]
    go_wp2_with fail
    go_loopg [8, 9] N (fun g s i wr => ∃ k u : Nat, k + g = N ∧ i = .int .i64 (k : Int) ∧ s = .int .i64 (u : Int) ∧ wr = w3 ∧ Hid (u = 4 + 28 * M + (encP (T.ps.take k)).length))
    case atStart => exact ⟨0, 4 + 28 * M, by omega, rfl, by go_num, rfl, (show _ = _ by simp [encP])⟩
    case round =>
      obtain ⟨k, u, hkg, rfl, rfl, rfl, HU⟩ := hrel
      have hle := HLE.out k
      have hu : u ≤ 1000 := by have := HU.out; omega
      have huI : (u : Int) ≤ 1000 := by omega
      clear hle
      cases gk with
      | succ g =>
        have hlt : k < N := by omega
        have hltI : (k : Int) < (N : Int) := by omega
        have hk0 : (0 : Int) ≤ (k : Int) := by omega
        have hkp : k < T.ps.length := by rw [HNM.out.1]; exact hlt
        obtain ⟨g0, off, rfl, hg0, hat, okA⟩ := HG.out k hkp
        obtain ⟨hst, hsz⟩ := HST.out k hkp
        have c24 : wr.cell? ⟨g0, off + k * 25 + 24, none⟩ = some (.string (T.ps[k]).s) := range_val hat okA
        have HU2 : Hid (u + 25 + (T.ps[k]).s.size = 4 + 28 * M + (encP (T.ps.take (k + 1))).length) := (show _ = _ by rw [hst, HU.out]; omega)
        clear hat hst HU
        generalize (T.ps[k]).s = sk at *
        go_wp2_with fail
        go_roundg g
        case measure => omega
        case rel => exact ⟨k + 1, u + 25 + sk.size, by omega, by go_num, by go_num, rfl, HU2⟩
      | zero =>
        have hkN : k = N := by omega
        subst hkN
        have HU2 : Hid (u = (encB T).length) := (show _ = _ by
          have e1 := HU.out
          have e2 := HEB.out.1
          have e3 := HNM.out
          rw [List.take_of_length_le (by omega)] at e1
          omega)
        have hu8 : u ≤ 508 := by rw [HU2.out]; exact HEB.out.2
        have u3 := H3.u (w.heap.size, T, .slice ap k cp, .slice aq M cq) (by simp)
        have hB := bytes_nod (H3.s (T, .slice ap k cp, .slice aq M cq) (by simp))
        rw [HRR.out] at hB
        clear HU HST HLE HG hu huI
        have huI : (u : Int) ≤ 508 := by omega
        go_upto_region 11 with (first
          | (refine load_node _ rfl w.heap.size rfl rfl _ _ _ u3 ?_)
          | (go_at_call 7; refine hB.mono ?_; rintro e w4 ⟨b4, ⟨hf, _⟩ | ⟨_, a, c, rfl, ow4, by4⟩⟩; · cases hf))
        have B4 : Below w.heap.size w w4 := (H3.called b4).bel
        have s4 := b4.size
        have hws : w.heap.size ≤ wr.heap.size := H3.bel.size
        clear H3 b4 u3 hB k1 k2
        have HL : Hid ((enc T).length = 512) := HF.out.enc HK.out
        obtain ⟨hq, hc512, hform⟩ := byt_form by4
        clear hq
        obtain ⟨g0, rfl⟩ : ∃ g0, a = some ⟨g0, 0, none⟩ := by
          rcases ow4.2 with ⟨_, h0⟩ | ⟨g, cap, cur, e, _⟩
          · cases h0
          · cases e; exact ⟨g, rfl⟩
        have OW : Hid (w4.ownsRow wr.heap.size 5 1 (.slice (some ⟨g0, 0, none⟩) 512 c) 512 (bc (enc T))) := ow4
        clear ow4 by4 hform
        have HBS : Hid (w.heap.size ≤ wr.heap.size ∧ wr.heap.size ≤ w4.heap.size) := ⟨hws, s4⟩
        clear hws s4
        generalize wr.heap.size = bs at *
        go_upto_region 14 with fail
        go_loopg [12] (512 - u) (fun g i wy => ∃ j : Nat, j + g = 512 ∧ u ≤ j ∧ i = .int .i64 (j : Int) ∧ wy = w4)
        case atStart => exact ⟨u, by omega, by omega, rfl, rfl⟩
        case round =>
          obtain ⟨j, hjg, huj, rfl, rfl⟩ := hrel
          cases gk with
          | succ g =>
            have hj5 : (j : Int) < 512 := by omega
            have hj0 : (0 : Int) ≤ (j : Int) := by omega
            have cj : wr.cell? ⟨g0, j, none⟩ = some (.int .u8 0) := by
              rw [OW.out.cellAt j (by omega)]
              exact enc_tail T j (by rw [← HU2.out]; exact huj) (by omega)
            go_wp2_with fail
            go_roundg g
            case measure => omega
            case rel => exact ⟨j + 1, by omega, by omega, by go_num, rfl⟩
          | zero =>
            have hj : j = 512 := by omega
            subst hj
            have huq : ((u : Int) == 512) = false := by simp; omega
            by_cases ht : t = 0
            · subst ht
              have e0 : ((0 : UInt8).toNat : Int) = 0 := rfl
              rw [e0]
              go_wp2_with fail
              go_ret
              exact ⟨rfl, B4⟩
            have ht0 : ((t.toNat : Int) == 0) = false := by
              have : t.toNat ≠ 0 := fun e => ht (UInt8.toNat_inj.1 (by simpa using e))
              simp
              omega
            have HT : Hid (¬ t = 0) := ht
            clear ht
            go_upto_region 20 with fail
            obtain ⟨D, hD⟩ : ∃ D : Nat, (512 : Int) - (u : Int) = (D : Int) := ⟨512 - u, by omega⟩
            have hD0 : ((D : Int) == 0) = false := by simp; omega
            have hD1 : ¬ (D : Int) = 0 := by omega
            obtain ⟨r, hr⟩ : ∃ r : Nat, (at_ % 65536) % (D : Int) = (r : Int) := ⟨((at_ % 65536) % (D : Int)).toNat, by have := Int.emod_nonneg (at_ % 65536) hD1; omega⟩
            have hrD : r < D := by have := Int.emod_lt_of_pos (at_ % 65536) (show (0 : Int) < (D : Int) by omega); omega
            have m1 := and65535 at_
            have m2 : Int.tmod (at_ % 65536) (D : Int) = (r : Int) := by rw [Int.tmod_eq_emod_of_nonneg (by omega)]; exact hr
            obtain ⟨J, hJ⟩ : ∃ J : Nat, J = u + r := ⟨_, rfl⟩
            have hur : (u : Int) + (r : Int) = (J : Int) := by omega
            have hur5 : (J : Int) < 512 := by omega
            have hur0 : (0 : Int) ≤ (J : Int) := by omega
            have HJ : Hid (J = u + r) := hJ
            have HUR : Hid (J < 512) := (show J < 512 by omega)
            clear hJ
            have HRS : Hid (ofN ((enc T).set J t) = none) := (show _ = _ by
              have := tail_none T HK.out HRR.out r t HT.out (by rw [← HU2.out, ← HJ.out]; exact HUR.out)
              rw [← HU2.out, ← HJ.out] at this
              exact this)
            have OW9 : Hid ((wr.setCell ⟨g0, J, none⟩ (.int .u8 (t.toNat : Int))).ownsRow bs 5 1 (.slice (some ⟨g0, 0, none⟩) 512 c) 512 (bc ((enc T).set J t))) := (by
              have := (OW.out.stored J (.int .u8 (t.toNat : Int))).1
              have e : (bc (enc T)).set J (.int .u8 (t.toNat : Int)) = bc ((enc T).set J t) := by simp only [bc, List.map_set]
              rw [e] at this
              exact this)
            have cc : ∃ v, wr.cell? ⟨g0, J, none⟩ = some v := ⟨_, by
              rw [OW.out.cellAt J HUR.out]
              exact enc_tail T J (by rw [← HU2.out, HJ.out]; omega) HUR.out⟩
            obtain ⟨vv, cc⟩ := cc
            have ff : wr.frozen? ⟨g0, J, none⟩ = false := OW.out.frozenAt J
            have B9 : Below w.heap.size w (wr.setCell ⟨g0, J, none⟩ (.int .u8 (t.toNat : Int))) := B4.setCell (by have := (OW.out.lt g0 rfl).1; have := HBS.out.1; simp; omega) _
            clear hr
            go_upto_region 21 with fail
            generalize wr.setCell ⟨g0, J, none⟩ (.int .u8 (t.toNat : Int)) = x9 at *
            have hO := of_byt (own_byt OW9.out) (by simp; have := HL.out; omega)
            rw [HRS.out] at hO
            clear OW OW9 cc ff
            have en : codeN none = 12 := rfl
            go_wp2_with (first
              | (go_at_call 8; refine hO.mono ?_; rintro e w5 ⟨pv5, qv5, rfl, pa5, b5⟩)
              | (refine store_node rfl _ _ rfl w5.heap.size rfl nilN pv5 qv5 rfl pa5.p.one pa5.q.one nilN (.slice none 0 0) (.slice none 0 0) (HasN.new w5 nilN _ _ _ rfl rfl rfl) ?_; intro x5 hu5 tx5 sx5))
            go_ret
            exact ⟨rfl, below_touched ((B9.trans (b5.mono B9.size)).alloc (by have := B9.size; have := b5.size; omega) _) tx5 (by have := B9.size; have := b5.size; omega) (Nat.le_refl _)⟩
theorem tail5_walk' (w : World) (X : Nod) (pv qv : Value) (at_ t : Int) (hs : Parts w X pv qv) (h1 : NilOk pv) (h2 : NilOk qv) (ht : 0 ≤ t ∧ t ≤ 255) : Calls Try.prog 3 #[nv X pv qv, .int .i64 at_, .int .u8 t] w fun e w' => e = .returned (.bool true) ∧ Below w.heap.size w w' := by
  have e : t = ((UInt8.ofNat t.toNat).toNat : Int) := by
    rw [UInt8.toNat_ofNat']
    omega
  rw [e]
  exact tail5_walk w X pv qv at_ _ hs h1 h2
end Go.Proofs.Ythembolodcpdgab
