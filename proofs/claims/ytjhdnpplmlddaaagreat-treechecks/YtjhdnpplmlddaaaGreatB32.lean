import Derived.Test.YtjhdnpplmlddaaaGreatSi
import Derived.Test.YtjhdnpplmlddaaaGreatB31
/- merge of package tree. -/
namespace Go.Proofs.YtjhdnpplmlddaaaGreat
set_option linter.unusedVariables false
open Go.RowKit

abbrev mgP := mergeP Pq.n Cq.n Cq.mk'
abbrev chP := changedP Pq.n Cq.n Cq.mk'
/-- Where merge's loop stands: the pairs that are left (in slots of the world w), the row of those that are done. -/
structure MgS (w y : World) (pv av : Value) (P Rr A : List Pq) (C : List Cq) (i : Nat) (ch : Bool) : Prop where
  bel : Below w.heap.size w y
  rest : SlB encQ w w.heap.size pv Rr
  own : Own encQ 89 y w.heap.size av A
  all : A ++ mgP Rr (C.drop i) = mgP P C
  chg : (ch || chP Rr (C.drop i)) = chP P C
  len : A.length + Rr.length ≤ P.length + i
theorem MgS.called {w y z : World} {pv av : Value} {P Rr A : List Pq} {C : List Cq} {i : Nat} {ch : Bool} (h : MgS w y pv av P Rr A C i ch) (b : Below y.heap.size y z) : MgS w z pv av P Rr A C i ch :=
  ⟨h.bel.trans (b.mono h.bel.size), h.rest, h.own.below b, h.all, h.chg, h.len⟩
theorem low_len (Rr : List Pq) (x : Int) : (lowP Pq.n Rr x).length ≤ Rr.length := by
  have := congrArg List.length (low_high Pq.n Rr x)
  rw [List.length_append] at this
  omega
theorem low_take (Rr : List Pq) (x : Int) : Rr.take (lowP Pq.n Rr x).length = lowP Pq.n Rr x := by
  conv => lhs; rw [← low_high Pq.n Rr x]
  rw [List.take_left']
  rw [low_high]
theorem low_drop (Rr : List Pq) (x : Int) : Rr.drop (lowP Pq.n Rr x).length = highP Pq.n Rr x := by
  have h := low_high Pq.n Rr x
  conv => lhs; arg 2; rw [← h]
  rw [List.drop_left]
/-- Below the place where they end all are less; there none is. -/
theorem low_at (Rr : List Pq) (x : Int) (j : Nat) (hj : j < (lowP Pq.n Rr x).length) (hR : j < Rr.length) : decide (Rr[j].n < x) = true := by
  have h1 : Rr[j] ∈ lowP Pq.n Rr x := by
    rw [← low_take, List.mem_iff_getElem]
    exact ⟨j, by rw [List.length_take]; omega, by rw [List.getElem_take]⟩
  simpa using low_lt Pq.n _ h1
theorem low_end (Rr : List Pq) (x : Int) (hR : (lowP Pq.n Rr x).length < Rr.length) : decide ((Rr[(lowP Pq.n Rr x).length]).n < x) = false := by
  have h := low_drop Rr x
  rw [List.drop_eq_getElem_cons hR] at h
  have h2 : ∀ (l : List Pq) (p : Pq) (r : List Pq), highP Pq.n l x = p :: r → decide (p.n < x) = false := by
    intro l
    induction l with
    | nil => intro p r e; cases e
    | cons a l ih =>
      intro p r e
      unfold highP at e
      rw [List.dropWhile_cons] at e
      split at e
      · exact ih p r e
      · rename_i q
        cases e
        simpa using q
  exact h2 _ _ _ h.symm
theorem mg_cons (Rr : List Pq) (c : Cq) (l : List Cq) : mgP Rr (c :: l) = lowP Pq.n Rr c.n ++ (c.mk'.toList ++ mgP (strikeP Pq.n (highP Pq.n Rr c.n) c.n) l) := rfl
theorem ch_cons (Rr : List Pq) (c : Cq) (l : List Cq) : chP Rr (c :: l) = ((hitP Pq.n (highP Pq.n Rr c.n) c.n || c.mk'.isSome) || chP (strikeP Pq.n (highP Pq.n Rr c.n) c.n) l) := rfl
theorem strike_len (l : List Pq) (x : Int) : (strikeP Pq.n l x).length ≤ l.length := by
  cases l with
  | nil => exact Nat.le_refl _
  | cons p r =>
    rw [strike_cons]
    split <;> simp
theorem MgS.next {w y z : World} {pv av pv' av' : Value} {P Rr A : List Pq} {C : List Cq} {i : Nat} {ch ch' : Bool} {c : Cq} (h : MgS w y pv av P Rr A C i ch) (hd : C.drop i = c :: C.drop (i + 1))
    (hb : Below w.heap.size w z) (hr : SlB encQ w w.heap.size pv' (strikeP Pq.n (highP Pq.n Rr c.n) c.n)) (ho : Own encQ 89 z w.heap.size av' ((A ++ lowP Pq.n Rr c.n) ++ c.mk'.toList)) (hc : ch' = (ch || (hitP Pq.n (highP Pq.n Rr c.n) c.n || c.mk'.isSome))) :
    MgS w z pv' av' P (strikeP Pq.n (highP Pq.n Rr c.n) c.n) ((A ++ lowP Pq.n Rr c.n) ++ c.mk'.toList) C (i + 1) ch' := by
  refine ⟨hb, hr, ho, ?_, ?_, ?_⟩
  · rw [← h.all, hd, mg_cons]
    simp only [List.append_assoc]
  · rw [← h.chg, hd, ch_cons, hc]
    simp only [Bool.or_assoc]
  · have h1 := h.len
    have h2 := congrArg List.length (low_high Pq.n Rr c.n)
    have h3 := strike_len (highP Pq.n Rr c.n) c.n
    have h4 : c.mk'.toList.length ≤ 1 := by cases c.mk' <;> simp
    rw [List.length_append] at h2
    rw [List.length_append, List.length_append]
    omega
theorem Own.form {α : Type} {k : Nat} {E : Enc α k} {ty : TypeId} {w : World} {base : Nat} {v : Value} {l : List α} (h : Own E ty w base v l) : ∃ a c, v = .slice a l.length c := by
  obtain ⟨a, c, e, _⟩ := h.slB
  exact ⟨a, c, e⟩
set_option maxRecDepth 100000 in
set_option maxHeartbeats 8000000 in
theorem merge_calls (w : World) (pv cv : Value) (P : List Pq) (C : List Cq) (h : Sl encQ w pv P) (hc : Sl encCq w cv C) (hP : P.length ≤ 100000) (hC : C.length ≤ 100000) :
    Calls Tryz.prog 46 #[pv, cv] w fun e w' => ∃ v, e = .returned (.tuple #[v, .bool (chP P C)]) ∧ Own encQ 89 w' w.heap.size v (mgP P C) ∧ Below w.heap.size w w' := by
  have hp' := h
  obtain ⟨ad, cap, rfl, hcap, hmax, _, _⟩ := hp'
  have hc' := hc
  obtain ⟨ad2, cap2, rfl, hcap2, hmax2, _, _⟩ := hc'
  have HI : Hid (∀ i (hi : i < C.length), ∃ g off, ad2 = some ⟨g, off, none⟩ ∧ g < w.heap.size ∧ w.rangeAt g (off + i * 26) (encCq.c C[i])) := fun i hi => SlB.at hc i hi
  obtain ⟨M, hM⟩ : ∃ M : Nat, M = C.length := ⟨_, rfl⟩
  rw [← hM] at hcap2 hmax2 hC ⊢
  have HM : Hid (M = C.length) := hM
  have HST : Hid (MgS w w (.slice ad P.length cap) (.slice none 0 0) P P [] C 0 false) := ⟨Below.refl _ _, h, Own.nil _ _ _ _, by rw [List.drop_zero]; rfl, by rw [List.drop_zero]; rfl, by simp⟩
  have HP : Hid (P.length ≤ 100000) := hP
  obtain ⟨N, hN⟩ : ∃ N : Nat, N = P.length := ⟨_, rfl⟩
  rw [← hN] at HST ⊢
  clear h hc hM hcap hmax hcap2 hmax2 hP hN
  go_enter Tryz.func46, Tryz.ntmps46
  go_wp2_with fail
  go_loopg [0, 6, 7, 13] M (fun gg v0 v6 v7 v13 wr => ∃ (i : Nat) (a0 a6 : Option Addr) (n0 c0 n6 c6 : Nat) (ch : Bool), i + gg = M ∧ v0 = .slice a0 n0 c0 ∧ v6 = .slice a6 n6 c6 ∧ v7 = .bool ch ∧ v13 = .int .i64 (i : Int) ∧ Hid (∃ Rr A, MgS w wr (.slice a0 n0 c0) (.slice a6 n6 c6) P Rr A C i ch))
  case atStart => exact ⟨0, ad, none, N, cap, 0, 0, false, by omega, rfl, rfl, rfl, rfl, ⟨P, [], HST.out⟩⟩
  case round =>
    obtain ⟨i, a0, a6, n0, c0, n6, c6, ch, hig, rfl, rfl, rfl, rfl, HS⟩ := hrel
    clear HST
    obtain ⟨Rr, A, hs⟩ := HS.out
    cases gk with
    | zero =>
      have hiM : i = M := by omega
      have hdr : C.drop i = [] := List.drop_of_length_le (by rw [hiM, HM.out]; exact Nat.le_refl _)
      have e1 : A ++ Rr = mgP P C := by have := hs.all; rw [hdr] at this; exact this
      have e2 : ch = chP P C := by have := hs.chg; rw [hdr] at this; rw [← this]; show ch = (ch || false); rw [Bool.or_false]
      have HL : Hid (A.length + Rr.length ≤ 1000000) := (show _ ≤ _ by have := hs.len; have := HP.out; omega)
      have HE : Hid (A ++ Rr = mgP P C ∧ ch = chP P C) := ⟨e1, e2⟩
      have HR : Hid (SlB encQ wr w.heap.size (.slice a0 n0 c0) Rr) := hs.rest.below hs.bel
      have HO : Hid (Own encQ 89 wr w.heap.size (.slice a6 n6 c6) A) := hs.own
      have HB : Hid (Below w.heap.size w wr) := hs.bel
      have hiI : ¬ (i : Int) < (M : Int) := by omega
      clear hs HS hdr e1 e2 hiM
      go_wp2_with (at_builtin; refine append_sl rowQ rfl _ _ rfl w.heap.size (.slice a6 n6 c6) A Rr rfl HO.out (.slice a0 n0 c0) rfl w.heap.size HR.out HL.out (by decide) HB.out.size ?_; intro v1 w1 ho1 gr1)
      go_ret2
      refine ⟨v1, by rw [← HE.out.2]; rfl, by rw [← HE.out.1]; exact ho1, HB.out.grown gr1 HB.out.size (fun k hk => (HO.out.lt k hk).1)⟩
    | succ gg =>
      have hlt : i < C.length := by rw [← HM.out]; omega
      have hiI : (i : Int) < (M : Int) := by omega
      obtain ⟨g2, off2, rfl, hg2, hat2⟩ := HI.out i hlt
      have HR : Hid (wr.rangeAt g2 (off2 + i * 26) (encCq.c C[i])) := range_same' hat2 (hs.bel.block g2 hg2)
      have HDR : Hid (C.drop i = C[i] :: C.drop (i + 1)) := List.drop_eq_getElem_cons hlt
      clear hat2
      generalize C[i] = c at HR HDR
      clear hlt hg2
      go_upto_region 6 with (first
        | (refine load_el elCq _ rfl g2 (off2 + i * 26) rfl rfl c HR.out ?_)
        | (refine store_el elCq rfl _ _ rfl wr.heap.size rfl c rfl cq0 (InB.new encCq _ wr cq0 _ rfl) ?_; intro x1 hu1 tx1 sx1))
      have BX : Below wr.heap.size wr x1 := ((Below.refl _ wr).alloc (Nat.le_refl _) _).trans (tx1.below (by simp) (Nat.le_refl _) (by simp))
      have HS1 : Hid (MgS w x1 (.slice a0 n0 c0) (.slice a6 n6 c6) P Rr A C i ch) := hs.called BX
      have HU : Hid (InB encCq 38 x1 wr.heap.size c) := hu1
      have HQ : Hid (∀ k, (Value.slice a6 n6 c6).ownBlock = some k → k < wr.heap.size) := fun k hk => (hs.own.lt k hk).2
      have HN0 : Hid (n0 = Rr.length ∧ n0 ≤ c0) := (by obtain ⟨_, _, e, hc, _⟩ := hs.rest; cases e; exact ⟨rfl, hc⟩)
      have HRS : Hid (SlB encQ w w.heap.size (.slice a0 n0 c0) Rr) := hs.rest
      have hn0b : (n0 : Int) ≤ 1000000 := by have h1 := hs.len; have h2 := HP.out; have h3 := HN0.out.1; omega
      clear hs HS BX tx1 sx1 hu1 HR
      generalize wr.heap.size = q at *
      obtain ⟨LN, hLN⟩ : ∃ LN, LN = (lowP Pq.n Rr c.n).length := ⟨_, rfl⟩
      have hLle : LN ≤ n0 := by rw [HN0.out.1, hLN]; exact low_len Rr c.n
      have HLN : Hid (LN = (lowP Pq.n Rr c.n).length) := hLN
      clear hLN
      go_wp2_with fail
      go_loopg [10] LN (fun g3 v10 w3 => ∃ j : Nat, j + g3 = LN ∧ v10 = .int .i64 (j : Int) ∧ Hid (Below x1.heap.size x1 w3))
      case atStart => exact ⟨0, by omega, rfl, Below.refl _ _⟩
      case round =>
        obtain ⟨j, hjg, rfl, HB3⟩ := hrel
        cases gk with
        | succ g3 =>
          have hjn : j < n0 := by omega
          have hjR : j < Rr.length := by rw [← HN0.out.1]; exact hjn
          have hjI : (j : Int) < (n0 : Int) := by omega
          obtain ⟨g0, off0, rfl, hg0, hat⟩ := SlB.at HRS.out j hjR
          have HK : Hid (Rr[j].k.length = 24) := Rr[j].h
          have HRK : Hid (∀ y, Below x1.heap.size x1 y → y.rangeAt g0 (off0 + j * 25) (bc Rr[j].k)) := fun y hy => range_kQ (range_same' hat ((hy.block g0 (by have := HS1.out.bel.size; omega)).trans (HS1.out.bel.block g0 hg0)))
          have HCK : Hid (∀ y, Below x1.heap.size x1 y → y.rangeAt q 0 (bc c.k)) := fun y hy => range_kG (HU.out.below hy HU.out.lt).range
          have hls : Op.bytesLess Rr[j].k c.k = true := by rw [less_pc]; exact low_at Rr c.n j (by rw [← HLN.out]; omega) hjR
          clear hat
          generalize Rr[j].k = KJ at HK HRK hls
          have HC24 : Hid (c.k.length = 24) := c.h
          go_upto_region 7 with fail
          refine wp_region_noPanic ?_
          refine wp_region_held_drew (S := (fun y => Below x1.heap.size x1 y)) (by kernel_rfl) (HB3.out.trans ⟨rfl, rfl, rfl, Nat.le_refl _, fun _ _ => rfl⟩) (fun hHeld => ?_)
          refine wpAnyH_take (i := 0) (v := ?_) rfl (by kernel_rfl) (by kernel_rfl) (by kernel_rfl) (fun _ _ _ h => h) (Or.inl ⟨by rfl, ?_⟩) hHeld ?_
          case refine_2 => (intro w hSw; (try dsimp only at hSw); go_simp; try (with_reducible rfl))
          (try simp only [gs])
          refine wpAnyH_take (i := 1) (v := ?_) rfl (by kernel_rfl) (by kernel_rfl) (by kernel_rfl) (fun _ _ _ h => h) (Or.inl ⟨by rfl, ?_⟩) hHeld ?_
          case refine_2 => (intro w hSw; (try dsimp only at hSw); go_simp; try (with_reducible rfl))
          (try simp only [gs])
          refine wpAnyH_take (i := 2) (v := ?_) rfl (by kernel_rfl) (by kernel_rfl) (by kernel_rfl) (fun _ _ _ h => h) (Or.inl ⟨by rfl, ?_⟩) hHeld ?_
          case refine_2 => (intro w hSw; (try dsimp only at hSw); go_simp; try (with_reducible rfl))
          (try simp only [gs])
          refine wpAnyH_take (i := 3) (v := ?_) rfl (by kernel_rfl) (by kernel_rfl) (by kernel_rfl) (fun _ _ _ h => h) (Or.inl ⟨by rfl, ?_⟩) hHeld ?_
          case refine_2 => (intro w hSw; (try dsimp only at hSw); go_simp; try (with_reducible rfl))
          (try simp only [gs])
          refine wpAnyH_take (i := 4) (v := .bool true) rfl (by kernel_rfl) (by kernel_rfl) (by kernel_rfl) (fun _ _ _ h => h) (Or.inl ⟨by rfl, ?_⟩) hHeld ?_
          case refine_1 => (intro w hSw; (try dsimp only at hSw); go_simp; first | done | rfl)
          (try simp only [gs])
          refine wpAnyH_take (i := 5) (v := ?_) rfl (by kernel_rfl) (by kernel_rfl) (by kernel_rfl) (fun _ _ _ h => h) (Or.inl ⟨by rfl, ?_⟩) hHeld ?_
          case refine_2 => (intro w hSw; (try dsimp only at hSw); go_simp; try (with_reducible rfl))
          (try simp only [gs])
          refine wpAnyH_take (i := 6) (v := ?_) rfl (by kernel_rfl) (by kernel_rfl) (by kernel_rfl) (fun _ _ _ h => h) (Or.inl ⟨by rfl, ?_⟩) hHeld ?_
          case refine_2 => (intro w hSw; (try dsimp only at hSw); go_simp; try (with_reducible rfl))
          (try simp only [gs])
          refine wpAnyH_take (i := 7) (v := ?_) rfl (by kernel_rfl) (by kernel_rfl) (by kernel_rfl) (fun _ _ _ h => h) (Or.inl ⟨by rfl, ?_⟩) hHeld ?_
          case refine_2 => (intro w hSw; (try dsimp only at hSw); go_simp; try (with_reducible rfl))
          (try simp only [gs])
          refine wpAnyH_take (i := 8) (v := ?_) rfl (by kernel_rfl) (by kernel_rfl) (by kernel_rfl) (fun _ _ _ h => h) (Or.inl ⟨by rfl, ?_⟩) hHeld ?_
          case refine_2 => (intro w hSw; (try dsimp only at hSw); go_simp; try (with_reducible rfl))
          (try simp only [gs])
          refine wpAnyH_take (i := 9) rfl (by kernel_rfl) (by kernel_rfl) (by kernel_rfl) (fun _ _ _ h => h) (yieldsIf_load_mid (by rfl) _ _ rfl _ _ rfl _ _ (fun _ h => HRK.out _ h) Tryz.underlying25 rfl (by rw [bc_length, HK.out]; exact Tryz.key_info)) hHeld ?_
          (try simp only [gs])
          refine wpAnyH_take (i := 10) (v := ?_) rfl (by kernel_rfl) (by kernel_rfl) (by kernel_rfl) (fun _ _ _ h => h) (Or.inl ⟨by rfl, ?_⟩) hHeld ?_
          case refine_2 => (intro w hSw; (try dsimp only at hSw); go_simp; try (with_reducible rfl))
          (try simp only [gs])
          refine wpAnyH_take (i := 11) rfl (by kernel_rfl) (by kernel_rfl) (by kernel_rfl) (fun _ _ _ h => h) (yieldsIf_load_mid (by rfl) _ _ rfl _ _ rfl _ _ (fun _ h => HCK.out _ h) Tryz.underlying25 rfl (by rw [bc_length, HC24.out]; exact Tryz.key_info)) hHeld ?_
          (try simp only [gs])
          refine wpAnyH_ready (rs := [12]) (by kernel_rfl) (by simp) (AllReadyH.cons rfl (fun K hK => ?_) AllReadyH.nil)
          rw [if_pos (by rfl)]
          (try simp only [gs])
          go_simp
          refine (tless_calls _ KJ c.k HK.out HC24.out).mono ?_
          rintro e y1 ⟨rfl, b1⟩
          rw [hls]
          refine hK.out _ _ (hHeld.trans (b1.mono hHeld.size)) (fun g1 => ?_)
          clear hK K
          (try simp only [gs])
          refine wpAnyH_take (i := 13) (v := ?_) rfl (by kernel_rfl) (by kernel_rfl) (by kernel_rfl) (fun _ _ _ h => h) (Or.inl ⟨by rfl, ?_⟩) g1 ?_
          case refine_2 => (intro w hSw; (try dsimp only at hSw); go_simp; try (with_reducible rfl))
          (try simp only [gs])
          refine wpAnyH_done (by kernel_rfl) ?_ _
          refine NoPanic.normal ?_
          go_wp2_with fail
          go_roundg g3
          case measure => omega
          case rel => exact ⟨j + 1, by omega, congrArg _ (by first | omega | (unfold wrap64; omega)), g1⟩
        | zero =>
          have hjL : j = LN := by omega
          subst hjL
          clear hjg
          have HS3 : Hid (MgS w wr (.slice a0 n0 c0) (.slice a6 n6 c6) P Rr A C i ch) := HS1.out.called HB3.out
          have HU3 : Hid (InB encCq 38 wr q c) := HU.out.below HB3.out HU.out.lt
          have HTK : Hid (SlB encQ wr w.heap.size (.slice a0 j c0) (lowP Pq.n Rr c.n)) := (by
            have h1 := (HRS.out.below HS3.out.bel).take j (by rw [← HN0.out.1]; exact hLle)
            have e : Rr.take j = lowP Pq.n Rr c.n := by rw [HLN.out]; exact low_take Rr c.n
            rw [e] at h1
            exact h1)
          have HDP : Hid (SlB encQ w w.heap.size (.slice (if c0 = j then a0 else a0.map (·.add (j * 25))) (n0 - j) (c0 - j)) (highP Pq.n Rr c.n)) := (by
            have h1 := HRS.out.drop j (by rw [← HN0.out.1]; exact hLle)
            have e : Rr.drop j = highP Pq.n Rr c.n := by rw [HLN.out]; exact low_drop Rr c.n
            rw [e] at h1
            exact h1)
          have HLA : Hid (A.length + (lowP Pq.n Rr c.n).length ≤ 1000000) := (show _ ≤ _ by have h1 := HS3.out.len; have h2 := HP.out; have h3 := low_len Rr c.n; omega)
          have hjc : (j : Int) ≤ (c0 : Int) := by have := HN0.out.2; omega
          have hjn : (j : Int) ≤ (n0 : Int) := by omega
          by_cases hend : j = n0
          · have hI0 : ¬ (j : Int) < (n0 : Int) := by omega
            clear hend
            go_upto_region 7 with fail
            refine wp_region_noPanic ?_
            refine wp_region_held_drew (S := (fun y => Below x1.heap.size x1 y)) (by kernel_rfl) (HB3.out.trans ⟨rfl, rfl, rfl, Nat.le_refl _, fun _ _ => rfl⟩) (fun hHeld => ?_)
            refine wpAnyH_take (i := 0) (v := ?_) rfl (by kernel_rfl) (by kernel_rfl) (by kernel_rfl) (fun _ _ _ h => h) (Or.inl ⟨by rfl, ?_⟩) hHeld ?_
            case refine_2 => (intro w hSw; (try dsimp only at hSw); go_simp; try (with_reducible rfl))
            (try simp only [gs])
            refine wpAnyH_take (i := 1) (v := ?_) rfl (by kernel_rfl) (by kernel_rfl) (by kernel_rfl) (fun _ _ _ h => h) (Or.inl ⟨by rfl, ?_⟩) hHeld ?_
            case refine_2 => (intro w hSw; (try dsimp only at hSw); go_simp; try (with_reducible rfl))
            (try simp only [gs])
            refine wpAnyH_take (i := 2) (v := ?_) rfl (by kernel_rfl) (by kernel_rfl) (by kernel_rfl) (fun _ _ _ h => h) (Or.inl ⟨by rfl, ?_⟩) hHeld ?_
            case refine_2 => (intro w hSw; (try dsimp only at hSw); go_simp; try (with_reducible rfl))
            (try simp only [gs])
            refine wpAnyH_take (i := 3) (v := ?_) rfl (by kernel_rfl) (by kernel_rfl) (by kernel_rfl) (fun _ _ _ h => h) (Or.inl ⟨by rfl, ?_⟩) hHeld ?_
            case refine_2 => (intro w hSw; (try dsimp only at hSw); go_simp; try (with_reducible rfl))
            (try simp only [gs])
            refine wpAnyH_take (i := 4) (v := .bool false) rfl (by kernel_rfl) (by kernel_rfl) (by kernel_rfl) (fun _ _ _ h => h) (Or.inl ⟨by rfl, ?_⟩) hHeld ?_
            case refine_1 => (intro w hSw; (try dsimp only at hSw); go_simp; first | done | rfl)
            (try simp only [gs])
            refine wpAnyH_take (i := 5) (v := undef) rfl (by kernel_rfl) (by kernel_rfl) (by kernel_rfl) (fun _ _ _ h => h) (Or.inr ⟨by rfl, rfl⟩) hHeld ?_
            (try simp only [gs])
            refine wpAnyH_take (i := 6) (v := undef) rfl (by kernel_rfl) (by kernel_rfl) (by kernel_rfl) (fun _ _ _ h => h) (Or.inr ⟨by rfl, rfl⟩) hHeld ?_
            (try simp only [gs])
            refine wpAnyH_take (i := 7) (v := undef) rfl (by kernel_rfl) (by kernel_rfl) (by kernel_rfl) (fun _ _ _ h => h) (Or.inr ⟨by rfl, rfl⟩) hHeld ?_
            (try simp only [gs])
            refine wpAnyH_take (i := 8) (v := undef) rfl (by kernel_rfl) (by kernel_rfl) (by kernel_rfl) (fun _ _ _ h => h) (Or.inr ⟨by rfl, rfl⟩) hHeld ?_
            (try simp only [gs])
            refine wpAnyH_take (i := 9) (v := undef) rfl (by kernel_rfl) (by kernel_rfl) (by kernel_rfl) (fun _ _ _ h => h) (Or.inr ⟨by rfl, rfl⟩) hHeld ?_
            (try simp only [gs])
            refine wpAnyH_take (i := 10) (v := undef) rfl (by kernel_rfl) (by kernel_rfl) (by kernel_rfl) (fun _ _ _ h => h) (Or.inr ⟨by rfl, rfl⟩) hHeld ?_
            (try simp only [gs])
            refine wpAnyH_take (i := 11) (v := undef) rfl (by kernel_rfl) (by kernel_rfl) (by kernel_rfl) (fun _ _ _ h => h) (Or.inr ⟨by rfl, rfl⟩) hHeld ?_
            (try simp only [gs])
            refine wpAnyH_take (i := 12) (v := undef) rfl (by kernel_rfl) (by kernel_rfl) (by kernel_rfl) (fun _ _ _ h => h) (Or.inr ⟨by rfl, rfl⟩) hHeld ?_
            (try simp only [gs])
            refine wpAnyH_take (i := 13) (v := ?_) rfl (by kernel_rfl) (by kernel_rfl) (by kernel_rfl) (fun _ _ _ h => h) (Or.inl ⟨by rfl, ?_⟩) hHeld ?_
            case refine_2 => (intro w hSw; (try dsimp only at hSw); go_simp; try (with_reducible rfl))
            (try simp only [gs])
            refine wpAnyH_done (by kernel_rfl) ?_ _
            refine NoPanic.normal ?_
            have HS4 : Hid (MgS w wr.drew (.slice a0 n0 c0) (.slice a6 n6 c6) P Rr A C i ch) := HS3.out.called ⟨rfl, rfl, rfl, Nat.le_refl _, fun _ _ => rfl⟩
            have HU4 : Hid (InB encCq 38 wr.drew q c) := HU3.out.same rfl
            have HTK4 : Hid (SlB encQ wr.drew w.heap.size (.slice a0 j c0) (lowP Pq.n Rr c.n)) := HTK.out.below ⟨rfl, rfl, rfl, Nat.le_refl _, fun _ _ => rfl⟩
            go_upto_region 11 with (at_builtin; refine append_sl rowQ rfl _ _ rfl w.heap.size (.slice a6 n6 c6) A (lowP Pq.n Rr c.n) rfl HS4.out.own (.slice a0 j c0) rfl w.heap.size HTK4.out HLA.out (by decide) HS4.out.bel.size ?_; intro v1 w1 ho1 gr1)
            obtain ⟨a1, k1, rfl⟩ := ho1.form
            have HB1 : Hid (Below w.heap.size w w1) := HS4.out.bel.grown gr1 HS4.out.bel.size (fun k hk => (HS4.out.own.lt k hk).1)
            have HO1 : Hid (Own encQ 89 w1 w.heap.size (.slice a1 (A ++ lowP Pq.n Rr c.n).length k1) (A ++ lowP Pq.n Rr c.n)) := ho1
            have HU1 : Hid (InB encCq 38 w1 q c) := (by
              refine HU4.out.same (gr1.block q HU4.out.lt (fun e => ?_))
              have hE := HQ.out q e.symm
              omega)
            clear gr1 ho1
            have HLB : Hid ((A ++ lowP Pq.n Rr c.n).length + 1 ≤ 1000000) := (show _ ≤ _ by have h1 := HS3.out.len; have h2 := HP.out; have h3 := low_len Rr c.n; rw [List.length_append]; omega)
            obtain ⟨nA, hnA⟩ : ∃ nA, nA = (A ++ lowP Pq.n Rr c.n).length := ⟨_, rfl⟩
            have HnA : Hid ((A ++ lowP Pq.n Rr c.n).length = nA) := hnA.symm
            rw [← hnA] at HO1 ⊢
            clear hnA
            generalize hgen : (if c0 = j then a0 else Option.map (fun x => x.add (j * 25)) a0) = aR at *
            clear hgen
            have HR1 : Hid (highP Pq.n Rr c.n = []) := (show _ = _ by rw [← low_drop, ← HLN.out]; exact List.drop_of_length_le (by rw [← HN0.out.1]; omega))
            have hnR : n0 - j = 0 := by omega
            rw [hnR] at HDP ⊢
            generalize c0 - j = cR at *
            have HHIT : Hid (hitP Pq.n (highP Pq.n Rr c.n) c.n = false) := (show _ = _ by rw [HR1.out]; rfl)
            have HF : Hid (SlB encQ w w.heap.size (.slice aR 0 cR) (strikeP Pq.n (highP Pq.n Rr c.n) c.n)) := (by
              have h1 := HDP.out
              rw [HR1.out] at h1 ⊢
              exact h1)
            refine wp_region_noPanic ?_
            refine wp_region_held_drew (S := (fun y => Below w1.heap.size w1 y)) (by kernel_rfl) ((Below.refl _ _).trans ⟨rfl, rfl, rfl, Nat.le_refl _, fun _ _ => rfl⟩) (fun hHeld => ?_)
            refine wpAnyH_take (i := 0) (v := ?_) rfl (by kernel_rfl) (by kernel_rfl) (by kernel_rfl) (fun _ _ _ h => h) (Or.inl ⟨by rfl, ?_⟩) hHeld ?_
            case refine_2 => (intro w hSw; (try dsimp only at hSw); go_simp; try (with_reducible rfl))
            (try simp only [gs])
            refine wpAnyH_take (i := 1) (v := ?_) rfl (by kernel_rfl) (by kernel_rfl) (by kernel_rfl) (fun _ _ _ h => h) (Or.inl ⟨by rfl, ?_⟩) hHeld ?_
            case refine_2 => (intro w hSw; (try dsimp only at hSw); go_simp; try (with_reducible rfl))
            (try simp only [gs])
            refine wpAnyH_take (i := 2) (v := ?_) rfl (by kernel_rfl) (by kernel_rfl) (by kernel_rfl) (fun _ _ _ h => h) (Or.inl ⟨by rfl, ?_⟩) hHeld ?_
            case refine_2 => (intro w hSw; (try dsimp only at hSw); go_simp; try (with_reducible rfl))
            (try simp only [gs])
            refine wpAnyH_take (i := 3) (v := .bool false) rfl (by kernel_rfl) (by kernel_rfl) (by kernel_rfl) (fun _ _ _ h => h) (Or.inl ⟨by rfl, ?_⟩) hHeld ?_
            case refine_1 => (intro w hSw; (try dsimp only at hSw); go_simp; first | done | rfl)
            (try simp only [gs])
            refine wpAnyH_take (i := 4) (v := undef) rfl (by kernel_rfl) (by kernel_rfl) (by kernel_rfl) (fun _ _ _ h => h) (Or.inr ⟨by rfl, rfl⟩) hHeld ?_
            (try simp only [gs])
            refine wpAnyH_take (i := 5) (v := undef) rfl (by kernel_rfl) (by kernel_rfl) (by kernel_rfl) (fun _ _ _ h => h) (Or.inr ⟨by rfl, rfl⟩) hHeld ?_
            (try simp only [gs])
            refine wpAnyH_take (i := 6) (v := undef) rfl (by kernel_rfl) (by kernel_rfl) (by kernel_rfl) (fun _ _ _ h => h) (Or.inr ⟨by rfl, rfl⟩) hHeld ?_
            (try simp only [gs])
            refine wpAnyH_take (i := 7) (v := undef) rfl (by kernel_rfl) (by kernel_rfl) (by kernel_rfl) (fun _ _ _ h => h) (Or.inr ⟨by rfl, rfl⟩) hHeld ?_
            (try simp only [gs])
            refine wpAnyH_take (i := 8) (v := undef) rfl (by kernel_rfl) (by kernel_rfl) (by kernel_rfl) (fun _ _ _ h => h) (Or.inr ⟨by rfl, rfl⟩) hHeld ?_
            (try simp only [gs])
            refine wpAnyH_take (i := 9) (v := undef) rfl (by kernel_rfl) (by kernel_rfl) (by kernel_rfl) (fun _ _ _ h => h) (Or.inr ⟨by rfl, rfl⟩) hHeld ?_
            (try simp only [gs])
            refine wpAnyH_take (i := 10) (v := undef) rfl (by kernel_rfl) (by kernel_rfl) (by kernel_rfl) (fun _ _ _ h => h) (Or.inr ⟨by rfl, rfl⟩) hHeld ?_
            (try simp only [gs])
            refine wpAnyH_take (i := 11) (v := ?_) rfl (by kernel_rfl) (by kernel_rfl) (by kernel_rfl) (fun _ _ _ h => h) (Or.inl ⟨by rfl, ?_⟩) hHeld ?_
            case refine_2 => (intro w hSw; (try dsimp only at hSw); go_simp; try (with_reducible rfl))
            (try simp only [gs])
            refine wpAnyH_done (by kernel_rfl) ?_ _
            refine NoPanic.normal ?_
            have HBY : Hid (Below w.heap.size w w1.drew) := HB1.out.trans ⟨rfl, rfl, rfl, Nat.le_refl _, fun _ _ => rfl⟩
            have HOY : Hid (Own encQ 89 w1.drew w.heap.size (.slice a1 nA k1) (A ++ lowP Pq.n Rr c.n)) := HO1.out.below ⟨rfl, rfl, rfl, Nat.le_refl _, fun _ _ => rfl⟩
            have HUY : Hid (InB encCq 38 w1.drew q c) := HU1.out.same rfl
            obtain ⟨cv, cg⟩ := range_vG (HUY.out).range
            simp only [Nat.zero_add] at cv cg
            cases hg : c.g with
            | true =>
              rw [hg] at cg
              have HMK : Hid (c.mk' = none) := Cq.mk_none hg
              go_wp2_with fail
              go_roundg gg
              case measure => omega
              case rel =>
                refine ⟨i + 1, _, _, _, _, _, _, _, by omega, rfl, rfl, rfl, congrArg (Value.int .i64) (by first | omega | (unfold wrap64; omega)), ?_⟩
                exact ⟨_, _, MgS.next HS3.out HDR.out (HBY.out) HF.out (by rw [HMK.out]; show Own _ _ _ _ _ (_ ++ []); rw [List.append_nil]; exact HOY.out) (by rw [HMK.out, HHIT.out]; cases ch <;> rfl)⟩
            | false =>
              rw [hg] at cg
              have HMK : Hid (c.mk' = some ⟨c.k, c.h, c.s⟩) := Cq.mk_some hg
              go_wp2_with (first
                | (refine load_part _ rfl q 0 rfl rfl _ c.h (range_kG (HUY.out).range) ?_)
                | (refine build_q rfl _ _ rfl ⟨c.k, c.h, c.s⟩ rfl rfl ?_)
                | (refine build_el1 rowQ rfl _ rfl ⟨c.k, c.h, c.s⟩ rfl (by decide) ?_; intro x5 o5 b5 s5 k5; have HO6 : Hid (Own encQ 89 x5 w.heap.size (.slice a1 nA k1) (A ++ lowP Pq.n Rr c.n)) := HOY.out.below b5; have HB6 : Hid (Below w.heap.size w x5) := HBY.out.trans (b5.mono HBY.out.size); clear o5 s5)
                | (at_builtin; refine append_one rowQ rfl _ _ rfl w.heap.size (.slice a1 nA k1) (A ++ lowP Pq.n Rr c.n) rfl HO6.out _ ⟨c.k, c.h, c.s⟩ rfl _ _ k5 HLB.out (by decide) HB6.out.size ?_; intro g6 c6' x6 ho6 gr6 hg6 hs6))
              go_roundg gg
              case measure => omega
              case rel =>
                refine ⟨i + 1, _, _, _, _, _, _, _, by omega, rfl, rfl, rfl, congrArg (Value.int .i64) (by first | omega | (unfold wrap64; omega)), ?_⟩
                exact ⟨_, _, MgS.next HS3.out HDR.out (HB6.out.grown gr6 HB6.out.size (fun k hk => (HO6.out.lt k hk).1)) HF.out (by rw [HMK.out]; rw [List.length_append] at ho6; exact ho6) (by rw [HMK.out]; simp)⟩
          · have hjn1 : j < n0 := by omega
            have hjR : j < Rr.length := by rw [← HN0.out.1]; exact hjn1
            have hjI : (j : Int) < (n0 : Int) := by omega
            obtain ⟨g0, off0, rfl, hg0, hat⟩ := SlB.at HRS.out j hjR
            have HK : Hid (Rr[j].k.length = 24) := Rr[j].h
            have HRK : Hid (∀ y, Below x1.heap.size x1 y → y.rangeAt g0 (off0 + j * 25) (bc Rr[j].k)) := fun y hy => range_kQ (range_same' hat ((hy.block g0 (by have := HS1.out.bel.size; omega)).trans (HS1.out.bel.block g0 hg0)))
            have HCK : Hid (∀ y, Below x1.heap.size x1 y → y.rangeAt q 0 (bc c.k)) := fun y hy => range_kG (HU.out.below hy HU.out.lt).range
            have hls : Op.bytesLess Rr[j].k c.k = false := by
              have h1 := low_end Rr c.n (by rw [← HLN.out]; exact hjR)
              have e : Rr[(lowP Pq.n Rr c.n).length]'(by rw [← HLN.out]; exact hjR) = Rr[j] := by congr 1; exact HLN.out.symm
              rw [e] at h1
              rw [less_pc]
              exact h1
            have HH : Hid (∃ r, highP Pq.n Rr c.n = Rr[j] :: r) := ⟨_, (by
              rw [← low_drop, ← HLN.out]
              exact List.drop_eq_getElem_cons hjR)⟩
            have HEQ : Hid ((Rr[j].k == c.k) = decide (Rr[j].n = c.n)) := eq_pc _ _
            clear hat
            generalize Rr[j] = pj at HK HRK hls HH HEQ
            obtain ⟨KJ, hKJ⟩ : ∃ KJ, KJ = pj.k := ⟨_, rfl⟩
            rw [← hKJ] at HK HRK hls HEQ
            have HKJ : Hid (KJ = pj.k) := hKJ
            clear hKJ
            have HC24 : Hid (c.k.length = 24) := c.h
            go_upto_region 7 with fail
            refine wp_region_noPanic ?_
            refine wp_region_held_drew (S := (fun y => Below x1.heap.size x1 y)) (by kernel_rfl) (HB3.out.trans ⟨rfl, rfl, rfl, Nat.le_refl _, fun _ _ => rfl⟩) (fun hHeld => ?_)
            refine wpAnyH_take (i := 0) (v := ?_) rfl (by kernel_rfl) (by kernel_rfl) (by kernel_rfl) (fun _ _ _ h => h) (Or.inl ⟨by rfl, ?_⟩) hHeld ?_
            case refine_2 => (intro w hSw; (try dsimp only at hSw); go_simp; try (with_reducible rfl))
            (try simp only [gs])
            refine wpAnyH_take (i := 1) (v := ?_) rfl (by kernel_rfl) (by kernel_rfl) (by kernel_rfl) (fun _ _ _ h => h) (Or.inl ⟨by rfl, ?_⟩) hHeld ?_
            case refine_2 => (intro w hSw; (try dsimp only at hSw); go_simp; try (with_reducible rfl))
            (try simp only [gs])
            refine wpAnyH_take (i := 2) (v := ?_) rfl (by kernel_rfl) (by kernel_rfl) (by kernel_rfl) (fun _ _ _ h => h) (Or.inl ⟨by rfl, ?_⟩) hHeld ?_
            case refine_2 => (intro w hSw; (try dsimp only at hSw); go_simp; try (with_reducible rfl))
            (try simp only [gs])
            refine wpAnyH_take (i := 3) (v := ?_) rfl (by kernel_rfl) (by kernel_rfl) (by kernel_rfl) (fun _ _ _ h => h) (Or.inl ⟨by rfl, ?_⟩) hHeld ?_
            case refine_2 => (intro w hSw; (try dsimp only at hSw); go_simp; try (with_reducible rfl))
            (try simp only [gs])
            refine wpAnyH_take (i := 4) (v := .bool true) rfl (by kernel_rfl) (by kernel_rfl) (by kernel_rfl) (fun _ _ _ h => h) (Or.inl ⟨by rfl, ?_⟩) hHeld ?_
            case refine_1 => (intro w hSw; (try dsimp only at hSw); go_simp; first | done | rfl)
            (try simp only [gs])
            refine wpAnyH_take (i := 5) (v := ?_) rfl (by kernel_rfl) (by kernel_rfl) (by kernel_rfl) (fun _ _ _ h => h) (Or.inl ⟨by rfl, ?_⟩) hHeld ?_
            case refine_2 => (intro w hSw; (try dsimp only at hSw); go_simp; try (with_reducible rfl))
            (try simp only [gs])
            refine wpAnyH_take (i := 6) (v := ?_) rfl (by kernel_rfl) (by kernel_rfl) (by kernel_rfl) (fun _ _ _ h => h) (Or.inl ⟨by rfl, ?_⟩) hHeld ?_
            case refine_2 => (intro w hSw; (try dsimp only at hSw); go_simp; try (with_reducible rfl))
            (try simp only [gs])
            refine wpAnyH_take (i := 7) (v := ?_) rfl (by kernel_rfl) (by kernel_rfl) (by kernel_rfl) (fun _ _ _ h => h) (Or.inl ⟨by rfl, ?_⟩) hHeld ?_
            case refine_2 => (intro w hSw; (try dsimp only at hSw); go_simp; try (with_reducible rfl))
            (try simp only [gs])
            refine wpAnyH_take (i := 8) (v := ?_) rfl (by kernel_rfl) (by kernel_rfl) (by kernel_rfl) (fun _ _ _ h => h) (Or.inl ⟨by rfl, ?_⟩) hHeld ?_
            case refine_2 => (intro w hSw; (try dsimp only at hSw); go_simp; try (with_reducible rfl))
            (try simp only [gs])
            refine wpAnyH_take (i := 9) rfl (by kernel_rfl) (by kernel_rfl) (by kernel_rfl) (fun _ _ _ h => h) (yieldsIf_load_mid (by rfl) _ _ rfl _ _ rfl _ _ (fun _ h => HRK.out _ h) Tryz.underlying25 rfl (by rw [bc_length, HK.out]; exact Tryz.key_info)) hHeld ?_
            (try simp only [gs])
            refine wpAnyH_take (i := 10) (v := ?_) rfl (by kernel_rfl) (by kernel_rfl) (by kernel_rfl) (fun _ _ _ h => h) (Or.inl ⟨by rfl, ?_⟩) hHeld ?_
            case refine_2 => (intro w hSw; (try dsimp only at hSw); go_simp; try (with_reducible rfl))
            (try simp only [gs])
            refine wpAnyH_take (i := 11) rfl (by kernel_rfl) (by kernel_rfl) (by kernel_rfl) (fun _ _ _ h => h) (yieldsIf_load_mid (by rfl) _ _ rfl _ _ rfl _ _ (fun _ h => HCK.out _ h) Tryz.underlying25 rfl (by rw [bc_length, HC24.out]; exact Tryz.key_info)) hHeld ?_
            (try simp only [gs])
            refine wpAnyH_ready (rs := [12]) (by kernel_rfl) (by simp) (AllReadyH.cons rfl (fun K hK => ?_) AllReadyH.nil)
            rw [if_pos (by rfl)]
            (try simp only [gs])
            go_simp
            refine (tless_calls _ KJ c.k HK.out HC24.out).mono ?_
            rintro e y1 ⟨rfl, b1⟩
            rw [hls]
            refine hK.out _ _ (hHeld.trans (b1.mono hHeld.size)) (fun g1 => ?_)
            clear hK K
            (try simp only [gs])
            refine wpAnyH_take (i := 13) (v := ?_) rfl (by kernel_rfl) (by kernel_rfl) (by kernel_rfl) (fun _ _ _ h => h) (Or.inl ⟨by rfl, ?_⟩) g1 ?_
            case refine_2 => (intro w hSw; (try dsimp only at hSw); go_simp; try (with_reducible rfl))
            (try simp only [gs])
            refine wpAnyH_done (by kernel_rfl) ?_ _
            refine NoPanic.normal ?_
            have HS4 : Hid (MgS w y1 (.slice (some ⟨g0, off0, none⟩) n0 c0) (.slice a6 n6 c6) P Rr A C i ch) := HS1.out.called g1
            have HU4 : Hid (InB encCq 38 y1 q c) := HU.out.below g1 HU.out.lt
            have HTK4 : Hid (SlB encQ y1 w.heap.size (.slice (some ⟨g0, off0, none⟩) j c0) (lowP Pq.n Rr c.n)) := (HTK.out.kept (w' := y1) (fun g hg => ((HS4.out.bel.block g hg).trans (HS3.out.bel.block g hg).symm)) (Nat.le_refl _))
            obtain ⟨a0, ha0⟩ : ∃ a0 : Option Addr, a0 = some ⟨g0, off0, none⟩ := ⟨_, rfl⟩
            rw [← ha0] at HS4 HTK4 HDP ⊢
            clear ha0
            go_upto_region 11 with (at_builtin; refine append_sl rowQ rfl _ _ rfl w.heap.size (.slice a6 n6 c6) A (lowP Pq.n Rr c.n) rfl HS4.out.own (.slice a0 j c0) rfl w.heap.size HTK4.out HLA.out (by decide) HS4.out.bel.size ?_; intro v1 w1 ho1 gr1)
            obtain ⟨a1, k1, rfl⟩ := ho1.form
            have HB1 : Hid (Below w.heap.size w w1) := HS4.out.bel.grown gr1 HS4.out.bel.size (fun k hk => (HS4.out.own.lt k hk).1)
            have HO1 : Hid (Own encQ 89 w1 w.heap.size (.slice a1 (A ++ lowP Pq.n Rr c.n).length k1) (A ++ lowP Pq.n Rr c.n)) := ho1
            have HU1 : Hid (InB encCq 38 w1 q c) := (by
              refine HU4.out.same (gr1.block q HU4.out.lt (fun e => ?_))
              have hE := HQ.out q e.symm
              omega)
            clear gr1 ho1
            have HLB : Hid ((A ++ lowP Pq.n Rr c.n).length + 1 ≤ 1000000) := (show _ ≤ _ by have h1 := HS3.out.len; have h2 := HP.out; have h3 := low_len Rr c.n; rw [List.length_append]; omega)
            obtain ⟨nA, hnA⟩ : ∃ nA, nA = (A ++ lowP Pq.n Rr c.n).length := ⟨_, rfl⟩
            have HnA : Hid ((A ++ lowP Pq.n Rr c.n).length = nA) := hnA.symm
            rw [← hnA] at HO1 ⊢
            clear hnA
            generalize hgen : (if c0 = j then a0 else Option.map (fun x => x.add (j * 25)) a0) = aR at *
            clear hgen
            obtain ⟨r1, hr1⟩ := HH.out
            have HR1 : Hid (highP Pq.n Rr c.n = pj :: r1) := hr1
            have HDQ : Hid (SlB encQ w w.heap.size (.slice aR (n0 - j) (c0 - j)) (pj :: r1)) := (by have h1 := HDP.out; rw [hr1] at h1; exact h1)
            clear hr1 HH HDP
            obtain ⟨nR, hnR⟩ : ∃ nR, nR = n0 - j := ⟨_, rfl⟩
            have hnRI : (0 : Int) < (nR : Int) := by omega
            have hnRN : 0 < nR := by omega
            have HnR : Hid (nR = r1.length + 1) := (by obtain ⟨_, _, e, _⟩ := HDQ.out; injection e with e1 e2 e3; exact hnR.trans e2)
            rw [← hnR] at HDQ ⊢
            clear hnR
            generalize c0 - j = cR at *
            obtain ⟨g5, off5, rfl, hg5, hat5⟩ := SlB.at HDQ.out 0 (by simp)
            have HRK5 : Hid (∀ y, Below w1.heap.size w1 y → y.rangeAt g5 off5 (bc KJ)) := fun y hy => by
              have h1 := range_kQ (range_same' hat5 ((hy.block g5 (by have := HB1.out.size; omega)).trans (HB1.out.block g5 hg5)))
              rw [Nat.zero_mul, Nat.add_zero] at h1
              rw [HKJ.out]
              exact h1
            have HCK5 : Hid (∀ y, Below w1.heap.size w1 y → y.rangeAt q 0 (bc c.k)) := fun y hy => range_kG (HU1.out.below hy HU1.out.lt).range
            clear hat5
            cases hke : (KJ == c.k) with
            | true =>
              refine wp_region_noPanic ?_
              refine wp_region_held_drew (S := (fun y => Below w1.heap.size w1 y)) (by kernel_rfl) ((Below.refl _ _).trans ⟨rfl, rfl, rfl, Nat.le_refl _, fun _ _ => rfl⟩) (fun hHeld => ?_)
              refine wpAnyH_take (i := 0) (v := ?_) rfl (by kernel_rfl) (by kernel_rfl) (by kernel_rfl) (fun _ _ _ h => h) (Or.inl ⟨by rfl, ?_⟩) hHeld ?_
              case refine_2 => (intro w hSw; (try dsimp only at hSw); go_simp; try (with_reducible rfl))
              (try simp only [gs])
              refine wpAnyH_take (i := 1) (v := ?_) rfl (by kernel_rfl) (by kernel_rfl) (by kernel_rfl) (fun _ _ _ h => h) (Or.inl ⟨by rfl, ?_⟩) hHeld ?_
              case refine_2 => (intro w hSw; (try dsimp only at hSw); go_simp; try (with_reducible rfl))
              (try simp only [gs])
              refine wpAnyH_take (i := 2) (v := ?_) rfl (by kernel_rfl) (by kernel_rfl) (by kernel_rfl) (fun _ _ _ h => h) (Or.inl ⟨by rfl, ?_⟩) hHeld ?_
              case refine_2 => (intro w hSw; (try dsimp only at hSw); go_simp; try (with_reducible rfl))
              (try simp only [gs])
              refine wpAnyH_take (i := 3) (v := .bool true) rfl (by kernel_rfl) (by kernel_rfl) (by kernel_rfl) (fun _ _ _ h => h) (Or.inl ⟨by rfl, ?_⟩) hHeld ?_
              case refine_1 => (intro w hSw; (try dsimp only at hSw); go_simp; first | done | rfl)
              (try simp only [gs])
              refine wpAnyH_take (i := 4) (v := ?_) rfl (by kernel_rfl) (by kernel_rfl) (by kernel_rfl) (fun _ _ _ h => h) (Or.inl ⟨by rfl, ?_⟩) hHeld ?_
              case refine_2 => (intro w hSw; (try dsimp only at hSw); go_simp; try (with_reducible rfl))
              (try simp only [gs])
              refine wpAnyH_take (i := 5) (v := ?_) rfl (by kernel_rfl) (by kernel_rfl) (by kernel_rfl) (fun _ _ _ h => h) (Or.inl ⟨by rfl, ?_⟩) hHeld ?_
              case refine_2 => (intro w hSw; (try dsimp only at hSw); go_simp; try (with_reducible rfl))
              (try simp only [gs])
              refine wpAnyH_take (i := 6) (v := ?_) rfl (by kernel_rfl) (by kernel_rfl) (by kernel_rfl) (fun _ _ _ h => h) (Or.inl ⟨by rfl, ?_⟩) hHeld ?_
              case refine_2 => (intro w hSw; (try dsimp only at hSw); go_simp; try (with_reducible rfl))
              (try simp only [gs])
              refine wpAnyH_take (i := 7) rfl (by kernel_rfl) (by kernel_rfl) (by kernel_rfl) (fun _ _ _ h => h) (yieldsIf_load_mid (by rfl) _ _ rfl _ _ rfl _ _ (fun _ h => HRK5.out _ h) Tryz.underlying25 rfl (by rw [bc_length, HK.out]; exact Tryz.key_info)) hHeld ?_
              (try simp only [gs])
              refine wpAnyH_take (i := 8) (v := ?_) rfl (by kernel_rfl) (by kernel_rfl) (by kernel_rfl) (fun _ _ _ h => h) (Or.inl ⟨by rfl, ?_⟩) hHeld ?_
              case refine_2 => (intro w hSw; (try dsimp only at hSw); go_simp; try (with_reducible rfl))
              (try simp only [gs])
              refine wpAnyH_take (i := 9) rfl (by kernel_rfl) (by kernel_rfl) (by kernel_rfl) (fun _ _ _ h => h) (yieldsIf_load_mid (by rfl) _ _ rfl _ _ rfl _ _ (fun _ h => HCK5.out _ h) Tryz.underlying25 rfl (by rw [bc_length, HC24.out]; exact Tryz.key_info)) hHeld ?_
              (try simp only [gs])
              refine wpAnyH_take (i := 10) (v := .bool true) rfl (by kernel_rfl) (by kernel_rfl) (by kernel_rfl) (fun _ _ _ h => h) (Or.inl ⟨by rfl, ?_⟩) hHeld ?_
              case refine_1 => (intro w hSw; (try dsimp only at hSw); have q := eq_key w KJ c.k HK.out HC24.out; rw [hke] at q; go_simp; first | done | rfl)
              (try simp only [gs])
              refine wpAnyH_take (i := 11) (v := ?_) rfl (by kernel_rfl) (by kernel_rfl) (by kernel_rfl) (fun _ _ _ h => h) (Or.inl ⟨by rfl, ?_⟩) hHeld ?_
              case refine_2 => (intro w hSw; (try dsimp only at hSw); go_simp; try (with_reducible rfl))
              (try simp only [gs])
              refine wpAnyH_done (by kernel_rfl) ?_ _
              refine NoPanic.normal ?_
              have HHIT : Hid (hitP Pq.n (highP Pq.n Rr c.n) c.n = true) := (show _ = _ by rw [HR1.out]; show decide (pj.n = c.n) = true; rw [← HEQ.out]; exact hke)
              have HF0 := HDQ.out.drop 1 (by simp)
              obtain ⟨a5, ha5⟩ : ∃ a5 : Option Addr, a5 = some ⟨g5, off5, none⟩ := ⟨_, rfl⟩
              rw [← ha5] at HF0 ⊢
              clear ha5
              have eadd : (fun x : Addr => x.add (1 * 25)) = fun x => ⟨x.block, x.off + 25, none⟩ := by funext x; simp [Addr.add]
              rw [eadd] at HF0
              have HF1 : Hid (SlB encQ w w.heap.size (.slice (if cR = 1 then a5 else a5.map (fun x => ⟨x.block, x.off + 25, none⟩)) (nR - 1) (cR - 1)) r1) := HF0
              clear HF0 eadd
              have hn1 : (1 : Int) ≤ (nR : Int) := by omega
              have hc1 : (1 : Int) ≤ (cR : Int) := by have := (by obtain ⟨_, _, e, h2, _⟩ := HDQ.out; injection e with e1 e2 e3; omega : nR ≤ cR); omega
              go_upto_region 14 with fail
              generalize hgen5 : (if cR = 1 then a5 else Option.map (fun x => (⟨x.block, x.off + 25, none⟩ : Addr)) a5) = aF at *
              clear hgen5
              generalize nR - 1 = nF at *
              generalize cR - 1 = cF at *
              have HF : Hid (SlB encQ w w.heap.size (.slice aF nF cF) (strikeP Pq.n (highP Pq.n Rr c.n) c.n)) := (by
                rw [HR1.out, strike_cons, if_pos (by have h1 := HEQ.out; rw [hke] at h1; simpa using h1.symm)]
                exact HF1.out)
              have HBY : Hid (Below w.heap.size w w1.drew) := HB1.out.trans ⟨rfl, rfl, rfl, Nat.le_refl _, fun _ _ => rfl⟩
              have HOY : Hid (Own encQ 89 w1.drew w.heap.size (.slice a1 nA k1) (A ++ lowP Pq.n Rr c.n)) := HO1.out.below ⟨rfl, rfl, rfl, Nat.le_refl _, fun _ _ => rfl⟩
              have HUY : Hid (InB encCq 38 w1.drew q c) := HU1.out.same rfl
              obtain ⟨cv, cg⟩ := range_vG (HUY.out).range
              simp only [Nat.zero_add] at cv cg
              cases hg : c.g with
              | true =>
                rw [hg] at cg
                have HMK : Hid (c.mk' = none) := Cq.mk_none hg
                go_wp2_with fail
                go_roundg gg
                case measure => omega
                case rel =>
                  refine ⟨i + 1, _, _, _, _, _, _, _, by omega, rfl, rfl, rfl, congrArg (Value.int .i64) (by first | omega | (unfold wrap64; omega)), ?_⟩
                  exact ⟨_, _, MgS.next HS3.out HDR.out (HBY.out) HF.out (by rw [HMK.out]; show Own _ _ _ _ _ (_ ++ []); rw [List.append_nil]; exact HOY.out) (by rw [HMK.out, HHIT.out]; simp)⟩
              | false =>
                rw [hg] at cg
                have HMK : Hid (c.mk' = some ⟨c.k, c.h, c.s⟩) := Cq.mk_some hg
                go_wp2_with (first
                  | (refine load_part _ rfl q 0 rfl rfl _ c.h (range_kG (HUY.out).range) ?_)
                  | (refine build_q rfl _ _ rfl ⟨c.k, c.h, c.s⟩ rfl rfl ?_)
                  | (refine build_el1 rowQ rfl _ rfl ⟨c.k, c.h, c.s⟩ rfl (by decide) ?_; intro x5 o5 b5 s5 k5; have HO6 : Hid (Own encQ 89 x5 w.heap.size (.slice a1 nA k1) (A ++ lowP Pq.n Rr c.n)) := HOY.out.below b5; have HB6 : Hid (Below w.heap.size w x5) := HBY.out.trans (b5.mono HBY.out.size); clear o5 s5)
                  | (at_builtin; refine append_one rowQ rfl _ _ rfl w.heap.size (.slice a1 nA k1) (A ++ lowP Pq.n Rr c.n) rfl HO6.out _ ⟨c.k, c.h, c.s⟩ rfl _ _ k5 HLB.out (by decide) HB6.out.size ?_; intro g6 c6' x6 ho6 gr6 hg6 hs6))
                go_roundg gg
                case measure => omega
                case rel =>
                  refine ⟨i + 1, _, _, _, _, _, _, _, by omega, rfl, rfl, rfl, congrArg (Value.int .i64) (by first | omega | (unfold wrap64; omega)), ?_⟩
                  exact ⟨_, _, MgS.next HS3.out HDR.out (HB6.out.grown gr6 HB6.out.size (fun k hk => (HO6.out.lt k hk).1)) HF.out (by rw [HMK.out]; rw [List.length_append] at ho6; exact ho6) (by rw [HMK.out]; simp)⟩
            | false =>
              have HHIT : Hid (hitP Pq.n (highP Pq.n Rr c.n) c.n = false) := (show _ = _ by rw [HR1.out]; show decide (pj.n = c.n) = false; rw [← HEQ.out]; exact hke)
              have HF : Hid (SlB encQ w w.heap.size (.slice (some ⟨g5, off5, none⟩) nR cR) (strikeP Pq.n (highP Pq.n Rr c.n) c.n)) := (by
                rw [HR1.out, strike_cons, if_neg (fun e => by have h1 := HEQ.out; rw [hke, e] at h1; simp at h1)]
                exact HDQ.out)
              refine wp_region_noPanic ?_
              refine wp_region_held_drew (S := (fun y => Below w1.heap.size w1 y)) (by kernel_rfl) ((Below.refl _ _).trans ⟨rfl, rfl, rfl, Nat.le_refl _, fun _ _ => rfl⟩) (fun hHeld => ?_)
              refine wpAnyH_take (i := 0) (v := ?_) rfl (by kernel_rfl) (by kernel_rfl) (by kernel_rfl) (fun _ _ _ h => h) (Or.inl ⟨by rfl, ?_⟩) hHeld ?_
              case refine_2 => (intro w hSw; (try dsimp only at hSw); go_simp; try (with_reducible rfl))
              (try simp only [gs])
              refine wpAnyH_take (i := 1) (v := ?_) rfl (by kernel_rfl) (by kernel_rfl) (by kernel_rfl) (fun _ _ _ h => h) (Or.inl ⟨by rfl, ?_⟩) hHeld ?_
              case refine_2 => (intro w hSw; (try dsimp only at hSw); go_simp; try (with_reducible rfl))
              (try simp only [gs])
              refine wpAnyH_take (i := 2) (v := ?_) rfl (by kernel_rfl) (by kernel_rfl) (by kernel_rfl) (fun _ _ _ h => h) (Or.inl ⟨by rfl, ?_⟩) hHeld ?_
              case refine_2 => (intro w hSw; (try dsimp only at hSw); go_simp; try (with_reducible rfl))
              (try simp only [gs])
              refine wpAnyH_take (i := 3) (v := .bool true) rfl (by kernel_rfl) (by kernel_rfl) (by kernel_rfl) (fun _ _ _ h => h) (Or.inl ⟨by rfl, ?_⟩) hHeld ?_
              case refine_1 => (intro w hSw; (try dsimp only at hSw); go_simp; first | done | rfl)
              (try simp only [gs])
              refine wpAnyH_take (i := 4) (v := ?_) rfl (by kernel_rfl) (by kernel_rfl) (by kernel_rfl) (fun _ _ _ h => h) (Or.inl ⟨by rfl, ?_⟩) hHeld ?_
              case refine_2 => (intro w hSw; (try dsimp only at hSw); go_simp; try (with_reducible rfl))
              (try simp only [gs])
              refine wpAnyH_take (i := 5) (v := ?_) rfl (by kernel_rfl) (by kernel_rfl) (by kernel_rfl) (fun _ _ _ h => h) (Or.inl ⟨by rfl, ?_⟩) hHeld ?_
              case refine_2 => (intro w hSw; (try dsimp only at hSw); go_simp; try (with_reducible rfl))
              (try simp only [gs])
              refine wpAnyH_take (i := 6) (v := ?_) rfl (by kernel_rfl) (by kernel_rfl) (by kernel_rfl) (fun _ _ _ h => h) (Or.inl ⟨by rfl, ?_⟩) hHeld ?_
              case refine_2 => (intro w hSw; (try dsimp only at hSw); go_simp; try (with_reducible rfl))
              (try simp only [gs])
              refine wpAnyH_take (i := 7) rfl (by kernel_rfl) (by kernel_rfl) (by kernel_rfl) (fun _ _ _ h => h) (yieldsIf_load_mid (by rfl) _ _ rfl _ _ rfl _ _ (fun _ h => HRK5.out _ h) Tryz.underlying25 rfl (by rw [bc_length, HK.out]; exact Tryz.key_info)) hHeld ?_
              (try simp only [gs])
              refine wpAnyH_take (i := 8) (v := ?_) rfl (by kernel_rfl) (by kernel_rfl) (by kernel_rfl) (fun _ _ _ h => h) (Or.inl ⟨by rfl, ?_⟩) hHeld ?_
              case refine_2 => (intro w hSw; (try dsimp only at hSw); go_simp; try (with_reducible rfl))
              (try simp only [gs])
              refine wpAnyH_take (i := 9) rfl (by kernel_rfl) (by kernel_rfl) (by kernel_rfl) (fun _ _ _ h => h) (yieldsIf_load_mid (by rfl) _ _ rfl _ _ rfl _ _ (fun _ h => HCK5.out _ h) Tryz.underlying25 rfl (by rw [bc_length, HC24.out]; exact Tryz.key_info)) hHeld ?_
              (try simp only [gs])
              refine wpAnyH_take (i := 10) (v := .bool false) rfl (by kernel_rfl) (by kernel_rfl) (by kernel_rfl) (fun _ _ _ h => h) (Or.inl ⟨by rfl, ?_⟩) hHeld ?_
              case refine_1 => (intro w hSw; (try dsimp only at hSw); have q := eq_key w KJ c.k HK.out HC24.out; rw [hke] at q; go_simp; first | done | rfl)
              (try simp only [gs])
              refine wpAnyH_take (i := 11) (v := ?_) rfl (by kernel_rfl) (by kernel_rfl) (by kernel_rfl) (fun _ _ _ h => h) (Or.inl ⟨by rfl, ?_⟩) hHeld ?_
              case refine_2 => (intro w hSw; (try dsimp only at hSw); go_simp; try (with_reducible rfl))
              (try simp only [gs])
              refine wpAnyH_done (by kernel_rfl) ?_ _
              refine NoPanic.normal ?_
              have HBY : Hid (Below w.heap.size w w1.drew) := HB1.out.trans ⟨rfl, rfl, rfl, Nat.le_refl _, fun _ _ => rfl⟩
              have HOY : Hid (Own encQ 89 w1.drew w.heap.size (.slice a1 nA k1) (A ++ lowP Pq.n Rr c.n)) := HO1.out.below ⟨rfl, rfl, rfl, Nat.le_refl _, fun _ _ => rfl⟩
              have HUY : Hid (InB encCq 38 w1.drew q c) := HU1.out.same rfl
              obtain ⟨cv, cg⟩ := range_vG (HUY.out).range
              simp only [Nat.zero_add] at cv cg
              cases hg : c.g with
              | true =>
                rw [hg] at cg
                have HMK : Hid (c.mk' = none) := Cq.mk_none hg
                go_wp2_with fail
                go_roundg gg
                case measure => omega
                case rel =>
                  refine ⟨i + 1, _, _, _, _, _, _, _, by omega, rfl, rfl, rfl, congrArg (Value.int .i64) (by first | omega | (unfold wrap64; omega)), ?_⟩
                  exact ⟨_, _, MgS.next HS3.out HDR.out (HBY.out) HF.out (by rw [HMK.out]; show Own _ _ _ _ _ (_ ++ []); rw [List.append_nil]; exact HOY.out) (by rw [HMK.out, HHIT.out]; cases ch <;> rfl)⟩
              | false =>
                rw [hg] at cg
                have HMK : Hid (c.mk' = some ⟨c.k, c.h, c.s⟩) := Cq.mk_some hg
                go_wp2_with (first
                  | (refine load_part _ rfl q 0 rfl rfl _ c.h (range_kG (HUY.out).range) ?_)
                  | (refine build_q rfl _ _ rfl ⟨c.k, c.h, c.s⟩ rfl rfl ?_)
                  | (refine build_el1 rowQ rfl _ rfl ⟨c.k, c.h, c.s⟩ rfl (by decide) ?_; intro x5 o5 b5 s5 k5; have HO6 : Hid (Own encQ 89 x5 w.heap.size (.slice a1 nA k1) (A ++ lowP Pq.n Rr c.n)) := HOY.out.below b5; have HB6 : Hid (Below w.heap.size w x5) := HBY.out.trans (b5.mono HBY.out.size); clear o5 s5)
                  | (at_builtin; refine append_one rowQ rfl _ _ rfl w.heap.size (.slice a1 nA k1) (A ++ lowP Pq.n Rr c.n) rfl HO6.out _ ⟨c.k, c.h, c.s⟩ rfl _ _ k5 HLB.out (by decide) HB6.out.size ?_; intro g6 c6' x6 ho6 gr6 hg6 hs6))
                go_roundg gg
                case measure => omega
                case rel =>
                  refine ⟨i + 1, _, _, _, _, _, _, _, by omega, rfl, rfl, rfl, congrArg (Value.int .i64) (by first | omega | (unfold wrap64; omega)), ?_⟩
                  exact ⟨_, _, MgS.next HS3.out HDR.out (HB6.out.grown gr6 HB6.out.size (fun k hk => (HO6.out.lt k hk).1)) HF.out (by rw [HMK.out]; rw [List.length_append] at ho6; exact ho6) (by rw [HMK.out]; simp)⟩
end Go.Proofs.YtjhdnpplmlddaaaGreat
