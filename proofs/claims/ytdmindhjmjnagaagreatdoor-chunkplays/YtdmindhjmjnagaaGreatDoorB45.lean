import Derived.Test.YtdmindhjmjnagaaGreatDoorSi
import Derived.Test.YtdmindhjmjnagaaGreatDoorB01
import Derived.Test.YtdmindhjmjnagaaGreatDoorB44
import Derived.OwnWalk
import Derived.Test.YtdmindhjmjnagaaGreatDoorB31
import Derived.Lib.BufferWrite
/- CpE Zr FbR CpF -/
namespace Go.Proofs.YtdmindhjmjnagaaGreatDoor
set_option linter.unusedVariables false
set_option maxRecDepth 1000000
set_option maxHeartbeats 32000000
section
open Go.RowKit
theorem full_take {v : List UInt8} (hv : v.length ≤ 32) {m : Nat} (hm : m ≤ 32) : fullP ((fullP v).take m) = fullP (v.take m) := by
 have e : ∀ S : List UInt8, S.length ≤ 32 → fullP S = S ++ List.replicate (32 - S.length) 0 := fun S h => by
  unfold fullP
  rw [List.take_of_length_le h]
 rw [e ((fullP v).take m) (by rw [List.length_take]; omega), e (v.take m) (by rw [List.length_take]; omega), e v hv, List.take_append, List.take_replicate, List.append_assoc]
 congr 1
 rw [List.replicate_append_replicate]
 congr 1
 simp only [List.length_append, List.length_take, List.length_replicate]
 omega
theorem trim_take {v : List UInt8} (hv : v.length ≤ 32) {m : Nat} (hm : m ≤ 32) : trimmed ((fullP v).take m) = trimmed (v.take m) := by
 have e1 := (chunk_is ((fullP v).take m) (by rw [List.length_take]; omega)).tf
 have e2 := (chunk_is (v.take m) (by rw [List.length_take]; omega)).tf
 have f1 := (chunk_is ((fullP v).take m) (by rw [List.length_take]; omega)).fs
 have f2 := (chunk_is (v.take m) (by rw [List.length_take]; omega)).fs
 rw [← e1, ← e2, ← f1, ← f2, full_take hv hm]
theorem cutO_live {C : List Ch} (h : FileOk C) {ino : Int} (hi : okN ino = true) {sz : Nat} (hsz : sz ≤ 1048576) {p : Pa} (hp : p ∈ lives C (chsS ino ((sz / 32 : Nat) : Int))) :
    ∃ pl : Nat, sz / 32 ≤ pl ∧ pl ≤ 4294967295 ∧ p.k = chunkR ino (pl : Int) ∧ right p.k = true ∧ pPlace p.k = (pl : Int) ∧ p.v.length ≤ 32
      ∧ cutO (sz : Int) p = if trimmed (p.v.take (if pl = sz / 32 then sz % 32 else 0)) = p.v then none else some ⟨p.k, p.h, trimmed (p.v.take (if pl = sz / 32 then sz % 32 else 0))⟩ := by
 unfold lives inL at hp
 obtain ⟨c, hc, rfl⟩ := List.mem_map.1 hp
 obtain ⟨hc1, hg⟩ := List.mem_filter.1 hc
 obtain ⟨hcm, hin⟩ := List.mem_filter.1 hc1
 obtain ⟨b, q, i1, i2, k1, k2, k3⟩ := h.ok c hcm
 have hq : 0 ≤ q ∧ q ≤ 4294967295 := by unfold okP at i2; simp at i2; omega
 obtain ⟨pl, rfl⟩ := Int.eq_ofNat_of_zero_le hq.1
 have hn : c.n = (keyC b (pl : Int)).n := by show (num c.k : Int) = (num (chunkR b (pl : Int)) : Int); rw [k1]
 rw [hn, chsS_in hi i1 (okP_nat (by omega)) (okP_nat (by omega))] at hin
 have hin2 : b = ino ∧ ((sz / 32 : Nat) : Int) ≤ (pl : Int) := of_decide_eq_true hin
 obtain ⟨rfl, hle⟩ := hin2
 have hcr := chunk_right i1 (okP_nat (n := pl) (by omega))
 have hpp : pPlace c.k = (pl : Int) := by
  have h1 : chunkR b (pl : Int) = chunkK b.toNat ((pl : Int)).toNat := by unfold chunkR; rw [i1, i2]; rfl
  rw [k1, h1]
  exact (chunk_says i1 i2).2.2
 have hv : c.v.length ≤ 32 := by rw [← k2]; exact trimmed_length _
 have hv0 : c.v ≠ [] := fun e => by
  have := k3.2 e
  rw [this] at hg
  cases hg
 refine ⟨pl, by omega, by omega, k1, by show right c.k = true; rw [k1]; exact hcr.1, hpp, hv, ?_⟩
 have hst : (staysP (sz : Int) (pl : Int)).toNat = if pl = sz / 32 then sz % 32 else 0 := by unfold staysP; split <;> omega
 unfold cutO
 rw [if_pos (show right c.pa.k = true by show right c.k = true; rw [k1]; exact hcr.1), show pPlace c.pa.k = (pl : Int) from hpp, hst]
 have hm : (if pl = sz / 32 then sz % 32 else 0) ≤ 32 := by split <;> omega
 generalize (if pl = sz / 32 then sz % 32 else 0) = m at *
 rw [show c.pa.v = c.v from rfl, trim_take hv hm]
 by_cases ht : trimmed (c.v.take m) = c.v
 · rw [if_pos ht, if_neg (fun e => e.elim (fun e => hv0 (by rw [← ht, e])) (fun e => e ht))]
 · rw [if_neg ht, if_pos (.inr ht)]
theorem DcTo.cut {w z : World} {rp : Nat} {bv cv rv : Value} {V : VS} {j : Nat} (h : DcTo w rp bv cv rv V j z) : ∃ cv1 rv1, DcTo z rp bv cv1 rv1 V j z ∧ ∀ V' j' y, DcTo z rp bv cv1 rv1 V' j' y → DcTo w rp bv cv rv V' j' y := by
 obtain ⟨cv', rv', C, R, h1, h2, h3, h4, h5⟩ := h
 refine ⟨cv', rv', ⟨cv', rv', C, R, h1, .inl rfl, .inl rfl, h4, FrV.refl _ _⟩, fun V' j' y t => ?_⟩
 obtain ⟨c2, r2, C2, R2, t1, t2, t3, t4, t5⟩ := t
 refine ⟨c2, r2, C2, R2, t1, ?_, ?_, t4, h5.trans t5 (fun i e => .inl e)⟩
 · rcases t2 with rfl | t2
   · exact h2
   · exact .inr (newV_up h5.size t2)
 · rcases t3 with rfl | t3
   · exact h3
   · exact .inr (newV_up h5.size t3)
theorem DcTo.fr {w z : World} {rp : Nat} {bv cv rv : Value} {V : VS} {j : Nat} (h : DcTo w rp bv cv rv V j z) : FrV (fun i => i = rp) w z := by
 obtain ⟨cv', rv', C, R, h1, h2, h3, h4, h5⟩ := h
 exact h5
theorem DcTo.rplt {w z : World} {rp : Nat} {bv cv rv : Value} {V : VS} {j : Nat} (h : DcTo w rp bv cv rv V j z) : rp < z.heap.size := by
 obtain ⟨cv', rv', C, R, h1, h2, h3, h4, h5⟩ := h
 exact h1.lt
theorem DcTo.le {w z : World} {rp : Nat} {bv cv rv : Value} {V : VS} {j j' : Nat} (h : DcTo w rp bv cv rv V j z) (hj : j ≤ j') : DcTo w rp bv cv rv V j' z := by
 obtain ⟨d, rfl⟩ := Nat.exists_eq_add_of_le hj
 clear hj
 induction d with
 | zero => exact h
 | succ d ih => exact ih.up
theorem cutL_same {C : List Ch} (h : Asc Ch.n C) (V1 : VS) (hV : V1.C = C) (s : Sp) (size : Int) (k : Nat) : (chAll V1 (cutL size ((lives C s).take k))).C.length = C.length := by
 rw [chAll_same V1 (by rw [hV]; exact h) _ (fun p hp => ?_), hV]
 unfold cutL at hp
 obtain ⟨x, hx, hxp⟩ := List.mem_filterMap.1 hp
 have hx2 := List.mem_of_mem_take hx
 rw [(cutO_n hxp).1, hV]
 unfold lives at hx2
 obtain ⟨c, hc, rfl⟩ := List.mem_map.1 hx2
 have hcm : c ∈ C := (List.mem_filter.1 (List.mem_filter.1 hc).1).1
 have := look_mem Ch.n h hcm
 show (look Ch.n C c.n).isSome = true
 rw [this]
 rfl
theorem str_min (v : List UInt8) (m : Nat) : (str v).extract 0 (min ((str v).size : Int) (m : Int)).toNat = str (v.take m) := by
 have h : (min ((str v).size : Int) (m : Int)).toNat = min v.length m := by rw [str_size]; omega
 rw [h, str_take]
 by_cases q : v.length ≤ m
 · rw [Nat.min_eq_left q, List.take_length, List.take_of_length_le q]
 · rw [Nat.min_eq_right (by omega)]
theorem okW_0 {n : Int} (h : okW 0 n = true) : 0 ≤ n ∧ n ≤ 1048576 := by unfold okW at h; simp at h; omega
theorem rcut13_ok (w y : World) (rp : Nat) (bv cv rv : Value) (V : VS) (j : Nat) (h : DcTo w rp bv cv rv V j y) (hA : FileOk V.C) (hC : V.C.length ≤ 850) (hR : V.R.length ≤ 298) (ino : Int) (h1 : okNum ino = true) (hi : okN ino = true) (sz : Nat) (hsz : sz ≤ 1048576) :
    Calls Tryz.prog 15 #[.pointer (some ⟨rp, 0, none⟩), .int .i64 ino, .int .i64 (sz : Int)] y fun e y' => e = .returned (.int .i64 0) ∧ DcTo w rp bv cv rv (cutV V ino (sz : Int)) (j + 1 + V.C.length) y' := by
 have hM := fun z => rmay_calls ino 0 (sz : Int) (by omega) (by omega) z
 rw [h1, show okW 0 (sz : Int) = true by unfold okW; simp; omega] at hM
 have hCh := fun z => rchunks_calls ino (((sz / 32 : Nat)) : Int) z
 have q1 : (sz : Int) / 32 = ((sz / 32 : Nat) : Int) := by omega
 have q2 : (sz : Int) % 32 = ((sz % 32 : Nat) : Int) := by omega
 have hSC := fun z (b : DcTo w rp bv cv rv V j z) => DcTo.scan b (by omega) (by omega) (chsS ino ((sz / 32 : Nat) : Int))
 have HSC : Hid (∀ z, DcTo w rp bv cv rv V j z → Calls Tryz.prog 40 #[.pointer (some ⟨rp, 0, none⟩), sv (chunksF ino ((sz / 32 : Nat) : Int)) (chunksT ino ((sz / 32 : Nat) : Int)) false] z fun e y' => ∃ v, e = .returned v ∧ Own encP 62 y' z.heap.size v (lives V.C (chsS ino ((sz / 32 : Nat) : Int))) ∧ DcTo w rp bv cv rv { V with R := V.R ++ [chsS ino ((sz / 32 : Nat) : Int)] } (j + 1) y') := hSC
 have HST : Hid (DcTo w rp bv cv rv V j y) := h
 have HCV : Hid (cutV V ino (sz : Int) = chAll { V with R := V.R ++ [chsS ino ((sz / 32 : Nat) : Int)] } (cutL (sz : Int) (lives V.C (chsS ino ((sz / 32 : Nat) : Int))))) := (show _ = _ by unfold cutV; rw [q1])
 have HLV : Hid (∀ p ∈ lives V.C (chsS ino ((sz / 32 : Nat) : Int)), ∃ pl : Nat, sz / 32 ≤ pl ∧ pl ≤ 4294967295 ∧ p.k = chunkR ino (pl : Int) ∧ right p.k = true ∧ pPlace p.k = (pl : Int) ∧ p.v.length ≤ 32
     ∧ cutO (sz : Int) p = if trimmed (p.v.take (if pl = sz / 32 then sz % 32 else 0)) = p.v then none else some ⟨p.k, p.h, trimmed (p.v.take (if pl = sz / 32 then sz % 32 else 0))⟩) := fun p hp => cutO_live hA hi hsz hp
 have HLL : Hid ((lives V.C (chsS ino ((sz / 32 : Nat) : Int))).length ≤ V.C.length) := lives_len _ _
 have HA : Hid (okN ino = true ∧ sz ≤ 1048576 ∧ V.C.length ≤ 850) := ⟨hi, hsz, hC⟩
 have hszI : (sz : Int) ≤ 1048576 := by omega
 have HSM : Hid (∀ k, (chAll { V with R := V.R ++ [chsS ino ((sz / 32 : Nat) : Int)] } (cutL (sz : Int) ((lives V.C (chsS ino ((sz / 32 : Nat) : Int))).take k))).C.length = V.C.length) := fun k => cutL_same hA.asc { V with R := V.R ++ [chsS ino ((sz / 32 : Nat) : Int)] } rfl _ _ k
 clear hSC h hA hR hi h1
 go_enter Tryz.func15, Tryz.ntmps15
 go_upto_region 4 with (go_at_call 33; refine (hM _).mono ?_; clear hM; rintro e y1 ⟨rfl, rfl⟩)
 obtain ⟨FS, hFS⟩ : ∃ FS : Nat, FS = sz / 32 := ⟨_, rfl⟩
 obtain ⟨MD, hMD⟩ : ∃ MD : Nat, MD = sz % 32 := ⟨_, rfl⟩
 rw [← hFS] at q1 hCh HSC HCV HLV HLL HSM
 rw [← hMD] at q2 HLV
 have HFM : Hid (FS ≤ 32768 ∧ MD < 32) := ⟨by omega, by omega⟩
 have hmd : (MD : Int) ≤ 31 := by omega
 have hmd0 : (0 : Int) ≤ (MD : Int) := by omega
 generalize lives V.C (chsS ino (FS : Int)) = L at *
 generalize { V with R := V.R ++ [chsS ino (FS : Int)] } = V1 at *
 obtain ⟨N, hN⟩ : ∃ N : Nat, N = L.length := ⟨_, rfl⟩
 have HN : Hid (N = L.length ∧ N ≤ 850) := ⟨hN, by have := HLL.out; have := HA.out.2.2; omega⟩
 clear hN hFS hMD
 go_upto_region 5 with (first
  | (go_at_call 41; refine (hCh _).mono ?_; clear hCh; rintro e w2 ⟨rfl, b2⟩
     have hSC := HSC.out w2 (HST.out.called b2)
     have HW2 : rp < w2.heap.size := (HST.out.called b2).rplt
     clear b2)
  | (go_at_call 40; refine hSC.mono ?_; clear hSC; rintro e z ⟨vv, rfl, o, P⟩
     obtain ⟨adL, capL, rfl, -, -, -, -⟩ := id o.slB
     rw [← HN.out.1]))
 have HIL : Hid (∀ i (hi : i < L.length), ∃ g off, adL = some ⟨g, off, none⟩ ∧ g < z.heap.size ∧ z.rangeAt g (off + i * 25) (encP.c L[i])) := fun i hi => SlB.at o.slB i hi
 obtain ⟨cv1, rv1, P1, PB⟩ := P.cut
 have HP : Hid (DcTo z rp bv cv1 rv1 V1 (j + 1) z ∧ ∀ V' j' y, DcTo z rp bv cv1 rv1 V' j' y → DcTo w rp bv cv rv V' j' y) := ⟨P1, PB⟩
 have HNR : Hid (∀ g off, adL = some ⟨g, off, none⟩ → g ≠ rp) := fun g off e => by
  subst e
  have h1 := (o.lt g rfl).1
  omega
 clear o P P1 PB HW2 HSC HST
 go_wp2_with fail
 go_loopg [9] N (fun gg i wr => ∃ k : Nat, k + gg = N ∧ i = .int .i64 (k : Int) ∧ Hid (DcTo z rp bv cv1 rv1 (chAll V1 (cutL (sz : Int) (L.take k))) (j + 1 + k) wr))
 case atStart => exact ⟨0, by omega, rfl, HP.out.1⟩
 case round =>
  obtain ⟨k, hkg, rfl, HB⟩ := hrel
  cases gk with
  | zero =>
   have hkN : ¬ (k : Int) < (N : Int) := by omega
   have HF : Hid (DcTo w rp bv cv rv (cutV V ino (sz : Int)) (j + 1 + V.C.length) wr) := (show DcTo _ _ _ _ _ _ _ _ by
    rw [HCV.out]
    refine (HP.out.2 _ _ _ ?_).le (j := j + 1 + k) (by have := HN.out; have := HLL.out; omega)
    have := HB.out
    rwa [List.take_of_length_le (by have := HN.out; omega)] at this)
   clear hkg HB
   go_wp2_with fail
   go_ret
   exact ⟨rfl, HF.out⟩
  | succ gg =>
   have hkI : (k : Int) < (N : Int) := by omega
   have hk0 : (0 : Int) ≤ (k : Int) := by omega
   have hkb : (k : Int) ≤ 850 := by have := HN.out; omega
   have hkl : k < L.length := by have := HN.out; omega
   obtain ⟨g, off, rfl, hg, hat⟩ := HIL.out k hkl
   have hgr := HNR.out g off rfl
   obtain ⟨pl, hpl1, hpl2, hpl3, hr1, hpp, hvl, hco⟩ := HLV.out L[k] (List.getElem_mem hkl)
   have HTK : Hid (L.take (k + 1) = L.take k ++ [L[k]]) := (show _ = _ from List.take_succ_eq_append_getElem hkl)
   generalize L[k] = c at *
   have HPL : Hid (okP (pl : Int) = true ∧ c.k = chunkR ino (pl : Int)) := ⟨okP_nat hpl2, hpl3⟩
   have HVV : Hid (c.v.length ≤ 32) := hvl
   have HCO : Hid (∀ m, (if pl = FS then MD else 0) = m → cutO (sz : Int) c = if trimmed (c.v.take m) = c.v then none else some ⟨c.k, c.h, trimmed (c.v.take m)⟩) := fun m e => by rw [← e]; exact hco
   have hplI : (pl : Int) ≤ 4294967295 := by omega
   clear hpl1 hpl2 hpl3 hvl hco
   have HRG : Hid (wr.rangeAt g (off + k * 25) (encP.c c)) := range_same' hat (HB.out.fr.block g hg hgr)
   have HRZ : Hid (∀ yy, Below wr.heap.size wr yy → yy.rangeAt g (off + k * 25) (encP.c c)) := fun yy b => range_same' HRG.out (b.block g (Nat.lt_of_lt_of_le hg HB.out.size))
   have hOf := fun w => r3of_calls w c.k c.h
   have hv : ofV c.k = pv (pIno c.k) (pKind c.k) (pName c.k) (pl : Int) := by unfold ofV; rw [if_pos hr1, hpp]
   rw [hv, hr1] at hOf
   clear hat hg hgr hkl hv hr1 hpp
   go_upto_region 9 with (first
    | (refine load_part _ rfl g (off + k * 25) rfl rfl _ c.h (range_kP HRG.out) ?_)
    | (go_at_call 42; refine (hOf _).mono ?_; rintro e x2 ⟨rfl, b2⟩))
   have hrow := heap_alloc_new x2 (.cells #[.int .i64 (pIno c.k), .int .i64 (pKind c.k), .string (str (pName c.k)), .int .i64 (pl : Int)] 90)
   have hcP : (x2.alloc (.cells #[.int .i64 (pIno c.k), .int .i64 (pKind c.k), .string (str (pName c.k)), .int .i64 (pl : Int)] 90)).cell? ⟨x2.heap.size, 3, none⟩ = some (.int .i64 (pl : Int)) := by rw [cell_of_row _ _ _ _ _ _ hrow]; rfl
   have bA := b2.trans (((Below.refl _ x2).alloc (Nat.le_refl _) (.cells #[.int .i64 (pIno c.k), .int .i64 (pKind c.k), .string (str (pName c.k)), .int .i64 (pl : Int)] 90)).mono b2.size)
   generalize x2.alloc (.cells #[.int .i64 (pIno c.k), .int .i64 (pKind c.k), .string (str (pName c.k)), .int .i64 (pl : Int)] 90) = x3 at *
   have HB3 : Hid (DcTo z rp bv cv1 rv1 (chAll V1 (cutL (sz : Int) (L.take k))) (j + 1 + k) x3.drew) := (HB.out.called bA).called ⟨rfl, rfl, rfl, Nat.le_refl _, fun _ _ => rfl⟩
   have hvcx : x3.cell? ⟨g, off + k * 25 + 24, none⟩ = some (.string (str c.v)) := range_vP (HRZ.out _ bA)
   have HVC : Hid (x3.drew.cell? ⟨g, off + k * 25 + 24, none⟩ = some (.string (str c.v))) := hvcx
   clear hvcx
   have HPC : Hid (x3.drew.cell? ⟨x2.heap.size, 3, none⟩ = some (.int .i64 (pl : Int))) := hcP
   clear hrow b2 bA hOf HRG HRZ HB
   by_cases hpe : pl = FS
   · have hpb : ((pl : Int) == (FS : Int)) = true := by simp; omega
     have HPE : Hid (pl = FS) := hpe
     clear hpe
     have hTr := fun y => rtrim_calls y (c.v.take MD) (by rw [List.length_take]; have := HVV.out; omega)
     have hpu := fun y (b : DcTo z rp bv cv1 rv1 (chAll V1 (cutL (sz : Int) (L.take k))) (j + 1 + k) y) => DcTo.put b (by rw [HSM.out]; have := HA.out.2.2; omega) ino (pl : Int) HA.out.1 HPL.out.1 (trimmed (c.v.take MD)) (by have := trimmed_length (c.v.take MD); omega)
     rw [trimmed_twice] at hpu
     have HPU : Hid (∀ y, DcTo z rp bv cv1 rv1 (chAll V1 (cutL (sz : Int) (L.take k))) (j + 1 + k) y → Calls Tryz.prog 37 #[.pointer (some ⟨rp, 0, none⟩), .int .i64 ino, .int .i64 (pl : Int), .string (str (trimmed (c.v.take MD)))] y fun e y' => (∃ x, e = .returned x) ∧ DcTo z rp bv cv1 rv1 ((chAll V1 (cutL (sz : Int) (L.take k))).change (chgP ⟨chunkR ino (pl : Int), chunkR_length ino (pl : Int), trimmed (c.v.take MD)⟩)) (j + 1 + k + 1) y') := hpu
     have HCK : Hid (cutO (sz : Int) c = if trimmed (c.v.take MD) = c.v then none else some ⟨c.k, c.h, trimmed (c.v.take MD)⟩) := HCO.out MD (if_pos HPE.out)
     have hm0 : (0 : Int) ≤ min ((str c.v).size : Int) (MD : Int) := by omega
     have hm1 : min ((str c.v).size : Int) (MD : Int) ≤ ((str c.v).size : Int) := by omega
     have st1 : (str c.v).extract 0 (min ((str c.v).size : Int) (MD : Int)).toNat = str (c.v.take MD) := str_min c.v MD
     clear hpu HCO
     generalize trimmed (c.v.take MD) = T at *
     go_upto_region 12 with fail
     clear hpb
     refine wp_region_noPanic ?_
     refine wp_region_held_drew (S := (fun yy => yy.cell? ⟨g, off + k * 25 + 24, none⟩ = some (.string (str c.v)))) (by kernel_rfl) HVC.out (fun hh => ?_)
     refine tl ?_ 0 rfl hh ⟨by rfl, ?_⟩ ?_
     case refine_2 => (intro w hSw; go_simp; try with_reducible rfl)
     (try simp only [gs])
     refine tl ?_ 1 rfl hh ⟨by rfl, ?_⟩ ?_
     case refine_2 => (intro w hSw; go_simp; try with_reducible rfl)
     (try simp only [gs])
     refine tl ?_ 2 rfl hh ⟨by rfl, ?_⟩ ?_
     case refine_2 => (intro w hSw; go_simp; try with_reducible rfl)
     (try simp only [gs])
     refine tl ?_ 3 rfl hh ⟨by rfl, ?_⟩ ?_
     case refine_2 => (intro w hSw; go_simp; try with_reducible rfl)
     (try simp only [gs])
     refine tl ?_ 4 rfl hh ⟨by rfl, ?_⟩ ?_
     case refine_2 => (intro w hSw; go_simp; try with_reducible rfl)
     (try simp only [gs])
     refine tl ?_ 5 rfl hh ⟨by rfl, ?_⟩ ?_
     case refine_2 => (intro w hSw; go_simp; try with_reducible rfl)
     (try simp only [gs])
     refine tl ?_ 6 rfl hh ⟨by rfl, ?_⟩ ?_
     case refine_2 => (intro w hSw; go_simp; try with_reducible rfl)
     (try simp only [gs])
     refine tl ?_ 7 rfl hh ⟨by rfl, ?_⟩ ?_
     case refine_2 => (intro w hSw; go_simp; try with_reducible rfl)
     (try simp only [gs])
     refine tl ?_ 8 rfl hh ⟨by rfl, ?_⟩ ?_
     case refine_2 => (intro w hSw; go_simp; try with_reducible rfl)
     (try simp only [gs])
     refine tl ?_ 9 rfl hh ⟨by rfl, ?_⟩ ?_
     case refine_2 => (intro w hSw; go_simp; try with_reducible rfl)
     (try simp only [gs])
     refine tl ?_ 10 rfl hh ⟨by rfl, ?_⟩ ?_
     case refine_2 => (intro w hSw; go_simp; try with_reducible rfl)
     (try simp only [gs])
     refine tl ?_ 11 rfl hh ⟨by rfl, ?_⟩ ?_
     case refine_2 => (intro w hSw; go_simp; try with_reducible rfl)
     (try simp only [gs])
     refine tl ?_ 12 rfl hh ⟨by rfl, ?_⟩ ?_
     case refine_2 => (intro w hSw; go_simp; try with_reducible rfl)
     (try simp only [gs])
     refine tl ?_ 13 rfl hh ⟨by rfl, ?_⟩ ?_
     case refine_2 => (intro w hSw; go_simp; try with_reducible rfl)
     (try simp only [gs])
     refine wpAnyH_ready (rs := [14]) (by kernel_rfl) (by simp) (AllReadyH.cons rfl (fun K0 hK => ?_) AllReadyH.nil)
     rw [if_pos (by rfl)]
     (try simp only [gs])
     go_simp
     (try rw [st1])
     refine (hTr _).mono ?_
     clear hTr
     rintro e z1 ⟨rfl, rfl⟩
     refine hK.out _ _ HVC.out (fun hh => ?_)
     clear hK K0
     (try simp only [gs])
     refine tl ?_ 15 rfl hh ⟨by rfl, ?_⟩ ?_
     case refine_2 => (intro w hSw; go_simp; try with_reducible rfl)
     (try simp only [gs])
     refine wpAnyH_done (by kernel_rfl) ?_ _
     refine NoPanic.normal ?_
     clear hh
     generalize x3.drew = x4 at *
     have hvc := HVC.out
     have hpc := HPC.out
     cases hq : ((str T).toList == (str c.v).toList) with
     | true =>
      have HE1 : Hid (cutL (sz : Int) (L.take (k + 1)) = cutL (sz : Int) (L.take k)) := (show _ = _ by
       rw [HTK.out, cutL_snoc, HCK.out]
       rw [str_toList, str_toList] at hq
       rw [if_pos (by simpa using hq)]
       simp)
      clear hpc
      go_wp2_with fail
      go_roundg gg
      case measure => omega
      case rel => exact ⟨k + 1, by omega, congrArg (Value.int .i64) (by omega), by rw [HE1.out]; exact HB3.out.up⟩
     | false =>
      have HE1 : Hid ((chAll V1 (cutL (sz : Int) (L.take k))).change (chgP ⟨chunkR ino (pl : Int), chunkR_length ino (pl : Int), T⟩) = chAll V1 (cutL (sz : Int) (L.take (k + 1)))) := (show _ = _ by
       rw [HTK.out, cutL_snoc, HCK.out]
       rw [str_toList, str_toList] at hq
       rw [if_neg (by simpa using hq), Option.toList_some, chAll_snoc]
       congr 2
       exact pa_eq HPL.out.2.symm rfl)
      have hp1 := HPU.out x4 HB3.out
      rw [HE1.out] at hp1
      go_wp2_with (go_at_call 37; refine hp1.mono ?_; clear hp1; rintro e z1 ⟨⟨xx, rfl⟩, P1⟩)
      go_roundg gg
      case measure => omega
      case rel => exact ⟨k + 1, by omega, congrArg (Value.int .i64) (by omega), P1⟩
   · have hpb : ((pl : Int) == (FS : Int)) = false := by simp; omega
     have HPE : Hid (¬ pl = FS) := hpe
     clear hpe
     have hTr := fun y => rtrim_calls y (c.v.take 0) (by rw [List.length_take]; have := HVV.out; omega)
     have hpu := fun y (b : DcTo z rp bv cv1 rv1 (chAll V1 (cutL (sz : Int) (L.take k))) (j + 1 + k) y) => DcTo.put b (by rw [HSM.out]; have := HA.out.2.2; omega) ino (pl : Int) HA.out.1 HPL.out.1 (trimmed (c.v.take 0)) (by have := trimmed_length (c.v.take 0); omega)
     rw [trimmed_twice] at hpu
     have HPU : Hid (∀ y, DcTo z rp bv cv1 rv1 (chAll V1 (cutL (sz : Int) (L.take k))) (j + 1 + k) y → Calls Tryz.prog 37 #[.pointer (some ⟨rp, 0, none⟩), .int .i64 ino, .int .i64 (pl : Int), .string (str (trimmed (c.v.take 0)))] y fun e y' => (∃ x, e = .returned x) ∧ DcTo z rp bv cv1 rv1 ((chAll V1 (cutL (sz : Int) (L.take k))).change (chgP ⟨chunkR ino (pl : Int), chunkR_length ino (pl : Int), trimmed (c.v.take 0)⟩)) (j + 1 + k + 1) y') := hpu
     have HCK : Hid (cutO (sz : Int) c = if trimmed (c.v.take 0) = c.v then none else some ⟨c.k, c.h, trimmed (c.v.take 0)⟩) := HCO.out 0 (if_neg HPE.out)
     have hm0 : (0 : Int) ≤ min ((str c.v).size : Int) 0 := by omega
     have hm1 : min ((str c.v).size : Int) 0 ≤ ((str c.v).size : Int) := by omega
     have st1 : (str c.v).extract 0 (min ((str c.v).size : Int) 0).toNat = str (c.v.take 0) := str_min c.v 0
     clear hpu HCO
     generalize trimmed (c.v.take 0) = T at *
     go_upto_region 12 with fail
     clear hpb
     refine wp_region_noPanic ?_
     refine wp_region_held_drew (S := (fun yy => yy.cell? ⟨g, off + k * 25 + 24, none⟩ = some (.string (str c.v)))) (by kernel_rfl) HVC.out (fun hh => ?_)
     refine tl ?_ 0 rfl hh ⟨by rfl, ?_⟩ ?_
     case refine_2 => (intro w hSw; go_simp; try with_reducible rfl)
     (try simp only [gs])
     refine tl ?_ 1 rfl hh ⟨by rfl, ?_⟩ ?_
     case refine_2 => (intro w hSw; go_simp; try with_reducible rfl)
     (try simp only [gs])
     refine tl ?_ 2 rfl hh ⟨by rfl, ?_⟩ ?_
     case refine_2 => (intro w hSw; go_simp; try with_reducible rfl)
     (try simp only [gs])
     refine tl ?_ 3 rfl hh ⟨by rfl, ?_⟩ ?_
     case refine_2 => (intro w hSw; go_simp; try with_reducible rfl)
     (try simp only [gs])
     refine tl ?_ 4 rfl hh ⟨by rfl, ?_⟩ ?_
     case refine_2 => (intro w hSw; go_simp; try with_reducible rfl)
     (try simp only [gs])
     refine tl ?_ 5 rfl hh ⟨by rfl, ?_⟩ ?_
     case refine_2 => (intro w hSw; go_simp; try with_reducible rfl)
     (try simp only [gs])
     refine tl ?_ 6 rfl hh ⟨by rfl, ?_⟩ ?_
     case refine_2 => (intro w hSw; go_simp; try with_reducible rfl)
     (try simp only [gs])
     refine tl ?_ 7 rfl hh ⟨by rfl, ?_⟩ ?_
     case refine_2 => (intro w hSw; go_simp; try with_reducible rfl)
     (try simp only [gs])
     refine tl ?_ 8 rfl hh ⟨by rfl, ?_⟩ ?_
     case refine_2 => (intro w hSw; go_simp; try with_reducible rfl)
     (try simp only [gs])
     refine tl ?_ 9 rfl hh ⟨by rfl, ?_⟩ ?_
     case refine_2 => (intro w hSw; go_simp; try with_reducible rfl)
     (try simp only [gs])
     refine tl ?_ 10 rfl hh ⟨by rfl, ?_⟩ ?_
     case refine_2 => (intro w hSw; go_simp; try with_reducible rfl)
     (try simp only [gs])
     refine tl ?_ 11 rfl hh ⟨by rfl, ?_⟩ ?_
     case refine_2 => (intro w hSw; go_simp; try with_reducible rfl)
     (try simp only [gs])
     refine tl ?_ 12 rfl hh ⟨by rfl, ?_⟩ ?_
     case refine_2 => (intro w hSw; go_simp; try with_reducible rfl)
     (try simp only [gs])
     refine tl ?_ 13 rfl hh ⟨by rfl, ?_⟩ ?_
     case refine_2 => (intro w hSw; go_simp; try with_reducible rfl)
     (try simp only [gs])
     refine wpAnyH_ready (rs := [14]) (by kernel_rfl) (by simp) (AllReadyH.cons rfl (fun K0 hK => ?_) AllReadyH.nil)
     rw [if_pos (by rfl)]
     (try simp only [gs])
     go_simp
     (try rw [st1])
     refine (hTr _).mono ?_
     clear hTr
     rintro e z1 ⟨rfl, rfl⟩
     refine hK.out _ _ HVC.out (fun hh => ?_)
     clear hK K0
     (try simp only [gs])
     refine tl ?_ 15 rfl hh ⟨by rfl, ?_⟩ ?_
     case refine_2 => (intro w hSw; go_simp; try with_reducible rfl)
     (try simp only [gs])
     refine wpAnyH_done (by kernel_rfl) ?_ _
     refine NoPanic.normal ?_
     clear hh
     generalize x3.drew = x4 at *
     have hvc := HVC.out
     have hpc := HPC.out
     cases hq : ((str T).toList == (str c.v).toList) with
     | true =>
      have HE1 : Hid (cutL (sz : Int) (L.take (k + 1)) = cutL (sz : Int) (L.take k)) := (show _ = _ by
       rw [HTK.out, cutL_snoc, HCK.out]
       rw [str_toList, str_toList] at hq
       rw [if_pos (by simpa using hq)]
       simp)
      clear hpc
      go_wp2_with fail
      go_roundg gg
      case measure => omega
      case rel => exact ⟨k + 1, by omega, congrArg (Value.int .i64) (by omega), by rw [HE1.out]; exact HB3.out.up⟩
     | false =>
      have HE1 : Hid ((chAll V1 (cutL (sz : Int) (L.take k))).change (chgP ⟨chunkR ino (pl : Int), chunkR_length ino (pl : Int), T⟩) = chAll V1 (cutL (sz : Int) (L.take (k + 1)))) := (show _ = _ by
       rw [HTK.out, cutL_snoc, HCK.out]
       rw [str_toList, str_toList] at hq
       rw [if_neg (by simpa using hq), Option.toList_some, chAll_snoc]
       congr 2
       exact pa_eq HPL.out.2.symm rfl)
      have hp1 := HPU.out x4 HB3.out
      rw [HE1.out] at hp1
      go_wp2_with (go_at_call 37; refine hp1.mono ?_; clear hp1; rintro e z1 ⟨⟨xx, rfl⟩, P1⟩)
      go_roundg gg
      case measure => omega
      case rel => exact ⟨k + 1, by omega, congrArg (Value.int .i64) (by omega), P1⟩
end
section
open Go.RowKit
theorem zr_info : (Tryz.prog.info? 5).map (fun i => (i.zero, i.size, i.bytes)) = some (some (.int .u8 0), 1, 1) := by kernel_rfl
theorem zr_cells (n : Nat) : (madeCells (Value.int .u8 0).cells (n * 1)).toList = bc (List.replicate n 0) := by
 apply List.ext_getElem
 · simp [madeCells, bc]
 · intro i h1 h2
   simp [madeCells, bc, Value.cells, Nat.mod_one]
theorem zr_make {ops : Array Oper} {rest : List Oper} {o : Oper} {a : Act} {w : World} {Q : Exit → Act → World → Prop} (l c : Operand) (hop : o.op = Op.makeSlice 49 l c) (hgd : o.guard = none) (n : Nat) (L : Int) (hl : a.eval l = .int .i64 L) (hc : a.eval c = .int .i64 L) (hL : L = (n : Int)) (b2 : n ≤ 100000)
    (h : ∀ w', w'.ownsRow w.heap.size 5 1 (.slice (some ⟨w.heap.size, 0, none⟩) n n) n (bc (List.replicate n 0)) → w.grownBy w' none → wpList Tryz.prog ops Q rest (a.put o.dst (.slice (some ⟨w.heap.size, 0, none⟩) n n)) w') : wpList Tryz.prog ops Q (o :: rest) a w := by
 obtain ⟨i0, hi, hz0, hz1, hz2⟩ := info_parts zr_info
 obtain ⟨w', hrun, r1, r2⟩ := run_make_full (P := Tryz.prog) w w.heap.size 49 5 i0 (.int .u8 0) 1 Tryz.underlying49 hi hz0 hz1 .i64 .i64 n (by rw [hz2]; omega) (by unfold maxLen; omega) (Nat.le_refl _)
 subst hL
 rw [zr_cells] at r1
 refine wpList_plain hgd fun K hK => ?_
 unfold Oper.wp
 simp [execOp, hop, hl, hc, hrun, Result.andThen]
 exact hK _ _ (h w' r1 r2)
end
section
open Go.RowKit
def BcAt (w : World) (g : Nat) (L : List UInt8) : Prop := w.heap[g]? = some (.cells (bc L).toArray 5 (0, 0))
section
variable {w w' : World} {g : Nat} {L : List UInt8}
theorem BcAt.of_own {base n : Nat} (h : w.ownsRow base 5 1 (.slice (some ⟨g, 0, none⟩) n n) n (bc L)) : BcAt w g L := by
 rcases h.2 with ⟨e, _⟩ | ⟨g', cap', cur, e, h2, h3, h4, h5, h6, h7⟩
 · cases e
 · cases e
   have hc : cur.toList = bc L := by rw [← h7, List.take_of_length_le (by rw [Array.length_toList, h6]; exact Nat.le_refl _)]
   unfold BcAt
   rw [h3, ← hc]
theorem BcAt.same (h : BcAt w g L) (e : w'.heap[g]? = w.heap[g]?) : BcAt w' g L := e.trans h
theorem BcAt.lt (h : BcAt w g L) : g < w.heap.size := lt_of_block h
theorem BcAt.cell (h : BcAt w g L) (i : Nat) (hi : i < L.length) : w.cell? ⟨g, i, none⟩ = some (.int .u8 ((L[i]).toNat : Int)) := by
 rw [cell_of_row _ _ _ _ _ _ h]
 simp [bc, hi]
theorem BcAt.conv (h : BcAt w g L) (off n cap : Nat) (hn : off + n ≤ L.length) :
    (convert 49 9 (.slice (some ⟨g, off, none⟩) n cap)).run Tryz.prog w = .ok (.string (str ((L.drop off).take n))) w := by
 have hl : ((L.drop off).take n).length = n := by rw [List.length_take, List.length_drop]; omega
 have := run_convert_bytes_arg (P := Tryz.prog) w 49 5 Tryz.underlying49 Tryz.underlying5 g off n cap (((L.drop off).take n).map fun b => (b.toNat : Int)) (by rw [List.length_map, hl]) (fun i hi => by
  rw [h.cell (off + i) (by omega)]
  have h1 : i < ((L.drop off).take n).length := by omega
  rw [List.getD_eq_getElem?_getD, List.getElem?_map, List.getElem?_eq_getElem h1]
  simp) 9 Tryz.underlying9
 rw [str_of] at this
 exact this
def copied (L : List UInt8) (o : Nat) (s : List UInt8) : List UInt8 := L.take o ++ s ++ L.drop (o + s.length)
theorem copied_length {o : Nat} {s : List UInt8} (h : o + s.length ≤ L.length) : (copied L o s).length = L.length := by
 unfold copied
 simp
 omega
theorem copied_at {o : Nat} {s : List UInt8} (h : o + s.length ≤ L.length) (i : Nat) : (copied L o s).getD i 0 = if o ≤ i ∧ i < o + s.length then s.getD (i - o) 0 else L.getD i 0 := by
 unfold copied
 have h1 : (L.take o).length = o := by rw [List.length_take]; omega
 simp only [List.getD_eq_getElem?_getD]
 by_cases c1 : i < o
 · rw [if_neg (by omega), List.append_assoc, List.getElem?_append_left (by omega), List.getElem?_take_of_lt c1]
 · by_cases c2 : i < o + s.length
   · rw [if_pos ⟨by omega, c2⟩, List.getElem?_append_left (by rw [List.length_append]; omega), List.getElem?_append_right (by omega), h1]
   · rw [if_neg (by omega), List.getElem?_append_right (by rw [List.length_append]; omega), List.length_append, h1, List.getElem?_drop]
     congr 2
     omega
theorem BcAt.copy (h : BcAt w g L) (o dLen dCap : Nat) (s : List UInt8) (hd : s.length ≤ dLen) (hf : o + s.length ≤ L.length) (ty : TypeId) :
    (Builtin.copy_ #[49, 9] ty #[.slice (some ⟨g, o, none⟩) dLen dCap, .string (str s)]).run Tryz.prog w = .ok (goInt s.length) (w.setRow g (bc (copied L o s)).toArray) := by
 have hsz : (Tryz.prog.info? 5).map (·.size) = some 1 := by kernel_rfl
 have hs : (str s).size = s.length := str_size s
 have := Lib.run_copy_row_string (P := Tryz.prog) w 49 9 ty 5 g o dLen dCap (str s) _ _ Tryz.underlying49 hsz h (by omega) (by rw [hs, bc_size]; omega)
 rw [this, hs]
 have e : (bc L).toArray.toList.take o ++ Lib.byteCells (str s).data.toList ++ (bc L).toArray.toList.drop (o + s.length) = bc (copied L o s) := by
  unfold copied bc Lib.byteCells
  simp [str_list]
 rw [e]
theorem BcAt.after (h : BcAt w g L) (o : Nat) (s : List UInt8) : BcAt (w.setRow g (bc (copied L o s)).toArray) g (copied L o s) := setRow_heap w g _ _ _ _ h
end
section
variable {w y y' : World} {q g j : Nat} {f : Nat → UInt8} {L : List UInt8}
end
end
section
open Go.RowKit
def bufL (f : Nat) : List Pa → List UInt8 → List UInt8
 | [], B => B
 | p :: r, B => bufL f r (copied B (((pPlace p.k).toNat - f) * 32) p.v)
theorem bufL_snoc (f : Nat) (l : List Pa) (p : Pa) (B : List UInt8) : bufL f (l ++ [p]) B = copied (bufL f l B) (((pPlace p.k).toNat - f) * 32) p.v := by
 induction l generalizing B with
 | nil => rfl
 | cons a r ih => exact ih _
structure BetP (C : List Ch) (ino : Int) (f l : Nat) (p : Pa) : Prop where
 ex : ∃ pl : Nat, f ≤ pl ∧ pl ≤ l ∧ p.k = chunkR ino (pl : Int) ∧ right p.k = true ∧ pPlace p.k = (pl : Int) ∧ p.v.length ≤ 32
theorem bet_live {C : List Ch} (h : FileOk C) {ino : Int} (hi : okN ino = true) {f l : Nat} (hf : f ≤ 4294967295) (hl : l < 4294967295) {p : Pa} (hp : p ∈ lives C (betS ino (f : Int) (l : Int))) : BetP C ino f l p := by
 unfold lives inL at hp
 obtain ⟨c, hc, rfl⟩ := List.mem_map.1 hp
 obtain ⟨hc1, hg⟩ := List.mem_filter.1 hc
 obtain ⟨hcm, hin⟩ := List.mem_filter.1 hc1
 obtain ⟨b, q, i1, i2, k1, k2, k3⟩ := h.ok c hcm
 have hq : 0 ≤ q ∧ q ≤ 4294967295 := by unfold okP at i2; simp at i2; omega
 obtain ⟨pl, rfl⟩ := Int.eq_ofNat_of_zero_le hq.1
 have hn : c.n = (keyC b (pl : Int)).n := by show (num c.k : Int) = (num (chunkR b (pl : Int)) : Int); rw [k1]
 rw [hn, betS_in hi i1 (okP_nat hf) (by omega) (okP_nat (by omega))] at hin
 have hin2 : b = ino ∧ (f : Int) ≤ (pl : Int) ∧ (pl : Int) ≤ (l : Int) := of_decide_eq_true hin
 obtain ⟨rfl, h1, h2⟩ := hin2
 have hcr := chunk_right i1 (okP_nat (n := pl) (by omega))
 have hpp : pPlace c.k = (pl : Int) := by
  have h1 : chunkR b (pl : Int) = chunkK b.toNat ((pl : Int)).toNat := by unfold chunkR; rw [i1, i2]; rfl
  rw [k1, h1]
  exact (chunk_says i1 i2).2.2
 exact ⟨pl, by omega, by omega, k1, by show right c.k = true; rw [k1]; exact hcr.1, hpp, by show c.v.length ≤ 32; rw [← k2]; exact trimmed_length _⟩
theorem bufL_length {C : List Ch} {ino : Int} {f l : Nat} : ∀ (L : List Pa) (B : List UInt8), (∀ p ∈ L, BetP C ino f l p) → B.length = (l - f + 1) * 32 → (bufL f L B).length = (l - f + 1) * 32
 | [], B, _, h => h
 | p :: r, B, hL, h => by
  refine bufL_length r _ (fun a ha => hL a (List.mem_cons_of_mem _ ha)) ?_
  obtain ⟨pl, h1, h2, h3, h4, h5, h6⟩ := (hL p List.mem_cons_self).ex
  rw [copied_length (by rw [h, h5]; simp only [Int.toNat_natCast]; omega), h]
theorem bufL_at {C : List Ch} {ino : Int} (hi : okN ino = true) {f l : Nat} (hl : l < 4294967295) : ∀ (L : List Pa) (B : List UInt8), (∀ p ∈ L, BetP C ino f l p) → Asc Pa.n L → B.length = (l - f + 1) * 32 → ∀ i, i < (l - f + 1) * 32 →
    (bufL f L B).getD i 0 = match look Pa.n L (keyC ino ((f + i / 32 : Nat) : Int)).n with
     | some p => if i % 32 < p.v.length then p.v.getD (i % 32) 0 else B.getD i 0
     | none => B.getD i 0
 | [], B, _, _, _, i, _ => rfl
 | p :: r, B, hL, hA, hB, i, hI => by
  obtain ⟨a1, a2⟩ := List.pairwise_cons.1 hA
  obtain ⟨pl, h1, h2, h3, h4, h5, h6⟩ := (hL p List.mem_cons_self).ex
  have hX : ((pPlace p.k).toNat - f) * 32 = (pl - f) * 32 := by rw [h5, Int.toNat_natCast]
  have hcl : (pl - f) * 32 + p.v.length ≤ B.length := by rw [hB]; omega
  have ih := bufL_at hi hl r (copied B (((pPlace p.k).toNat - f) * 32) p.v) (fun a ha => hL a (List.mem_cons_of_mem _ ha)) a2 (by rw [hX, copied_length hcl, hB]) i hI
  show (bufL f r (copied B _ p.v)).getD i 0 = _
  rw [ih, hX, copied_at hcl]
  have hpn : p.n = (keyC ino (pl : Int)).n := by show (num p.k : Int) = (num (chunkR ino (pl : Int)) : Int); rw [h3]
  have hkk : (keyC ino (pl : Int)).n = (keyC ino ((f + i / 32 : Nat) : Int)).n ↔ pl = f + i / 32 := by
   rw [keyC_n hi hi (okP_nat (by omega)) (okP_nat (by omega))]
   omega
  by_cases e : pl = f + i / 32
  · have hlook : look Pa.n (p :: r) (keyC ino ((f + i / 32 : Nat) : Int)).n = some p := by
      simp only [look]
      rw [if_pos (by rw [hpn]; exact hkk.2 e)]
    have hno : look Pa.n r (keyC ino ((f + i / 32 : Nat) : Int)).n = none := look_low Pa.n (fun b hb => by have := a1 b hb; rw [hpn, hkk.2 e] at this; exact this)
    rw [hlook, hno]
    dsimp only
    by_cases c : i % 32 < p.v.length
    · rw [if_pos ⟨by omega, by omega⟩, if_pos c, show i - (pl - f) * 32 = i % 32 by omega]
    · rw [if_neg (by omega), if_neg c]
  · have hlook : look Pa.n (p :: r) (keyC ino ((f + i / 32 : Nat) : Int)).n = look Pa.n r (keyC ino ((f + i / 32 : Nat) : Int)).n := by
      simp only [look]
      rw [if_neg (by rw [hpn]; exact fun q => e (hkk.1 q))]
    have hout : ¬ ((pl - f) * 32 ≤ i ∧ i < (pl - f) * 32 + p.v.length) := by omega
    rw [hlook, if_neg hout]
theorem bufL_fB {C : List Ch} (h : FileOk C) {ino : Int} (hi : okN ino = true) {f l : Nat} (hfl : f ≤ l) (hl : l < 4294967295) {i : Nat} (hI : i < (l - f + 1) * 32) :
    (bufL f (lives C (betS ino (f : Int) (l : Int))) (List.replicate ((l - f + 1) * 32) 0)).getD i 0 = fB C ino (32 * f + i) := by
 have hL : ∀ p ∈ lives C (betS ino (f : Int) (l : Int)), BetP C ino f l p := fun p hp => bet_live h hi (by omega) hl hp
 rw [bufL_at hi hl _ _ hL (lives_asc h.asc _) List.length_replicate i hI]
 have hz : (List.replicate ((l - f + 1) * 32) (0 : UInt8)).getD i 0 = 0 := by
  rw [List.getD_eq_getElem?_getD, List.getElem?_replicate]
  split <;> rfl
 have hv := valL_lives h (betS ino (f : Int) (l : Int)) ino ((f + i / 32 : Nat) : Int)
 rw [betS_in hi hi (okP_nat (by omega)) (by omega) (okP_nat (by omega)), if_pos (by simp; omega)] at hv
 have hfb : fB C ino (32 * f + i) = (fullP (vAt C ino ((f + i / 32 : Nat) : Int))).getD (i % 32) 0 := by
  unfold fB cB
  rw [show (32 * f + i) / 32 = f + i / 32 by omega, show (32 * f + i) % 32 = i % 32 by omega]
 rw [hfb, ← hv]
 unfold valL
 cases hk : look Pa.n (lives C (betS ino (f : Int) (l : Int))) (keyC ino ((f + i / 32 : Nat) : Int)).n with
 | none =>
  dsimp only
  rw [hz, full_nil, List.getD_eq_getElem?_getD, List.getElem?_replicate]
  split <;> rfl
 | some p =>
  dsimp only
  obtain ⟨hm, -⟩ := look_key Pa.n hk
  obtain ⟨pl, h1, h2, h3, h4, h5, h6⟩ := (hL p hm).ex
  unfold fullP
  rw [hz, List.take_of_length_le h6, List.getD_eq_getElem?_getD, List.getD_eq_getElem?_getD]
  by_cases c : i % 32 < p.v.length
  · rw [if_pos c, List.getElem?_append_left c]
  · rw [if_neg c, List.getElem?_append_right (by omega), List.getElem?_replicate]
    split <;> rfl
theorem buf_read {C : List Ch} (h : FileOk C) {ino : Int} (hi : okN ino = true) {off n : Nat} (hn : 0 < n) (hon : off + n ≤ 1048576) :
    ((bufL (off / 32) (lives C (betS ino ((off / 32 : Nat) : Int) (((off + n - 1) / 32 : Nat) : Int))) (List.replicate (((off + n - 1) / 32 - off / 32 + 1) * 32) 0)).drop (off % 32)).take n = readB C ino off n := by
 have hL : ∀ p ∈ lives C (betS ino ((off / 32 : Nat) : Int) (((off + n - 1) / 32 : Nat) : Int)), BetP C ino (off / 32) ((off + n - 1) / 32) p := fun p hp => bet_live h hi (by omega) (by omega) hp
 have hlen := bufL_length _ (List.replicate (((off + n - 1) / 32 - off / 32 + 1) * 32) 0) hL List.length_replicate
 rw [read_bytes h hi hon, take_drop_map _ _ _ (by rw [hlen]; omega)]
 refine List.map_congr_left fun j hj => ?_
 rw [List.mem_range] at hj
 rw [bufL_fB h hi (by omega) (by omega) (by omega)]
 congr 1
 omega
end
end Go.Proofs.YtdmindhjmjnagaaGreatDoor
