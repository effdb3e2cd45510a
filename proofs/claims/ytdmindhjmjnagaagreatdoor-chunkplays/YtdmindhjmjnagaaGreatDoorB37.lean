import Derived.Test.YtdmindhjmjnagaaGreatDoorSi
import Derived.Test.YtdmindhjmjnagaaGreatDoorB01
import Derived.Test.YtdmindhjmjnagaaGreatDoorB36
/- X9O -/
namespace Go.Proofs.YtdmindhjmjnagaaGreatDoor
set_option linter.unusedVariables false
set_option maxRecDepth 1000000
set_option maxHeartbeats 32000000
section
open Go.RowKit
theorem with9_calls (w : World) (u : Value) (l : List Ch) (c : Ch) (h : Sl encC w u l) (hl : l.length ≤ 10000) :
    Calls Tryz.prog 151 #[u, .agg (encC.c c).toArray] w fun e w' => ∃ v, e = .returned v ∧ Own encC 95 w' w.heap.size v (putA Ch.n l c.plain) ∧ Below w.heap.size w w' := by
 have hl' := h
 obtain ⟨ad, cap, rfl, hcap, hmax, hn0, hn1⟩ := hl'
 clear hn0 hn1
 have hU : InB encC 95 (w.alloc (.cells (encC.c c).toArray 95)) w.heap.size c := InB.new encC _ w c _ rfl
 have hB : Below w.heap.size w (w.alloc (.cells (encC.c c).toArray 95)) := (Below.refl _ w).alloc (Nat.le_refl _) _
 obtain ⟨cv, cg⟩ := range_vC hU.range
 simp only [Nat.zero_add] at cv cg
 have HS : Hid (Sl encC w (.slice ad l.length cap) l) := h
 have HI : Hid (∀ i (hi : i < l.length), ∃ g off, ad = some ⟨g, off, none⟩ ∧ g < w.heap.size ∧ w.rangeAt g (off + i * 26) (encC.c l[i])) := fun i hi => SlB.at h i hi
 clear h
 obtain ⟨N, hN⟩ : ∃ N : Nat, N = l.length := ⟨_, rfl⟩
 have HN : Hid (N = l.length) := hN
 rw [← hN] at hcap hmax hl HS ⊢
 have hInfo : ∀ p : Ch, (Tryz.prog.info? 54).map (·.size) = some (bc p.k).length := fun p => by rw [bc_length, p.h]; exact Tryz.key_info
 clear hN
 go_enter Tryz.func151, Tryz.ntmps151
 go_upto_region 1 with fail
 generalize hWa : w.alloc (.cells (encC.c c).toArray 95) = Wa at *
 clear hWa
 cases hg : c.g with
 | true =>
  rw [hg] at cg
  have ff : Wa.frozen? ⟨w.heap.size, 24, none⟩ = false := by simp [World.frozen?, hU.blk]
  have hU2 := Ch.set_v hU hg
  have HB2 : Hid (Below w.heap.size w (Wa.setCell ⟨w.heap.size, 24, none⟩ (.string ⟨#[]⟩)) ∧ InB encC 95 (Wa.setCell ⟨w.heap.size, 24, none⟩ (.string ⟨#[]⟩)) w.heap.size c.plain) := ⟨hB.setCell (Nat.le_refl _) _, hU2⟩
  clear hU hU2 hB hg
  go_upto_region 3 with fail
  generalize Wa.setCell ⟨w.heap.size, 24, none⟩ (.string ⟨#[]⟩) = W0 at *
  obtain ⟨c2, hc2⟩ : ∃ c2, c.plain = c2 := ⟨_, rfl⟩
  have HC2 : Hid (c.plain = c2) := hc2
  rw [hc2] at HB2
  clear hc2
  clear cv cg ff
  go_wp2_with fail
  go_loopg [5] N (fun g i wr => ∃ k : Nat, k + g = N ∧ i = .int .i64 (k : Int) ∧ Hid (Below w.heap.size w wr ∧ InB encC 95 wr w.heap.size c2 ∧ ∀ j (hj : j < l.length), j < k → Ch.n l[j] < c2.kz.n))
  case atStart => exact ⟨0, by omega, rfl, (show _ ∧ _ ∧ _ from ⟨HB2.out.1, HB2.out.2, fun j hj q => (by omega)⟩)⟩
  case round =>
   obtain ⟨k, hkg, rfl, HE⟩ := hrel
   clear HB2
   cases gk with
   | zero =>
    have hkN : k = N := by omega
    have hp : posA Ch.n l c2.kz.n = k := posA_eq Ch.n l c2.kz.n k HE.out.2.2 (by have := HN.out; omega) (fun q => absurd q (by have := HN.out; omega))
    have hh := hit_no (key := Ch.n) hp (by have := HN.out; omega)
    have HPA : Hid (putA Ch.n l c2 = l.take k ++ c2 :: l.drop k) := (show _ = _ by rw [putA_at, show Ch.n c2 = c2.kz.n from rfl, hp, hh]; rfl)
    have HB : Hid (Below w.heap.size w wr ∧ InB encC 95 wr w.heap.size c2) := ⟨HE.out.1, HE.out.2.1⟩
    clear hp hh HE HI
    subst hkN
    have T0 : SlB encC w w.heap.size (.slice ad k cap) (l.take k) := SlB.take HS.out k (by have := HN.out; omega)
    have D0 : SlB encC w w.heap.size (.slice (if cap = k then ad else Option.map (·.add ((k) * 26)) ad) 0 (cap - (k))) (l.drop (k)) := by
     have hdr := SlB.drop HS.out (k) (by have := HN.out; omega)
     rw [Nat.sub_self] at hdr
     exact hdr
    have D0 : Hid (SlB encC w w.heap.size (.slice (if cap = k then ad else Option.map (·.add ((k) * 26)) ad) 0 (cap - (k))) (l.drop (k))) := D0
    have HLL : Hid ((l.take k).length = k ∧ (l.drop (k)).length ≤ 10000) := ⟨by simp; have := HN.out; omega, by simp; have := HN.out; omega⟩
    have hkc : (k : Int) ≤ (cap : Int) := by omega
    have hkz : (0 : Int) ≤ (k : Int) := by omega
    have hkn : ((k : Nat) : Int) ≤ (k : Int) := by omega
    have hkc2 : ((k : Nat) : Int) ≤ (cap : Int) := by omega
    generalize l.take k = I at *
    generalize l.drop (k) = J at *
    have B1 : Below w.heap.size w wr := HB.out.1
    have hK2 := HB.out.2
    have T1 : SlB encC wr w.heap.size (.slice ad k cap) I := T0.below B1
    have hw1 : w.heap.size < wr.heap.size := hK2.lt
    have b3 : Below wr.heap.size wr (wr.alloc (.cells #[] 95)) := (Below.refl _ _).alloc (Nat.le_refl _) _
    have oE : Own encC 95 (wr.alloc (.cells #[] 95)) wr.heap.size (.slice (some ⟨wr.heap.size, 0, none⟩) 0 0) [] := World.ownsRow_made (base := wr.heap.size) (e := 95) (size := 26) wr #[] 0 (Nat.le_refl _) (by unfold maxLen; omega) rfl
    have HX : Hid (Below w.heap.size w (wr.alloc (.cells #[] 95)) ∧ InB encC 95 (wr.alloc (.cells #[] 95)) w.heap.size c2 ∧ SlB encC (wr.alloc (.cells #[] 95)) w.heap.size (.slice ad k cap) I ∧ Own encC 95 (wr.alloc (.cells #[] 95)) wr.heap.size (.slice (some ⟨wr.heap.size, 0, none⟩) 0 0) []) := ⟨B1.trans (b3.mono B1.size), hK2.below b3 hK2.lt, T1.below (b3.mono B1.size), oE⟩
    have hs2 : wr.heap.size ≤ (wr.alloc (.cells #[] 95)).heap.size := b3.size
    clear B1 b3 hK2 T1 T0 oE HB HS
    go_upto_region 9 with (first
     | (at_builtin; refine append_sl rowC rfl _ _ rfl wr.heap.size (.slice (some ⟨wr.heap.size, 0, none⟩) 0 0) [] I rfl HX.out.2.2.2 _ rfl w.heap.size HX.out.2.2.1 (by have := HLL.out.1; simp only [List.length_nil]; omega) (by decide) hs2 ?_; intro v3 w3 o3 gr3))
    have B3 : Below w.heap.size w w3 := HX.out.1.grown gr3 HX.out.1.size (fun j hj => by have e : wr.heap.size = j := (by simpa [Value.ownBlock] using hj); omega)
    have hK3 : InB encC 95 w3 w.heap.size c2 := HX.out.2.1.same (gr3.block _ HX.out.2.1.lt (fun e => by have e2 : w.heap.size = wr.heap.size := (by simpa [Value.ownBlock] using e); omega))
    have hw3 : wr.heap.size ≤ w3.heap.size := Nat.le_trans hs2 gr3.size
    simp only [List.nil_append] at o3
    have hlt3 := o3.lt
    clear HX gr3 hs2
    generalize wr.heap.size = q at *
    go_upto_region 10 with (first
     | (refine load_el elC _ rfl w.heap.size 0 rfl rfl c2 hK3.range ?_)
     | (refine build_el1 rowC rfl _ rfl c2 rfl (by decide) ?_; intro x4 o4 b4 s4 h4
        have hs4 := o3.below b4
        have hB4 : Below w.heap.size w x4 := B3.trans (b4.mono B3.size)
        have hK4 := hK3.below b4 hK3.lt)
     | (at_builtin; refine append_one rowC rfl _ _ rfl q v3 I rfl hs4 w3.heap.size c2 rfl (0, 0) _ h4 (by have := HLL.out.1; omega) (by decide) (by omega) ?_
        intro g5 cap5 w5 o5 gr5 nr5 lt5))
    have B5 : Below w.heap.size w w5 := hB4.grown gr5 hB4.size (fun j hj => by have := (hlt3 j hj).1; omega)
    have hK5 : InB encC 95 w5 w.heap.size c2 := hK4.same (gr5.block _ hK4.lt (fun e => by have := (hlt3 _ e.symm).1; omega))
    have HO5 : Hid (Own encC 95 w5 q (.slice (some ⟨g5, 0, none⟩) (I.length + 1) cap5) (I ++ [c2])) := o5
    have hg5 : q ≤ g5 := (o5.lt g5 rfl).1
    have hq5 : q ≤ w5.heap.size := Nat.le_trans hg5 (Nat.le_of_lt lt5)
    clear o5 gr5 nr5 lt5 o3 o4 b4 s4 h4 hs4 hB4 hlt3 hK3 hK4 B3
    go_quiet (fail)
    have B6 := below_drewN B5 nq
    have HO6 : Hid (Own encC 95 (w5.drewN nq) q (.slice (some ⟨g5, 0, none⟩) (I.length + 1) cap5) (I ++ [c2])) := HO5.out
    have hq6 : q ≤ (w5.drewN nq).heap.size := hq5
    clear HO5 B5 hq5 hK5
    generalize w5.drewN nq = w6 at *
    have D6 := D0.out.below B6
    obtain ⟨aq, haq⟩ : ∃ aq, (if cap = k then ad else Option.map (·.add ((k) * 26)) ad) = aq := ⟨_, rfl⟩
    rw [haq] at D6
    clear D0
    go_wp2_with (first
     | (at_builtin; refine append_sl rowC rfl _ _ rfl q (.slice (some ⟨g5, 0, none⟩) (I.length + 1) cap5) (I ++ [c2]) J rfl HO6.out _ rfl w.heap.size D6 (by have := HLL.out; simp only [List.length_append, List.length_cons, List.length_nil]; omega) (by decide) hq6 ?_; intro v7 w7 o7 gr7))
    go_ret
    refine ⟨v7, rfl, ?_, B6.grown gr7 B6.size (fun j hj => by have e : g5 = j := (by simpa [Value.ownBlock] using hj); omega)⟩
    rw [HC2.out, HPA.out]
    have h9 : I ++ [c2] ++ J = I ++ c2 :: J := by simp
    rw [h9] at o7
    exact o7.lower (by omega)
   | succ g =>
    have hlt : k < N := by omega
    have hltI : (k : Int) < (N : Int) := by omega
    have hk0 : (0 : Int) ≤ (k : Int) := by omega
    have hkl : k < l.length := by rw [← HN.out]; exact hlt
    obtain ⟨g0, off, rfl, hg0, hat⟩ := HI.out k hkl
    have HR : Hid (wr.rangeAt g0 (off + k * 26) (bc (l[k]).k) ∧ wr.rangeAt w.heap.size 0 (bc c2.k)) := ⟨range_kC (range_same' hat (HE.out.1.block g0 hg0)), range_kC HE.out.2.1.range⟩
    have HSTEP : Hid (Ch.n l[k] < c2.kz.n → ∀ j (hj : j < l.length), j < k + 1 → Ch.n l[j] < c2.kz.n) := fun q j hj hjk => by
     rcases Nat.lt_or_ge j k with z | z
     · exact HE.out.2.2 j hj z
     · have : j = k := by omega
       subst this
       exact q
    have HSTOP : Hid (¬ Ch.n l[k] < c2.kz.n → posA Ch.n l c2.kz.n = k ∧ hitA Ch.n l c2.kz.n = decide ((l[k]).kz = c2.kz)) := fun q => by
     have hp : posA Ch.n l c2.kz.n = k := posA_eq Ch.n l c2.kz.n k HE.out.2.2 (by omega) (fun _ => q)
     exact ⟨hp, by rw [hit_yes hp hkl, kz_eq_n]; rfl⟩
    have HB : Hid (Below w.heap.size w wr ∧ InB encC 95 wr w.heap.size c2) := ⟨HE.out.1, HE.out.2.1⟩
    have HAT : Hid (w.rangeAt g0 (off + k * 26) (bc (l[k]).k)) := range_kC hat
    have hn : Ch.n l[k] = (l[k]).kz.n := rfl
    rw [hn] at HSTEP HSTOP
    generalize l[k] = p at *
    clear hat hkl HE HI hn
    go_upto_region 5 with fail
    refine wp_region_noPanic ?_
    refine wp_region_held_drew (S := (fun yy => yy.rangeAt g0 (off + k * 26) (bc p.k) ∧ yy.rangeAt w.heap.size 0 (bc c2.k))) (by kernel_rfl) HR.out (fun hh => ?_)
    refine tl ?_ 0 rfl hh ⟨by rfl, ?_⟩ ?_
    case refine_2 => (intro w hSw; go_simp; try with_reducible rfl)
    (try simp only [gs])
    refine tl ?_ 1 rfl hh ⟨by rfl, ?_⟩ ?_
    case refine_2 => (intro w hSw; go_simp; try with_reducible rfl)
    (try simp only [gs])
    refine tl ?_ 2 rfl hh ⟨by rfl, ?_⟩ ?_
    case refine_2 => (intro w hSw; go_simp; try with_reducible rfl)
    (try simp only [gs])
    refine tl ?_ 3 rfl hh ⟨by rfl, ?_⟩ ?_
    case refine_2 => (intro w hSw; go_simp; try with_reducible rfl)
    (try simp only [gs])
    refine tk 4 rfl hh (yieldsIf_load_mid (by rfl) _ _ rfl _ _ rfl _ _ (fun _ h => h.1) Tryz.underlying54 rfl (hInfo p)) ?_
    (try simp only [gs])
    refine tl ?_ 5 rfl hh ⟨by rfl, ?_⟩ ?_
    case refine_2 => (intro w hSw; go_simp; try with_reducible rfl)
    (try simp only [gs])
    refine tk 6 rfl hh (yieldsIf_load_mid (by rfl) _ _ rfl _ _ rfl _ _ (fun _ h => h.2) Tryz.underlying54 rfl (hInfo c2)) ?_
    (try simp only [gs])
    have HB0 : Hid (Below w.heap.size w wr.drew ∧ InB encC 95 wr.drew w.heap.size c2) := ⟨HB.out.1.drew, ⟨HB.out.2.blk⟩⟩
    have hLS := lessK_calls wr.drew p.kz c2.kz
    clear HB HR
    generalize wr.drew = y0 at *
    refine wpAnyH_ready (rs := [7]) (by kernel_rfl) (by simp) (AllReadyH.cons rfl (fun K' hK => ?_) AllReadyH.nil)
    rw [if_pos (by rfl)]
    (try simp only [gs])
    go_simp
    refine hLS.mono ?_
    rintro e y1 ⟨rfl, c1⟩
    have HB1 : Hid (Below w.heap.size w y1 ∧ InB encC 95 y1 w.heap.size c2) := ⟨HB0.out.1.trans (c1.mono HB0.out.1.size), HB0.out.2.below c1 HB0.out.2.lt⟩
    refine hK.out _ _ ⟨range_same' HAT.out (HB1.out.1.block g0 hg0), range_kC HB1.out.2.range⟩ (fun hh => ?_)
    clear hK K' c1 HB0 hLS
    (try simp only [gs])
    refine tl ?_ 8 rfl hh ⟨by rfl, ?_⟩ ?_
    case refine_2 => (intro w hSw; go_simp; try with_reducible rfl)
    (try simp only [gs])
    refine wpAnyH_done (by kernel_rfl) ?_ _
    refine NoPanic.normal ?_
    by_cases hle : p.kz.n < c2.kz.n
    · have hd : decide (p.kz.n < c2.kz.n) = true := decide_eq_true hle
      have HS2 : Hid (∀ j (hj : j < l.length), j < k + 1 → Ch.n l[j] < c2.kz.n) := HSTEP.out hle
      clear hle HSTEP HSTOP
      rw [hd]
      go_wp2_with fail
      go_roundg g
      case measure => omega
      case rel => exact ⟨k + 1, by omega, congrArg (Value.int .i64) (by omega), (show Below w.heap.size w y1 ∧ InB encC 95 y1 w.heap.size c2 ∧ ∀ j (hj : j < l.length), j < k + 1 → Ch.n l[j] < c2.kz.n from ⟨HB1.out.1, HB1.out.2, HS2.out⟩)⟩
    · have hd : decide (p.kz.n < c2.kz.n) = false := decide_eq_false hle
      obtain ⟨hp, hh⟩ := HSTOP.out hle
      have HB : Hid (Below w.heap.size w y1 ∧ InB encC 95 y1 w.heap.size c2) := HB1.out
      clear hle HSTEP HSTOP HB1
      rw [hd]
      by_cases hpc : p.kz = c2.kz
      · have hdc : decide (p.kz = c2.kz) = true := decide_eq_true hpc
        have HPA : Hid (putA Ch.n l c2 = l.take k ++ c2 :: l.drop (k + 1)) := (show _ = _ by rw [putA_at, show Ch.n c2 = c2.kz.n from rfl, hp, hh, hdc]; rfl)
        clear hp hh hpc
        have T0 : SlB encC w w.heap.size (.slice (some (⟨g0, off, none⟩ : Addr)) k cap) (l.take k) := SlB.take HS.out k (by have := HN.out; omega)
        have D0 : SlB encC w w.heap.size (.slice (if cap = k + 1 then (some (⟨g0, off, none⟩ : Addr)) else Option.map (·.add ((k + 1) * 26)) (some (⟨g0, off, none⟩ : Addr))) (N - (k + 1)) (cap - (k + 1))) (l.drop (k + 1)) := by
         have hdr := SlB.drop HS.out (k + 1) (by have := HN.out; omega)
         skip
         exact hdr
        have D0 : Hid (SlB encC w w.heap.size (.slice (if cap = k + 1 then (some (⟨g0, off, none⟩ : Addr)) else Option.map (·.add ((k + 1) * 26)) (some (⟨g0, off, none⟩ : Addr))) (N - (k + 1)) (cap - (k + 1))) (l.drop (k + 1))) := D0
        have HLL : Hid ((l.take k).length = k ∧ (l.drop (k + 1)).length ≤ 10000) := ⟨by simp; have := HN.out; omega, by simp; have := HN.out; omega⟩
        have hkc : (k : Int) ≤ (cap : Int) := by omega
        have hkz : (0 : Int) ≤ (k : Int) := by omega
        have hkn : ((k + 1 : Nat) : Int) ≤ (N : Int) := by omega
        have hkc2 : ((k + 1 : Nat) : Int) ≤ (cap : Int) := by omega
        generalize l.take k = I at *
        generalize l.drop (k + 1) = J at *
        have B1 : Below w.heap.size w y1 := HB.out.1
        have hK2 := HB.out.2
        have T1 : SlB encC y1 w.heap.size (.slice (some (⟨g0, off, none⟩ : Addr)) k cap) I := T0.below B1
        have hw1 : w.heap.size < y1.heap.size := hK2.lt
        have b3 : Below y1.heap.size y1 (y1.alloc (.cells #[] 95)) := (Below.refl _ _).alloc (Nat.le_refl _) _
        have oE : Own encC 95 (y1.alloc (.cells #[] 95)) y1.heap.size (.slice (some ⟨y1.heap.size, 0, none⟩) 0 0) [] := World.ownsRow_made (base := y1.heap.size) (e := 95) (size := 26) y1 #[] 0 (Nat.le_refl _) (by unfold maxLen; omega) rfl
        have HX : Hid (Below w.heap.size w (y1.alloc (.cells #[] 95)) ∧ InB encC 95 (y1.alloc (.cells #[] 95)) w.heap.size c2 ∧ SlB encC (y1.alloc (.cells #[] 95)) w.heap.size (.slice (some (⟨g0, off, none⟩ : Addr)) k cap) I ∧ Own encC 95 (y1.alloc (.cells #[] 95)) y1.heap.size (.slice (some ⟨y1.heap.size, 0, none⟩) 0 0) []) := ⟨B1.trans (b3.mono B1.size), hK2.below b3 hK2.lt, T1.below (b3.mono B1.size), oE⟩
        have hs2 : y1.heap.size ≤ (y1.alloc (.cells #[] 95)).heap.size := b3.size
        clear B1 b3 hK2 T1 T0 oE HB HS
        go_upto_region 9 with (first
         | (at_builtin; refine append_sl rowC rfl _ _ rfl y1.heap.size (.slice (some ⟨y1.heap.size, 0, none⟩) 0 0) [] I rfl HX.out.2.2.2 _ rfl w.heap.size HX.out.2.2.1 (by have := HLL.out.1; simp only [List.length_nil]; omega) (by decide) hs2 ?_; intro v3 w3 o3 gr3))
        have B3 : Below w.heap.size w w3 := HX.out.1.grown gr3 HX.out.1.size (fun j hj => by have e : y1.heap.size = j := (by simpa [Value.ownBlock] using hj); omega)
        have hK3 : InB encC 95 w3 w.heap.size c2 := HX.out.2.1.same (gr3.block _ HX.out.2.1.lt (fun e => by have e2 : w.heap.size = y1.heap.size := (by simpa [Value.ownBlock] using e); omega))
        have hw3 : y1.heap.size ≤ w3.heap.size := Nat.le_trans hs2 gr3.size
        simp only [List.nil_append] at o3
        have hlt3 := o3.lt
        clear HX gr3 hs2
        generalize y1.heap.size = q at *
        go_upto_region 10 with (first
         | (refine load_el elC _ rfl w.heap.size 0 rfl rfl c2 hK3.range ?_)
         | (refine build_el1 rowC rfl _ rfl c2 rfl (by decide) ?_; intro x4 o4 b4 s4 h4
            have hs4 := o3.below b4
            have hB4 : Below w.heap.size w x4 := B3.trans (b4.mono B3.size)
            have hK4 := hK3.below b4 hK3.lt)
         | (at_builtin; refine append_one rowC rfl _ _ rfl q v3 I rfl hs4 w3.heap.size c2 rfl (0, 0) _ h4 (by have := HLL.out.1; omega) (by decide) (by omega) ?_
            intro g5 cap5 w5 o5 gr5 nr5 lt5))
        have B5 : Below w.heap.size w w5 := hB4.grown gr5 hB4.size (fun j hj => by have := (hlt3 j hj).1; omega)
        have hK5 : InB encC 95 w5 w.heap.size c2 := hK4.same (gr5.block _ hK4.lt (fun e => by have := (hlt3 _ e.symm).1; omega))
        have HO5 : Hid (Own encC 95 w5 q (.slice (some ⟨g5, 0, none⟩) (I.length + 1) cap5) (I ++ [c2])) := o5
        have hg5 : q ≤ g5 := (o5.lt g5 rfl).1
        have hq5 : q ≤ w5.heap.size := Nat.le_trans hg5 (Nat.le_of_lt lt5)
        clear o5 gr5 nr5 lt5 o3 o4 b4 s4 h4 hs4 hB4 hlt3 hK3 hK4 B3
        have HS3 : Hid (w5.rangeAt g0 (off + k * 26) (bc p.k) ∧ w5.rangeAt w.heap.size 0 (bc c2.k)) := ⟨range_same' HAT.out (B5.block g0 hg0), range_kC hK5.range⟩
        refine wp_region_noPanic ?_
        refine wp_region_held_drew (S := (fun yy => yy.rangeAt g0 (off + k * 26) (bc p.k) ∧ yy.rangeAt w.heap.size 0 (bc c2.k))) (by kernel_rfl) HS3.out (fun hh => ?_)
        refine tl ?_ 0 rfl hh ⟨by rfl, ?_⟩ ?_
        case refine_2 => (intro w hSw; go_simp; try with_reducible rfl)
        (try simp only [gs])
        refine tl ?_ 1 rfl hh ⟨by rfl, ?_⟩ ?_
        case refine_2 => (intro w hSw; go_simp; try with_reducible rfl)
        (try simp only [gs])
        refine tl ?_ 2 rfl hh ⟨by rfl, ?_⟩ ?_
        case refine_2 => (intro w hSw; go_simp; try with_reducible rfl)
        (try simp only [gs])
        refine tl ?_ 3 rfl hh ⟨by rfl, ?_⟩ ?_
        case refine_2 => (intro w hSw; go_simp; try with_reducible rfl)
        (try simp only [gs])
        refine tl ?_ 4 rfl hh ⟨by rfl, ?_⟩ ?_
        case refine_2 => (intro w hSw; go_simp; try with_reducible rfl)
        (try simp only [gs])
        refine tl ?_ 5 rfl hh ⟨by rfl, ?_⟩ ?_
        case refine_2 => (intro w hSw; go_simp; try with_reducible rfl)
        (try simp only [gs])
        refine tl ?_ 6 rfl hh ⟨by rfl, ?_⟩ ?_
        case refine_2 => (intro w hSw; go_simp; try with_reducible rfl)
        (try simp only [gs])
        refine tl ?_ 7 rfl hh ⟨by rfl, ?_⟩ ?_
        case refine_2 => (intro w hSw; go_simp; try with_reducible rfl)
        (try simp only [gs])
        refine tl ?_ 8 rfl hh ⟨by rfl, ?_⟩ ?_
        case refine_2 => (intro w hSw; go_simp; try with_reducible rfl)
        (try simp only [gs])
        refine tk 9 rfl hh (yieldsIf_load_mid (by rfl) _ _ rfl _ _ rfl _ _ (fun _ h => h.1) Tryz.underlying54 rfl (hInfo p)) ?_
        (try simp only [gs])
        refine tl ?_ 10 rfl hh ⟨by rfl, ?_⟩ ?_
        case refine_2 => (intro w hSw; go_simp; try with_reducible rfl)
        (try simp only [gs])
        refine tk 11 rfl hh (yieldsIf_load_mid (by rfl) _ _ rfl _ _ rfl _ _ (fun _ h => h.2) Tryz.underlying54 rfl (hInfo c2)) ?_
        (try simp only [gs])
        refine tk (v := .bool true) 12 rfl hh (Or.inl ⟨by rfl, fun w _ => by rw [exec_eq_K _ _ _ rfl p.kz c2.kz rfl rfl w, hdc]⟩) ?_
        (try simp only [gs])
        refine tl ?_ 13 rfl hh ⟨by rfl, ?_⟩ ?_
        case refine_2 => (intro w hSw; go_simp; try with_reducible rfl)
        (try simp only [gs])
        have B6 : Below w.heap.size w w5.drew := B5.drew
        have HO6 : Hid (Own encC 95 w5.drew q (.slice (some ⟨g5, 0, none⟩) (I.length + 1) cap5) (I ++ [c2])) := HO5.out
        have hq6 : q ≤ w5.drew.heap.size := hq5
        clear HO5 B5 hq5 hK5 HS3
        generalize w5.drew = w6 at *
        refine wpAnyH_done (by kernel_rfl) ?_ _
        refine NoPanic.normal ?_
        generalize hA : (some (⟨g0, off, none⟩ : Addr)) = ad2 at *
        clear hA
        have D6 := D0.out.below B6
        obtain ⟨aq, haq⟩ : ∃ aq, (if cap = k + 1 then ad2 else Option.map (·.add ((k + 1) * 26)) ad2) = aq := ⟨_, rfl⟩
        rw [haq] at D6
        clear D0
        go_wp2_with (first
         | (at_builtin; refine append_sl rowC rfl _ _ rfl q (.slice (some ⟨g5, 0, none⟩) (I.length + 1) cap5) (I ++ [c2]) J rfl HO6.out _ rfl w.heap.size D6 (by have := HLL.out; simp only [List.length_append, List.length_cons, List.length_nil]; omega) (by decide) hq6 ?_; intro v7 w7 o7 gr7))
        go_ret
        refine ⟨v7, rfl, ?_, B6.grown gr7 B6.size (fun j hj => by have e : g5 = j := (by simpa [Value.ownBlock] using hj); omega)⟩
        rw [HC2.out, HPA.out]
        have h9 : I ++ [c2] ++ J = I ++ c2 :: J := by simp
        rw [h9] at o7
        exact o7.lower (by omega)
      · have hdc : decide (p.kz = c2.kz) = false := decide_eq_false hpc
        have HPA : Hid (putA Ch.n l c2 = l.take k ++ c2 :: l.drop k) := (show _ = _ by rw [putA_at, show Ch.n c2 = c2.kz.n from rfl, hp, hh, hdc]; rfl)
        clear hp hh hpc
        have T0 : SlB encC w w.heap.size (.slice (some (⟨g0, off, none⟩ : Addr)) k cap) (l.take k) := SlB.take HS.out k (by have := HN.out; omega)
        have D0 : SlB encC w w.heap.size (.slice (if cap = k then (some (⟨g0, off, none⟩ : Addr)) else Option.map (·.add ((k) * 26)) (some (⟨g0, off, none⟩ : Addr))) (N - (k)) (cap - (k))) (l.drop (k)) := by
         have hdr := SlB.drop HS.out (k) (by have := HN.out; omega)
         skip
         exact hdr
        have D0 : Hid (SlB encC w w.heap.size (.slice (if cap = k then (some (⟨g0, off, none⟩ : Addr)) else Option.map (·.add ((k) * 26)) (some (⟨g0, off, none⟩ : Addr))) (N - (k)) (cap - (k))) (l.drop (k))) := D0
        have HLL : Hid ((l.take k).length = k ∧ (l.drop (k)).length ≤ 10000) := ⟨by simp; have := HN.out; omega, by simp; have := HN.out; omega⟩
        have hkc : (k : Int) ≤ (cap : Int) := by omega
        have hkz : (0 : Int) ≤ (k : Int) := by omega
        have hkn : ((k : Nat) : Int) ≤ (N : Int) := by omega
        have hkc2 : ((k : Nat) : Int) ≤ (cap : Int) := by omega
        generalize l.take k = I at *
        generalize l.drop (k) = J at *
        have B1 : Below w.heap.size w y1 := HB.out.1
        have hK2 := HB.out.2
        have T1 : SlB encC y1 w.heap.size (.slice (some (⟨g0, off, none⟩ : Addr)) k cap) I := T0.below B1
        have hw1 : w.heap.size < y1.heap.size := hK2.lt
        have b3 : Below y1.heap.size y1 (y1.alloc (.cells #[] 95)) := (Below.refl _ _).alloc (Nat.le_refl _) _
        have oE : Own encC 95 (y1.alloc (.cells #[] 95)) y1.heap.size (.slice (some ⟨y1.heap.size, 0, none⟩) 0 0) [] := World.ownsRow_made (base := y1.heap.size) (e := 95) (size := 26) y1 #[] 0 (Nat.le_refl _) (by unfold maxLen; omega) rfl
        have HX : Hid (Below w.heap.size w (y1.alloc (.cells #[] 95)) ∧ InB encC 95 (y1.alloc (.cells #[] 95)) w.heap.size c2 ∧ SlB encC (y1.alloc (.cells #[] 95)) w.heap.size (.slice (some (⟨g0, off, none⟩ : Addr)) k cap) I ∧ Own encC 95 (y1.alloc (.cells #[] 95)) y1.heap.size (.slice (some ⟨y1.heap.size, 0, none⟩) 0 0) []) := ⟨B1.trans (b3.mono B1.size), hK2.below b3 hK2.lt, T1.below (b3.mono B1.size), oE⟩
        have hs2 : y1.heap.size ≤ (y1.alloc (.cells #[] 95)).heap.size := b3.size
        clear B1 b3 hK2 T1 T0 oE HB HS
        go_upto_region 9 with (first
         | (at_builtin; refine append_sl rowC rfl _ _ rfl y1.heap.size (.slice (some ⟨y1.heap.size, 0, none⟩) 0 0) [] I rfl HX.out.2.2.2 _ rfl w.heap.size HX.out.2.2.1 (by have := HLL.out.1; simp only [List.length_nil]; omega) (by decide) hs2 ?_; intro v3 w3 o3 gr3))
        have B3 : Below w.heap.size w w3 := HX.out.1.grown gr3 HX.out.1.size (fun j hj => by have e : y1.heap.size = j := (by simpa [Value.ownBlock] using hj); omega)
        have hK3 : InB encC 95 w3 w.heap.size c2 := HX.out.2.1.same (gr3.block _ HX.out.2.1.lt (fun e => by have e2 : w.heap.size = y1.heap.size := (by simpa [Value.ownBlock] using e); omega))
        have hw3 : y1.heap.size ≤ w3.heap.size := Nat.le_trans hs2 gr3.size
        simp only [List.nil_append] at o3
        have hlt3 := o3.lt
        clear HX gr3 hs2
        generalize y1.heap.size = q at *
        go_upto_region 10 with (first
         | (refine load_el elC _ rfl w.heap.size 0 rfl rfl c2 hK3.range ?_)
         | (refine build_el1 rowC rfl _ rfl c2 rfl (by decide) ?_; intro x4 o4 b4 s4 h4
            have hs4 := o3.below b4
            have hB4 : Below w.heap.size w x4 := B3.trans (b4.mono B3.size)
            have hK4 := hK3.below b4 hK3.lt)
         | (at_builtin; refine append_one rowC rfl _ _ rfl q v3 I rfl hs4 w3.heap.size c2 rfl (0, 0) _ h4 (by have := HLL.out.1; omega) (by decide) (by omega) ?_
            intro g5 cap5 w5 o5 gr5 nr5 lt5))
        have B5 : Below w.heap.size w w5 := hB4.grown gr5 hB4.size (fun j hj => by have := (hlt3 j hj).1; omega)
        have hK5 : InB encC 95 w5 w.heap.size c2 := hK4.same (gr5.block _ hK4.lt (fun e => by have := (hlt3 _ e.symm).1; omega))
        have HO5 : Hid (Own encC 95 w5 q (.slice (some ⟨g5, 0, none⟩) (I.length + 1) cap5) (I ++ [c2])) := o5
        have hg5 : q ≤ g5 := (o5.lt g5 rfl).1
        have hq5 : q ≤ w5.heap.size := Nat.le_trans hg5 (Nat.le_of_lt lt5)
        clear o5 gr5 nr5 lt5 o3 o4 b4 s4 h4 hs4 hB4 hlt3 hK3 hK4 B3
        have HS3 : Hid (w5.rangeAt g0 (off + k * 26) (bc p.k) ∧ w5.rangeAt w.heap.size 0 (bc c2.k)) := ⟨range_same' HAT.out (B5.block g0 hg0), range_kC hK5.range⟩
        refine wp_region_noPanic ?_
        refine wp_region_held_drew (S := (fun yy => yy.rangeAt g0 (off + k * 26) (bc p.k) ∧ yy.rangeAt w.heap.size 0 (bc c2.k))) (by kernel_rfl) HS3.out (fun hh => ?_)
        refine tl ?_ 0 rfl hh ⟨by rfl, ?_⟩ ?_
        case refine_2 => (intro w hSw; go_simp; try with_reducible rfl)
        (try simp only [gs])
        refine tl ?_ 1 rfl hh ⟨by rfl, ?_⟩ ?_
        case refine_2 => (intro w hSw; go_simp; try with_reducible rfl)
        (try simp only [gs])
        refine tl ?_ 2 rfl hh ⟨by rfl, ?_⟩ ?_
        case refine_2 => (intro w hSw; go_simp; try with_reducible rfl)
        (try simp only [gs])
        refine tl ?_ 3 rfl hh ⟨by rfl, ?_⟩ ?_
        case refine_2 => (intro w hSw; go_simp; try with_reducible rfl)
        (try simp only [gs])
        refine tl ?_ 4 rfl hh ⟨by rfl, ?_⟩ ?_
        case refine_2 => (intro w hSw; go_simp; try with_reducible rfl)
        (try simp only [gs])
        refine tl ?_ 5 rfl hh ⟨by rfl, ?_⟩ ?_
        case refine_2 => (intro w hSw; go_simp; try with_reducible rfl)
        (try simp only [gs])
        refine tl ?_ 6 rfl hh ⟨by rfl, ?_⟩ ?_
        case refine_2 => (intro w hSw; go_simp; try with_reducible rfl)
        (try simp only [gs])
        refine tl ?_ 7 rfl hh ⟨by rfl, ?_⟩ ?_
        case refine_2 => (intro w hSw; go_simp; try with_reducible rfl)
        (try simp only [gs])
        refine tl ?_ 8 rfl hh ⟨by rfl, ?_⟩ ?_
        case refine_2 => (intro w hSw; go_simp; try with_reducible rfl)
        (try simp only [gs])
        refine tk 9 rfl hh (yieldsIf_load_mid (by rfl) _ _ rfl _ _ rfl _ _ (fun _ h => h.1) Tryz.underlying54 rfl (hInfo p)) ?_
        (try simp only [gs])
        refine tl ?_ 10 rfl hh ⟨by rfl, ?_⟩ ?_
        case refine_2 => (intro w hSw; go_simp; try with_reducible rfl)
        (try simp only [gs])
        refine tk 11 rfl hh (yieldsIf_load_mid (by rfl) _ _ rfl _ _ rfl _ _ (fun _ h => h.2) Tryz.underlying54 rfl (hInfo c2)) ?_
        (try simp only [gs])
        refine tk (v := .bool false) 12 rfl hh (Or.inl ⟨by rfl, fun w _ => by rw [exec_eq_K _ _ _ rfl p.kz c2.kz rfl rfl w, hdc]⟩) ?_
        (try simp only [gs])
        refine tl ?_ 13 rfl hh ⟨by rfl, ?_⟩ ?_
        case refine_2 => (intro w hSw; go_simp; try with_reducible rfl)
        (try simp only [gs])
        have B6 : Below w.heap.size w w5.drew := B5.drew
        have HO6 : Hid (Own encC 95 w5.drew q (.slice (some ⟨g5, 0, none⟩) (I.length + 1) cap5) (I ++ [c2])) := HO5.out
        have hq6 : q ≤ w5.drew.heap.size := hq5
        clear HO5 B5 hq5 hK5 HS3
        generalize w5.drew = w6 at *
        refine wpAnyH_done (by kernel_rfl) ?_ _
        refine NoPanic.normal ?_
        generalize hA : (some (⟨g0, off, none⟩ : Addr)) = ad2 at *
        clear hA
        have D6 := D0.out.below B6
        rw [if_neg (show ¬ cap = k by omega)] at D6
        obtain ⟨aq, haq⟩ : ∃ aq, Option.map (·.add (k * 26)) ad2 = aq := ⟨_, rfl⟩
        rw [haq] at D6
        clear D0
        go_wp2_with (first
         | (at_builtin; refine append_sl rowC rfl _ _ rfl q (.slice (some ⟨g5, 0, none⟩) (I.length + 1) cap5) (I ++ [c2]) J rfl HO6.out _ rfl w.heap.size D6 (by have := HLL.out; simp only [List.length_append, List.length_cons, List.length_nil]; omega) (by decide) hq6 ?_; intro v7 w7 o7 gr7))
        go_ret
        refine ⟨v7, rfl, ?_, B6.grown gr7 B6.size (fun j hj => by have e : g5 = j := (by simpa [Value.ownBlock] using hj); omega)⟩
        rw [HC2.out, HPA.out]
        have h9 : I ++ [c2] ++ J = I ++ c2 :: J := by simp
        rw [h9] at o7
        exact o7.lower (by omega)
 | false =>
  rw [hg] at cg
  have hpl : c.plain = c := by unfold Ch.plain; rw [if_neg (by rw [hg]; simp)]
  have HC2 : Hid (c.plain = c) := hpl
  have HB2 : Hid (Below w.heap.size w Wa ∧ InB encC 95 Wa w.heap.size c) := ⟨hB, hU⟩
  clear hU hB hg hpl
  go_upto_region 3 with fail
  clear cv cg
  go_wp2_with fail
  go_loopg [5] N (fun g i wr => ∃ k : Nat, k + g = N ∧ i = .int .i64 (k : Int) ∧ Hid (Below w.heap.size w wr ∧ InB encC 95 wr w.heap.size c ∧ ∀ j (hj : j < l.length), j < k → Ch.n l[j] < c.kz.n))
  case atStart => exact ⟨0, by omega, rfl, (show _ ∧ _ ∧ _ from ⟨HB2.out.1, HB2.out.2, fun j hj q => (by omega)⟩)⟩
  case round =>
   obtain ⟨k, hkg, rfl, HE⟩ := hrel
   clear HB2
   cases gk with
   | zero =>
    have hkN : k = N := by omega
    have hp : posA Ch.n l c.kz.n = k := posA_eq Ch.n l c.kz.n k HE.out.2.2 (by have := HN.out; omega) (fun q => absurd q (by have := HN.out; omega))
    have hh := hit_no (key := Ch.n) hp (by have := HN.out; omega)
    have HPA : Hid (putA Ch.n l c = l.take k ++ c :: l.drop k) := (show _ = _ by rw [putA_at, show Ch.n c = c.kz.n from rfl, hp, hh]; rfl)
    have HB : Hid (Below w.heap.size w wr ∧ InB encC 95 wr w.heap.size c) := ⟨HE.out.1, HE.out.2.1⟩
    clear hp hh HE HI
    subst hkN
    have T0 : SlB encC w w.heap.size (.slice ad k cap) (l.take k) := SlB.take HS.out k (by have := HN.out; omega)
    have D0 : SlB encC w w.heap.size (.slice (if cap = k then ad else Option.map (·.add ((k) * 26)) ad) 0 (cap - (k))) (l.drop (k)) := by
     have hdr := SlB.drop HS.out (k) (by have := HN.out; omega)
     rw [Nat.sub_self] at hdr
     exact hdr
    have D0 : Hid (SlB encC w w.heap.size (.slice (if cap = k then ad else Option.map (·.add ((k) * 26)) ad) 0 (cap - (k))) (l.drop (k))) := D0
    have HLL : Hid ((l.take k).length = k ∧ (l.drop (k)).length ≤ 10000) := ⟨by simp; have := HN.out; omega, by simp; have := HN.out; omega⟩
    have hkc : (k : Int) ≤ (cap : Int) := by omega
    have hkz : (0 : Int) ≤ (k : Int) := by omega
    have hkn : ((k : Nat) : Int) ≤ (k : Int) := by omega
    have hkc : ((k : Nat) : Int) ≤ (cap : Int) := by omega
    generalize l.take k = I at *
    generalize l.drop (k) = J at *
    have B1 : Below w.heap.size w wr := HB.out.1
    have hK2 := HB.out.2
    have T1 : SlB encC wr w.heap.size (.slice ad k cap) I := T0.below B1
    have hw1 : w.heap.size < wr.heap.size := hK2.lt
    have b3 : Below wr.heap.size wr (wr.alloc (.cells #[] 95)) := (Below.refl _ _).alloc (Nat.le_refl _) _
    have oE : Own encC 95 (wr.alloc (.cells #[] 95)) wr.heap.size (.slice (some ⟨wr.heap.size, 0, none⟩) 0 0) [] := World.ownsRow_made (base := wr.heap.size) (e := 95) (size := 26) wr #[] 0 (Nat.le_refl _) (by unfold maxLen; omega) rfl
    have HX : Hid (Below w.heap.size w (wr.alloc (.cells #[] 95)) ∧ InB encC 95 (wr.alloc (.cells #[] 95)) w.heap.size c ∧ SlB encC (wr.alloc (.cells #[] 95)) w.heap.size (.slice ad k cap) I ∧ Own encC 95 (wr.alloc (.cells #[] 95)) wr.heap.size (.slice (some ⟨wr.heap.size, 0, none⟩) 0 0) []) := ⟨B1.trans (b3.mono B1.size), hK2.below b3 hK2.lt, T1.below (b3.mono B1.size), oE⟩
    have hs2 : wr.heap.size ≤ (wr.alloc (.cells #[] 95)).heap.size := b3.size
    clear B1 b3 hK2 T1 T0 oE HB HS
    go_upto_region 9 with (first
     | (at_builtin; refine append_sl rowC rfl _ _ rfl wr.heap.size (.slice (some ⟨wr.heap.size, 0, none⟩) 0 0) [] I rfl HX.out.2.2.2 _ rfl w.heap.size HX.out.2.2.1 (by have := HLL.out.1; simp only [List.length_nil]; omega) (by decide) hs2 ?_; intro v3 w3 o3 gr3))
    have B3 : Below w.heap.size w w3 := HX.out.1.grown gr3 HX.out.1.size (fun j hj => by have e : wr.heap.size = j := (by simpa [Value.ownBlock] using hj); omega)
    have hK3 : InB encC 95 w3 w.heap.size c := HX.out.2.1.same (gr3.block _ HX.out.2.1.lt (fun e => by have e2 : w.heap.size = wr.heap.size := (by simpa [Value.ownBlock] using e); omega))
    have hw3 : wr.heap.size ≤ w3.heap.size := Nat.le_trans hs2 gr3.size
    simp only [List.nil_append] at o3
    have hlt3 := o3.lt
    clear HX gr3 hs2
    generalize wr.heap.size = q at *
    go_upto_region 10 with (first
     | (refine load_el elC _ rfl w.heap.size 0 rfl rfl c hK3.range ?_)
     | (refine build_el1 rowC rfl _ rfl c rfl (by decide) ?_; intro x4 o4 b4 s4 h4
        have hs4 := o3.below b4
        have hB4 : Below w.heap.size w x4 := B3.trans (b4.mono B3.size)
        have hK4 := hK3.below b4 hK3.lt)
     | (at_builtin; refine append_one rowC rfl _ _ rfl q v3 I rfl hs4 w3.heap.size c rfl (0, 0) _ h4 (by have := HLL.out.1; omega) (by decide) (by omega) ?_
        intro g5 cap5 w5 o5 gr5 nr5 lt5))
    have B5 : Below w.heap.size w w5 := hB4.grown gr5 hB4.size (fun j hj => by have := (hlt3 j hj).1; omega)
    have hK5 : InB encC 95 w5 w.heap.size c := hK4.same (gr5.block _ hK4.lt (fun e => by have := (hlt3 _ e.symm).1; omega))
    have HO5 : Hid (Own encC 95 w5 q (.slice (some ⟨g5, 0, none⟩) (I.length + 1) cap5) (I ++ [c])) := o5
    have hg5 : q ≤ g5 := (o5.lt g5 rfl).1
    have hq5 : q ≤ w5.heap.size := Nat.le_trans hg5 (Nat.le_of_lt lt5)
    clear o5 gr5 nr5 lt5 o3 o4 b4 s4 h4 hs4 hB4 hlt3 hK3 hK4 B3
    go_quiet (fail)
    have B6 := below_drewN B5 nq
    have HO6 : Hid (Own encC 95 (w5.drewN nq) q (.slice (some ⟨g5, 0, none⟩) (I.length + 1) cap5) (I ++ [c])) := HO5.out
    have hq6 : q ≤ (w5.drewN nq).heap.size := hq5
    clear HO5 B5 hq5 hK5
    generalize w5.drewN nq = w6 at *
    have D6 := D0.out.below B6
    obtain ⟨aq, haq⟩ : ∃ aq, (if cap = k then ad else Option.map (·.add ((k) * 26)) ad) = aq := ⟨_, rfl⟩
    rw [haq] at D6
    clear D0
    go_wp2_with (first
     | (at_builtin; refine append_sl rowC rfl _ _ rfl q (.slice (some ⟨g5, 0, none⟩) (I.length + 1) cap5) (I ++ [c]) J rfl HO6.out _ rfl w.heap.size D6 (by have := HLL.out; simp only [List.length_append, List.length_cons, List.length_nil]; omega) (by decide) hq6 ?_; intro v7 w7 o7 gr7))
    go_ret
    refine ⟨v7, rfl, ?_, B6.grown gr7 B6.size (fun j hj => by have e : g5 = j := (by simpa [Value.ownBlock] using hj); omega)⟩
    rw [HC2.out, HPA.out]
    have h9 : I ++ [c] ++ J = I ++ c :: J := by simp
    rw [h9] at o7
    exact o7.lower (by omega)
   | succ g =>
    have hlt : k < N := by omega
    have hltI : (k : Int) < (N : Int) := by omega
    have hk0 : (0 : Int) ≤ (k : Int) := by omega
    have hkl : k < l.length := by rw [← HN.out]; exact hlt
    obtain ⟨g0, off, rfl, hg0, hat⟩ := HI.out k hkl
    have HR : Hid (wr.rangeAt g0 (off + k * 26) (bc (l[k]).k) ∧ wr.rangeAt w.heap.size 0 (bc c.k)) := ⟨range_kC (range_same' hat (HE.out.1.block g0 hg0)), range_kC HE.out.2.1.range⟩
    have HSTEP : Hid (Ch.n l[k] < c.kz.n → ∀ j (hj : j < l.length), j < k + 1 → Ch.n l[j] < c.kz.n) := fun q j hj hjk => by
     rcases Nat.lt_or_ge j k with z | z
     · exact HE.out.2.2 j hj z
     · have : j = k := by omega
       subst this
       exact q
    have HSTOP : Hid (¬ Ch.n l[k] < c.kz.n → posA Ch.n l c.kz.n = k ∧ hitA Ch.n l c.kz.n = decide ((l[k]).kz = c.kz)) := fun q => by
     have hp : posA Ch.n l c.kz.n = k := posA_eq Ch.n l c.kz.n k HE.out.2.2 (by omega) (fun _ => q)
     exact ⟨hp, by rw [hit_yes hp hkl, kz_eq_n]; rfl⟩
    have HB : Hid (Below w.heap.size w wr ∧ InB encC 95 wr w.heap.size c) := ⟨HE.out.1, HE.out.2.1⟩
    have HAT : Hid (w.rangeAt g0 (off + k * 26) (bc (l[k]).k)) := range_kC hat
    have hn : Ch.n l[k] = (l[k]).kz.n := rfl
    rw [hn] at HSTEP HSTOP
    generalize l[k] = p at *
    clear hat hkl HE HI hn
    go_upto_region 5 with fail
    refine wp_region_noPanic ?_
    refine wp_region_held_drew (S := (fun yy => yy.rangeAt g0 (off + k * 26) (bc p.k) ∧ yy.rangeAt w.heap.size 0 (bc c.k))) (by kernel_rfl) HR.out (fun hh => ?_)
    refine tl ?_ 0 rfl hh ⟨by rfl, ?_⟩ ?_
    case refine_2 => (intro w hSw; go_simp; try with_reducible rfl)
    (try simp only [gs])
    refine tl ?_ 1 rfl hh ⟨by rfl, ?_⟩ ?_
    case refine_2 => (intro w hSw; go_simp; try with_reducible rfl)
    (try simp only [gs])
    refine tl ?_ 2 rfl hh ⟨by rfl, ?_⟩ ?_
    case refine_2 => (intro w hSw; go_simp; try with_reducible rfl)
    (try simp only [gs])
    refine tl ?_ 3 rfl hh ⟨by rfl, ?_⟩ ?_
    case refine_2 => (intro w hSw; go_simp; try with_reducible rfl)
    (try simp only [gs])
    refine tk 4 rfl hh (yieldsIf_load_mid (by rfl) _ _ rfl _ _ rfl _ _ (fun _ h => h.1) Tryz.underlying54 rfl (hInfo p)) ?_
    (try simp only [gs])
    refine tl ?_ 5 rfl hh ⟨by rfl, ?_⟩ ?_
    case refine_2 => (intro w hSw; go_simp; try with_reducible rfl)
    (try simp only [gs])
    refine tk 6 rfl hh (yieldsIf_load_mid (by rfl) _ _ rfl _ _ rfl _ _ (fun _ h => h.2) Tryz.underlying54 rfl (hInfo c)) ?_
    (try simp only [gs])
    have HB0 : Hid (Below w.heap.size w wr.drew ∧ InB encC 95 wr.drew w.heap.size c) := ⟨HB.out.1.drew, ⟨HB.out.2.blk⟩⟩
    have hLS := lessK_calls wr.drew p.kz c.kz
    clear HB HR
    generalize wr.drew = y0 at *
    refine wpAnyH_ready (rs := [7]) (by kernel_rfl) (by simp) (AllReadyH.cons rfl (fun K' hK => ?_) AllReadyH.nil)
    rw [if_pos (by rfl)]
    (try simp only [gs])
    go_simp
    refine hLS.mono ?_
    rintro e y1 ⟨rfl, c1⟩
    have HB1 : Hid (Below w.heap.size w y1 ∧ InB encC 95 y1 w.heap.size c) := ⟨HB0.out.1.trans (c1.mono HB0.out.1.size), HB0.out.2.below c1 HB0.out.2.lt⟩
    refine hK.out _ _ ⟨range_same' HAT.out (HB1.out.1.block g0 hg0), range_kC HB1.out.2.range⟩ (fun hh => ?_)
    clear hK K' c1 HB0 hLS
    (try simp only [gs])
    refine tl ?_ 8 rfl hh ⟨by rfl, ?_⟩ ?_
    case refine_2 => (intro w hSw; go_simp; try with_reducible rfl)
    (try simp only [gs])
    refine wpAnyH_done (by kernel_rfl) ?_ _
    refine NoPanic.normal ?_
    by_cases hle : p.kz.n < c.kz.n
    · have hd : decide (p.kz.n < c.kz.n) = true := decide_eq_true hle
      have HS2 : Hid (∀ j (hj : j < l.length), j < k + 1 → Ch.n l[j] < c.kz.n) := HSTEP.out hle
      clear hle HSTEP HSTOP
      rw [hd]
      go_wp2_with fail
      go_roundg g
      case measure => omega
      case rel => exact ⟨k + 1, by omega, congrArg (Value.int .i64) (by omega), (show Below w.heap.size w y1 ∧ InB encC 95 y1 w.heap.size c ∧ ∀ j (hj : j < l.length), j < k + 1 → Ch.n l[j] < c.kz.n from ⟨HB1.out.1, HB1.out.2, HS2.out⟩)⟩
    · have hd : decide (p.kz.n < c.kz.n) = false := decide_eq_false hle
      obtain ⟨hp, hh⟩ := HSTOP.out hle
      have HB : Hid (Below w.heap.size w y1 ∧ InB encC 95 y1 w.heap.size c) := HB1.out
      clear hle HSTEP HSTOP HB1
      rw [hd]
      by_cases hpc : p.kz = c.kz
      · have hdc : decide (p.kz = c.kz) = true := decide_eq_true hpc
        have HPA : Hid (putA Ch.n l c = l.take k ++ c :: l.drop (k + 1)) := (show _ = _ by rw [putA_at, show Ch.n c = c.kz.n from rfl, hp, hh, hdc]; rfl)
        clear hp hh hpc
        have T0 : SlB encC w w.heap.size (.slice (some (⟨g0, off, none⟩ : Addr)) k cap) (l.take k) := SlB.take HS.out k (by have := HN.out; omega)
        have D0 : SlB encC w w.heap.size (.slice (if cap = k + 1 then (some (⟨g0, off, none⟩ : Addr)) else Option.map (·.add ((k + 1) * 26)) (some (⟨g0, off, none⟩ : Addr))) (N - (k + 1)) (cap - (k + 1))) (l.drop (k + 1)) := by
         have hdr := SlB.drop HS.out (k + 1) (by have := HN.out; omega)
         skip
         exact hdr
        have D0 : Hid (SlB encC w w.heap.size (.slice (if cap = k + 1 then (some (⟨g0, off, none⟩ : Addr)) else Option.map (·.add ((k + 1) * 26)) (some (⟨g0, off, none⟩ : Addr))) (N - (k + 1)) (cap - (k + 1))) (l.drop (k + 1))) := D0
        have HLL : Hid ((l.take k).length = k ∧ (l.drop (k + 1)).length ≤ 10000) := ⟨by simp; have := HN.out; omega, by simp; have := HN.out; omega⟩
        have hkc : (k : Int) ≤ (cap : Int) := by omega
        have hkz : (0 : Int) ≤ (k : Int) := by omega
        have hkn : ((k + 1 : Nat) : Int) ≤ (N : Int) := by omega
        have hkc : ((k + 1 : Nat) : Int) ≤ (cap : Int) := by omega
        generalize l.take k = I at *
        generalize l.drop (k + 1) = J at *
        have B1 : Below w.heap.size w y1 := HB.out.1
        have hK2 := HB.out.2
        have T1 : SlB encC y1 w.heap.size (.slice (some (⟨g0, off, none⟩ : Addr)) k cap) I := T0.below B1
        have hw1 : w.heap.size < y1.heap.size := hK2.lt
        have b3 : Below y1.heap.size y1 (y1.alloc (.cells #[] 95)) := (Below.refl _ _).alloc (Nat.le_refl _) _
        have oE : Own encC 95 (y1.alloc (.cells #[] 95)) y1.heap.size (.slice (some ⟨y1.heap.size, 0, none⟩) 0 0) [] := World.ownsRow_made (base := y1.heap.size) (e := 95) (size := 26) y1 #[] 0 (Nat.le_refl _) (by unfold maxLen; omega) rfl
        have HX : Hid (Below w.heap.size w (y1.alloc (.cells #[] 95)) ∧ InB encC 95 (y1.alloc (.cells #[] 95)) w.heap.size c ∧ SlB encC (y1.alloc (.cells #[] 95)) w.heap.size (.slice (some (⟨g0, off, none⟩ : Addr)) k cap) I ∧ Own encC 95 (y1.alloc (.cells #[] 95)) y1.heap.size (.slice (some ⟨y1.heap.size, 0, none⟩) 0 0) []) := ⟨B1.trans (b3.mono B1.size), hK2.below b3 hK2.lt, T1.below (b3.mono B1.size), oE⟩
        have hs2 : y1.heap.size ≤ (y1.alloc (.cells #[] 95)).heap.size := b3.size
        clear B1 b3 hK2 T1 T0 oE HB HS
        go_upto_region 9 with (first
         | (at_builtin; refine append_sl rowC rfl _ _ rfl y1.heap.size (.slice (some ⟨y1.heap.size, 0, none⟩) 0 0) [] I rfl HX.out.2.2.2 _ rfl w.heap.size HX.out.2.2.1 (by have := HLL.out.1; simp only [List.length_nil]; omega) (by decide) hs2 ?_; intro v3 w3 o3 gr3))
        have B3 : Below w.heap.size w w3 := HX.out.1.grown gr3 HX.out.1.size (fun j hj => by have e : y1.heap.size = j := (by simpa [Value.ownBlock] using hj); omega)
        have hK3 : InB encC 95 w3 w.heap.size c := HX.out.2.1.same (gr3.block _ HX.out.2.1.lt (fun e => by have e2 : w.heap.size = y1.heap.size := (by simpa [Value.ownBlock] using e); omega))
        have hw3 : y1.heap.size ≤ w3.heap.size := Nat.le_trans hs2 gr3.size
        simp only [List.nil_append] at o3
        have hlt3 := o3.lt
        clear HX gr3 hs2
        generalize y1.heap.size = q at *
        go_upto_region 10 with (first
         | (refine load_el elC _ rfl w.heap.size 0 rfl rfl c hK3.range ?_)
         | (refine build_el1 rowC rfl _ rfl c rfl (by decide) ?_; intro x4 o4 b4 s4 h4
            have hs4 := o3.below b4
            have hB4 : Below w.heap.size w x4 := B3.trans (b4.mono B3.size)
            have hK4 := hK3.below b4 hK3.lt)
         | (at_builtin; refine append_one rowC rfl _ _ rfl q v3 I rfl hs4 w3.heap.size c rfl (0, 0) _ h4 (by have := HLL.out.1; omega) (by decide) (by omega) ?_
            intro g5 cap5 w5 o5 gr5 nr5 lt5))
        have B5 : Below w.heap.size w w5 := hB4.grown gr5 hB4.size (fun j hj => by have := (hlt3 j hj).1; omega)
        have hK5 : InB encC 95 w5 w.heap.size c := hK4.same (gr5.block _ hK4.lt (fun e => by have := (hlt3 _ e.symm).1; omega))
        have HO5 : Hid (Own encC 95 w5 q (.slice (some ⟨g5, 0, none⟩) (I.length + 1) cap5) (I ++ [c])) := o5
        have hg5 : q ≤ g5 := (o5.lt g5 rfl).1
        have hq5 : q ≤ w5.heap.size := Nat.le_trans hg5 (Nat.le_of_lt lt5)
        clear o5 gr5 nr5 lt5 o3 o4 b4 s4 h4 hs4 hB4 hlt3 hK3 hK4 B3
        have HS3 : Hid (w5.rangeAt g0 (off + k * 26) (bc p.k) ∧ w5.rangeAt w.heap.size 0 (bc c.k)) := ⟨range_same' HAT.out (B5.block g0 hg0), range_kC hK5.range⟩
        refine wp_region_noPanic ?_
        refine wp_region_held_drew (S := (fun yy => yy.rangeAt g0 (off + k * 26) (bc p.k) ∧ yy.rangeAt w.heap.size 0 (bc c.k))) (by kernel_rfl) HS3.out (fun hh => ?_)
        refine tl ?_ 0 rfl hh ⟨by rfl, ?_⟩ ?_
        case refine_2 => (intro w hSw; go_simp; try with_reducible rfl)
        (try simp only [gs])
        refine tl ?_ 1 rfl hh ⟨by rfl, ?_⟩ ?_
        case refine_2 => (intro w hSw; go_simp; try with_reducible rfl)
        (try simp only [gs])
        refine tl ?_ 2 rfl hh ⟨by rfl, ?_⟩ ?_
        case refine_2 => (intro w hSw; go_simp; try with_reducible rfl)
        (try simp only [gs])
        refine tl ?_ 3 rfl hh ⟨by rfl, ?_⟩ ?_
        case refine_2 => (intro w hSw; go_simp; try with_reducible rfl)
        (try simp only [gs])
        refine tl ?_ 4 rfl hh ⟨by rfl, ?_⟩ ?_
        case refine_2 => (intro w hSw; go_simp; try with_reducible rfl)
        (try simp only [gs])
        refine tl ?_ 5 rfl hh ⟨by rfl, ?_⟩ ?_
        case refine_2 => (intro w hSw; go_simp; try with_reducible rfl)
        (try simp only [gs])
        refine tl ?_ 6 rfl hh ⟨by rfl, ?_⟩ ?_
        case refine_2 => (intro w hSw; go_simp; try with_reducible rfl)
        (try simp only [gs])
        refine tl ?_ 7 rfl hh ⟨by rfl, ?_⟩ ?_
        case refine_2 => (intro w hSw; go_simp; try with_reducible rfl)
        (try simp only [gs])
        refine tl ?_ 8 rfl hh ⟨by rfl, ?_⟩ ?_
        case refine_2 => (intro w hSw; go_simp; try with_reducible rfl)
        (try simp only [gs])
        refine tk 9 rfl hh (yieldsIf_load_mid (by rfl) _ _ rfl _ _ rfl _ _ (fun _ h => h.1) Tryz.underlying54 rfl (hInfo p)) ?_
        (try simp only [gs])
        refine tl ?_ 10 rfl hh ⟨by rfl, ?_⟩ ?_
        case refine_2 => (intro w hSw; go_simp; try with_reducible rfl)
        (try simp only [gs])
        refine tk 11 rfl hh (yieldsIf_load_mid (by rfl) _ _ rfl _ _ rfl _ _ (fun _ h => h.2) Tryz.underlying54 rfl (hInfo c)) ?_
        (try simp only [gs])
        refine tk (v := .bool true) 12 rfl hh (Or.inl ⟨by rfl, fun w _ => by rw [exec_eq_K _ _ _ rfl p.kz c.kz rfl rfl w, hdc]⟩) ?_
        (try simp only [gs])
        refine tl ?_ 13 rfl hh ⟨by rfl, ?_⟩ ?_
        case refine_2 => (intro w hSw; go_simp; try with_reducible rfl)
        (try simp only [gs])
        have B6 : Below w.heap.size w w5.drew := B5.drew
        have HO6 : Hid (Own encC 95 w5.drew q (.slice (some ⟨g5, 0, none⟩) (I.length + 1) cap5) (I ++ [c])) := HO5.out
        have hq6 : q ≤ w5.drew.heap.size := hq5
        clear HO5 B5 hq5 hK5 HS3
        generalize w5.drew = w6 at *
        refine wpAnyH_done (by kernel_rfl) ?_ _
        refine NoPanic.normal ?_
        generalize hA : (some (⟨g0, off, none⟩ : Addr)) = ad2 at *
        clear hA
        have D6 := D0.out.below B6
        obtain ⟨aq, haq⟩ : ∃ aq, (if cap = k + 1 then ad2 else Option.map (·.add ((k + 1) * 26)) ad2) = aq := ⟨_, rfl⟩
        rw [haq] at D6
        clear D0
        go_wp2_with (first
         | (at_builtin; refine append_sl rowC rfl _ _ rfl q (.slice (some ⟨g5, 0, none⟩) (I.length + 1) cap5) (I ++ [c]) J rfl HO6.out _ rfl w.heap.size D6 (by have := HLL.out; simp only [List.length_append, List.length_cons, List.length_nil]; omega) (by decide) hq6 ?_; intro v7 w7 o7 gr7))
        go_ret
        refine ⟨v7, rfl, ?_, B6.grown gr7 B6.size (fun j hj => by have e : g5 = j := (by simpa [Value.ownBlock] using hj); omega)⟩
        rw [HC2.out, HPA.out]
        have h9 : I ++ [c] ++ J = I ++ c :: J := by simp
        rw [h9] at o7
        exact o7.lower (by omega)
      · have hdc : decide (p.kz = c.kz) = false := decide_eq_false hpc
        have HPA : Hid (putA Ch.n l c = l.take k ++ c :: l.drop k) := (show _ = _ by rw [putA_at, show Ch.n c = c.kz.n from rfl, hp, hh, hdc]; rfl)
        clear hp hh hpc
        have T0 : SlB encC w w.heap.size (.slice (some (⟨g0, off, none⟩ : Addr)) k cap) (l.take k) := SlB.take HS.out k (by have := HN.out; omega)
        have D0 : SlB encC w w.heap.size (.slice (if cap = k then (some (⟨g0, off, none⟩ : Addr)) else Option.map (·.add ((k) * 26)) (some (⟨g0, off, none⟩ : Addr))) (N - (k)) (cap - (k))) (l.drop (k)) := by
         have hdr := SlB.drop HS.out (k) (by have := HN.out; omega)
         skip
         exact hdr
        have D0 : Hid (SlB encC w w.heap.size (.slice (if cap = k then (some (⟨g0, off, none⟩ : Addr)) else Option.map (·.add ((k) * 26)) (some (⟨g0, off, none⟩ : Addr))) (N - (k)) (cap - (k))) (l.drop (k))) := D0
        have HLL : Hid ((l.take k).length = k ∧ (l.drop (k)).length ≤ 10000) := ⟨by simp; have := HN.out; omega, by simp; have := HN.out; omega⟩
        have hkc : (k : Int) ≤ (cap : Int) := by omega
        have hkz : (0 : Int) ≤ (k : Int) := by omega
        have hkn : ((k : Nat) : Int) ≤ (N : Int) := by omega
        have hkc : ((k : Nat) : Int) ≤ (cap : Int) := by omega
        generalize l.take k = I at *
        generalize l.drop (k) = J at *
        have B1 : Below w.heap.size w y1 := HB.out.1
        have hK2 := HB.out.2
        have T1 : SlB encC y1 w.heap.size (.slice (some (⟨g0, off, none⟩ : Addr)) k cap) I := T0.below B1
        have hw1 : w.heap.size < y1.heap.size := hK2.lt
        have b3 : Below y1.heap.size y1 (y1.alloc (.cells #[] 95)) := (Below.refl _ _).alloc (Nat.le_refl _) _
        have oE : Own encC 95 (y1.alloc (.cells #[] 95)) y1.heap.size (.slice (some ⟨y1.heap.size, 0, none⟩) 0 0) [] := World.ownsRow_made (base := y1.heap.size) (e := 95) (size := 26) y1 #[] 0 (Nat.le_refl _) (by unfold maxLen; omega) rfl
        have HX : Hid (Below w.heap.size w (y1.alloc (.cells #[] 95)) ∧ InB encC 95 (y1.alloc (.cells #[] 95)) w.heap.size c ∧ SlB encC (y1.alloc (.cells #[] 95)) w.heap.size (.slice (some (⟨g0, off, none⟩ : Addr)) k cap) I ∧ Own encC 95 (y1.alloc (.cells #[] 95)) y1.heap.size (.slice (some ⟨y1.heap.size, 0, none⟩) 0 0) []) := ⟨B1.trans (b3.mono B1.size), hK2.below b3 hK2.lt, T1.below (b3.mono B1.size), oE⟩
        have hs2 : y1.heap.size ≤ (y1.alloc (.cells #[] 95)).heap.size := b3.size
        clear B1 b3 hK2 T1 T0 oE HB HS
        go_upto_region 9 with (first
         | (at_builtin; refine append_sl rowC rfl _ _ rfl y1.heap.size (.slice (some ⟨y1.heap.size, 0, none⟩) 0 0) [] I rfl HX.out.2.2.2 _ rfl w.heap.size HX.out.2.2.1 (by have := HLL.out.1; simp only [List.length_nil]; omega) (by decide) hs2 ?_; intro v3 w3 o3 gr3))
        have B3 : Below w.heap.size w w3 := HX.out.1.grown gr3 HX.out.1.size (fun j hj => by have e : y1.heap.size = j := (by simpa [Value.ownBlock] using hj); omega)
        have hK3 : InB encC 95 w3 w.heap.size c := HX.out.2.1.same (gr3.block _ HX.out.2.1.lt (fun e => by have e2 : w.heap.size = y1.heap.size := (by simpa [Value.ownBlock] using e); omega))
        have hw3 : y1.heap.size ≤ w3.heap.size := Nat.le_trans hs2 gr3.size
        simp only [List.nil_append] at o3
        have hlt3 := o3.lt
        clear HX gr3 hs2
        generalize y1.heap.size = q at *
        go_upto_region 10 with (first
         | (refine load_el elC _ rfl w.heap.size 0 rfl rfl c hK3.range ?_)
         | (refine build_el1 rowC rfl _ rfl c rfl (by decide) ?_; intro x4 o4 b4 s4 h4
            have hs4 := o3.below b4
            have hB4 : Below w.heap.size w x4 := B3.trans (b4.mono B3.size)
            have hK4 := hK3.below b4 hK3.lt)
         | (at_builtin; refine append_one rowC rfl _ _ rfl q v3 I rfl hs4 w3.heap.size c rfl (0, 0) _ h4 (by have := HLL.out.1; omega) (by decide) (by omega) ?_
            intro g5 cap5 w5 o5 gr5 nr5 lt5))
        have B5 : Below w.heap.size w w5 := hB4.grown gr5 hB4.size (fun j hj => by have := (hlt3 j hj).1; omega)
        have hK5 : InB encC 95 w5 w.heap.size c := hK4.same (gr5.block _ hK4.lt (fun e => by have := (hlt3 _ e.symm).1; omega))
        have HO5 : Hid (Own encC 95 w5 q (.slice (some ⟨g5, 0, none⟩) (I.length + 1) cap5) (I ++ [c])) := o5
        have hg5 : q ≤ g5 := (o5.lt g5 rfl).1
        have hq5 : q ≤ w5.heap.size := Nat.le_trans hg5 (Nat.le_of_lt lt5)
        clear o5 gr5 nr5 lt5 o3 o4 b4 s4 h4 hs4 hB4 hlt3 hK3 hK4 B3
        have HS3 : Hid (w5.rangeAt g0 (off + k * 26) (bc p.k) ∧ w5.rangeAt w.heap.size 0 (bc c.k)) := ⟨range_same' HAT.out (B5.block g0 hg0), range_kC hK5.range⟩
        refine wp_region_noPanic ?_
        refine wp_region_held_drew (S := (fun yy => yy.rangeAt g0 (off + k * 26) (bc p.k) ∧ yy.rangeAt w.heap.size 0 (bc c.k))) (by kernel_rfl) HS3.out (fun hh => ?_)
        refine tl ?_ 0 rfl hh ⟨by rfl, ?_⟩ ?_
        case refine_2 => (intro w hSw; go_simp; try with_reducible rfl)
        (try simp only [gs])
        refine tl ?_ 1 rfl hh ⟨by rfl, ?_⟩ ?_
        case refine_2 => (intro w hSw; go_simp; try with_reducible rfl)
        (try simp only [gs])
        refine tl ?_ 2 rfl hh ⟨by rfl, ?_⟩ ?_
        case refine_2 => (intro w hSw; go_simp; try with_reducible rfl)
        (try simp only [gs])
        refine tl ?_ 3 rfl hh ⟨by rfl, ?_⟩ ?_
        case refine_2 => (intro w hSw; go_simp; try with_reducible rfl)
        (try simp only [gs])
        refine tl ?_ 4 rfl hh ⟨by rfl, ?_⟩ ?_
        case refine_2 => (intro w hSw; go_simp; try with_reducible rfl)
        (try simp only [gs])
        refine tl ?_ 5 rfl hh ⟨by rfl, ?_⟩ ?_
        case refine_2 => (intro w hSw; go_simp; try with_reducible rfl)
        (try simp only [gs])
        refine tl ?_ 6 rfl hh ⟨by rfl, ?_⟩ ?_
        case refine_2 => (intro w hSw; go_simp; try with_reducible rfl)
        (try simp only [gs])
        refine tl ?_ 7 rfl hh ⟨by rfl, ?_⟩ ?_
        case refine_2 => (intro w hSw; go_simp; try with_reducible rfl)
        (try simp only [gs])
        refine tl ?_ 8 rfl hh ⟨by rfl, ?_⟩ ?_
        case refine_2 => (intro w hSw; go_simp; try with_reducible rfl)
        (try simp only [gs])
        refine tk 9 rfl hh (yieldsIf_load_mid (by rfl) _ _ rfl _ _ rfl _ _ (fun _ h => h.1) Tryz.underlying54 rfl (hInfo p)) ?_
        (try simp only [gs])
        refine tl ?_ 10 rfl hh ⟨by rfl, ?_⟩ ?_
        case refine_2 => (intro w hSw; go_simp; try with_reducible rfl)
        (try simp only [gs])
        refine tk 11 rfl hh (yieldsIf_load_mid (by rfl) _ _ rfl _ _ rfl _ _ (fun _ h => h.2) Tryz.underlying54 rfl (hInfo c)) ?_
        (try simp only [gs])
        refine tk (v := .bool false) 12 rfl hh (Or.inl ⟨by rfl, fun w _ => by rw [exec_eq_K _ _ _ rfl p.kz c.kz rfl rfl w, hdc]⟩) ?_
        (try simp only [gs])
        refine tl ?_ 13 rfl hh ⟨by rfl, ?_⟩ ?_
        case refine_2 => (intro w hSw; go_simp; try with_reducible rfl)
        (try simp only [gs])
        have B6 : Below w.heap.size w w5.drew := B5.drew
        have HO6 : Hid (Own encC 95 w5.drew q (.slice (some ⟨g5, 0, none⟩) (I.length + 1) cap5) (I ++ [c])) := HO5.out
        have hq6 : q ≤ w5.drew.heap.size := hq5
        clear HO5 B5 hq5 hK5 HS3
        generalize w5.drew = w6 at *
        refine wpAnyH_done (by kernel_rfl) ?_ _
        refine NoPanic.normal ?_
        generalize hA : (some (⟨g0, off, none⟩ : Addr)) = ad2 at *
        clear hA
        have D6 := D0.out.below B6
        rw [if_neg (show ¬ cap = k by omega)] at D6
        obtain ⟨aq, haq⟩ : ∃ aq, Option.map (·.add (k * 26)) ad2 = aq := ⟨_, rfl⟩
        rw [haq] at D6
        clear D0
        go_wp2_with (first
         | (at_builtin; refine append_sl rowC rfl _ _ rfl q (.slice (some ⟨g5, 0, none⟩) (I.length + 1) cap5) (I ++ [c]) J rfl HO6.out _ rfl w.heap.size D6 (by have := HLL.out; simp only [List.length_append, List.length_cons, List.length_nil]; omega) (by decide) hq6 ?_; intro v7 w7 o7 gr7))
        go_ret
        refine ⟨v7, rfl, ?_, B6.grown gr7 B6.size (fun j hj => by have e : g5 = j := (by simpa [Value.ownBlock] using hj); omega)⟩
        rw [HC2.out, HPA.out]
        have h9 : I ++ [c] ++ J = I ++ c :: J := by simp
        rw [h9] at o7
        exact o7.lower (by omega)
end
end Go.Proofs.YtdmindhjmjnagaaGreatDoor
