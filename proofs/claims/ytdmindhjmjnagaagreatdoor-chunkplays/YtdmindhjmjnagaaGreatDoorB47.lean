import Derived.Test.YtdmindhjmjnagaaGreatDoorSi
import Derived.Test.YtdmindhjmjnagaaGreatDoorB01
import Derived.Test.YtdmindhjmjnagaaGreatDoorB46
import Derived.Deep.CutBlock
import Derived.Deep.DeepCutAuto
import Derived.Test.YtdmindhjmjnagaaGreatDoorCards
import Derived.Test.YtdmindhjmjnagaaGreatDoorTie
import Derived.LaidMore
import Derived.Lay
import Derived.SevenTiedAt
import Derived.Stop.Joined
/- CpI Cp13P -/
namespace Go.Proofs.YtdmindhjmjnagaaGreatDoor
set_option linter.unusedVariables false
set_option maxRecDepth 1000000
set_option maxHeartbeats 32000000
section
open Go.RowKit
def co0 : Co := ⟨0, 0, 0, 0, [], by decide, by decide, by decide⟩
theorem elCo : ElTy Tryz.prog encCo 29 := ⟨⟨_, Tryz.underlying29, rfl, rfl⟩, by kernel_rfl⟩
theorem cp_start {w y1 y2 : World} (n : NV) (hn : n.at_ w y1) (hV : n.V = vs0) (hx : n.x.n = 0) {rp : Nat} {bv : Value} {m : List Pa} (h2 : RvIn y2 rp bv nilW nilW nilW m [] [] []) (nv : NewV y1.heap.size bv) (hm : m.length ≤ 0) (hrp : y1.heap.size ≤ rp) (b : Below y1.heap.size y1 y2) : CpSt w ⟨n.lim, n.p, n.pv, n.base, n.q, rp, bv⟩ 0 y2 := by
 obtain rfl : m = [] := List.eq_nil_of_length_eq_zero (Nat.le_zero.1 hm)
 have A := NV.called hn b
 have lt : ∀ i, n.x.own n.q i → i < y1.heap.size := fun i e => NV.lt hn (.inl e)
 have A2 : VAt w n.lim (NI n.lim n.p n.pv n.base) 9 (nI n.p) n.q n.x vs0 y2 := by
  have := A
  unfold NV.at_ at this
  rwa [hV] at this
 exact ⟨n.x, vs0, nilW, nilW, [], [], 0, ⟨A2, h2, MvIn.nil _, ⟨fun e => absurd (lt _ e) (Nat.not_lt.2 hrp), fun q => absurd rfl q, fun q => absurd rfl q, fun q => absurd rfl q, fun q => absurd rfl q, fun e he => by cases he⟩, (fun g hg => by cases hg), by have := hn.limy; exact Nat.le_trans this hrp⟩, ⟨List.Pairwise.nil, Nat.zero_le _, MkIs.start, rfl, fun c hc => (by cases hc), fun L hL => (by cases hL), ⟨trivial, fun _ _ => rfl⟩, ⟨Nat.le_refl _, Nat.le_refl _, Nat.le_refl _, fun L hL => (by cases hL)⟩, rfl⟩, FileOk.nil, rfl, Nat.zero_le _, Nat.zero_le _, by rw [hx]; exact Nat.zero_le _⟩
theorem chunkPlays_walk (w : World) (u : Value) (ops : List Co) (h : Sl encCo w u ops) :
    Calls Tryz.prog 3 #[u] w fun e w' => e = .returned (.bool true) ∧ Below w.heap.size w w' := by
 have hsh := shown13_calls w
 obtain ⟨ad, cap, rfl, hcap, hmax, -, -⟩ := id h
 have HI : Hid (∀ i (hi : i < ops.length), ∃ g off, ad = some ⟨g, off, none⟩ ∧ g < w.heap.size ∧ w.rangeAt g (off + i * 5) (encCo.c ops[i])) := fun i hi => SlB.at h i hi
 obtain ⟨N, hN⟩ : ∃ N : Nat, N = ops.length := ⟨_, rfl⟩
 rw [← hN] at hcap hmax ⊢
 have HN : Hid (N = ops.length) := hN
 obtain ⟨M, hM⟩ : ∃ M : Nat, M = min N 50 := ⟨_, rfl⟩
 have HM : Hid (M = min N 50) := hM
 clear h hN hM
 go_enter Tryz.func3, Tryz.ntmps3
 go_upto_region 2 with (go_at_call 9; refine hsh.mono ?_; clear hsh; rintro e y0 ⟨rfl, b1⟩)
 have hN1 := nvNew_calls w y0 b1
 clear b1
 go_upto_region 3 with (go_at_call 10; refine hN1.mono ?_; clear hN1; rintro e y1 ⟨dn, rfl, A1, v1, n1, f1, b1⟩)
 have HV1 : Hid (dn.at_ w y1 ∧ dn.V = vs0 ∧ dn.x.n = 0) := ⟨A1, v1, n1⟩
 have hN2 := rvnew_calls y1 (.slice none 0 0) [] (SlB.nil _ _ _) (Nat.zero_le _)
 clear A1 v1 n1 f1 b1
 go_upto_region 4 with (go_at_call 11; refine hN2.mono ?_; clear hN2; rintro e y2 ⟨rp, bv, m, rfl, d2, nv2, mi2, ml2, hrp, b2⟩)
 obtain ⟨d, hd⟩ : ∃ d : Cn, d = ⟨dn.lim, dn.p, dn.pv, dn.base, dn.q, rp, bv⟩ := ⟨_, rfl⟩
 have HS0 : Hid (CpSt w d 0 y2) := by rw [hd]; exact cp_start dn HV1.out.1 HV1.out.2.1 HV1.out.2.2 d2 nv2 ml2 hrp b2
 have hq : dn.q = d.q := by rw [hd]
 have hr : rp = d.rp := by rw [hd]
 rw [hq, hr]
 clear d2 nv2 mi2 ml2 hrp b2 hd hq hr HV1
 go_wp2_with fail
 go_loopg [6] M (fun gg i wr => ∃ j : Nat, j + gg = M ∧ i = .int .i64 (j : Int) ∧ Hid (CpSt w d j wr))
 case atStart => exact ⟨0, by omega, rfl, HS0.out⟩
 case round =>
  clear HS0
  obtain ⟨j, hjg, rfl, HE⟩ := hrel
  cases gk with
  | zero =>
   have hjM : j = M := by omega
   by_cases hjN : j < N
   · have hjI : (j : Int) < (N : Int) := by omega
     have hj60 : ¬ (j : Int) < 50 := by have := HM.out; omega
     clear hjM hjN
     go_wp2_with fail
     go_ret
     exact ⟨rfl, HE.out.bel⟩
   · have hjI : ¬ (j : Int) < (N : Int) := by omega
     clear hjM hjN
     go_wp2_with fail
     go_ret
     exact ⟨rfl, HE.out.bel⟩
  | succ gg =>
   have hjI : (j : Int) < (N : Int) := by have := HM.out; omega
   have hj60 : (j : Int) < 50 := by have := HM.out; omega
   have hj0 : (0 : Int) ≤ (j : Int) := by omega
   have hjl : j < ops.length := by have := HN.out; omega
   have HJ : Hid (j < 50) := (show _ < _ by omega)
   obtain ⟨g, off, rfl, hg, hat⟩ := HI.out j hjl
   generalize ops[j] = o at *
   have hr : wr.rangeAt g (off + j * 5) (encCo.c o) := range_same' hat (HE.out.bel.block g hg)
   clear hat hg hjl
   go_upto_region 10 with (first
    | (refine load_el elCo _ rfl g (off + j * 5) rfl rfl o hr ?_)
    | (refine store_el elCo rfl _ _ rfl wr.heap.size rfl o rfl co0 (InB.new encCo _ wr co0 _ rfl) ?_; intro x1 hu1 tx1 sx1))
   have BX : Below wr.heap.size wr x1 := ((Below.refl _ wr).alloc (Nat.le_refl _) _).trans (tx1.below (by simp) (Nat.le_refl _) (by simp))
   have HBX : Hid (CpBx w d j wr.heap.size o x1) := HE.out.box BX rfl hu1.range (by rw [sx1]; simp)
   clear hr BX hu1 tx1 sx1 HE
   generalize wr.heap.size = b at *
   have HCK : Hid (∀ yy : World, yy.rangeAt b 0 (encCo.c o) → yy.cell? ⟨b, 0, none⟩ = some (.int .i64 o.kind)) := fun yy hh => by have := range_cKind hh; simpa using this
   have HCI : Hid (∀ yy : World, yy.rangeAt b 0 (encCo.c o) → yy.cell? ⟨b, 1, none⟩ = some (.int .i64 o.ino)) := fun yy hh => by have := range_cIno hh; simpa using this
   have HCO : Hid (∀ yy : World, yy.rangeAt b 0 (encCo.c o) → yy.cell? ⟨b, 2, none⟩ = some (.int .i64 o.off)) := fun yy hh => by have := range_cOff hh; simpa using this
   have hck := HCK.out _ HBX.out.bx.rg
   have hcn : x1.cell? ⟨b, 3, none⟩ = some (.int .i64 o.n) := by have := range_cN HBX.out.bx.rg; simpa using this
   have hcs : x1.cell? ⟨b, 4, none⟩ = some (.string (str o.s)) := by have := range_cStr HBX.out.bx.rg; simpa using this
   have hcut := str_cut300 o.s
   have hm0 : (0 : Int) ≤ min ((str o.s).size : Int) 300 := by omega
   have hm1 : min ((str o.s).size : Int) 300 ≤ ((str o.s).size : Int) := by omega
   have HSL : Hid ((o.s.take 300).length ≤ 300) := (show _ ≤ _ by rw [List.length_take]; omega)
   go_upto_region 11 with fail
   iterate 14 (first | go_values | go_skip | go_guarded | go_step | go_upon | go_back | go_simp)
   clear hcut hm0 hm1
   have HON : Hid (o.n ≤ 9223372036854775807) := o.hn.2
   go_cut [9] (fun s9 wc => ∃ nn : Int, s9 = .int .i64 nn ∧ x1 = wc ∧ Hid ((nn ≤ 3000 ∨ 1073741824 ≤ nn) ∧ nn ≤ 9223372036854775807))
   case first =>
    by_cases hn1 : 3000 < o.n
    · by_cases hn2 : o.n < 1073741824
      · go_wp2_with fail
        go_meet
        case rel => exact ⟨3000, rfl, rfl, ⟨.inl (by omega), by omega⟩⟩
      · have hn3 : 1073741824 ≤ o.n := by omega
        go_wp2_with fail
        go_meet
        case rel => exact ⟨o.n, rfl, rfl, ⟨.inr (by omega), HON.out⟩⟩
    · go_wp2_with fail
      go_meet
      case rel => exact ⟨o.n, rfl, rfl, ⟨.inl (by omega), HON.out⟩⟩
   case rest =>
    obtain ⟨nn, rfl, rfl, HNN⟩ := hcut
    clear HON
    go_upto_block 2 with fail
    clear hck hcs hcn
    generalize o.s.take 300 = s at *
    obtain ⟨wr2, rfl⟩ : ∃ z, z = x1 := ⟨_, rfl⟩
    have hck := HCK.out _ HBX.out.bx.rg
    go_cut [10] (fun s10 wc => s10 = .bool true ∧ Hid (CpSt w d (j + 1) wc))
    case first =>
     by_cases hk1 : o.kind = 1
     · have hb1 : (o.kind == 1) = true := by simpa using hk1
       clear hk1
       go_upto_region 20 with fail
       have HBD : Hid (CpBx w d j b o wr2.drew) := HBX.out.called ⟨rfl, rfl, rfl, Nat.le_refl _, fun _ _ => rfl⟩
       refine wp_region_noPanic ?_
       refine wp_region_held_drew (S := (fun yy => yy.rangeAt b 0 (encCo.c o))) (by kernel_rfl) HBD.out.bx.rg (fun hh => ?_)
       refine tl ?_ 0 rfl hh ⟨by rfl, ?_⟩ ?_
       case refine_2 => (intro w hSw; go_simp; try with_reducible rfl)
       (try simp only [gs])
       refine tl ?_ 1 rfl hh ⟨by rfl, ?_⟩ ?_
       case refine_2 => (intro w hSw; go_simp; try with_reducible rfl)
       (try simp only [gs])
       refine tl ?_ 2 rfl hh ⟨by rfl, ?_⟩ ?_
       case refine_2 => (intro w hSw; have hc := HCI.out _ hSw; go_simp; try with_reducible rfl)
       (try simp only [gs])
       refine tl ?_ 3 rfl hh ⟨by rfl, ?_⟩ ?_
       case refine_2 => (intro w hSw; go_simp; try with_reducible rfl)
       (try simp only [gs])
       refine tl ?_ 4 rfl hh ⟨by rfl, ?_⟩ ?_
       case refine_2 => (intro w hSw; have hc := HCO.out _ hSw; go_simp; try with_reducible rfl)
       (try simp only [gs])
       refine tl ?_ 5 rfl hh ⟨by rfl, ?_⟩ ?_
       case refine_2 => (intro w hSw; go_simp; try with_reducible rfl)
       (try simp only [gs])
       refine tl ?_ 7 rfl hh ⟨by rfl, ?_⟩ ?_
       case refine_2 => (intro w hSw; go_simp; try with_reducible rfl)
       (try simp only [gs])
       refine tl ?_ 8 rfl hh ⟨by rfl, ?_⟩ ?_
       case refine_2 => (intro w hSw; go_simp; try with_reducible rfl)
       (try simp only [gs])
       refine tl ?_ 9 rfl hh ⟨by rfl, ?_⟩ ?_
       case refine_2 => (intro w hSw; have hc := HCI.out _ hSw; go_simp; try with_reducible rfl)
       (try simp only [gs])
       refine tl ?_ 10 rfl hh ⟨by rfl, ?_⟩ ?_
       case refine_2 => (intro w hSw; go_simp; try with_reducible rfl)
       (try simp only [gs])
       refine tl ?_ 11 rfl hh ⟨by rfl, ?_⟩ ?_
       case refine_2 => (intro w hSw; have hc := HCO.out _ hSw; go_simp; try with_reducible rfl)
       (try simp only [gs])
       refine tl ?_ 12 rfl hh ⟨by rfl, ?_⟩ ?_
       case refine_2 => (intro w hSw; go_simp; try with_reducible rfl)
       (try simp only [gs])
       have hP := cp_write HBD.out HJ.out o.ino o.off o.ho.2 s HSL.out
       generalize wr2.drew = z0 at *
       refine wpAnyH_ready (rs := [6]) (by kernel_rfl) (by simp) (AllReadyH.cons rfl (fun K0 hK => ?_) AllReadyH.nil)
       rw [if_pos (by rfl)]
       (try simp only [gs])
       go_simp
       refine hP.mono ?_
       clear hP
       rintro e z1 ⟨r, rfl, PH⟩
       have hG := PH.go z1 (Below.refl _ _)
       refine hK.out _ _ PH.bx.rg (fun hh => ?_)
       clear hK K0 PH
       (try simp only [gs])
       refine wpAnyH_ready (rs := [13]) (by kernel_rfl) (by simp) (AllReadyH.cons rfl (fun K0 hK => ?_) AllReadyH.nil)
       rw [if_pos (by rfl)]
       (try simp only [gs])
       go_simp
       refine hG.mono ?_
       clear hG
       rintro e z2 ⟨rfl, HS, HX⟩
       have HS2 : Hid (CpSt w d (j + 1) z2) := HS
       refine hK.out _ _ HX.rg (fun hh => ?_)
       clear hK K0 HS HX
       (try simp only [gs])
       refine tl ?_ 14 rfl hh ⟨by rfl, ?_⟩ ?_
       case refine_2 => (intro w hSw; go_simp; try with_reducible rfl)
       (try simp only [gs])
       refine tl ?_ 15 rfl hh ⟨by rfl, ?_⟩ ?_
       case refine_2 => (intro w hSw; go_simp; try with_reducible rfl)
       (try simp only [gs])
       refine wpAnyH_done (by kernel_rfl) ?_ _
       refine NoPanic.normal ?_
       clear hh
       go_wp2_with fail
       go_meet
       case rel => exact ⟨rfl, HS2.out⟩
     · have hb1 : (o.kind == 1) = false := by simpa using hk1
       clear hk1
       by_cases hk2 : o.kind = 2
       · have hb2 : (o.kind == 2) = true := by simpa using hk2
         clear hk2
         go_upto_region 22 with fail
         have HBD : Hid (CpBx w d j b o wr2.drew) := HBX.out.called ⟨rfl, rfl, rfl, Nat.le_refl _, fun _ _ => rfl⟩
         refine wp_region_noPanic ?_
         refine wp_region_held_drew (S := (fun yy => yy.rangeAt b 0 (encCo.c o))) (by kernel_rfl) HBD.out.bx.rg (fun hh => ?_)
         refine tl ?_ 0 rfl hh ⟨by rfl, ?_⟩ ?_
         case refine_2 => (intro w hSw; go_simp; try with_reducible rfl)
         (try simp only [gs])
         refine tl ?_ 1 rfl hh ⟨by rfl, ?_⟩ ?_
         case refine_2 => (intro w hSw; go_simp; try with_reducible rfl)
         (try simp only [gs])
         refine tl ?_ 2 rfl hh ⟨by rfl, ?_⟩ ?_
         case refine_2 => (intro w hSw; have hc := HCI.out _ hSw; go_simp; try with_reducible rfl)
         (try simp only [gs])
         refine tl ?_ 3 rfl hh ⟨by rfl, ?_⟩ ?_
         case refine_2 => (intro w hSw; go_simp; try with_reducible rfl)
         (try simp only [gs])
         refine tl ?_ 4 rfl hh ⟨by rfl, ?_⟩ ?_
         case refine_2 => (intro w hSw; have hc := HCO.out _ hSw; go_simp; try with_reducible rfl)
         (try simp only [gs])
         refine tl ?_ 6 rfl hh ⟨by rfl, ?_⟩ ?_
         case refine_2 => (intro w hSw; go_simp; try with_reducible rfl)
         (try simp only [gs])
         refine tl ?_ 7 rfl hh ⟨by rfl, ?_⟩ ?_
         case refine_2 => (intro w hSw; go_simp; try with_reducible rfl)
         (try simp only [gs])
         refine tl ?_ 8 rfl hh ⟨by rfl, ?_⟩ ?_
         case refine_2 => (intro w hSw; have hc := HCI.out _ hSw; go_simp; try with_reducible rfl)
         (try simp only [gs])
         refine tl ?_ 9 rfl hh ⟨by rfl, ?_⟩ ?_
         case refine_2 => (intro w hSw; go_simp; try with_reducible rfl)
         (try simp only [gs])
         refine tl ?_ 10 rfl hh ⟨by rfl, ?_⟩ ?_
         case refine_2 => (intro w hSw; have hc := HCO.out _ hSw; go_simp; try with_reducible rfl)
         (try simp only [gs])
         have hP := cp_cut HBD.out HJ.out o.ino o.off o.ho.2
         generalize wr2.drew = z0 at *
         refine wpAnyH_ready (rs := [5]) (by kernel_rfl) (by simp) (AllReadyH.cons rfl (fun K0 hK => ?_) AllReadyH.nil)
         rw [if_pos (by rfl)]
         (try simp only [gs])
         go_simp
         refine hP.mono ?_
         clear hP
         rintro e z1 ⟨r, rfl, PH⟩
         have hG := PH.go z1 (Below.refl _ _)
         refine hK.out _ _ PH.bx.rg (fun hh => ?_)
         clear hK K0 PH
         (try simp only [gs])
         refine wpAnyH_ready (rs := [11]) (by kernel_rfl) (by simp) (AllReadyH.cons rfl (fun K0 hK => ?_) AllReadyH.nil)
         rw [if_pos (by rfl)]
         (try simp only [gs])
         go_simp
         refine hG.mono ?_
         clear hG
         rintro e z2 ⟨rfl, HS, HX⟩
         have HS2 : Hid (CpSt w d (j + 1) z2) := HS
         refine hK.out _ _ HX.rg (fun hh => ?_)
         clear hK K0 HS HX
         (try simp only [gs])
         refine tl ?_ 12 rfl hh ⟨by rfl, ?_⟩ ?_
         case refine_2 => (intro w hSw; go_simp; try with_reducible rfl)
         (try simp only [gs])
         refine tl ?_ 13 rfl hh ⟨by rfl, ?_⟩ ?_
         case refine_2 => (intro w hSw; go_simp; try with_reducible rfl)
         (try simp only [gs])
         refine wpAnyH_done (by kernel_rfl) ?_ _
         refine NoPanic.normal ?_
         clear hh
         go_wp2_with fail
         go_meet
         case rel => exact ⟨rfl, HS2.out⟩
       · have hb2 : (o.kind == 2) = false := by simpa using hk2
         clear hk2
         have hci := HCI.out _ HBX.out.bx.rg
         have hco := HCO.out _ HBX.out.bx.rg
         have h1 := cp_read HBX.out HJ.out o.ino o.off nn HNN.out.2 HNN.out.1 o.ho.2
         go_upto_region 17 with (go_at_call 16; refine h1.mono ?_; clear h1; rintro e z1 ⟨r, er, rfl, PH⟩)
         have hci1 := HCI.out _ PH.bx.rg
         have hco1 := HCO.out _ PH.bx.rg
         have h2 := PH.go z1 (Below.refl _ _)
         clear PH hci hco
         go_upto_region 18 with (go_at_call 17; refine h2.mono ?_; clear h2; rintro e z2 ⟨rfl, HS, -⟩)
         have HS2 : Hid (CpSt w d (j + 1) z2) := HS
         clear HS hci1 hco1
         have hrr : (r.toList == r.toList) = true := by simp
         have hee : (er == er) = true := by simp
         go_wp2_with fail
         go_meet
         case rel => exact ⟨rfl, HS2.out⟩
    case rest =>
     obtain ⟨rfl, HS1⟩ := hcut
     clear HBX HCI HCO HCK hck
     go_upto_region 23 with fail
     obtain ⟨x, V, cv, rv, C, R, K, A, B, hF, hU, hV1, hV2, hxn⟩ := HS1.out.called (z := wc.drew) ⟨rfl, rfl, rfl, Nat.le_refl _, fun _ _ => rfl⟩
     have HA : Hid (PlAt w d.lim d.p d.pv [] d.base d.q x V d.rp d.bv cv rv nilW C R [] [] wc.drew) := A
     have HOK : Hid (PlOk [] V C R [] [] K ∧ x.n ≤ 600 ∧ C.length ≤ 550 ∧ FileOk V.C ∧ V.U = [] ∧ V.C.length ≤ 11 * (j + 1) ∧ V.R.length ≤ 2 * (j + 1)) := ⟨B, hxn, by rw [B.c, List.length_map]; have := HJ.out; omega, hF, hU, hV1, hV2⟩
     have hCh := vchanges_calls wc.drew d.q _ x V A.a.vw (by omega)
     have hCC : V.C.map Ch.plain = C := B.c.symm
     have hCl : V.C.length = C.length := by rw [← hCC, List.length_map]
     rw [hCC, hCl] at hCh
     obtain ⟨adc, capc, hcv, -, -, -, -⟩ := id A.d.c
     obtain ⟨adr, capr, hrv, -, -, -, -⟩ := id A.d.r
     obtain ⟨NC, hNC⟩ : ∃ n, n = C.length := ⟨_, rfl⟩
     obtain ⟨NR, hNR⟩ : ∃ n, n = R.length := ⟨_, rfl⟩
     have HN : Hid (NC = C.length ∧ NR = R.length) := ⟨hNC, hNR⟩
     rw [← hNC] at hcv hCh
     rw [← hNR] at hrv
     subst hcv
     subst hrv
     have HRC : Hid (RvC wc.drew d.rp d.bv (.slice adc NC capc) (.slice adr NR capr) nilW) := ⟨A.d.blk⟩
     have HKR : Hid (∀ yy, Below wc.drew.heap.size wc.drew yy → RvC yy d.rp d.bv (.slice adc NC capc) (.slice adr NR capr) nilW) := fun yy h => ⟨(h.block d.rp A.d.lt).trans A.d.blk⟩
     clear A B hxn hCC hCl hNC hNR hF hU hV1 hV2
     refine wp_region_noPanic ?_
     refine wp_region_held_drew (S := (fun yy => RvC yy d.rp d.bv (.slice adc NC capc) (.slice adr NR capr) nilW)) (by kernel_rfl) HRC.out (fun hh => ?_)
     refine tl ?_ 0 rfl hh ⟨by rfl, ?_⟩ ?_
     case refine_2 => (intro w hSw; go_simp; try with_reducible rfl)
     (try simp only [gs])
     refine tl ?_ 1 rfl hh ⟨by rfl, ?_⟩ ?_
     case refine_2 => (intro w hSw; go_simp; try with_reducible rfl)
     (try simp only [gs])
     refine tl ?_ 2 rfl hh ⟨by rfl, ?_⟩ ?_
     case refine_2 => (intro w hSw; go_simp; try with_reducible rfl)
     (try simp only [gs])
     refine tl ?_ 3 rfl hh ⟨by rfl, ?_⟩ ?_
     case refine_2 => (intro w hSw; go_simp; try with_reducible rfl)
     (try simp only [gs])
     refine tl ?_ 5 rfl hh ⟨by rfl, ?_⟩ ?_
     case refine_2 => (intro w hSw; go_simp; try with_reducible rfl)
     (try simp only [gs])
     refine tl ?_ 6 rfl hh ⟨by rfl, ?_⟩ ?_
     case refine_2 => (intro w hSw; go_simp; try with_reducible rfl)
     (try simp only [gs])
     refine tl ?_ 7 rfl hh ⟨by rfl, ?_⟩ ?_
     case refine_2 => (intro w hSw; go_simp; try with_reducible rfl)
     (try simp only [gs])
     refine tl ?_ 8 rfl hh ⟨by rfl, ?_⟩ ?_
     case refine_2 => (intro w hSw; have hc := hSw.c1; go_simp; try with_reducible rfl)
     (try simp only [gs])
     generalize wc.drew = z0 at *
     refine wpAnyH_ready (rs := [4]) (by kernel_rfl) (by simp) (AllReadyH.cons rfl (fun K0 hK => ?_) AllReadyH.nil)
     rw [if_pos (by rfl)]
     (try simp only [gs])
     go_simp
     refine hCh.mono ?_
     clear hCh
     rintro e z1 ⟨adC, capC, rfl, o1, b1⟩
     have HB1 : Hid (Below z0.heap.size z0 z1) := b1
     have hSC := sameC_calls z1 (.slice adC NC capC) (.slice adc NC capc) C C o1.slB ((HA.out.called (Nat.zero_le _) b1).d.c) (by have := HOK.out.2.2.1; omega)
     rw [decide_eq_true rfl] at hSC
     refine hK.out _ _ (HKR.out z1 b1) (fun hh => ?_)
     clear hK K0 o1 b1
     (try simp only [gs])
     refine wpAnyH_ready (rs := [9]) (by kernel_rfl) (by simp) (AllReadyH.cons rfl (fun K0 hK => ?_) AllReadyH.nil)
     rw [if_pos (by rfl)]
     (try simp only [gs])
     go_simp
     refine hSC.mono ?_
     clear hSC
     rintro e z2 ⟨rfl, b2⟩
     have HB2 : Hid (Below z0.heap.size z0 z2) := HB1.out.trans (b2.mono HB1.out.size)
     refine hK.out _ _ (HKR.out z2 HB2.out) (fun hh => ?_)
     clear hK K0 b2 HB1
     (try simp only [gs])
     refine tl ?_ 10 rfl hh ⟨by rfl, ?_⟩ ?_
     case refine_2 => (intro w hSw; go_simp; try with_reducible rfl)
     (try simp only [gs])
     refine tl ?_ 11 rfl hh ⟨by rfl, ?_⟩ ?_
     case refine_2 => (intro w hSw; go_simp; try with_reducible rfl)
     (try simp only [gs])
     refine tl ?_ 12 rfl hh ⟨by rfl, ?_⟩ ?_
     case refine_2 => (intro w hSw; go_simp; try with_reducible rfl)
     (try simp only [gs])
     refine tl ?_ 13 rfl hh ⟨by rfl, ?_⟩ ?_
     case refine_2 => (intro w hSw; go_simp; try with_reducible rfl)
     (try simp only [gs])
     refine tl ?_ 15 rfl hh ⟨by rfl, ?_⟩ ?_
     case refine_2 => (intro w hSw; go_simp; try with_reducible rfl)
     (try simp only [gs])
     refine tl ?_ 16 rfl hh ⟨by rfl, ?_⟩ ?_
     case refine_2 => (intro w hSw; go_simp; try with_reducible rfl)
     (try simp only [gs])
     refine tl ?_ 17 rfl hh ⟨by rfl, ?_⟩ ?_
     case refine_2 => (intro w hSw; go_simp; try with_reducible rfl)
     (try simp only [gs])
     refine tl ?_ 18 rfl hh ⟨by rfl, ?_⟩ ?_
     case refine_2 => (intro w hSw; have hc := hSw.c2; go_simp; try with_reducible rfl)
     (try simp only [gs])
     have hRe := vreads_at (HA.out.called (Nat.zero_le _) HB2.out).a (by have := HOK.out.2.1; omega)
     refine wpAnyH_ready (rs := [14]) (by kernel_rfl) (by simp) (AllReadyH.cons rfl (fun K0 hK => ?_) AllReadyH.nil)
     rw [if_pos (by rfl)]
     (try simp only [gs])
     go_simp
     refine hRe.mono ?_
     clear hRe
     rintro e z3 ⟨vR, RR, rfl, o3, b3, i3, l3⟩
     obtain rfl : RR = R := Is.unique i3 HOK.out.1.rd (fun _ _ => rfl)
     have HB3 : Hid (Below z0.heap.size z0 z3) := HB2.out.trans (b3.mono HB2.out.size)
     have hSR := same_calls z3 vR (.slice adr NR capr) RR RR o3.slB ((HA.out.called (Nat.zero_le _) HB3.out).d.r)
     rw [decide_eq_true rfl] at hSR
     refine hK.out _ _ (HKR.out z3 HB3.out) (fun hh => ?_)
     clear hK K0 o3 b3 i3 l3 HB2
     (try simp only [gs])
     refine wpAnyH_ready (rs := [19]) (by kernel_rfl) (by simp) (AllReadyH.cons rfl (fun K0 hK => ?_) AllReadyH.nil)
     rw [if_pos (by rfl)]
     (try simp only [gs])
     go_simp
     refine hSR.mono ?_
     clear hSR
     rintro e z4 ⟨rfl, b4⟩
     have HB4 : Hid (Below z0.heap.size z0 z4) := HB3.out.trans (b4.mono HB3.out.size)
     refine hK.out _ _ (HKR.out z4 HB4.out) (fun hh => ?_)
     clear hK K0 b4 HB3
     (try simp only [gs])
     refine tl ?_ 20 rfl hh ⟨by rfl, ?_⟩ ?_
     case refine_2 => (intro w hSw; go_simp; try with_reducible rfl)
     (try simp only [gs])
     refine tl ?_ 21 rfl hh ⟨by rfl, ?_⟩ ?_
     case refine_2 => (intro w hSw; go_simp; try with_reducible rfl)
     (try simp only [gs])
     refine wpAnyH_done (by kernel_rfl) ?_ _
     refine NoPanic.normal ?_
     clear hh
     have HE : Hid (CpSt w d (j + 1) z4) := ⟨x, V, _, _, C, RR, K, HA.out.called (Nat.zero_le _) HB4.out, HOK.out.1, HOK.out.2.2.2.1, HOK.out.2.2.2.2.1, HOK.out.2.2.2.2.2.1, HOK.out.2.2.2.2.2.2, HOK.out.2.1⟩
     clear HRC HKR HA HOK HN HB4
     go_wp2_with fail
     go_roundg gg
     case measure => omega
     exact ⟨j + 1, by omega, by simp, HE.out⟩
end
section
open Go.ChangeShapes Go.WideShapes Go.ChangeAt Go.RowKit
open Go.ChangeMaps (open_string shut_string)
theorem chunkPlays_lifted (os : Os) (started : os.Started) (H : Type) (enc : TypeId × Value → H) :
    ReturnsInHanded {} Tryz.checked os 3 .any (fun w args => (Rows.chunkPlaysSpec.pre enc Tryz.prog Tryz.f3 Rows.chunkPlaysRow.domain false w args ∧ laidMetH Tryz.prog Rows.chunkPlaysRow.laid w) ∧ sizedMet enc Tryz.prog Tryz.f3 (OpenSpec.ofChange Rows.chunkPlaysSpec) false w args)
      (Rows.chunkPlaysSpec.post enc Tryz.prog Tryz.f3 false true false false) := by
 refine returnsInHanded_of_change_and (C := Tryz.checked) (X := fun w _ => laidMetH Tryz.prog Rows.chunkPlaysRow.laid w) (fun _ _ _ hh h => h.of_heap hh) Tryz.own started (by kernel_rfl) Tryz.func3
   (ChangeSpec.witness_shaped (enc := enc) (C := Tryz.checked) (os := os) (X := fun w _ => laidMetH Tryz.prog Rows.chunkPlaysRow.laid w) false (World.laidAll Tryz.prog os Rows.chunkPlaysRow.laid) #[.slice none 0 0] 8 (World.laidAll_os _ _ _)
     (World.shaped_of_ZipB (by kernel_rfl) (by kernel_rfl)) (by kernel_rfl) (by kernel_rfl) (by kernel_rfl)
     (by rw [MakeChecks.laidMetH_plain _ _ _ (by kernel_rfl)]; exact laidMet_laidAll _ (by kernel_rfl) (by kernel_rfl))) ?_
 intro W base args ds gs before hval0 hW hcnd _ hL _
 have hval : ∀ (j : Nat) t v, Tryz.f3.params[j]? = some t → args[j]? = some v → Value.okWide Tryz.prog W .any base t v := hval0
 have hW' := hW
 obtain ⟨p, q, hA0, hV, rfl, hfz, hnd⟩ := hW
 have hA : DataW.TrodAll enc Tryz.prog W 0 (fun _ => true) true Tryz.f3.params.toList args.toList ds p := hA0
 rw [Tryz.params3] at hA hval
 obtain ⟨v0, vs0, d0, ds0, p0, q0, hargs, rfl, rfl, h0, r0⟩ := trodAll_cons hA
 obtain ⟨rfl, rfl, rfl⟩ := trodAll_nil r0
 obtain rfl : args = #[v0] := by cases args; simp_all
 obtain ⟨rfl, rfl⟩ := trodVars_none hV
 obtain ⟨a0, len0, cap0, rfl⟩ := okWide_slice Tryz.underlying22 (hval 0 22 v0 rfl rfl)
 have k0 := h0
 have lt0 : ∀ x ∈ p0, x.block < W.heap.size := by obtain ⟨m, hm⟩ := k0; exact DataW.trod_lt m _ _ _ hm
 obtain ⟨z0, w0⟩ := open_cops h0
 clear hA0 hval0
 refine (chunkPlays_walk W _ z0 w0).mono fun e W' ⟨he, bel⟩ => ?_
 subst he
 exact ⟨_, rfl, _, _, _, [], _, [], hW', trodAll_mk1 (shut_bool Tryz.underlying4 _), (trodAll_cons_mk (Below.trod Tryz.laidOut (by kernel_rfl) (of_decide_eq_true (by kernel_rfl)) k0 bel lt0) trodAll_mk0), rfl, bel.frame _, fun h => by cases h⟩
theorem chunkPlays_row : Rows.ChunkPlaysSaid :=
 OpenClaim.holds_of_wide 3 Tryz.f3 rfl rfl rfl rfl rfl rfl rfl ⟨rfl, rfl, rfl, rfl, rfl⟩ rfl rfl rfl rfl rfl (by kernel_rfl) Tryz.func3 (by kernel_rfl)
   (of_decide_eq_true (by kernel_rfl)) (by unfold Func.isWrapper; first | (rw [if_pos (by decide +kernel)]; kernel_rfl) | (rw [if_neg (by decide +kernel)]; exact ⟨rfl, rfl⟩))
   (fun os started H enc _ => chunkPlays_lifted os started H enc)
theorem chunkPlays_holds : Rows.ChunkPlaysCardSaid :=
 Claim7.holds_tied_plain_at .later [] [.data, .pinned] true (true, "ae14236937028a21657f4b99df5b4519190e100113ec066a27f897597a491c60") false
   chunkPlays_row (fun _ h => by cases h) (by kernel_rfl) (fun _ h => by cases h) chunkPlays_row_tie rfl ⟨rfl, rfl⟩ (by kernel_rfl) rfl
   (fun f fn hf hfn => by
    obtain rfl : f = 3 := Option.some.inj ((show Tryz.prog.funcNamed "wainscot/wainscotlaw13.ChunkPlays" = some 3 by kernel_rfl).symm.trans hf) |>.symm
    obtain rfl : fn = Tryz.f3 := (Option.some.inj (Tryz.func3.symm.trans hfn)).symm
    exact ⟨by kernel_rfl, fun j t ht => by
     rw [Tryz.params3] at ht
     have hm : t ∈ [22] := by simpa using Array.mem_of_getElem? ht
     have hall : ([22].all fun u => !Tryz.prog.wantsStandIn u) = true := by kernel_rfl
     exact (show Tryz.prog.wantsStandIn t = false by simpa using List.all_eq_true.1 hall t hm)⟩)
   (by kernel_rfl)
end
end Go.Proofs.YtdmindhjmjnagaaGreatDoor
