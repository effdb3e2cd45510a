import Derived.Test.YtdmindhjmjnagaaGreatDoorB28
import Derived.Test.YtdmindhjmjnagaaGreatDoorB04
import Derived.Test.YtdmindhjmjnagaaGreatDoorB23
/- ChK ChL -/
namespace Go.Proofs.YtdmindhjmjnagaaGreatDoor
set_option linter.unusedVariables false
set_option maxRecDepth 1000000
set_option maxHeartbeats 32000000
section
open Go.RowKit
def staysP (size pl : Int) : Int := min (max (size - pl * 32) 0) 32
def cutO (size : Int) (p : Pa) : Option Pa :=
 if right p.k = true then
   (if trimmed ((fullP p.v).take (staysP size (pPlace p.k)).toNat) = [] ∨ trimmed ((fullP p.v).take (staysP size (pPlace p.k)).toNat) ≠ p.v then some ⟨p.k, p.h, trimmed ((fullP p.v).take (staysP size (pPlace p.k)).toNat)⟩ else none)
 else none
def cutL (size : Int) (L : List Pa) : List Pa := L.filterMap (cutO size)
theorem cutL_snoc (size : Int) (L : List Pa) (p : Pa) : cutL size (L ++ [p]) = cutL size L ++ (cutO size p).toList := by
 unfold cutL
 rw [List.filterMap_append]
 cases h : cutO size p <;> simp [h]
theorem cutL_length (size : Int) (L : List Pa) : (cutL size L).length ≤ L.length := List.length_filterMap_le _ _
theorem cutL_ok (size : Int) (L : List Pa) : ∀ p ∈ cutL size L, p.v = [] ∨ okV p.v = true := fun p hp => by
 obtain ⟨x, _, hx⟩ := List.mem_filterMap.1 hp
 unfold cutO at hx
 split at hx
 · split at hx
   · cases hx
     exact okV_short (trimmed_length _)
   · cases hx
 · cases hx
def chsS (ino pl : Int) : Sp := ⟨chunksF ino pl, chunksT ino pl, false, chunksF_length ino pl, chunksT_length ino pl⟩
theorem pPlace_bd (K : List UInt8) : 0 ≤ pPlace K ∧ pPlace K ≤ 4294967295 := by
 unfold pPlace
 split
 · have := num_lt4 [K.getD 20 0, K.getD 21 0, K.getD 22 0, K.getD 23 0] (by simp)
   omega
 · omega
section
variable {lim : Nat} {I : Nat → World → Prop} {iv : Value} {ge : Kz → List UInt8 × Bool × Int} {sn : Sp → List Pa × Int}
theorem ccut_calls (D : Baser lim noB I iv ge sn) (w0 y : World) (k q : Nat) (x : VR) (V : VS) (A : VAt w0 lim I (k + 1) iv q x V y) (ino size : Int) (hsz : 0 ≤ size ∧ size ≤ 1048576) (L : List Pa) (hs : scanV V.C sn (chsS ino (size / 32)) = (L, 0)) (hn : x.n + 4 + 4 * L.length ≤ 5000) :
    Calls Tryz.prog 39 #[.pointer (some ⟨q, 0, none⟩), .int .i64 ino, .int .i64 size] y fun e y' => e = .returned (.int .i64 0) ∧ ∃ x', VRan noB w0 lim I k iv q x (x.n + 4 + 4 * L.length) (chAll { V with R := V.R ++ [chsS ino (size / 32)] } (cutL size L)) y x' y' := by
 have HD : Hid (Baser lim noB I iv ge sn) := D
 have hCh := fun z => chunks_calls ino (size / 32) z
 have hSC : Hid (∀ w2, Below y.heap.size y w2 → Calls Tryz.prog 22 #[.pointer (some ⟨q, 0, none⟩), sv (chunksF ino (size / 32)) (chunksT ino (size / 32)) false] w2 fun e y' => ∃ ad cap, e = .returned (.tuple #[.slice ad L.length cap, .int .i64 0]) ∧ Own encP 62 y' w2.heap.size (.slice ad L.length cap) L ∧ VTo noB w0 lim I k iv q x { V with R := V.R ++ [chsS ino (size / 32)] } w2 { x with n := x.n + 1 } y') := fun w2 b => by
  have := VAt.scan D (A.called D b) (fun i hi => hi.elim) (by omega) (chsS ino (size / 32))
  rw [hs] at this
  exact this
 have HX : Hid (∀ i, x.own q i → i < y.heap.size) := fun i hi => A.vw.lt hi
 have HLI : Hid (w0.heap.size ≤ y.heap.size) := Nat.le_trans A.le A.limy
 generalize { V with R := V.R ++ [chsS ino (size / 32)] } = V' at *
 obtain ⟨N, hN⟩ : ∃ N : Nat, N = L.length := ⟨_, rfl⟩
 have HN : Hid (N = L.length ∧ x.n + 4 + 4 * N ≤ 5000) := ⟨hN, by omega⟩
 rw [← hN] at hSC ⊢
 have hE1 : IntKind.i64.wrap (size / 32) = size / 32 := by rw [IntKind.wrap_i64]; omega
 have hs0 : 0 ≤ size := hsz.1
 have hs1 : size ≤ 1048576 := hsz.2
 clear A D hs hN hn hsz
 go_enter Tryz.func39, Tryz.ntmps39
 go_upto_region 6 with (first
  | (go_at_call 81; refine (hCh _).mono ?_; rintro e w2 ⟨rfl, b2⟩)
  | (go_at_call 22; refine (hSC.out _ b2).mono ?_; rintro e z ⟨ad, cap, rfl, o, T⟩))
 have HO : Hid (Own encP 62 z y.heap.size (.slice ad N cap) L) := o.lower b2.size
 have HT : Hid (VRan noB w0 lim I k iv q x (x.n + 4) V' y { x with n := x.n + 1 } z) := ⟨T.at_, (FrV.of_below (S := fun i => x.own q i ∨ noB i) b2).trans T.fr (fun i e => .inl e), fun i hi => (T.own i hi).imp id (fun e => Nat.le_trans b2.size e), by show x.n + 1 ≤ x.n + 4; omega⟩
 have HI : Hid (∀ i (hi : i < L.length), ∃ g off, ad = some ⟨g, off, none⟩ ∧ g < z.heap.size ∧ z.rangeAt g (off + i * 25) (encP.c L[i])) := fun i hi => SlB.at o.slB i hi
 have HST : Hid (Below z.heap.size z z ∧ Own encP 62 z z.heap.size (.slice none 0 0) (cutL size (L.take 0))) := ⟨Below.refl _ _, Own.nil _ _ _ _⟩
 clear o T hCh b2 hSC
 go_loopg [9, 30] N (fun gg v i wr => ∃ j : Nat, j + gg = N ∧ i = .int .i64 (j : Int) ∧ Hid (Below z.heap.size z wr ∧ Own encP 62 wr z.heap.size v (cutL size (L.take j))))
 case atStart => exact ⟨0, by omega, rfl, HST.out⟩
 case round =>
  clear HST
  obtain ⟨j, hjg, rfl, HE⟩ := hrel
  cases gk with
  | zero =>
   have hjN : j = N := by omega
   have HF : Hid (L.take j = L) := (show _ = _ from List.take_of_length_le (by have := HN.out; omega))
   subst hjN
   have E := HE.out
   rw [HF.out] at E
   have T1 := HT.out.called HD.out E.1
   have hlc := cutL_length size L
   have hSA : ∀ w', Calls Tryz.prog 71 #[.pointer (some ⟨q, 0, none⟩), u9] wr w' → Calls Tryz.prog 71 #[.pointer (some ⟨q, 0, none⟩), u9] wr w' := fun _ h => h
   have hS := csetAll_calls HD.out w0 wr k q _ _ T1.at_ (cutL size L) (by show x.n + 1 + _ ≤ 5000; have := HN.out; omega) (cutL_ok _ _) _ _ E.2 (fun g hg e => by have h1 := (E.2.lt g hg).1; have h2 := HX.out g e; have h3 := HT.out.fr.size; omega)
   have HT1 : Hid (VRan noB w0 lim I k iv q x (x.n + 4) V' y { x with n := x.n + 1 } wr) := T1
   have HL : Hid ((cutL size L).length ≤ j) := (show _ ≤ _ by have := HN.out; omega)
   clear E T1 hSA HE HI
   go_wp2_with (first
    | (go_at_call 71; refine hS.mono ?_; clear hS; rintro e W1 ⟨rfl, x', T⟩))
   go_ret
   have T3 := HT1.out.trans T
   exact ⟨rfl, x', T3.at_, T3.fr, T3.own, by have h1 : x'.n ≤ x.n + 1 + 4 * (cutL size L).length := T.n; have := HL.out; omega⟩
  | succ gg =>
   have hjI : (j : Int) < (N : Int) := by omega
   have hj0 : (0 : Int) ≤ (j : Int) := by omega
   have hjb : (j : Int) ≤ 5000 := by have := HN.out; omega
   have hjl : j < L.length := by have := HN.out; omega
   obtain ⟨g, off, rfl, hg, hat⟩ := HI.out j hjl
   have hr : wr.rangeAt g (off + j * 25) (encP.c L[j]) := range_same' hat (HE.out.1.block g hg)
   have HTK : Hid (L.take (j + 1) = L.take j ++ [L[j]]) := (show _ = _ from List.take_succ_eq_append_getElem hjl)
   have HLN : Hid ((cutL size (L.take j)).length ≤ 5000) := (show _ ≤ _ by have := cutL_length size (L.take j); rw [List.length_take] at this; have := HN.out; omega)
   generalize L[j] = c at *
   have hOf := fun w => of_calls w c.k c.h
   have HCU : Hid (cutL size (L.take (j + 1)) = cutL size (L.take j) ++ (cutO size c).toList) := (show _ = _ by rw [HTK.out]; exact cutL_snoc _ _ _)
   have HE1 : Hid (Below z.heap.size z wr ∧ Own encP 62 wr z.heap.size u9 (cutL size (L.take j))) := HE.out
   clear hat hjl HI HE
   go_upto_region 8 with (first
    | (refine load_el elP _ rfl g (off + j * 25) rfl rfl c hr ?_)
    | (refine store_el elP rfl _ _ rfl wr.heap.size rfl c rfl pa0 (InB.new encP _ wr pa0 _ rfl) ?_; intro x1 hu1 tx1 sx1))
   have BX : Below wr.heap.size wr x1 := ((Below.refl _ wr).alloc (Nat.le_refl _) _).trans (tx1.below (by simp) (Nat.le_refl _) (by simp))
   have HB1 : Hid (Below z.heap.size z x1 ∧ Own encP 62 x1 z.heap.size u9 (cutL size (L.take j))) := ⟨HE1.out.1.trans (BX.mono HE1.out.1.size), HE1.out.2.below BX⟩
   clear HE1 tx1 sx1 BX hr
   generalize wr.heap.size = b0 at *
   cases hr1 : right c.k with
   | false =>
    have hv : ofV c.k = pv 0 0 [] 0 := by unfold ofV; rw [if_neg (by rw [hr1]; decide)]
    have HO0 : Hid (cutO size c = none) := (show _ = _ by unfold cutO; rw [if_neg (by rw [hr1]; decide)])
    rw [hv, hr1] at hOf
    clear hr1 hv
    go_upto_region 9 with (first
     | (refine load_part _ rfl b0 0 rfl rfl _ c.h (range_kP hu1.range) ?_)
     | (go_at_call 23; refine (hOf _).mono ?_; rintro e x2 ⟨rfl, b2⟩))
    have bA := b2.trans (((Below.refl _ x2).alloc (Nat.le_refl _) (.cells #[.int .i64 0, .int .i64 0, .string (str []), .int .i64 0] 58)).mono b2.size)
    have HB3 : Hid (Below z.heap.size z (x2.alloc (.cells #[.int .i64 0, .int .i64 0, .string (str []), .int .i64 0] 58)) ∧ Own encP 62 (x2.alloc (.cells #[.int .i64 0, .int .i64 0, .string (str []), .int .i64 0] 58)) z.heap.size u9 (cutL size (L.take (j + 1)))) := (show _ ∧ _ by
     rw [HCU.out, HO0.out, Option.toList_none, List.append_nil]
     exact ⟨HB1.out.1.trans (bA.mono HB1.out.1.size), HB1.out.2.below bA⟩)
    clear bA b2 hOf
    go_wp2_with fail
    go_roundg gg
    case measure => omega
    case rel => exact ⟨j + 1, by omega, congrArg (Value.int .i64) (by omega), HB3.out⟩
   | true =>
    have hv : ofV c.k = pv (pIno c.k) (pKind c.k) (pName c.k) (pPlace c.k) := by unfold ofV; rw [if_pos hr1]
    have hPB := pPlace_bd c.k
    have HO1 : Hid (cutO size c = if trimmed ((fullP c.v).take (staysP size (pPlace c.k)).toNat) = [] ∨ trimmed ((fullP c.v).take (staysP size (pPlace c.k)).toNat) ≠ c.v then some ⟨c.k, c.h, trimmed ((fullP c.v).take (staysP size (pPlace c.k)).toNat)⟩ else none) := (show _ = _ by unfold cutO; rw [if_pos hr1])
    have hSt : staysP size (pPlace c.k) = min (max (size - pPlace c.k * 32) 0) 32 := rfl
    have hSt2 : 0 ≤ staysP size (pPlace c.k) ∧ staysP size (pPlace c.k) ≤ 32 := by unfold staysP; omega
    rw [hv, hr1] at hOf
    clear hr1 hv
    have hvc : x1.cell? ⟨b0, 24, none⟩ = some (.string (str c.v)) := by have := range_vP hu1.range; simpa using this
    generalize pPlace c.k = pl at *
    generalize staysP size pl = T at *
    have hw1 : IntKind.i64.wrap (pl * 32) = pl * 32 := by rw [IntKind.wrap_i64]; omega
    have hw2 : IntKind.i64.wrap (size - pl * 32) = size - pl * 32 := by rw [IntKind.wrap_i64]; omega
    go_upto_region 9 with (first
     | (refine load_part _ rfl b0 0 rfl rfl _ c.h (range_kP hu1.range) ?_)
     | (go_at_call 23; refine (hOf _).mono ?_; rintro e x2 ⟨rfl, b2⟩))
    have hrow := heap_alloc_new x2 (.cells #[.int .i64 (pIno c.k), .int .i64 (pKind c.k), .string (str (pName c.k)), .int .i64 pl] 58)
    have hcP : (x2.alloc (.cells #[.int .i64 (pIno c.k), .int .i64 (pKind c.k), .string (str (pName c.k)), .int .i64 pl] 58)).cell? ⟨x2.heap.size, 3, none⟩ = some (.int .i64 pl) := by rw [cell_of_row _ _ _ _ _ _ hrow]; rfl
    have bA := b2.trans (((Below.refl _ x2).alloc (Nat.le_refl _) (.cells #[.int .i64 (pIno c.k), .int .i64 (pKind c.k), .string (str (pName c.k)), .int .i64 pl] 58)).mono b2.size)
    have hu3 := hu1.below bA (lt_of_block hu1.blk)
    generalize x2.alloc (.cells #[.int .i64 (pIno c.k), .int .i64 (pKind c.k), .string (str (pName c.k)), .int .i64 pl] 58) = x3 at *
    have HB3 : Hid (Below z.heap.size z x3 ∧ Own encP 62 x3 z.heap.size u9 (cutL size (L.take j))) := ⟨HB1.out.1.trans (bA.mono HB1.out.1.size), HB1.out.2.below bA⟩
    have hv3 : x3.cell? ⟨b0, 24, none⟩ = some (.string (str c.v)) := by have := range_vP hu3.range; simpa using this
    have hFU := fun w => full_calls w c.v
    have HFL : Hid ((fullP c.v).length = 32) := fullP_length _
    have hxt : (str (fullP c.v)).extract 0 (min (max (size - pl * 32) 0) 32).toNat = str ((fullP c.v).take T.toNat) := by rw [← hSt]; exact ext_take _ _
    have hsF : ((str (fullP c.v)).size : Int) = 32 := by rw [str_size, HFL.out]; rfl
    have hTr := fun w => trim_calls w ((fullP c.v).take T.toNat)
    have hT0 := hSt2.1
    have hT1 := hSt2.2
    clear hvc hOf b2 bA hrow hSt2 hPB HB1
    generalize x2.heap.size = b12 at *
    generalize fullP c.v = FU at *
    generalize FU.take T.toNat = TK at *
    go_upto_region 12 with (first
     | (go_at_call 82; refine (hFU _).mono ?_; clear hFU; rintro e x4 ⟨rfl, b4⟩)
     | (go_at_call 69; refine (hTr _).mono ?_; clear hTr; rintro e x5 ⟨rfl, b5⟩))
    have b35 := b4.trans (b5.mono b4.size)
    have hu5 := hu3.below b35 (lt_of_block hu3.blk)
    have HB5 : Hid (Below z.heap.size z x5 ∧ Own encP 62 x5 z.heap.size u9 (cutL size (L.take j))) := ⟨HB3.out.1.trans (b35.mono HB3.out.1.size), HB3.out.2.below b35⟩
    have hv5 : x5.cell? ⟨b0, 24, none⟩ = some (.string (str c.v)) := by have := range_vP hu5.range; simpa using this
    clear b4 b5 b35 hu3 hv3 HB3 hsF hxt hw1 hw2 hu1 hT0 hT1 hSt HFL
    generalize trimmed TK = NV at *
    by_cases hz : NV = []
    · have hsv : ((str NV).toList == ([] : List UInt8)) = true := by rw [str_toList, hz]; rfl
      have HO2 : Hid (cutO size c = some ⟨c.k, c.h, NV⟩) := (show _ = _ by rw [HO1.out, if_pos (.inl hz)])
      clear hz HO1
      go_wp2_with (first
       | (refine load_part _ rfl b0 0 rfl rfl _ c.h (range_kP hu5.range) ?_)
       | (refine build_p rfl _ _ rfl ⟨c.k, c.h, NV⟩ rfl rfl ?_)
       | (refine build_el1 rowP rfl _ rfl ⟨c.k, c.h, NV⟩ rfl (by decide) ?_; intro x6 o6 b6 s6 r6
          have c6 := HB5.out.1.trans (b6.mono HB5.out.1.size)
          have o7 := HB5.out.2.below b6)
       | (at_builtin; refine append_slB rowP rfl _ _ rfl z.heap.size u9 (cutL size (L.take j)) [⟨c.k, c.h, NV⟩] rfl o7 _ rfl _ o6.slB (by have := HLN.out; simp only [List.length_cons, List.length_nil]; omega) (by decide) c6.size ?_; intro v8 x8 o8 g8))
      go_roundg gg
      case measure => omega
      case rel =>
       refine ⟨j + 1, by omega, congrArg (Value.int .i64) (by omega), (show Below z.heap.size z x8 ∧ Own encP 62 x8 z.heap.size v8 (cutL size (L.take (j + 1))) from ⟨c6.grown g8 c6.size (fun j hj => (o7.lt j hj).1), ?_⟩)⟩
       rw [HCU.out, HO2.out]
       exact o8
    · have hsv : ((str NV).toList == ([] : List UInt8)) = false := by rw [str_toList]; simpa using hz
      by_cases hq : NV = c.v
      · have hqv : ((str NV).toList == (str c.v).toList) = true := by rw [hq]; simp
        have HO2 : Hid (cutO size c = none) := (show _ = _ by rw [HO1.out, if_neg (fun e => e.elim hz (fun e => e hq))])
        clear hz hq HO1
        go_wp2_with fail
        go_roundg gg
        case measure => omega
        case rel => exact ⟨j + 1, by omega, congrArg (Value.int .i64) (by omega), (show Below z.heap.size z x5 ∧ Own encP 62 x5 z.heap.size u9 (cutL size (L.take (j + 1))) from by
         rw [HCU.out, HO2.out, Option.toList_none, List.append_nil]
         exact HB5.out)⟩
      · have hqv : ((str NV).toList == (str c.v).toList) = false := by rw [str_toList, str_toList]; simpa using hq
        have HO2 : Hid (cutO size c = some ⟨c.k, c.h, NV⟩) := (show _ = _ by rw [HO1.out, if_pos (.inr hq)])
        clear hz hq HO1
        go_wp2_with (first
         | (refine load_part _ rfl b0 0 rfl rfl _ c.h (range_kP hu5.range) ?_)
         | (refine build_p rfl _ _ rfl ⟨c.k, c.h, NV⟩ rfl rfl ?_)
         | (refine build_el1 rowP rfl _ rfl ⟨c.k, c.h, NV⟩ rfl (by decide) ?_; intro x6 o6 b6 s6 r6
            have c6 := HB5.out.1.trans (b6.mono HB5.out.1.size)
            have o7 := HB5.out.2.below b6)
         | (at_builtin; refine append_slB rowP rfl _ _ rfl z.heap.size u9 (cutL size (L.take j)) [⟨c.k, c.h, NV⟩] rfl o7 _ rfl _ o6.slB (by have := HLN.out; simp only [List.length_cons, List.length_nil]; omega) (by decide) c6.size ?_; intro v8 x8 o8 g8))
        go_roundg gg
        case measure => omega
        case rel =>
         refine ⟨j + 1, by omega, congrArg (Value.int .i64) (by omega), (show Below z.heap.size z x8 ∧ Own encP 62 x8 z.heap.size v8 (cutL size (L.take (j + 1))) from ⟨c6.grown g8 c6.size (fun j hj => (o7.lt j hj).1), ?_⟩)⟩
         rw [HCU.out, HO2.out]
         exact o8
end
end
section
open Go.RowKit
theorem ccatch_idle (p : Addr) (w : World) :
    CallsD Tryz.prog 65 #[.pointer (some p)] .returning w fun e u' w' => e = .returned (.tuple #[]) ∧ u' = .returning ∧ w' = w := by
 refine callsD_of_wpS Tryz.func65 rfl fun c₀ cs hu => ?_
 apply wpS_seq
 apply wpS_region
 simp [wpOpsS, go_sem, recoverD, hu, Tryz.ntmps65, Exit.thenS]
 refine wpS_cond (t := false) (by simp [Act.eval, Array.replicate]) ?_
 simp only [Bool.false_eq_true, if_false]
 refine wpS_of_wp (wp_skip ?_)
 cases c₀
 simp_all [bodyPostS, results, Tryz.results65]
theorem ccaughtR_calls (w : World) (a b c d t : Addr) (P : Int → World → Prop)
    (h : Calls Tryz.prog 44 #[.pointer (some a), .pointer (some b), .pointer (some c), .pointer (some d), .pointer (some t)] (w.alloc (.cells #[.int .i64 0] 30)) fun e y => ∃ n, e = .returned (.int .i64 n) ∧ y.heap[w.heap.size]? = some (.cells #[.int .i64 0] 30 (0, 0)) ∧ P n y) :
    Calls Tryz.prog 30 #[.func (.func 44) #[] #[.pointer (some a), .pointer (some b), .pointer (some c), .pointer (some d), .pointer (some t)]] w fun e w' => ∃ n y, e = .returned (.int .i64 n) ∧ P n y ∧ w' = y.setCell ⟨w.heap.size, 0, none⟩ (.int .i64 n) := by
 have hmf : ∀ (fn : Fn) (first cap : Array Value) (w : World), (Instr.makeFunc fn first cap).run Tryz.prog w = .ok (.func fn first cap) w := fun _ _ _ _ => rfl
 go_enter_defers Tryz.func30, Tryz.ntmps30
 go_wp2_with (go_at_call 44; refine h.mono ?_; clear h; rintro e y ⟨n, rfl, hb, hP⟩
              have hc : y.cell? ⟨w.heap.size, 0, none⟩ = some (.int .i64 0) := by rw [cell_of_row _ _ _ _ _ _ hb]; rfl
              have hf := frozen_of_row y w.heap.size 0 _ _ hb)
 have hcs : (y.setCell ⟨w.heap.size, 0, none⟩ (.int .i64 n)).cell? ⟨w.heap.size, 0, none⟩ = some (.int .i64 n) := World.cell?_setCell_same y _ _ hc
 refine leaves_cons (f := 65) (args := #[.pointer (some ⟨w.heap.size, 0, none⟩)]) (by simp) (by simp [go_sem]) ?_
 refine (ccatch_idle ⟨w.heap.size, 0, none⟩ _).mono ?_
 rintro e u' w'' ⟨rfl, rfl, rfl⟩
 simp [Leaves, settle, results, Tryz.results30, go_sem, hcs]
 exact ⟨y, hP, rfl⟩
theorem ccaughtW_calls (w : World) (a b c d : Addr) (P : Int → World → Prop)
    (h : Calls Tryz.prog 31 #[.pointer (some a), .pointer (some b), .pointer (some c), .pointer (some d)] (w.alloc (.cells #[.int .i64 0] 30)) fun e y => ∃ n, e = .returned (.int .i64 n) ∧ y.heap[w.heap.size]? = some (.cells #[.int .i64 0] 30 (0, 0)) ∧ P n y) :
    Calls Tryz.prog 30 #[.func (.func 31) #[] #[.pointer (some a), .pointer (some b), .pointer (some c), .pointer (some d)]] w fun e w' => ∃ n y, e = .returned (.int .i64 n) ∧ P n y ∧ w' = y.setCell ⟨w.heap.size, 0, none⟩ (.int .i64 n) := by
 have hmf : ∀ (fn : Fn) (first cap : Array Value) (w : World), (Instr.makeFunc fn first cap).run Tryz.prog w = .ok (.func fn first cap) w := fun _ _ _ _ => rfl
 go_enter_defers Tryz.func30, Tryz.ntmps30
 go_wp2_with (go_at_call 31; refine h.mono ?_; clear h; rintro e y ⟨n, rfl, hb, hP⟩
              have hc : y.cell? ⟨w.heap.size, 0, none⟩ = some (.int .i64 0) := by rw [cell_of_row _ _ _ _ _ _ hb]; rfl
              have hf := frozen_of_row y w.heap.size 0 _ _ hb)
 have hcs : (y.setCell ⟨w.heap.size, 0, none⟩ (.int .i64 n)).cell? ⟨w.heap.size, 0, none⟩ = some (.int .i64 n) := World.cell?_setCell_same y _ _ hc
 refine leaves_cons (f := 65) (args := #[.pointer (some ⟨w.heap.size, 0, none⟩)]) (by simp) (by simp [go_sem]) ?_
 refine (ccatch_idle ⟨w.heap.size, 0, none⟩ _).mono ?_
 rintro e u' w'' ⟨rfl, rfl, rfl⟩
 simp [Leaves, settle, results, Tryz.results30, go_sem, hcs]
 exact ⟨y, hP, rfl⟩
theorem ccaughtC_calls (w : World) (a b c : Addr) (P : Int → World → Prop)
    (h : Calls Tryz.prog 38 #[.pointer (some a), .pointer (some b), .pointer (some c)] (w.alloc (.cells #[.int .i64 0] 30)) fun e y => ∃ n, e = .returned (.int .i64 n) ∧ y.heap[w.heap.size]? = some (.cells #[.int .i64 0] 30 (0, 0)) ∧ P n y) :
    Calls Tryz.prog 30 #[.func (.func 38) #[] #[.pointer (some a), .pointer (some b), .pointer (some c)]] w fun e w' => ∃ n y, e = .returned (.int .i64 n) ∧ P n y ∧ w' = y.setCell ⟨w.heap.size, 0, none⟩ (.int .i64 n) := by
 have hmf : ∀ (fn : Fn) (first cap : Array Value) (w : World), (Instr.makeFunc fn first cap).run Tryz.prog w = .ok (.func fn first cap) w := fun _ _ _ _ => rfl
 go_enter_defers Tryz.func30, Tryz.ntmps30
 go_wp2_with (go_at_call 38; refine h.mono ?_; clear h; rintro e y ⟨n, rfl, hb, hP⟩
              have hc : y.cell? ⟨w.heap.size, 0, none⟩ = some (.int .i64 0) := by rw [cell_of_row _ _ _ _ _ _ hb]; rfl
              have hf := frozen_of_row y w.heap.size 0 _ _ hb)
 have hcs : (y.setCell ⟨w.heap.size, 0, none⟩ (.int .i64 n)).cell? ⟨w.heap.size, 0, none⟩ = some (.int .i64 n) := World.cell?_setCell_same y _ _ hc
 refine leaves_cons (f := 65) (args := #[.pointer (some ⟨w.heap.size, 0, none⟩)]) (by simp) (by simp [go_sem]) ?_
 refine (ccatch_idle ⟨w.heap.size, 0, none⟩ _).mono ?_
 rintro e u' w'' ⟨rfl, rfl, rfl⟩
 simp [Leaves, settle, results, Tryz.results30, go_sem, hcs]
 exact ⟨y, hP, rfl⟩
theorem okW_nat {off n : Nat} (h : off + n ≤ 1048576) : okW (off : Int) (n : Int) = true := by
 unfold okW
 simp
 omega
theorem cRead_bad (y : World) (q : Nat) (ino off n : Int) (hn : n ≤ 9223372036854775807) (ho : off ≤ 9223372036854775807) (h : (okNum ino && okW off n) = false) :
    Calls Tryz.prog 16 #[.pointer (some ⟨q, 0, none⟩), .int .i64 ino, .int .i64 off, .int .i64 n] y fun e y' => e = .returned (.tuple #[.string ⟨#[]⟩, .int .i64 1]) ∧ Below y.heap.size y y' := by
 have hN := fun w => cnum_calls ino w
 have hW := fun w => cwithin_calls off n hn ho w
 cases h1 : okNum ino with
 | false =>
  rw [h1] at hN
  clear hW h h1
  go_enter Tryz.func16, Tryz.ntmps16
  go_wp2_with (go_at_call 28; refine (hN _).mono ?_; rintro e w1 ⟨rfl, rfl⟩)
  go_ret2
  exact ⟨rfl, (((Below.refl _ y).alloc (Nat.le_refl _) _).alloc (by simp) _).alloc (by simp; omega) _ |>.alloc (by simp; omega) _⟩
 | true =>
  rw [h1, Bool.true_and] at h
  rw [h1] at hN
  rw [h] at hW
  clear h h1
  go_enter Tryz.func16, Tryz.ntmps16
  go_wp2_with (first
   | (go_at_call 28; refine (hN _).mono ?_; rintro e w1 ⟨rfl, rfl⟩)
   | (go_at_call 29; refine (hW _).mono ?_; rintro e w2 ⟨rfl, rfl⟩))
  go_ret2
  exact ⟨rfl, (((Below.refl _ y).alloc (Nat.le_refl _) _).alloc (by simp) _).alloc (by simp; omega) _ |>.alloc (by simp; omega) _⟩
theorem cWrite_bad (y : World) (q : Nat) (ino off : Int) (data : List UInt8) (hn : data.length ≤ 1000000) (ho : off ≤ 9223372036854775807) (h : (okNum ino && okW off (data.length : Int)) = false) :
    Calls Tryz.prog 12 #[.pointer (some ⟨q, 0, none⟩), .int .i64 ino, .int .i64 off, .string (str data)] y fun e y' => e = .returned (.int .i64 1) ∧ Below y.heap.size y y' := by
 have hsz : (str data).size = data.length := str_size data
 have hN := fun w => cnum_calls ino w
 have hW := fun w => cwithin_calls off (data.length : Int) (by omega) ho w
 cases h1 : okNum ino with
 | false =>
  rw [h1] at hN
  clear hW h h1
  go_enter Tryz.func12, Tryz.ntmps12
  go_wp2_with (go_at_call 28; refine (hN _).mono ?_; rintro e w1 ⟨rfl, rfl⟩)
  go_ret
  exact ⟨rfl, (((Below.refl _ y).alloc (Nat.le_refl _) _).alloc (by simp) _).alloc (by simp; omega) _ |>.alloc (by simp; omega) _⟩
 | true =>
  rw [h1, Bool.true_and] at h
  rw [h1] at hN
  rw [h] at hW
  clear h h1
  go_enter Tryz.func12, Tryz.ntmps12
  go_wp2_with (first
   | (go_at_call 28; refine (hN _).mono ?_; rintro e w1 ⟨rfl, rfl⟩)
   | (go_at_call 29; refine (hW _).mono ?_; rintro e w2 ⟨rfl, rfl⟩))
  go_ret
  exact ⟨rfl, (((Below.refl _ y).alloc (Nat.le_refl _) _).alloc (by simp) _).alloc (by simp; omega) _ |>.alloc (by simp; omega) _⟩
theorem cCut_bad (y : World) (q : Nat) (ino size : Int) (ho : size ≤ 9223372036854775807) (h : (okNum ino && okW size 0) = false) :
    Calls Tryz.prog 14 #[.pointer (some ⟨q, 0, none⟩), .int .i64 ino, .int .i64 size] y fun e y' => e = .returned (.int .i64 1) ∧ Below y.heap.size y y' := by
 have hN := fun w => cnum_calls ino w
 have hW := fun w => cwithin_calls size 0 (by omega) ho w
 cases h1 : okNum ino with
 | false =>
  rw [h1] at hN
  clear hW h h1
  go_enter Tryz.func14, Tryz.ntmps14
  go_wp2_with (go_at_call 28; refine (hN _).mono ?_; rintro e w1 ⟨rfl, rfl⟩)
  go_ret
  exact ⟨rfl, (((Below.refl _ y).alloc (Nat.le_refl _) _).alloc (by simp) _).alloc (by simp; omega) _⟩
 | true =>
  rw [h1, Bool.true_and] at h
  rw [h1] at hN
  rw [h] at hW
  clear h h1
  go_enter Tryz.func14, Tryz.ntmps14
  go_wp2_with (first
   | (go_at_call 28; refine (hN _).mono ?_; rintro e w1 ⟨rfl, rfl⟩)
   | (go_at_call 29; refine (hW _).mono ?_; rintro e w2 ⟨rfl, rfl⟩))
  go_ret
  exact ⟨rfl, (((Below.refl _ y).alloc (Nat.le_refl _) _).alloc (by simp) _).alloc (by simp; omega) _⟩
section
variable {lim : Nat} {I : Nat → World → Prop} {iv : Value} {ge : Kz → List UInt8 × Bool × Int} {sn : Sp → List Pa × Int}
theorem cwrite1_calls (D : Baser lim noB I iv ge sn) (hge : ∀ K, (ge K).2.2 = 0) (w0 y : World) (k q : Nat) (x : VR) (V : VS) (ino : Int) (off : Nat) (data : List UInt8) (A : VAt w0 lim I (k + pN off data.length) iv q x V y) (hn : x.n + 5 * pN off data.length ≤ 5000) (hod : off + data.length ≤ 1048576) (a b c d : Nat)
    (ha : y.cell? ⟨a, 0, none⟩ = some (.pointer (some ⟨q, 0, none⟩))) (hb : y.cell? ⟨b, 0, none⟩ = some (.int .i64 ino)) (hc : y.cell? ⟨c, 0, none⟩ = some (.int .i64 (off : Int))) (hd : y.cell? ⟨d, 0, none⟩ = some (.string (str data))) :
    Calls Tryz.prog 31 #[.pointer (some ⟨a, 0, none⟩), .pointer (some ⟨b, 0, none⟩), .pointer (some ⟨c, 0, none⟩), .pointer (some ⟨d, 0, none⟩)] y fun e y' => e = .returned (.int .i64 0) ∧ ∃ x', VRan noB w0 lim I k iv q x (x.n + 5 * pN off data.length) (writeV V ge ino off data) y x' y' := by
 have hW := cwrite_calls D hge w0 y k q x V ino off data A hn hod
 clear A D hge hn hod
 go_enter Tryz.func31, Tryz.ntmps31
 go_wp2_with (go_at_call 32; refine hW.mono ?_; clear hW; rintro e y2 ⟨rfl, x', T⟩)
 go_ret
 exact ⟨rfl, x', T⟩
theorem ccut1_calls (D : Baser lim noB I iv ge sn) (w0 y : World) (k q : Nat) (x : VR) (V : VS) (A : VAt w0 lim I (k + 1) iv q x V y) (ino size : Int) (hsz : 0 ≤ size ∧ size ≤ 1048576) (L : List Pa) (hs : scanV V.C sn (chsS ino (size / 32)) = (L, 0)) (hn : x.n + 4 + 4 * L.length ≤ 5000) (a b c : Nat)
    (ha : y.cell? ⟨a, 0, none⟩ = some (.pointer (some ⟨q, 0, none⟩))) (hb : y.cell? ⟨b, 0, none⟩ = some (.int .i64 ino)) (hc : y.cell? ⟨c, 0, none⟩ = some (.int .i64 size)) :
    Calls Tryz.prog 38 #[.pointer (some ⟨a, 0, none⟩), .pointer (some ⟨b, 0, none⟩), .pointer (some ⟨c, 0, none⟩)] y fun e y' => e = .returned (.int .i64 0) ∧ ∃ x', VRan noB w0 lim I k iv q x (x.n + 4 + 4 * L.length) (chAll { V with R := V.R ++ [chsS ino (size / 32)] } (cutL size L)) y x' y' := by
 have hW := ccut_calls D w0 y k q x V A ino size hsz L hs hn
 clear A D hs hn hsz
 go_enter Tryz.func38, Tryz.ntmps38
 go_wp2_with (go_at_call 39; refine hW.mono ?_; clear hW; rintro e y2 ⟨rfl, x', T⟩)
 go_ret
 exact ⟨rfl, x', T⟩
def readV (V : VS) (ino : Int) (off n : Nat) : VS := if n = 0 then V else { V with R := V.R ++ [betS ino ((off / 32 : Nat) : Int) (((off + n - 1) / 32 : Nat) : Int)] }
theorem readP_zero (L : List Pa) (ino : Int) (off : Nat) : readP L ino off 0 = [] := by
 unfold readP
 rw [show pN off 0 = 0 from if_pos rfl]
 rfl
def RdOk (C : List Ch) (sn : Sp → List Pa × Int) (ino : Int) (off n : Nat) (L : List Pa) : Prop := 0 < n → scanV C sn (betS ino ((off / 32 : Nat) : Int) (((off + n - 1) / 32 : Nat) : Int)) = (L, 0) ∧ Asc Pa.n L ∧ L.length ≤ 100000
theorem creadz_calls (D : Baser lim noB I iv ge sn) (w0 y : World) (k q : Nat) (x : VR) (V : VS) (A : VAt w0 lim I (k + 1) iv q x V y) (hn : x.n ≤ 5000) (ino : Int) (off n : Nat) (hon : off + n ≤ 1048576) (L : List Pa) (hs : RdOk V.C sn ino off n L) :
    Calls Tryz.prog 45 #[.pointer (some ⟨q, 0, none⟩), .int .i64 ino, .int .i64 (off : Int), .int .i64 (n : Int)] y fun e y' => e = .returned (.tuple #[.string (str (readP L ino off n)), .int .i64 0]) ∧ ∃ x', VRan noB w0 lim I k iv q x (x.n + 4) (readV V ino off n) y x' y' := by
 rcases Nat.eq_zero_or_pos n with rfl | h0
 · have A1 : VAt w0 lim I k iv q x V y := ⟨A.vw, D.down _ _ A.base, A.own, A.bel, A.le, A.limy⟩
   have HT : Hid (VRan noB w0 lim I k iv q x (x.n + 4) V y x (y.alloc (.cells #[.int .i64 ino] 3))) := (A1.ran (by omega)).called D ((Below.refl _ y).alloc (Nat.le_refl _) _)
   rw [readP_zero, show readV V ino off 0 = V from if_pos rfl]
   clear A A1 D hs hn hon
   go_enter Tryz.func45, Tryz.ntmps45
   go_wp2
   go_ret2
   exact ⟨rfl, x, HT.out⟩
 · obtain ⟨h1, h2, h3⟩ := hs h0
   rw [show readV V ino off n = { V with R := V.R ++ [betS ino ((off / 32 : Nat) : Int) (((off + n - 1) / 32 : Nat) : Int)] } from if_neg (by omega)]
   exact cread_calls D w0 y k q x V A hn ino off n h0 hon L h1 h2 h3
theorem cread1_calls (D : Baser lim noB I iv ge sn) (w0 y : World) (k q : Nat) (x : VR) (V : VS) (A : VAt w0 lim I (k + 1) iv q x V y) (hn : x.n ≤ 5000) (ino : Int) (off n : Nat) (hon : off + n ≤ 1048576) (L : List Pa) (hs : RdOk V.C sn ino off n L) (a b c d t : Nat)
    (ha : y.cell? ⟨a, 0, none⟩ = some (.pointer (some ⟨q, 0, none⟩))) (hb : y.cell? ⟨b, 0, none⟩ = some (.int .i64 ino)) (hc : y.cell? ⟨c, 0, none⟩ = some (.int .i64 (off : Int))) (hd : y.cell? ⟨d, 0, none⟩ = some (.int .i64 (n : Int))) (ht0 : t < y.heap.size ∧ ¬ x.own q t) (ht : y.heap[t]? = some (.cells #[.string ⟨#[]⟩] 9 (0, 0))) :
    Calls Tryz.prog 44 #[.pointer (some ⟨a, 0, none⟩), .pointer (some ⟨b, 0, none⟩), .pointer (some ⟨c, 0, none⟩), .pointer (some ⟨d, 0, none⟩), .pointer (some ⟨t, 0, none⟩)] y fun e y' => e = .returned (.int .i64 0) ∧ ∃ z0 x', VRan noB w0 lim I k iv q x (x.n + 4) (readV V ino off n) y x' z0 ∧ y' = z0.setCell ⟨t, 0, none⟩ (.string (str (readP L ino off n))) := by
 have hW := creadz_calls D w0 y k q x V A hn ino off n hon L hs
 generalize readP L ino off n = RP at *
 clear A D hn hon hs
 go_enter Tryz.func44, Tryz.ntmps44
 go_wp2_with (go_at_call 45; refine hW.mono ?_; clear hW; rintro e y2 ⟨rfl, x', T⟩
              have kt : y2.heap[t]? = some (.cells #[.string ⟨#[]⟩] 9 (0, 0)) := (T.fr.block t ht0.1 (fun e => e.elim ht0.2 (fun e => e))).trans ht
              have ct := cell1 kt
              have ft := frozen_of_row y2 t 0 _ _ kt
              clear kt)
 go_ret
 exact ⟨rfl, y2, x', T, rfl⟩
end
end
end Go.Proofs.YtdmindhjmjnagaaGreatDoor
