import Derived.Test.YtdmindhjmjnagaaGreatDoorSi
import Derived.Test.YtdmindhjmjnagaaGreatDoorB01
import Derived.Test.YtdmindhjmjnagaaGreatDoorB45
import Derived.Test.YtdmindhjmjnagaaGreatDoorB30
import Derived.Test.YtdmindhjmjnagaaGreatDoorB04
import Derived.Test.YtdmindhjmjnagaaGreatDoorB14
/- CpG ChArg CpH SmC -/
namespace Go.Proofs.YtdmindhjmjnagaaGreatDoor
set_option linter.unusedVariables false
set_option maxRecDepth 1000000
set_option maxHeartbeats 32000000
section
open Go.RowKit
theorem rread13_ok (w y : World) (rp : Nat) (bv cv rv : Value) (V : VS) (j : Nat) (h : DcTo w rp bv cv rv V j y) (hA : FileOk V.C) (hC : V.C.length ≤ 850) (hR : V.R.length ≤ 298) (ino : Int) (h1 : okNum ino = true) (hi : okN ino = true) (off n : Nat) (hn : n ≤ 3000) (hon : off + n ≤ 1048576) :
    Calls Tryz.prog 17 #[.pointer (some ⟨rp, 0, none⟩), .int .i64 ino, .int .i64 (off : Int), .int .i64 (n : Int)] y fun e y' => e = .returned (.tuple #[.string (str (readB V.C ino off n)), .int .i64 0]) ∧ DcTo w rp bv cv rv (readV V ino off n) (j + 1) y' := by
 have hM := fun z => rmay_calls ino (off : Int) (n : Int) (by omega) (by omega) z
 rw [h1, okW_nat hon] at hM
 have HST : Hid (DcTo w rp bv cv rv V j y) := h
 by_cases h0 : n = 0
 · subst h0
   have hz : readB V.C ino off 0 = [] := readP_zero _ _ _
   have hv : readV V ino off 0 = V := by unfold readV; rw [if_pos rfl]
   rw [hz, hv]
   have hem : str ([] : List UInt8) = ⟨#[]⟩ := rfl
   clear h hA hC hR h1 hi
   go_enter Tryz.func17, Tryz.ntmps17
   go_wp2_with (go_at_call 33; refine (hM _).mono ?_; clear hM; rintro e y1 ⟨rfl, rfl⟩)
   go_ret2
   exact ⟨rfl, HST.out.up⟩
 · obtain ⟨FS, hFS⟩ : ∃ FS : Nat, FS = off / 32 := ⟨_, rfl⟩
   obtain ⟨LS, hLS⟩ : ∃ LS : Nat, LS = (off + n - 1) / 32 := ⟨_, rfl⟩
   obtain ⟨MD, hMD⟩ : ∃ MD : Nat, MD = off % 32 := ⟨_, rfl⟩
   obtain ⟨M, hMM⟩ : ∃ M : Nat, M = (LS - FS + 1) * 32 := ⟨_, rfl⟩
   have HF : Hid (FS = off / 32 ∧ LS = (off + n - 1) / 32 ∧ MD = off % 32 ∧ M = (LS - FS + 1) * 32 ∧ FS ≤ LS ∧ LS ≤ 32768 ∧ M ≤ 4000 ∧ MD + n ≤ M ∧ MD ≤ 31) := ⟨hFS, hLS, hMD, hMM, by omega, by omega, by omega, by omega, by omega⟩
   have q0 : ((n : Int) == 0) = false := by simp; omega
   have q1 : (off : Int) / 32 = (FS : Int) := by omega
   have q2 : ((off : Int) + (n : Int) - 1).tdiv 32 = (LS : Int) := by rw [Int.tdiv_eq_ediv_of_nonneg (by omega)]; omega
   have q3 : ((LS : Int) - (FS : Int) + 1) * 32 = (M : Int) := by omega
   have q4 : (LS : Int) ≤ 32768 := by omega
   have q5 : (FS : Int) ≤ (LS : Int) := by omega
   have q6 : (off : Int) ≤ 1048576 := by omega
   have q7 : (n : Int) ≤ 3000 := by omega
   have hRB := buf_read hA hi (Nat.pos_of_ne_zero h0) hon
   rw [← hFS, ← hLS, ← hMD, ← hMM] at hRB
   have hRV : readV V ino off n = { V with R := V.R ++ [betS ino (FS : Int) (LS : Int)] } := by unfold readV; rw [if_neg h0, ← hFS, ← hLS]
   have hSp := fun z => rspan13_calls ino (FS : Int) (LS : Int) (by omega) (by omega) z
   rw [← betS_doc hi (FS : Int) (l := LS) (by omega)] at hSp
   have hSC := fun z (b : DcTo w rp bv cv rv V j z) => DcTo.scan b (by omega) (by omega) (betS ino (FS : Int) (LS : Int))
   have HSC : Hid (∀ z, DcTo w rp bv cv rv V j z → Calls Tryz.prog 40 #[.pointer (some ⟨rp, 0, none⟩), spv (betS ino (FS : Int) (LS : Int))] z fun e y' => ∃ v, e = .returned v ∧ Own encP 62 y' z.heap.size v (lives V.C (betS ino (FS : Int) (LS : Int))) ∧ DcTo w rp bv cv rv { V with R := V.R ++ [betS ino (FS : Int) (LS : Int)] } (j + 1) y') := hSC
   have HLV : Hid (∀ p ∈ lives V.C (betS ino (FS : Int) (LS : Int)), BetP V.C ino FS LS p) := fun p hp => bet_live hA hi (by omega) (by omega) hp
   have HLL : Hid ((lives V.C (betS ino (FS : Int) (LS : Int))).length ≤ 850) := Nat.le_trans (lives_len _ _) hC
   rw [hRV]
   have HRB : Hid (((bufL FS (lives V.C (betS ino (FS : Int) (LS : Int))) (List.replicate M 0)).drop MD).take n = readB V.C ino off n) := hRB
   generalize readB V.C ino off n = RB at *
   generalize lives V.C (betS ino (FS : Int) (LS : Int)) = L at *
   generalize betS ino (FS : Int) (LS : Int) = BS at *
   generalize { V with R := V.R ++ [BS] } = V1 at *
   obtain ⟨N, hN⟩ : ∃ N : Nat, N = L.length := ⟨_, rfl⟩
   have HN : Hid (N = L.length ∧ N ≤ 850) := ⟨hN, by have := HLL.out; omega⟩
   clear h hA hC hR h1 hi hSC hRB hRV hN h0 hFS hLS hMD hMM hn hon
   go_enter Tryz.func17, Tryz.ntmps17
   go_upto_region 8 with (first
    | (go_at_call 33; refine (hM _).mono ?_; clear hM; rintro e y1 ⟨rfl, rfl⟩)
    | (go_at_call 46; refine (hSp _).mono ?_; clear hSp; rintro e w2 ⟨rfl, b2⟩
       have hSC := HSC.out w2 (HST.out.called b2)
       clear b2)
    | (go_at_call 40; refine hSC.mono ?_; clear hSC; rintro e z ⟨vv, rfl, o, P⟩
       obtain ⟨adL, capL, rfl, -, -, -, -⟩ := id o.slB
       rw [← HN.out.1]))
   have HIL : Hid (∀ i (hi : i < L.length), ∃ g off, adL = some ⟨g, off, none⟩ ∧ g < z.heap.size ∧ z.rangeAt g (off + i * 25) (encP.c L[i])) := fun i hi => SlB.at o.slB i hi
   have HP : Hid (DcTo w rp bv cv rv V1 (j + 1) z) := P
   clear o P HSC HST
   go_upto_region 9 with (first
    | (refine zr_make _ _ rfl rfl M _ rfl rfl (by first | rfl | exact q3) (by have := HF.out; omega) ?_; intro z1 o1 g1))
   have HB0 : Hid (Below z.heap.size z z1 ∧ BcAt z1 z.heap.size (bufL FS (L.take 0) (List.replicate M 0))) := ⟨⟨g1.os, g1.tape, g1.output, g1.size, fun k hk => g1.block k hk (by simp)⟩, BcAt.of_own o1⟩
   clear o1 g1
   go_wp2_with fail
   go_loopg [14] N (fun gg i wr => ∃ k : Nat, k + gg = N ∧ i = .int .i64 (k : Int) ∧ Hid (Below z.heap.size z wr ∧ BcAt wr z.heap.size (bufL FS (L.take k) (List.replicate M 0))))
   case atStart => exact ⟨0, by omega, rfl, HB0.out⟩
   case round =>
    clear HB0
    obtain ⟨k, hkg, rfl, HB⟩ := hrel
    cases gk with
    | zero =>
     have hkN : ¬ (k : Int) < (N : Int) := by omega
     have hLL : L.take k = L := List.take_of_length_le (by have := HN.out; omega)
     have HBB : Hid (BcAt wr z.heap.size (bufL FS L (List.replicate M 0))) := (show _ by have := HB.out.2; rwa [hLL] at this)
     have HFN : Hid (DcTo w rp bv cv rv V1 (j + 1) wr) := HP.out.called HB.out.1
     have hbl := bufL_length L (List.replicate M 0) HLV.out (by rw [List.length_replicate]; exact HF.out.2.2.2.1)
     have hcv := HBB.out.conv MD n (M - MD) (by rw [hbl]; have := HF.out; omega)
     rw [HRB.out] at hcv
     have r1 : (off : Int) - (FS : Int) * 32 = (MD : Int) := by have := HF.out; omega
     have r2 : (MD : Int) + (n : Int) ≤ (M : Int) := by have := HF.out; omega
     have r3 : (MD : Int) ≤ 31 := by have := HF.out; omega
     have r4 : (M : Int) ≤ 4000 := by have := HF.out; omega
     clear hkg HB hLL HBB hbl HIL
     go_wp2_with fail
     go_ret2
     exact ⟨rfl, HFN.out⟩
    | succ gg =>
     have hkI : (k : Int) < (N : Int) := by omega
     have hk0 : (0 : Int) ≤ (k : Int) := by omega
     have hkb : (k : Int) ≤ 850 := by have := HN.out; omega
     have hkl : k < L.length := by have := HN.out; omega
     obtain ⟨g, off', rfl, hg, hat⟩ := HIL.out k hkl
     obtain ⟨pl, hpl1, hpl2, hpl3, hr1, hpp, hvl⟩ := (HLV.out L[k] (List.getElem_mem hkl)).ex
     have HTK : Hid (L.take (k + 1) = L.take k ++ [L[k]]) := (show _ = _ from List.take_succ_eq_append_getElem hkl)
     have HBL : Hid ((bufL FS (L.take k) (List.replicate M 0)).length = M) := (show _ = _ by
      rw [bufL_length (L.take k) _ (fun p hp => HLV.out p (List.mem_of_mem_take hp)) (by rw [List.length_replicate]; exact HF.out.2.2.2.1)]
      exact HF.out.2.2.2.1.symm)
     generalize L[k] = c at *
     obtain ⟨X, hX⟩ : ∃ X : Nat, X = (pl - FS) * 32 := ⟨_, rfl⟩
     have hXI : ((pl : Int) - (FS : Int)) * 32 = (X : Int) := by omega
     have hXM : X + 32 ≤ M := by have := HF.out; omega
     have hXMI : (X : Int) + 32 ≤ (M : Int) := by omega
     have hplI : (pl : Int) ≤ 32768 := by omega
     have HBS : Hid (bufL FS (L.take (k + 1)) (List.replicate M 0) = copied (bufL FS (L.take k) (List.replicate M 0)) X c.v) := (show _ = _ by
      rw [HTK.out, bufL_snoc, hpp, Int.toNat_natCast, hX])
     have HVV : Hid (c.v.length ≤ 32 ∧ X + 32 ≤ M) := ⟨hvl, hXM⟩
     have HRG : Hid (wr.rangeAt g (off' + k * 25) (encP.c c)) := range_same' hat (HB.out.1.block g hg)
     have hgw : g < wr.heap.size := Nat.lt_of_lt_of_le hg HB.out.1.size
     have HRZ : Hid (∀ yy, Below wr.heap.size wr yy → yy.rangeAt g (off' + k * 25) (encP.c c)) := fun yy b => range_same' HRG.out (b.block g hgw)
     have hOf := fun w => r3of_calls w c.k c.h
     have hv : ofV c.k = pv (pIno c.k) (pKind c.k) (pName c.k) (pl : Int) := by unfold ofV; rw [if_pos hr1, hpp]
     rw [hv, hr1] at hOf
     have HGZ : Hid (g < z.heap.size) := hg
     clear hat hg hkl hv hr1 hpp hpl1 hpl2 hpl3 hX hXM hvl hgw HIL
     go_upto_region 13 with (first
      | (refine load_part _ rfl g (off' + k * 25) rfl rfl _ c.h (range_kP HRG.out) ?_)
      | (go_at_call 42; refine (hOf _).mono ?_; rintro e x2 ⟨rfl, b2⟩))
     have hrow := heap_alloc_new x2 (.cells #[.int .i64 (pIno c.k), .int .i64 (pKind c.k), .string (str (pName c.k)), .int .i64 (pl : Int)] 90)
     have hcP : (x2.alloc (.cells #[.int .i64 (pIno c.k), .int .i64 (pKind c.k), .string (str (pName c.k)), .int .i64 (pl : Int)] 90)).cell? ⟨x2.heap.size, 3, none⟩ = some (.int .i64 (pl : Int)) := by rw [cell_of_row _ _ _ _ _ _ hrow]; rfl
     have bA := b2.trans (((Below.refl _ x2).alloc (Nat.le_refl _) (.cells #[.int .i64 (pIno c.k), .int .i64 (pKind c.k), .string (str (pName c.k)), .int .i64 (pl : Int)] 90)).mono b2.size)
     have hbp : wr.heap.size ≤ x2.heap.size := b2.size
     generalize x2.alloc (.cells #[.int .i64 (pIno c.k), .int .i64 (pKind c.k), .string (str (pName c.k)), .int .i64 (pl : Int)] 90) = x3 at *
     obtain ⟨bp, hbpe⟩ : ∃ bp, bp = x2.heap.size := ⟨_, rfl⟩
     rw [← hbpe] at hcP ⊢
     have HBP : Hid (z.heap.size ≠ bp ∧ g ≠ z.heap.size) := ⟨by have := HB.out.2.lt; omega, by have := HGZ.out; omega⟩
     have hvcx : x3.cell? ⟨g, off' + k * 25 + 24, none⟩ = some (.string (str c.v)) := range_vP (HRZ.out _ bA)
     have HSS : Hid (x3.drew.cell? ⟨g, off' + k * 25 + 24, none⟩ = some (.string (str c.v)) ∧ x3.drew.cell? ⟨bp, 3, none⟩ = some (.int .i64 (pl : Int))) := ⟨hvcx, hcP⟩
     have HB3 : Hid (Below z.heap.size z x3.drew ∧ BcAt x3.drew z.heap.size (bufL FS (L.take k) (List.replicate M 0))) := ⟨(HB.out.1.trans (bA.mono HB.out.1.size)).drew, HB.out.2.same (bA.block _ HB.out.2.lt)⟩
     clear hrow b2 bA hOf HRG HRZ HB hcP hvcx hbp hbpe
     have w1 : IntKind.i64.wrap ((pl : Int) - (FS : Int)) = (pl : Int) - (FS : Int) := by rw [IntKind.wrap_i64]; omega
     have w2 : IntKind.i64.wrap (X : Int) = (X : Int) := by rw [IntKind.wrap_i64]; have := HF.out; omega
     have w3 : (X : Int) ≤ (M : Int) := by omega
     have w4 : ¬ M = X := by have := HVV.out; omega
     have hcp := HB3.out.2.copy X (M - X) (M - X) c.v (by have := HVV.out; omega) (by rw [HBL.out]; have := HVV.out; omega) 3
     have HB4 : Hid (Below z.heap.size z (x3.drew.setRow z.heap.size (bc (copied (bufL FS (L.take k) (List.replicate M 0)) X c.v)).toArray) ∧ BcAt (x3.drew.setRow z.heap.size (bc (copied (bufL FS (L.take k) (List.replicate M 0)) X c.v)).toArray) z.heap.size (bufL FS (L.take (k + 1)) (List.replicate M 0))) := ⟨below_setRow HB3.out.1 (Nat.le_refl _) _, by rw [HBS.out]; exact HB3.out.2.after X c.v⟩
     refine wp_region_noPanic ?_
     refine wp_region_held_drew (S := (fun yy => yy.cell? ⟨g, off' + k * 25 + 24, none⟩ = some (.string (str c.v)) ∧ yy.cell? ⟨bp, 3, none⟩ = some (.int .i64 (pl : Int)))) (by kernel_rfl) HSS.out (fun hh => ?_)
     refine tl ?_ 0 rfl hh ⟨by rfl, ?_⟩ ?_
     case refine_2 => (intro w hSw; go_simp; try with_reducible rfl)
     (try simp only [gs])
     refine tl ?_ 1 rfl hh ⟨by rfl, ?_⟩ ?_
     case refine_2 => (intro w hSw; go_simp; try with_reducible rfl)
     (try simp only [gs])
     refine tl ?_ 2 rfl hh ⟨by rfl, ?_⟩ ?_
     case refine_2 => (intro w hSw; have hs1 := hSw.1; have hs2 := hSw.2; go_simp; try with_reducible rfl)
     (try simp only [gs])
     refine tl ?_ 3 rfl hh ⟨by rfl, ?_⟩ ?_
     case refine_2 => (intro w hSw; go_simp; try with_reducible rfl)
     (try simp only [gs])
     refine tl ?_ 4 rfl hh ⟨by rfl, ?_⟩ ?_
     case refine_2 => (intro w hSw; go_simp; try with_reducible rfl)
     (try simp only [gs])
     refine tl ?_ 5 rfl hh ⟨by rfl, ?_⟩ ?_
     case refine_2 => (intro w hSw; go_simp; try with_reducible rfl)
     (try simp only [gs])
     refine tl ?_ 6 rfl hh ⟨by rfl, ?_⟩ ?_
     case refine_2 => (intro w hSw; go_simp; try with_reducible rfl)
     (try simp only [gs])
     refine tl ?_ 7 rfl hh ⟨by rfl, ?_⟩ ?_
     case refine_2 => (intro w hSw; go_simp; try with_reducible rfl)
     (try simp only [gs])
     refine tl ?_ 8 rfl hh ⟨by rfl, ?_⟩ ?_
     case refine_2 => (intro w hSw; go_simp; try with_reducible rfl)
     (try simp only [gs])
     refine tl ?_ 9 rfl hh ⟨by rfl, ?_⟩ ?_
     case refine_2 => (intro w hSw; go_simp; try with_reducible rfl)
     (try simp only [gs])
     refine tl ?_ 10 rfl hh ⟨by rfl, ?_⟩ ?_
     case refine_2 => (intro w hSw; go_simp; try with_reducible rfl)
     (try simp only [gs])
     refine tl ?_ 11 rfl hh ⟨by rfl, ?_⟩ ?_
     case refine_2 => (intro w hSw; have hs1 := hSw.1; have hs2 := hSw.2; go_simp; try with_reducible rfl)
     (try simp only [gs])
     refine wpAnyH_ready (rs := [12]) (by kernel_rfl) (by simp) (AllReadyH.cons rfl (fun K0 hK => ?_) AllReadyH.nil)
     rw [if_pos (by rfl)]
     (try simp only [gs])
     go_simp
     refine hK.out _ _ ⟨(World.cell?_of_block (setRow_other _ _ _ _ HBP.out.2)).trans hh.1, (World.cell?_of_block (setRow_other _ _ _ _ (Ne.symm HBP.out.1))).trans hh.2⟩ (fun hHeld2 => ?_)
     clear hK K0
     (try simp only [gs])
     refine wpAnyH_done (by kernel_rfl) ?_ _
     refine NoPanic.normal ?_
     clear hh hHeld2 hcp
     go_wp2_with fail
     go_roundg gg
     case measure => omega
     case rel => exact ⟨k + 1, by omega, congrArg (Value.int .i64) (by omega), HB4.out⟩
end
section
open Go.ChangeShapes Go.WideShapes Go.ChangeAt Go.RowKit
structure Co where
 kind : Int
 ino : Int
 off : Int
 n : Int
 s : List UInt8
 hi : -9223372036854775808 ≤ ino ∧ ino ≤ 9223372036854775807
 ho : -9223372036854775808 ≤ off ∧ off ≤ 9223372036854775807
 hn : -9223372036854775808 ≤ n ∧ n ≤ 9223372036854775807
def cocd (o : Co) : List Value := [.int .i64 o.kind, .int .i64 o.ino, .int .i64 o.off, .int .i64 o.n, .string (str o.s)]
def encCo : Enc Co 5 := ⟨cocd, fun _ => rfl, fun o v hv => by
 simp only [cocd, List.mem_cons, List.not_mem_nil, or_false] at hv
 rcases hv with rfl | rfl | rfl | rfl | rfl <;> rfl⟩
section
variable {w : World} {g off : Nat} {o : Co}
theorem range_cKind (h : w.rangeAt g off (encCo.c o)) : w.cell? ⟨g, off, none⟩ = some (.int .i64 o.kind) := by
 have := h 0 (.int .i64 o.kind) rfl
 simpa using this
theorem range_cIno (h : w.rangeAt g off (encCo.c o)) : w.cell? ⟨g, off + 1, none⟩ = some (.int .i64 o.ino) := h 1 (.int .i64 o.ino) rfl
theorem range_cOff (h : w.rangeAt g off (encCo.c o)) : w.cell? ⟨g, off + 2, none⟩ = some (.int .i64 o.off) := h 2 (.int .i64 o.off) rfl
theorem range_cN (h : w.rangeAt g off (encCo.c o)) : w.cell? ⟨g, off + 3, none⟩ = some (.int .i64 o.n) := h 3 (.int .i64 o.n) rfl
theorem range_cStr (h : w.rangeAt g off (encCo.c o)) : w.cell? ⟨g, off + 4, none⟩ = some (.string (str o.s)) := h 4 (.string (str o.s)) rfl
end
theorem open_cops {H : Type} {enc : TypeId × Value → H} {W : World} {base : Nat} {held : Bool} {a : Option Addr} {len cap : Nat} {d : DataW H} {p : List MemPlace}
    (h : DataW.Trod enc Tryz.prog W base (fun _ => true) held 22 (.slice a len cap) d p) : ∃ l : List Co, Sl encCo W (.slice a len cap) l := by
 refine open_els encCo 22 29 Tryz.underlying22 (by kernel_rfl) (by decide) (fun fuel z cs hf hl => ?_) h
 obtain ⟨xs, n', _, _, _, hlen, hf'⟩ := DataW.trod_struct Tryz.underlying29 hf
 match xs, hlen with
 | [y0, y1, y2, y3, y4], _ =>
  have ki : Tryz.prog.cellsOf 3 = 1 := by kernel_rfl
  have k1 : Tryz.prog.cellsOf 9 = 1 := by kernel_rfl
  have f0 := hf' 0 _ rfl
  have f1 := hf' 1 _ rfl
  have f2 := hf' 2 _ rfl
  have f3 := hf' 3 _ rfl
  have f4 := hf' 4 _ rfl
  simp at f0 f1 f2 f3 f4
  rw [ki] at f0 f1 f2 f3
  rw [k1] at f4
  obtain ⟨kd, e0, _, _⟩ := DataW.trod_int Tryz.underlying3 f0
  obtain ⟨ii, e1, _, w1⟩ := DataW.trod_int Tryz.underlying3 f1
  obtain ⟨oo, e2, _, w2⟩ := DataW.trod_int Tryz.underlying3 f2
  obtain ⟨nn, e3, _, w3⟩ := DataW.trod_int Tryz.underlying3 f3
  obtain ⟨s, e4, _, _⟩ := DataW.trod_string Tryz.underlying9 f4
  have b1 := bounds_i64 w1
  have b2 := bounds_i64 w2
  have b3 := bounds_i64 w3
  refine ⟨⟨kd, ii, oo, nn, s.data.toList, by omega, by omega, by omega⟩, ?_⟩
  show cs = [.int .i64 kd, .int .i64 ii, .int .i64 oo, .int .i64 nn, .string (str s.data.toList)]
  rw [str_data]
  rw [List.take_of_length_le (l := cs.drop 4) (by simp; omega)] at e4
  have d4 : cs.drop 4 = (cs.drop 3).drop 1 := by rw [List.drop_drop]
  have d3 : cs.drop 3 = (cs.drop 2).drop 1 := by rw [List.drop_drop]
  have d2 : cs.drop 2 = cs.tail.drop 1 := by rw [← List.drop_one, List.drop_drop]
  have d1 : cs.tail = cs.drop 1 := List.drop_one.symm
  show cs = .int .i64 kd :: .int .i64 ii :: .int .i64 oo :: .int .i64 nn :: [.string s]
  rw [← e4]
  show cs = .int .i64 kd :: .int .i64 ii :: .int .i64 oo :: ([.int .i64 nn] ++ cs.drop 4)
  rw [← e3, d4, List.take_append_drop]
  show cs = .int .i64 kd :: .int .i64 ii :: ([.int .i64 oo] ++ cs.drop 3)
  rw [← e2, d3, List.take_append_drop]
  show cs = .int .i64 kd :: ([.int .i64 ii] ++ cs.drop 2)
  rw [← e1, d2, List.take_append_drop]
  show cs = [.int .i64 kd] ++ cs.tail
  rw [← e0, d1, List.take_append_drop]
end
section
open Go.RowKit
theorem rwrite13_bad (y : World) (rp : Nat) (ino off : Int) (data : List UInt8) (hn : data.length ≤ 1000000) (ho : off ≤ 9223372036854775807) (h : (okNum ino && okW off (data.length : Int)) = false) :
    Calls Tryz.prog 13 #[.pointer (some ⟨rp, 0, none⟩), .int .i64 ino, .int .i64 off, .string (str data)] y fun e y' => e = .returned (.int .i64 1) ∧ Below y.heap.size y y' := by
 have hM := fun z => rmay_calls ino off (data.length : Int) (by omega) ho z
 rw [h] at hM
 have hss : (str data).size = data.length := str_size data
 clear h
 go_enter Tryz.func13, Tryz.ntmps13
 go_wp2_with (go_at_call 33; refine (hM _).mono ?_; clear hM; rintro e y1 ⟨rfl, rfl⟩)
 go_ret
 exact ⟨rfl, Below.refl _ _⟩
theorem rcut13_bad (y : World) (rp : Nat) (ino sz : Int) (ho : sz ≤ 9223372036854775807) (h : (okNum ino && okW 0 sz) = false) :
    Calls Tryz.prog 15 #[.pointer (some ⟨rp, 0, none⟩), .int .i64 ino, .int .i64 sz] y fun e y' => e = .returned (.int .i64 1) ∧ Below y.heap.size y y' := by
 have hM := fun z => rmay_calls ino 0 sz ho (by omega) z
 rw [h] at hM
 clear h
 go_enter Tryz.func15, Tryz.ntmps15
 go_wp2_with (go_at_call 33; refine (hM _).mono ?_; clear hM; rintro e y1 ⟨rfl, rfl⟩)
 go_ret
 exact ⟨rfl, Below.refl _ _⟩
theorem rread13_bad (y : World) (rp : Nat) (ino off n : Int) (hn : n ≤ 9223372036854775807) (ho : off ≤ 9223372036854775807) (h : (okNum ino && okW off n) = false) :
    Calls Tryz.prog 17 #[.pointer (some ⟨rp, 0, none⟩), .int .i64 ino, .int .i64 off, .int .i64 n] y fun e y' => e = .returned (.tuple #[.string ⟨#[]⟩, .int .i64 1]) ∧ Below y.heap.size y y' := by
 have hM := fun z => rmay_calls ino off n hn ho z
 rw [h] at hM
 clear h
 go_enter Tryz.func17, Tryz.ntmps17
 go_wp2_with (go_at_call 33; refine (hM _).mono ?_; clear hM; rintro e y1 ⟨rfl, rfl⟩)
 go_ret2
 exact ⟨rfl, Below.refl _ _⟩
theorem sl_len {α : Type} {k : Nat} {E : Enc α k} {w w' : World} {B B' : Nat} {v : Value} {l l' : List α} (h : SlB E w B v l) (h' : SlB E w' B' v l') : l.length = l'.length := by
 obtain ⟨ad, cap, rfl, -⟩ := h
 obtain ⟨ad2, cap2, e, -⟩ := h'
 exact (Value.slice.inj e).2.1
theorem PlAt.doc {w0 z y' : World} {lim p : Nat} {pv : Value} {base q : Nat} {x : VR} {V1 V2 : VS} {rp : Nat} {bv cv rv : Value} {C : List Ch} {R : List Sp} {K : Nat} (P : PlAt w0 lim p pv [] base q x V1 rp bv cv rv nilW C R [] [] z) (D : DcTo z rp bv cv rv V2 K y') :
    ∃ cv' rv' C' R', PlAt w0 lim p pv [] base q x V1 rp bv cv' rv' nilW C' R' [] [] y' ∧ PlOk [] V2 C' R' [] [] K := by
 obtain ⟨cv', rv', C', R', d1, d2, d3, d4, d5⟩ := D
 refine ⟨cv', rv', C', R', P.snd d5 d1 (P.ml.past P.d d5 P.hp) ⟨P.off.p, P.off.b, fun hne => ?_, fun hne => ?_, P.off.m, P.off.e⟩ P.hp, d4⟩
 · rcases d2 with rfl | d2
   · exact P.off.c (fun e => hne (List.eq_nil_of_length_eq_zero (by rw [← sl_len P.d.c d1.c, e]; rfl)))
   · exact P.new d2
 · rcases d3 with rfl | d3
   · exact P.off.r (fun e => hne (List.eq_nil_of_length_eq_zero (by rw [← sl_len P.d.r d1.r, e]; rfl)))
   · exact P.new d3
structure Cn where
 lim : Nat
 p : Nat
 pv : Value
 base : Nat
 q : Nat
 rp : Nat
 bv : Value
def CpSt (w0 : World) (d : Cn) (j : Nat) (y : World) : Prop :=
 ∃ (x : VR) (V : VS) (cv rv : Value) (C : List Ch) (R : List Sp) (K : Nat), PlAt w0 d.lim d.p d.pv [] d.base d.q x V d.rp d.bv cv rv nilW C R [] [] y ∧ PlOk [] V C R [] [] K ∧ FileOk V.C ∧ V.U = [] ∧ V.C.length ≤ 11 * j ∧ V.R.length ≤ 2 * j ∧ x.n ≤ 600
structure CBx (d : Cn) (b : Nat) (o : Co) (y : World) : Prop where
 rg : y.rangeAt b 0 (encCo.c o)
 lt : b < y.heap.size
theorem CBx.fr {d : Cn} {b : Nat} {o : Co} {y z : World} (h : CBx d b o y) (F : FrV (fun i => i = d.rp) y z) (hne : b ≠ d.rp) : CBx d b o z := ⟨range_same' h.rg (F.block b h.lt hne), Nat.lt_of_lt_of_le h.lt F.size⟩
theorem CBx.called {d : Cn} {b : Nat} {o : Co} {y z : World} (h : CBx d b o y) (hb : Below y.heap.size y z) : CBx d b o z := ⟨range_same' h.rg (hb.block b h.lt), Nat.lt_of_lt_of_le h.lt hb.size⟩
def CpBx (w0 : World) (d : Cn) (j b : Nat) (o : Co) (y : World) : Prop :=
 ∃ (x : VR) (V : VS) (cv rv : Value) (C : List Ch) (R : List Sp) (K : Nat), PlAt w0 d.lim d.p d.pv [] d.base d.q x V d.rp d.bv cv rv nilW C R [] [] y ∧ PlOk [] V C R [] [] K ∧ FileOk V.C ∧ V.U = [] ∧ V.C.length ≤ 11 * j ∧ V.R.length ≤ 2 * j ∧ x.n ≤ 600 ∧ CBx d b o y ∧ ¬ x.own d.q b ∧ b ≠ d.rp
theorem CpSt.called {w0 : World} {d : Cn} {j : Nat} {y z : World} (h : CpSt w0 d j y) (hb : Below y.heap.size y z) : CpSt w0 d j z := by
 obtain ⟨x, V, cv, rv, C, R, K, A, r⟩ := h
 exact ⟨x, V, cv, rv, C, R, K, A.called (Nat.zero_le _) hb, r⟩
theorem CpSt.bel {w0 : World} {d : Cn} {j : Nat} {y : World} (h : CpSt w0 d j y) : Below w0.heap.size w0 y := by
 obtain ⟨x, V, cv, rv, C, R, K, A, -⟩ := h
 exact A.a.bel
theorem CpSt.up {w0 : World} {d : Cn} {j : Nat} {y : World} (h : CpSt w0 d j y) : CpSt w0 d (j + 1) y := by
 obtain ⟨x, V, cv, rv, C, R, K, A, B, h1, h2, h3, h4, h5⟩ := h
 exact ⟨x, V, cv, rv, C, R, K, A, B, h1, h2, by omega, by omega, h5⟩
theorem CpBx.called {w0 : World} {d : Cn} {j b : Nat} {o : Co} {y z : World} (h : CpBx w0 d j b o y) (hb : Below y.heap.size y z) : CpBx w0 d j b o z := by
 obtain ⟨x, V, cv, rv, C, R, K, A, B, h1, h2, h3, h4, h5, bx, ho⟩ := h
 exact ⟨x, V, cv, rv, C, R, K, A.called (Nat.zero_le _) hb, B, h1, h2, h3, h4, h5, bx.called hb, ho⟩
theorem CpBx.bx {w0 : World} {d : Cn} {j b : Nat} {o : Co} {y : World} (h : CpBx w0 d j b o y) : CBx d b o y := by
 obtain ⟨x, V, cv, rv, C, R, K, A, B, h1, h2, h3, h4, h5, bx, ho⟩ := h
 exact bx
theorem CpSt.box {w0 : World} {d : Cn} {j b : Nat} {o : Co} {y z : World} (h : CpSt w0 d j y) (hb : Below y.heap.size y z) (hB : b = y.heap.size) (hr : z.rangeAt b 0 (encCo.c o)) (hl : b < z.heap.size) : CpBx w0 d j b o z := by
 obtain ⟨x, V, cv, rv, C, R, K, A, B, h1, h2, h3, h4, h5⟩ := h
 subst hB
 exact ⟨x, V, cv, rv, C, R, K, A.called (Nat.zero_le _) hb, B, h1, h2, h3, h4, h5, ⟨hr, hl⟩, fun e => Nat.lt_irrefl _ (A.a.vw.lt e), fun e => Nat.lt_irrefl d.rp (e ▸ A.d.lt)⟩
structure CpPh (w0 : World) (d : Cn) (j b : Nat) (o : Co) (F : FuncId) (args : Array Value) (r : Value) (y : World) : Prop where
 bx : CBx d b o y
 go : ∀ z, Below y.heap.size y z → Calls Tryz.prog F args z fun e y' => e = .returned r ∧ CpSt w0 d (j + 1) y' ∧ CBx d b o y'
section
variable {w0 : World} {d : Cn} {j b : Nat} {o : Co} {y : World}
theorem cbx_ran {k nb : Nat} {x x' : VR} {V' : VS} {y' : World} (h : CBx d b o y) (ho : ¬ x.own d.q b) (t : VRan noB w0 d.lim (NI d.lim d.p d.pv d.base) k (nI d.p) d.q x nb V' y x' y') : CBx d b o y' :=
 ⟨range_same' h.rg (t.fr.block b h.lt (fun e => e.elim ho (fun e => e))), Nat.lt_of_lt_of_le h.lt t.fr.size⟩
theorem cp_end {x' : VR} {V' : VS} {cv rv : Value} {C : List Ch} {R : List Sp} {K : Nat} {z y' : World} (P : PlAt w0 d.lim d.p d.pv [] d.base d.q x' V' d.rp d.bv cv rv nilW C R [] [] z) (hF : FileOk V'.C) (hU : V'.U = []) (h1 : V'.C.length ≤ 11 * (j + 1)) (h2 : V'.R.length ≤ 2 * (j + 1)) (hj : j < 50) (D : DcTo z d.rp d.bv cv rv V' K y') (bx : CBx d b o z) (hne : b ≠ d.rp) : CpSt w0 d (j + 1) y' ∧ CBx d b o y' := by
 obtain ⟨cv', rv', C', R', A, B⟩ := P.doc D
 refine ⟨⟨{ x' with n := 600 }, V', cv', rv', C', R', K, ⟨A.a.tight 600 (most_of hU (by omega) (by omega)), A.d, A.ml, A.off, A.hp, A.lp⟩, B, hF, hU, h1, h2, Nat.le_refl _⟩, bx.fr D.fr hne⟩
theorem okW_false {off : Int} {m : Nat} (h : okW off (m : Int) = true) : ∃ n : Nat, off = (n : Int) ∧ n + m ≤ 1048576 := by
 unfold okW at h
 simp at h
 obtain ⟨n, rfl⟩ := Int.eq_ofNat_of_zero_le (show 0 ≤ off by omega)
 exact ⟨n, rfl, by omega⟩
theorem okNum_N {ino : Int} (h : okNum ino = true) : okN ino = true := by
 unfold okNum at h
 simp at h
 exact okN_of h.1 h.2
theorem cp_write (h : CpBx w0 d j b o y) (hj : j < 50) (ino off : Int) (ho : off ≤ 9223372036854775807) (s : List UInt8) (hs : s.length ≤ 300) :
    Calls Tryz.prog 12 #[.pointer (some ⟨d.q, 0, none⟩), .int .i64 ino, .int .i64 off, .string (str s)] y fun e y1 => ∃ r : Int, e = .returned (.int .i64 r) ∧ CpPh w0 d j b o 13 #[.pointer (some ⟨d.rp, 0, none⟩), .int .i64 ino, .int .i64 off, .string (str s)] (.int .i64 r) y1 := by
 obtain ⟨x, V, cv, rv, C, R, K, A, B, hF, hU, h1, h2, h3, bx, hob, hne⟩ := h
 cases hq : (okNum ino && okW off (s.length : Int)) with
 | false =>
  refine (cWrite_bad y d.q ino off s (by omega) ho hq).mono fun e y1 t => ⟨1, t.1, bx.called t.2, fun z hz => ?_⟩
  refine (rwrite13_bad z d.rp ino off s (by omega) ho hq).mono fun e y' u => ⟨u.1, CpSt.up ⟨x, V, cv, rv, C, R, K, ((A.called (Nat.zero_le _) t.2).called (Nat.zero_le _) hz).called (Nat.zero_le _) u.2, B, hF, hU, h1, h2, h3⟩, ((bx.called t.2).called hz).called u.2⟩
 | true =>
  obtain ⟨g1, g2⟩ : okNum ino = true ∧ okW off (s.length : Int) = true := by simpa using hq
  obtain ⟨n, rfl, hod⟩ := okW_false g2
  have hp := pN_300 (off := n) hs
  have hi := okNum_N g1
  have hl := writeV_len V (plGe []) ino n s
  have hr := writeV_R2 V ino n s
  refine (nvWrite (d := ⟨d.lim, d.p, d.pv, d.base, d.q, x, V⟩) A.a ino n s g1 (by show x.n + 5 * pN n s.length ≤ 5000; omega) hod).mono fun e y1 t => ?_
  obtain ⟨e1, x', T⟩ := t
  have P := A.fst T
  refine ⟨0, e1, cbx_ran bx hob T, fun z hz => ?_⟩
  have P2 := P.called (Nat.zero_le _) hz
  refine (rwrite13_ok z z d.rp d.bv cv rv V K ⟨cv, rv, C, R, P2.d, .inl rfl, .inl rfl, B, FrV.refl _ _⟩ hF.asc hU (by omega) (by omega) ino g1 hi n s hs hod).mono fun e y' u => ⟨u.1, ?_⟩
  exact cp_end (V' := writeV V (plGe []) ino n s) P2 (write_ok hF hi hod) (writeV_U hU ino n s) (by omega) (by omega) hj u.2 ((cbx_ran bx hob T).called hz) hne
theorem okW_cut {sz : Int} : okW sz 0 = okW 0 sz := by
 unfold okW
 rw [Bool.eq_iff_iff]
 simp <;> omega
theorem cp_cut (h : CpBx w0 d j b o y) (hj : j < 50) (ino sz : Int) (ho : sz ≤ 9223372036854775807) :
    Calls Tryz.prog 14 #[.pointer (some ⟨d.q, 0, none⟩), .int .i64 ino, .int .i64 sz] y fun e y1 => ∃ r : Int, e = .returned (.int .i64 r) ∧ CpPh w0 d j b o 15 #[.pointer (some ⟨d.rp, 0, none⟩), .int .i64 ino, .int .i64 sz] (.int .i64 r) y1 := by
 obtain ⟨x, V, cv, rv, C, R, K, A, B, hF, hU, h1, h2, h3, bx, hob, hne⟩ := h
 cases hq : (okNum ino && okW 0 sz) with
 | false =>
  refine (cCut_bad y d.q ino sz ho (by rw [okW_cut]; exact hq)).mono fun e y1 t => ⟨1, t.1, bx.called t.2, fun z hz => ?_⟩
  refine (rcut13_bad z d.rp ino sz ho hq).mono fun e y' u => ⟨u.1, CpSt.up ⟨x, V, cv, rv, C, R, K, ((A.called (Nat.zero_le _) t.2).called (Nat.zero_le _) hz).called (Nat.zero_le _) u.2, B, hF, hU, h1, h2, h3⟩, ((bx.called t.2).called hz).called u.2⟩
 | true =>
  obtain ⟨g1, g2⟩ : okNum ino = true ∧ okW 0 sz = true := by simpa using hq
  obtain ⟨k1, k2⟩ := okW_0 g2
  obtain ⟨n, rfl⟩ := Int.eq_ofNat_of_zero_le k1
  have hi := okNum_N g1
  have hl := cutV_same hF.asc ino (n : Int)
  have hr := cutV_R V ino (n : Int)
  refine (nvCut (d := ⟨d.lim, d.p, d.pv, d.base, d.q, x, V⟩) A.a ino (n : Int) g1 ⟨k1, k2⟩ (by show x.n + 4 + 4 * V.C.length ≤ 5000; omega)).mono fun e y1 t => ?_
  obtain ⟨e1, x', T⟩ := t
  have P := A.fst T
  refine ⟨0, e1, cbx_ran bx hob T, fun z hz => ?_⟩
  have P2 := P.called (Nat.zero_le _) hz
  refine (rcut13_ok z z d.rp d.bv cv rv V K ⟨cv, rv, C, R, P2.d, .inl rfl, .inl rfl, B, FrV.refl _ _⟩ hF (by omega) (by omega) ino g1 hi n (by omega)).mono fun e y' u => ⟨u.1, ?_⟩
  exact cp_end (V' := cutV V ino (n : Int)) P2 (cut_ok hF) (cutV_U hU ino (n : Int)) (by omega) (by omega) hj u.2 ((cbx_ran bx hob T).called hz) hne
theorem cp_read (h : CpBx w0 d j b o y) (hj : j < 50) (ino off n : Int) (hn : n ≤ 9223372036854775807) (hn2 : n ≤ 3000 ∨ 1073741824 ≤ n) (ho : off ≤ 9223372036854775807) :
    Calls Tryz.prog 16 #[.pointer (some ⟨d.q, 0, none⟩), .int .i64 ino, .int .i64 off, .int .i64 n] y fun e y1 => ∃ (r : ByteArray) (er : Int), e = .returned (.tuple #[.string r, .int .i64 er]) ∧ CpPh w0 d j b o 17 #[.pointer (some ⟨d.rp, 0, none⟩), .int .i64 ino, .int .i64 off, .int .i64 n] (.tuple #[.string r, .int .i64 er]) y1 := by
 obtain ⟨x, V, cv, rv, C, R, K, A, B, hF, hU, h1, h2, h3, bx, hob, hne⟩ := h
 cases hq : (okNum ino && okW off n) with
 | false =>
  refine (cRead_bad y d.q ino off n hn ho hq).mono fun e y1 t => ⟨_, 1, t.1, bx.called t.2, fun z hz => ?_⟩
  refine (rread13_bad z d.rp ino off n hn ho hq).mono fun e y' u => ⟨u.1, CpSt.up ⟨x, V, cv, rv, C, R, K, ((A.called (Nat.zero_le _) t.2).called (Nat.zero_le _) hz).called (Nat.zero_le _) u.2, B, hF, hU, h1, h2, h3⟩, ((bx.called t.2).called hz).called u.2⟩
 | true =>
  obtain ⟨g1, g2⟩ : okNum ino = true ∧ okW off n = true := by simpa using hq
  have g3 := g2
  unfold okW at g3
  simp at g3
  obtain ⟨m, rfl⟩ := Int.eq_ofNat_of_zero_le (show 0 ≤ n by omega)
  obtain ⟨f, rfl, hod⟩ := okW_false g2
  have hi := okNum_N g1
  have hRl : (readV V ino f m).R.length ≤ V.R.length + 1 := by
   unfold readV
   split
   · omega
   · simp
  have hRC : (readV V ino f m).C = V.C := by unfold readV; split <;> rfl
  have hRU : (readV V ino f m).U = [] := by unfold readV; split <;> exact hU
  refine (nvRead (d := ⟨d.lim, d.p, d.pv, d.base, d.q, x, V⟩) A.a ino f m g1 (by show x.n ≤ 5000; omega) (by show V.C.length ≤ 5000; omega) hod).mono fun e y1 t => ?_
  obtain ⟨e1, x', T⟩ := t
  have P := A.fst T
  refine ⟨_, 0, e1, cbx_ran bx hob T, fun z hz => ?_⟩
  have P2 := P.called (Nat.zero_le _) hz
  refine (rread13_ok z z d.rp d.bv cv rv V K ⟨cv, rv, C, R, P2.d, .inl rfl, .inl rfl, B, FrV.refl _ _⟩ hF (by omega) (by omega) ino g1 hi f m (by omega) hod).mono fun e y' u => ⟨u.1, ?_⟩
  exact cp_end (V' := readV V ino f m) P2 (by rw [hRC]; exact hF) hRU (by rw [hRC]; omega) (by omega) hj u.2 ((cbx_ran bx hob T).called hz) hne
end
end
section
open Go.RowKit
theorem list_eq_cons {α : Type} {l m : List α} {k : Nat} (hk : k < l.length) (hm : k < m.length) (h : l.take k = m.take k) (e : l[k] = m[k]) : l.take (k + 1) = m.take (k + 1) := by
 rw [List.take_succ_eq_append_getElem hk, List.take_succ_eq_append_getElem hm, h, e]
theorem ne_at {α : Type} {l m : List α} {k : Nat} (hk : k < l.length) (hm : k < m.length) (e : ¬ l[k] = m[k]) : ¬ l = m := fun h => e (by subst h; rfl)
theorem sameC_calls (w : World) (ua ub : Value) (a b : List Ch) (ha : Sl encC w ua a) (hb : Sl encC w ub b) (hla : a.length ≤ 100000) :
    Calls Tryz.prog 18 #[ua, ub] w fun e w' => e = .returned (.bool (decide (a = b))) ∧ Below w.heap.size w w' := by
 have ha' := ha
 obtain ⟨ad, cap, rfl, hcap, hmax, _, _⟩ := ha'
 have hb' := hb
 obtain ⟨bd, cap2, rfl, hcap2, hmax2, _, _⟩ := hb'
 have HI : Hid (∀ i (hi : i < a.length), ∃ g off, ad = some ⟨g, off, none⟩ ∧ g < w.heap.size ∧ w.rangeAt g (off + i * 26) (encC.c a[i])) := fun i hi => SlB.at ha i hi
 have HJ : Hid (∀ i (hi : i < b.length), ∃ g off, bd = some ⟨g, off, none⟩ ∧ g < w.heap.size ∧ w.rangeAt g (off + i * 26) (encC.c b[i])) := fun i hi => SlB.at hb i hi
 have hInfo : ∀ p : Ch, (Tryz.prog.info? 95).map (·.size) = some (encC.c p).length := fun p => by rw [encC.len]; exact elC.info
 clear ha hb
 by_cases q2 : a.length = b.length
 rotate_left
 · have f : (((a.length : Nat) : Int) == ((b.length : Nat) : Int)) = false := by simpa using fun e : ((a.length : Nat) : Int) = ((b.length : Nat) : Int) => q2 (by omega)
   have f2 : (a.length == b.length) = false := by simpa using q2
   have hne : ¬ a = b := fun e => q2 (by rw [e])
   go_enter Tryz.func18, Tryz.ntmps18
   go_wp2_with fail
   go_ret
   exact ⟨by rw [decide_eq_false hne]; rfl, Below.refl _ _⟩
 obtain ⟨N, hN⟩ : ∃ N : Nat, a.length = N := ⟨_, rfl⟩
 have n2 : b.length = N := by omega
 have HL : Hid (a.length = N ∧ b.length = N) := ⟨hN, n2⟩
 rw [hN] at hcap hmax hla ⊢
 rw [n2] at hcap2 hmax2 ⊢
 clear hN n2 q2
 obtain ⟨R, hR⟩ : ∃ R : Bool, R = decide (a = b) := ⟨_, rfl⟩
 have HRR : Hid (R = decide (a = b)) := hR
 rw [← hR]
 clear hR
 go_enter Tryz.func18, Tryz.ntmps18
 go_wp2_with fail
 go_loopg [5] N (fun g i wr => ∃ k n : Nat, k + g = N ∧ i = .int .i64 (k : Int) ∧ wr = w.drewN n ∧ Hid (a.take k = b.take k))
 case atStart => exact ⟨0, 0, by omega, rfl, rfl, (show a.take 0 = b.take 0 by simp)⟩
 case round =>
  obtain ⟨k, n, hkg, rfl, rfl, HT⟩ := hrel
  cases gk with
  | zero =>
   have hkN : k = N := by omega
   subst hkN
   have HEQ : Hid (a = b) := (show _ = _ by
    have := HT.out
    rw [List.take_of_length_le (by have := HL.out.1; omega), List.take_of_length_le (by have := HL.out.2; omega)] at this
    exact this)
   go_wp2_with fail
   go_ret
   exact ⟨by rw [HRR.out, decide_eq_true HEQ.out]; rfl, below_drewN (Below.refl _ _) _⟩
  | succ g =>
   have hlt : k < N := by omega
   have hltI : (k : Int) < (N : Int) := by omega
   have hk0 : (0 : Int) ≤ (k : Int) := by omega
   have hka : k < a.length := by have := HL.out.1; omega
   have hkb : k < b.length := by have := HL.out.2; omega
   obtain ⟨g1, o1, rfl, hg1, hat1⟩ := HI.out k hka
   obtain ⟨g2, o2, rfl, hg2, hat2⟩ := HJ.out k hkb
   have HYES : Hid (a[k] = b[k] → a.take (k + 1) = b.take (k + 1)) := fun e => list_eq_cons hka hkb HT.out e
   have HNO : Hid (¬ a[k] = b[k] → ¬ a = b) := fun e => ne_at hka hkb e
   generalize a[k] = s at *
   generalize b[k] = t at *
   have HR1 : Hid ((w.drewN n).rangeAt g1 (o1 + k * 26) (encC.c s) ∧ (w.drewN n).rangeAt g2 (o2 + k * 26) (encC.c t)) := ⟨hat1, hat2⟩
   clear hat1 hat2 hka hkb HT
   generalize hwd : w.drewN n = W at *
   have HWD : Hid (w.drewN n = W) := hwd
   clear hwd
   go_upto_region 6 with fail
   refine wp_region_noPanic ?_
   refine wp_region_held_drew (S := (fun yy => yy.rangeAt g1 (o1 + k * 26) (encC.c s) ∧ yy.rangeAt g2 (o2 + k * 26) (encC.c t))) (by kernel_rfl) HR1.out (fun hh => ?_)
   refine tl ?_ 0 rfl hh ⟨by rfl, ?_⟩ ?_
   case refine_2 => (intro w hSw; go_simp; try with_reducible rfl)
   (try simp only [gs])
   refine tl ?_ 1 rfl hh ⟨by rfl, ?_⟩ ?_
   case refine_2 => (intro w hSw; go_simp; try with_reducible rfl)
   (try simp only [gs])
   refine tl ?_ 2 rfl hh ⟨by rfl, ?_⟩ ?_
   case refine_2 => (intro w hSw; go_simp; try with_reducible rfl)
   (try simp only [gs])
   refine tk 3 rfl hh (yieldsIf_load_mid (by rfl) _ _ rfl _ _ rfl _ _ (fun _ h => h.1) Tryz.underlying95 rfl (hInfo s)) ?_
   (try simp only [gs])
   refine tl ?_ 4 rfl hh ⟨by rfl, ?_⟩ ?_
   case refine_2 => (intro w hSw; go_simp; try with_reducible rfl)
   (try simp only [gs])
   refine tl ?_ 5 rfl hh ⟨by rfl, ?_⟩ ?_
   case refine_2 => (intro w hSw; go_simp; try with_reducible rfl)
   (try simp only [gs])
   refine tl ?_ 6 rfl hh ⟨by rfl, ?_⟩ ?_
   case refine_2 => (intro w hSw; go_simp; try with_reducible rfl)
   (try simp only [gs])
   refine tk 7 rfl hh (yieldsIf_load_mid (by rfl) _ _ rfl _ _ rfl _ _ (fun _ h => h.2) Tryz.underlying95 rfl (hInfo t)) ?_
   (try simp only [gs])
   refine wpAnyH_take (i := 8) (v := .bool (!decide (s = t))) rfl (by kernel_rfl) (by kernel_rfl) (by kernel_rfl) (fun _ _ _ h => h) (Or.inl ⟨by rfl, fun w _ => exec_ne_C _ _ _ rfl s t rfl rfl w⟩) hh ?_
   (try simp only [gs])
   refine wpAnyH_done (by kernel_rfl) ?_ _
   refine NoPanic.normal ?_
   by_cases hst : s = t
   · have hd : decide (s = t) = true := decide_eq_true hst
     have HY2 : Hid (a.take (k + 1) = b.take (k + 1)) := HYES.out hst
     clear hst
     rw [hd]
     go_wp2_with fail
     go_roundg g
     case measure => omega
     case rel => exact ⟨k + 1, n + 1, by omega, congrArg (Value.int .i64) (by omega), by rw [← HWD.out]; rfl, HY2⟩
   · have hd : decide (s = t) = false := decide_eq_false hst
     have HN2 : Hid (¬ a = b) := HNO.out hst
     clear hst
     rw [hd]
     go_wp2_with fail
     go_ret
     exact ⟨by rw [HRR.out, decide_eq_false HN2.out]; rfl, by rw [← HWD.out]; exact (below_drewN (Below.refl _ _) n).drew⟩
end
end Go.Proofs.YtdmindhjmjnagaaGreatDoor
