import Derived.Test.YtdmindhjmjnagaaGreatDoorSi
import Derived.Test.YtdmindhjmjnagaaGreatDoorB01
import Derived.Test.YtdmindhjmjnagaaGreatDoorB34
/- X8F -/
namespace Go.Proofs.YtdmindhjmjnagaaGreatDoor
set_option linter.unusedVariables false
set_option maxRecDepth 1000000
set_option maxHeartbeats 32000000
section
open Go.RowKit
theorem own_put {w : World} {base : Nat} {g cap : Nat} {I : List Sp} {s : Sp} (h : Own encS 56 w base (.slice (some ⟨g, 0, none⟩) (I.length + 1) cap) (I ++ [s])) (t : Sp) :
    Own encS 56 (w.setCells g (I.length * 49) (encS.c t)) base (.slice (some ⟨g, 0, none⟩) (I.length + 1) cap) (I ++ [t]) ∧ w.grownBy (w.setCells g (I.length * 49) (encS.c t)) (some g) := by
 have hl : (I ++ [s]).length = I.length + 1 := by simp
 have hfl : (encS.flat (I ++ [s])).length = I.length * 49 + 49 := by rw [encS.flat_length, hl, Nat.add_mul, Nat.one_mul]
 have hbl : (encS.c t).length = 49 := encS.len t
 obtain ⟨h1, h2⟩ := ownsRow_setCells (encS.c t) (I.length * 49) w _ (h.to hl.symm) (by rw [hfl, hbl]; omega)
 have hfI : (encS.flat I).length = I.length * 49 := encS.flat_length I
 refine ⟨Own.of (by simp) ?_ h1, h2⟩
 rw [List.drop_of_length_le (by rw [hfl, hbl]; omega), List.append_nil, encS.flat_append, encS.flat_append, encS.flat_one, encS.flat_one, List.take_append, hfI, List.take_of_length_le (by omega), Nat.sub_self, List.take_zero, List.append_nil]
theorem own_lastAt {w : World} {base : Nat} {g cap n : Nat} {I : List Sp} {s : Sp} (h : Own encS 56 w base (.slice (some ⟨g, 0, none⟩) n cap) (I ++ [s])) : w.rangeAt g (I.length * 49) (encS.c s) := by
 obtain ⟨g', off', e1, _, hr⟩ := SlB.at h.slB I.length (by simp)
 cases e1
 simpa using hr
theorem own_there {w : World} {base : Nat} {g cap n : Nat} {I : List Sp} {s : Sp} (h : Own encS 56 w base (.slice (some ⟨g, 0, none⟩) n cap) (I ++ [s])) : w.there g (I.length * 49) 49 :=
 fun j hj => ⟨(own_lastAt h).isSome j (by rw [encS.len]; exact hj), h.frozenAt' _⟩
theorem ofB_F (s : Sp) (b : Bd) : (ofB s.bf b s.hF).F = s.F := by unfold ofB; split <;> rfl
theorem where_calls (w : World) (u : Value) (C : List Bd) (h : Sl encT w u C) (ub : Value) (B : List Bool) (hb : Sl encB w ub B) (g : Int → Bool) (hc : Cuts C g) (hl : C.length ≤ 1000) (hB : B.length = C.length - 1) (hBg : ∀ i (h : i < B.length) (h' : i < C.length), B[i] = g (C[i]).v) :
    Calls Tryz.prog 115 #[u, ub] w fun e w' => ∃ v, e = .returned v ∧ ∃ out, Own encS 56 w' w.heap.size v out ∧ Is out g ∧ Below w.heap.size w w' := by
 have HS : Hid (Sl encT w u C) := h
 have HSB : Hid (Sl encB w ub B) := hb
 have HC : Hid (Cuts C g) := hc
 have HBG : Hid (∀ i (h : i < B.length) (h' : i < C.length), B[i] = g (C[i]).v) := hBg
 obtain ⟨ad, cap, rfl, hcap, hmax, _, _⟩ := h
 obtain ⟨bd, capb, rfl, hcapb, _, _, _⟩ := hb
 have HG : Hid (∀ i (hi : i < C.length), ∃ g off, ad = some ⟨g, off, none⟩ ∧ g < w.heap.size ∧ w.rangeAt g (off + i * 1) (encT.c C[i])) := fun i hi => SlB.at HS.out i hi
 have HGB : Hid (∀ i (hi : i < B.length), ∃ g off, bd = some ⟨g, off, none⟩ ∧ g < w.heap.size ∧ w.rangeAt g (off + i * 1) (encB.c B[i])) := fun i hi => SlB.at HSB.out i hi
 obtain ⟨N, hN⟩ : ∃ N : Nat, N = C.length := ⟨_, rfl⟩
 obtain ⟨M, hM⟩ : ∃ M : Nat, M = B.length := ⟨_, rfl⟩
 have HN : Hid (N = C.length) := hN
 have HMB : Hid (M = B.length) := hM
 rw [← hN] at hcap hmax hl hB ⊢
 rw [← hM] at hcapb hB ⊢
 have HBB : Hid (M = N - 1) := hB
 clear hN hmax hM hc hBg hB
 go_enter Tryz.func115, Tryz.ntmps115
 go_wp2_with fail
 go_loopg [5, 6] M (fun gg v i wr => ∃ (k : Nat) (out : List Sp), k + gg = M ∧ i = .int .i64 (k : Int) ∧ Hid (Below w.heap.size w wr ∧ Own encS 56 wr w.heap.size v out ∧ WiK g C k out))
 case atStart => exact ⟨0, [], by omega, rfl, ⟨Below.refl _ _, Own.nil _ _ _ _, WiK.start HC.out⟩⟩
 case round =>
  obtain ⟨k, out, hkg, rfl, HL⟩ := hrel
  cases gk with
  | zero =>
   have hkN : k = M := by omega
   subst hkN
   have hz := HBB.out
   have hno : ¬ ((k : Int) + 1 < (N : Int)) := by have := HBB.out; omega
   go_wp2_with fail
   go_ret
   exact ⟨_, rfl, out, HL.out.2.1, WiK.is HC.out (by have := HL.out.2.2; have := HN.out; rw [← this, ← HBB.out]; exact HL.out.2.2), HL.out.1⟩
  | succ gg =>
   have hk1 : k + 1 < C.length := by have := HN.out; have := HBB.out; omega
   have hkB : k < B.length := by have := HMB.out; omega
   have i1 : (k : Int) < (M : Int) := by omega
   have i2 : (k : Int) < (N : Int) := by have := HBB.out; omega
   have i3 : (k : Int) + 1 < (N : Int) := by have := HBB.out; omega
   have i0 : (0 : Int) ≤ (k : Int) := by omega
   have i4 : (0 : Int) ≤ (k : Int) + 1 := by omega
   obtain ⟨gb, ob, rfl, hgb, rb⟩ := HGB.out k hkB
   have cb : wr.cell? ⟨gb, ob + k, none⟩ = some (.bool B[k]) := by
    have := (range_same' rb (HL.out.1.block gb hgb)) 0 _ rfl
    rw [Nat.mul_one, Nat.add_zero] at this
    exact this
   have HBk : Hid (B[k] = g (C[k]).v) := HBG.out k hkB (by omega)
   clear rb
   generalize B[k] = bk at *
   cases bk with
   | false =>
    go_wp2_with fail
    go_roundg gg
    case measure => omega
    case rel => exact ⟨k + 1, out, by omega, congrArg (Value.int .i64) (by omega), ⟨HL.out.1, HL.out.2.1, WiK.no HC.out HL.out.2.2 hk1 HBk.out.symm⟩⟩
   | true =>
    obtain ⟨gc, oc, rfl, hgc, rc⟩ := HG.out k (by omega)
    have HCC : Hid (∀ yy, Below w.heap.size w yy → yy.cell? ⟨gc, oc + k, none⟩ = some (.string (str (C[k]).b)) ∧ yy.cell? ⟨gc, oc + (k + 1), none⟩ = some (.string (str (C[k + 1]).b))) := fun yy hy => by
     obtain ⟨gc', oc', e', _, rc1⟩ := HG.out (k + 1) hk1
     cases e'
     have h1 := (range_same' rc (hy.block gc hgc)) 0 _ rfl
     have h2 := (range_same' rc1 (hy.block gc hgc)) 0 _ rfl
     rw [Nat.mul_one, Nat.add_zero] at h1 h2
     exact ⟨h1, h2⟩
    clear rc
    have q1 : IntKind.i64.wrap ((k : Int) + 1) = (k : Int) + 1 := by rw [IntKind.wrap_i64]; omega
    have q3 : ((k : Int) + 1).toNat = k + 1 := by omega
    have hKy := HC.out.key k hk1
    have HW : Hid (WiK g C (k + 1) (stepW out C[k] C[k + 1] hKy)) := WiK.yes HC.out HL.out.2.2 hk1 HBk.out.symm
    have HOF : Hid (∀ y, Calls Tryz.prog 150 #[.string (str (C[k]).b), .string (str (C[k + 1]).b)] y fun e w' => e = .returned (spv (ofB C[k] C[k + 1] hKy)) ∧ Below y.heap.size y w') := fun y => rof_calls y C[k] C[k + 1] hKy
    have HLn : Hid (out.length ≤ 1000) := (by have := HL.out.2.2.len; have := HBB.out; omega : _ ≤ _)
    rcases List.eq_nil_or_concat out with rfl | ⟨I, s, rfl⟩
    · have hv : ∃ ad0 cap0, u5 = .slice ad0 0 cap0 := by
        rcases HL.out.2.1.2 with ⟨rfl, _⟩ | ⟨g, cap, cur, rfl, _⟩
        · exact ⟨_, _, rfl⟩
        · exact ⟨_, _, rfl⟩
      obtain ⟨ad0, cap0, rfl⟩ := hv
      have HST : Hid (stepW [] C[k] C[k + 1] hKy = [] ++ [ofB C[k] C[k + 1] hKy]) := (rfl : _ = _)
      go_upto_region 7 with fail
      refine wp_region_noPanic ?_
      refine wp_region_held_drew (S := (fun yy => Below w.heap.size w yy)) (by kernel_rfl) HL.out.1.drew (fun hh => ?_)
      refine tl ?_ 0 rfl hh ⟨by rfl, ?_⟩ ?_
      case refine_2 => (intro w hSw; go_simp; try with_reducible rfl)
      (try simp only [gs])
      refine tl ?_ 1 rfl hh ⟨by rfl, ?_⟩ ?_
      case refine_2 => (intro w hSw; go_simp; try with_reducible rfl)
      (try simp only [gs])
      refine tl ?_ 2 rfl hh ⟨by rfl, ?_⟩ ?_
      case refine_2 => (intro w hSw; go_simp; try with_reducible rfl)
      (try simp only [gs])
      refine tk (v := undef) 3 rfl hh (Or.inr ⟨by rfl, rfl⟩) ?_
      (try simp only [gs])
      refine tk (v := undef) 4 rfl hh (Or.inr ⟨by rfl, rfl⟩) ?_
      (try simp only [gs])
      refine tk (v := undef) 5 rfl hh (Or.inr ⟨by rfl, rfl⟩) ?_
      (try simp only [gs])
      refine tk (v := undef) 6 rfl hh (Or.inr ⟨by rfl, rfl⟩) ?_
      (try simp only [gs])
      refine tk (v := undef) 7 rfl hh (Or.inr ⟨by rfl, rfl⟩) ?_
      (try simp only [gs])
      refine tk (v := undef) 8 rfl hh (Or.inr ⟨by rfl, rfl⟩) ?_
      (try simp only [gs])
      refine tk (v := undef) 9 rfl hh (Or.inr ⟨by rfl, rfl⟩) ?_
      (try simp only [gs])
      refine tk (v := undef) 10 rfl hh (Or.inr ⟨by rfl, rfl⟩) ?_
      (try simp only [gs])
      refine tk (v := undef) 11 rfl hh (Or.inr ⟨by rfl, rfl⟩) ?_
      (try simp only [gs])
      refine tk (v := undef) 12 rfl hh (Or.inr ⟨by rfl, rfl⟩) ?_
      (try simp only [gs])
      refine tk (v := undef) 13 rfl hh (Or.inr ⟨by rfl, rfl⟩) ?_
      (try simp only [gs])
      refine tl ?_ 14 rfl hh ⟨by rfl, ?_⟩ ?_
      case refine_2 => (intro w hSw; go_simp; try with_reducible rfl)
      (try simp only [gs])
      refine wpAnyH_done (by kernel_rfl) ?_ _
      refine NoPanic.normal ?_
      have HO7 : Own encS 56 wr.drew w.heap.size (.slice ad0 0 cap0) [] := HL.out.2.1.below (Below.refl _ _).drew
      generalize wr.drew = y7 at *
      go_upto_region 9 with fail
      refine wp_region_noPanic ?_
      refine wp_region_held_drew (S := (fun yy => Below w.heap.size w yy)) (by kernel_rfl) hh.drew (fun hh => ?_)
      refine tl ?_ 0 rfl hh ⟨by rfl, ?_⟩ ?_
      case refine_2 => (intro w hSw; go_simp; try with_reducible rfl)
      (try simp only [gs])
      refine tl ?_ 1 rfl hh ⟨by rfl, ?_⟩ ?_
      case refine_2 => (intro w hSw; go_simp; try with_reducible rfl)
      (try simp only [gs])
      refine tl ?_ 2 rfl hh ⟨by rfl, ?_⟩ ?_
      case refine_2 => (intro w hSw; go_simp; try with_reducible rfl)
      (try simp only [gs])
      refine tl ?_ 3 rfl hh ⟨by rfl, ?_⟩ ?_
      case refine_2 => (intro w hSw; go_simp; try with_reducible rfl)
      (try simp only [gs])
      refine tl ?_ 4 rfl hh ⟨by rfl, ?_⟩ ?_
      case refine_2 => (intro w hSw; have c1 := (HCC.out _ hSw).1; go_simp; try with_reducible rfl)
      (try simp only [gs])
      refine tl ?_ 5 rfl hh ⟨by rfl, ?_⟩ ?_
      case refine_2 => (intro w hSw; go_simp; try with_reducible rfl)
      (try simp only [gs])
      refine tl ?_ 6 rfl hh ⟨by rfl, ?_⟩ ?_
      case refine_2 => (intro w hSw; go_simp; try with_reducible rfl)
      (try simp only [gs])
      refine tl ?_ 7 rfl hh ⟨by rfl, ?_⟩ ?_
      case refine_2 => (intro w hSw; go_simp; try with_reducible rfl)
      (try simp only [gs])
      refine tl ?_ 8 rfl hh ⟨by rfl, ?_⟩ ?_
      case refine_2 => (intro w hSw; go_simp; try with_reducible rfl)
      (try simp only [gs])
      refine tl ?_ 9 rfl hh ⟨by rfl, ?_⟩ ?_
      case refine_2 => (intro w hSw; have c1 := (HCC.out _ hSw).2; go_simp; try with_reducible rfl)
      (try simp only [gs])
      replace HO7 := HO7.below (Below.refl _ _).drew
      generalize y7.drew = y8 at *
      refine wpAnyH_ready (rs := [10]) (by kernel_rfl) (by simp) (AllReadyH.cons rfl (fun K hK => ?_) AllReadyH.nil)
      rw [if_pos (by rfl)]
      (try simp only [gs])
      go_simp
      refine (HOF.out _).mono ?_
      rintro e y9 ⟨rfl, b9⟩
      refine hK.out _ _ (hh.trans (b9.mono hh.size)) (fun hh => ?_)
      clear hK K
      (try simp only [gs])
      replace HO7 := HO7.below b9
      refine wpAnyH_ready (rs := [11]) (by kernel_rfl) (by simp) (AllReadyH.cons rfl (fun K hK => ?_) AllReadyH.nil)
      rw [if_pos (by rfl)]
      (try simp only [gs])
      refine wp_build_el1 rowS _ rfl (ofB C[k] C[k + 1] hKy) rfl (by decide) ?_
      intro y10 o10 b10 s10
      refine hK.out _ _ (hh.trans (b10.mono hh.size)) (fun hh => ?_)
      clear hK K
      (try simp only [gs])
      replace HO7 := HO7.below b10
      generalize y9.heap.size = g9 at *
      refine wpAnyH_ready (rs := [12]) (by kernel_rfl) (by simp) (AllReadyH.cons rfl (fun K hK => ?_) AllReadyH.nil)
      rw [if_pos (by rfl)]
      (try simp only [gs])
      refine wp_append_sl rowS _ _ rfl w.heap.size (.slice ad0 0 cap0) ([]) [ofB C[k] C[k + 1] hKy] rfl HO7 (.slice (some ⟨g9, 0, none⟩) 1 1) rfl _ o10.slB (by have := HLn.out; simp only [List.length_cons, List.length_nil]; omega) (by decide) hh.size ?_
      intro v11 y11 o11 g11
      refine hK.out _ _ (hh.grown g11 hh.size (fun j hj => (HO7.lt j hj).1)) (fun hh => ?_)
      clear hK K
      (try simp only [gs])
      refine tl ?_ 13 rfl hh ⟨by rfl, ?_⟩ ?_
      case refine_2 => (intro w hSw; go_simp; try with_reducible rfl)
      (try simp only [gs])
      refine wpAnyH_done (by kernel_rfl) ?_ _
      refine NoPanic.normal ?_
      rw [← HST.out] at o11
      go_wp2_with fail
      go_roundg gg
      case measure => omega
      case rel => exact ⟨k + 1, _, by omega, congrArg (Value.int .i64) (by omega), ⟨hh, o11, HW.out⟩⟩
    · rw [List.concat_eq_append] at *
      have hlen : (I ++ [s]).length = I.length + 1 := by simp
      obtain ⟨go, co, rfl, hco⟩ : ∃ g cap, u5 = .slice (some ⟨g, 0, none⟩) (I.length + 1) cap ∧ I.length + 1 ≤ cap := by
       rcases HL.out.2.1.2 with ⟨_, h0⟩ | ⟨g, cap, cur, hv, _, _, hn, hm, _⟩
       · simp at h0
       · exact ⟨g, cap, by rw [hv, hlen], by rw [hlen] at hn; exact hn⟩
      have HOW : Hid (Own encS 56 wr w.heap.size (.slice (some ⟨go, 0, none⟩) (I.length + 1) co) (I ++ [s])) := HL.out.2.1
      have HRA : Hid (wr.rangeAt go (I.length * 49) (encS.c s)) := own_lastAt HOW.out
      have HPUT : Hid (∀ y t, Own encS 56 y w.heap.size (.slice (some ⟨go, 0, none⟩) (I.length + 1) co) (I ++ [s]) → Own encS 56 (y.setCells go (I.length * 49) (encS.c t)) w.heap.size (.slice (some ⟨go, 0, none⟩) (I.length + 1) co) (I ++ [t]) ∧ y.grownBy (y.setCells go (I.length * 49) (encS.c t)) (some go)) := fun y t h => own_put h t
      have HTH : Hid (∀ y, Own encS 56 y w.heap.size (.slice (some ⟨go, 0, none⟩) (I.length + 1) co) (I ++ [s]) → y.there go (I.length * 49) 49) := fun y h => own_there h
      have HAT : Hid (∀ y t, Own encS 56 y w.heap.size (.slice (some ⟨go, 0, none⟩) (I.length + 1) co) (I ++ [t]) → y.rangeAt go (I.length * 49) (encS.c t)) := fun y t h => own_lastAt h
      have hgo := (HOW.out.lt go rfl).2
      have hmI : I.length + 1 ≤ 1000 := by have := HLn.out; rw [hlen] at this; exact this
      have j1 : ((I.length + 1 : Nat) : Int) - 1 = (I.length : Int) := by omega
      have j2 : (I.length : Int) < ((I.length + 1 : Nat) : Int) := by omega
      have j0 : (0 : Int) ≤ (I.length : Int) := by omega
      have j4 : IntKind.i64.wrap (I.length : Int) = (I.length : Int) := by rw [IntKind.wrap_i64]; omega
      have j5 : (I.length : Int) < (I.length : Int) + 1 := by omega
      have j3 : (0 : Int) < ((I.length + 1 : Nat) : Int) := by omega
      have HTO : Hid (∀ y, Calls Tryz.prog 148 #[spv s] y fun e w' => e = .returned (.string (str s.bt.b)) ∧ Below y.heap.size y w') := fun y => to_calls y s
      have hiS : (Tryz.prog.info? 56).map (·.size) = some (encS.c s).length := by rw [encS.len]; exact Tryz.span_info
      have heq : ((str s.bt.b).toList == (str (C[k]).b).toList) = decide (s.bt.v = (C[k]).v) := by rw [str_toList, str_toList]; exact Bd.eq_iff _ _
      by_cases hq : s.bt.v = (C[k]).v
      · rw [decide_eq_true hq] at heq
        have HST : Hid (stepW (I ++ [s]) C[k] C[k + 1] hKy = I ++ [ofB s.bf C[k + 1] s.hF]) := (by simp [stepW, hq] : _ = _)
        have HOS : Hid (∀ y, Calls Tryz.prog 150 #[.string (str s.F), .string (str (C[k + 1]).b)] y fun e w' => e = .returned (spv (ofB s.bf C[k + 1] s.hF)) ∧ Below y.heap.size y w') := fun y => rof_calls y s.bf C[k + 1] s.hF
        clear hq
        generalize I.length = m at *
        go_upto_region 7 with fail
        refine wp_region_noPanic ?_
        refine wp_region_held_drew (S := (fun yy => Below w.heap.size w yy ∧ yy.rangeAt go (m * 49) (encS.c s))) (by kernel_rfl) ⟨HL.out.1.drew, range_same' HRA.out rfl⟩ (fun hh => ?_)
        refine tl ?_ 0 rfl hh ⟨by rfl, ?_⟩ ?_
        case refine_2 => (intro w hSw; go_simp; try with_reducible rfl)
        (try simp only [gs])
        refine tl ?_ 1 rfl hh ⟨by rfl, ?_⟩ ?_
        case refine_2 => (intro w hSw; go_simp; try with_reducible rfl)
        (try simp only [gs])
        refine tl ?_ 2 rfl hh ⟨by rfl, ?_⟩ ?_
        case refine_2 => (intro w hSw; go_simp; try with_reducible rfl)
        (try simp only [gs])
        refine tl ?_ 3 rfl hh ⟨by rfl, ?_⟩ ?_
        case refine_2 => (intro w hSw; go_simp; try with_reducible rfl)
        (try simp only [gs])
        refine tl ?_ 4 rfl hh ⟨by rfl, ?_⟩ ?_
        case refine_2 => (intro w hSw; go_simp; try with_reducible rfl)
        (try simp only [gs])
        refine tl ?_ 5 rfl hh ⟨by rfl, ?_⟩ ?_
        case refine_2 => (intro w hSw; go_simp; try with_reducible rfl)
        (try simp only [gs])
        refine tl ?_ 6 rfl hh ⟨by rfl, ?_⟩ ?_
        case refine_2 => (intro w hSw; go_simp; try with_reducible rfl)
        (try simp only [gs])
        refine tk 7 rfl hh (yieldsIf_load_mid (by rfl) _ _ rfl _ _ rfl _ _ (fun _ h => h.2) Tryz.underlying56 rfl hiS) ?_
        (try simp only [gs])
        refine tl ?_ 9 rfl hh ⟨by rfl, ?_⟩ ?_
        case refine_2 => (intro w hSw; go_simp; try with_reducible rfl)
        (try simp only [gs])
        refine tl ?_ 10 rfl hh ⟨by rfl, ?_⟩ ?_
        case refine_2 => (intro w hSw; go_simp; try with_reducible rfl)
        (try simp only [gs])
        refine tl ?_ 11 rfl hh ⟨by rfl, ?_⟩ ?_
        case refine_2 => (intro w hSw; go_simp; try with_reducible rfl)
        (try simp only [gs])
        refine tl ?_ 12 rfl hh ⟨by rfl, ?_⟩ ?_
        case refine_2 => (intro w hSw; have c1 := (HCC.out _ hSw.1).1; go_simp; try with_reducible rfl)
        (try simp only [gs])
        refine wpAnyH_ready (rs := [8]) (by kernel_rfl) (by simp) (AllReadyH.cons rfl (fun K hK => ?_) AllReadyH.nil)
        rw [if_pos (by rfl)]
        (try simp only [gs])
        go_simp
        refine (HTO.out _).mono ?_
        rintro e y7 ⟨rfl, b⟩
        refine hK.out _ _ ⟨hh.1.trans (b.mono hh.1.size), range_same' hh.2 (b.block go hgo)⟩ (fun hh => ?_)
        clear hK K
        (try simp only [gs])
        refine tl ?_ 13 rfl hh ⟨by rfl, ?_⟩ ?_
        case refine_2 => (intro w hSw; go_simp; try with_reducible rfl)
        (try simp only [gs])
        refine tl ?_ 14 rfl hh ⟨by rfl, ?_⟩ ?_
        case refine_2 => (intro w hSw; go_simp; try with_reducible rfl)
        (try simp only [gs])
        refine wpAnyH_done (by kernel_rfl) ?_ _
        refine NoPanic.normal ?_
        have HO7 : Own encS 56 y7 w.heap.size (.slice (some ⟨go, 0, none⟩) (m + 1) co) (I ++ [s]) := (HOW.out.below (Below.refl _ _).drew).below b
        replace hh := hh.1
        go_upto_region 8 with fail
        refine wp_region_noPanic ?_
        refine wp_region_held_drew (S := (fun yy => Below w.heap.size w yy ∧ yy.rangeAt go (m * 49) (bc s.F))) (by kernel_rfl) ⟨hh.drew, range_same' (range_F (HAT.out _ _ HO7)) rfl⟩ (fun hh => ?_)
        refine tl ?_ 0 rfl hh ⟨by rfl, ?_⟩ ?_
        case refine_2 => (intro w hSw; go_simp; try with_reducible rfl)
        (try simp only [gs])
        refine tl ?_ 1 rfl hh ⟨by rfl, ?_⟩ ?_
        case refine_2 => (intro w hSw; go_simp; try with_reducible rfl)
        (try simp only [gs])
        refine tl ?_ 2 rfl hh ⟨by rfl, ?_⟩ ?_
        case refine_2 => (intro w hSw; go_simp; try with_reducible rfl)
        (try simp only [gs])
        refine tl ?_ 3 rfl hh ⟨by rfl, ?_⟩ ?_
        case refine_2 => (intro w hSw; go_simp; try with_reducible rfl)
        (try simp only [gs])
        refine tl ?_ 4 rfl hh ⟨by rfl, ?_⟩ ?_
        case refine_2 => (intro w hSw; go_simp; try with_reducible rfl)
        (try simp only [gs])
        refine tl ?_ 5 rfl hh ⟨by rfl, ?_⟩ ?_
        case refine_2 => (intro w hSw; go_simp; try with_reducible rfl)
        (try simp only [gs])
        refine tl ?_ 6 rfl hh ⟨by rfl, ?_⟩ ?_
        case refine_2 => (intro w hSw; go_simp; try with_reducible rfl)
        (try simp only [gs])
        refine tl ?_ 7 rfl hh ⟨by rfl, ?_⟩ ?_
        case refine_2 => (intro w hSw; go_simp; try with_reducible rfl)
        (try simp only [gs])
        refine tl ?_ 8 rfl hh ⟨by rfl, ?_⟩ ?_
        case refine_2 => (intro w hSw; go_simp; try with_reducible rfl)
        (try simp only [gs])
        refine tl ?_ 9 rfl hh ⟨by rfl, ?_⟩ ?_
        case refine_2 => (intro w hSw; have cv := conv_part hSw.2 s.hF 24; go_simp; try with_reducible rfl)
        (try simp only [gs])
        refine tl ?_ 10 rfl hh ⟨by rfl, ?_⟩ ?_
        case refine_2 => (intro w hSw; go_simp; try with_reducible rfl)
        (try simp only [gs])
        refine tl ?_ 11 rfl hh ⟨by rfl, ?_⟩ ?_
        case refine_2 => (intro w hSw; go_simp; try with_reducible rfl)
        (try simp only [gs])
        refine tl ?_ 12 rfl hh ⟨by rfl, ?_⟩ ?_
        case refine_2 => (intro w hSw; go_simp; try with_reducible rfl)
        (try simp only [gs])
        refine tl ?_ 13 rfl hh ⟨by rfl, ?_⟩ ?_
        case refine_2 => (intro w hSw; go_simp; try with_reducible rfl)
        (try simp only [gs])
        refine tl ?_ 14 rfl hh ⟨by rfl, ?_⟩ ?_
        case refine_2 => (intro w hSw; have c1 := (HCC.out _ hSw.1).2; go_simp; try with_reducible rfl)
        (try simp only [gs])
        replace HO7 := HO7.below (Below.refl _ _).drew
        generalize y7.drew = y8 at *
        have hgo8 := (HO7.lt go rfl).2
        refine wpAnyH_ready (rs := [15]) (by kernel_rfl) (by simp) (AllReadyH.cons rfl (fun K hK => ?_) AllReadyH.nil)
        rw [if_pos (by rfl)]
        (try simp only [gs])
        go_simp
        refine (HOS.out _).mono ?_
        rintro e y9 ⟨rfl, b9⟩
        refine hK.out _ _ ⟨hh.1.trans (b9.mono hh.1.size), range_same' hh.2 (b9.block go hgo8)⟩ (fun hh => ?_)
        clear hK K
        (try simp only [gs])
        refine tl ?_ 16 rfl hh ⟨by rfl, ?_⟩ ?_
        case refine_2 => (intro w hSw; go_simp; try with_reducible rfl)
        (try simp only [gs])
        obtain ⟨p1, p2⟩ := HPUT.out _ (ofB s.bf C[k + 1] s.hF) (HO7.below b9)
        have pB : Below w.heap.size w _ := hh.1.grown p2 hh.1.size (fun j hj => (p1.lt j hj).1)
        refine wpAnyH_ready (rs := [17]) (by kernel_rfl) (by simp) (AllReadyH.cons rfl (fun K hK => ?_) AllReadyH.nil)
        rw [if_pos (by rfl)]
        (try simp only [gs])
        refine wp_store_mid _ _ _ rfl go (m * 49) (encS.c (ofB s.bf C[k + 1] s.hF)).toArray rfl rfl (by rw [List.size_toArray, encS.len]; exact HTH.out _ (HO7.below b9)) (by rw [List.size_toArray, encS.len]; exact Tryz.span_info) (all_oneCell_toArray (encS.one _)) ?_
        refine hK.out _ _ ⟨pB, ofB_F s C[k + 1] ▸ range_F (HAT.out _ _ p1)⟩ (fun hh => ?_)
        clear hK K
        (try simp only [gs])
        refine wpAnyH_done (by kernel_rfl) ?_ _
        refine NoPanic.normal ?_
        have o11 := p1
        rw [← HST.out] at o11
        go_wp2_with fail
        go_roundg gg
        case measure => omega
        case rel => exact ⟨k + 1, _, by omega, congrArg (Value.int .i64) (by omega), ⟨pB, o11, HW.out⟩⟩
      · rw [decide_eq_false hq] at heq
        have HST : Hid (stepW (I ++ [s]) C[k] C[k + 1] hKy = (I ++ [s]) ++ [ofB C[k] C[k + 1] hKy]) := (by simp [stepW, hq] : _ = _)
        clear hq
        generalize I.length = m at *
        go_upto_region 7 with fail
        refine wp_region_noPanic ?_
        refine wp_region_held_drew (S := (fun yy => Below w.heap.size w yy ∧ yy.rangeAt go (m * 49) (encS.c s))) (by kernel_rfl) ⟨HL.out.1.drew, range_same' HRA.out rfl⟩ (fun hh => ?_)
        refine tl ?_ 0 rfl hh ⟨by rfl, ?_⟩ ?_
        case refine_2 => (intro w hSw; go_simp; try with_reducible rfl)
        (try simp only [gs])
        refine tl ?_ 1 rfl hh ⟨by rfl, ?_⟩ ?_
        case refine_2 => (intro w hSw; go_simp; try with_reducible rfl)
        (try simp only [gs])
        refine tl ?_ 2 rfl hh ⟨by rfl, ?_⟩ ?_
        case refine_2 => (intro w hSw; go_simp; try with_reducible rfl)
        (try simp only [gs])
        refine tl ?_ 3 rfl hh ⟨by rfl, ?_⟩ ?_
        case refine_2 => (intro w hSw; go_simp; try with_reducible rfl)
        (try simp only [gs])
        refine tl ?_ 4 rfl hh ⟨by rfl, ?_⟩ ?_
        case refine_2 => (intro w hSw; go_simp; try with_reducible rfl)
        (try simp only [gs])
        refine tl ?_ 5 rfl hh ⟨by rfl, ?_⟩ ?_
        case refine_2 => (intro w hSw; go_simp; try with_reducible rfl)
        (try simp only [gs])
        refine tl ?_ 6 rfl hh ⟨by rfl, ?_⟩ ?_
        case refine_2 => (intro w hSw; go_simp; try with_reducible rfl)
        (try simp only [gs])
        refine tk 7 rfl hh (yieldsIf_load_mid (by rfl) _ _ rfl _ _ rfl _ _ (fun _ h => h.2) Tryz.underlying56 rfl hiS) ?_
        (try simp only [gs])
        refine tl ?_ 9 rfl hh ⟨by rfl, ?_⟩ ?_
        case refine_2 => (intro w hSw; go_simp; try with_reducible rfl)
        (try simp only [gs])
        refine tl ?_ 10 rfl hh ⟨by rfl, ?_⟩ ?_
        case refine_2 => (intro w hSw; go_simp; try with_reducible rfl)
        (try simp only [gs])
        refine tl ?_ 11 rfl hh ⟨by rfl, ?_⟩ ?_
        case refine_2 => (intro w hSw; go_simp; try with_reducible rfl)
        (try simp only [gs])
        refine tl ?_ 12 rfl hh ⟨by rfl, ?_⟩ ?_
        case refine_2 => (intro w hSw; have c1 := (HCC.out _ hSw.1).1; go_simp; try with_reducible rfl)
        (try simp only [gs])
        refine wpAnyH_ready (rs := [8]) (by kernel_rfl) (by simp) (AllReadyH.cons rfl (fun K hK => ?_) AllReadyH.nil)
        rw [if_pos (by rfl)]
        (try simp only [gs])
        go_simp
        refine (HTO.out _).mono ?_
        rintro e y7 ⟨rfl, b⟩
        refine hK.out _ _ ⟨hh.1.trans (b.mono hh.1.size), range_same' hh.2 (b.block go hgo)⟩ (fun hh => ?_)
        clear hK K
        (try simp only [gs])
        refine tl ?_ 13 rfl hh ⟨by rfl, ?_⟩ ?_
        case refine_2 => (intro w hSw; go_simp; try with_reducible rfl)
        (try simp only [gs])
        refine tl ?_ 14 rfl hh ⟨by rfl, ?_⟩ ?_
        case refine_2 => (intro w hSw; go_simp; try with_reducible rfl)
        (try simp only [gs])
        refine wpAnyH_done (by kernel_rfl) ?_ _
        refine NoPanic.normal ?_
        have HO7 : Own encS 56 y7 w.heap.size (.slice (some ⟨go, 0, none⟩) (m + 1) co) (I ++ [s]) := (HOW.out.below (Below.refl _ _).drew).below b
        replace hh := hh.1
        go_upto_region 9 with fail
        refine wp_region_noPanic ?_
        refine wp_region_held_drew (S := (fun yy => Below w.heap.size w yy)) (by kernel_rfl) hh.drew (fun hh => ?_)
        refine tl ?_ 0 rfl hh ⟨by rfl, ?_⟩ ?_
        case refine_2 => (intro w hSw; go_simp; try with_reducible rfl)
        (try simp only [gs])
        refine tl ?_ 1 rfl hh ⟨by rfl, ?_⟩ ?_
        case refine_2 => (intro w hSw; go_simp; try with_reducible rfl)
        (try simp only [gs])
        refine tl ?_ 2 rfl hh ⟨by rfl, ?_⟩ ?_
        case refine_2 => (intro w hSw; go_simp; try with_reducible rfl)
        (try simp only [gs])
        refine tl ?_ 3 rfl hh ⟨by rfl, ?_⟩ ?_
        case refine_2 => (intro w hSw; go_simp; try with_reducible rfl)
        (try simp only [gs])
        refine tl ?_ 4 rfl hh ⟨by rfl, ?_⟩ ?_
        case refine_2 => (intro w hSw; have c1 := (HCC.out _ hSw).1; go_simp; try with_reducible rfl)
        (try simp only [gs])
        refine tl ?_ 5 rfl hh ⟨by rfl, ?_⟩ ?_
        case refine_2 => (intro w hSw; go_simp; try with_reducible rfl)
        (try simp only [gs])
        refine tl ?_ 6 rfl hh ⟨by rfl, ?_⟩ ?_
        case refine_2 => (intro w hSw; go_simp; try with_reducible rfl)
        (try simp only [gs])
        refine tl ?_ 7 rfl hh ⟨by rfl, ?_⟩ ?_
        case refine_2 => (intro w hSw; go_simp; try with_reducible rfl)
        (try simp only [gs])
        refine tl ?_ 8 rfl hh ⟨by rfl, ?_⟩ ?_
        case refine_2 => (intro w hSw; go_simp; try with_reducible rfl)
        (try simp only [gs])
        refine tl ?_ 9 rfl hh ⟨by rfl, ?_⟩ ?_
        case refine_2 => (intro w hSw; have c1 := (HCC.out _ hSw).2; go_simp; try with_reducible rfl)
        (try simp only [gs])
        replace HO7 := HO7.below (Below.refl _ _).drew
        generalize y7.drew = y8 at *
        refine wpAnyH_ready (rs := [10]) (by kernel_rfl) (by simp) (AllReadyH.cons rfl (fun K hK => ?_) AllReadyH.nil)
        rw [if_pos (by rfl)]
        (try simp only [gs])
        go_simp
        refine (HOF.out _).mono ?_
        rintro e y9 ⟨rfl, b9⟩
        refine hK.out _ _ (hh.trans (b9.mono hh.size)) (fun hh => ?_)
        clear hK K
        (try simp only [gs])
        replace HO7 := HO7.below b9
        refine wpAnyH_ready (rs := [11]) (by kernel_rfl) (by simp) (AllReadyH.cons rfl (fun K hK => ?_) AllReadyH.nil)
        rw [if_pos (by rfl)]
        (try simp only [gs])
        refine wp_build_el1 rowS _ rfl (ofB C[k] C[k + 1] hKy) rfl (by decide) ?_
        intro y10 o10 b10 s10
        refine hK.out _ _ (hh.trans (b10.mono hh.size)) (fun hh => ?_)
        clear hK K
        (try simp only [gs])
        replace HO7 := HO7.below b10
        generalize y9.heap.size = g9 at *
        refine wpAnyH_ready (rs := [12]) (by kernel_rfl) (by simp) (AllReadyH.cons rfl (fun K hK => ?_) AllReadyH.nil)
        rw [if_pos (by rfl)]
        (try simp only [gs])
        refine wp_append_sl rowS _ _ rfl w.heap.size (.slice (some ⟨go, 0, none⟩) (m + 1) co) (I ++ [s]) [ofB C[k] C[k + 1] hKy] rfl HO7 (.slice (some ⟨g9, 0, none⟩) 1 1) rfl _ o10.slB (by have := HLn.out; simp only [List.length_cons, List.length_nil]; omega) (by decide) hh.size ?_
        intro v11 y11 o11 g11
        refine hK.out _ _ (hh.grown g11 hh.size (fun j hj => (HO7.lt j hj).1)) (fun hh => ?_)
        clear hK K
        (try simp only [gs])
        refine tl ?_ 13 rfl hh ⟨by rfl, ?_⟩ ?_
        case refine_2 => (intro w hSw; go_simp; try with_reducible rfl)
        (try simp only [gs])
        refine wpAnyH_done (by kernel_rfl) ?_ _
        refine NoPanic.normal ?_
        rw [← HST.out] at o11
        go_wp2_with fail
        go_roundg gg
        case measure => omega
        case rel => exact ⟨k + 1, _, by omega, congrArg (Value.int .i64) (by omega), ⟨hh, o11, HW.out⟩⟩
end
end Go.Proofs.YtdmindhjmjnagaaGreatDoor
