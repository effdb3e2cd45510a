import Derived.Test.YtdmindhjmjnagaaGreatDoorSi
import Derived.Test.YtdmindhjmjnagaaGreatDoorB01
import Derived.Test.YtdmindhjmjnagaaGreatDoorB37
import Derived.Test.YtdmindhjmjnagaaGreatDoorB36
/- X9P X9Q Rv12 Rvo -/
namespace Go.Proofs.YtdmindhjmjnagaaGreatDoor
set_option linter.unusedVariables false
set_option maxRecDepth 1000000
set_option maxHeartbeats 32000000
section
open Go.RowKit
def NewV (B : Nat) (v : Value) : Prop := ∀ g, v.ownBlock = some g → B ≤ g
theorem Own.newV {α : Type} {k : Nat} {E : Enc α k} {ty : TypeId} {w : World} {base B : Nat} {v : Value} {l : List α} (h : Own E ty w base v l) (hB : B ≤ base) : NewV B v := fun g hg => Nat.le_trans hB (h.lt g hg).1
theorem rmapN_calls (w : World) (u : Value) (l : List Pa) (h : Sl encP w u l) (hl : l.length ≤ 5000) :
    Calls Tryz.prog 27 #[u] w fun e w' => ∃ v m, e = .returned v ∧ (Sl encP w' v m ∧ NewV w.heap.size v) ∧ MapIs l m ∧ m.length ≤ l.length ∧ Below w.heap.size w w' := by
 have hl' := h
 obtain ⟨ad, cap, rfl, hcap, hmax, hn0, hn1⟩ := hl'
 clear hn0 hn1
 have HI : Hid (∀ i (hi : i < l.length), ∃ g off, ad = some ⟨g, off, none⟩ ∧ g < w.heap.size ∧ w.rangeAt g (off + i * 25) (encP.c l[i])) := fun i hi => SlB.at h i hi
 clear h
 obtain ⟨N, hN⟩ : ∃ N : Nat, N = l.length := ⟨_, rfl⟩
 have HN : Hid (N = l.length) := hN
 rw [← hN] at hcap hmax hl ⊢
 clear hN
 have HST : Hid (Below w.heap.size w w ∧ Sl encP w (.slice none 0 0) ((l.take 0).foldl (putA Pa.n) []) ∧ NewV w.heap.size (.slice none 0 0)) := ⟨Below.refl _ _, SlB.nil _ _ _, fun g hg => (by cases hg)⟩
 go_enter Tryz.func27, Tryz.ntmps27
 go_wp2_with fail
 go_loopg [3, 4] N (fun g s3 i wr => ∃ k : Nat, k + g = N ∧ i = .int .i64 (k : Int) ∧ Hid (Below w.heap.size w wr ∧ Sl encP wr s3 ((l.take k).foldl (putA Pa.n) []) ∧ NewV w.heap.size s3))
 case atStart => exact ⟨0, by omega, rfl, HST.out⟩
 case round =>
  obtain ⟨k, hkg, rfl, HE⟩ := hrel
  clear HST
  cases gk with
  | zero =>
   have hkN : k = N := by omega
   subst hkN
   go_wp2_with fail
   go_ret
   have hE := HE.out
   rw [List.take_of_length_le (by have := HN.out; omega)] at hE
   exact ⟨_, _, rfl, hE.2, map_is l, by have := puts_len0 Pa.n l; have := HN.out; omega, hE.1⟩
  | succ g =>
   have hltI : (k : Int) < (N : Int) := by omega
   have hkl : k < l.length := by have := HN.out; omega
   obtain ⟨g0, off, rfl, hg0, hat⟩ := HI.out k hkl
   have hr1 : wr.rangeAt g0 (off + k * 25) (encP.c l[k]) := range_same' hat (HE.out.1.block g0 hg0)
   have HTK : Hid ((l.take (k + 1)).foldl (putA Pa.n) [] = putA Pa.n ((l.take k).foldl (putA Pa.n) []) l[k]) := puts_take Pa.n l k hkl
   have hlen : ((l.take k).foldl (putA Pa.n) []).length ≤ 5000 := by have := puts_len0 Pa.n (l.take k); simp at this; omega
   generalize l[k] = p at *
   generalize (l.take k).foldl (putA Pa.n) [] = L at *
   have hP := put9_calls wr u3 L p HE.out.2.1 (by omega)
   have HB : Hid (Below w.heap.size w wr) := HE.out.1
   clear hat hkl HE HI
   go_wp2_with (first
    | (refine load_el elP _ rfl g0 (off + k * 25) rfl rfl p hr1 ?_)
    | (go_at_call 64; refine hP.mono ?_; clear hP; rintro e w1 ⟨v1, rfl, o1, b1⟩))
   go_roundg g
   case measure => omega
   case rel => exact ⟨k + 1, by omega, congrArg (Value.int .i64) (by omega), (show Below w.heap.size w w1 ∧ Sl encP w1 v1 ((l.take (k + 1)).foldl (putA Pa.n) []) ∧ NewV w.heap.size v1 from ⟨HB.out.trans (b1.mono HB.out.size), by rw [HTK.out]; exact o1.slB, o1.newV HB.out.size⟩)⟩
theorem rapplyN_calls (w : World) (u uc : Value) (l : List Pa) (c : List Ch) (h : Sl encP w u l) (hc : Sl encC w uc c) (hl : l.length ≤ 2000) (hcl : c.length ≤ 2000) :
    Calls Tryz.prog 116 #[u, uc] w fun e w' => ∃ v m, e = .returned v ∧ (Sl encP w' v m ∧ NewV w.heap.size v) ∧ ApplyIs l c m ∧ m.length ≤ l.length + c.length ∧ Below w.heap.size w w' := by
 have hM := rmapN_calls w u l h (by omega)
 have hc' := hc
 obtain ⟨ad, cap, rfl, hcap, hmax, hn0, hn1⟩ := hc'
 clear hn0 hn1 h
 have HI : Hid (∀ i (hi : i < c.length), ∃ g off, ad = some ⟨g, off, none⟩ ∧ g < w.heap.size ∧ w.rangeAt g (off + i * 26) (encC.c c[i])) := fun i hi => SlB.at hc i hi
 clear hc
 obtain ⟨N, hN⟩ : ∃ N : Nat, N = c.length := ⟨_, rfl⟩
 have HN : Hid (N = c.length) := hN
 rw [← hN] at hcap hmax hcl ⊢
 clear hN
 have hInfo : ∀ p : Ch, (Tryz.prog.info? 54).map (·.size) = some (bc p.k).length := fun p => by rw [bc_length, p.h]; exact Tryz.key_info
 go_enter Tryz.func116, Tryz.ntmps116
 go_wp2_with (first
  | (go_at_call 27; refine hM.mono ?_; clear hM; rintro e w0 ⟨v0, M, rfl, s0, i0, l0, b0⟩))
 have HST : Hid (Below w.heap.size w w0 ∧ Sl encP w0 v0 ((c.take 0).foldl stepA M) ∧ NewV w.heap.size v0) := ⟨b0, s0.1, s0.2⟩
 have HMI : Hid (MapIs l M ∧ M.length ≤ l.length) := ⟨i0, l0⟩
 clear s0 b0 i0 l0
 go_loopg [5, 6] N (fun g s5 i wr => ∃ k : Nat, k + g = N ∧ i = .int .i64 (k : Int) ∧ Hid (Below w.heap.size w wr ∧ Sl encP wr s5 ((c.take k).foldl stepA M) ∧ NewV w.heap.size s5))
 case atStart => exact ⟨0, by omega, rfl, HST.out⟩
 case round =>
  obtain ⟨k, hkg, rfl, HE⟩ := hrel
  clear HST
  cases gk with
  | zero =>
   have hkN : k = N := by omega
   subst hkN
   go_wp2_with fail
   go_ret
   have hE := HE.out
   rw [List.take_of_length_le (by have := HN.out; omega)] at hE
   exact ⟨_, _, rfl, hE.2, apply_is HMI.out.1 c, by have := steps_len c M; have := HN.out; have := HMI.out.2; omega, hE.1⟩
  | succ g =>
   have hltI : (k : Int) < (N : Int) := by omega
   have hk0 : (0 : Int) ≤ (k : Int) := by omega
   have hkl : k < c.length := by have := HN.out; omega
   obtain ⟨g0, off, rfl, hg0, hat⟩ := HI.out k hkl
   have hr1 : wr.rangeAt g0 (off + k * 26) (encC.c c[k]) := range_same' hat (HE.out.1.block g0 hg0)
   have HAT : Hid (w.rangeAt g0 (off + k * 26) (encC.c c[k])) := hat
   have HTK : Hid ((c.take (k + 1)).foldl stepA M = stepA ((c.take k).foldl stepA M) c[k]) := steps_take c M k hkl
   have hlen : ((c.take k).foldl stepA M).length ≤ 4000 := by have h1 := steps_len (c.take k) M; have h2 := HMI.out.2; simp at h1; omega
   generalize c[k] = p at *
   generalize (c.take k).foldl stepA M = L at *
   have hF := find9_calls wr u5 L p.kz HE.out.2.1 (by omega)
   clear hat hkl HI
   go_upto_region 6 with (first
    | (refine load_part _ rfl g0 (off + k * 26) rfl rfl _ p.h (range_kC hr1) ?_)
    | (go_at_call 103; refine hF.mono ?_; clear hF; rintro e w1 ⟨rfl, b1⟩))
   have HB1 : Hid (Below w.heap.size w w1 ∧ Sl encP w1 u5 L) := ⟨HE.out.1.trans (b1.mono HE.out.1.size), HE.out.2.1.called b1⟩
   have HNV : Hid (NewV w.heap.size u5) := HE.out.2.2
   have hr2 : w1.rangeAt g0 (off + k * 26) (encC.c p) := range_same' HAT.out (HB1.out.1.block g0 hg0)
   obtain ⟨cv, cg⟩ := range_vC hr2
   have hpos := posA_le Pa.n L p.kz.n
   have HDA : Hid (delA Pa.n L p.n = if hitA Pa.n L p.kz.n then L.take (posA Pa.n L p.kz.n) ++ L.drop (posA Pa.n L p.kz.n + 1) else L) := delA_at Pa.n L p.n
   have HLT : Hid (hitA Pa.n L p.kz.n = true → posA Pa.n L p.kz.n < L.length) := fun q => by
    unfold hitA at q
    rw [decide_eq_true_eq] at q
    cases e : L[posA Pa.n L p.kz.n]? with
    | none => rw [e] at q; cases q
    | some y => exact (List.getElem?_eq_some_iff.1 e).1
   clear HE hr1 b1
   generalize posA Pa.n L p.kz.n = P at *
   cases hpg : p.g with
   | false =>
    rw [hpg] at cg
    have HSA : Hid (stepA L p = putA Pa.n L p.pa) := (show _ = _ by unfold stepA; rw [if_neg (by rw [hpg]; simp)])
    have HR : Hid (w1.rangeAt g0 (off + k * 26) (bc p.k) ∧ w1.cell? ⟨g0, off + k * 26 + 24, none⟩ = some (.string (str p.v))) := ⟨range_kC hr2, cv⟩
    clear HDA HLT hr2 hpg
    go_upto_region 7 with fail
    refine wp_region_noPanic ?_
    refine wp_region_held_drew (S := (fun yy => yy.rangeAt g0 (off + k * 26) (bc p.k) ∧ yy.cell? ⟨g0, off + k * 26 + 24, none⟩ = some (.string (str p.v)))) (by kernel_rfl) HR.out (fun hh => ?_)
    refine tl ?_ 0 rfl hh ⟨by rfl, ?_⟩ ?_
    case refine_2 => (intro w hSw; go_simp; try with_reducible rfl)
    (try simp only [gs])
    refine tl ?_ 1 rfl hh ⟨by rfl, ?_⟩ ?_
    case refine_2 => (intro w hSw; go_simp; try with_reducible rfl)
    (try simp only [gs])
    refine tl ?_ 2 rfl hh ⟨by rfl, ?_⟩ ?_
    case refine_2 => (intro w hSw; go_simp; try with_reducible rfl)
    (try simp only [gs])
    refine tl ?_ 3 rfl hh ⟨by rfl, ?_⟩ ?_
    case refine_2 => (intro w hSw; go_simp; try with_reducible rfl)
    (try simp only [gs])
    refine tl ?_ 4 rfl hh ⟨by rfl, ?_⟩ ?_
    case refine_2 => (intro w hSw; go_simp; try with_reducible rfl)
    (try simp only [gs])
    refine tk 5 rfl hh (yieldsIf_load_mid (by rfl) _ _ rfl _ _ rfl _ _ (fun _ h => h.1) Tryz.underlying54 rfl (hInfo p)) ?_
    (try simp only [gs])
    refine tl ?_ 6 rfl hh ⟨by rfl, ?_⟩ ?_
    case refine_2 => (intro w hSw; obtain ⟨_, hS1⟩ := hSw; go_simp; try with_reducible rfl)
    (try simp only [gs])
    refine tl ?_ 7 rfl hh ⟨by rfl, ?_⟩ ?_
    case refine_2 => (intro w hSw; obtain ⟨_, hS1⟩ := hSw; go_simp; try with_reducible rfl)
    (try simp only [gs])
    refine tl ?_ 8 rfl hh ⟨by rfl, ?_⟩ ?_
    case refine_2 => (intro w hSw; obtain ⟨_, hS1⟩ := hSw; go_simp; try with_reducible rfl)
    (try simp only [gs])
    refine tl ?_ 9 rfl hh ⟨by rfl, ?_⟩ ?_
    case refine_2 => (intro w hSw; obtain ⟨_, hS1⟩ := hSw; go_simp; try with_reducible rfl)
    (try simp only [gs])
    refine tl ?_ 10 rfl hh ⟨by rfl, ?_⟩ ?_
    case refine_2 => (intro w hSw; obtain ⟨_, hS1⟩ := hSw; go_simp; try with_reducible rfl)
    (try simp only [gs])
    refine tk (v := .agg (encP.c p.pa).toArray) 11 rfl hh (Or.inl ⟨by rfl, fun w _ => exec_build rfl (by simp only [List.map_toArray, List.map_cons, List.map_nil]; exact built_p p.pa) w⟩) ?_
    (try simp only [gs])
    have HB0 : Hid (Below w.heap.size w w1.drew ∧ Sl encP w1.drew u5 L ∧ w1.drew.rangeAt g0 (off + k * 26) (bc p.k) ∧ w1.drew.cell? ⟨g0, off + k * 26 + 24, none⟩ = some (.string (str p.v))) := ⟨HB1.out.1.drew, HB1.out.2.called ⟨rfl, rfl, rfl, Nat.le_refl _, fun _ _ => rfl⟩, HR.out⟩
    have hP := put9_calls w1.drew u5 L p.pa HB0.out.2.1 (by omega)
    clear HB1 HR cv
    generalize w1.drew = y0 at *
    refine wpAnyH_ready (rs := [12]) (by kernel_rfl) (by simp) (AllReadyH.cons rfl (fun K hK => ?_) AllReadyH.nil)
    rw [if_pos (by rfl)]
    (try simp only [gs])
    go_simp
    refine hP.mono ?_
    rintro e y1 ⟨v7, rfl, o7, c1⟩
    have hg1 : g0 < y0.heap.size := Nat.lt_of_lt_of_le hg0 HB0.out.1.size
    have HB2 : Hid (Below w.heap.size w y1 ∧ Sl encP y1 v7 (putA Pa.n L p.pa) ∧ NewV w.heap.size v7) := ⟨HB0.out.1.trans (c1.mono HB0.out.1.size), o7.slB, o7.newV HB0.out.1.size⟩
    refine hK.out _ _ ⟨range_same' HB0.out.2.2.1 (c1.block g0 hg1), (c1.cell (p := ⟨g0, off + k * 26 + 24, none⟩) hg1).trans HB0.out.2.2.2⟩ (fun hh => ?_)
    clear hK K c1 HB0 hg1 hP o7
    (try simp only [gs])
    refine tl ?_ 13 rfl hh ⟨by rfl, ?_⟩ ?_
    case refine_2 => (intro w hSw; go_simp; try with_reducible rfl)
    (try simp only [gs])
    refine wpAnyH_done (by kernel_rfl) ?_ _
    refine NoPanic.normal ?_
    go_wp2_with fail
    go_roundg g
    case measure => omega
    case rel => exact ⟨k + 1, by omega, congrArg (Value.int .i64) (by omega), (show Below w.heap.size w y1 ∧ Sl encP y1 v7 ((c.take (k + 1)).foldl stepA M) ∧ NewV w.heap.size v7 from ⟨HB2.out.1, by rw [HTK.out, HSA.out]; exact HB2.out.2.1, HB2.out.2.2⟩)⟩
   | true =>
    rw [hpg] at cg
    have HSA : Hid (stepA L p = delA Pa.n L p.n) := (show _ = _ by unfold stepA; rw [if_pos hpg])
    cases hh : hitA Pa.n L p.kz.n with
    | false =>
     have hd := HDA.out
     rw [hh] at hd
     have HD2 : Hid (stepA L p = L) := (show _ = _ by rw [HSA.out, hd]; rfl)
     clear HDA HLT hpg hd hh hr2 cv
     go_wp2_with fail
     go_roundg g
     case measure => omega
     case rel => exact ⟨k + 1, by omega, congrArg (Value.int .i64) (by omega), (show Below w.heap.size w w1 ∧ Sl encP w1 u5 ((c.take (k + 1)).foldl stepA M) ∧ NewV w.heap.size u5 from ⟨HB1.out.1, by rw [HTK.out, HD2.out]; exact HB1.out.2, HNV.out⟩)⟩
    | true =>
     have hd := HDA.out
     rw [hh] at hd
     have HD2 : Hid (stepA L p = L.take P ++ L.drop (P + 1)) := (show _ = _ by rw [HSA.out, hd]; rfl)
     have hPL := HLT.out hh
     obtain ⟨ad5, cp5, e5, hc5, hm5⟩ := sl_form HB1.out.2
     subst e5
     have T0 : SlB encP w1 w1.heap.size (.slice ad5 P cp5) (L.take P) := SlB.take HB1.out.2 P (by omega)
     obtain ⟨aq, haq⟩ : ∃ aq, (if cp5 = P + 1 then ad5 else ad5.map (·.add ((P + 1) * 25))) = aq := ⟨_, rfl⟩
     have D0 : SlB encP w1 w1.heap.size (.slice aq (L.length - (P + 1)) (cp5 - (P + 1))) (L.drop (P + 1)) := by rw [← haq]; exact SlB.drop HB1.out.2 (P + 1) (by omega)
     have HLL : Hid ((L.take P).length ≤ 4000 ∧ (L.drop (P + 1)).length ≤ 4000) := ⟨by simp; omega, by simp; omega⟩
     generalize hNL : L.length = NL at *
     have hPc : (P : Int) ≤ (cp5 : Int) := by omega
     have hP0 : (0 : Int) ≤ (P : Int) := by omega
     have hPN1 : ((P + 1 : Nat) : Int) ≤ (NL : Int) := by omega
     have hPc1 : (P : Int) + 1 ≤ (cp5 : Int) := by omega
     have hPn1 : (P : Int) + 1 ≤ (NL : Int) := by omega
     have hwr : IntKind.i64.wrap ((P : Int) + 1) = (P : Int) + 1 := by rw [IntKind.wrap_i64]; omega
     have htn : ((P : Int) + 1).toNat = P + 1 := by omega
     have hP10 : (0 : Int) ≤ (P : Int) + 1 := by omega
     generalize L.take P = I at *
     generalize L.drop (P + 1) = J at *
     clear HDA HLT hpg hd hh hr2 cv hNL
     go_upto_region 9 with fail
     refine wp_region_noPanic ?_
     refine wp_region_held_drew (S := (fun yy => Below w1.heap.size w1 yy)) (by kernel_rfl) (Below.refl _ _).drew (fun hh => ?_)
     refine tl ?_ 1 rfl hh ⟨by rfl, ?_⟩ ?_
     case refine_2 => (intro w hSw; go_simp; try with_reducible rfl)
     (try simp only [gs])
     refine tl ?_ 2 rfl hh ⟨by rfl, ?_⟩ ?_
     case refine_2 => (intro w hSw; go_simp; try with_reducible rfl)
     (try simp only [gs])
     refine tl ?_ 3 rfl hh ⟨by rfl, ?_⟩ ?_
     case refine_2 => (intro w hSw; go_simp; try with_reducible rfl)
     (try simp only [gs])
     refine tl ?_ 5 rfl hh ⟨by rfl, ?_⟩ ?_
     case refine_2 => (intro w hSw; go_simp; try with_reducible rfl)
     (try simp only [gs])
     refine tl ?_ 6 rfl hh ⟨by rfl, ?_⟩ ?_
     case refine_2 => (intro w hSw; go_simp; try with_reducible rfl)
     (try simp only [gs])
     refine tl ?_ 7 rfl hh ⟨by rfl, ?_⟩ ?_
     case refine_2 => (intro w hSw; go_simp; try with_reducible rfl)
     (try simp only [gs])
     refine tl ?_ 8 rfl hh ⟨by rfl, ?_⟩ ?_
     case refine_2 => (intro w hSw; go_simp; try with_reducible rfl)
     (try simp only [gs])
     generalize w1.drew = y0 at *
     refine wpAnyH_ready (rs := [0]) (by kernel_rfl) (by simp) (AllReadyH.cons rfl (fun K hK => ?_) AllReadyH.nil)
     rw [if_pos (by rfl)]
     (try simp only [gs])
     go_simp
     have b0 : Below y0.heap.size y0 (y0.alloc (.cells #[] 62)) := (Below.refl _ _).alloc (Nat.le_refl _) _
     have oE : Own encP 62 (y0.alloc (.cells #[] 62)) w1.heap.size (.slice (some ⟨y0.heap.size, 0, none⟩) 0 0) [] := World.ownsRow_made (base := w1.heap.size) (e := 62) (size := 25) y0 #[] 0 hh.size (by unfold maxLen; omega) rfl
     have hgE : w1.heap.size ≤ y0.heap.size := hh.size
     refine hK.out _ _ (hh.trans (b0.mono hh.size)) (fun hh => ?_)
     clear hK K
     (try simp only [gs])
     generalize hg0 : y0.heap.size = gE at *
     clear hg0
     generalize y0.alloc (.cells #[] 62) = y1 at *
     clear b0
     refine wpAnyH_ready (rs := [4]) (by kernel_rfl) (by simp) (AllReadyH.cons rfl (fun K hK => ?_) AllReadyH.nil)
     rw [if_pos (by rfl)]
     (try simp only [gs])
     refine wp_append_sl rowP _ _ rfl w1.heap.size (.slice (some ⟨gE, 0, none⟩) 0 0) [] I rfl oE (.slice ad5 P cp5) rfl w1.heap.size (T0.below hh) (by have := HLL.out; simp only [List.length_nil]; omega) (by decide) hh.size ?_
     intro v8 y2 o8 gr8
     have lt8 := o8.lt
     refine hK.out _ _ (hh.grown gr8 hh.size (fun j hj => by have e : gE = j := (by simpa [Value.ownBlock] using hj); omega)) (fun hh => ?_)
     clear hK K gr8 oE
     (try simp only [gs])
     simp only [List.nil_append] at o8
     refine wpAnyH_ready (rs := [9]) (by kernel_rfl) (by simp) (AllReadyH.cons rfl (fun K hK => ?_) AllReadyH.nil)
     rw [if_pos (by rfl)]
     (try simp only [gs])
     refine wp_append_sl rowP _ _ rfl w1.heap.size v8 I J rfl o8 (.slice aq (NL - (P + 1)) (cp5 - (P + 1))) rfl w1.heap.size (D0.below hh) (by have := HLL.out; omega) (by decide) hh.size ?_
     intro v9 y3 o9 gr9
     refine hK.out _ _ (hh.grown gr9 hh.size (fun j hj => (lt8 j hj).1)) (fun hh => ?_)
     clear hK K gr9 o8 lt8
     (try simp only [gs])
     refine tl ?_ 10 rfl hh ⟨by rfl, ?_⟩ ?_
     case refine_2 => (intro w hSw; go_simp; try with_reducible rfl)
     (try simp only [gs])
     have B9 : Below w1.heap.size w1 y3 := hh
     clear hh
     refine wpAnyH_done (by kernel_rfl) ?_ _
     refine NoPanic.normal ?_
     go_wp2_with fail
     go_roundg g
     case measure => omega
     case rel => exact ⟨k + 1, by omega, congrArg (Value.int .i64) (by omega), (show Below w.heap.size w y3 ∧ Sl encP y3 v9 ((c.take (k + 1)).foldl stepA M) ∧ NewV w.heap.size v9 from ⟨HB1.out.1.trans (B9.mono HB1.out.1.size), by rw [HTK.out, HD2.out]; exact o9.slB, o9.newV HB1.out.1.size⟩)⟩
theorem rapply_calls (w : World) (u uc : Value) (l : List Pa) (c : List Ch) (h : Sl encP w u l) (hc : Sl encC w uc c) (hl : l.length ≤ 2000) (hcl : c.length ≤ 2000) :
    Calls Tryz.prog 116 #[u, uc] w fun e w' => ∃ v m, e = .returned v ∧ Sl encP w' v m ∧ ApplyIs l c m ∧ m.length ≤ l.length + c.length ∧ Below w.heap.size w w' :=
 (rapplyN_calls w u uc l c h hc hl hcl).mono fun e w' ⟨v, m, h1, h2, h3⟩ => ⟨v, m, h1, h2.1, h3⟩
end
section
open Go.RowKit
section
variable {ops : Array Oper} {rest : List Oper} {o : Oper} {a : Act} {w : World} {Q : Exit → Act → World → Prop}
end
theorem rjoinN_calls (w : World) (u : Value) (cs : List (Value × List Ch)) (h : SlS w w.heap.size u cs) (hn : cs.length ≤ 1000) (hl : (cs.flatMap (·.2)).length ≤ 5000) :
    Calls Tryz.prog 117 #[u] w fun e w' => ∃ v d, e = .returned v ∧ (Sl encC w' v d ∧ NewV w.heap.size v) ∧ JoinIs (cs.flatMap (·.2)) d ∧ d.length ≤ (cs.flatMap (·.2)).length ∧ Below w.heap.size w w' := by
 obtain ⟨⟨ad, cap, rfl, hcap, hmax, hcell⟩, heach⟩ := h
 obtain ⟨N, hN⟩ : ∃ N : Nat, N = cs.length := ⟨_, rfl⟩
 rw [← hN] at hcap hmax hn ⊢
 have HN : Hid (N = cs.length) := hN
 have HI : Hid (∀ i (hi : i < cs.length), ∃ g off, ad = some ⟨g, off, none⟩ ∧ g < w.heap.size ∧ w.cell? ⟨g, off + i, none⟩ = some (cs[i]).1) := fun i hi => by
  rcases hcell with rfl | ⟨g, off, e, hg, hc⟩
  · cases hi
  · exact ⟨g, off, e, hg, hc i hi⟩
 have HE : Hid (∀ i (hi : i < cs.length), SlB encC w w.heap.size (cs[i]).1 (cs[i]).2) := fun i hi => heach _ (List.getElem_mem hi)
 have HLL : Hid ((cs.flatMap (·.2)).length ≤ 5000) := hl
 have HS : Hid (Below w.heap.size w w ∧ Sl encC w (.slice none 0 0) ((((cs.take 0).flatMap (·.2)).map Ch.plain).foldl (putA Ch.n) []) ∧ NewV w.heap.size (.slice none 0 0)) := ⟨Below.refl _ _, SlB.nil _ _ _, fun g hg => by cases hg⟩
 clear hN heach hcell hl
 go_enter Tryz.func117, Tryz.ntmps117
 go_wp2_with fail
 go_loopg [3, 4] N (fun gg s3 i wr => ∃ k : Nat, k + gg = N ∧ i = .int .i64 (k : Int) ∧ Hid (Below w.heap.size w wr ∧ Sl encC wr s3 ((((cs.take k).flatMap (·.2)).map Ch.plain).foldl (putA Ch.n) []) ∧ NewV w.heap.size s3))
 case atStart => exact ⟨0, by omega, rfl, HS.out⟩
 case round =>
  obtain ⟨k, hkg, rfl, HX⟩ := hrel
  clear HS
  cases gk with
  | zero =>
   have hkN : k = N := by omega
   subst hkN
   have hX := HX.out
   rw [List.take_of_length_le (by have := HN.out; omega)] at hX
   have HX2 : Hid (Below w.heap.size w wr ∧ Sl encC wr u3 (((cs.flatMap (·.2)).map Ch.plain).foldl (putA Ch.n) []) ∧ NewV w.heap.size u3) := hX
   clear hX HX
   go_wp2_with fail
   go_ret
   refine ⟨_, _, rfl, HX2.out.2, join_is _, ?_, HX2.out.1⟩
   have h1 := puts_len0 Ch.n ((cs.flatMap (·.2)).map Ch.plain)
   rwa [List.length_map] at h1
  | succ gg =>
   have hltI : (k : Int) < (N : Int) := by omega
   have hkl : k < cs.length := by have := HN.out; omega
   obtain ⟨g0, off, rfl, hg0, hat⟩ := HI.out k hkl
   have hsl := HE.out k hkl
   have HFT := flats_take cs k hkl
   have HFL := flats_len cs k hkl
   have HFB := flats_le cs (k + 1)
   have hLL := HLL.out
   obtain ⟨ad2, cap2, hv2, hcap2, hmax2, _, _⟩ := id hsl
   rw [hv2] at hat hsl
   have HC : Hid (∀ i (hi : i < (cs[k]).2.length), ∃ g off, ad2 = some ⟨g, off, none⟩ ∧ g < w.heap.size ∧ w.rangeAt g (off + i * 26) (encC.c (cs[k]).2[i])) := fun i hi => SlB.at hsl i hi
   have hpl := puts_len0 Ch.n (((cs.take k).flatMap (·.2)).map Ch.plain)
   rw [List.length_map] at hpl
   generalize (cs[k]).2 = c at *
   generalize hL0 : (((cs.take k).flatMap (·.2)).map Ch.plain).foldl (putA Ch.n) [] = L0 at *
   generalize hn0 : ((cs.take k).flatMap (·.2)).length = n0 at *
   obtain ⟨M, hM⟩ : ∃ M : Nat, M = c.length := ⟨_, rfl⟩
   rw [← hM] at hcap2 hmax2 hat HFL
   have HM : Hid (M = c.length) := hM
   have hb5 : n0 + M ≤ 5000 := by omega
   have HFT : Hid ((((cs.take (k + 1)).flatMap (·.2)).map Ch.plain).foldl (putA Ch.n) [] = (c.map Ch.plain).foldl (putA Ch.n) L0) := HFT
   have HCE : Hid (w.cell? ⟨g0, off + k, none⟩ = some (.slice ad2 M cap2)) := hat
   have HS2 : Hid (Below w.heap.size w wr ∧ Sl encC wr u3 (((c.take 0).map Ch.plain).foldl (putA Ch.n) L0) ∧ NewV w.heap.size u3) := HX.out
   have HLN : Hid (∀ j, j ≤ M → (((c.take j).map Ch.plain).foldl (putA Ch.n) L0).length ≤ 5000) := fun j hj => by
    have h1 := puts_len Ch.n ((c.take j).map Ch.plain) L0
    simp only [List.length_map, List.length_take] at h1
    omega
   clear hkl hM hsl hv2 HX HFB hLL hL0 hn0 hat
   go_wp2_with fail
   go_loopg [3, 5] M (fun g2 s3 i wr => ∃ j : Nat, j + g2 = M ∧ i = .int .i64 (j : Int) ∧ Hid (Below w.heap.size w wr ∧ Sl encC wr s3 (((c.take j).map Ch.plain).foldl (putA Ch.n) L0) ∧ NewV w.heap.size s3))
   case atStart => exact ⟨0, by omega, rfl, HS2.out⟩
   case round =>
    obtain ⟨j, hjg, rfl, HY⟩ := hrel
    clear HS2
    have hce : wr.cell? ⟨g0, off + k, none⟩ = some (.slice ad2 M cap2) := (HY.out.1.cell (p := ⟨g0, off + k, none⟩) hg0).trans HCE.out
    cases gk with
    | zero =>
     have hjM : j = M := by omega
     subst hjM
     go_wp2_with fail
     go_roundg gg
     case measure => omega
     case rel =>
      refine ⟨k + 1, by omega, congrArg (Value.int .i64) (by omega), ?_⟩
      have hY := HY.out
      rw [List.take_of_length_le (by have := HM.out; omega)] at hY
      exact (show Below w.heap.size w wr ∧ Sl encC wr _ ((((cs.take (k + 1)).flatMap (·.2)).map Ch.plain).foldl (putA Ch.n) []) ∧ NewV w.heap.size _ from ⟨hY.1, by rw [HFT.out]; exact hY.2.1, hY.2.2⟩)
    | succ g2 =>
     have hjI : (j : Int) < (M : Int) := by omega
     have hjl : j < c.length := by have := HM.out; omega
     obtain ⟨g1, off1, rfl, hg1, hat1⟩ := HC.out j hjl
     have hr1 : wr.rangeAt g1 (off1 + j * 26) (encC.c c[j]) := range_same' hat1 (HY.out.1.block g1 hg1)
     have HTK : Hid (((c.take (j + 1)).map Ch.plain).foldl (putA Ch.n) L0 = putA Ch.n (((c.take j).map Ch.plain).foldl (putA Ch.n) L0) (c[j]).plain) := plains_take c L0 j hjl
     have hln := HLN.out j (by omega)
     generalize c[j] = p at *
     generalize ((c.take j).map Ch.plain).foldl (putA Ch.n) L0 = L at *
     have hW := with9_calls wr u3 L p HY.out.2.1 (by omega)
     have HB : Hid (Below w.heap.size w wr) := HY.out.1
     clear hat1 hjl HY
     go_wp2_with (first
      | (refine load_el elC _ rfl g1 (off1 + j * 26) rfl rfl p hr1 ?_)
      | (go_at_call 151; refine hW.mono ?_; clear hW; rintro e w3 ⟨v3, rfl, o3, b3⟩))
     go_roundg g2
     case measure => omega
     case rel => exact ⟨j + 1, by omega, congrArg (Value.int .i64) (by omega), (show Below w.heap.size w w3 ∧ Sl encC w3 v3 (((c.take (j + 1)).map Ch.plain).foldl (putA Ch.n) L0) ∧ NewV w.heap.size v3 from ⟨HB.out.trans (b3.mono HB.out.size), by rw [HTK.out]; exact o3.slB, o3.newV HB.out.size⟩)⟩
end
section
open Go.RowKit
structure RvIn (w : World) (p : Nat) (bv cv rv mv : Value) (B : List Pa) (C : List Ch) (R : List Sp) (M : List (Value × List Ch)) : Prop where
 blk : w.heap[p]? = some (.cells #[bv, cv, rv, mv] 45 (0, 0))
 b : Sl encP w bv B
 c : Sl encC w cv C
 r : Sl encS w rv R
 m : SlS w w.heap.size mv M
theorem SlS.nil (w : World) (B : Nat) : SlS w B (.slice none 0 0) [] := ⟨⟨none, 0, rfl, Nat.le_refl _, Nat.zero_le _, .inl rfl⟩, fun e he => by cases he⟩
theorem SlS.called {w w' : World} {u : Value} {cs : List (Value × List Ch)} (h : SlS w w.heap.size u cs) (b : Below w.heap.size w w') : SlS w' w'.heap.size u cs := by
 obtain ⟨ad, cap, e1, e2, e3, e4⟩ := h.out
 refine ⟨⟨ad, cap, e1, e2, e3, e4.imp id fun q => ?_⟩, fun e he => Sl.called (h.each e he) b⟩
 obtain ⟨g, off, a1, a2, a3⟩ := q
 exact ⟨g, off, a1, Nat.lt_of_lt_of_le a2 b.size, fun i hi => (World.cell?_of_block (b.block g a2)).trans (a3 i hi)⟩
section
variable {w w' : World} {p : Nat} {bv cv rv mv : Value} {B : List Pa} {C : List Ch} {R : List Sp} {M : List (Value × List Ch)}
theorem RvIn.lt (h : RvIn w p bv cv rv mv B C R M) : p < w.heap.size := lt_of_block h.blk
theorem RvIn.called (h : RvIn w p bv cv rv mv B C R M) (b : Below w.heap.size w w') : RvIn w' p bv cv rv mv B C R M :=
 ⟨(b.block p h.lt).trans h.blk, h.b.called b, h.c.called b, h.r.called b, h.m.called b⟩
end
structure RvC (y : World) (p : Nat) (bv cv rv mv : Value) : Prop where
 blk : y.heap[p]? = some (.cells #[bv, cv, rv, mv] 45 (0, 0))
section
variable {y : World} {p : Nat} {bv cv rv mv : Value}
theorem RvC.c0 (h : RvC y p bv cv rv mv) : y.cell? ⟨p, 0, none⟩ = some bv := by rw [cell_of_row _ _ _ _ _ _ h.blk]; rfl
theorem RvC.c1 (h : RvC y p bv cv rv mv) : y.cell? ⟨p, 1, none⟩ = some cv := by rw [cell_of_row _ _ _ _ _ _ h.blk]; rfl
theorem RvC.c2 (h : RvC y p bv cv rv mv) : y.cell? ⟨p, 2, none⟩ = some rv := by rw [cell_of_row _ _ _ _ _ _ h.blk]; rfl
end
theorem rvnew_calls (w : World) (u : Value) (l : List Pa) (h : Sl encP w u l) (hl : l.length ≤ 5000) :
    Calls Tryz.prog 11 #[u] w fun e w' => ∃ p bv m, e = .returned (.pointer (some ⟨p, 0, none⟩)) ∧ RvIn w' p bv (.slice none 0 0) (.slice none 0 0) (.slice none 0 0) m [] [] [] ∧ NewV w.heap.size bv ∧ MapIs l m ∧ m.length ≤ l.length ∧ w.heap.size ≤ p ∧ Below w.heap.size w w' := by
 have hM := rmapN_calls w u l h hl
 clear h
 go_enter Tryz.func11, Tryz.ntmps11
 go_wp2_with (first
  | (go_at_call 27; refine hM.mono ?_; clear hM; rintro e w1 ⟨v, m, rfl, ⟨s1, n1⟩, i1, l1, b1⟩
     obtain ⟨ad, cap, rfl, hcap, hmax, -, -⟩ := id s1))
 go_ret
 have BX : Below w1.heap.size w1 (w1.alloc (.cells #[.slice ad m.length cap, .slice none 0 0, .slice none 0 0, .slice none 0 0] 45)) := (Below.refl _ w1).alloc (Nat.le_refl _) _
 exact ⟨_, _, m, rfl, ⟨heap_alloc_new _ _, Sl.called s1 BX, SlB.nil _ _ _, SlB.nil _ _ _, SlS.nil _ _⟩, n1, i1, l1, b1.size, b1.trans (BX.mono b1.size)⟩
theorem rvmap_calls (w : World) (p : Nat) (bv cv rv mv : Value) (B : List Pa) (C : List Ch) (R : List Sp) (M : List (Value × List Ch)) (h : RvIn w p bv cv rv mv B C R M) (hB : B.length ≤ 2000) (hC : C.length ≤ 2000) :
    Calls Tryz.prog 78 #[.pointer (some ⟨p, 0, none⟩)] w fun e w' => ∃ v m, e = .returned v ∧ Sl encP w' v m ∧ ApplyIs B C m ∧ m.length ≤ B.length + C.length ∧ Below w.heap.size w w' := by
 have HD : Hid (RvIn w.drew p bv cv rv mv B C R M ∧ Below w.heap.size w w.drew) := ⟨h.called ⟨rfl, rfl, rfl, Nat.le_refl _, fun _ _ => rfl⟩, ⟨rfl, rfl, rfl, Nat.le_refl _, fun _ _ => rfl⟩⟩
 have hA := rapply_calls w.drew bv cv B C HD.out.1.b HD.out.1.c hB hC
 have HC : Hid (RvC w.drew p bv cv rv mv) := ⟨HD.out.1.blk⟩
 have HC0 : Hid (∀ y, RvC y p bv cv rv mv → y.cell? ⟨p, 0, none⟩ = some bv) := fun y hy => hy.c0
 have HC1 : Hid (∀ y, RvC y p bv cv rv mv → y.cell? ⟨p, 1, none⟩ = some cv) := fun y hy => hy.c1
 have HPL : Hid (∀ y, Below w.drew.heap.size w.drew y → RvC y p bv cv rv mv) := fun y b => ⟨(b.block p HD.out.1.lt).trans HD.out.1.blk⟩
 obtain ⟨ad0, cap0, rfl, -, -, -, -⟩ := id h.b
 obtain ⟨ad1, cap1, rfl, -, -, -, -⟩ := id h.c
 clear h
 go_enter Tryz.func78, Tryz.ntmps78
 go_upto_region 1 with fail
 refine wp_region_noPanic ?_
 refine wp_region_held_drew (S := (fun y => RvC y p (.slice ad0 B.length cap0) (.slice ad1 C.length cap1) rv mv)) (by kernel_rfl) (HC.out) (fun hh => ?_)
 refine tl ?_ 0 rfl hh ⟨by rfl, ?_⟩ ?_
 case refine_2 => (intro w hSw; go_simp; try with_reducible rfl)
 (try simp only [gs])
 refine tl ?_ 1 rfl hh ⟨by rfl, ?_⟩ ?_
 case refine_2 => (intro w hSw; go_simp; try with_reducible rfl)
 (try simp only [gs])
 refine tl ?_ 2 rfl hh ⟨by rfl, ?_⟩ ?_
 case refine_2 => (intro w hSw; go_simp; try with_reducible rfl)
 (try simp only [gs])
 refine tl ?_ 3 rfl hh ⟨by rfl, ?_⟩ ?_
 case refine_2 => (intro w hSw; have hc := HC0.out _ hSw; go_simp; try with_reducible rfl)
 (try simp only [gs])
 refine tl ?_ 4 rfl hh ⟨by rfl, ?_⟩ ?_
 case refine_2 => (intro w hSw; go_simp; try with_reducible rfl)
 (try simp only [gs])
 refine tl ?_ 5 rfl hh ⟨by rfl, ?_⟩ ?_
 case refine_2 => (intro w hSw; go_simp; try with_reducible rfl)
 (try simp only [gs])
 refine tl ?_ 6 rfl hh ⟨by rfl, ?_⟩ ?_
 case refine_2 => (intro w hSw; go_simp; try with_reducible rfl)
 (try simp only [gs])
 refine tl ?_ 7 rfl hh ⟨by rfl, ?_⟩ ?_
 case refine_2 => (intro w hSw; have hc := HC1.out _ hSw; go_simp; try with_reducible rfl)
 (try simp only [gs])
 generalize w.drew = w1 at *
 refine wpAnyH_ready (rs := [8]) (by kernel_rfl) (by simp) (AllReadyH.cons rfl (fun K0 hK => ?_) AllReadyH.nil)
 rw [if_pos (by rfl)]
 (try simp only [gs])
 go_simp
 refine hA.mono ?_
 clear hA
 rintro e w2 ⟨v, m, rfl, s2, i2, l2, b2⟩
 refine hK.out _ _ (HPL.out w2 b2) (fun g1 => ?_)
 clear hK K0 hh
 have hh := HPL.out w2 b2
 (try simp only [gs])
 obtain ⟨ad2, cap2, rfl, -, -, -, -⟩ := id s2
 refine tl ?_ 9 rfl hh ⟨by rfl, ?_⟩ ?_
 case refine_2 => (intro w hSw; go_simp; try with_reducible rfl)
 (try simp only [gs])
 refine wpAnyH_done (by kernel_rfl) ?_ _
 refine NoPanic.normal ?_
 clear g1 hh
 go_wp2_with fail
 go_ret
 exact ⟨_, m, rfl, s2, i2, l2, HD.out.2.trans (b2.mono HD.out.2.size)⟩
end
section
open Go.RowKit
theorem rvown_calls (w : World) (p : Nat) (bv cv rv mv : Value) (B : List Pa) (C : List Ch) (R : List Sp) (M : List (Value × List Ch)) (h : RvIn w p bv cv rv mv B C R M) (hC : C.length ≤ 1000) (K : Kz) :
    Calls Tryz.prog 74 #[.pointer (some ⟨p, 0, none⟩), kv K.k] w fun e w' => e = .returned (.bool (look Ch.n C K.n).isSome) ∧ Below w.heap.size w w' := by
 have b1 : Below w.heap.size w (w.alloc (.cells (bc K.k).toArray 54)) := (Below.refl _ w).alloc (Nat.le_refl _) _
 have HK : Hid (Has (w.alloc (.cells (bc K.k).toArray 54)) w.heap.size K.k) := Has.new w K.k K.h
 have HB : Hid (Below w.heap.size w (w.alloc (.cells (bc K.k).toArray 54))) := b1
 have hInfo : ∀ J : Kz, (Tryz.prog.info? 54).map (·.size) = some (bc J.k).length := fun J => by rw [bc_length, J.h]; exact Tryz.key_info
 obtain ⟨ad, cap, rfl, hcap, hmax, -, -⟩ := id h.c
 have HI : Hid (∀ i (hi : i < C.length), ∃ g off, ad = some ⟨g, off, none⟩ ∧ g < w.heap.size ∧ w.rangeAt g (off + i * 26) (encC.c C[i])) := fun i hi => SlB.at h.c i hi
 obtain ⟨N, hN⟩ : ∃ N : Nat, N = C.length := ⟨_, rfl⟩
 have HN : Hid (N = C.length ∧ N ≤ 1000) := ⟨hN, by omega⟩
 rw [← hN] at hcap hmax h
 have HP : Hid (p < w.heap.size ∧ RvC w p bv (.slice ad N cap) rv mv) := ⟨h.lt, ⟨h.blk⟩⟩
 clear b1 hN h
 go_enter Tryz.func74, Tryz.ntmps74
 go_upto_region 1 with fail
 generalize hW : w.alloc (.cells (bc K.k).toArray 54) = W at *
 have hbW := HK.out.lt
 go_wp2_with fail
 go_loopg [5] N (fun gg i wr => ∃ k : Nat, k + gg = N ∧ i = .int .i64 (k : Int) ∧ Hid (Below W.heap.size W wr ∧ ∀ j (hj : j < C.length), j < k → (C[j]).n ≠ K.n))
 case atStart => exact ⟨0, by omega, rfl, ⟨Below.refl _ _, fun j hj h => absurd h (Nat.not_lt_zero _)⟩⟩
 case round =>
  obtain ⟨k, hkg, rfl, HL⟩ := hrel
  have HRC : Hid (RvC wr p bv (.slice ad N cap) rv mv) := ⟨(HL.out.1.block p (Nat.lt_of_lt_of_le HP.out.1 HB.out.size)).trans ((HB.out.block p HP.out.1).trans HP.out.2.blk)⟩
  have hc1 := HRC.out.c1
  cases gk with
  | zero =>
   have hkN : k = N := by omega
   subst hkN
   go_wp2_with fail
   go_ret
   have h1 : look Ch.n C K.n = none := (look_none Ch.n).2 fun c hc => by
    obtain ⟨j, hj, rfl⟩ := List.mem_iff_getElem.1 hc
    exact HL.out.2 j hj (by have := HN.out.1; omega)
   exact ⟨by rw [h1]; rfl, HB.out.trans (HL.out.1.mono HB.out.size)⟩
  | succ gg =>
   have hlt : k < N := by omega
   have hltI : (k : Int) < (N : Int) := by omega
   have hk0 : (0 : Int) ≤ (k : Int) := by omega
   have hkb : (k : Int) ≤ 1000 := by have := HN.out.2; omega
   have hkl : k < C.length := by have := HN.out.1; omega
   obtain ⟨g, off, rfl, hg, hr⟩ := HI.out k hkl
   have rC : wr.rangeAt g (off + k * 26) (bc (C[k]).kz.k) := range_kC (range_same' (range_same' hr (HB.out.block g hg)) (HL.out.1.block g (Nat.lt_of_lt_of_le hg HB.out.size)))
   have rK : wr.rangeAt w.heap.size 0 (bc K.k) := range_has (HK.out.below HL.out.1 hbW)
   have HSTEP : Hid ((C[k]).kz ≠ K → ∀ j (hj : j < C.length), j < k + 1 → (C[j]).n ≠ K.n) := fun q j hj hjk e => by
    rcases Nat.lt_or_ge j k with z | z
    · exact HL.out.2 j hj z e
    · have : j = k := by omega
      subst this
      exact q (Kz.same e)
   have HHIT : Hid ((C[k]).kz = K → (look Ch.n C K.n).isSome = true) := fun q => by
    cases e : look Ch.n C K.n with
    | some x => rfl
    | none => exact absurd (congrArg Kz.n q) ((look_none Ch.n).1 e C[k] (List.getElem_mem hkl))
   have HRG : Hid (RvC wr p bv (.slice (some ⟨g, off, none⟩) N cap) rv mv ∧ wr.rangeAt g (off + k * 26) (bc (C[k]).kz.k) ∧ wr.rangeAt w.heap.size 0 (bc K.k)) := ⟨HRC.out, rC, rK⟩
   have HBL : Hid (Below W.heap.size W wr) := HL.out.1
   have HQ : ∀ c : Ch, c = C[k] → True := fun _ _ => trivial
   obtain ⟨c, hcc⟩ : ∃ c, c = C[k] := ⟨_, rfl⟩
   rw [← hcc] at HSTEP HHIT HRG rC
   clear hcc HQ hr hkl HI HL rC rK HRC
   go_upto_region 4 with fail
   refine wp_region_noPanic ?_
   refine wp_region_held_drew (S := (fun yy => RvC yy p bv (.slice (some ⟨g, off, none⟩) N cap) rv mv ∧ yy.rangeAt g (off + k * 26) (bc c.kz.k) ∧ yy.rangeAt w.heap.size 0 (bc K.k))) (by kernel_rfl) (⟨⟨HRG.out.1.blk⟩, HRG.out.2.1, HRG.out.2.2⟩) (fun hh => ?_)
   refine tl ?_ 0 rfl hh ⟨by rfl, ?_⟩ ?_
   case refine_2 => (intro w hSw; go_simp; try with_reducible rfl)
   (try simp only [gs])
   refine tl ?_ 1 rfl hh ⟨by rfl, ?_⟩ ?_
   case refine_2 => (intro w hSw; go_simp; try with_reducible rfl)
   (try simp only [gs])
   refine tl ?_ 2 rfl hh ⟨by rfl, ?_⟩ ?_
   case refine_2 => (intro w hSw; go_simp; try with_reducible rfl)
   (try simp only [gs])
   refine tl ?_ 3 rfl hh ⟨by rfl, ?_⟩ ?_
   case refine_2 => (intro w hSw; have hc := hSw.1.c1; go_simp; try with_reducible rfl)
   (try simp only [gs])
   refine tl ?_ 4 rfl hh ⟨by rfl, ?_⟩ ?_
   case refine_2 => (intro w hSw; go_simp; try with_reducible rfl)
   (try simp only [gs])
   refine tl ?_ 5 rfl hh ⟨by rfl, ?_⟩ ?_
   case refine_2 => (intro w hSw; go_simp; try with_reducible rfl)
   (try simp only [gs])
   refine tl ?_ 6 rfl hh ⟨by rfl, ?_⟩ ?_
   case refine_2 => (intro w hSw; go_simp; try with_reducible rfl)
   (try simp only [gs])
   refine tk 7 rfl hh (yieldsIf_load_mid (by rfl) _ _ rfl _ _ rfl _ _ (fun _ h => h.2.1) Tryz.underlying54 rfl (hInfo c.kz)) ?_
   (try simp only [gs])
   refine tk 8 rfl hh (yieldsIf_load_mid (by rfl) _ _ rfl _ _ rfl _ _ (fun _ h => h.2.2) Tryz.underlying54 rfl (hInfo K)) ?_
   (try simp only [gs])
   refine wpAnyH_take (i := 9) (v := .bool (decide (c.kz = K))) rfl (by kernel_rfl) (by kernel_rfl) (by kernel_rfl) (fun _ _ _ h => h) (Or.inl ⟨by rfl, fun w _ => exec_eq_K _ _ _ rfl c.kz K rfl rfl w⟩) hh ?_
   (try simp only [gs])
   refine wpAnyH_done (by kernel_rfl) ?_ _
   refine NoPanic.normal ?_
   have HBD : Hid (Below W.heap.size W wr.drew) := HBL.out.trans ⟨rfl, rfl, rfl, Nat.le_refl _, fun _ _ => rfl⟩
   clear hh HBL HRG
   generalize wr.drew = y1 at *
   by_cases hq : c.kz = K
   · have hd : decide (c.kz = K) = true := decide_eq_true hq
     have HS : Hid ((look Ch.n C K.n).isSome = true) := HHIT.out hq
     go_wp2_with fail
     go_ret
     exact ⟨by rw [HS.out]; rfl, HB.out.trans (HBD.out.mono HB.out.size)⟩
   · have hd : decide (c.kz = K) = false := decide_eq_false hq
     have HS := HSTEP.out hq
     go_wp2_with fail
     go_roundg gg
     case measure => omega
     case rel => exact ⟨k + 1, by omega, congrArg (Value.int .i64) (by omega), HBD.out, HS⟩
end
end Go.Proofs.YtdmindhjmjnagaaGreatDoor
