/- The document's alike and Merge. -/
import Derived.Test.YtbodbdcmkicmaaaDlQ
namespace Go.Proofs.Ytbodbdcmkicmaaa
set_option linter.unusedVariables false
open Go.RowKit

theorem alike_is {a b : List Pa} (K : Kz) : (decide (gotB a K = gotB b K) && decide (gotV a K = gotV b K)) = decide (look Pa.n a K.n = look Pa.n b K.n) := by
  unfold gotB gotV
  cases ha : look Pa.n a K.n with
  | none =>
    cases hb : look Pa.n b K.n with
    | none => simp
    | some q => simp
  | some p =>
    cases hb : look Pa.n b K.n with
    | none => simp
    | some q =>
      simp only [Option.isSome_some, Option.map_some, Option.getD_some, decide_true, Bool.true_and, Option.some.injEq]
      exact decide_eq_decide.2 ⟨fun h => Pa.same ((look_key Pa.n ha).2.trans (look_key Pa.n hb).2.symm) h, fun h => by rw [h]⟩
theorem eq_strv (a b : List UInt8) (w : World) (x y : Operand) {f : Operand → Value} {o : Oper} (t' : TypeId) (ho : o.op = .binOp .eql 9 x y t') (hx : f x = .string (str a)) (hy : f y = .string (str b)) : (execOp f o).run Try.prog w = .ok (.value (.bool (decide (a = b)))) w := by
  unfold execOp
  rw [ho]
  simp only [hx, hy]
  go_simp
  rw [str_toList, str_toList]
  by_cases e : a = b <;> simp [e]
section
variable {ops : Array Oper} {rest : List Oper} {o : Oper} {a : Act} {w : World} {Q : Exit → Act → World → Prop}
theorem eq_str_op (x y : Operand) (t' : TypeId) (ho : o.op = .binOp .eql 9 x y t') (hgd : Region.wanted o (yielded ops a.tmps) = true) (p q : List UInt8) (hx : a.eval x = .string (str p)) (hy : a.eval y = .string (str q))
    (h : wpList Try.prog ops Q rest (a.put o.dst (.bool (decide (p = q)))) w) : wpList Try.prog ops Q (o :: rest) a w :=
  BigFrame.wpList_want hgd fun _ hK' => by unfold Oper.wp; rw [eq_strv p q w x y t' ho hx hy]; exact hK' _ _ h
end
set_option maxRecDepth 100000 in
set_option maxHeartbeats 4000000 in
theorem alike_calls (w : World) (ua ub : Value) (a b : List Pa) (K : Kz) (ha : Sl encP w ua a) (hb : Sl encP w ub b) (aa : Asc Pa.n a) (ab : Asc Pa.n b) (hla : a.length ≤ 5000) (hlb : b.length ≤ 5000) :
    Calls Try.prog 35 #[ua, ub, kv K.k] w fun e w' => e = .returned (.bool (decide (look Pa.n a K.n = look Pa.n b K.n))) ∧ Below w.heap.size w w' := by
  have hK1 : Has (w.alloc (.cells (bc K.k).toArray 41)) w.heap.size K.k := Has.new w K.k K.h
  have b1 : Below w.heap.size w (w.alloc (.cells (bc K.k).toArray 41)) := (Below.refl _ w).alloc (Nat.le_refl _) _
  have hG := get_calls _ ua a K (ha.called b1) aa (by omega)
  have HS : Hid (Sl encP (w.alloc (.cells (bc K.k).toArray 41)) ub b) := hb.called b1
  have HB1 : Hid (Below w.heap.size w (w.alloc (.cells (bc K.k).toArray 41))) := b1
  have HR : Hid ((decide (gotB a K = gotB b K) && decide (gotV a K = gotV b K)) = decide (look Pa.n a K.n = look Pa.n b K.n)) := alike_is K
  have HAB : Hid (Asc Pa.n b) := ab
  have HGB : Hid (∀ (y : World), Sl encP y ub b → Calls Try.prog 26 #[ub, kv K.k] y fun e w' => e = .returned (.tuple #[.string (str (gotV b K)), .bool (gotB b K)]) ∧ Below y.heap.size y w') := fun y hy => get_calls y ub b K hy ab (by omega)
  obtain ⟨R, hR⟩ : ∃ R : Bool, decide (look Pa.n a K.n = look Pa.n b K.n) = R := ⟨_, rfl⟩
  rw [hR] at HR ⊢
  clear hR b1 ha hb aa ab
  generalize gotB a K = p1 at *
  generalize gotB b K = p2 at *
  generalize gotV a K = v1 at *
  generalize gotV b K = v2 at *
  go_enter Try.func35, Try.ntmps35
  go_upto_region 2 with (first
    | (refine load_key _ rfl w.heap.size rfl rfl _ hK1 ?_)
    | (go_at_call 26; refine hG.mono ?_; clear hG; rintro e w1 ⟨rfl, b2⟩))
  have B2 := below_called HB1.out b2 (Nat.le_refl _)
  have hK2 := hK1.below b2 hK1.lt
  have hG2 := HGB.out w1 (HS.out.called b2)
  clear hK1 b2 HS HB1
  go_upto_region 3 with (first
    | (refine load_key _ rfl w.heap.size rfl rfl _ hK2 ?_)
    | (go_at_call 26; refine hG2.mono ?_; clear hG2; rintro e w2 ⟨rfl, b3⟩))
  have B3 := below_called B2 b3 (Nat.le_refl _)
  clear hK2 b3 B2
  by_cases hp : p1 = p2
  · subst hp
    have hpp : (p1 == p1) = true := by simp
    have HR2 : Hid (decide (v1 = v2) = R) := (show _ = _ by rw [← HR.out]; simp)
    clear HR
    go_wp2_with (first
      | (refine eq_str_op _ _ _ rfl rfl v1 v2 rfl rfl ?_))
    go_ret
    exact ⟨by rw [← HR2.out]; rfl, B3⟩
  · have hpp : (p1 == p2) = false := by simpa using hp
    have HR2 : Hid (false = R) := (show _ = _ by rw [← HR.out]; simp [hp])
    clear HR hp
    go_wp2_with fail
    go_ret
    exact ⟨by rw [← HR2.out]; rfl, B3⟩
/-! Merge. -/
theorem apply_snoc {l m n : List Pa} {c : List Ch} {x : Ch} (h : ApplyIs l c m) (h' : ApplyIs m [x] n) : ApplyIs l (c ++ [x]) n := ⟨h'.1, fun t => by rw [h'.2, h.last, lastA_append, doneA_or]⟩
theorem apply_none {l m : List Pa} (h : MapIs l m) : ApplyIs l [] m := ⟨h.1, fun t => by rw [h.2]; rfl⟩
theorem diff_maps {a b A B : List Pa} {d : List Ch} (hA : MapIs a A) (hB : MapIs b B) (h : DiffIs A B d) : DiffIs a b d := ⟨h.1, fun x => by rw [h.2, hA.last, hB.last]⟩
/-- Of one change its key, where the document says that it clashes. -/
def rck (B T M : List Pa) (c : Ch) : Option Kz := if !decide (look Pa.n B c.kz.n = look Pa.n T c.kz.n) && !decide (look Pa.n T c.kz.n = look Pa.n M c.kz.n) then some c.kz else none
theorem rclash {b t m B T M : List Pa} {d : List Ch} (hB : MapIs b B) (hT : MapIs t T) (hM : MapIs m M) (hd : DiffIs b m d) : ClashIs b t m (d.filterMap (rck B T M)) :=
  clash_is (t := t) hd (fun c => !decide (look Pa.n B c.kz.n = look Pa.n T c.kz.n) && !decide (look Pa.n T c.kz.n = look Pa.n M c.kz.n)) fun c _ => by
    rw [hB.2, hT.2, hM.2]
    show _ ↔ lastA Pa.n b c.kz.n ≠ lastA Pa.n t c.kz.n ∧ lastA Pa.n t c.kz.n ≠ lastA Pa.n m c.kz.n
    simp
set_option maxRecDepth 100000 in
set_option maxHeartbeats 8000000 in
theorem rmerge_calls (w : World) (ub ut um : Value) (b t m : List Pa) (hb : Sl encP w ub b) (ht : Sl encP w ut t) (hm : Sl encP w um m) (lb : b.length ≤ 500) (lt : t.length ≤ 500) (lm : m.length ≤ 500) :
    Calls Try.prog 23 #[ub, ut, um] w fun e w' => ∃ v u r ks, e = .returned (.tuple #[v, u]) ∧ Sl encP w' v r ∧ Sl encK w' u ks ∧ MergeIs b t m r ks ∧ r.length ≤ 10000 ∧ ks.length ≤ 10000 ∧ Below w.heap.size w w' := by
  have hM1 := rmap_calls w ub b hb (by omega)
  have HS : Hid (Sl encP w ut t ∧ Sl encP w um m) := ⟨ht, hm⟩
  clear hb ht hm
  go_enter Try.func23, Try.ntmps23
  go_upto_region 2 with (first
    | (go_at_call 14; refine hM1.mono ?_; clear hM1; rintro e w1 ⟨v1, B, rfl, s1, i1, l1, b1⟩))
  have hM2 := rmap_calls w1 ut t (HS.out.1.called b1) (by omega)
  go_upto_region 3 with (first
    | (go_at_call 14; refine hM2.mono ?_; clear hM2; rintro e w2 ⟨v2, T, rfl, s2, i2, l2, b2⟩))
  have hM3 := rmap_calls w2 um m ((HS.out.2.called b1).called b2) (by omega)
  have s1' := s1.called b2
  clear s1
  go_upto_region 4 with (first
    | (go_at_call 14; refine hM3.mono ?_; clear hM3; rintro e w3 ⟨v3, M, rfl, s3, i3, l3, b3⟩))
  have s1 := s1'.called b3
  have s2' := s2.called b3
  have hD := rdiff_calls w3 v1 v3 B M s1 s3 (by omega) (by omega)
  have HW3 : Hid (Below w.heap.size w w3) := (b1.trans (b2.mono b1.size)).trans (b3.mono (Nat.le_trans b1.size b2.size))
  clear s1' s2 HS
  go_upto_region 7 with (first
    | (go_at_call 19; refine hD.mono ?_; clear hD; rintro e w4 ⟨v4, d, rfl, s4, i4, l4, b4⟩))
  have HW : Hid (Below w.heap.size w w4) := HW3.out.trans (b4.mono HW3.out.size)
  have HSL : Hid (Sl encP w4 v1 B ∧ Sl encP w4 v2 T ∧ Sl encP w4 v3 M ∧ Sl encC w4 v4 d) := ⟨s1.called b4, s2'.called b4, s3.called b4, s4⟩
  have HIS : Hid (MapIs b B ∧ MapIs t T ∧ MapIs m M ∧ DiffIs b m d) := ⟨i1, i2, i3, diff_maps i1 i3 i4⟩
  have HLN : Hid (B.length ≤ 500 ∧ T.length ≤ 500 ∧ M.length ≤ 500 ∧ d.length ≤ 1000) := ⟨by omega, by omega, by omega, by omega⟩
  obtain ⟨ad, cap, e4, hcap, hmax⟩ := sl_form s4
  subst e4
  obtain ⟨N, hN⟩ : ∃ N : Nat, N = d.length := ⟨_, rfl⟩
  have HN : Hid (N = d.length) := hN
  rw [← hN] at hcap hmax HSL ⊢
  have hN1 : N ≤ 1000 := by have := HLN.out; omega
  have HI : Hid (∀ i (hi : i < d.length), ∃ g off, ad = some ⟨g, off, none⟩ ∧ g < w4.heap.size ∧ w4.rangeAt g (off + i * 26) (encC.c d[i])) := fun i hi => SlB.at HSL.out.2.2.2 i hi
  clear hN s1 s2' s3 s4 i1 i2 i3 i4 l1 l2 l3 l4 b1 b2 b3 b4 HW3
  generalize hW4 : w4 = W at *
  clear hW4
  have HST : Hid (Below W.heap.size W W ∧ (∃ r, Sl encP W v2 r ∧ ApplyIs t (d.take 0) r ∧ r.length ≤ 500 + 0) ∧ Own encK 41 W W.heap.size (.slice none 0 0) ((d.take 0).filterMap (rck B T M))) := ⟨Below.refl _ _, ⟨T, HSL.out.2.1, apply_none HIS.out.2.1, by have := HLN.out; omega⟩, Own.nil _ _ _ _⟩
  go_wp2_with fail
  go_loopg [8, 9, 11] N (fun g s8 s9 i wr => ∃ k : Nat, k + g = N ∧ i = .int .i64 (k : Int) ∧ Hid (Below W.heap.size W wr ∧ (∃ r, Sl encP wr s8 r ∧ ApplyIs t (d.take k) r ∧ r.length ≤ 500 + k) ∧ Own encK 41 wr W.heap.size s9 ((d.take k).filterMap (rck B T M))))
  case atStart => exact ⟨0, by omega, rfl, HST.out⟩
  case round =>
    obtain ⟨k, hkg, rfl, HE⟩ := hrel
    clear HST
    cases gk with
    | zero =>
      have hkN : k = N := by omega
      subst hkN
      go_wp2_with fail
      go_ret2
      obtain ⟨h1, ⟨r, h2, h3, h4⟩, h5⟩ := HE.out
      rw [List.take_of_length_le (by have := HN.out; omega)] at h3 h5
      refine ⟨_, _, r, _, rfl, h2, h5.slB, ⟨⟨d, HIS.out.2.2.2, h3⟩, rclash HIS.out.1 HIS.out.2.1 HIS.out.2.2.1 HIS.out.2.2.2⟩, by omega, ?_, HW.out.trans (h1.mono HW.out.size)⟩
      have h6 := List.length_filterMap_le (rck B T M) d
      have h7 := HLN.out
      omega
    | succ g =>
      have hltI : (k : Int) < (N : Int) := by omega
      have hk0 : (0 : Int) ≤ (k : Int) := by omega
      have hkl : k < d.length := by have := HN.out; omega
      obtain ⟨g0, off, had, hg0, hat⟩ := HI.out k hkl
      obtain ⟨hB, ⟨r, sr, ir, lr⟩, ho⟩ := HE.out
      have hr1 : wr.rangeAt g0 (off + k * 26) (encC.c d[k]) := range_same' hat (hB.block g0 hg0)
      have HTD : Hid (d.take (k + 1) = d.take k ++ [d[k]]) := List.take_succ_eq_append_getElem hkl
      have HTK : Hid ((d.take (k + 1)).filterMap (rck B T M) = (d.take k).filterMap (rck B T M) ++ (rck B T M d[k]).toList) := fm_take _ d k hkl
      have hlen : ((d.take k).filterMap (rck B T M)).length ≤ 1000 := by have := List.length_filterMap_le (rck B T M) (d.take k); simp only [List.length_take] at this; omega
      have D0 : SlB encC W W.heap.size (.slice (Option.map (·.add (k * 26)) ad) 1 (cap - k)) [d[k]] := by
        have h1 := SlB.drop HSL.out.2.2.2 k (by omega)
        rw [if_neg (show ¬ cap = k by omega)] at h1
        have h2 := SlB.take h1 1 (by simp; omega)
        rw [List.drop_eq_getElem_cons hkl] at h2
        exact h2
      have HRC : Hid (rck B T M d[k] = if !decide (look Pa.n B (d[k]).kz.n = look Pa.n T (d[k]).kz.n) && !decide (look Pa.n T (d[k]).kz.n = look Pa.n M (d[k]).kz.n) then some (d[k]).kz else none) := rfl
      have HAP : Hid (∀ r', ApplyIs r [d[k]] r' → ApplyIs t (d.take (k + 1)) r') := fun r' h => by rw [HTD.out]; exact apply_snoc ir h
      generalize d[k] = p at *
      generalize (d.take k).filterMap (rck B T M) = L1 at *
      have hcI : (k : Int) ≤ (cap : Int) := by omega
      have hcI1 : (k : Int) + 1 ≤ (cap : Int) := by omega
      have hkk : (k : Int) ≤ (k : Int) + 1 := by omega
      have HADX : Hid (ad = some ⟨g0, off, none⟩) := had
      have HD0 : Hid (SlB encC W W.heap.size (.slice (Option.map (·.add (k * 26)) ad) 1 (cap - k)) [p]) := D0
      clear HE hat hkl ir HTD
      subst had
      go_upto_region 11 with (first
        | (refine load_part _ rfl g0 (off + k * 26) rfl rfl _ p.h (range_kC hr1) ?_)
        | (refine store_el elK rfl _ _ rfl wr.heap.size rfl p.kz rfl kz0 (InB.new encK _ wr kz0 _ rfl) ?_; intro x1 hu1 tx1 sx1))
      have BX : Below wr.heap.size wr x1 := ((Below.refl _ wr).alloc (Nat.le_refl _) _).trans (tx1.below (by simp) (Nat.le_refl _) (by simp))
      have hB1 : Below W.heap.size W x1 := hB.trans (BX.mono hB.size)
      have sr1 := sr.called BX
      have ho1 := ho.below BX
      have hlu := ho.lt
      have hqq : wr.heap.size < x1.heap.size := hu1.lt
      clear hB sr ho hr1 tx1 sx1 BX D0
      generalize wr.heap.size = q at *
      generalize hAD : (some (⟨g0, off, none⟩ : Addr)) = ad at *
      clear hAD
      obtain ⟨aq, haq⟩ : ∃ aq, Option.map (·.add (k * 26)) ad = aq := ⟨_, rfl⟩
      have D1 := HD0.out.below hB1
      rw [haq] at D1
      have hA := rapplyN_calls x1 u8 (.slice aq 1 (cap - k)) r [p] sr1 (D1.wide hB1.size) (by omega) (by simp)
      have hnc : ¬ cap = k := by omega
      clear HD0 HADX D1
      go_upto_region 12 with (first
        | (go_at_call 16; refine hA.mono ?_; clear hA; rintro e w5 ⟨v5, r5, rfl, ⟨s5, n5⟩, i5, l5, b5⟩))
      have hu5 := hu1.below b5 hu1.lt
      have hB5 : Below W.heap.size W w5 := hB1.trans (b5.mono hB1.size)
      have ho5 := ho1.below b5
      have HI5 : Hid (ApplyIs t (d.take (k + 1)) r5 ∧ r5.length ≤ 500 + (k + 1)) := ⟨HAP.out r5 i5, by simp at l5; omega⟩
      have hL1 := alike_calls w5 v1 v2 B T p.kz (HSL.out.1.called hB5) (HSL.out.2.1.called hB5) HIS.out.1.1 HIS.out.2.1.1 (by have := HLN.out; omega) (by have := HLN.out; omega)
      have HS5 : Hid (Sl encP w5 v5 r5) := s5
      have HNV : Hid (∀ k, u9.ownBlock = some k → v5.ownBlock ≠ some k) := fun k hk e => by
        have h1 := n5 k e
        have h2 := (hlu k hk).2
        omega
      clear hu1 hB1 ho1 sr1 i5 l5 b5 HAP s5 haq hnc
      generalize hA1 : decide (look Pa.n B p.kz.n = look Pa.n T p.kz.n) = a1 at *
      generalize hA2 : decide (look Pa.n T p.kz.n = look Pa.n M p.kz.n) = a2 at *
      have HA2 : Hid (decide (look Pa.n T p.kz.n = look Pa.n M p.kz.n) = a2) := hA2
      clear hA1 hA2
      go_upto_region 13 with (first
        | (refine load_el elK _ rfl q 0 rfl rfl p.kz hu5.range ?_)
        | (go_at_call 35; refine hL1.mono ?_; clear hL1; rintro e w6 ⟨rfl, b6⟩))
      have hu6 := hu5.below b6 hu5.lt
      have hB6 : Below W.heap.size W w6 := hB5.trans (b6.mono hB5.size)
      have ho6 := ho5.below b6
      have hL2 := alike_calls w6 v2 v3 T M p.kz (HSL.out.2.1.called hB6) (HSL.out.2.2.1.called hB6) HIS.out.2.1.1 HIS.out.2.2.1.1 (by have := HLN.out; omega) (by have := HLN.out; omega)
      rw [HA2.out] at hL2
      have HS6 : Hid (Sl encP w6 v5 r5) := HS5.out.called b6
      clear hu5 hB5 ho5 b6 HS5
      go_upto_region 14 with (first
        | (refine load_el elK _ rfl q 0 rfl rfl p.kz hu6.range ?_)
        | (go_at_call 35; refine hL2.mono ?_; clear hL2; rintro e w7 ⟨rfl, b7⟩))
      have hu7 := hu6.below b7 hu6.lt
      have hB7 : Below W.heap.size W w7 := hB6.trans (b7.mono hB6.size)
      have ho7 := ho6.below b7
      have HS7 : Hid (Sl encP w7 v5 r5) := HS6.out.called b7
      clear hu6 hB6 ho6 b7 HS6
      by_cases hcl : (!a1 && !a2) = true
      · have h1 : a1 = false := by cases a1 <;> simp_all
        have h2 : a2 = false := by cases a1 <;> cases a2 <;> simp_all
        subst h1
        subst h2
        have HC : Hid (rck B T M p = some p.kz) := (show _ = _ by rw [HRC.out]; rfl)
        clear hcl HRC HA2
        go_wp2_with (first
          | (refine load_el elK _ rfl q 0 rfl rfl p.kz hu7.range ?_)
          | (refine build_el1 rowK rfl _ rfl p.kz rfl (by decide) ?_; intro z3 o3 b3 s3 h3
             have hb3 : Below W.heap.size W z3 := hB7.trans (b3.mono hB7.size)
             have hs3 := ho7.below b3)
          | (at_builtin; refine append_one rowK rfl _ _ rfl W.heap.size u9 L1 rfl hs3 w7.heap.size p.kz rfl (0, 0) _ h3 (by omega) (by decide) (by have := hb3.size; omega) ?_
             intro g5 cap5 z4 o4 gr4 nr4 lt4))
        go_roundg g
        case measure => omega
        case rel =>
          refine ⟨k + 1, by omega, congrArg (Value.int .i64) (by omega), ?_⟩
          have hs4 : Sl encP z4 v5 r5 := (HS7.out.called b3).oneBlock (fun j hj hlt => gr4.block j hlt (fun e => HNV.out j e.symm hj)) gr4.size
          exact (show Below W.heap.size W z4 ∧ (∃ r, Sl encP z4 v5 r ∧ ApplyIs t (d.take (k + 1)) r ∧ r.length ≤ 500 + (k + 1)) ∧ Own encK 41 z4 W.heap.size _ ((d.take (k + 1)).filterMap (rck B T M)) from ⟨hb3.grown gr4 hb3.size (fun i hi => (hlu i hi).1), ⟨r5, hs4, HI5.out.1, HI5.out.2⟩, by rw [HTK.out, HC.out]; exact o4⟩)
      · have HC : Hid (rck B T M p = none) := (show _ = _ by rw [HRC.out, if_neg hcl])
        have HFIN : Hid (Below W.heap.size W w7 ∧ (∃ r, Sl encP w7 v5 r ∧ ApplyIs t (d.take (k + 1)) r ∧ r.length ≤ 500 + (k + 1)) ∧ Own encK 41 w7 W.heap.size u9 ((d.take (k + 1)).filterMap (rck B T M))) := by
          refine ⟨hB7, ⟨r5, HS7.out, HI5.out.1, HI5.out.2⟩, ?_⟩
          rw [HTK.out, HC.out]
          simpa using ho7
        clear HRC HA2
        cases a1 with
        | true =>
          clear hcl
          go_wp2_with fail
          go_roundg g
          case measure => omega
          case rel => exact ⟨k + 1, by omega, congrArg (Value.int .i64) (by omega), HFIN⟩
        | false =>
          cases a2 with
          | true =>
            clear hcl
            go_wp2_with fail
            go_roundg g
            case measure => omega
            case rel => exact ⟨k + 1, by omega, congrArg (Value.int .i64) (by omega), HFIN⟩
          | false => exact absurd rfl hcl
end Go.Proofs.Ytbodbdcmkicmaaa
