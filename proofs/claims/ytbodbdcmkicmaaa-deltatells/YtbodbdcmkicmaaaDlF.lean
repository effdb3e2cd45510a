/- Merge of package delta, and the keys that clash. -/
import Derived.Test.YtbodbdcmkicmaaaDlD
namespace Go.Proofs.Ytbodbdcmkicmaaa
set_option linter.unusedVariables false
open Go.RowKit

/-- Does a change clash with those of b? -/
def clf (b : List Ch) (c : Ch) : Bool := match lastA Ch.n b c.n with
  | some o => !decide (o = c)
  | none => false
/-- Of one change its key, where it clashes. -/
def clk (b : List Ch) (c : Ch) : Option Kz := if clf b c then some c.kz else none
theorem last_look (b : List Ch) (x : Int) : look Ch.n (b.foldl (putA Ch.n) []) x = lastA Ch.n b x := by
  rw [(puts_is Ch.n b [] List.Pairwise.nil).2]
  simp [look]
theorem fm_take {α β : Type} (f : α → Option β) (l : List α) (k : Nat) (h : k < l.length) : (l.take (k + 1)).filterMap f = (l.take k).filterMap f ++ (f l[k]).toList := by
  rw [List.take_succ_eq_append_getElem h, List.filterMap_append]
  cases hf : f l[k] <;> simp [hf]
theorem clashes_is {b t n : List Pa} {d e : List Ch} (hd : DiffIs b n d) (he : DiffIs b t e) : ClashIs b t n (d.filterMap (clk e)) := by
  have h := clash_is (t := t) hd (clf e) (fun c hc => ?_)
  · exact h
  · have h1 := hd.2 c.n
    rw [look_mem Ch.n hd.1 hc] at h1
    have h2 := he.last c.n
    have hB := at_last b c.n
    have hT := at_last t c.n
    have hN := at_last n c.n
    unfold clf
    rw [h2]
    generalize lastA Pa.n b c.n = B at *
    generalize lastA Pa.n t c.n = T at *
    generalize lastA Pa.n n c.n = N at *
    have hBN : B ≠ N := fun q => by rw [q, diffA_same] at h1; cases h1
    by_cases q : B = T
    · rw [q, diffA_same]
      simp
    · obtain ⟨o, ho⟩ := Option.ne_none_iff_exists'.1 (diffA_done hB hT q none).2
      rw [ho]
      simp only [Bool.not_eq_true', decide_eq_false_iff_not, ne_eq, q, not_false_eq_true, true_and]
      have e1 := (diffA_done hB hT q none).1
      have e2 := (diffA_done hB hN hBN none).1
      rw [ho] at e1
      rw [← h1] at e2
      constructor
      · intro z y
        rw [y] at ho
        rw [← h1] at ho
        exact z (Option.some.inj ho).symm
      · intro z y
        rw [y] at e1
        exact z (e1.symm.trans e2)
set_option maxRecDepth 100000 in
set_option maxHeartbeats 8000000 in
theorem clashes_calls (w : World) (ua ub : Value) (a b : List Ch) (ha : Sl encC w ua a) (hb : Sl encC w ub b) (hla : a.length ≤ 100000) (hlb : b.length ≤ 100000) :
    Calls Try.prog 34 #[ua, ub] w fun e w' => ∃ v, e = .returned v ∧ Own encK 41 w' w.heap.size v (a.filterMap (clk b)) ∧ Below w.heap.size w w' := by
  have ha' := ha
  obtain ⟨ad, cap, rfl, hcap, hmax, _, _⟩ := ha'
  have hb' := hb
  obtain ⟨bd, cap2, rfl, hcap2, hmax2, _, _⟩ := hb'
  have HI : Hid (∀ i (hi : i < a.length), ∃ g off, ad = some ⟨g, off, none⟩ ∧ g < w.heap.size ∧ w.rangeAt g (off + i * 26) (encC.c a[i])) := fun i hi => SlB.at ha i hi
  have HJ : Hid (∀ i (hi : i < b.length), ∃ g off, bd = some ⟨g, off, none⟩ ∧ g < w.heap.size ∧ w.rangeAt g (off + i * 26) (encC.c b[i])) := fun i hi => SlB.at hb i hi
  obtain ⟨N, hN⟩ : ∃ N : Nat, N = a.length := ⟨_, rfl⟩
  rw [← hN] at hcap hmax hla ⊢
  have HN : Hid (N = a.length) := hN
  obtain ⟨M, hM⟩ : ∃ M : Nat, M = b.length := ⟨_, rfl⟩
  rw [← hM] at hcap2 hmax2 hlb ⊢
  have HM : Hid (M = b.length) := hM
  have HS : Hid (Below w.heap.size w (w.alloc (.map #[] 0)) ∧ MapA encC Ch.n (w.alloc (.map #[] 0)) w.heap.size 0 ((b.take 0).foldl (putA Ch.n) [])) := ⟨(Below.refl _ w).alloc (Nat.le_refl _) _, MapA.made _ _ w _ rfl⟩
  have hmm := @run_makeMap Try.prog
  clear hN hM ha hb
  go_enter Try.func34, Try.ntmps34
  go_wp2
  go_loopg [16] M (fun gg i wr => ∃ k : Nat, k + gg = M ∧ i = .int .i64 (k : Int) ∧ Hid (Below w.heap.size w wr ∧ MapA encC Ch.n wr w.heap.size k ((b.take k).foldl (putA Ch.n) [])))
  case atStart => exact ⟨0, by omega, rfl, HS.out⟩
  case round =>
    obtain ⟨k, hkg, rfl, HE⟩ := hrel
    clear HS
    cases gk with
    | zero =>
      have hkN : k = M := by omega
      subst hkN
      have hE := HE.out
      rw [List.take_of_length_le (by have := HM.out; omega)] at hE
      have HE2 : Hid (Below w.heap.size w wr ∧ MapA encC Ch.n wr w.heap.size k (b.foldl (putA Ch.n) [])) := hE
      have hwl : w.heap.size < wr.heap.size := hE.2.lt
      have HST : Hid (Below wr.heap.size wr wr ∧ Own encK 41 wr wr.heap.size (.slice none 0 0) ((a.take 0).filterMap (clk b))) := ⟨Below.refl _ _, Own.nil _ _ _ _⟩
      clear hE HE HJ
      generalize hW0 : wr = W0 at *
      clear hW0
      go_wp2_with fail
      go_loopg [8, 27] N (fun gg s8 i wr => ∃ j : Nat, j + gg = N ∧ i = .int .i64 (j : Int) ∧ Hid (Below W0.heap.size W0 wr ∧ Own encK 41 wr W0.heap.size s8 ((a.take j).filterMap (clk b))))
      case atStart => exact ⟨0, by omega, rfl, HST.out⟩
      case round =>
        obtain ⟨j, hjg, rfl, HX⟩ := hrel
        clear HST
        cases gk with
        | zero =>
          have hjN : j = N := by omega
          subst hjN
          go_wp2_with fail
          go_ret
          have h1 := HX.out
          rw [List.take_of_length_le (by have := HN.out; omega)] at h1
          exact ⟨_, rfl, h1.2.lower (by omega), HE2.out.1.trans (h1.1.mono (by omega))⟩
        | succ gg =>
          have hlt : j < N := by omega
          have hltI : (j : Int) < (N : Int) := by omega
          have hjl : j < a.length := by rw [← HN.out]; exact hlt
          obtain ⟨g0, off, rfl, hg0, hat⟩ := HI.out j hjl
          have HR : Hid (wr.rangeAt g0 (off + j * 26) (encC.c a[j])) := range_same' hat ((HX.out.1.block g0 (by omega)).trans (HE2.out.1.block g0 hg0))
          have HTK : Hid ((a.take (j + 1)).filterMap (clk b) = (a.take j).filterMap (clk b) ++ (clk b a[j]).toList) := fm_take _ a j hjl
          have hlen : ((a.take j).filterMap (clk b)).length ≤ j := by
            have := List.length_filterMap_le (clk b) (a.take j)
            simp at this
            omega
          generalize a[j] = p at *
          generalize (a.take j).filterMap (clk b) = L at *
          clear hat hjl
          go_upto_region 11 with (first
            | (refine load_el elC _ rfl g0 (off + j * 26) rfl rfl p HR.out ?_)
            | (refine store_el elC rfl _ _ rfl wr.heap.size rfl p rfl ch0 (InB.new encC _ wr ch0 _ rfl) ?_; intro x1 hu1 tx1 sx1))
          have BX : Below wr.heap.size wr x1 := ((Below.refl _ wr).alloc (Nat.le_refl _) _).trans (tx1.below (by simp) (Nat.le_refl _) (by simp))
          have hb1 : Below W0.heap.size W0 x1 := HX.out.1.trans (BX.mono HX.out.1.size)
          have ho1 := HX.out.2.below BX
          have hlu := HX.out.2.lt
          have hlk := (HE2.out.2.below hb1 (Nat.le_refl _)).look2 tyC p.kz
          rw [last_look] at hlk
          clear HX HR tx1 sx1 BX
          generalize wr.heap.size = q at *
          cases hL : lastA Ch.n b p.kz.n with
          | none =>
            rw [hL] at hlk
            have hlk' : (Instr.lookup 59 (.map (some w.heap.size)) (kv p.k) true).run Try.prog x1 = .ok (.tuple #[.agg (encC.c ch0).toArray, .bool false]) x1 := hlk
            have HCK : Hid (clk b p = none) := (show _ = _ by unfold clk clf; rw [show p.n = p.kz.n from rfl, hL]; rfl)
            clear hlk hL
            go_wp2_with (first
              | (refine load_part _ rfl q 0 rfl rfl _ p.h (range_kC hu1.range) ?_)
              | (refine store_el elC rfl _ _ rfl x1.heap.size rfl ch0 rfl ch0 (InB.new encC _ x1 ch0 _ rfl) ?_; intro x2 hu2 tx2 sx2))
            go_roundg gg
            case measure => omega
            case rel =>
              have B2 : Below x1.heap.size x1 x2 := ((Below.refl _ x1).alloc (Nat.le_refl _) _).trans (tx2.below (by simp) (Nat.le_refl _) (by simp))
              exact ⟨j + 1, by omega, congrArg (Value.int .i64) (by omega), (show Below W0.heap.size W0 x2 ∧ Own encK 41 x2 W0.heap.size _ ((a.take (j + 1)).filterMap (clk b)) from ⟨hb1.trans (B2.mono hb1.size), by rw [HTK.out, HCK.out]; simpa using ho1.below B2⟩)⟩
          | some o =>
            rw [hL] at hlk
            have hlk' : (Instr.lookup 59 (.map (some w.heap.size)) (kv p.k) true).run Try.prog x1 = .ok (.tuple #[.agg (encC.c o).toArray, .bool true]) x1 := hlk
            go_upto_region 12 with (first
              | (refine load_part _ rfl q 0 rfl rfl _ p.h (range_kC hu1.range) ?_)
              | (refine store_el elC rfl _ _ rfl x1.heap.size rfl o rfl ch0 (InB.new encC _ x1 ch0 _ rfl) ?_; intro x2 hu2 tx2 sx2))
            have B2 : Below x1.heap.size x1 x2 := ((Below.refl _ x1).alloc (Nat.le_refl _) _).trans (tx2.below (by simp) (Nat.le_refl _) (by simp))
            have hb2 : Below W0.heap.size W0 x2 := hb1.trans (B2.mono hb1.size)
            have ho2 := ho1.below B2
            have hp2 := hu1.below B2 hu1.lt
            clear hlk hlk' hu1 B2 tx2 sx2 hb1 ho1
            generalize x1.heap.size = qq at *
            by_cases hop : o = p
            · have HCK : Hid (clk b p = none) := (show _ = _ by unfold clk clf; rw [show p.n = p.kz.n from rfl, hL]; simp [hop])
              have hdo : decide (o = p) = true := decide_eq_true hop
              clear hL hop
              go_wp2_with (first
                | (refine load_el elC _ rfl qq 0 rfl rfl o hu2.range ?_)
                | (refine load_el elC _ rfl q 0 rfl rfl p hp2.range ?_)
                | (refine ne_C_op _ _ _ rfl rfl o p rfl rfl ?_; rw [hdo]))
              go_roundg gg
              case measure => omega
              case rel => exact ⟨j + 1, by omega, congrArg (Value.int .i64) (by omega), (show Below W0.heap.size W0 x2 ∧ Own encK 41 x2 W0.heap.size _ ((a.take (j + 1)).filterMap (clk b)) from ⟨hb2, by rw [HTK.out, HCK.out]; simpa using ho2⟩)⟩
            · have HCK : Hid (clk b p = some p.kz) := (show _ = _ by unfold clk clf; rw [show p.n = p.kz.n from rfl, hL]; simp [hop])
              have hdo : decide (o = p) = false := decide_eq_false hop
              clear hL hop
              go_wp2_with (first
                | (refine load_el elC _ rfl qq 0 rfl rfl o hu2.range ?_)
                | (refine load_el elC _ rfl q 0 rfl rfl p hp2.range ?_)
                | (refine ne_C_op _ _ _ rfl rfl o p rfl rfl ?_; rw [hdo])
                | (refine load_part _ rfl q 0 rfl rfl _ p.h (range_kC hp2.range) ?_)
                | (refine build_el1 rowK rfl _ rfl p.kz rfl (by decide) ?_; intro x3 ho3 b3 s3 h3
                   have hb3 : Below W0.heap.size W0 x3 := hb2.trans (b3.mono hb2.size)
                   have hs3 := ho2.below b3)
                | (at_builtin; refine append_one rowK rfl _ _ rfl W0.heap.size _ L rfl hs3 x2.heap.size p.kz rfl (0, 0) _ h3 (by omega) (by decide) (by have := hb3.size; omega) ?_
                   intro g cap x4 ho4 gr4 nr4 lt4))
              go_roundg gg
              case measure => omega
              case rel => exact ⟨j + 1, by omega, congrArg (Value.int .i64) (by omega), (show Below W0.heap.size W0 x4 ∧ Own encK 41 x4 W0.heap.size _ ((a.take (j + 1)).filterMap (clk b)) from ⟨hb3.grown gr4 hb3.size (fun i hi => (hlu i hi).1), by rw [HTK.out, HCK.out]; exact ho4⟩)⟩
    | succ gg =>
      have hlt : k < M := by omega
      have hltI : (k : Int) < (M : Int) := by omega
      have hkl : k < b.length := by rw [← HM.out]; exact hlt
      obtain ⟨g0, off, rfl, hg0, hat⟩ := HJ.out k hkl
      have HR : Hid (wr.rangeAt g0 (off + k * 26) (encC.c b[k])) := range_same' hat (HE.out.1.block g0 hg0)
      have HTK : Hid ((b.take (k + 1)).foldl (putA Ch.n) [] = putA Ch.n ((b.take k).foldl (putA Ch.n) []) b[k]) := puts_take Ch.n b k hkl
      generalize b[k] = p at *
      generalize (b.take k).foldl (putA Ch.n) [] = L at *
      clear hat hkl
      go_upto_region 5 with (first
        | (refine load_el elC _ rfl g0 (off + k * 26) rfl rfl p HR.out ?_)
        | (refine store_el elC rfl _ _ rfl wr.heap.size rfl p rfl ch0 (InB.new encC _ wr ch0 _ rfl) ?_; intro x1 hu1 tx1 sx1))
      have BX : Below wr.heap.size wr x1 := ((Below.refl _ wr).alloc (Nat.le_refl _) _).trans (tx1.below (by simp) (Nat.le_refl _) (by simp))
      have hb1 : Below w.heap.size w x1 := HE.out.1.trans (BX.mono HE.out.1.size)
      have hm1 := HE.out.2.below BX (Nat.le_refl _)
      clear HE HR tx1 sx1 BX
      generalize wr.heap.size = q at *
      go_wp2_with (first
        | (refine load_part _ rfl q 0 rfl rfl _ p.h (range_kC hu1.range) ?_)
        | (refine load_el elC _ rfl q 0 rfl rfl p hu1.range ?_)
        | (refine store_a tyC rfl _ _ _ rfl w.heap.size k L rfl hm1 (by omega) p.kz rfl p rfl rfl ?_; intro x2 hm2 gr2))
      go_roundg gg
      case measure => omega
      case rel => exact ⟨k + 1, by omega, congrArg (Value.int .i64) (by omega), (show Below w.heap.size w x2 ∧ MapA encC Ch.n x2 w.heap.size (k + 1) ((b.take (k + 1)).foldl (putA Ch.n) []) from ⟨hb1.grown gr2 hb1.size (fun j hj => by cases hj; exact Nat.le_refl _), by rw [HTK.out]; exact hm2⟩)⟩
/-- What a merge comes to. -/
def MergeIs (base theirs mine m : List Pa) (ks : List Kz) : Prop := (∃ d, DiffIs base mine d ∧ ApplyIs theirs d m) ∧ ClashIs base theirs mine ks
set_option maxRecDepth 100000 in
set_option maxHeartbeats 4000000 in
theorem merge_calls (w : World) (ub ut um : Value) (b t m : List Pa) (hb : Sl encP w ub b) (ht : Sl encP w ut t) (hm : Sl encP w um m) (lb : b.length ≤ 2000) (lt : t.length ≤ 2000) (lm : m.length ≤ 2000) :
    Calls Try.prog 22 #[ub, ut, um] w fun e w' => ∃ v u r ks, e = .returned (.tuple #[v, u]) ∧ Own encP 48 w' w.heap.size v r ∧ Own encK 41 w' w.heap.size u ks ∧ MergeIs b t m r ks ∧ r.length ≤ 10000 ∧ ks.length ≤ 10000 ∧ Below w.heap.size w w' := by
  have hD := diff_calls w ub um b m hb hm (by omega) (by omega)
  have HSB : Hid (Sl encP w ub b) := hb
  have HST : Hid (Sl encP w ut t) := ht
  clear hb ht hm
  go_enter Try.func22, Try.ntmps22
  go_upto_region 2 with (first
    | (go_at_call 18; refine hD.mono ?_; clear hD; rintro e w1 ⟨v1, d1, rfl, h1, i1, l1, b1⟩))
  have s1 : Sl encC w1 v1 d1 := h1.slB
  have hA := apply_calls w1 ut v1 t d1 (HST.out.called b1) s1 (by omega) (by omega)
  have HI1 : Hid (DiffIs b m d1) := i1
  have HB1 : Hid (Below w.heap.size w w1) := b1
  have HS1 : Hid (Sl encC w1 v1 d1) := s1
  have HSB1 : Hid (Sl encP w1 ub b ∧ Sl encP w1 ut t) := ⟨HSB.out.called b1, HST.out.called b1⟩
  clear HSB HST s1 h1 i1 b1
  go_wp2_with (first
    | (go_at_call 34; refine hC.mono ?_; clear hC; rintro e w4 ⟨v4, rfl, h4, b4⟩)
    | (go_at_call 18; refine hD2.mono ?_; clear hD2; rintro e w3 ⟨v3, d3, rfl, h3, i3, l3, b3⟩
       have hC := clashes_calls w3 v1 v3 d1 d3 (HS2.out.called b3) h3.slB (by omega) (by omega))
    | (go_at_call 15; refine hA.mono ?_; clear hA; rintro e w2 ⟨v2, m2, rfl, h2, i2, l2, b2⟩
       have hD2 := diff_calls w2 ub ut b t (HSB1.out.1.called b2) (HSB1.out.2.called b2) (by omega) (by omega)
       have HS2 : Hid (Sl encC w2 v1 d1) := HS1.out.called b2))
  go_ret2
  have z1 := HB1.out.size
  have z2 := b2.size
  have z3 := b3.size
  refine ⟨v2, v4, m2, _, rfl, ((h2.below b3).below b4).lower (by omega), h4.lower (by omega), ⟨⟨d1, HI1.out, i2⟩, clashes_is HI1.out i3⟩, by omega, ?_, ((HB1.out.trans (b2.mono z1)).trans (b3.mono (by omega))).trans (b4.mono (by omega))⟩
  have := List.length_filterMap_le (clk d3) d1
  omega
end Go.Proofs.Ytbodbdcmkicmaaa
