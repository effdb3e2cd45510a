/- Diff of package delta. -/
import Derived.Test.YtbodbdcmkicmaaaDlC
namespace Go.Proofs.Ytbodbdcmkicmaaa
set_option linter.unusedVariables false
open Go.RowKit

/-! What the two loops come to. -/
/-- The first loop: of the keys of LB those that are not to come are done with. -/
def LfIs (LA LB : List Pa) (todo : Kz → Bool) (Lf : List Pa) : Prop := ∀ K : Kz, look Pa.n Lf K.n = if (look Pa.n LB K.n).isSome && !todo K then none else look Pa.n LA K.n
def ChIs (LA LB : List Pa) (todo : Kz → Bool) (C : List Ch) : Prop := ∀ K : Kz, look Ch.n C K.n = if (look Pa.n LB K.n).isSome && !todo K then diffA (look Pa.n LA K.n) (look Pa.n LB K.n) else none
theorem lf_start (LA LB : List Pa) : LfIs LA LB (fun K => (look Pa.n LB K.n).isSome) LA := fun K => by cases h : (look Pa.n LB K.n).isSome <;> simp [h]
theorem ch_start (LA LB : List Pa) : ChIs LA LB (fun K => (look Pa.n LB K.n).isSome) [] := fun K => by cases h : (look Pa.n LB K.n).isSome <;> simp [h, look]
theorem lf_step {LA LB Lf : List Pa} {todo : Kz → Bool} (h : LfIs LA LB todo Lf) (ha : Asc Pa.n Lf) {K : Kz} (hs : (look Pa.n LB K.n).isSome = true) : LfIs LA LB (without todo K) (delA Pa.n Lf K.n) := fun J => by
  rw [delA_look Pa.n K.n J.n ha, h J]
  unfold without
  by_cases e : J = K
  · subst e
    simp [hs]
  · have e1 := kz_ne e
    rw [if_neg (fun q => e1 q.symm)]
    simp [e1]
theorem ch_same {LA LB : List Pa} {C : List Ch} {todo : Kz → Bool} (h : ChIs LA LB todo C) {K : Kz} (hK : todo K = true) (hd : diffA (look Pa.n LA K.n) (look Pa.n LB K.n) = none) : ChIs LA LB (without todo K) C := fun J => by
  rw [h J]
  unfold without
  by_cases e : J = K
  · subst e
    simp [hK, hd]
  · have e1 := kz_ne e
    simp [e1]
theorem ch_step {LA LB : List Pa} {C : List Ch} {todo : Kz → Bool} (h : ChIs LA LB todo C) (ha : Asc Ch.n C) {K : Kz} (hs : (look Pa.n LB K.n).isSome = true) {c : Ch} (hc : c.n = K.n) (hd : diffA (look Pa.n LA K.n) (look Pa.n LB K.n) = some c) : ChIs LA LB (without todo K) (putA Ch.n C c) := fun J => by
  rw [putA_look Ch.n c J.n ha, h J, hc]
  unfold without
  by_cases e : J = K
  · subst e
    simp [hs, hd]
  · have e1 := kz_ne e
    rw [if_neg (fun q => e1 q.symm)]
    simp [e1]
/-- The second loop: those that are left are gone. -/
def GoIs (Lf : List Pa) (C : List Ch) (todo : Kz → Bool) (D : List Ch) : Prop := ∀ K : Kz, look Ch.n D K.n = if (look Pa.n Lf K.n).isSome && !todo K then some ⟨K.k, K.h, [], true⟩ else look Ch.n C K.n
theorem go_start (Lf : List Pa) (C : List Ch) : GoIs Lf C (fun K => (look Pa.n Lf K.n).isSome) C := fun K => by cases h : (look Pa.n Lf K.n).isSome <;> simp [h]
theorem go_step {Lf : List Pa} {C D : List Ch} {todo : Kz → Bool} (h : GoIs Lf C todo D) (ha : Asc Ch.n D) {K : Kz} (hs : (look Pa.n Lf K.n).isSome = true) : GoIs Lf C (without todo K) (putA Ch.n D ⟨K.k, K.h, [], true⟩) := fun J => by
  rw [putA_look Ch.n _ J.n ha, h J, show Ch.n ⟨K.k, K.h, [], true⟩ = K.n from rfl]
  unfold without
  by_cases e : J = K
  · subst e
    simp [hs]
  · have e1 := kz_ne e
    rw [if_neg (fun q => e1 q.symm)]
    simp [e1]
theorem diff_end {a b LA LB Lf : List Pa} {C D : List Ch} {t1 t2 : Kz → Bool} (hA : MapIs a LA) (hB : MapIs b LB) (h1 : LfIs LA LB t1 Lf) (h2 : ChIs LA LB t1 C) (ht1 : ∀ K, t1 K = false) (h3 : GoIs Lf C t2 D) (ht2 : ∀ K, t2 K = false) (hD : Asc Ch.n D) : DiffIs a b D := by
  refine ⟨hD, fun x => ?_⟩
  by_cases hx : ∃ K : Kz, K.n = x
  · obtain ⟨K, rfl⟩ := hx
    rw [h3 K, h1 K, h2 K, ht1, ht2, ← hA.2, ← hB.2]
    cases eb : look Pa.n LB K.n with
    | some q => simp
    | none =>
      cases ea : look Pa.n LA K.n with
      | none => simp [diffA]
      | some p =>
        have hp := (look_key Pa.n ea).2
        simp only [Option.isSome_none, Bool.not_false, Bool.and_true, diffA]
        exact congrArg some (Ch.same (show (num K.k : Int) = (num p.k : Int) from hp.symm) rfl rfl)
  · have h4 : look Ch.n D x = none := by
      cases e : look Ch.n D x with
      | none => rfl
      | some c => exact absurd ⟨⟨c.k, c.h⟩, (look_key Ch.n e).2⟩ hx
    have h5 : ∀ l : List Pa, lastA Pa.n l x = none := fun l => by
      cases e : lastA Pa.n l x with
      | none => rfl
      | some c => exact absurd ⟨⟨c.k, c.h⟩, (lastA_key Pa.n e).2⟩ hx
    rw [h4, h5, h5]
    rfl
/-! What lies in memory meanwhile. -/
structure Md (w0 : World) (bA bC bB r nA nB n : Nat) (Lf LB : List Pa) (C : List Ch) (todo : Kz → Bool) (cnt : Nat) (y : World) : Prop where
  bel : Below bA w0 y
  rg : RangeA encP Pa.n y bB r nB LB todo cnt
  mf : MapA encP Pa.n y bA nA Lf
  mc : MapA encC Ch.n y bC n C
section
variable {w0 y z : World} {bA bC bB r nA nB n : Nat} {Lf LB : List Pa} {C : List Ch} {todo : Kz → Bool} {cnt : Nat}
theorem Md.below (h : Md w0 bA bC bB r nA nB n Lf LB C todo cnt y) (b : Below y.heap.size y z) : Md w0 bA bC bB r nA nB n Lf LB C todo cnt z := ⟨h.bel.trans (b.mono (Nat.le_of_lt h.mf.lt)), h.rg.below b (Nat.le_refl _), h.mf.below b (Nat.le_refl _), h.mc.below b (Nat.le_refl _)⟩
end
theorem mapBlock_ne {α : Type} {k : Nat} {E : Enc α k} {key : α → Int} {w : World} {b n : Nat} {L : List α} (h : MapA E key w b n L) {β : Type} {k' : Nat} {E' : Enc β k'} {ty : TypeId} {q : Nat} {x : β} (hq : InB E' ty w q x) : q ≠ b := fun e => by
  subst e
  obtain ⟨⟨D, ⟨es, clock, h1, _⟩, _⟩, _⟩ := h
  rw [hq.blk] at h1
  cases h1
/-- The change that Diff puts in for a pair that is another one, or new. -/
def Pa.chg (p : Pa) : Ch := ⟨p.k, p.h, p.v, false⟩
theorem diff_new {LA LB : List Pa} {K : Kz} {p : Pa} (hp : look Pa.n LB K.n = some p) (h : look Pa.n LA K.n = none) : diffA (look Pa.n LA K.n) (look Pa.n LB K.n) = some p.chg := by rw [hp, h]; rfl
theorem diff_other {LA LB : List Pa} {K : Kz} {p q : Pa} (hp : look Pa.n LB K.n = some p) (hq : look Pa.n LA K.n = some q) (hne : q ≠ p) : diffA (look Pa.n LA K.n) (look Pa.n LB K.n) = some p.chg := by
  rw [hp, hq, diffA, if_neg (fun e => hne (Pa.same ((look_key Pa.n hq).2.trans (look_key Pa.n hp).2.symm) e))]
  rfl
theorem diff_like {LA LB : List Pa} {K : Kz} {p : Pa} (hp : look Pa.n LB K.n = some p) (hq : look Pa.n LA K.n = some p) : diffA (look Pa.n LA K.n) (look Pa.n LB K.n) = none := by rw [hp, hq, diffA_same]
set_option maxRecDepth 100000 in
set_option maxHeartbeats 8000000 in
theorem diff_calls (w : World) (ua ub : Value) (a b : List Pa) (ha : Sl encP w ua a) (hb : Sl encP w ub b) (hla : a.length ≤ 10000) (hlb : b.length ≤ 10000) :
    Calls Try.prog 18 #[ua, ub] w fun e w' => ∃ v d, e = .returned v ∧ Own encC 43 w' w.heap.size v d ∧ DiffIs a b d ∧ d.length ≤ a.length + b.length ∧ Below w.heap.size w w' := by
  have hT := taken_calls w ua a ha (by omega)
  have HSB : Hid (Sl encP w ub b) := hb
  have HMA : Hid (MapIs a (a.foldl (putA Pa.n) [])) := map_is a
  have HMB : Hid (MapIs b (b.foldl (putA Pa.n) [])) := map_is b
  have hmm := @run_makeMap Try.prog
  clear ha hb
  go_enter Try.func18, Try.ntmps18
  go_upto_region 3 with (first
    | (go_at_call 29; refine hT.mono ?_; clear hT; rintro e w1 ⟨rfl, m1, b1⟩))
  generalize hLA : a.foldl (putA Pa.n) [] = LA at *
  have b2 : Below w1.heap.size w1 (w1.alloc (.map #[] 0)) := (Below.refl _ w1).alloc (Nat.le_refl _) _
  have mc2 : MapA encC Ch.n (w1.alloc (.map #[] 0)) w1.heap.size 0 [] := MapA.made _ _ w1 _ rfl
  have hT2 := taken_calls (w1.alloc (.map #[] 0)) ub b ((HSB.out.called b1).called b2) (by omega)
  have m2 := m1.alloc (.map #[] 0)
  have hAC : w.heap.size < w1.heap.size := m1.lt
  have HB2 : Hid (Below w.heap.size w (w1.alloc (.map #[] 0))) := b1.trans (b2.mono b1.size)
  have HS2 : Hid ((w1.alloc (.map #[] 0)).heap.size = w1.heap.size + 1) := (show _ = _ by simp)
  clear m1 b1 b2 HSB
  generalize w1.alloc (.map #[] 0) = w2 at *
  generalize w1.heap.size = bC at *
  obtain ⟨bA, hbA⟩ : ∃ bA, bA = w.heap.size := ⟨_, rfl⟩
  have HBA : Hid (bA = w.heap.size) := hbA
  rw [← hbA] at m2 hAC HB2
  rw [← hbA]
  clear hbA
  go_wp2_with (first
    | (at_range; go_loud (refine range_a tyP rfl _ rfl w2.heap.size b.length _ rfl m3 ?_; intro w4 cnt0 hrg0 hc0 hg0 hs0))
    | (go_at_call 29; refine hT2.mono ?_; clear hT2; rintro e w3 ⟨rfl, m3, b3⟩)
    | go_in)
  go_frame
  have hBs := HS2.out
  have hAl := puts_len0 Pa.n a
  have b4 : Below w2.heap.size w2 w4 := b3.trans ⟨hg0.os, hg0.tape, hg0.output, hg0.size, fun i hi => hg0.block i (by have := b3.size; omega) (by simp)⟩
  have HM0 : Hid (Md w bA bC w2.heap.size w3.heap.size a.length b.length 0 LA (b.foldl (putA Pa.n) []) [] (fun K => (look Pa.n (b.foldl (putA Pa.n) []) K.n).isSome) cnt0 w4) := ⟨HB2.out.trans (b4.mono (by omega)), hrg0, m2.below b4 (Nat.le_refl _), mc2.below b4 (Nat.le_refl _)⟩
  have hBR : w2.heap.size < w3.heap.size := m3.lt
  have HBB : Hid (bA < bC ∧ bC < w2.heap.size ∧ w2.heap.size < w3.heap.size) := ⟨hAC, by omega, hBR⟩
  rw [hLA] at hAl
  have HP0 : Hid (LfIs LA (b.foldl (putA Pa.n) []) (fun K => (look Pa.n (b.foldl (putA Pa.n) []) K.n).isSome) LA ∧ ChIs LA (b.foldl (putA Pa.n) []) (fun K => (look Pa.n (b.foldl (putA Pa.n) []) K.n).isSome) [] ∧ 0 + cnt0 ≤ b.length ∧ ([] : List Ch).length ≤ 0 ∧ LA.length ≤ a.length) := ⟨lf_start _ _, ch_start _ _, by omega, Nat.le_refl _, hAl⟩
  clear m3 b3 hrg0 hg0 hs0 m2 mc2 hBs hAC hBR hAl hLA b4 HS2
  generalize b.foldl (putA Pa.n) [] = LB at *
  generalize w2.heap.size = B at *
  generalize w3.heap.size = R at *
  go_loopg [7] cnt0 (fun gg _ wr => ∃ (todo : Kz → Bool) (n : Nat) (Lf : List Pa) (C : List Ch), Hid (Md w bA bC B R a.length b.length n Lf LB C todo gg wr) ∧ Hid (LfIs LA LB todo Lf ∧ ChIs LA LB todo C ∧ n + gg ≤ b.length ∧ C.length ≤ n ∧ Lf.length ≤ a.length))
  case atStart => exact ⟨_, 0, LA, [], HM0, HP0⟩
  case round =>
    obtain ⟨todo, n, Lf, C, HM, HP⟩ := hrel
    have hrg := HM.out.rg
    generalize gk = cnt at *
    clear HM0 HP0
    go_wp2_with (first
      | (at_next; refine next_a rfl _ rfl B R b.length LB todo cnt rfl hrg ?_ ?_)
      | go_in)
    · intro ht
      have HT1 : Hid (∀ K, todo K = false) := ht
      have hmf := HM.out.mf
      have HBW : Hid (Below bA w wr) := HM.out.bel
      have HMC : Hid (MapA encC Ch.n wr bC n C) := HM.out.mc
      have hn5 : n ≤ b.length := by have := HP.out.2.2.1; omega
      clear ht hrg HM
      go_wp2_with (first
        | (at_range; refine range_a tyP rfl _ rfl bA a.length Lf rfl hmf ?_; intro y1 cnt1 hrg1 hc1 hg1 hs1)
        | go_in)
      go_frame
      have HS1 : Hid (Below bA w y1 ∧ RangeA encP Pa.n y1 bA wr.heap.size a.length Lf (fun K => (look Pa.n Lf K.n).isSome) cnt1 ∧ MapA encC Ch.n y1 bC n C) := ⟨HBW.out.grown hg1 (Nat.le_of_lt hmf.lt) (fun k e => by cases e), hrg1, HMC.out.grown hg1 (by simp)⟩
      have HG1 : Hid (GoIs Lf C (fun K => (look Pa.n Lf K.n).isSome) C ∧ n + cnt1 ≤ n + a.length ∧ C.length ≤ n) := ⟨go_start _ _, by omega, HP.out.2.2.2.1⟩
      have hRB : bC < wr.heap.size := HMC.out.lt
      clear hmf HBW HMC hrg1 hg1 hs1 hc1
      generalize wr.heap.size = R2 at *
      go_loopg [11] cnt1 (fun gg _ wr => ∃ (todo2 : Kz → Bool) (n2 : Nat) (D : List Ch), Hid (Below bA w wr ∧ RangeA encP Pa.n wr bA R2 a.length Lf todo2 gg ∧ MapA encC Ch.n wr bC n2 D) ∧ Hid (GoIs Lf C todo2 D ∧ n2 + gg ≤ n + a.length ∧ D.length ≤ n2))
      case atStart => exact ⟨_, n, C, HS1, HG1⟩
      case round =>
        obtain ⟨todo2, n2, D, HM, HG⟩ := hrel
        have hrg := HM.out.2.1
        have hnb := HG.out.2.1
        clear HS1 HG1
        generalize gk = cnt3 at *
        go_wp2_with (first
          | (at_next; refine next_a rfl _ rfl bA R2 a.length Lf todo2 cnt3 rfl hrg ?_ ?_)
          | go_in)
        · intro ht2
          have hlen := HG.out.2.2
          have hR := risingC_calls wr bC n2 D HM.out.2.2 (by omega) (by omega)
          have HT2 : Hid (∀ K, todo2 K = false) := ht2
          clear ht2 hrg
          go_wp2_with (first
            | (go_at_call 32; refine hR.mono ?_; clear hR; rintro e w9 ⟨v, rfl, h2, b2⟩))
          go_ret
          have hM := HM.out
          have hbz := HBA.out
          subst hbz
          exact ⟨v, D, rfl, h2.lower hM.1.size, diff_end HMA.out HMB.out HP.out.1 HP.out.2.1 HT1.out HG.out.1 HT2.out hM.2.2.asc, by omega, hM.1.trans (b2.mono hM.1.size)⟩
        · intro K p x0 cnt4 hK hp hrg2 hlt hg2 hs2 hen
          have hBB := HBB.out
          have H1 : Hid (Below bA w x0 ∧ RangeA encP Pa.n x0 bA R2 a.length Lf (without todo2 K) cnt4 ∧ MapA encC Ch.n x0 bC n2 D) := ⟨HM.out.1.grown hg2 (Nat.le_of_lt hrg.map.lt) (fun k e => by cases e; omega), hrg2, HM.out.2.2.grown hg2 (by simp; omega)⟩
          have HLT : Hid (cnt4 < cnt3) := hlt
          have HPK : Hid (look Pa.n Lf K.n = some p) := hp
          clear hg2 hrg2 hs2 hlt hK hp hrg HM hBB
          go_upto_region 13 with (first
            | (refine store_el elK rfl _ _ rfl x0.heap.size rfl K rfl kz0 (InB.new encK _ x0 kz0 _ rfl) ?_; intro x1 hu1 tx1 sx1))
          have BX : Below x0.heap.size x0 x1 := ((Below.refl _ x0).alloc (Nat.le_refl _) _).trans (tx1.below (by simp) (Nat.le_refl _) (by simp))
          have H2 : Hid (Below bA w x1 ∧ RangeA encP Pa.n x1 bA R2 a.length Lf (without todo2 K) cnt4 ∧ MapA encC Ch.n x1 bC n2 D) := ⟨H1.out.1.trans (BX.mono (Nat.le_of_lt H1.out.2.1.map.lt)), H1.out.2.1.below BX (Nat.le_refl _), H1.out.2.2.below BX (Nat.le_refl _)⟩
          have hmc := H2.out.2.2
          clear H1 tx1 sx1 BX hen
          generalize x0.heap.size = q at *
          go_wp2_with (first
            | (refine load_el elK _ rfl q 0 rfl rfl K hu1.range ?_)
            | (refine build_gone rfl _ _ rfl K rfl rfl ?_)
            | (at_mapUpdate; refine store_a tyC rfl _ _ _ rfl bC n2 D rfl hmc (by omega) K rfl ⟨K.k, K.h, [], true⟩ rfl rfl ?_; intro x4 hmc4 gr4))
          go_roundg cnt4
          case rel =>
            have hM := H2.out
            have hB := HBB.out
            exact ⟨_, n2 + 1, _, (show Below bA w x4 ∧ RangeA encP Pa.n x4 bA R2 a.length Lf (without todo2 K) cnt4 ∧ MapA encC Ch.n x4 bC (n2 + 1) _ from ⟨hM.1.grown gr4 (Nat.le_of_lt hM.2.1.map.lt) (fun k e => by cases e; omega), hM.2.1.kept gr4 (by simp; omega) (by simp; omega), hmc4⟩),
              (show GoIs Lf C (without todo2 K) _ ∧ _ ∧ _ from ⟨go_step HG.out.1 hM.2.2.asc (by rw [HPK.out]; rfl), by have := HLT.out; omega, by have := putA_len Ch.n D ⟨K.k, K.h, [], true⟩; have := HG.out.2.2; omega⟩)⟩
          case measure => exact HLT.out
    · intro K p x0 cnt2 hK hp hrg2 hlt hg2 hs2 hen
      obtain rfl : K = p.kz := Kz.same (look_key Pa.n hp).2.symm
      have hrn := hrg.lt
      have H1 : Hid (Md w bA bC B R a.length b.length n Lf LB C (without todo p.kz) cnt2 x0) := ⟨HM.out.bel.grown hg2 (Nat.le_of_lt HM.out.mf.lt) (fun k e => by cases e; have := HBB.out; omega), hrg2, HM.out.mf.grown hg2 (by have := HBB.out; simp; omega), HM.out.mc.grown hg2 (by have := HBB.out; simp; omega)⟩
      have HLT : Hid (cnt2 < cnt) := hlt
      have HK : Hid (todo p.kz = true) := hK
      have HPK : Hid (look Pa.n LB p.kz.n = some p) := hp
      have hLf : look Pa.n Lf p.kz.n = look Pa.n LA p.kz.n := by
        have := HP.out.1 p.kz
        rw [hK] at this
        simpa using this
      have HLF : Hid (look Pa.n Lf p.kz.n = look Pa.n LA p.kz.n) := hLf
      clear hg2 hrg2 hs2 hlt hK hp hLf hrg HM hrn
      go_upto_region 6 with (first
        | (refine store_el elK rfl _ _ rfl x0.heap.size rfl p.kz rfl kz0 ((InB.new encK _ x0 kz0 _ rfl).alloc _) ?_; intro x1 hu1 tx1 sx1
           have hz1 : InB encP 48 x1 (x0.heap.size + 1) pa0 := (InB.new encP _ (x0.alloc (.cells (encK.c kz0).toArray 41)) pa0 _ (by simp)).touch tx1 (by omega) (by simp))
        | (refine store_el elP rfl _ _ rfl (x0.heap.size + 1) rfl p rfl pa0 hz1 ?_; intro x2 hu2 tx2 sx2))
      have BX : Below x0.heap.size x0 x2 := ((((Below.refl _ x0).alloc (Nat.le_refl _) _).alloc (by simp) _).trans (tx1.below (by simp; omega) (Nat.le_refl _) (by simp))).trans (tx2.below (by rw [sx1]; simp; omega) (by omega) (by simp))
      have H2 : Hid (Md w bA bC B R a.length b.length n Lf LB C (without todo p.kz) cnt2 x2) := H1.out.below BX
      have hK2 : InB encK 41 x2 x0.heap.size p.kz := hu1.touch tx2 (by omega) (by simp)
      have hlk := H2.out.mf.look2 tyP p.kz
      have cv := range_vP hu2.range
      simp only [Nat.zero_add] at cv
      clear H1 tx1 tx2 sx1 sx2 BX hu1 hz1 hen
      generalize x0.heap.size = q at *
      cases hLA : look Pa.n LA p.kz.n with
      | none =>
        rw [HLF.out, hLA] at hlk
        have hlk' : (Instr.lookup 54 (.map (some bA)) (.agg (encK.c p.kz).toArray) true).run Try.prog x2 = .ok (.tuple #[.agg (encP.c pa0).toArray, .bool false]) x2 := hlk
        have HDF : Hid (diffA (look Pa.n LA p.kz.n) (look Pa.n LB p.kz.n) = some p.chg) := diff_new HPK.out hLA
        clear hlk hLA
        go_upto_region 7 with (first
          | (refine load_el elK _ rfl q 0 rfl rfl p.kz hK2.range ?_)
          | (refine store_el elP rfl _ _ rfl x2.heap.size rfl pa0 rfl pa0 (InB.new encP _ x2 pa0 _ rfl) ?_; intro x3 hu3 tx3 sx3))
        have B3 : Below x2.heap.size x2 x3 := ((Below.refl _ x2).alloc (Nat.le_refl _) _).trans (tx3.below (by simp) (Nat.le_refl _) (by simp))
        have H3 := H2.out.below B3
        have hK3 := hK2.below B3 hK2.lt
        have hP3 := hu2.below B3 hu2.lt
        have cv3 := (B3.cell (p := ⟨q + 1, 24, none⟩) hu2.lt).trans cv
        have HK3 : Hid (InB encK 41 x3 q p.kz) := hK3
        have HM3 : Hid (Md w bA bC B R a.length b.length n Lf LB C (without todo p.kz) cnt2 x3) := H3
        have hmc := H3.mc
        have hmf := H3.mf
        have hn9 : n < 1000000000 := by have := HP.out.2.2.1; omega
        clear H2 B3 tx3 sx3 hK2 hu2 cv hlk' H3
        generalize x2.heap.size = qq at *
        go_wp2_with (first
          | (refine load_el elK _ rfl q 0 rfl rfl p.kz hK3.range ?_)
          | (refine build_put rfl _ _ rfl p.chg rfl rfl rfl ?_)
          | (at_mapUpdate; refine store_a tyC rfl _ _ _ rfl bC n C rfl hmc hn9 p.kz rfl p.chg rfl rfl ?_; intro x4 hmc4 gr4
             have hK3 := HK3.out.same (gr4.block q HK3.out.lt (fun e => mapBlock_ne HM3.out.mc HK3.out (by cases e; rfl)))
             have hmf := HM3.out.mf.grown gr4 (by have := HBB.out; simp; omega))
          | (at_delete; refine drop_a tyP rfl _ _ rfl bA a.length Lf rfl hmf p.kz rfl ?_; intro x5 hmf5 gr5))
        go_roundg cnt2
        case rel =>
          have hP := HP.out
          have hM := HM3.out
          have hB := HBB.out
          have m5 : Md w bA bC B R a.length b.length (n + 1) (delA Pa.n Lf p.kz.n) LB (putA Ch.n C p.chg) (without todo p.kz) cnt2 x5 := ⟨(hM.bel.grown gr4 (Nat.le_of_lt hM.mf.lt) (fun k e => by cases e; omega)).grown gr5 (Nat.le_of_lt (hM.mf.grown gr4 (by simp; omega)).lt) (fun k e => by cases e; omega), (hM.rg.kept gr4 (by simp; omega) (by simp; omega)).kept gr5 (by simp; omega) (by simp; omega), hmf5, hmc4.grown gr5 (by simp; omega)⟩
          exact ⟨_, n + 1, _, _, m5, (show LfIs LA LB _ _ ∧ ChIs LA LB _ _ ∧ _ ∧ _ ∧ _ from ⟨lf_step hP.1 hM.mf.asc (by rw [HPK.out]; rfl), ch_step hP.2.1 hM.mc.asc (by rw [HPK.out]; rfl) rfl HDF.out, by have := hP.2.2.1; have := HLT.out; omega, by have := putA_len Ch.n C p.chg; omega, by have := delA_len Pa.n Lf p.kz.n; omega⟩)⟩
        case measure => exact HLT.out
      | some o =>
        rw [HLF.out, hLA] at hlk
        have hlk' : (Instr.lookup 54 (.map (some bA)) (.agg (encK.c p.kz).toArray) true).run Try.prog x2 = .ok (.tuple #[.agg (encP.c o).toArray, .bool true]) x2 := hlk
        by_cases hop : o = p
        · have HDF : Hid (diffA (look Pa.n LA p.kz.n) (look Pa.n LB p.kz.n) = none) := diff_like HPK.out (by rw [hLA, hop])
          have hdo : decide (o = p) = true := decide_eq_true hop
          clear hlk hLA hop
          go_upto_region 7 with (first
            | (refine load_el elK _ rfl q 0 rfl rfl p.kz hK2.range ?_)
            | (refine store_el elP rfl _ _ rfl x2.heap.size rfl o rfl pa0 (InB.new encP _ x2 pa0 _ rfl) ?_; intro x3 hu3 tx3 sx3))
          have B3 : Below x2.heap.size x2 x3 := ((Below.refl _ x2).alloc (Nat.le_refl _) _).trans (tx3.below (by simp) (Nat.le_refl _) (by simp))
          have H3 := H2.out.below B3
          have hK3 := hK2.below B3 hK2.lt
          have hP3 := hu2.below B3 hu2.lt
          have cv3 := (B3.cell (p := ⟨q + 1, 24, none⟩) hu2.lt).trans cv
          have HK3 : Hid (InB encK 41 x3 q p.kz) := hK3
          have HM3 : Hid (Md w bA bC B R a.length b.length n Lf LB C (without todo p.kz) cnt2 x3) := H3
          have hmc := H3.mc
          have hmf := H3.mf
          have hn9 : n < 1000000000 := by have := HP.out.2.2.1; omega
          clear H2 B3 tx3 sx3 hK2 hu2 cv hlk' H3
          generalize x2.heap.size = qq at *
          go_wp2_with (first
            | (refine load_el elK _ rfl q 0 rfl rfl p.kz hK3.range ?_)
            | (refine load_el elP _ rfl qq 0 rfl rfl o hu3.range ?_)
            | (refine load_el elP _ rfl (q + 1) 0 rfl rfl p hP3.range ?_)
            | (refine ne_P_op _ _ _ rfl rfl o p rfl rfl ?_; rw [hdo])
            | (at_delete; refine drop_a tyP rfl _ _ rfl bA a.length Lf rfl hmf p.kz rfl ?_; intro x5 hmf5 gr5))
          go_roundg cnt2
          case rel =>
            have hP := HP.out
            have hM := HM3.out
            have hB := HBB.out
            have m5 : Md w bA bC B R a.length b.length n (delA Pa.n Lf p.kz.n) LB C (without todo p.kz) cnt2 x5 := ⟨hM.bel.grown gr5 (Nat.le_of_lt hM.mf.lt) (fun k e => by cases e; omega), hM.rg.kept gr5 (by simp; omega) (by simp; omega), hmf5, hM.mc.grown gr5 (by simp; omega)⟩
            exact ⟨_, n, _, _, m5, (show LfIs LA LB _ _ ∧ ChIs LA LB _ _ ∧ _ ∧ _ ∧ _ from ⟨lf_step hP.1 hM.mf.asc (by rw [HPK.out]; rfl), ch_same hP.2.1 HK.out HDF.out, by have := hP.2.2.1; have := HLT.out; omega, hP.2.2.2.1, by have := delA_len Pa.n Lf p.kz.n; omega⟩)⟩
          case measure => exact HLT.out
        · have HDF : Hid (diffA (look Pa.n LA p.kz.n) (look Pa.n LB p.kz.n) = some p.chg) := diff_other HPK.out hLA hop
          have hdo : decide (o = p) = false := decide_eq_false hop
          clear hlk hLA hop
          go_upto_region 7 with (first
            | (refine load_el elK _ rfl q 0 rfl rfl p.kz hK2.range ?_)
            | (refine store_el elP rfl _ _ rfl x2.heap.size rfl o rfl pa0 (InB.new encP _ x2 pa0 _ rfl) ?_; intro x3 hu3 tx3 sx3))
          have B3 : Below x2.heap.size x2 x3 := ((Below.refl _ x2).alloc (Nat.le_refl _) _).trans (tx3.below (by simp) (Nat.le_refl _) (by simp))
          have H3 := H2.out.below B3
          have hK3 := hK2.below B3 hK2.lt
          have hP3 := hu2.below B3 hu2.lt
          have cv3 := (B3.cell (p := ⟨q + 1, 24, none⟩) hu2.lt).trans cv
          have HK3 : Hid (InB encK 41 x3 q p.kz) := hK3
          have HM3 : Hid (Md w bA bC B R a.length b.length n Lf LB C (without todo p.kz) cnt2 x3) := H3
          have hmc := H3.mc
          have hmf := H3.mf
          have hn9 : n < 1000000000 := by have := HP.out.2.2.1; omega
          clear H2 B3 tx3 sx3 hK2 hu2 cv hlk' H3
          generalize x2.heap.size = qq at *
          go_wp2_with (first
            | (refine load_el elK _ rfl q 0 rfl rfl p.kz hK3.range ?_)
            | (refine load_el elP _ rfl qq 0 rfl rfl o hu3.range ?_)
            | (refine load_el elP _ rfl (q + 1) 0 rfl rfl p hP3.range ?_)
            | (refine ne_P_op _ _ _ rfl rfl o p rfl rfl ?_; rw [hdo])
            | (refine build_put rfl _ _ rfl p.chg rfl rfl rfl ?_)
            | (at_mapUpdate; refine store_a tyC rfl _ _ _ rfl bC n C rfl hmc hn9 p.kz rfl p.chg rfl rfl ?_; intro x4 hmc4 gr4
               have hK3 := HK3.out.same (gr4.block q HK3.out.lt (fun e => mapBlock_ne HM3.out.mc HK3.out (by cases e; rfl)))
               have hmf := HM3.out.mf.grown gr4 (by have := HBB.out; simp; omega))
            | (at_delete; refine drop_a tyP rfl _ _ rfl bA a.length Lf rfl hmf p.kz rfl ?_; intro x5 hmf5 gr5))
          go_roundg cnt2
          case rel =>
            have hP := HP.out
            have hM := HM3.out
            have hB := HBB.out
            have m5 : Md w bA bC B R a.length b.length (n + 1) (delA Pa.n Lf p.kz.n) LB (putA Ch.n C p.chg) (without todo p.kz) cnt2 x5 := ⟨(hM.bel.grown gr4 (Nat.le_of_lt hM.mf.lt) (fun k e => by cases e; omega)).grown gr5 (Nat.le_of_lt (hM.mf.grown gr4 (by simp; omega)).lt) (fun k e => by cases e; omega), (hM.rg.kept gr4 (by simp; omega) (by simp; omega)).kept gr5 (by simp; omega) (by simp; omega), hmf5, hmc4.grown gr5 (by simp; omega)⟩
            exact ⟨_, n + 1, _, _, m5, (show LfIs LA LB _ _ ∧ ChIs LA LB _ _ ∧ _ ∧ _ ∧ _ from ⟨lf_step hP.1 hM.mf.asc (by rw [HPK.out]; rfl), ch_step hP.2.1 hM.mc.asc (by rw [HPK.out]; rfl) rfl HDF.out, by have := hP.2.2.1; have := HLT.out; omega, by have := putA_len Ch.n C p.chg; omega, by have := delA_len Pa.n Lf p.kz.n; omega⟩)⟩
          case measure => exact HLT.out
end Go.Proofs.Ytbodbdcmkicmaaa
