/- A superblock of at most ten snapshots, its own. -/
import Derived.Test.YtnpohjbhfoebcaaSupU
namespace Go.Proofs.Ytnpohjbhfoebcaa
set_option linter.unusedVariables false
open Go.RowKit

def cutS (S : Sup) : Sup := { S with l := S.l.take 10 }
theorem take_snaps {w : World} {g off : Nat} {l : List Snp} (m : Nat) (h : ∀ i (hi : i < l.length), SnpAt w g (off + i * 3) l[i]) : ∀ j u, (sncs (l.take m))[j]? = some u → w.cell? ((⟨g, off, none⟩ : Addr).add j) = some u := fun j u hu => by
  rw [add_lit]
  refine sncs_cells (l := l.take m) (fun i hi => ?_) j u hu
  rw [List.getElem_take]
  exact h i (by simp at hi; omega)
/-- Snapshots of their own, made since there were B blocks. -/
def SnaN (x : World) (sv : Value) (l : List Snp) (B : Nat) : Prop := ∃ r, SnapsIn x sv l r ∧ ∀ k, r = some k → B ≤ k ∧ k < x.heap.size
theorem SnaN.sna {x : World} {sv : Value} {l : List Snp} {B : Nat} (h : SnaN x sv l B) : Sna x sv l := by
  obtain ⟨r, h1, h2⟩ := h
  exact ⟨r, h1, fun k hk => (h2 k hk).2⟩
theorem SnaN.touch {x y : World} {sv : Value} {l : List Snp} {B p : Nat} (h : SnaN x sv l B) (t : Touch p none x y) (hp : p < B) : Sna y sv l := by
  obtain ⟨r, h1, h2⟩ := h
  exact ⟨r, h1.kept fun k hk => t.block k (h2 k hk).2 (by have := h2 k hk; omega) (by simp), fun k hk => by have := h2 k hk; have := t.size; omega⟩
theorem min_ten (n : Nat) : min (n : Int) 10 = ((min n 10 : Nat) : Int) := by omega

set_option maxHeartbeats 8000000 in
theorem cut_calls (w : World) (S : Sup) (sv : Value) (h : Sna w sv S.l) (hnil : ∀ n c, sv = .slice none n c → c = 0) :
    Calls Try.prog 6 #[uv S sv] w fun e w' => ∃ tv, e = .returned (uv (cutS S) tv) ∧ SnaN w' tv (cutS S).l w.heap.size ∧ Below w.heap.size w w' := by
  obtain ⟨r, ⟨ad, cap, rfl, hcap, hmax, hin⟩, hr⟩ := h
  obtain ⟨g, rt, x, c, l⟩ := S
  simp only at hin hcap hmax
  obtain ⟨i0, hi, hz0, hz1, hz2⟩ := info_parts Try.info_snap
  obtain ⟨m, hm⟩ : ∃ m : Nat, m = min l.length 10 := ⟨_, rfl⟩
  have hml : m ≤ l.length := by omega
  have hm10 : m ≤ 10 := by omega
  have hmin : min ((l.length : Nat) : Int) 10 = (m : Int) := by rw [hm]; exact min_ten _
  have hmc : (m : Int) ≤ (cap : Int) := by omega
  have hmc2 : m ≤ cap := by omega
  have htk : l.take 10 = l.take m := by rw [hm]; by_cases h10 : l.length ≤ 10
                                        · rw [Nat.min_eq_left h10, List.take_length, List.take_of_length_le h10]
                                        · rw [Nat.min_eq_right (by omega)]
  have HTK : Hid (cutS ⟨g, rt, x, c, l⟩ = ⟨g, rt, x, c, l.take m⟩) := (show _ = _ by rw [cutS, htk])
  have HML : Hid ((l.take m).length = m) := (show _ = _ by simp; omega)
  have HU0 : Hid (HasU (w.alloc (.cells (uc ⟨g, rt, x, c, l⟩ (.slice ad l.length cap)) 24)) w.heap.size ⟨g, rt, x, c, l⟩ (.slice ad l.length cap)) := HasU.new w _ _ _ rfl rfl
  have hown0 : ∀ W : World, w.heap.size ≤ W.heap.size → (W.alloc (.cells #[] 40)).ownsRow w.heap.size 40 3 (.slice (some ⟨W.heap.size, 0, none⟩) 0 0) 0 [] := fun W hW => World.ownsRow_made (base := w.heap.size) (e := 40) (size := 3) W #[] 0 hW (by unfold maxLen; omega) rfl
  clear hm htk
  go_enter Try.func6, Try.ntmps6
  go_upto_region 1 with fail
  have Z0 : HasU ((w.alloc (.cells (uc ⟨g, rt, x, c, l⟩ (.slice ad l.length cap)) 24)).alloc (.cells (uc nilU (.slice none 0 0)) 24)) (w.heap.size + 1) nilU (.slice none 0 0) := HasU.new _ _ _ _ (by simp) rfl
  have U0 := HU0.out.alloc (.cells (uc nilU (.slice none 0 0)) 24)
  have B0 : Below w.heap.size w ((w.alloc (.cells (uc ⟨g, rt, x, c, l⟩ (.slice ad l.length cap)) 24)).alloc (.cells (uc nilU (.slice none 0 0)) 24)) := ((Below.refl _ w).alloc (Nat.le_refl _) _).alloc (by simp) _
  have S0 : ((w.alloc (.cells (uc ⟨g, rt, x, c, l⟩ (.slice ad l.length cap)) 24)).alloc (.cells (uc nilU (.slice none 0 0)) 24)).heap.size = w.heap.size + 2 := by simp
  have Z0' : HasU ((w.alloc (.cells (uc ⟨g, rt, x, c, l⟩ (.slice ad l.length cap)) 24)).alloc (.cells #[.int .i64 0, .int .i64 0, .int .i64 0, .int .i64 0, .slice none 0 0] 24)) (w.heap.size + 1) nilU (.slice none 0 0) := Z0
  have U0' : HasU ((w.alloc (.cells (uc ⟨g, rt, x, c, l⟩ (.slice ad l.length cap)) 24)).alloc (.cells #[.int .i64 0, .int .i64 0, .int .i64 0, .int .i64 0, .slice none 0 0] 24)) w.heap.size ⟨g, rt, x, c, l⟩ (.slice ad l.length cap) := U0
  have B0' : Below w.heap.size w ((w.alloc (.cells (uc ⟨g, rt, x, c, l⟩ (.slice ad l.length cap)) 24)).alloc (.cells #[.int .i64 0, .int .i64 0, .int .i64 0, .int .i64 0, .slice none 0 0] 24)) := B0
  have S0' : ((w.alloc (.cells (uc ⟨g, rt, x, c, l⟩ (.slice ad l.length cap)) 24)).alloc (.cells #[.int .i64 0, .int .i64 0, .int .i64 0, .int .i64 0, .slice none 0 0] 24)).heap.size = w.heap.size + 2 := S0
  clear Z0 U0 B0 S0 HU0
  generalize (w.alloc (.cells (uc ⟨g, rt, x, c, l⟩ (.slice ad l.length cap)) 24)).alloc (.cells #[.int .i64 0, .int .i64 0, .int .i64 0, .int .i64 0, .slice none 0 0] 24) = W at *
  have own0 := hown0 W B0'.size
  have k4 := fun o => (U0'.alloc o).cells.2.2.2.2
  have HU : Hid (HasU W w.heap.size ⟨g, rt, x, c, l⟩ (.slice ad l.length cap)) := U0'
  have HZ : Hid (HasU W (w.heap.size + 1) nilU (.slice none 0 0)) := Z0'
  clear hown0 U0' Z0'
  cases ad with
  | none =>
    have hc0 : cap = 0 := hnil _ _ rfl
    have hl0 : l = [] := by
      rcases hin with e | ⟨_, _, e, _⟩
      · exact e
      · cases e
    subst hc0 hl0
    have hm0 : m = 0 := by simpa using hml
    subst hm0
    have U1 := HU.out.alloc (.cells #[] 40)
    have f4 := U1.free 4
    go_upto_region 2 with (at_builtin; refine wpList_append_own_none rfl (.tmp 3) (.tmp 10) 22 rfl w.heap.size 40 i0 3 Try.underlying22 hi (.slice (some ⟨W.heap.size, 0, none⟩) 0 0) 0 [] rfl own0 rfl ?_)
    have U2 : HasU ((W.setCell ⟨w.heap.size, 4, none⟩ (.slice (some ⟨w.heap.size + 2, 0, none⟩) 0 0)).alloc (.cells #[] 40)) w.heap.size ⟨g, rt, x, c, ([] : List Snp).take 0⟩ (.slice (some ⟨w.heap.size + 2, 0, none⟩) 0 0) := (HU.out.set4 ⟨g, rt, x, c, ([] : List Snp).take 0⟩ (.slice (some ⟨w.heap.size + 2, 0, none⟩) 0 0) rfl rfl).alloc _
    have Z2 : HasU ((W.setCell ⟨w.heap.size, 4, none⟩ (.slice (some ⟨w.heap.size + 2, 0, none⟩) 0 0)).alloc (.cells #[] 40)) (w.heap.size + 1) nilU (.slice none 0 0) := (HZ.out.same (Below.heap_setCell _ _ _ _ (by simp))).alloc _
    have B2 : Below w.heap.size w ((W.setCell ⟨w.heap.size, 4, none⟩ (.slice (some ⟨w.heap.size + 2, 0, none⟩) 0 0)).alloc (.cells #[] 40)) := (B0'.setCell (by simp) _).alloc (by have := B0'.size; simp [World.setCell]; omega) _
    have N2 : ∃ r, SnapsIn ((W.setCell ⟨w.heap.size, 4, none⟩ (.slice (some ⟨w.heap.size + 2, 0, none⟩) 0 0)).alloc (.cells #[] 40)) (.slice (some ⟨w.heap.size + 2, 0, none⟩) 0 0) (([] : List Snp).take 0) r ∧ (∀ k, r = some k → k < ((W.setCell ⟨w.heap.size, 4, none⟩ (.slice (some ⟨w.heap.size + 2, 0, none⟩) 0 0)).alloc (.cells #[] 40)).heap.size) ∧ (∀ k, r = some k → k ≠ w.heap.size + 1) ∧ ∀ k, r = some k → w.heap.size ≤ k := ⟨none, ⟨_, 0, rfl, Nat.le_refl _, Nat.zero_le _, .inl rfl⟩, (fun k hk => by cases hk), (fun k hk => by cases hk), (fun k hk => by cases hk)⟩
    clear U1 f4 own0 k4 HU HZ
    generalize ((W.setCell ⟨w.heap.size, 4, none⟩ (.slice (some ⟨w.heap.size + 2, 0, none⟩) 0 0)).alloc (.cells #[] 40)) = x1 at *
    have Z2' : Hid (HasU x1 (w.heap.size + 1) nilU (.slice none 0 0)) := Z2
    have U2' : Hid (HasU x1 w.heap.size ⟨g, rt, x, c, ([] : List Snp).take 0⟩ (.slice (some ⟨w.heap.size + 2, 0, none⟩) 0 0)) := U2
    clear Z2 U2
    go_wp2_with (first
      | (refine load_sup _ rfl w.heap.size rfl rfl _ _ U2'.out ?_)
      | (refine store_sup rfl _ _ rfl (w.heap.size + 1) rfl ⟨g, rt, x, c, ([] : List Snp).take 0⟩ (.slice (some ⟨w.heap.size + 2, 0, none⟩) 0 0) rfl rfl nilU (.slice none 0 0) Z2'.out ?_; intro y hy ty sy))
    refine ret_sup rfl _ _ _ rfl hy rfl ⟨(.slice (some ⟨w.heap.size + 2, 0, none⟩) 0 0), by rw [HTK.out], ?_, below_rowed B2 ty (by omega) (Nat.le_refl _)⟩
    rw [HTK.out]
    obtain ⟨r2, s2, lt2, ne2, ge2⟩ := N2
    exact ⟨r2, s2.kept fun k hk => ty.block k (lt2 k hk) (ne2 k hk) (by simp), fun k hk => ⟨ge2 k hk, by have := lt2 k hk; omega⟩⟩
  | some y =>
    have HIN : Hid (l = [] ∨ ∃ g off, some y = some ⟨g, off, none⟩ ∧ r = some g ∧ g < w.heap.size ∧ ∀ i (hi : i < l.length), SnpAt w g (off + i * 3) l[i]) := hin
    clear hin hnil
    rw [S0'] at own0
    by_cases h10 : l.length ≤ 10
    · have hme : m = l.length := by omega
      clear hmin
      subst hme
      have U1 := HU.out.alloc (.cells #[] 40)
      have Z1 := HZ.out.alloc (.cells #[] 40)
      have hcells : ∀ j u, (sncs (l.take (l.length)))[j]? = some u → (W.alloc (.cells #[] 40)).cell? (y.add j) = some u := by
        intro j u hu
        rcases HIN.out with e | ⟨gg, off, e, _, hg, hat⟩
        · rw [e] at hu
          simp [sncs] at hu
        · cases e
          rw [World.cell?_of_block (w := w) (by
            have : ((⟨gg, off, none⟩ : Addr).add j).block = gg := by rw [add_lit]
            rw [this]
            exact (Below.heap_alloc _ _ _ (by have := B0'.size; omega)).trans (B0'.block gg hg))]
          exact take_snaps _ hat j u hu
      have HCE : Hid (∀ j u, (sncs (l.take (l.length)))[j]? = some u → (W.alloc (.cells #[] 40)).cell? (y.add j) = some u) := hcells
      clear hcells
      go_upto_region 2 with (at_builtin; refine wpList_append_own _ rfl (.tmp 3) (.tmp 10) 22 rfl w.heap.size 40 i0 (.agg #[.string ⟨#[]⟩, .int .i64 0, .int .i64 0]) 3 32 Try.underlying22 hi hz0 hz1 hz2 rfl (by omega) (.slice (some ⟨w.heap.size + 2, 0, none⟩) 0 0) 0 [] rfl own0 y (l.length) cap (sncs (l.take (l.length))) rfl (by rw [sncs_length, HML.out]) HCE.out (sncs_one _) (by unfold maxLen; omega) (by omega) (by simp; omega) ?_; intro v' w4 hown0 hgrow _; have hown : w4.ownsRow w.heap.size 40 3 v' (l.length) (sncs (l.take (l.length))) := (by simpa using hown0); clear hown0; obtain ⟨a', c', rfl⟩ := own_form3 hown; have U4 := U1.same (hgrow.block _ U1.lt (by simp [Value.ownBlock])); have Z4 := Z1.same (hgrow.block _ Z1.lt (by simp [Value.ownBlock])); have f4 := U4.free 4; have q4 := U4.cells.2.2.2.2)
      have U2 := U4.set4 ⟨g, rt, x, c, l.take (l.length)⟩ (.slice a' (l.length) c') rfl rfl
      have Z2 : HasU (w4.setCell ⟨w.heap.size, 4, none⟩ (.slice a' (l.length) c')) (w.heap.size + 1) nilU (.slice none 0 0) := Z4.same (Below.heap_setCell _ _ _ _ (by simp))
      have B4 : Below w.heap.size w w4 := (B0'.alloc B0'.size _).grown hgrow (by have := B0'.size; simp; omega) (fun k hk => by simp [Value.ownBlock] at hk; omega)
      have B2 : Below w.heap.size w (w4.setCell ⟨w.heap.size, 4, none⟩ (.slice a' (l.length) c')) := B4.setCell (by simp) _
      have N2 : ∃ r, SnapsIn (w4.setCell ⟨w.heap.size, 4, none⟩ (.slice a' (l.length) c')) (.slice a' (l.length) c') (l.take (l.length)) r ∧ (∀ k, r = some k → k < (w4.setCell ⟨w.heap.size, 4, none⟩ (.slice a' (l.length) c')).heap.size) ∧ (∀ k, r = some k → k ≠ w.heap.size + 1) ∧ ∀ k, r = some k → w.heap.size ≤ k :=
        ⟨_, (own_snaps' hown).kept fun k hk => Below.heap_setCell _ _ _ _ (by simp; exact fun e => says_apart U4 hown (e ▸ hk)), (fun k hk => by have := hown.lt k hk; simpa [World.setCell] using this.2), (fun k hk e => says_apart Z4 hown (e ▸ hk)), fun k hk => (hown.lt k hk).1⟩
      clear U1 Z1 f4 q4 own0 k4 HU HZ U4 Z4 B4 hown hgrow HCE
      generalize w4.setCell ⟨w.heap.size, 4, none⟩ (.slice a' (l.length) c') = x1 at *
      have Z2' : Hid (HasU x1 (w.heap.size + 1) nilU (.slice none 0 0)) := Z2
      have U2' : Hid (HasU x1 w.heap.size ⟨g, rt, x, c, l.take (l.length)⟩ (.slice a' (l.length) c')) := U2
      clear Z2 U2
      go_wp2_with (first
        | (refine load_sup _ rfl w.heap.size rfl rfl _ _ U2'.out ?_)
        | (refine store_sup rfl _ _ rfl (w.heap.size + 1) rfl ⟨g, rt, x, c, l.take (l.length)⟩ (.slice a' (l.length) c') rfl rfl nilU (.slice none 0 0) Z2'.out ?_; intro y hy ty sy))
      refine ret_sup rfl _ _ _ rfl hy rfl ⟨(.slice a' (l.length) c'), by rw [HTK.out], ?_, below_rowed B2 ty (by omega) (Nat.le_refl _)⟩
      rw [HTK.out]
      obtain ⟨r2, s2, lt2, ne2, ge2⟩ := N2
      exact ⟨r2, s2.kept fun k hk => ty.block k (lt2 k hk) (ne2 k hk) (by simp), fun k hk => ⟨ge2 k hk, by have := lt2 k hk; omega⟩⟩
    · have hme : m = 10 := by omega
      clear hmin
      subst hme
      have U1 := HU.out.alloc (.cells #[] 40)
      have Z1 := HZ.out.alloc (.cells #[] 40)
      have hcells : ∀ j u, (sncs (l.take (10)))[j]? = some u → (W.alloc (.cells #[] 40)).cell? (y.add j) = some u := by
        intro j u hu
        rcases HIN.out with e | ⟨gg, off, e, _, hg, hat⟩
        · rw [e] at hu
          simp [sncs] at hu
        · cases e
          rw [World.cell?_of_block (w := w) (by
            have : ((⟨gg, off, none⟩ : Addr).add j).block = gg := by rw [add_lit]
            rw [this]
            exact (Below.heap_alloc _ _ _ (by have := B0'.size; omega)).trans (B0'.block gg hg))]
          exact take_snaps _ hat j u hu
      have HCE : Hid (∀ j u, (sncs (l.take (10)))[j]? = some u → (W.alloc (.cells #[] 40)).cell? (y.add j) = some u) := hcells
      clear hcells
      go_upto_region 2 with (at_builtin; refine wpList_append_own _ rfl (.tmp 3) (.tmp 10) 22 rfl w.heap.size 40 i0 (.agg #[.string ⟨#[]⟩, .int .i64 0, .int .i64 0]) 3 32 Try.underlying22 hi hz0 hz1 hz2 rfl (by omega) (.slice (some ⟨w.heap.size + 2, 0, none⟩) 0 0) 0 [] rfl own0 y (10) cap (sncs (l.take (10))) rfl (by rw [sncs_length, HML.out]) HCE.out (sncs_one _) (by unfold maxLen; omega) (by omega) (by simp; omega) ?_; intro v' w4 hown0 hgrow _; have hown : w4.ownsRow w.heap.size 40 3 v' (10) (sncs (l.take (10))) := (by simpa using hown0); clear hown0; obtain ⟨a', c', rfl⟩ := own_form3 hown; have U4 := U1.same (hgrow.block _ U1.lt (by simp [Value.ownBlock])); have Z4 := Z1.same (hgrow.block _ Z1.lt (by simp [Value.ownBlock])); have f4 := U4.free 4; have q4 := U4.cells.2.2.2.2)
      have U2 := U4.set4 ⟨g, rt, x, c, l.take (10)⟩ (.slice a' (10) c') rfl rfl
      have Z2 : HasU (w4.setCell ⟨w.heap.size, 4, none⟩ (.slice a' (10) c')) (w.heap.size + 1) nilU (.slice none 0 0) := Z4.same (Below.heap_setCell _ _ _ _ (by simp))
      have B4 : Below w.heap.size w w4 := (B0'.alloc B0'.size _).grown hgrow (by have := B0'.size; simp; omega) (fun k hk => by simp [Value.ownBlock] at hk; omega)
      have B2 : Below w.heap.size w (w4.setCell ⟨w.heap.size, 4, none⟩ (.slice a' (10) c')) := B4.setCell (by simp) _
      have N2 : ∃ r, SnapsIn (w4.setCell ⟨w.heap.size, 4, none⟩ (.slice a' (10) c')) (.slice a' (10) c') (l.take (10)) r ∧ (∀ k, r = some k → k < (w4.setCell ⟨w.heap.size, 4, none⟩ (.slice a' (10) c')).heap.size) ∧ (∀ k, r = some k → k ≠ w.heap.size + 1) ∧ ∀ k, r = some k → w.heap.size ≤ k :=
        ⟨_, (own_snaps' hown).kept fun k hk => Below.heap_setCell _ _ _ _ (by simp; exact fun e => says_apart U4 hown (e ▸ hk)), (fun k hk => by have := hown.lt k hk; simpa [World.setCell] using this.2), (fun k hk e => says_apart Z4 hown (e ▸ hk)), fun k hk => (hown.lt k hk).1⟩
      clear U1 Z1 f4 q4 own0 k4 HU HZ U4 Z4 B4 hown hgrow HCE
      generalize w4.setCell ⟨w.heap.size, 4, none⟩ (.slice a' (10) c') = x1 at *
      have Z2' : Hid (HasU x1 (w.heap.size + 1) nilU (.slice none 0 0)) := Z2
      have U2' : Hid (HasU x1 w.heap.size ⟨g, rt, x, c, l.take (10)⟩ (.slice a' (10) c')) := U2
      clear Z2 U2
      go_wp2_with (first
        | (refine load_sup _ rfl w.heap.size rfl rfl _ _ U2'.out ?_)
        | (refine store_sup rfl _ _ rfl (w.heap.size + 1) rfl ⟨g, rt, x, c, l.take (10)⟩ (.slice a' (10) c') rfl rfl nilU (.slice none 0 0) Z2'.out ?_; intro y hy ty sy))
      refine ret_sup rfl _ _ _ rfl hy rfl ⟨(.slice a' (10) c'), by rw [HTK.out], ?_, below_rowed B2 ty (by omega) (Nat.le_refl _)⟩
      rw [HTK.out]
      obtain ⟨r2, s2, lt2, ne2, ge2⟩ := N2
      exact ⟨r2, s2.kept fun k hk => ty.block k (lt2 k hk) (ne2 k hk) (by simp), fun k hk => ⟨ge2 k hk, by have := lt2 k hk; omega⟩⟩
end Go.Proofs.Ytnpohjbhfoebcaa
