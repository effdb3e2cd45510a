import Derived.Test.YtkmeilenocjhaaaGreatSi
import Derived.Test.YtkmeilenocjhaaaGreatB29
import Derived.Test.YtkmeilenocjhaaaGreatB12
import Derived.Test.YtkmeilenocjhaaaGreatB27
/- What one goes back from was never done (mathematics); Back of a mark that is not there; Back with its bound. -/
namespace Go.Proofs.YtkmeilenocjhaaaGreat
set_option linter.unusedVariables false
set_option maxRecDepth 100000
open Go.RowKit

/-- The one mark of a view knows C0. -/
structure BkInv (C0 : List Ch) (V : VS) (n : Nat) : Prop where
  ex : ∃ L, V.U = [L] ∧ Asc Fo.n L ∧ FoOk L ∧ L.length ≤ n ∧ ∀ x, look Ch.n C0 x = match look Fo.n L x with
    | none => look Ch.n V.C x
    | some f => if f.was then some f.c else none
  asc : Asc Ch.n V.C
  len : V.C.length ≤ n
  rd : V.R = []
theorem BkInv.start {C0 : List Ch} {V : VS} {n : Nat} (hC : V.C = C0) (hU : V.U = [[]]) (hR : V.R = []) (ha : Asc Ch.n C0) (hl : C0.length ≤ n) : BkInv C0 V n :=
  ⟨⟨[], hU, List.Pairwise.nil, (fun f hf => by cases hf), Nat.zero_le _, fun x => by rw [hC]; rfl⟩, by rw [hC]; exact ha, by rw [hC]; exact hl, hR⟩
theorem BkInv.change {C0 : List Ch} {V : VS} {n : Nat} (h : BkInv C0 V n) (c : Ch) : BkInv C0 (V.change c) (n + 1) := by
  obtain ⟨L, hU, hL, hf, hn, hx⟩ := h.ex
  have hCn : (putA Ch.n V.C c).length ≤ n + 1 := by have := putA_len Ch.n V.C c; have := h.len; omega
  have hU' : (V.change c).U = [keepL V.C L c.kz] := by
    show keepU V.C V.U c.kz = _
    unfold keepU
    rw [hU]
    rfl
  refine ⟨⟨keepL V.C L c.kz, hU', ?_, ?_, ?_, ?_⟩, putA_asc Ch.n c h.asc, hCn, h.rd⟩
  · unfold keepL
    split
    · exact hL
    · exact putA_asc Fo.n _ hL
  · unfold keepL
    split
    · exact hf
    · intro f hm hw
      rcases putA_mem Fo.n hm with hm | rfl
      · exact hf f hm hw
      · show ((look Ch.n V.C c.kz.n).getD ch0).n = c.kz.n
        have hw' : (look Ch.n V.C c.kz.n).isSome = true := hw
        obtain ⟨y, hy⟩ := Option.isSome_iff_exists.1 hw'
        rw [hy]
        exact (look_key Ch.n hy).2
  · unfold keepL
    split
    · omega
    · have := putA_len Fo.n L ⟨c.kz, (look Ch.n V.C c.kz.n).getD ch0, (look Ch.n V.C c.kz.n).isSome⟩
      omega
  · intro x
    show look Ch.n C0 x = match look Fo.n (keepL V.C L c.kz) x with
      | none => look Ch.n (putA Ch.n V.C c) x
      | some f => if f.was then some f.c else none
    rw [hx x, putA_look Ch.n c x h.asc]
    have hcn : c.kz.n = c.n := rfl
    unfold keepL
    by_cases hs : (look Fo.n L c.kz.n).isSome = true
    · rw [if_pos hs]
      by_cases e : c.n = x
      · subst e
        rw [hcn] at hs
        obtain ⟨f, hf'⟩ := Option.isSome_iff_exists.1 hs
        rw [hf']
      · rw [if_neg e]
    · rw [if_neg hs, putA_look Fo.n _ x hL]
      have hq : (⟨c.kz, (look Ch.n V.C c.kz.n).getD ch0, (look Ch.n V.C c.kz.n).isSome⟩ : Fo).n = c.n := rfl
      rw [hq]
      by_cases e : c.n = x
      · subst e
        rw [if_pos rfl]
        rw [hcn] at hs
        have hn' : look Fo.n L c.n = none := by
          cases q : look Fo.n L c.n with
          | none => rfl
          | some f => rw [q] at hs; exact absurd rfl hs
        rw [hn']
        simp only [hcn]
        cases look Ch.n V.C c.n <;> rfl
      · rw [if_neg e, if_neg e]
theorem BkInv.mono {C0 : List Ch} {V : VS} {n n' : Nat} (h : BkInv C0 V n) (hn : n ≤ n') : BkInv C0 V n' := by
  obtain ⟨L, a, b, c, d, e⟩ := h.ex
  exact ⟨⟨L, a, b, c, Nat.le_trans d hn, e⟩, h.asc, Nat.le_trans h.len hn, h.rd⟩
theorem BkInv.doV {C0 : List Ch} {V : VS} {n : Nat} (h : BkInv C0 V n) (o : Vo) : BkInv C0 (doV V o) (n + 1) := by
  unfold Go.Proofs.YtkmeilenocjhaaaGreat.doV
  split
  · split
    · exact h.change _
    · exact h.mono (Nat.le_succ _)
  · exact h.change _
theorem BkInv.steps {C0 : List Ch} (ops : List Vo) {V : VS} {n : Nat} (h : BkInv C0 V n) : BkInv C0 (ops.foldl Go.Proofs.YtkmeilenocjhaaaGreat.doV V) (n + ops.length) := by
  induction ops generalizing V n with
  | nil => exact h
  | cons o r ih =>
    rw [List.foldl_cons, List.length_cons]
    exact (ih (h.doV o)).mono (by omega)
/-- Behind Back the changes are what they were. -/
theorem BkInv.back {C0 : List Ch} {V : VS} {n : Nat} (h : BkInv C0 V n) (h0 : Asc Ch.n C0) : (V.back 0).C = C0 ∧ (V.back 0).U = [[]] ∧ (V.back 0).R = [] ∧ (∀ L ∈ V.U, FoOk L) ∧ V.U.length = 1 := by
  obtain ⟨L, hU, hL, hf, hn, hx⟩ := h.ex
  obtain ⟨t1, t2⟩ := takeL_look h.asc hL hf
  refine ⟨?_, ?_, h.rd, ?_, by rw [hU]; rfl⟩
  · show backC V.C (V.U.drop 0) = C0
    rw [hU]
    show takeL V.C L = C0
    exact asc_ext Ch.n t1 h0 fun x => by rw [t2 x, hx x]; cases look Fo.n L x <;> rfl
  · show V.U.take 0 ++ [[]] = [[]]
    simp
  · intro M hM
    rw [hU, List.mem_singleton] at hM
    subst hM
    exact hf
/-- Without marks none come. -/
theorem doV_flat (V : VS) (o : Vo) (hU : V.U = []) (ha : Asc Ch.n V.C) : (doV V o).U = [] ∧ Asc Ch.n (doV V o).C ∧ (doV V o).R = V.R ∧ (doV V o).C.length ≤ V.C.length + 1 := by
  have hc : ∀ c : Ch, (V.change c).U = [] ∧ Asc Ch.n (V.change c).C ∧ (V.change c).R = V.R ∧ (V.change c).C.length ≤ V.C.length + 1 := fun c =>
    ⟨by show keepU V.C V.U c.kz = []; unfold keepU; rw [hU]; rfl, putA_asc Ch.n c ha, rfl, putA_len Ch.n V.C c⟩
  unfold doV
  split
  · split
    · exact hc _
    · exact ⟨hU, ha, rfl, Nat.le_succ _⟩
  · exact hc _
theorem steps_flat (ops : List Vo) (V : VS) (hU : V.U = []) (ha : Asc Ch.n V.C) : (ops.foldl doV V).U = [] ∧ Asc Ch.n (ops.foldl doV V).C ∧ (ops.foldl doV V).R = V.R ∧ (ops.foldl doV V).C.length ≤ V.C.length + ops.length := by
  induction ops generalizing V with
  | nil => exact ⟨hU, ha, rfl, Nat.le_refl _⟩
  | cons o r ih =>
    obtain ⟨a, b, c, d⟩ := doV_flat V o hU ha
    obtain ⟨a', b', c', d'⟩ := ih (doV V o) a b
    rw [List.foldl_cons, List.length_cons]
    exact ⟨a', b', by rw [c', c], by omega⟩
section
variable {lim : Nat} {S : Nat → Prop} {I : Nat → World → Prop} {iv : Value} {ge : Kz → List UInt8 × Bool × Int} {sn : Sp → List Pa × Int} {w0 y : World} {k q : Nat} {x : VR} {V : VS}
theorem VAt.backR (D : Baser lim S I iv ge sn) (h : VAt w0 lim I k iv q x V y) (hn : x.n ≤ 1000) (m : Nat) (MI : Int) (hMI : MI = (m : Int)) (hm : m < V.U.length) (hok : ∀ L ∈ V.U, FoOk L) (n : Nat) (hmo : (V.back m).most n) :
    Calls Tryz.prog 25 #[.pointer (some ⟨q, 0, none⟩), .int .i64 MI] y fun e y' => e = .returned (.int .i64 0) ∧ ∃ x', VRan S w0 lim I k iv q x n (V.back m) y x' y' := by
  subst hMI
  exact (vback_calls y q iv x V m h.vw hok hm hn).mono fun e y' r => by
    obtain ⟨r1, x', r2, r3, r4, r5⟩ := r
    have hfr : FrV (fun i => x.own q i ∨ S i) y y' := ⟨r4.bel, fun i hi hn => r4.block i hi (fun e => hn (.inl e))⟩
    exact ⟨r1, { x' with n := n }, ⟨⟨r2.tight n hmo, D.mono _ _ _ h.base (r4.below h.own h.limy), fun i hi => (r5 i hi).elim (h.own i) (fun e => Nat.le_trans h.limy e), h.bel.trans (r4.below (fun i hi => Nat.le_trans h.le (h.own i hi)) (Nat.le_trans h.le h.limy)), h.le, Nat.le_trans h.limy r4.size⟩, hfr, r5, Nat.le_refl _⟩⟩
end
set_option maxHeartbeats 4000000 in
theorem vback_bad (w : World) (p : Nat) (iv : Value) (x : VR) (V : VS) (MI : Int) (h : VwIn w p iv x V) (hM : MI < 0 ∨ (V.U.length : Int) ≤ MI) :
    Calls Tryz.prog 25 #[.pointer (some ⟨p, 0, none⟩), .int .i64 MI] w fun e w' => e = .returned (.int .i64 1) ∧ Below w.heap.size w w' := by
  have BX : Below w.heap.size w (w.alloc (.cells #[.pointer (some ⟨p, 0, none⟩)] 32)) := (Below.refl _ w).alloc (Nat.le_refl _) _
  have HB : Hid (Below w.heap.size w (w.alloc (.cells #[.pointer (some ⟨p, 0, none⟩)] 32))) := BX
  have hcl := (h.called BX).cell.2.2.2
  obtain ⟨ad, cap, hm, -, -, -, -⟩ := h.row.slB
  rw [hm] at hcl
  rw [h.len] at hM
  generalize x.u.length = N at *
  have hpl : p < w.heap.size := lt_of_block h.blk
  clear h BX hm
  rcases hM with hM | hM
  · go_enter Tryz.func25, Tryz.ntmps25
    go_wp2_with fail
    go_ret
    exact ⟨rfl, HB.out⟩
  · by_cases h0 : MI < 0
    · go_enter Tryz.func25, Tryz.ntmps25
      go_wp2_with fail
      go_ret
      exact ⟨rfl, HB.out⟩
    · go_enter Tryz.func25, Tryz.ntmps25
      go_wp2_with fail
      go_ret
      exact ⟨rfl, HB.out⟩
end Go.Proofs.YtkmeilenocjhaaaGreat
/- The document's Same, SameChanges (as DlH, over DlC alone). -/
namespace Go.Proofs.YtkmeilenocjhaaaGreat
set_option linter.unusedVariables false
set_option maxRecDepth 100000
open Go.RowKit

theorem list_eq_cons {α : Type} {l m : List α} {k : Nat} (hk : k < l.length) (hm : k < m.length) (h : l.take k = m.take k) (e : l[k] = m[k]) : l.take (k + 1) = m.take (k + 1) := by
  rw [List.take_succ_eq_append_getElem hk, List.take_succ_eq_append_getElem hm, h, e]
theorem ne_at {α : Type} {l m : List α} {k : Nat} (hk : k < l.length) (hm : k < m.length) (e : ¬ l[k] = m[k]) : ¬ l = m := fun h => e (by subst h; rfl)
set_option maxRecDepth 100000 in
set_option maxHeartbeats 4000000 in
theorem sameP_calls (w : World) (ua ub : Value) (a b : List Pa) (ha : Sl encP w ua a) (hb : Sl encP w ub b) (hla : a.length ≤ 100000) :
    Calls Tryz.prog 19 #[ua, ub] w fun e w' => e = .returned (.bool (decide (a = b))) ∧ Below w.heap.size w w' := by
  have ha' := ha
  obtain ⟨ad, cap, rfl, hcap, hmax, _, _⟩ := ha'
  have hb' := hb
  obtain ⟨bd, cap2, rfl, hcap2, hmax2, _, _⟩ := hb'
  have HI : Hid (∀ i (hi : i < a.length), ∃ g off, ad = some ⟨g, off, none⟩ ∧ g < w.heap.size ∧ w.rangeAt g (off + i * 25) (encP.c a[i])) := fun i hi => SlB.at ha i hi
  have HJ : Hid (∀ i (hi : i < b.length), ∃ g off, bd = some ⟨g, off, none⟩ ∧ g < w.heap.size ∧ w.rangeAt g (off + i * 25) (encP.c b[i])) := fun i hi => SlB.at hb i hi
  have hInfo : ∀ p : Pa, (Tryz.prog.info? 31).map (·.size) = some (encP.c p).length := fun p => by rw [encP.len]; exact elP.info
  clear ha hb
  by_cases q2 : a.length = b.length
  rotate_left
  · have f : (((a.length : Nat) : Int) == ((b.length : Nat) : Int)) = false := by simpa using fun e : ((a.length : Nat) : Int) = ((b.length : Nat) : Int) => q2 (by omega)
    have f2 : (a.length == b.length) = false := by simpa using q2
    have hne : ¬ a = b := fun e => q2 (by rw [e])
    go_enter Tryz.func19, Tryz.ntmps19
    go_wp2_with fail
    go_ret
    exact ⟨by rw [decide_eq_false hne]; rfl, Below.refl _ _⟩
  obtain ⟨N, hN⟩ : ∃ N : Nat, a.length = N := ⟨_, rfl⟩
  have n2 : b.length = N := by omega
  have HL : Hid (a.length = N ∧ b.length = N) := ⟨hN, n2⟩
  rw [hN] at hcap hmax hla ⊢
  rw [n2] at hcap2 hmax2 ⊢
  clear hN n2 q2
  obtain ⟨R, hR⟩ : ∃ R : Bool, R = decide (a = b) := ⟨_, rfl⟩
  have HRR : Hid (R = decide (a = b)) := hR
  rw [← hR]
  clear hR
  go_enter Tryz.func19, Tryz.ntmps19
  go_wp2_with fail
  go_loopg [5] N (fun g i wr => ∃ k n : Nat, k + g = N ∧ i = .int .i64 (k : Int) ∧ wr = w.drewN n ∧ Hid (a.take k = b.take k))
  case atStart => exact ⟨0, 0, by omega, rfl, rfl, (show a.take 0 = b.take 0 by simp)⟩
  case round =>
    obtain ⟨k, n, hkg, rfl, rfl, HT⟩ := hrel
    cases gk with
    | zero =>
      have hkN : k = N := by omega
      subst hkN
      have HEQ : Hid (a = b) := (show _ = _ by
        have := HT.out
        rw [List.take_of_length_le (by have := HL.out.1; omega), List.take_of_length_le (by have := HL.out.2; omega)] at this
        exact this)
      go_wp2_with fail
      go_ret
      exact ⟨by rw [HRR.out, decide_eq_true HEQ.out]; rfl, below_drewN (Below.refl _ _) _⟩
    | succ g =>
      have hlt : k < N := by omega
      have hltI : (k : Int) < (N : Int) := by omega
      have hk0 : (0 : Int) ≤ (k : Int) := by omega
      have hka : k < a.length := by have := HL.out.1; omega
      have hkb : k < b.length := by have := HL.out.2; omega
      obtain ⟨g1, o1, rfl, hg1, hat1⟩ := HI.out k hka
      obtain ⟨g2, o2, rfl, hg2, hat2⟩ := HJ.out k hkb
      have HYES : Hid (a[k] = b[k] → a.take (k + 1) = b.take (k + 1)) := fun e => list_eq_cons hka hkb HT.out e
      have HNO : Hid (¬ a[k] = b[k] → ¬ a = b) := fun e => ne_at hka hkb e
      generalize a[k] = s at *
      generalize b[k] = t at *
      have HR1 : Hid ((w.drewN n).rangeAt g1 (o1 + k * 25) (encP.c s) ∧ (w.drewN n).rangeAt g2 (o2 + k * 25) (encP.c t)) := ⟨hat1, hat2⟩
      clear hat1 hat2 hka hkb HT
      generalize hwd : w.drewN n = W at *
      have HWD : Hid (w.drewN n = W) := hwd
      clear hwd
      go_upto_region 6 with fail
      refine wp_region_noPanic ?_
      refine wp_region_held_drew (S := (fun yy => yy.rangeAt g1 (o1 + k * 25) (encP.c s) ∧ yy.rangeAt g2 (o2 + k * 25) (encP.c t))) (by kernel_rfl) HR1.out (fun hHeld => ?_)
      refine wpAnyH_take (i := 0) (v := ?_) rfl (by kernel_rfl) (by kernel_rfl) (by kernel_rfl) (fun _ _ _ h => h) (Or.inl ⟨by rfl, ?_⟩) hHeld ?_
      case refine_2 => (intro w hSw; (try dsimp only at hSw); go_simp; try (with_reducible rfl))
      (try simp only [gs])
      refine wpAnyH_take (i := 1) (v := ?_) rfl (by kernel_rfl) (by kernel_rfl) (by kernel_rfl) (fun _ _ _ h => h) (Or.inl ⟨by rfl, ?_⟩) hHeld ?_
      case refine_2 => (intro w hSw; (try dsimp only at hSw); go_simp; try (with_reducible rfl))
      (try simp only [gs])
      refine wpAnyH_take (i := 2) (v := ?_) rfl (by kernel_rfl) (by kernel_rfl) (by kernel_rfl) (fun _ _ _ h => h) (Or.inl ⟨by rfl, ?_⟩) hHeld ?_
      case refine_2 => (intro w hSw; (try dsimp only at hSw); go_simp; try (with_reducible rfl))
      (try simp only [gs])
      refine wpAnyH_take (i := 3) rfl (by kernel_rfl) (by kernel_rfl) (by kernel_rfl) (fun _ _ _ h => h) (yieldsIf_load_mid (by rfl) _ _ rfl _ _ rfl _ _ (fun _ h => h.1) Tryz.underlying31 rfl (hInfo s)) hHeld ?_
      (try simp only [gs])
      refine wpAnyH_take (i := 4) (v := ?_) rfl (by kernel_rfl) (by kernel_rfl) (by kernel_rfl) (fun _ _ _ h => h) (Or.inl ⟨by rfl, ?_⟩) hHeld ?_
      case refine_2 => (intro w hSw; (try dsimp only at hSw); go_simp; try (with_reducible rfl))
      (try simp only [gs])
      refine wpAnyH_take (i := 5) (v := ?_) rfl (by kernel_rfl) (by kernel_rfl) (by kernel_rfl) (fun _ _ _ h => h) (Or.inl ⟨by rfl, ?_⟩) hHeld ?_
      case refine_2 => (intro w hSw; (try dsimp only at hSw); go_simp; try (with_reducible rfl))
      (try simp only [gs])
      refine wpAnyH_take (i := 6) (v := ?_) rfl (by kernel_rfl) (by kernel_rfl) (by kernel_rfl) (fun _ _ _ h => h) (Or.inl ⟨by rfl, ?_⟩) hHeld ?_
      case refine_2 => (intro w hSw; (try dsimp only at hSw); go_simp; try (with_reducible rfl))
      (try simp only [gs])
      refine wpAnyH_take (i := 7) rfl (by kernel_rfl) (by kernel_rfl) (by kernel_rfl) (fun _ _ _ h => h) (yieldsIf_load_mid (by rfl) _ _ rfl _ _ rfl _ _ (fun _ h => h.2) Tryz.underlying31 rfl (hInfo t)) hHeld ?_
      (try simp only [gs])
      refine wpAnyH_take (i := 8) (v := .bool (!decide (s = t))) rfl (by kernel_rfl) (by kernel_rfl) (by kernel_rfl) (fun _ _ _ h => h) (Or.inl ⟨by rfl, fun w _ => exec_ne_P _ _ _ rfl s t rfl rfl w⟩) hHeld ?_
      (try simp only [gs])
      refine wpAnyH_done (by kernel_rfl) ?_ _
      refine NoPanic.normal ?_
      by_cases hst : s = t
      · have hd : decide (s = t) = true := decide_eq_true hst
        have HY2 : Hid (a.take (k + 1) = b.take (k + 1)) := HYES.out hst
        clear hst
        rw [hd]
        go_wp2_with fail
        go_roundg g
        case measure => omega
        case rel => exact ⟨k + 1, n + 1, by omega, congrArg (Value.int .i64) (by omega), by rw [← HWD.out]; rfl, HY2⟩
      · have hd : decide (s = t) = false := decide_eq_false hst
        have HN2 : Hid (¬ a = b) := HNO.out hst
        clear hst
        rw [hd]
        go_wp2_with fail
        go_ret
        exact ⟨by rw [HRR.out, decide_eq_false HN2.out]; rfl, by rw [← HWD.out]; exact (below_drewN (Below.refl _ _) n).drew⟩
set_option maxRecDepth 100000 in
set_option maxHeartbeats 4000000 in
theorem sameC_calls (w : World) (ua ub : Value) (a b : List Ch) (ha : Sl encC w ua a) (hb : Sl encC w ub b) (hla : a.length ≤ 100000) :
    Calls Tryz.prog 17 #[ua, ub] w fun e w' => e = .returned (.bool (decide (a = b))) ∧ Below w.heap.size w w' := by
  have ha' := ha
  obtain ⟨ad, cap, rfl, hcap, hmax, _, _⟩ := ha'
  have hb' := hb
  obtain ⟨bd, cap2, rfl, hcap2, hmax2, _, _⟩ := hb'
  have HI : Hid (∀ i (hi : i < a.length), ∃ g off, ad = some ⟨g, off, none⟩ ∧ g < w.heap.size ∧ w.rangeAt g (off + i * 26) (encC.c a[i])) := fun i hi => SlB.at ha i hi
  have HJ : Hid (∀ i (hi : i < b.length), ∃ g off, bd = some ⟨g, off, none⟩ ∧ g < w.heap.size ∧ w.rangeAt g (off + i * 26) (encC.c b[i])) := fun i hi => SlB.at hb i hi
  have hInfo : ∀ p : Ch, (Tryz.prog.info? 52).map (·.size) = some (encC.c p).length := fun p => by rw [encC.len]; exact elC.info
  clear ha hb
  by_cases q2 : a.length = b.length
  rotate_left
  · have f : (((a.length : Nat) : Int) == ((b.length : Nat) : Int)) = false := by simpa using fun e : ((a.length : Nat) : Int) = ((b.length : Nat) : Int) => q2 (by omega)
    have f2 : (a.length == b.length) = false := by simpa using q2
    have hne : ¬ a = b := fun e => q2 (by rw [e])
    go_enter Tryz.func17, Tryz.ntmps17
    go_wp2_with fail
    go_ret
    exact ⟨by rw [decide_eq_false hne]; rfl, Below.refl _ _⟩
  obtain ⟨N, hN⟩ : ∃ N : Nat, a.length = N := ⟨_, rfl⟩
  have n2 : b.length = N := by omega
  have HL : Hid (a.length = N ∧ b.length = N) := ⟨hN, n2⟩
  rw [hN] at hcap hmax hla ⊢
  rw [n2] at hcap2 hmax2 ⊢
  clear hN n2 q2
  obtain ⟨R, hR⟩ : ∃ R : Bool, R = decide (a = b) := ⟨_, rfl⟩
  have HRR : Hid (R = decide (a = b)) := hR
  rw [← hR]
  clear hR
  go_enter Tryz.func17, Tryz.ntmps17
  go_wp2_with fail
  go_loopg [5] N (fun g i wr => ∃ k n : Nat, k + g = N ∧ i = .int .i64 (k : Int) ∧ wr = w.drewN n ∧ Hid (a.take k = b.take k))
  case atStart => exact ⟨0, 0, by omega, rfl, rfl, (show a.take 0 = b.take 0 by simp)⟩
  case round =>
    obtain ⟨k, n, hkg, rfl, rfl, HT⟩ := hrel
    cases gk with
    | zero =>
      have hkN : k = N := by omega
      subst hkN
      have HEQ : Hid (a = b) := (show _ = _ by
        have := HT.out
        rw [List.take_of_length_le (by have := HL.out.1; omega), List.take_of_length_le (by have := HL.out.2; omega)] at this
        exact this)
      go_wp2_with fail
      go_ret
      exact ⟨by rw [HRR.out, decide_eq_true HEQ.out]; rfl, below_drewN (Below.refl _ _) _⟩
    | succ g =>
      have hlt : k < N := by omega
      have hltI : (k : Int) < (N : Int) := by omega
      have hk0 : (0 : Int) ≤ (k : Int) := by omega
      have hka : k < a.length := by have := HL.out.1; omega
      have hkb : k < b.length := by have := HL.out.2; omega
      obtain ⟨g1, o1, rfl, hg1, hat1⟩ := HI.out k hka
      obtain ⟨g2, o2, rfl, hg2, hat2⟩ := HJ.out k hkb
      have HYES : Hid (a[k] = b[k] → a.take (k + 1) = b.take (k + 1)) := fun e => list_eq_cons hka hkb HT.out e
      have HNO : Hid (¬ a[k] = b[k] → ¬ a = b) := fun e => ne_at hka hkb e
      generalize a[k] = s at *
      generalize b[k] = t at *
      have HR1 : Hid ((w.drewN n).rangeAt g1 (o1 + k * 26) (encC.c s) ∧ (w.drewN n).rangeAt g2 (o2 + k * 26) (encC.c t)) := ⟨hat1, hat2⟩
      clear hat1 hat2 hka hkb HT
      generalize hwd : w.drewN n = W at *
      have HWD : Hid (w.drewN n = W) := hwd
      clear hwd
      go_upto_region 6 with fail
      refine wp_region_noPanic ?_
      refine wp_region_held_drew (S := (fun yy => yy.rangeAt g1 (o1 + k * 26) (encC.c s) ∧ yy.rangeAt g2 (o2 + k * 26) (encC.c t))) (by kernel_rfl) HR1.out (fun hHeld => ?_)
      refine wpAnyH_take (i := 0) (v := ?_) rfl (by kernel_rfl) (by kernel_rfl) (by kernel_rfl) (fun _ _ _ h => h) (Or.inl ⟨by rfl, ?_⟩) hHeld ?_
      case refine_2 => (intro w hSw; (try dsimp only at hSw); go_simp; try (with_reducible rfl))
      (try simp only [gs])
      refine wpAnyH_take (i := 1) (v := ?_) rfl (by kernel_rfl) (by kernel_rfl) (by kernel_rfl) (fun _ _ _ h => h) (Or.inl ⟨by rfl, ?_⟩) hHeld ?_
      case refine_2 => (intro w hSw; (try dsimp only at hSw); go_simp; try (with_reducible rfl))
      (try simp only [gs])
      refine wpAnyH_take (i := 2) (v := ?_) rfl (by kernel_rfl) (by kernel_rfl) (by kernel_rfl) (fun _ _ _ h => h) (Or.inl ⟨by rfl, ?_⟩) hHeld ?_
      case refine_2 => (intro w hSw; (try dsimp only at hSw); go_simp; try (with_reducible rfl))
      (try simp only [gs])
      refine wpAnyH_take (i := 3) rfl (by kernel_rfl) (by kernel_rfl) (by kernel_rfl) (fun _ _ _ h => h) (yieldsIf_load_mid (by rfl) _ _ rfl _ _ rfl _ _ (fun _ h => h.1) Tryz.underlying52 rfl (hInfo s)) hHeld ?_
      (try simp only [gs])
      refine wpAnyH_take (i := 4) (v := ?_) rfl (by kernel_rfl) (by kernel_rfl) (by kernel_rfl) (fun _ _ _ h => h) (Or.inl ⟨by rfl, ?_⟩) hHeld ?_
      case refine_2 => (intro w hSw; (try dsimp only at hSw); go_simp; try (with_reducible rfl))
      (try simp only [gs])
      refine wpAnyH_take (i := 5) (v := ?_) rfl (by kernel_rfl) (by kernel_rfl) (by kernel_rfl) (fun _ _ _ h => h) (Or.inl ⟨by rfl, ?_⟩) hHeld ?_
      case refine_2 => (intro w hSw; (try dsimp only at hSw); go_simp; try (with_reducible rfl))
      (try simp only [gs])
      refine wpAnyH_take (i := 6) (v := ?_) rfl (by kernel_rfl) (by kernel_rfl) (by kernel_rfl) (fun _ _ _ h => h) (Or.inl ⟨by rfl, ?_⟩) hHeld ?_
      case refine_2 => (intro w hSw; (try dsimp only at hSw); go_simp; try (with_reducible rfl))
      (try simp only [gs])
      refine wpAnyH_take (i := 7) rfl (by kernel_rfl) (by kernel_rfl) (by kernel_rfl) (fun _ _ _ h => h) (yieldsIf_load_mid (by rfl) _ _ rfl _ _ rfl _ _ (fun _ h => h.2) Tryz.underlying52 rfl (hInfo t)) hHeld ?_
      (try simp only [gs])
      refine wpAnyH_take (i := 8) (v := .bool (!decide (s = t))) rfl (by kernel_rfl) (by kernel_rfl) (by kernel_rfl) (fun _ _ _ h => h) (Or.inl ⟨by rfl, fun w _ => exec_ne_C _ _ _ rfl s t rfl rfl w⟩) hHeld ?_
      (try simp only [gs])
      refine wpAnyH_done (by kernel_rfl) ?_ _
      refine NoPanic.normal ?_
      by_cases hst : s = t
      · have hd : decide (s = t) = true := decide_eq_true hst
        have HY2 : Hid (a.take (k + 1) = b.take (k + 1)) := HYES.out hst
        clear hst
        rw [hd]
        go_wp2_with fail
        go_roundg g
        case measure => omega
        case rel => exact ⟨k + 1, n + 1, by omega, congrArg (Value.int .i64) (by omega), by rw [← HWD.out]; rfl, HY2⟩
      · have hd : decide (s = t) = false := decide_eq_false hst
        have HN2 : Hid (¬ a = b) := HNO.out hst
        clear hst
        rw [hd]
        go_wp2_with fail
        go_ret
        exact ⟨by rw [HRR.out, decide_eq_false HN2.out]; rfl, by rw [← HWD.out]; exact (below_drewN (Below.refl _ _) n).drew⟩
end Go.Proofs.YtkmeilenocjhaaaGreat
/- What must be in any case: shown. -/
namespace Go.Proofs.YtkmeilenocjhaaaGreat
set_option linter.unusedVariables false
set_option maxRecDepth 100000
open Go.RowKit

/-- The key of a number. -/
def vk (n : UInt8) : Kz := ⟨n :: zs 23, rfl⟩
def vp (n : UInt8) (v : List UInt8) : Pa := ⟨(vk n).k, (vk n).h, v⟩
def vc (n : UInt8) (v : List UInt8) : Ch := ⟨(vk n).k, (vk n).h, v, false⟩
def allV : Sp := ⟨zs 24, zs 24, true, rfl, rfl⟩
theorem vk1 : Tryz.prog.built 29 [(0, .int .u8 1)] = some (bc (1 :: zs 23)).toArray := by kernel_rfl
theorem vk2 : Tryz.prog.built 29 [(0, .int .u8 2)] = some (bc (2 :: zs 23)).toArray := by kernel_rfl
theorem vall : Tryz.prog.built 44 [(2, .bool true)] = some (sc (zs 24) (zs 24) true).toArray := by kernel_rfl
theorem vn12 : (vk 1).n < (vk 2).n := by decide
theorem vmap1 {m : List Pa} (h : MapIs [vp 1 [97]] m) : m = [vp 1 [97]] := h.unique (map_is _)
/-- The states that shown goes through. -/
def sv1 : VS := ⟨[], [], [[]]⟩
def sv2 : VS := ⟨[vc 2 [98]], [], [ [⟨vk 2, ch0, false⟩] ]⟩
def sv3 : VS := ⟨[goneC (vk 1), vc 2 [98]], [], [ [⟨vk 1, ch0, false⟩, ⟨vk 2, ch0, false⟩] ]⟩
def sv4 : VS := ⟨[goneC (vk 1), vc 2 [98]], [allV], [ [⟨vk 1, ch0, false⟩, ⟨vk 2, ch0, false⟩] ]⟩
def sv5 : VS := ⟨[], [allV], [[]]⟩
def sv6 : VS := ⟨[], [allV, oneSp (vk 1)], [[]]⟩
theorem st1 : vs0.mark = sv1 := rfl
theorem st2 : sv1.change (vc 2 [98]) = sv2 := by kernel_rfl
theorem st3 : sv2.change (goneC (vk 1)) = sv3 := by kernel_rfl
theorem st5 : sv4.back 0 = sv5 := by kernel_rfl
theorem st6 : getW sv5 (vk 1) = sv6 := by kernel_rfl
theorem sc4 : scanV sv3.C (fun s => (scanL s [vp 1 [97]], 0)) allV = ([vp 2 [98]], 0) := by kernel_rfl
theorem gt6 : getV sv5.C (plGe [vp 1 [97]]) (vk 1) = ([97], true, 0) := by kernel_rfl
theorem ok4 : ∀ L ∈ sv4.U, FoOk L := by
  intro L hL
  simp only [sv4, List.mem_singleton] at hL
  subst hL
  intro f hf hw
  simp only [List.mem_cons, List.not_mem_nil, or_false] at hf
  rcases hf with rfl | rfl <;> cases hw
theorem mo5 : sv5.most 4 := ⟨by decide, by decide, by decide, by intro L hL; simp only [sv5, List.mem_singleton] at hL; subst hL; decide⟩
theorem rd6 {R : List Sp} (h : Is R (mem sv6.R)) : R.length = 1 := by
  have e : R = [allV] := Is.unique h (h := mem [allV]) ⟨⟨by decide, .inl ⟨rfl, rfl, rfl⟩⟩, fun _ _ => rfl⟩ (fun K _ => by
    have h1 : allV.inb (num K) = true := by
      unfold Sp.inb
      have h2 : num allV.F = 0 := by decide
      have h3 : allV.e = true := rfl
      rw [h2, h3]
      simp
    simp [sv6, mem_cons, h1])
  rw [e]
  rfl
/-- Where the one pair of a row lies. -/
theorem own_one {w : World} {base : Nat} {ad : Option Addr} {cap : Nat} {a : Pa} (h : Own encP 31 w base (.slice ad 1 cap) [a]) : ∃ g, ad = some ⟨g, 0, none⟩ ∧ base ≤ g ∧ g < w.heap.size ∧ w.cell? ⟨g, 24, none⟩ = some (.string (str a.v)) := by
  have hl := h.lt
  have hs := h.slB
  rcases h.2 with ⟨e, _⟩ | ⟨g, cap', cur, e, q⟩
  · cases e
  · cases e
    obtain ⟨g', off, e2, _, hr⟩ := SlB.at hs 0 (show 0 < [a].length from Nat.zero_lt_succ _)
    cases e2
    refine ⟨g, rfl, (hl g rfl).1, (hl g rfl).2, ?_⟩
    have := range_vP hr
    simpa using this
set_option maxRecDepth 100000 in
set_option maxHeartbeats 8000000 in
theorem shown12_calls (w : World) : Calls Tryz.prog 7 #[] w fun e w' => e = .returned (.bool true) ∧ Below w.heap.size w w' := by
  go_enter Tryz.func7, Tryz.ntmps7
  go_wp2_with (first
    | (refine build_at rfl rfl (cells := (bc (1 :: zs 23)).toArray) (by simp only [List.map_toArray, List.map_cons, List.map_nil]; exact vk1) ?_)
    | (refine build_p rfl _ _ rfl (vp 1 [97]) rfl rfl ?_)
    | (refine build_el1 rowP rfl _ rfl (vp 1 [97]) rfl (by decide) ?_; intro x0 o0 b0 s0 hb0
       have hN := newPlain_calls x0 _ [vp 1 [97]] o0.slB (by decide)
       have HB0 : Hid (Below w.heap.size w x0) := b0
       clear o0 b0 s0 hb0)
    | (go_at_call 9; refine hN.mono ?_; clear hN; rintro e x1 ⟨p, pv, m, rfl, hp, hm, -, hpl, b1⟩
       obtain rfl := vmap1 hm
       have HP : Hid (PlIn x1 p pv [vp 1 [97]] ∧ Below w.heap.size w x1) := ⟨hp, HB0.out.trans (b1.mono HB0.out.size)⟩
       have HD : Hid (Baser x1.heap.size noB (fun _ w => PlB x1.heap.size w p pv [vp 1 [97]]) (.iface 26 (.pointer (some ⟨p, 0, none⟩))) (plGe [vp 1 [97]]) (fun s => (scanL s [vp 1 [97]], 0))) := plain_base _ p pv _ (by decide)
       clear hm hp hpl b1 HB0
       have hV := VAt.new HD.out w x1 2 (PlB.of HP.out.1) HP.out.2.size HP.out.2)
    | (go_at_call 10; refine hV.mono ?_; clear hV; rintro e x2 ⟨q, x, rfl, A, hn, -, -⟩
       have hn0 : x.n = 0 := hn
       have HN : Hid (x.n ≤ 0) := Nat.le_of_eq hn
       clear hn hn0
       have HA : Hid (VAt w x1.heap.size (fun _ w => PlB x1.heap.size w p pv [vp 1 [97]]) 2 (.iface 26 (.pointer (some ⟨p, 0, none⟩))) q x vs0 x2) := A
       clear A
       have hM := HA.out.mark HD.out (fun i h => h.elim) (by have := HN.out; omega)
       rw [show ((vs0.U.length : Nat) : Int) = 0 from rfl] at hM)
    | (go_at_call 24; refine hM.mono ?_; clear hM; rintro e x3 ⟨rfl, r3, T3⟩
       have HA3 : Hid (VAt w x1.heap.size (fun _ w => PlB x1.heap.size w p pv [vp 1 [97]]) 2 (.iface 26 (.pointer (some ⟨p, 0, none⟩))) q r3 sv1 x3 ∧ r3.n ≤ 4) := ⟨T3.at_, by have := T3.n; have := HN.out; omega⟩
       clear T3 HA HN)
    | (refine build_at rfl rfl (cells := (bc (2 :: zs 23)).toArray) (by simp only [List.map_toArray, List.map_cons, List.map_nil]; exact vk2) ?_
       have hPu := HA3.out.1.put HD.out (fun i h => h.elim) (by have := HA3.out.2; omega) (vc 2 [98]) rfl (by decide))
    | (go_at_call 21; refine hPu.mono ?_; clear hPu; rintro e x4 ⟨rfl, r4, T4⟩
       have HA4 : Hid (VAt w x1.heap.size (fun _ w => PlB x1.heap.size w p pv [vp 1 [97]]) 2 (.iface 26 (.pointer (some ⟨p, 0, none⟩))) q r4 sv2 x4 ∧ r4.n ≤ 8) := ⟨by rw [← st2]; exact T4.at_, by have := T4.n; have := HA3.out.2; omega⟩
       clear T4 HA3
       have hDe := HA4.out.1.delete HD.out (fun i h => h.elim) (by have := HA4.out.2; omega) (vk 1))
    | (go_at_call 22; refine hDe.mono ?_; clear hDe; rintro e x5 ⟨rfl, r5, T5⟩
       have HA5 : Hid (VAt w x1.heap.size (fun _ w => PlB x1.heap.size w p pv [vp 1 [97]]) 2 (.iface 26 (.pointer (some ⟨p, 0, none⟩))) q r5 sv3 x5 ∧ r5.n ≤ 12) := ⟨by rw [← st3]; exact T5.at_, by have := T5.n; have := HA4.out.2; omega⟩
       clear T5 HA4
       have hSc := HA5.out.1.scan HD.out (fun i h => h.elim) (by have := HA5.out.2; omega) allV
       rw [sc4] at hSc)
    | (refine build_at rfl rfl (cells := (sc (zs 24) (zs 24) true).toArray) (by simp only [List.map_toArray, List.map_cons, List.map_nil]; exact vall) ?_)
    | (go_at_call 18; refine hSc.mono ?_; clear hSc; rintro e x6 ⟨ad, cap, rfl, o6, T6⟩
       obtain ⟨g, rfl, hg1, hg2, hg3⟩ := own_one o6
       have HA6 : Hid (VAt w x1.heap.size (fun _ w => PlB x1.heap.size w p pv [vp 1 [97]]) 1 (.iface 26 (.pointer (some ⟨p, 0, none⟩))) q { r5 with n := r5.n + 1 } sv4 x6 ∧ r5.n + 1 ≤ 13 ∧ g < x6.heap.size ∧ x6.cell? ⟨g, 24, none⟩ = some (.string (str [98])) ∧ ¬ r5.own q g) := ⟨T6.at_, by have := HA5.out.2; omega, hg2, hg3, fun e => by have := HA5.out.1.vw.lt e; omega⟩
       have hBa := HA6.out.1.back HD.out (show r5.n + 1 ≤ 1000 by have := HA6.out.2.1; omega) 0 (by decide) ok4 4 (by rw [st5]; exact mo5) (Nat.le_add_left _ _)
       rw [st5, show ((0 : Nat) : Int) = 0 from rfl] at hBa
       clear T6 HA5 o6 hg1 hg2 hg3)
    | (go_at_call 25; refine hBa.mono ?_; clear hBa; rintro e x7 ⟨rfl, r7, T7⟩
       have HA7 : Hid (VAt w x1.heap.size (fun _ w => PlB x1.heap.size w p pv [vp 1 [97]]) 1 (.iface 26 (.pointer (some ⟨p, 0, none⟩))) q r7 sv5 x7 ∧ r7.n ≤ 18 ∧ g < x7.heap.size ∧ x7.cell? ⟨g, 24, none⟩ = some (.string (str [98])) ∧ ¬ r7.own q g) := by
         have h6 := HA6.out
         refine ⟨T7.at_, by have h : r7.n ≤ r5.n + 1 + 4 := T7.n; omega, Nat.lt_of_lt_of_le h6.2.2.1 T7.fr.size, (World.cell?_of_block (T7.fr.block g h6.2.2.1 (fun e => e.elim h6.2.2.2.2 (fun q => q.elim)))).trans h6.2.2.2.1, fun e => (T7.own g e).elim h6.2.2.2.2 (fun q => by have := h6.2.2.1; omega)⟩
       clear T7 HA6
       have hGe := HA7.out.1.get HD.out (fun i h => h.elim) (by have := HA7.out.2.1; omega) (vk 1)
       rw [gt6, st6] at hGe
       simp only [gv] at hGe
       rw [show str [97] = (⟨#[97]⟩ : ByteArray) from rfl] at hGe)
    | (go_at_call 26; refine hGe.mono ?_; clear hGe; rintro e x8 ⟨rfl, T8⟩
       have HA8 : Hid (VAt w x1.heap.size (fun _ w => PlB x1.heap.size w p pv [vp 1 [97]]) 0 (.iface 26 (.pointer (some ⟨p, 0, none⟩))) q { r7 with n := r7.n + 1 } sv6 x8 ∧ r7.n + 1 ≤ 19) := ⟨T8.at_, by have := HA7.out.2.1; omega⟩
       have hg8 : x8.cell? ⟨g, 24, none⟩ = some (.string (str [98])) := by
         have h7 := HA7.out
         exact (World.cell?_of_block (T8.fr.block g h7.2.2.1 (fun e => e.elim h7.2.2.2.2 (fun q => q.elim)))).trans h7.2.2.2.1
       rw [show str [98] = (⟨#[98]⟩ : ByteArray) from rfl] at hg8
       clear T8 HA7
       have hSi := size_plain x8 p pv [vp 1 [97]] HA8.out.1.base.inn
       rw [show (([vp 1 [97]].length : Nat) : Int) = 1 from rfl] at hSi
       have hRe := vreads_at HA8.out.1 (show r7.n + 1 ≤ 50000 by have := HA8.out.2; omega))
    | (go_at_call 27; refine hSi.mono ?_; clear hSi; rintro e x9 ⟨rfl, hw9⟩; rw [hw9]; clear hw9)
    | (go_at_call 14; refine hRe.mono ?_; clear hRe; rintro e x10 ⟨vr, RR, rfl, o10, b10, i10, -⟩
       have hlR := rd6 i10
       obtain ⟨ad, cap2, rfl, -, -, -, -⟩ := id o10.slB
       rw [hlR]
       clear hlR o10 i10))
  go_ret
  exact ⟨rfl, HA8.out.1.bel.trans (b10.mono HA8.out.1.bel.size)⟩
end Go.Proofs.YtkmeilenocjhaaaGreat
