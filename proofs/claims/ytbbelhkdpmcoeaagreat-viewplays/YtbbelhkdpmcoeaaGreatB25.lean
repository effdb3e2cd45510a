import Derived.Test.YtbbelhkdpmcoeaaGreatSi
import Derived.Test.YtbbelhkdpmcoeaaGreatB24
import Derived.Lib.SliceRun
import Derived.Deep.Upon
import Derived.RangeFuncWrites
import Derived.RangeFuncLeaves
/- takeBack of a view. -/
namespace Go.Proofs.YtbbelhkdpmcoeaaGreat
set_option linter.unusedVariables false
set_option maxRecDepth 100000
open Go.RowKit

theorem wp_drop_a {α : Type} {k : Nat} {E : Enc α k} {key : α → Int} {t te : TypeId} {z : α} {o : Oper} {a : Act} {w : World} {K : Act → World → Prop} {Q : Exit → Act → World → Prop} (T : MapTy E t te z) (m x : Operand) (hop : o.op = Op.call { callee := Callee.builtin Builtin.delete, args := #[m, x], argTypes := #[t, 29] })
    (b n : Nat) (L : List α) (hm : a.eval m = .map (some b)) (h : MapA E key w b n L) (J : Kz) (hx : a.eval x = kv J.k)
    (hK : ∀ w', MapA E key w' b n (delA key L J.n) → w.grownBy w' (some b) → K (a.put o.dst (.tuple #[])) w') : o.wp Tryz.prog a w K Q := by
  obtain ⟨w', hrun, r1, r2⟩ := h.drop T J o.type
  unfold Oper.wp
  simp [execOp, hop, resolve, invoke, builtin, hm, hx, hrun, Result.andThen]
  exact hK w' r1 r2
theorem range_cF {w : World} {g : Nat} {f : Fo} (h : w.rangeAt g 0 (encF.c f)) : w.rangeAt g 0 (encC.c f.c) := fun j v hv => by
  refine h j v ?_
  show (ccd f.c ++ [Value.bool f.was])[j]? = some v
  have hv' : (ccd f.c)[j]? = some v := hv
  rw [List.getElem?_append_left (List.getElem?_eq_some_iff.1 hv').1]
  exact hv'
theorem range_wF {w : World} {g : Nat} {f : Fo} (h : w.rangeAt g 0 (encF.c f)) : w.cell? ⟨g, 26, none⟩ = some (.bool f.was) := by
  have := h 26 (.bool f.was) (by
    show (ccd f.c ++ [Value.bool f.was])[26]? = _
    have hl : (ccd f.c).length = 26 := encC.len f.c
    rw [List.getElem?_append_right (by omega), hl]
    rfl)
  simpa using this
/-- What a round of takeBack holds. -/
structure TbV (y : World) (p q : Nat) (iv cv rv mv : Value) (J : Kz) (f : Fo) : Prop where
  blk : y.heap[p]? = some (.cells #[iv, cv, rv, mv] 72 (0, 0))
  box : Has y q J.k
  el : InB encF 122 y (q + 1) f
theorem TbV.key {y : World} {p q : Nat} {iv cv rv mv : Value} {J : Kz} {f : Fo} (h : TbV y p q iv cv rv mv J f) : y.rangeAt q 0 (bc J.k) := fun j v hv => by
  rw [Nat.zero_add, cell_of_row _ _ _ _ _ _ h.box.blk]
  simpa using hv
theorem TbV.ch {y : World} {p q : Nat} {iv cv rv mv : Value} {J : Kz} {f : Fo} (h : TbV y p q iv cv rv mv J f) : y.rangeAt (q + 1) 0 (encC.c f.c) := range_cF h.el.range
theorem TbV.cell1 {y : World} {p q : Nat} {iv cv rv mv : Value} {J : Kz} {f : Fo} (h : TbV y p q iv cv rv mv J f) : y.cell? ⟨p, 1, none⟩ = some cv := by rw [cell_of_row _ _ _ _ _ _ h.blk]; rfl
/-- Where takeBack's loop stands. -/
structure TbAt (w : World) (c ub r n m : Nat) (C : List Ch) (L : List Fo) (todo : Kz → Bool) (gg : Nat) (C' : List Ch) (k : Nat) (wr : World) : Prop where
  rg : RangeA encF Fo.n wr ub r n L todo gg
  mp : MapA encC Ch.n wr c k C'
  le : k + gg ≤ m + n
  bk : BackAt C L todo C'
  fr : FrV (fun i => i = c) w wr
set_option maxRecDepth 100000 in
set_option maxHeartbeats 8000000 in
theorem take_calls (w : World) (p : Nat) (iv rv mv : Value) (c ub n m : Nat) (C : List Ch) (L : List Fo) (hb : w.heap[p]? = some (.cells #[iv, .map (some c), rv, mv] 72 (0, 0))) (hC : MapA encC Ch.n w c m C) (hL : MapA encF Fo.n w ub n L) (hne : ub ≠ c) (hok : FoOk L) (hm : m ≤ 100000000) (hn : n ≤ 100000) :
    Calls Tryz.prog 42 #[.pointer (some ⟨p, 0, none⟩), .map (some ub)] w fun e w' => (∃ rv, e = .returned rv) ∧ MapA encC Ch.n w' c (m + n) (takeL C L) ∧ FrV (fun i => i = c) w w' := by
  have HBP : Hid (w.heap[p]? = some (.cells #[iv, .map (some c), rv, mv] 72 (0, 0)) ∧ p < w.heap.size ∧ p ≠ c) := ⟨hb, lt_of_block hb, fun e => by
    obtain ⟨es, cl, q⟩ := hC.isMap
    rw [← e, hb] at q
    cases q⟩
  have HCL0 : Hid (c < w.heap.size ∧ ub < w.heap.size ∧ ub ≠ c) := ⟨hC.lt, hL.lt, hne⟩
  have HCC : Hid (MapA encC Ch.n w c m C) := hC
  have HOK : Hid (FoOk L) := hok
  have HAS : Hid (Asc Ch.n C ∧ Asc Fo.n L) := ⟨hC.asc, hL.asc⟩
  have HCI : Hid ((Tryz.prog.info? 52).map (·.size) = some 26) := elC.info
  have HCK : Hid ((Tryz.prog.info? 29).map (·.size) = some 24) := Tryz.key_info
  have HMN : Hid (m ≤ 100000000 ∧ n ≤ 100000) := ⟨hm, hn⟩
  clear hb hC hne hok hm hn
  go_enter Tryz.func42, Tryz.ntmps42
  go_wp2_with (first
    | (at_range; refine range_a tyF rfl _ rfl ub n L rfl hL ?_; intro w0 cnt0 hrg0 hc0 hg0 hs0)
    | go_in)
  go_frame
  have HS0 : Hid (TbAt w c ub w.heap.size n m C L (fun K => (look Fo.n L K.n).isSome) cnt0 C m w0) :=
    ⟨hrg0, HCC.out.grown hg0 (by simp), by omega, BackAt.start HAS.out.1, FrV.of_grown hg0 (fun i e => by cases e)⟩
  clear hrg0 hc0 hg0 hs0 hL HCC
  generalize hr : w.heap.size = r at *
  go_loopg [4] cnt0 (fun gg _ wr => ∃ (todo : Kz → Bool) (C' : List Ch) (k : Nat), Hid (TbAt w c ub r n m C L todo gg C' k wr))
  case atStart => exact ⟨_, C, m, HS0⟩
  case round =>
    clear HS0
    obtain ⟨todo, C', k, HE⟩ := hrel
    have hrg := HE.out.rg
    generalize gk = cnt at *
    go_wp2_with (first
      | (at_next; refine next_a rfl _ rfl ub r n L todo cnt rfl hrg ?_ ?_)
      | go_in)
    · intro hl0
      have HD : Hid (∀ K, todo K = false) := hl0
      clear hl0 hrg
      go_wp2_with fail
      go_end0
      have E := HE.out
      refine ⟨⟨_, rfl⟩, ?_, E.fr⟩
      rw [← E.bk.done HD.out HAS.out.1 HAS.out.2 HOK.out]
      exact E.mp.mono (by have := E.le; omega)
    · intro K f x0 cnt2 hK hf hrg2 hlt hg2 hs2 hen
      have hrn := hrg.lt
      have E := HE.out
      have HB0 : Hid (RangeA encF Fo.n x0 ub r n L (without todo K) cnt2 ∧ MapA encC Ch.n x0 c k C' ∧ FrV (fun i => i = c) w x0 ∧ x0.heap[p]? = some (.cells #[iv, .map (some c), rv, mv] 72 (0, 0))) :=
        ⟨hrg2, E.mp.grown hg2 (by have := HCL0.out; simp; omega), E.fr.trans (FrV.of_grown (S := fun i => i = r) hg2 (fun i e => by cases e; rfl)) (fun i e => .inr (by rw [hr]; exact Nat.le_of_eq e.symm)), (hg2.block p (by have := E.fr.size; have := HBP.out.2.1; omega) (fun e => by cases e; have := HBP.out.2.1; omega)).trans ((E.fr.block p (by have := HBP.out.2.1; omega) HBP.out.2.2).trans HBP.out.1)⟩
      have HC : Hid (k + cnt ≤ m + n ∧ BackAt C L todo C') := ⟨E.le, E.bk⟩
      have HLT : Hid (cnt2 < cnt) := hlt
      have HKY : Hid (look Fo.n L K.n = some f) := hf
      have HFN : Hid (f.was = true → f.c.n = K.n) := fun q => (HOK.out f (look_key Fo.n hf).1 q).trans (look_key Fo.n hf).2
      clear hg2 hrg2 hs2 hlt hK hf hrg hrn E HE
      go_upto_region 3 with (first
        | (refine store_el elK rfl _ _ rfl x0.heap.size rfl K rfl kz0 ((InB.new encKz _ x0 kz0 _ rfl).alloc _) ?_; intro x1 hu1 tx1 sx1
           have hz1 : InB encF 122 x1 (x0.heap.size + 1) fo0 := (InB.new encF _ (x0.alloc (.cells (encKz.c kz0).toArray 29)) fo0 _ (by simp)).touch tx1 (by omega) (by simp))
        | (refine store_el elF rfl _ _ rfl (x0.heap.size + 1) rfl f rfl fo0 hz1 ?_; intro x2 hu2 tx2 sx2))
      have BX : Below x0.heap.size x0 x2 := ((((Below.refl _ x0).alloc (Nat.le_refl _) _).alloc (by simp) _).trans (tx1.below (by simp; omega) (Nat.le_refl _) (by simp))).trans (tx2.below (by rw [sx1]; simp; omega) (by omega) (by simp))
      have hK2 : Has x2 x0.heap.size K.k := ⟨K.h, (hu1.touch tx2 (by omega) (by simp)).blk⟩
      have hwas := range_wF hu2.range
      have HB2 : Hid (RangeA encF Fo.n x2 ub r n L (without todo K) cnt2 ∧ MapA encC Ch.n x2 c k C' ∧ FrV (fun i => i = c) w x2) :=
        ⟨HB0.out.1.below BX (Nat.le_refl _), HB0.out.2.1.below BX (Nat.le_refl _), HB0.out.2.2.1.trans (FrV.of_below (S := fun i => i = c) BX) (fun i e => .inl e)⟩
      have HS : Hid (TbV x2.drew p x0.heap.size iv (.map (some c)) rv mv K f) := ⟨(show x2.heap[p]? = _ from (BX.block p (lt_of_block HB0.out.2.2.2)).trans HB0.out.2.2.2), ⟨hK2.len, hK2.blk⟩, ⟨hu2.blk⟩⟩
      have HQL : Hid (c < x0.heap.size ∧ r < x0.heap.size) := ⟨HB0.out.2.1.lt, HB0.out.1.lt⟩
      have HKL : Hid ((bc K.k).length = 24) := (show _ = _ by rw [bc_length, K.h])
      have HCL : Hid ((encC.c f.c).length = 26) := encC.len f.c
      clear hz1 tx1 tx2 sx1 sx2 hu1 BX HB0 hen hK2 hu2
      generalize x0.heap.size = q at *
      cases hw : f.was with
      | true =>
        rw [hw] at hwas
        have HW : Hid (f.was = true) := hw
        clear hw
        go_upto_region 4 with fail
        refine wp_region_noPanic ?_
        refine wp_region_held_drew (S := (fun y => TbV y p q iv (.map (some c)) rv mv K f)) (by kernel_rfl) (HS.out) (fun hHeld => ?_)
        refine wpAnyH_take (i := 0) (v := ?_) rfl (by kernel_rfl) (by kernel_rfl) (by kernel_rfl) (fun _ _ _ h => h) (Or.inl ⟨by rfl, ?_⟩) hHeld ?_
        case refine_2 => (intro w hSw; (try dsimp only at hSw); go_simp; try (with_reducible rfl))
        (try simp only [gs])
        refine wpAnyH_take (i := 1) (v := ?_) rfl (by kernel_rfl) (by kernel_rfl) (by kernel_rfl) (fun _ _ _ h => h) (Or.inl ⟨by rfl, ?_⟩) hHeld ?_
        case refine_2 => (intro w hSw; (try dsimp only at hSw); go_simp; try (with_reducible rfl))
        (try simp only [gs])
        refine wpAnyH_take (i := 2) (v := ?_) rfl (by kernel_rfl) (by kernel_rfl) (by kernel_rfl) (fun _ _ _ h => h) (Or.inl ⟨by rfl, ?_⟩) hHeld ?_
        case refine_2 => (intro w hSw; (try dsimp only at hSw); go_simp; try (with_reducible rfl))
        (try simp only [gs])
        refine wpAnyH_take (i := 3) (v := ?_) rfl (by kernel_rfl) (by kernel_rfl) (by kernel_rfl) (fun _ _ _ h => h) (Or.inl ⟨by rfl, ?_⟩) hHeld ?_
        case refine_2 => (intro w hSw; (try dsimp only at hSw); have hc := hSw.cell1; go_simp; try (with_reducible rfl))
        (try simp only [gs])
        refine wpAnyH_take (i := 4) rfl (by kernel_rfl) (by kernel_rfl) (by kernel_rfl) (fun _ _ _ h => h) (yieldsIf_load_mid (by rfl) _ _ rfl _ _ rfl _ _ (fun y h => TbV.key h) Tryz.underlying29 rfl (by rw [HKL.out]; exact HCK.out)) hHeld ?_
        (try simp only [gs])
        refine wpAnyH_take (i := 5) (v := ?_) rfl (by kernel_rfl) (by kernel_rfl) (by kernel_rfl) (fun _ _ _ h => h) (Or.inl ⟨by rfl, ?_⟩) hHeld ?_
        case refine_2 => (intro w hSw; (try dsimp only at hSw); go_simp; try (with_reducible rfl))
        (try simp only [gs])
        refine wpAnyH_take (i := 6) rfl (by kernel_rfl) (by kernel_rfl) (by kernel_rfl) (fun _ _ _ h => h) (yieldsIf_load_mid (by rfl) _ _ rfl _ _ rfl _ _ (fun y h => TbV.ch h) Tryz.underlying52 rfl (by rw [HCL.out]; exact HCI.out)) hHeld ?_
        (try simp only [gs])
        generalize hy1 : x2.drew = y1 at *
        refine wpAnyH_ready (rs := [7]) (by kernel_rfl) (by simp) (AllReadyH.cons rfl (fun K0 hK => ?_) AllReadyH.nil)
        rw [if_pos (by rfl)]
        (try simp only [gs])
        have hm1 : MapA encC Ch.n y1 c k C' := by rw [← hy1]; exact HB2.out.2.1.kept rfl
        refine wp_store_a tyC _ _ _ rfl c k C' rfl hm1 (by have := HC.out.1; have := HMN.out; omega) K rfl f.c rfl (HFN.out HW.out) ?_
        intro y2 hm2 gr2
        have hB : ∀ i, i < y1.heap.size → i ≠ c → y2.heap[i]? = y1.heap[i]? := fun i hi hne => gr2.block i hi (fun e => hne (by cases e; rfl))
        refine hK.out _ _ ⟨(hB p (lt_of_block hHeld.blk) HBP.out.2.2).trans hHeld.blk, ⟨K.h, (hB _ hHeld.box.lt (by have := HQL.out.1; omega)).trans hHeld.box.blk⟩, ⟨(hB _ hHeld.el.lt (by have := HQL.out.1; omega)).trans hHeld.el.blk⟩⟩ (fun g1 => ?_)
        clear hK
        (try simp only [gs])
        refine wpAnyH_done (by kernel_rfl) ?_ _
        refine NoPanic.normal ?_
        have hgw : x2.grownBy y2 (some c) := by have := gr2; rw [← hy1] at this; exact ⟨this.os, this.tape, this.output, this.size, this.block⟩
        have hst : BackAt C L (without todo K) (putA Ch.n C' f.c) := by have := HC.out.2.step HOK.out HKY.out; unfold backS at this; rw [if_pos HW.out] at this; exact this
        have HN : Hid (TbAt w c ub r n m C L (without todo K) cnt2 _ _ y2) := ⟨HB2.out.1.kept (row := some c) hgw (by have := HCL0.out; simp; omega) (by have := HCL0.out; simp; omega), hm2, by have := HC.out.1; have := HLT.out; omega, hst, HB2.out.2.2.trans (FrV.of_grown (S := fun i => i = c) hgw (fun i e => by cases e; rfl)) (fun i e => .inl e)⟩
        clear g1 hHeld hB gr2 hm2 HS HB2 HKL HCL
        go_wp2_with fail
        go_roundg cnt2
        case measure => exact HLT.out
        case rel => exact ⟨_, _, _, HN⟩
      | false =>
        rw [hw] at hwas
        have HW : Hid (f.was = false) := hw
        clear hw
        go_upto_region 5 with fail
        refine wp_region_noPanic ?_
        refine wp_region_held_drew (S := (fun y => TbV y p q iv (.map (some c)) rv mv K f)) (by kernel_rfl) (HS.out) (fun hHeld => ?_)
        refine wpAnyH_take (i := 0) (v := ?_) rfl (by kernel_rfl) (by kernel_rfl) (by kernel_rfl) (fun _ _ _ h => h) (Or.inl ⟨by rfl, ?_⟩) hHeld ?_
        case refine_2 => (intro w hSw; (try dsimp only at hSw); go_simp; try (with_reducible rfl))
        (try simp only [gs])
        refine wpAnyH_take (i := 1) (v := ?_) rfl (by kernel_rfl) (by kernel_rfl) (by kernel_rfl) (fun _ _ _ h => h) (Or.inl ⟨by rfl, ?_⟩) hHeld ?_
        case refine_2 => (intro w hSw; (try dsimp only at hSw); go_simp; try (with_reducible rfl))
        (try simp only [gs])
        refine wpAnyH_take (i := 2) (v := ?_) rfl (by kernel_rfl) (by kernel_rfl) (by kernel_rfl) (fun _ _ _ h => h) (Or.inl ⟨by rfl, ?_⟩) hHeld ?_
        case refine_2 => (intro w hSw; (try dsimp only at hSw); go_simp; try (with_reducible rfl))
        (try simp only [gs])
        refine wpAnyH_take (i := 3) (v := ?_) rfl (by kernel_rfl) (by kernel_rfl) (by kernel_rfl) (fun _ _ _ h => h) (Or.inl ⟨by rfl, ?_⟩) hHeld ?_
        case refine_2 => (intro w hSw; (try dsimp only at hSw); have hc := hSw.cell1; go_simp; try (with_reducible rfl))
        (try simp only [gs])
        refine wpAnyH_take (i := 4) rfl (by kernel_rfl) (by kernel_rfl) (by kernel_rfl) (fun _ _ _ h => h) (yieldsIf_load_mid (by rfl) _ _ rfl _ _ rfl _ _ (fun y h => TbV.key h) Tryz.underlying29 rfl (by rw [HKL.out]; exact HCK.out)) hHeld ?_
        (try simp only [gs])
        generalize hy1 : x2.drew = y1 at *
        refine wpAnyH_ready (rs := [5]) (by kernel_rfl) (by simp) (AllReadyH.cons rfl (fun K0 hK => ?_) AllReadyH.nil)
        rw [if_pos (by rfl)]
        (try simp only [gs])
        have hm1 : MapA encC Ch.n y1 c k C' := by rw [← hy1]; exact HB2.out.2.1.kept rfl
        refine wp_drop_a tyC _ _ rfl c k C' rfl hm1 K rfl ?_
        intro y2 hm2 gr2
        have hB : ∀ i, i < y1.heap.size → i ≠ c → y2.heap[i]? = y1.heap[i]? := fun i hi hne => gr2.block i hi (fun e => hne (by cases e; rfl))
        refine hK.out _ _ ⟨(hB p (lt_of_block hHeld.blk) HBP.out.2.2).trans hHeld.blk, ⟨K.h, (hB _ hHeld.box.lt (by have := HQL.out.1; omega)).trans hHeld.box.blk⟩, ⟨(hB _ hHeld.el.lt (by have := HQL.out.1; omega)).trans hHeld.el.blk⟩⟩ (fun g1 => ?_)
        clear hK
        (try simp only [gs])
        refine wpAnyH_done (by kernel_rfl) ?_ _
        refine NoPanic.normal ?_
        have hgw : x2.grownBy y2 (some c) := by have := gr2; rw [← hy1] at this; exact ⟨this.os, this.tape, this.output, this.size, this.block⟩
        have hst : BackAt C L (without todo K) (delA Ch.n C' K.n) := by have := HC.out.2.step HOK.out HKY.out; unfold backS at this; rw [if_neg (by rw [HW.out]; simp), (look_key Fo.n HKY.out).2] at this; exact this
        have HN : Hid (TbAt w c ub r n m C L (without todo K) cnt2 _ _ y2) := ⟨HB2.out.1.kept (row := some c) hgw (by have := HCL0.out; simp; omega) (by have := HCL0.out; simp; omega), hm2, by have := HC.out.1; have := HLT.out; omega, hst, HB2.out.2.2.trans (FrV.of_grown (S := fun i => i = c) hgw (fun i e => by cases e; rfl)) (fun i e => .inl e)⟩
        clear g1 hHeld hB gr2 hm2 HS HB2 HKL HCL
        go_wp2_with fail
        go_roundg cnt2
        case measure => exact HLT.out
        case rel => exact ⟨_, _, _, HN⟩
end Go.Proofs.YtbbelhkdpmcoeaaGreat
/- slices.Delete of the marks' end. -/
namespace Go.Proofs.YtbbelhkdpmcoeaaGreat
set_option linter.unusedVariables false
set_option maxRecDepth 100000
open Go.RowKit

theorem setCells_grown (g : Nat) : ∀ (vs : List Value) (o : Nat) (w : World), w.grownBy (w.setCells g o vs) (some g)
  | [], o, w => ⟨rfl, rfl, rfl, Nat.le_refl _, fun _ _ _ => rfl⟩
  | v :: r, o, w => by
    have ih := setCells_grown g r (o + 1) (w.setCell ⟨g, o, none⟩ v)
    exact ⟨ih.os, ih.tape, ih.output, (by have := ih.size; simp at this ⊢; try omega), fun i hi hne => (ih.block i (by simpa using hi) hne).trans (heap_setCell_other _ _ _ _ (fun e => hne (by rw [e])))⟩
theorem setCells_row (g : Nat) (ty : TypeId) : ∀ (vs : List Value) (o : Nat) (w : World) (cur : Array Value), w.heap[g]? = some (.cells cur ty (0, 0)) → o + vs.length ≤ cur.size →
    ∃ cur', (w.setCells g o vs).heap[g]? = some (.cells cur' ty (0, 0)) ∧ cur'.size = cur.size ∧ ∀ j, j < o → cur'[j]? = cur[j]?
  | [], o, w, cur, h, _ => ⟨cur, h, rfl, fun _ _ => rfl⟩
  | v :: r, o, w, cur, h, hl => by
    have h1 : (w.setCell ⟨g, o, none⟩ v).heap[g]? = some (.cells (cur.setIfInBounds o v) ty (0, 0)) := by
      rw [setCell_eq_setRow w g o _ _ _ _ h, setRow_heap w g _ _ _ _ h]
    obtain ⟨cur', q1, q2, q3⟩ := setCells_row g ty r (o + 1) (w.setCell ⟨g, o, none⟩ v) _ h1 (by simp at hl ⊢; omega)
    refine ⟨cur', q1, by rw [q2]; simp, fun j hj => ?_⟩
    rw [q3 j (by omega)]
    simp [show o ≠ j by omega]
theorem wp_append_none {P : Program} {t e : TypeId} {i : TypeInfo} {o : Oper} {a : Act} {w : World} {K : Act → World → Prop} {Q : Exit → Act → World → Prop} (ht : P.underlying t = some (.slice e)) (hi : P.info? e = some i) (s x : Operand) (ho : o.op = .call { callee := .builtin .append, args := #[s, x], argTypes := #[t, t] })
    (b : Addr) (n c : Nat) (ao : Option Addr) (c' : Nat) (hn : n ≤ c) (hs : a.eval s = .slice (some b) n c) (hx : a.eval x = .slice ao 0 c') (h : K (a.put o.dst (.slice (some b) n c)) w) : o.wp P a w K Q := by
  have hsrc : Src P i.size t (.slice ao 0 c') 0 [] w := by
    cases ao with
    | none => exact Src.ofNil w ht c'
    | some A => exact Src.ofSlice w ht A 0 c' [] (by simp) (fun j u hu => by simp at hu) (fun u hu => by cases hu)
  have hr := run_append_nothing w t t o.type e i ht hi (some b) n c hn (.slice ao 0 c') hsrc
  unfold Oper.wp
  simp [execOp, ho, resolve, invoke, builtin, hs, hx, hr, Result.andThen]
  exact h
theorem del_end (w y1 : World) (g cap N i : Nat) (u : List Nat) (cur : Array Value) (hsz : cur.size = cap) (htk : cur.toList.take N = encM.flat u) (hN : u.length = N) (hcm : cap ≤ maxLen) (hNc : N ≤ cap) (hi : i < N) (hy : y1.heap[g]? = some (.cells cur 90 (0, 0))) (hb : Below w.heap.size w y1) :
    Own encM 90 (y1.setCells g i (List.replicate (N - i) (.map none))) 0 (.slice (some ⟨g, 0, none⟩) i cap) (u.take i) ∧ w.grownBy (y1.setCells g i (List.replicate (N - i) (.map none))) (some g) := by
  obtain ⟨cur', q1, q2, q3⟩ := setCells_row g 90 (List.replicate (N - i) (.map none)) i y1 cur hy (by simp; omega)
  have hlen : (u.take i).length = i := by rw [List.length_take]; omega
  have hg := setCells_grown g (List.replicate (N - i) (.map none)) i y1
  refine ⟨⟨encM.flat_length _, .inr ⟨g, cap, cur', by rw [hlen], Nat.zero_le _, q1, by rw [hlen]; omega, hcm, by rw [q2, hsz, Nat.mul_one], ?_⟩⟩, ⟨hg.os.trans hb.os, hg.tape.trans hb.tape, hg.output.trans hb.output, Nat.le_trans hb.size hg.size, fun j hj hne => (hg.block j (by have := hb.size; omega) hne).trans (hb.block j hj)⟩⟩
  rw [hlen, Nat.mul_one, flatM]
  rw [flatM] at htk
  apply List.ext_getElem?
  intro j
  rw [List.getElem?_take]
  by_cases hj : j < i
  · rw [if_pos hj]
    have h1 : cur'.toList[j]? = cur.toList[j]? := by simpa using q3 j hj
    have h2 : (cur.toList.take N)[j]? = cur.toList[j]? := by rw [List.getElem?_take, if_pos (by omega)]
    rw [h1, ← h2, htk]
    simp [hj]
  · rw [if_neg hj]
    have : (u.take i).length ≤ j := by rw [hlen]; omega
    simp [List.getElem?_take, hj]
set_option maxHeartbeats 4000000 in
theorem delM_calls (w : World) (g cap N i : Nat) (u : List Nat) (hrow : Own encM 90 w 0 (.slice (some ⟨g, 0, none⟩) N cap) u) (hN : u.length = N) (hi : i < N) :
    Calls Tryz.prog 43 #[.slice (some ⟨g, 0, none⟩) N cap, .int .i64 (i : Int), .int .i64 (N : Int)] w fun e w' => e = .returned (.slice (some ⟨g, 0, none⟩) i cap) ∧ Own encM 90 w' 0 (.slice (some ⟨g, 0, none⟩) i cap) (u.take i) ∧ w.grownBy w' (some g) := by
  obtain ⟨cur, hcur, hNc, hcm, hsz, htk⟩ : ∃ cur, w.heap[g]? = some (.cells cur 90 (0, 0)) ∧ N ≤ cap ∧ cap ≤ maxLen ∧ cur.size = cap ∧ cur.toList.take N = encM.flat u := by
    rcases hrow.2 with ⟨q, _⟩ | ⟨g', cap', cur, q, _, q2, q3, q4, q5, q6⟩
    · cases q
    · rw [hN] at q q3 q6
      cases q
      exact ⟨cur, q2, q3, q4, by simpa using q5, by simpa using q6⟩
  have HM : Hid (cap ≤ 9223372036854775807) := (show cap ≤ _ from hcm)
  have HROW : Hid (w.heap[g]? = some (.cells cur 90 (0, 0)) ∧ cur.size = cap ∧ cur.toList.take N = encM.flat u ∧ u.length = N ∧ cap ≤ maxLen) := ⟨hcur, hsz, htk, hN, hcm⟩
  obtain ⟨ti, hti⟩ : ∃ ti, Tryz.prog.info? 90 = some ti := ⟨_, rowM.parts.choose_spec.choose_spec.1⟩
  have HTI : Hid (Tryz.prog.info? 90 = some ti) := hti
  have HCL : Hid (∀ (y : World) (ty : TypeId), y.heap[g]? = some (.cells cur 90 (0, 0)) → (Builtin.clear_ #[70] ty #[.slice (some ⟨g, i, none⟩) (N - i) (cap - i)]).run Tryz.prog y = .ok (.tuple #[]) (y.setCells g i (List.replicate (N - i) (.map none)))) := fun y ty hy =>
    Lib.run_clear_slice y _ 90 ty (.map none) Tryz.underlying70 (fun w => by kernel_rfl) rfl rfl g i (N - i) (cap - i) (by omega)
      (fun j hj => by rw [cell_of_row _ _ _ _ _ _ hy, Array.getElem?_eq_getElem (by omega)]; rfl) (fun j hj => by simp [World.frozen?, hy])
  have hiN : (i : Int) < (N : Int) := by omega
  have hic : (i : Int) ≤ (cap : Int) := by omega
  have hiN2 : (i : Int) ≤ (N : Int) := by omega
  have hNcI : (N : Int) ≤ (cap : Int) := by omega
  have hne : ((i : Int) == (N : Int)) = false := by simpa using (show (i : Int) ≠ (N : Int) by omega)
  have HNN : Hid (N ≤ cap ∧ i < N) := ⟨hNc, hi⟩
  clear hrow hcur htk hsz hcm hti hN
  go_enter Tryz.func43, Tryz.ntmps43
  go_upto_region 5 with fail
  refine wp_region_noPanic ?_
  refine wp_region_held_drew (S := (fun y => y.heap[g]? = some (.cells cur 90 (0, 0)))) (by kernel_rfl) (HROW.out.1) (fun hHeld => ?_)
  refine wpAnyH_take (i := 0) (v := ?_) rfl (by kernel_rfl) (by kernel_rfl) (by kernel_rfl) (fun _ _ _ h => h) (Or.inl ⟨by rfl, ?_⟩) hHeld ?_
  case refine_2 => (intro w hSw; (try dsimp only at hSw); go_simp; try (with_reducible rfl))
  (try simp only [gs])
  refine wpAnyH_take (i := 1) (v := ?_) rfl (by kernel_rfl) (by kernel_rfl) (by kernel_rfl) (fun _ _ _ h => h) (Or.inl ⟨by rfl, ?_⟩) hHeld ?_
  case refine_2 => (intro w hSw; (try dsimp only at hSw); go_simp; try (with_reducible rfl))
  (try simp only [gs])
  refine wpAnyH_take (i := 2) (v := ?_) rfl (by kernel_rfl) (by kernel_rfl) (by kernel_rfl) (fun _ _ _ h => h) (Or.inl ⟨by rfl, ?_⟩) hHeld ?_
  case refine_2 => (intro w hSw; (try dsimp only at hSw); go_simp; try (with_reducible rfl))
  (try simp only [gs])
  refine wpAnyH_take (i := 3) (v := ?_) rfl (by kernel_rfl) (by kernel_rfl) (by kernel_rfl) (fun _ _ _ h => h) (Or.inl ⟨by rfl, ?_⟩) hHeld ?_
  case refine_2 => (intro w hSw; (try dsimp only at hSw); go_simp; try (with_reducible rfl))
  (try simp only [gs])
  refine wpAnyH_take (i := 4) (v := ?_) rfl (by kernel_rfl) (by kernel_rfl) (by kernel_rfl) (fun _ _ _ h => h) (Or.inl ⟨by rfl, ?_⟩) hHeld ?_
  case refine_2 => (intro w hSw; (try dsimp only at hSw); go_simp; try (with_reducible rfl))
  (try simp only [gs])
  refine wpAnyH_take (i := 5) (v := ?_) rfl (by kernel_rfl) (by kernel_rfl) (by kernel_rfl) (fun _ _ _ h => h) (Or.inl ⟨by rfl, ?_⟩) hHeld ?_
  case refine_2 => (intro w hSw; (try dsimp only at hSw); go_simp; try (with_reducible rfl))
  (try simp only [gs])
  have HBD : Hid (Below w.heap.size w w.drew) := ⟨rfl, rfl, rfl, Nat.le_refl _, fun _ _ => rfl⟩
  generalize w.drew = y1 at *
  refine wpAnyH_ready (rs := [6]) (by kernel_rfl) (by simp) (AllReadyH.cons rfl (fun K0 hK => ?_) AllReadyH.nil)
  rw [if_pos (by rfl)]
  (try simp only [gs])
  refine wp_append_none Tryz.underlying70 HTI.out (.tmp 22) (.tmp 25) rfl ⟨g, 0, none⟩ i cap _ (cap - N) (by have := HNN.out; omega) rfl rfl ?_
  refine hK.out _ _ hHeld (fun g1 => ?_)
  clear hK K0
  (try simp only [gs])
  refine wpAnyH_take (i := 7) (v := ?_) rfl (by kernel_rfl) (by kernel_rfl) (by kernel_rfl) (fun _ _ _ h => h) (Or.inl ⟨by rfl, ?_⟩) g1 ?_
  case refine_2 => (intro w hSw; (try dsimp only at hSw); go_simp; try (with_reducible rfl))
  (try simp only [gs])
  refine wpAnyH_done (by kernel_rfl) ?_ _
  refine NoPanic.normal ?_
  have HG : Hid (y1.heap[g]? = some (.cells cur 90 (0, 0)) ∧ Below w.heap.size w y1) := ⟨g1, HBD.out⟩
  have hcl := HCL.out y1
  clear g1 hHeld HCL HTI
  have hcl := fun ty => hcl ty HG.out.1
  have HEND : Hid (Own encM 90 (y1.setCells g i (List.replicate (N - i) (.map none))) 0 (.slice (some ⟨g, 0, none⟩) i cap) (u.take i) ∧ w.grownBy (y1.setCells g i (List.replicate (N - i) (.map none))) (some g)) :=
    del_end w y1 g cap N i u cur HROW.out.2.1 HROW.out.2.2.1 HROW.out.2.2.2.1 HROW.out.2.2.2.2 HNN.out.1 HNN.out.2 HG.out.1 HG.out.2
  go_wp2_with fail
  all_goals
    go_ret
    first
      | exact ⟨rfl, HEND.out⟩
      | (have hE := HEND.out; rw [show cap = N by assumption] at hE; exact ⟨rfl, hE⟩)
end Go.Proofs.YtbbelhkdpmcoeaaGreat
/- slices.Backward over marks; the loop over it, in the words of the range over a function. -/
namespace Go.Proofs.YtbbelhkdpmcoeaaGreat
set_option linter.unusedVariables false
set_option maxRecDepth 100000
open Go.RowKit

/-- n - 1, .., k: what has come when k are left. -/
def dn (n k : Nat) : List Nat := (List.range' k (n - k)).reverse
theorem dn_start (n : Nat) : dn n n = [] := by simp [dn]
theorem dn_step {n k : Nat} (hk : k + 1 ≤ n) : dn n k = dn n (k + 1) ++ [k] := by
  unfold dn
  rw [show n - k = (n - (k + 1)) + 1 by omega, List.range'_succ, List.reverse_cons]
theorem dn_length (n k : Nat) : (dn n k).length = n - k := by simp [dn]
theorem dn_zero (n : Nat) : dn n 0 = (List.range n).reverse := by simp [dn, List.range_eq_range']
/-- All old blocks but one stand. -/
def KpB (B c : Nat) (W W' : World) : Prop := ∀ b, b < B → b ≠ c → W'.heap[b]? = W.heap[b]?
theorem kpB_t {B c : Nat} {X Y Z : World} (h : KpB B c X Y) (k : KpB B c Y Z) : KpB B c X Z := fun b hb hc => (k b hb hc).trans (h b hb hc)
theorem kpB_b {B c : Nat} {w : World} (hB : B ≤ w.heap.size) (W : World) (l : Nat) (o o' : Obj) (hl : w.heap.size ≤ l) (_ : W.heap[l]? = some o) (_ : o.isCells = false) (_ : o.isWalk = false) : KpB B c W (W.putObj l o') :=
  fun b hb _ => World.putObj_heap_other (by omega)
set_option maxRecDepth 100000 in
set_option maxHeartbeats 4000000 in
theorem bwd1_in (n : Nat) (hn : 1 ≤ n) (l Bs B c g off len cap : Nat) (f : Nat → Nat) (hl : len ≤ 1000000) (hBs : Bs < B ∧ Bs ≠ c) (hg : g < B ∧ g ≠ c) (J Jx : List Nat → World → Prop)
    (hY : ∀ pre (x : Nat) W, J pre W → pre.length < len → YieldAt Fence.wide (n - 1) Tryz.prog l #[.int .i64 (x : Int), .map (some (f x))] W fun e W' =>
      (e = .returned (.bool true) ∧ J (pre ++ [x]) W' ∧ KpB B c W W') ∨ (e = .returned (.bool false) ∧ Jx (pre ++ [x]) W'))
    (W : World) (hb : W.heap[Bs]? = some (.cells #[.slice (some ⟨g, off, none⟩) len cap] 70 (0, 0))) (hc : ∀ j, j < len → W.cell? ⟨g, off + j, none⟩ = some (.map (some (f j)))) (h0 : J [] W) :
    CallsIn Fence.wide n Tryz.prog 65 #[.func (.yield l) #[] #[], .pointer (some ⟨Bs, 0, none⟩)] W fun e W' => (∃ v, e = .returned v) ∧
      ((∃ xs, xs = (List.range len).reverse ∧ J xs W') ∨ (∃ pre, (∃ k, k ≤ len ∧ pre = dn len k) ∧ Jx pre W')) := by
  have hcB : ∀ wr, KpB B c W wr → wr.cell? ⟨Bs, 0, none⟩ = some (.slice (some ⟨g, off, none⟩) len cap) := fun wr h => by
    rw [World.cell?_of_block (h Bs hBs.1 hBs.2), cell_of_row _ _ _ _ _ _ hb]
    rfl
  have hcG : ∀ wr, KpB B c W wr → ∀ j, j < len → wr.cell? ⟨g, off + j, none⟩ = some (.map (some (f j))) := fun wr h j hj => (World.cell?_of_block (h g hg.1 hg.2)).trans (hc j hj)
  have HB : Hid (∀ wr, KpB B c W wr → wr.cell? ⟨Bs, 0, none⟩ = some (.slice (some ⟨g, off, none⟩) len cap)) := hcB
  have HG : Hid (∀ wr, KpB B c W wr → ∀ j, j < len → wr.cell? ⟨g, off + j, none⟩ = some (.map (some (f j)))) := hcG
  have hb0 := hcB W (fun _ _ _ => rfl)
  clear hb hc hcB hcG
  refine callsIn_of_wp Tryz.func65 rfl trivial ?_ rfl
  simp only [Tryz.ntmps65, List.size_toArray, List.length_cons, List.length_nil, Nat.reduceAdd, Nat.reduceSub, Array.replicate_succ, Array.replicate_zero, List.push_toArray, List.append_toArray, List.nil_append, List.cons_append]
  gi_wp2
  gi_loopw [3] (fun i wr => ∃ k : Nat, k ≤ len ∧ i = .int .i64 ((k : Int) - 1) ∧ J (dn len k) wr ∧ KpB B c W wr)
    (fun i _ => (intOf i + 1).toNat)
  case atStart => exact ⟨len, Nat.le_refl _, by simp, by rw [dn_start]; exact h0, fun _ _ _ => rfl⟩
  case round =>
    obtain ⟨k, hk, rfl, hJs, hnx⟩ := hrel
    cases k with
    | zero =>
      rw [show (((0 : Nat) : Int) - 1) = -1 by omega]
      gi_wp2
      go_end0
      exact ⟨⟨_, rfl⟩, .inl ⟨_, (dn_zero len), hJs⟩⟩
    | succ k =>
      rw [show (((k + 1 : Nat) : Int) - 1) = (k : Int) by omega]
      obtain ⟨fn, tmps, assign, body, hy, hR⟩ := hY _ k wr hJs (by rw [dn_length]; omega)
      have hc1 := HB.out wr hnx
      have hc2 := HG.out wr hnx k (by omega)
      have hkI : (k : Int) < (len : Int) := by omega
      have hk0 : (0 : Int) ≤ (k : Int) := by omega
      have HKL : Hid (k + 1 ≤ len) := hk
      clear hb0 hk
      gi_wp2
      refine hR.mono ?_
      rintro e W3 (⟨rfl, hJ3, hk3⟩ | ⟨rfl, hJx3⟩)
      · gi_wp2
        go_roundw
        case rel => exact ⟨k, by have := HKL.out; omega, rfl, by rw [dn_step HKL.out]; exact hJ3, kpB_t hnx hk3⟩
        case measure => simp [intOf]
      · gi_wp2
        refine bodyPost_ret (results_none rfl _ _ _) rfl ?_
        exact ⟨⟨_, rfl⟩, .inr ⟨_, ⟨k, by have := HKL.out; omega, (dn_step HKL.out).symm⟩, hJx3⟩⟩
theorem bwd_calls (w : World) (a : Option Addr) (len cap : Nat) :
    Calls Tryz.prog 41 #[.slice a len cap] w fun e w' => e = .returned (.func (.func 65) #[] #[.pointer (some ⟨w.heap.size, 0, none⟩)]) ∧ w' = w.alloc (.cells #[.slice a len cap] 70) := by
  go_enter Tryz.func41, Tryz.ntmps41
  go_wp2
  go_ret
  exact ⟨rfl, rfl⟩
theorem bwd_stops (n : Nat) (hn : 1 ≤ n) (Bs B c g off len cap : Nat) (f : Nat → Nat) (hl : len ≤ 1000000) (hBs : Bs < B ∧ Bs ≠ c) (hg : g < B ∧ g ≠ c) (w : World) (hB : B ≤ w.heap.size)
    (hb : w.heap[Bs]? = some (.cells #[.slice (some ⟨g, off, none⟩) len cap] 70 (0, 0))) (hc : ∀ j, j < len → w.cell? ⟨g, off + j, none⟩ = some (.map (some (f j)))) :
    SeqStopsK Fence.wide n Tryz.prog 65 #[.pointer (some ⟨Bs, 0, none⟩)] (fun x : Nat => #[Value.int .i64 (x : Int), .map (some (f x))]) (KpB B c) (fun xs => xs = (List.range len).reverse) (fun pre => ∃ k, k ≤ len ∧ pre = dn len k) len w := fun l J Jx W hW _ _ hY h0 =>
  bwd1_in n hn l Bs B c g off len cap f hl hBs hg J Jx hY W ((hW.block Bs (by omega)).trans hb) (fun j hj => (hW.cell (p := ⟨g, off + j, none⟩) (show g < w.heap.size by omega)).trans (hc j hj)) h0
end Go.Proofs.YtbbelhkdpmcoeaaGreat
