import Derived.Test.YtdmindhjmjnagaaGreatDoorSi
import Derived.Test.YtdmindhjmjnagaaGreatDoorB01
import Derived.Test.YtdmindhjmjnagaaGreatDoorB19
/- VwI VwJ VwK VwL VwN VwP -/
namespace Go.Proofs.YtdmindhjmjnagaaGreatDoor
set_option linter.unusedVariables false
set_option maxRecDepth 1000000
set_option maxHeartbeats 32000000
section
open Go.RowKit
def keepU (C : List Ch) (U : List (List Fo)) (J : Kz) : List (List Fo) := U.set (U.length - 1) (keepL C (U.getD (U.length - 1) []) J)
def VS.change (V : VS) (c : Ch) : VS := { C := putA Ch.n V.C c, R := V.R, U := keepU V.C V.U c.kz }
structure CgV (y : World) (p q : Nat) (iv : Value) (x : VR) (V : VS) (c : Ch) : Prop where
 vw : VwIn y p iv x V
 box : InB encC 95 y q c
 qlt : ∀ i, x.own p i → i < q
theorem CgV.drew {y : World} {p q : Nat} {iv : Value} {x : VR} {V : VS} {c : Ch} (h : CgV y p q iv x V c) : CgV y.drew p q iv x V c := ⟨h.vw.called ⟨rfl, rfl, rfl, Nat.le_refl _, fun _ _ => rfl⟩, ⟨h.box.blk⟩, h.qlt⟩
structure CgC (y : World) (p q : Nat) (iv cv rv mv : Value) (g : Option Nat) (M ub : Nat) (c : Ch) : Prop where
 blk : y.heap[p]? = some (.cells #[iv, cv, rv, mv] 77 (0, 0))
 box : InB encC 95 y q c
 at_ : ∀ b, g = some b → y.cell? ⟨b, M, none⟩ = some (.map (some ub))
theorem CgC.cell {y : World} {p q : Nat} {iv cv rv mv : Value} {g : Option Nat} {M ub : Nat} {c : Ch} (h : CgC y p q iv cv rv mv g M ub c) : y.cell? ⟨p, 1, none⟩ = some cv ∧ y.cell? ⟨p, 3, none⟩ = some mv := by
 refine ⟨?_, ?_⟩ <;> · rw [cell_of_row _ _ _ _ _ _ h.blk]; rfl
theorem CgC.key {y : World} {p q : Nat} {iv cv rv mv : Value} {g : Option Nat} {M ub : Nat} {c : Ch} (h : CgC y p q iv cv rv mv g M ub c) : y.rangeAt q 0 (bc c.k) := range_kC h.box.range
theorem CgC.all {y : World} {p q : Nat} {iv cv rv mv : Value} {g : Option Nat} {M ub : Nat} {c : Ch} (h : CgC y p q iv cv rv mv g M ub c) : y.rangeAt q 0 (encC.c c) := h.box.range
theorem flatM (l : List Nat) : encM.flat l = l.map (fun b => Value.map (some b)) := by
 induction l with
 | nil => rfl
 | cons a l ih => rw [encM.flat_cons, ih]; rfl
theorem row_last {w : World} {v : Value} {u : List Nat} {M ub : Nat} (h : Own encM 243 w 0 v u) (hl : u.length = M + 1) (hu : u[M]? = some ub) : ∃ g cap, v = .slice (some ⟨g, 0, none⟩) (M + 1) cap ∧ M + 1 ≤ cap ∧ cap ≤ maxLen ∧ v.ownBlock = some g ∧ w.cell? ⟨g, M, none⟩ = some (.map (some ub)) := by
 rcases h.2 with ⟨_, h0⟩ | ⟨g, cap, cur, rfl, h2, h3, h4, h5, h6, h7⟩
 · omega
 · refine ⟨g, cap, by rw [hl], by omega, h5, rfl, ?_⟩
   rw [cell_of_row _ _ _ _ _ _ h3]
   rw [flatM, hl] at h7
   have : (cur.toList.take ((M + 1) * 1))[M]? = some (.map (some ub)) := by rw [h7]; simp [hu]
   rw [List.getElem?_take] at this
   simpa using this
theorem change_none (w : World) (p : Nat) (iv : Value) (x : VR) (V : VS) (c : Ch) (h : VwIn w p iv x V) (hn : x.n ≤ 100000) (hu : x.u = []) :
    Calls Tryz.prog 169 #[.pointer (some ⟨p, 0, none⟩), .agg (encC.c c).toArray] w fun e w' => (∃ rv, e = .returned rv) ∧ VLeft w p iv x { V with C := putA Ch.n V.C c } w' { x with n := x.n + 1 } := by
 have b1 : Below w.heap.size w (w.alloc (.cells (encC.c c).toArray 95)) := (Below.refl _ w).alloc (Nat.le_refl _) _
 have hc1 : CgV (w.alloc (.cells (encC.c c).toArray 95)) p w.heap.size iv x V c := ⟨h.called b1, InB.new _ _ _ _ _ rfl, fun i hi => h.lt hi⟩
 have HC : Hid (CgV (w.alloc (.cells (encC.c c).toArray 95)).drew p w.heap.size iv x V c) := hc1.drew
 have HB : Hid (Below w.heap.size w (w.alloc (.cells (encC.c c).toArray 95)).drew) := b1.trans ⟨rfl, rfl, rfl, Nat.le_refl _, fun _ _ => rfl⟩
 have HOW : Hid (∀ i, x.own p i → i < w.heap.size) := fun i hi => h.lt hi
 have HQ : Hid (p ≠ x.c ∧ w.heap.size ≠ x.c) := ⟨h.ne_map h.mapC.isMap, fun e => by have := h.mapC.lt; omega⟩
 have hrow := h.row
 rw [hu] at hrow
 obtain ⟨ad, cap, hm, -, -, -, -⟩ := hrow.slB
 have hcl := hc1.vw.cell.2.2.2
 rw [hm] at hcl
 simp only [List.length_nil] at hcl
 have HS : Hid (CgC (w.alloc (.cells (encC.c c).toArray 95)).drew p w.heap.size iv (.map (some x.c)) (.map (some x.r)) x.m none 0 0 c) := ⟨hc1.drew.vw.blk, ⟨hc1.box.blk⟩, (fun b e => by cases e)⟩
 have HKL : Hid ((bc c.k).length = 24) := (show _ = _ by rw [bc_length, c.h])
 have HCK : Hid ((Tryz.prog.info? 54).map (·.size) = some 24) := Tryz.key_info
 have HCL : Hid ((encC.c c).length = 26) := encC.len c
 have HCI : Hid ((Tryz.prog.info? 95).map (·.size) = some 26) := elC.info
 clear h hrow hm b1 hc1 hu
 go_enter Tryz.func169, Tryz.ntmps169
 go_upto_region 3 with fail
 refine wp_region_noPanic ?_
 refine wp_region_held_drew (S := (fun y => CgC y p w.heap.size iv (.map (some x.c)) (.map (some x.r)) x.m none 0 0 c)) (by kernel_rfl) (HS.out) (fun hh => ?_)
 refine tl ?_ 0 rfl hh ⟨by rfl, ?_⟩ ?_
 case refine_2 => (intro w hSw; go_simp; try with_reducible rfl)
 (try simp only [gs])
 refine tl ?_ 1 rfl hh ⟨by rfl, ?_⟩ ?_
 case refine_2 => (intro w hSw; go_simp; try with_reducible rfl)
 (try simp only [gs])
 refine tl ?_ 2 rfl hh ⟨by rfl, ?_⟩ ?_
 case refine_2 => (intro w hSw; go_simp; try with_reducible rfl)
 (try simp only [gs])
 refine tl ?_ 3 rfl hh ⟨by rfl, ?_⟩ ?_
 case refine_2 => (intro w hSw; have hc := hSw.cell.1; go_simp; try with_reducible rfl)
 (try simp only [gs])
 refine tl ?_ 4 rfl hh ⟨by rfl, ?_⟩ ?_
 case refine_2 => (intro w hSw; go_simp; try with_reducible rfl)
 (try simp only [gs])
 refine tk 5 rfl hh (yieldsIf_load_mid (by rfl) _ _ rfl _ _ rfl _ _ (fun y h => CgC.key h) Tryz.underlying54 rfl (by rw [HKL.out]; exact HCK.out)) ?_
 (try simp only [gs])
 refine tk 6 rfl hh (yieldsIf_load_mid (by rfl) _ _ rfl _ _ rfl _ _ (fun y h => CgC.all h) Tryz.underlying95 rfl (by rw [HCL.out]; exact HCI.out)) ?_
 (try simp only [gs])
 generalize (w.alloc (.cells (encC.c c).toArray 95)).drew = y1 at *
 refine wpAnyH_ready (rs := [7]) (by kernel_rfl) (by simp) (AllReadyH.cons rfl (fun K hK => ?_) AllReadyH.nil)
 rw [if_pos (by rfl)]
 (try simp only [gs])
 refine wp_store_a tyC _ _ _ rfl x.c x.n V.C rfl HC.out.vw.mapC (by omega) c.kz rfl c rfl rfl ?_
 intro y2 hm2 gr2
 have hB : ∀ i, i < y1.heap.size → i ≠ x.c → y2.heap[i]? = y1.heap[i]? := fun i hi hne => gr2.block i hi (fun e => hne (by cases e; rfl))
 refine hK.out _ _ ⟨(hB p (lt_of_block hh.blk) HQ.out.1).trans hh.blk, ⟨(hB _ hh.box.lt HQ.out.2).trans hh.box.blk⟩, (fun b e => by cases e)⟩ (fun g1 => ?_)
 clear hK K
 (try simp only [gs])
 refine wpAnyH_done (by kernel_rfl) ?_ _
 refine NoPanic.normal ?_
 have HE : Hid (VLeft y1 p iv x { V with C := putA Ch.n V.C c } y2 { x with n := x.n + 1 }) := HC.out.vw.putC hm2 gr2
 clear g1 hh hB gr2 hm2 HS HC HKL HCK HCL HCI
 go_wp2_with fail
 go_end0
 exact ⟨⟨_, rfl⟩, VLeft.shift HOW.out HB.out HE.out⟩
theorem change_some (w : World) (p : Nat) (iv : Value) (x : VR) (V : VS) (c : Ch) (M ub : Nat) (L : List Fo) (h : VwIn w p iv x V) (hn : x.n ≤ 100000) (hl : x.u.length = M + 1) (hu : x.u[M]? = some ub) (hL : V.U[M]? = some L) :
    Calls Tryz.prog 169 #[.pointer (some ⟨p, 0, none⟩), .agg (encC.c c).toArray] w fun e w' => (∃ rv, e = .returned rv) ∧ VLeft w p iv x { C := putA Ch.n V.C c, R := V.R, U := V.U.set M (keepL V.C L c.kz) } w' { x with n := x.n + 2 } := by
 have b1 : Below w.heap.size w (w.alloc (.cells (encC.c c).toArray 95)) := (Below.refl _ w).alloc (Nat.le_refl _) _
 have hc1 : CgV (w.alloc (.cells (encC.c c).toArray 95)) p w.heap.size iv x V c := ⟨h.called b1, InB.new _ _ _ _ _ rfl, fun i hi => h.lt hi⟩
 have HC0 : Hid (CgV (w.alloc (.cells (encC.c c).toArray 95)).drew p w.heap.size iv x V c) := hc1.drew
 have HB : Hid (Below w.heap.size w (w.alloc (.cells (encC.c c).toArray 95)).drew) := b1.trans ⟨rfl, rfl, rfl, Nat.le_refl _, fun _ _ => rfl⟩
 have HOW : Hid (∀ i, x.own p i → i < w.heap.size) := fun i hi => h.lt hi
 have HQ : Hid (p ≠ x.c ∧ w.heap.size ≠ x.c) := ⟨h.ne_map h.mapC.isMap, fun e => by have := h.mapC.lt; omega⟩
 have HMO : Hid (M + 1 ≤ x.n) := (show M + 1 ≤ x.n by rw [← hl]; exact h.most)
 obtain ⟨g, cap, hm, hcap, hmax, hown, hat⟩ := row_last hc1.drew.vw.row hl hu
 have HRL : Hid (∀ (y : World) (x' : VR) (V' : VS), VwIn y p iv x' V' → x'.m = x.m → x'.u = x.u → y.cell? ⟨g, M, none⟩ = some (.map (some ub))) := fun y x' V' hy e1 e2 => by
  have hr := hy.row
  rw [e1, e2] at hr
  obtain ⟨g', cap', hm', -, -, -, hat'⟩ := row_last hr hl hu
  rw [hm] at hm'
  cases hm'
  exact hat'
 have hcl := hc1.vw.cell.2.2.2
 have hbl := hc1.drew.vw.blk
 rw [hm] at hcl hbl
 have HS : Hid (CgC (w.alloc (.cells (encC.c c).toArray 95)).drew p w.heap.size iv (.map (some x.c)) (.map (some x.r)) (.slice (some ⟨g, 0, none⟩) (M + 1) cap) (some g) M ub c) := ⟨hbl, ⟨hc1.box.blk⟩, (fun b e => by cases e; exact hat)⟩
 have HKP : Hid (∀ y, CgV y p w.heap.size iv x V c → Calls Tryz.prog 187 #[.pointer (some ⟨p, 0, none⟩), .map (some ub), kv c.k] y fun e w' => (∃ rv, e = .returned rv) ∧ VLeft y p iv x { V with U := V.U.set M (keepL V.C L c.kz) } w' { x with n := x.n + 1 }) := fun y hy => keep_calls y p iv x V M ub hu L hL c.kz hy.vw hn
 have HMM : Hid (x.m = .slice (some ⟨g, 0, none⟩) (M + 1) cap) := hm
 have HKL : Hid ((bc c.k).length = 24) := (show _ = _ by rw [bc_length, c.h])
 have HCK : Hid ((Tryz.prog.info? 54).map (·.size) = some 24) := Tryz.key_info
 have HCL : Hid ((encC.c c).length = 26) := encC.len c
 have HCI : Hid ((Tryz.prog.info? 95).map (·.size) = some 26) := elC.info
 have HHN : Hid (x.n ≤ 100000) := hn
 generalize keepL V.C L c.kz = KL at *
 obtain ⟨N, hN⟩ : ∃ N, N = M + 1 := ⟨_, rfl⟩
 have hM1 : M + 1 ≤ 100000 := Nat.le_trans HMO.out hn
 rw [← hN] at hcl HS HMM hM1
 have h1I : (0 : Int) < (N : Int) := by omega
 have hwI : IntKind.i64.wrap ((N : Int) - 1) = (M : Int) := by rw [IntKind.wrap_i64]; omega
 have hltI : (M : Int) < (N : Int) := by omega
 have h0I : (0 : Int) ≤ (M : Int) := by omega
 clear h hm b1 hc1 hu hl hL hown hat hbl hcap hmax hN hn hM1
 go_enter Tryz.func169, Tryz.ntmps169
 go_upto_region 2 with fail
 refine wp_region_noPanic ?_
 refine wp_region_held_drew (S := (fun y => CgC y p w.heap.size iv (.map (some x.c)) (.map (some x.r)) (.slice (some ⟨g, 0, none⟩) N cap) (some g) M ub c)) (by kernel_rfl) (HS.out) (fun hh => ?_)
 refine tl ?_ 0 rfl hh ⟨by rfl, ?_⟩ ?_
 case refine_2 => (intro w hSw; go_simp; try with_reducible rfl)
 (try simp only [gs])
 refine tl ?_ 1 rfl hh ⟨by rfl, ?_⟩ ?_
 case refine_2 => (intro w hSw; go_simp; try with_reducible rfl)
 (try simp only [gs])
 refine tl ?_ 2 rfl hh ⟨by rfl, ?_⟩ ?_
 case refine_2 => (intro w hSw; go_simp; try with_reducible rfl)
 (try simp only [gs])
 refine tl ?_ 3 rfl hh ⟨by rfl, ?_⟩ ?_
 case refine_2 => (intro w hSw; go_simp; try with_reducible rfl)
 (try simp only [gs])
 refine tl ?_ 4 rfl hh ⟨by rfl, ?_⟩ ?_
 case refine_2 => (intro w hSw; have hc := hSw.cell.2; go_simp; try with_reducible rfl)
 (try simp only [gs])
 refine tl ?_ 5 rfl hh ⟨by rfl, ?_⟩ ?_
 case refine_2 => (intro w hSw; go_simp; try with_reducible rfl)
 (try simp only [gs])
 refine tl ?_ 6 rfl hh ⟨by rfl, ?_⟩ ?_
 case refine_2 => (intro w hSw; go_simp; try with_reducible rfl)
 (try simp only [gs])
 refine tl ?_ 7 rfl hh ⟨by rfl, ?_⟩ ?_
 case refine_2 => (intro w hSw; go_simp; try with_reducible rfl)
 (try simp only [gs])
 refine tl ?_ 8 rfl hh ⟨by rfl, ?_⟩ ?_
 case refine_2 => (intro w hSw; have hc := hSw.cell.2; go_simp; try with_reducible rfl)
 (try simp only [gs])
 refine tl ?_ 9 rfl hh ⟨by rfl, ?_⟩ ?_
 case refine_2 => (intro w hSw; go_simp; try with_reducible rfl)
 (try simp only [gs])
 refine tl ?_ 10 rfl hh ⟨by rfl, ?_⟩ ?_
 case refine_2 => (intro w hSw; go_simp; try with_reducible rfl)
 (try simp only [gs])
 refine tl ?_ 11 rfl hh ⟨by rfl, ?_⟩ ?_
 case refine_2 => (intro w hSw; go_simp; try with_reducible rfl)
 (try simp only [gs])
 refine tl ?_ 12 rfl hh ⟨by rfl, ?_⟩ ?_
 case refine_2 => (intro w hSw; have hc := hSw.at_ g rfl; go_simp; try with_reducible rfl)
 (try simp only [gs])
 refine tl ?_ 13 rfl hh ⟨by rfl, ?_⟩ ?_
 case refine_2 => (intro w hSw; go_simp; try with_reducible rfl)
 (try simp only [gs])
 refine tk 14 rfl hh (yieldsIf_load_mid (by rfl) _ _ rfl _ _ rfl _ _ (fun y h => CgC.key h) Tryz.underlying54 rfl (by rw [HKL.out]; exact HCK.out)) ?_
 (try simp only [gs])
 generalize (w.alloc (.cells (encC.c c).toArray 95)).drew = y1 at *
 refine wpAnyH_ready (rs := [15]) (by kernel_rfl) (by simp) (AllReadyH.cons rfl (fun K hK => ?_) AllReadyH.nil)
 rw [if_pos (by rfl)]
 (try simp only [gs])
 go_simp
 refine (HKP.out _ HC0.out).mono ?_
 rintro e y2 ⟨⟨rv, rfl⟩, E1⟩
 have hbq : y2.heap[w.heap.size]? = y1.heap[w.heap.size]? := E1.fr.block _ HC0.out.box.lt (fun q => Nat.lt_irrefl _ (HC0.out.qlt _ q))
 have hb2 := E1.vw.blk
 rw [show (({ x with n := x.n + 1 } : VR)).m = x.m from rfl, HMM.out] at hb2
 refine hK.out _ _ ⟨hb2, ⟨hbq.trans hh.box.blk⟩, (fun b e => by cases e; exact HRL.out y2 _ _ E1.vw rfl rfl)⟩ (fun g1 => ?_)
 clear hK K
 (try simp only [gs])
 refine wpAnyH_done (by kernel_rfl) ?_ _
 refine NoPanic.normal ?_
 have HC1 : Hid (CgV y2.drew p w.heap.size iv { x with n := x.n + 1 } { V with U := V.U.set M KL } c) := CgV.drew ⟨E1.vw, ⟨hbq.trans hh.box.blk⟩, HOW.out⟩
 have HE1 : Hid (VLeft y1 p iv x { V with U := V.U.set M KL } y2 { x with n := x.n + 1 }) := E1
 have HS2 : Hid (CgC y2.drew p w.heap.size iv (.map (some x.c)) (.map (some x.r)) x.m none 0 0 c) := ⟨HC1.out.vw.blk, ⟨HC1.out.box.blk⟩, (fun b e => by cases e)⟩
 have HD : Hid (Below y2.heap.size y2 y2.drew) := ⟨rfl, rfl, rfl, Nat.le_refl _, fun _ _ => rfl⟩
 clear g1 hh hbq hb2 E1 HS HC0 HKP HRL
 go_upto_region 3 with fail
 refine wp_region_noPanic ?_
 refine wp_region_held_drew (S := (fun y => CgC y p w.heap.size iv (.map (some x.c)) (.map (some x.r)) x.m none 0 0 c)) (by kernel_rfl) (HS2.out) (fun hh => ?_)
 refine tl ?_ 0 rfl hh ⟨by rfl, ?_⟩ ?_
 case refine_2 => (intro w hSw; go_simp; try with_reducible rfl)
 (try simp only [gs])
 refine tl ?_ 1 rfl hh ⟨by rfl, ?_⟩ ?_
 case refine_2 => (intro w hSw; go_simp; try with_reducible rfl)
 (try simp only [gs])
 refine tl ?_ 2 rfl hh ⟨by rfl, ?_⟩ ?_
 case refine_2 => (intro w hSw; go_simp; try with_reducible rfl)
 (try simp only [gs])
 refine tl ?_ 3 rfl hh ⟨by rfl, ?_⟩ ?_
 case refine_2 => (intro w hSw; have hc := hSw.cell.1; go_simp; try with_reducible rfl)
 (try simp only [gs])
 refine tl ?_ 4 rfl hh ⟨by rfl, ?_⟩ ?_
 case refine_2 => (intro w hSw; go_simp; try with_reducible rfl)
 (try simp only [gs])
 refine tk 5 rfl hh (yieldsIf_load_mid (by rfl) _ _ rfl _ _ rfl _ _ (fun y h => CgC.key h) Tryz.underlying54 rfl (by rw [HKL.out]; exact HCK.out)) ?_
 (try simp only [gs])
 refine tk 6 rfl hh (yieldsIf_load_mid (by rfl) _ _ rfl _ _ rfl _ _ (fun y h => CgC.all h) Tryz.underlying95 rfl (by rw [HCL.out]; exact HCI.out)) ?_
 (try simp only [gs])
 generalize y2.drew = y3 at *
 refine wpAnyH_ready (rs := [7]) (by kernel_rfl) (by simp) (AllReadyH.cons rfl (fun K hK => ?_) AllReadyH.nil)
 rw [if_pos (by rfl)]
 (try simp only [gs])
 refine wp_store_a tyC _ _ _ rfl x.c (x.n + 1) V.C rfl HC1.out.vw.mapC (by have := HHN.out; omega) c.kz rfl c rfl rfl ?_
 intro y4 hm2 gr2
 have hB : ∀ i, i < y3.heap.size → i ≠ x.c → y4.heap[i]? = y3.heap[i]? := fun i hi hne => gr2.block i hi (fun e => hne (by cases e; rfl))
 refine hK.out _ _ ⟨(hB p (lt_of_block hh.blk) HQ.out.1).trans hh.blk, ⟨(hB _ hh.box.lt HQ.out.2).trans hh.box.blk⟩, (fun b e => by cases e)⟩ (fun g1 => ?_)
 clear hK K
 (try simp only [gs])
 refine wpAnyH_done (by kernel_rfl) ?_ _
 refine NoPanic.normal ?_
 have HE : Hid (VLeft y3 p iv { x with n := x.n + 1 } { C := putA Ch.n V.C c, R := V.R, U := V.U.set M KL } y4 { x with n := x.n + 2 }) := HC1.out.vw.putC hm2 gr2
 clear g1 hh hB gr2 hm2 HS2 HC1 HKL HCK HCL HCI
 go_wp2_with fail
 go_end0
 refine ⟨⟨_, rfl⟩, VLeft.shift HOW.out HB.out ?_⟩
 have f1 : FrV (x.own p) y1 y3 := HE1.out.fr.trans (FrV.of_below HD.out) (fun i hi => .inl hi)
 exact ⟨HE.out.vw, (show x.n + 2 ≤ x.n + 4 by omega), f1.trans HE.out.fr (fun i hi => .inl hi), fun i hi => .inl hi⟩
end
section
open Go.RowKit
theorem change_calls (w : World) (p : Nat) (iv : Value) (x : VR) (V : VS) (c : Ch) (h : VwIn w p iv x V) (hn : x.n ≤ 100000) :
    Calls Tryz.prog 169 #[.pointer (some ⟨p, 0, none⟩), .agg (encC.c c).toArray] w fun e w' => (∃ rv, e = .returned rv) ∧ ∃ x', VLeft w p iv x (V.change c) w' x' := by
 have hlen := h.len
 cases hq : x.u.length with
 | zero =>
  have hu : x.u = [] := List.eq_nil_of_length_eq_zero hq
  have hU : V.U = [] := List.eq_nil_of_length_eq_zero (by rw [hlen, hq])
  refine (change_none w p iv x V c h hn hu).mono fun e w' q => ⟨q.1, { x with n := x.n + 1 }, ?_⟩
  have e1 : V.change c = { V with C := putA Ch.n V.C c } := by unfold VS.change keepU; rw [hU]; rfl
  rw [e1]
  exact q.2
 | succ M =>
  have h1 : M < x.u.length := by omega
  have h2 : M < V.U.length := by omega
  refine (change_some w p iv x V c M x.u[M] V.U[M] h hn hq (List.getElem?_eq_getElem h1) (List.getElem?_eq_getElem h2)).mono fun e w' q => ⟨q.1, { x with n := x.n + 2 }, ?_⟩
  have e1 : V.change c = { C := putA Ch.n V.C c, R := V.R, U := V.U.set M (keepL V.C V.U[M] c.kz) } := by
   unfold VS.change keepU
   have e2 : V.U.length - 1 = M := by omega
   rw [e2, List.getD_eq_getElem?_getD, List.getElem?_eq_getElem h2]
   rfl
  rw [e1]
  exact q.2
def okV (v : List UInt8) : Bool := decide (1 ≤ v.length ∧ v.length ≤ 40)
theorem vput_calls (w : World) (p : Nat) (iv : Value) (x : VR) (V : VS) (c : Ch) (hg : c.g = false) (h : VwIn w p iv x V) (hn : x.n ≤ 100000) (hv : okV c.v = true) :
    Calls Tryz.prog 147 #[.pointer (some ⟨p, 0, none⟩), kv c.k, .string (str c.v)] w fun e w' => e = .returned (.int .i64 0) ∧ ∃ x', VLeft w p iv x (V.change c) w' x' := by
 have b1 : Below w.heap.size w (w.alloc (.cells (bc c.k).toArray 54)) := (Below.refl _ w).alloc (Nat.le_refl _) _
 have hk1 : Has (w.alloc (.cells (bc c.k).toArray 54)) w.heap.size c.k := Has.new w c.k c.h
 have hC := change_calls _ p iv x V c (h.called b1) hn
 have HB : Hid (Below w.heap.size w (w.alloc (.cells (bc c.k).toArray 54))) := b1
 have HOW : Hid (∀ i, x.own p i → i < w.heap.size) := fun i hi => h.lt hi
 have hv' := of_decide_eq_true hv
 have hs : (str c.v).size = c.v.length := str_size c.v
 have HG : Hid (c.g = false) := hg
 have hl1 : ¬ (((str c.v).size : Int) < 1) := by omega
 have hl2 : ¬ ((40 : Int) < ((str c.v).size : Int)) := by omega
 clear h b1 hv hv' hs hg hn
 go_enter Tryz.func147, Tryz.ntmps147
 go_wp2_with (first
  | (refine load_key _ rfl w.heap.size rfl rfl c.k hk1 ?_)
  | (refine build_put rfl _ _ rfl c HG.out rfl rfl ?_)
  | (go_at_call 169; refine hC.mono ?_; clear hC; rintro e w1 ⟨⟨rv, rfl⟩, x', E1⟩))
 go_ret
 exact ⟨rfl, x', VLeft.shift HOW.out HB.out E1⟩
def goneC (K : Kz) : Ch := ⟨K.k, K.h, [], true⟩
theorem vdelete_calls (w : World) (p : Nat) (iv : Value) (x : VR) (V : VS) (K : Kz) (h : VwIn w p iv x V) (hn : x.n ≤ 100000) :
    Calls Tryz.prog 146 #[.pointer (some ⟨p, 0, none⟩), kv K.k] w fun e w' => e = .returned (.int .i64 0) ∧ ∃ x', VLeft w p iv x (V.change (goneC K)) w' x' := by
 have b1 : Below w.heap.size w (w.alloc (.cells (bc K.k).toArray 54)) := (Below.refl _ w).alloc (Nat.le_refl _) _
 have hk1 : Has (w.alloc (.cells (bc K.k).toArray 54)) w.heap.size K.k := Has.new w K.k K.h
 have hC := change_calls _ p iv x V (goneC K) (h.called b1) hn
 have HB : Hid (Below w.heap.size w (w.alloc (.cells (bc K.k).toArray 54))) := b1
 have HOW : Hid (∀ i, x.own p i → i < w.heap.size) := fun i hi => h.lt hi
 have HG : Hid (encC.c (goneC K) = encC.c ⟨K.k, K.h, [], true⟩) := rfl
 generalize goneC K = gc at *
 clear h b1 hn
 go_enter Tryz.func146, Tryz.ntmps146
 go_wp2_with (first
  | (refine load_key _ rfl w.heap.size rfl rfl K.k hk1 ?_)
  | (refine build_gone rfl _ _ rfl K rfl rfl ?_; rw [← HG.out]; clear HG)
  | (go_at_call 169; refine hC.mono ?_; clear hC; rintro e w1 ⟨⟨rv, rfl⟩, x', E1⟩))
 go_ret
 exact ⟨rfl, x', VLeft.shift HOW.out HB.out E1⟩
end
section
open Go.RowKit
theorem mem_same {a b : List Sp} (h : ∀ s, s ∈ a ↔ s ∈ b) : mem a = mem b := by
 funext x
 rw [Bool.eq_iff_iff]
 unfold mem
 rw [List.any_eq_true, List.any_eq_true]
 exact ⟨fun ⟨s, hs, q⟩ => ⟨s, (h s).1 hs, q⟩, fun ⟨s, hs, q⟩ => ⟨s, (h s).2 hs, q⟩⟩
theorem vreads_calls (w : World) (p : Nat) (iv : Value) (x : VR) (V : VS) (h : VwIn w p iv x V) (hn : x.n ≤ 50000) :
    Calls Tryz.prog 21 #[.pointer (some ⟨p, 0, none⟩)] w (SetTo w (mem V.R) (2 * x.n)) := by
 have hcl := h.cell.2.2.1
 have HSet : Hid (SetA w x.r x.n V.R) := h.setR
 have hK := keysS_calls (some x.r) w
 have HN : Hid (x.n ≤ 50000) := hn
 clear h hn
 go_enter Tryz.func21, Tryz.ntmps21
 go_wp2_with (first
  | (go_at_call 50; refine hL.mono ?_; clear hL; rintro e w3 ⟨v3, R, rfl, o3, b3, i3, l3⟩)
  | (go_at_call 51; refine hC.mono ?_; clear hC; rintro e w2 ⟨v2, ss, rfl, hs2, o2, b2⟩
     have HS2 : Hid (SpsL x.n V.R ss) := hs2
     have hL := clean_calls w2 v2 ss o2.slB (by have := hs2.1; have := HN.out; omega)
     clear hs2 o2)
  | (go_at_call 52; refine hK.mono ?_; clear hK; rintro e w1 ⟨rfl, hw1⟩
     have b1 : Below w.heap.size w w1 := by rw [hw1]; exact (Below.refl _ w).alloc (Nat.le_refl _) _
     have hm1 : w1.cell? ⟨w.heap.size, 0, none⟩ = some (.map (some x.r)) := by rw [hw1, cell_of_row _ _ _ _ _ _ (heap_alloc_new _ _)]; rfl
     have hlt : w.heap.size < w1.heap.size := by rw [hw1]; simp
     have hG := keysS_gives 0 w.heap.size x.r x.n V.R w1 hlt hm1 (HSet.out.below b1 (Nat.le_refl _))
     have hC := collect_inS 1 96 _ (enters_of Tryz.func96 (by kernel_rfl) rfl) _ x.n (by have := HN.out; omega) w1 hG (Nat.le_refl _)
     clear hG hm1 hlt hw1))
 go_ret
 have hq := HS2.out
 refine ⟨v3, R, rfl, o3.lower (Nat.le_trans b1.size b2.size), (b1.trans (b2.mono b1.size)).trans (b3.mono (Nat.le_trans b1.size b2.size)), ?_, by have := hq.1; omega⟩
 rw [← mem_same hq.2]
 exact i3
end
section
open Go.RowKit
end
section
open Go.RowKit
end
section
open Go.RowKit
theorem nodup_le {α : Type} : ∀ (l m : List α), l.Nodup → (∀ a ∈ l, a ∈ m) → l.length ≤ m.length
 | [], _, _, _ => Nat.zero_le _
 | a :: l, m, hn, hs => by
  have hn' := List.nodup_cons.1 hn
  obtain ⟨p, q, rfl⟩ := List.append_of_mem (hs a (by simp))
  have ih := nodup_le l (p ++ q) hn'.2 fun b hb => by
   have h1 := hs b (by simp [hb])
   rcases List.mem_append.1 h1 with h1 | h1
   · exact List.mem_append.2 (.inl h1)
   · rcases List.mem_cons.1 h1 with rfl | h1
     · exact absurd hb hn'.1
     · exact List.mem_append.2 (.inr h1)
  simp only [List.length_append, List.length_cons] at ih ⊢
  omega
theorem tight_own {P : Program} {k : TypeId} {w : World} {b n : Nat} {D : DataW Value} (h : w.ownsMap P k rawElem b n D) : w.ownsMap P k rawElem b (Maps.size D) D := by
 obtain ⟨es, clock, h1, h2, h3, rfl⟩ := h
 exact ⟨es, clock, h1, h2, by simp [Maps.size, length_sorted], rfl⟩
theorem MapA.tight {α : Type} {k : Nat} {E : Enc α k} {key : α → Int} {w : World} {b n : Nat} {L : List α} (h : MapA E key w b n L) : MapA E key w b L.length L := by
 obtain ⟨⟨D, ho, ht⟩, ha⟩ := h
 refine ⟨⟨D, (tight_own ho).mono ?_, ht⟩, ha⟩
 obtain ⟨es, rfl, hp, hk⟩ := ho.entries keyed_key
 have hall : ∀ p ∈ es, ∃ K : Kz, p.1 = klit K ∧ (look key L K.n).isSome = true := fun p hp' => by
  have h1 : Maps.has (DataW.map es) p.1 = true := List.any_eq_true.2 ⟨p, hp', WideAt.sameKey_self (hk p hp')⟩
  obtain ⟨K, hK⟩ := lit_has ho h1
  exact ⟨K, hK, by rw [← (ht K).1, ← hK]; exact h1⟩
 have key_of : ∀ p : Lit × DataW Value, ∃ z : Int, p ∈ es → ∃ K : Kz, p.1 = klit K ∧ K.n = z ∧ z ∈ L.map key := fun p => by
  by_cases hq : p ∈ es
  · obtain ⟨K, h1, h2⟩ := hall p hq
    obtain ⟨x, hx⟩ := Option.isSome_iff_exists.1 h2
    obtain ⟨h3, h4⟩ := look_key key hx
    exact ⟨K.n, fun _ => ⟨K, h1, rfl, h4 ▸ List.mem_map.2 ⟨x, h3, rfl⟩⟩⟩
  · exact ⟨0, fun q => absurd q hq⟩
 have hl : (es.map fun p => (key_of p).choose).length ≤ (L.map key).length := by
  refine nodup_le _ _ (List.pairwise_map.2 ?_) ?_
  · refine hp.imp_of_mem fun {a b} ha' hb' hne e => hne ?_
    obtain ⟨K, q1, q2, _⟩ := (key_of a).choose_spec ha'
    obtain ⟨J, r1, r2, _⟩ := (key_of b).choose_spec hb'
    have : K = J := Kz.same (by rw [q2, r2]; exact e)
    rw [q1, r1, this]
  · intro z hz
    obtain ⟨p, hp', rfl⟩ := List.mem_map.1 hz
    obtain ⟨K, _, _, q⟩ := (key_of p).choose_spec hp'
    exact q
 simpa [Maps.size] using hl
theorem SetA.tight {w : World} {b n : Nat} {R : List Sp} (h : SetA w b n R) : SetA w b R.length R := by
 obtain ⟨D, ho, ht⟩ := h
 refine ⟨D, (tight_own ho).mono ?_, ht⟩
 obtain ⟨es, rfl, hp, hk⟩ := ho.entries span_keyed
 have hall : ∀ p ∈ es, ∃ s : Sp, p.1 = slit s ∧ s ∈ R := fun p hp' => by
  have h1 : Maps.has (DataW.map es) p.1 = true := List.any_eq_true.2 ⟨p, hp', WideAt.sameKey_self (hk p hp')⟩
  obtain ⟨K, hK⟩ := lit_hasS ho h1
  exact ⟨K, hK, by rw [← ht K, ← hK]; exact h1⟩
 have key_of : ∀ p : Lit × DataW Value, ∃ s : Sp, p ∈ es → p.1 = slit s ∧ s ∈ R := fun p => by
  by_cases hq : p ∈ es
  · obtain ⟨K, h1, h2⟩ := hall p hq
    exact ⟨K, fun _ => ⟨h1, h2⟩⟩
  · exact ⟨spz0, fun q => absurd q hq⟩
 have hl : (es.map fun p => (key_of p).choose).length ≤ R.length := by
  refine nodup_le _ _ (List.pairwise_map.2 ?_) ?_
  · refine hp.imp_of_mem fun {a b} ha' hb' hne e => hne ?_
    have q := (key_of a).choose_spec ha'
    have r := (key_of b).choose_spec hb'
    rw [q.1, r.1, e]
  · intro z hz
    obtain ⟨p, hp', rfl⟩ := List.mem_map.1 hz
    exact ((key_of p).choose_spec hp').2
 simpa [Maps.size] using hl
def VS.most (V : VS) (k : Nat) : Prop := V.C.length ≤ k ∧ V.R.length ≤ k ∧ V.U.length ≤ k ∧ ∀ L ∈ V.U, L.length ≤ k
theorem VwIn.tight {w : World} {p : Nat} {iv : Value} {x : VR} {V : VS} (h : VwIn w p iv x V) (k : Nat) (hk : V.most k) : VwIn w p iv { x with n := k } V :=
 ⟨h.blk, h.mapC.tight.mono hk.1, h.setR.tight.mono hk.2.1, h.row, fun i hi => by
  obtain ⟨L, h1, h2⟩ := h.maps i hi
  exact ⟨L, h1, h2.tight.mono (hk.2.2.2 L (List.mem_of_getElem? h1))⟩, h.len, by rw [← h.len]; exact hk.2.2.1, h.apart⟩
def backS (C : List Ch) (f : Fo) : List Ch := if f.was then putA Ch.n C f.c else delA Ch.n C f.n
def FoOk (L : List Fo) : Prop := ∀ f ∈ L, f.was = true → f.c.n = f.n
structure BackAt (C : List Ch) (L : List Fo) (todo : Kz → Bool) (C' : List Ch) : Prop where
 asc : Asc Ch.n C'
 at_ : ∀ K : Kz, look Ch.n C' K.n = match look Fo.n L K.n with
  | none => look Ch.n C K.n
  | some f => if todo K then look Ch.n C K.n else if f.was then some f.c else none
def takeL (C : List Ch) (L : List Fo) : List Ch := L.foldl backS C
theorem takeL_look {C : List Ch} {L : List Fo} (ha : Asc Ch.n C) (hL : Asc Fo.n L) (hf : FoOk L) : Asc Ch.n (takeL C L) ∧ ∀ x, look Ch.n (takeL C L) x = match look Fo.n L x with
    | none => look Ch.n C x
    | some f => if f.was then some f.c else none := by
 unfold takeL
 induction L generalizing C with
 | nil => exact ⟨ha, fun x => rfl⟩
 | cons f r ih =>
  have hp := List.pairwise_cons.1 hL
  have hb : Asc Ch.n (backS C f) := by
   unfold backS
   split
   · exact putA_asc Ch.n _ ha
   · exact delA_asc Ch.n _ ha
  obtain ⟨i1, i2⟩ := ih (C := backS C f) hb hp.2 (fun g hg => hf g (by simp [hg]))
  refine ⟨i1, fun x => ?_⟩
  rw [List.foldl_cons, i2 x]
  simp only [look]
  by_cases e : f.n = x
  · subst e
    rw [if_pos rfl, look_low Fo.n (fun g hg => hp.1 g hg)]
    simp only
    unfold backS
    cases hw : f.was with
    | true =>
     simp only [if_true]
     rw [putA_look Ch.n _ _ ha, if_pos (hf f (by simp) hw)]
    | false =>
     simp only [Bool.false_eq_true, if_false]
     rw [delA_look Ch.n _ _ ha, if_pos rfl]
  · rw [if_neg e]
    have hq : look Ch.n (backS C f) x = look Ch.n C x := by
     unfold backS
     cases hw : f.was with
     | true =>
      simp only [if_true]
      rw [putA_look Ch.n _ _ ha, if_neg (by rw [hf f (by simp) hw]; exact e)]
     | false =>
      simp only [Bool.false_eq_true, if_false]
      rw [delA_look Ch.n _ _ ha, if_neg e]
    rw [hq]
def backC (C : List Ch) (U : List (List Fo)) : List Ch := U.reverse.foldl takeL C
end
end Go.Proofs.YtdmindhjmjnagaaGreatDoor
