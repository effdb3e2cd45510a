import Derived.Test.YtdmindhjmjnagabGreatDoorSi
import Derived.Test.YtdmindhjmjnagabGreatDoorB24
/- change, Put and Delete of a view. -/
namespace Go.Proofs.YtdmindhjmjnagabGreatDoor
set_option linter.unusedVariables false
set_option maxRecDepth 100000
open Go.RowKit

/-- What the marks know behind a change. -/
def keepU (C : List Ch) (U : List (List Fo)) (J : Kz) : List (List Fo) := U.set (U.length - 1) (keepL C (U.getD (U.length - 1) []) J)
/-- A view behind a change. -/
def VS.change (V : VS) (c : Ch) : VS := { C := putA Ch.n V.C c, R := V.R, U := keepU V.C V.U c.kz }
/-- What change holds. -/
structure CgV (y : World) (p q : Nat) (iv : Value) (x : VR) (V : VS) (c : Ch) : Prop where
  vw : VwIn y p iv x V
  box : InB encC 60 y q c
  qlt : ∀ i, x.own p i → i < q
theorem CgV.drew {y : World} {p q : Nat} {iv : Value} {x : VR} {V : VS} {c : Ch} (h : CgV y p q iv x V c) : CgV y.drew p q iv x V c := ⟨h.vw.called ⟨rfl, rfl, rfl, Nat.le_refl _, fun _ _ => rfl⟩, ⟨h.box.blk⟩, h.qlt⟩
/-- The cells that a region of change looks at. -/
structure CgC (y : World) (p q : Nat) (iv cv rv mv : Value) (g : Option Nat) (M ub : Nat) (c : Ch) : Prop where
  blk : y.heap[p]? = some (.cells #[iv, cv, rv, mv] 49 (0, 0))
  box : InB encC 60 y q c
  at_ : ∀ b, g = some b → y.cell? ⟨b, M, none⟩ = some (.map (some ub))
theorem CgC.cell {y : World} {p q : Nat} {iv cv rv mv : Value} {g : Option Nat} {M ub : Nat} {c : Ch} (h : CgC y p q iv cv rv mv g M ub c) : y.cell? ⟨p, 1, none⟩ = some cv ∧ y.cell? ⟨p, 3, none⟩ = some mv := by
  refine ⟨?_, ?_⟩ <;> · rw [cell_of_row _ _ _ _ _ _ h.blk]; rfl
theorem CgC.key {y : World} {p q : Nat} {iv cv rv mv : Value} {g : Option Nat} {M ub : Nat} {c : Ch} (h : CgC y p q iv cv rv mv g M ub c) : y.rangeAt q 0 (bc c.k) := range_kC h.box.range
theorem CgC.all {y : World} {p q : Nat} {iv cv rv mv : Value} {g : Option Nat} {M ub : Nat} {c : Ch} (h : CgC y p q iv cv rv mv g M ub c) : y.rangeAt q 0 (encC.c c) := h.box.range
theorem flatM (l : List Nat) : encM.flat l = l.map (fun b => Value.map (some b)) := by
  induction l with
  | nil => rfl
  | cons a l ih => rw [encM.flat_cons, ih]; rfl
/-- The last mark's cell. -/
theorem row_last {w : World} {v : Value} {u : List Nat} {M ub : Nat} (h : Own encM 170 w 0 v u) (hl : u.length = M + 1) (hu : u[M]? = some ub) : ∃ g cap, v = .slice (some ⟨g, 0, none⟩) (M + 1) cap ∧ M + 1 ≤ cap ∧ cap ≤ maxLen ∧ v.ownBlock = some g ∧ w.cell? ⟨g, M, none⟩ = some (.map (some ub)) := by
  rcases h.2 with ⟨_, h0⟩ | ⟨g, cap, cur, rfl, h2, h3, h4, h5, h6, h7⟩
  · omega
  · refine ⟨g, cap, by rw [hl], by omega, h5, rfl, ?_⟩
    rw [cell_of_row _ _ _ _ _ _ h3]
    rw [flatM, hl] at h7
    have : (cur.toList.take ((M + 1) * 1))[M]? = some (.map (some ub)) := by rw [h7]; simp [hu]
    rw [List.getElem?_take] at this
    simpa using this
set_option maxHeartbeats 4000000 in
theorem put_end (w y : World) (p : Nat) (iv : Value) (x : VR) (V : VS) (c : Ch) (y2 : World) (hC : CgV y p w.heap.size iv x V c) (hm : MapA encC Ch.n y2 x.c (x.n + 1) (putA Ch.n V.C c)) (gr : y.grownBy y2 (some x.c)) : VLeft y p iv x { V with C := putA Ch.n V.C c } y2 { x with n := x.n + 1 } := hC.vw.putC hm gr
set_option maxHeartbeats 4000000 in
theorem change_none (w : World) (p : Nat) (iv : Value) (x : VR) (V : VS) (c : Ch) (h : VwIn w p iv x V) (hn : x.n ≤ 100000) (hu : x.u = []) :
    Calls Tryz.prog 101 #[.pointer (some ⟨p, 0, none⟩), .agg (encC.c c).toArray] w fun e w' => (∃ rv, e = .returned rv) ∧ VLeft w p iv x { V with C := putA Ch.n V.C c } w' { x with n := x.n + 1 } := by
  have b1 : Below w.heap.size w (w.alloc (.cells (encC.c c).toArray 60)) := (Below.refl _ w).alloc (Nat.le_refl _) _
  have hc1 : CgV (w.alloc (.cells (encC.c c).toArray 60)) p w.heap.size iv x V c := ⟨h.called b1, InB.new _ _ _ _ _ rfl, fun i hi => h.lt hi⟩
  have HC : Hid (CgV (w.alloc (.cells (encC.c c).toArray 60)).drew p w.heap.size iv x V c) := hc1.drew
  have HB : Hid (Below w.heap.size w (w.alloc (.cells (encC.c c).toArray 60)).drew) := b1.trans ⟨rfl, rfl, rfl, Nat.le_refl _, fun _ _ => rfl⟩
  have HOW : Hid (∀ i, x.own p i → i < w.heap.size) := fun i hi => h.lt hi
  have HQ : Hid (p ≠ x.c ∧ w.heap.size ≠ x.c) := ⟨h.ne_map h.mapC.isMap, fun e => by have := h.mapC.lt; omega⟩
  have hrow := h.row
  rw [hu] at hrow
  obtain ⟨ad, cap, hm, -, -, -, -⟩ := hrow.slB
  have hcl := hc1.vw.cell.2.2.2
  rw [hm] at hcl
  simp only [List.length_nil] at hcl
  have HS : Hid (CgC (w.alloc (.cells (encC.c c).toArray 60)).drew p w.heap.size iv (.map (some x.c)) (.map (some x.r)) x.m none 0 0 c) := ⟨hc1.drew.vw.blk, ⟨hc1.box.blk⟩, (fun b e => by cases e)⟩
  have HKL : Hid ((bc c.k).length = 24) := (show _ = _ by rw [bc_length, c.h])
  have HCK : Hid ((Tryz.prog.info? 31).map (·.size) = some 24) := Tryz.key_info
  have HCL : Hid ((encC.c c).length = 26) := encC.len c
  have HCI : Hid ((Tryz.prog.info? 60).map (·.size) = some 26) := elC.info
  clear h hrow hm b1 hc1 hu
  go_enter Tryz.func101, Tryz.ntmps101
  go_upto_region 3 with fail
  refine wp_region_noPanic ?_
  refine wp_region_held_drew (S := (fun y => CgC y p w.heap.size iv (.map (some x.c)) (.map (some x.r)) x.m none 0 0 c)) (by kernel_rfl) (HS.out) (fun hHeld => ?_)
  refine wpAnyH_take (i := 0) (v := ?_) rfl (by kernel_rfl) (by kernel_rfl) (by kernel_rfl) (fun _ _ _ h => h) (Or.inl ⟨by rfl, ?_⟩) hHeld ?_
  case refine_2 => (intro w hSw; (try dsimp only at hSw); go_simp; try (with_reducible rfl))
  (try simp only [gs])
  refine wpAnyH_take (i := 1) (v := ?_) rfl (by kernel_rfl) (by kernel_rfl) (by kernel_rfl) (fun _ _ _ h => h) (Or.inl ⟨by rfl, ?_⟩) hHeld ?_
  case refine_2 => (intro w hSw; (try dsimp only at hSw); go_simp; try (with_reducible rfl))
  (try simp only [gs])
  refine wpAnyH_take (i := 2) (v := ?_) rfl (by kernel_rfl) (by kernel_rfl) (by kernel_rfl) (fun _ _ _ h => h) (Or.inl ⟨by rfl, ?_⟩) hHeld ?_
  case refine_2 => (intro w hSw; (try dsimp only at hSw); go_simp; try (with_reducible rfl))
  (try simp only [gs])
  refine wpAnyH_take (i := 3) (v := ?_) rfl (by kernel_rfl) (by kernel_rfl) (by kernel_rfl) (fun _ _ _ h => h) (Or.inl ⟨by rfl, ?_⟩) hHeld ?_
  case refine_2 => (intro w hSw; (try dsimp only at hSw); have hc := hSw.cell.1; go_simp; try (with_reducible rfl))
  (try simp only [gs])
  refine wpAnyH_take (i := 4) (v := ?_) rfl (by kernel_rfl) (by kernel_rfl) (by kernel_rfl) (fun _ _ _ h => h) (Or.inl ⟨by rfl, ?_⟩) hHeld ?_
  case refine_2 => (intro w hSw; (try dsimp only at hSw); go_simp; try (with_reducible rfl))
  (try simp only [gs])
  refine wpAnyH_take (i := 5) rfl (by kernel_rfl) (by kernel_rfl) (by kernel_rfl) (fun _ _ _ h => h) (yieldsIf_load_mid (by rfl) _ _ rfl _ _ rfl _ _ (fun y h => CgC.key h) Tryz.underlying31 rfl (by rw [HKL.out]; exact HCK.out)) hHeld ?_
  (try simp only [gs])
  refine wpAnyH_take (i := 6) rfl (by kernel_rfl) (by kernel_rfl) (by kernel_rfl) (fun _ _ _ h => h) (yieldsIf_load_mid (by rfl) _ _ rfl _ _ rfl _ _ (fun y h => CgC.all h) Tryz.underlying60 rfl (by rw [HCL.out]; exact HCI.out)) hHeld ?_
  (try simp only [gs])
  generalize (w.alloc (.cells (encC.c c).toArray 60)).drew = y1 at *
  refine wpAnyH_ready (rs := [7]) (by kernel_rfl) (by simp) (AllReadyH.cons rfl (fun K hK => ?_) AllReadyH.nil)
  rw [if_pos (by rfl)]
  (try simp only [gs])
  refine wp_store_a tyC _ _ _ rfl x.c x.n V.C rfl HC.out.vw.mapC (by omega) c.kz rfl c rfl rfl ?_
  intro y2 hm2 gr2
  have hB : ∀ i, i < y1.heap.size → i ≠ x.c → y2.heap[i]? = y1.heap[i]? := fun i hi hne => gr2.block i hi (fun e => hne (by cases e; rfl))
  refine hK.out _ _ ⟨(hB p (lt_of_block hHeld.blk) HQ.out.1).trans hHeld.blk, ⟨(hB _ hHeld.box.lt HQ.out.2).trans hHeld.box.blk⟩, (fun b e => by cases e)⟩ (fun g1 => ?_)
  clear hK K
  (try simp only [gs])
  refine wpAnyH_done (by kernel_rfl) ?_ _
  refine NoPanic.normal ?_
  have HE : Hid (VLeft y1 p iv x { V with C := putA Ch.n V.C c } y2 { x with n := x.n + 1 }) := HC.out.vw.putC hm2 gr2
  clear g1 hHeld hB gr2 hm2 HS HC HKL HCK HCL HCI
  go_wp2_with fail
  go_end0
  exact ⟨⟨_, rfl⟩, VLeft.shift HOW.out HB.out HE.out⟩
set_option maxHeartbeats 4000000 in
theorem change_some (w : World) (p : Nat) (iv : Value) (x : VR) (V : VS) (c : Ch) (M ub : Nat) (L : List Fo) (h : VwIn w p iv x V) (hn : x.n ≤ 100000) (hl : x.u.length = M + 1) (hu : x.u[M]? = some ub) (hL : V.U[M]? = some L) :
    Calls Tryz.prog 101 #[.pointer (some ⟨p, 0, none⟩), .agg (encC.c c).toArray] w fun e w' => (∃ rv, e = .returned rv) ∧ VLeft w p iv x { C := putA Ch.n V.C c, R := V.R, U := V.U.set M (keepL V.C L c.kz) } w' { x with n := x.n + 2 } := by
  have b1 : Below w.heap.size w (w.alloc (.cells (encC.c c).toArray 60)) := (Below.refl _ w).alloc (Nat.le_refl _) _
  have hc1 : CgV (w.alloc (.cells (encC.c c).toArray 60)) p w.heap.size iv x V c := ⟨h.called b1, InB.new _ _ _ _ _ rfl, fun i hi => h.lt hi⟩
  have HC0 : Hid (CgV (w.alloc (.cells (encC.c c).toArray 60)).drew p w.heap.size iv x V c) := hc1.drew
  have HB : Hid (Below w.heap.size w (w.alloc (.cells (encC.c c).toArray 60)).drew) := b1.trans ⟨rfl, rfl, rfl, Nat.le_refl _, fun _ _ => rfl⟩
  have HOW : Hid (∀ i, x.own p i → i < w.heap.size) := fun i hi => h.lt hi
  have HQ : Hid (p ≠ x.c ∧ w.heap.size ≠ x.c) := ⟨h.ne_map h.mapC.isMap, fun e => by have := h.mapC.lt; omega⟩
  have HMO : Hid (M + 1 ≤ x.n) := (show M + 1 ≤ x.n by rw [← hl]; exact h.most)
  obtain ⟨g, cap, hm, hcap, hmax, hown, hat⟩ := row_last hc1.drew.vw.row hl hu
  have HRL : Hid (∀ (y : World) (x' : VR) (V' : VS), VwIn y p iv x' V' → x'.m = x.m → x'.u = x.u → y.cell? ⟨g, M, none⟩ = some (.map (some ub))) := fun y x' V' hy e1 e2 => by
    have hr := hy.row
    rw [e1, e2] at hr
    obtain ⟨g', cap', hm', -, -, -, hat'⟩ := row_last hr hl hu
    rw [hm] at hm'
    cases hm'
    exact hat'
  have hcl := hc1.vw.cell.2.2.2
  have hbl := hc1.drew.vw.blk
  rw [hm] at hcl hbl
  have HS : Hid (CgC (w.alloc (.cells (encC.c c).toArray 60)).drew p w.heap.size iv (.map (some x.c)) (.map (some x.r)) (.slice (some ⟨g, 0, none⟩) (M + 1) cap) (some g) M ub c) := ⟨hbl, ⟨hc1.box.blk⟩, (fun b e => by cases e; exact hat)⟩
  have HKP : Hid (∀ y, CgV y p w.heap.size iv x V c → Calls Tryz.prog 109 #[.pointer (some ⟨p, 0, none⟩), .map (some ub), kv c.k] y fun e w' => (∃ rv, e = .returned rv) ∧ VLeft y p iv x { V with U := V.U.set M (keepL V.C L c.kz) } w' { x with n := x.n + 1 }) := fun y hy => keep_calls y p iv x V M ub hu L hL c.kz hy.vw hn
  have HMM : Hid (x.m = .slice (some ⟨g, 0, none⟩) (M + 1) cap) := hm
  have HKL : Hid ((bc c.k).length = 24) := (show _ = _ by rw [bc_length, c.h])
  have HCK : Hid ((Tryz.prog.info? 31).map (·.size) = some 24) := Tryz.key_info
  have HCL : Hid ((encC.c c).length = 26) := encC.len c
  have HCI : Hid ((Tryz.prog.info? 60).map (·.size) = some 26) := elC.info
  have HHN : Hid (x.n ≤ 100000) := hn
  generalize keepL V.C L c.kz = KL at *
  obtain ⟨N, hN⟩ : ∃ N, N = M + 1 := ⟨_, rfl⟩
  have hM1 : M + 1 ≤ 100000 := Nat.le_trans HMO.out hn
  rw [← hN] at hcl HS HMM hM1
  have h1I : (0 : Int) < (N : Int) := by omega
  have hwI : IntKind.i64.wrap ((N : Int) - 1) = (M : Int) := by rw [IntKind.wrap_i64]; omega
  have hltI : (M : Int) < (N : Int) := by omega
  have h0I : (0 : Int) ≤ (M : Int) := by omega
  clear h hm b1 hc1 hu hl hL hown hat hbl hcap hmax hN hn hM1
  go_enter Tryz.func101, Tryz.ntmps101
  go_upto_region 2 with fail
  refine wp_region_noPanic ?_
  refine wp_region_held_drew (S := (fun y => CgC y p w.heap.size iv (.map (some x.c)) (.map (some x.r)) (.slice (some ⟨g, 0, none⟩) N cap) (some g) M ub c)) (by kernel_rfl) (HS.out) (fun hHeld => ?_)
  refine wpAnyH_take (i := 0) (v := ?_) rfl (by kernel_rfl) (by kernel_rfl) (by kernel_rfl) (fun _ _ _ h => h) (Or.inl ⟨by rfl, ?_⟩) hHeld ?_
  case refine_2 => (intro w hSw; (try dsimp only at hSw); go_simp; try (with_reducible rfl))
  (try simp only [gs])
  refine wpAnyH_take (i := 1) (v := ?_) rfl (by kernel_rfl) (by kernel_rfl) (by kernel_rfl) (fun _ _ _ h => h) (Or.inl ⟨by rfl, ?_⟩) hHeld ?_
  case refine_2 => (intro w hSw; (try dsimp only at hSw); go_simp; try (with_reducible rfl))
  (try simp only [gs])
  refine wpAnyH_take (i := 2) (v := ?_) rfl (by kernel_rfl) (by kernel_rfl) (by kernel_rfl) (fun _ _ _ h => h) (Or.inl ⟨by rfl, ?_⟩) hHeld ?_
  case refine_2 => (intro w hSw; (try dsimp only at hSw); go_simp; try (with_reducible rfl))
  (try simp only [gs])
  refine wpAnyH_take (i := 3) (v := ?_) rfl (by kernel_rfl) (by kernel_rfl) (by kernel_rfl) (fun _ _ _ h => h) (Or.inl ⟨by rfl, ?_⟩) hHeld ?_
  case refine_2 => (intro w hSw; (try dsimp only at hSw); go_simp; try (with_reducible rfl))
  (try simp only [gs])
  refine wpAnyH_take (i := 4) (v := ?_) rfl (by kernel_rfl) (by kernel_rfl) (by kernel_rfl) (fun _ _ _ h => h) (Or.inl ⟨by rfl, ?_⟩) hHeld ?_
  case refine_2 => (intro w hSw; (try dsimp only at hSw); have hc := hSw.cell.2; go_simp; try (with_reducible rfl))
  (try simp only [gs])
  refine wpAnyH_take (i := 5) (v := ?_) rfl (by kernel_rfl) (by kernel_rfl) (by kernel_rfl) (fun _ _ _ h => h) (Or.inl ⟨by rfl, ?_⟩) hHeld ?_
  case refine_2 => (intro w hSw; (try dsimp only at hSw); go_simp; try (with_reducible rfl))
  (try simp only [gs])
  refine wpAnyH_take (i := 6) (v := ?_) rfl (by kernel_rfl) (by kernel_rfl) (by kernel_rfl) (fun _ _ _ h => h) (Or.inl ⟨by rfl, ?_⟩) hHeld ?_
  case refine_2 => (intro w hSw; (try dsimp only at hSw); go_simp; try (with_reducible rfl))
  (try simp only [gs])
  refine wpAnyH_take (i := 7) (v := ?_) rfl (by kernel_rfl) (by kernel_rfl) (by kernel_rfl) (fun _ _ _ h => h) (Or.inl ⟨by rfl, ?_⟩) hHeld ?_
  case refine_2 => (intro w hSw; (try dsimp only at hSw); go_simp; try (with_reducible rfl))
  (try simp only [gs])
  refine wpAnyH_take (i := 8) (v := ?_) rfl (by kernel_rfl) (by kernel_rfl) (by kernel_rfl) (fun _ _ _ h => h) (Or.inl ⟨by rfl, ?_⟩) hHeld ?_
  case refine_2 => (intro w hSw; (try dsimp only at hSw); have hc := hSw.cell.2; go_simp; try (with_reducible rfl))
  (try simp only [gs])
  refine wpAnyH_take (i := 9) (v := ?_) rfl (by kernel_rfl) (by kernel_rfl) (by kernel_rfl) (fun _ _ _ h => h) (Or.inl ⟨by rfl, ?_⟩) hHeld ?_
  case refine_2 => (intro w hSw; (try dsimp only at hSw); go_simp; try (with_reducible rfl))
  (try simp only [gs])
  refine wpAnyH_take (i := 10) (v := ?_) rfl (by kernel_rfl) (by kernel_rfl) (by kernel_rfl) (fun _ _ _ h => h) (Or.inl ⟨by rfl, ?_⟩) hHeld ?_
  case refine_2 => (intro w hSw; (try dsimp only at hSw); go_simp; try (with_reducible rfl))
  (try simp only [gs])
  refine wpAnyH_take (i := 11) (v := ?_) rfl (by kernel_rfl) (by kernel_rfl) (by kernel_rfl) (fun _ _ _ h => h) (Or.inl ⟨by rfl, ?_⟩) hHeld ?_
  case refine_2 => (intro w hSw; (try dsimp only at hSw); go_simp; try (with_reducible rfl))
  (try simp only [gs])
  refine wpAnyH_take (i := 12) (v := ?_) rfl (by kernel_rfl) (by kernel_rfl) (by kernel_rfl) (fun _ _ _ h => h) (Or.inl ⟨by rfl, ?_⟩) hHeld ?_
  case refine_2 => (intro w hSw; (try dsimp only at hSw); have hc := hSw.at_ g rfl; go_simp; try (with_reducible rfl))
  (try simp only [gs])
  refine wpAnyH_take (i := 13) (v := ?_) rfl (by kernel_rfl) (by kernel_rfl) (by kernel_rfl) (fun _ _ _ h => h) (Or.inl ⟨by rfl, ?_⟩) hHeld ?_
  case refine_2 => (intro w hSw; (try dsimp only at hSw); go_simp; try (with_reducible rfl))
  (try simp only [gs])
  refine wpAnyH_take (i := 14) rfl (by kernel_rfl) (by kernel_rfl) (by kernel_rfl) (fun _ _ _ h => h) (yieldsIf_load_mid (by rfl) _ _ rfl _ _ rfl _ _ (fun y h => CgC.key h) Tryz.underlying31 rfl (by rw [HKL.out]; exact HCK.out)) hHeld ?_
  (try simp only [gs])
  generalize (w.alloc (.cells (encC.c c).toArray 60)).drew = y1 at *
  refine wpAnyH_ready (rs := [15]) (by kernel_rfl) (by simp) (AllReadyH.cons rfl (fun K hK => ?_) AllReadyH.nil)
  rw [if_pos (by rfl)]
  (try simp only [gs])
  go_simp
  refine (HKP.out _ HC0.out).mono ?_
  rintro e y2 ⟨⟨rv, rfl⟩, E1⟩
  have hbq : y2.heap[w.heap.size]? = y1.heap[w.heap.size]? := E1.fr.block _ HC0.out.box.lt (fun q => Nat.lt_irrefl _ (HC0.out.qlt _ q))
  have hb2 := E1.vw.blk
  rw [show (({ x with n := x.n + 1 } : VR)).m = x.m from rfl, HMM.out] at hb2
  refine hK.out _ _ ⟨hb2, ⟨hbq.trans hHeld.box.blk⟩, (fun b e => by cases e; exact HRL.out y2 _ _ E1.vw rfl rfl)⟩ (fun g1 => ?_)
  clear hK K
  (try simp only [gs])
  refine wpAnyH_done (by kernel_rfl) ?_ _
  refine NoPanic.normal ?_
  have HC1 : Hid (CgV y2.drew p w.heap.size iv { x with n := x.n + 1 } { V with U := V.U.set M KL } c) := CgV.drew ⟨E1.vw, ⟨hbq.trans hHeld.box.blk⟩, HOW.out⟩
  have HE1 : Hid (VLeft y1 p iv x { V with U := V.U.set M KL } y2 { x with n := x.n + 1 }) := E1
  have HS2 : Hid (CgC y2.drew p w.heap.size iv (.map (some x.c)) (.map (some x.r)) x.m none 0 0 c) := ⟨HC1.out.vw.blk, ⟨HC1.out.box.blk⟩, (fun b e => by cases e)⟩
  have HD : Hid (Below y2.heap.size y2 y2.drew) := ⟨rfl, rfl, rfl, Nat.le_refl _, fun _ _ => rfl⟩
  clear g1 hHeld hbq hb2 E1 HS HC0 HKP HRL
  go_upto_region 3 with fail
  refine wp_region_noPanic ?_
  refine wp_region_held_drew (S := (fun y => CgC y p w.heap.size iv (.map (some x.c)) (.map (some x.r)) x.m none 0 0 c)) (by kernel_rfl) (HS2.out) (fun hHeld => ?_)
  refine wpAnyH_take (i := 0) (v := ?_) rfl (by kernel_rfl) (by kernel_rfl) (by kernel_rfl) (fun _ _ _ h => h) (Or.inl ⟨by rfl, ?_⟩) hHeld ?_
  case refine_2 => (intro w hSw; (try dsimp only at hSw); go_simp; try (with_reducible rfl))
  (try simp only [gs])
  refine wpAnyH_take (i := 1) (v := ?_) rfl (by kernel_rfl) (by kernel_rfl) (by kernel_rfl) (fun _ _ _ h => h) (Or.inl ⟨by rfl, ?_⟩) hHeld ?_
  case refine_2 => (intro w hSw; (try dsimp only at hSw); go_simp; try (with_reducible rfl))
  (try simp only [gs])
  refine wpAnyH_take (i := 2) (v := ?_) rfl (by kernel_rfl) (by kernel_rfl) (by kernel_rfl) (fun _ _ _ h => h) (Or.inl ⟨by rfl, ?_⟩) hHeld ?_
  case refine_2 => (intro w hSw; (try dsimp only at hSw); go_simp; try (with_reducible rfl))
  (try simp only [gs])
  refine wpAnyH_take (i := 3) (v := ?_) rfl (by kernel_rfl) (by kernel_rfl) (by kernel_rfl) (fun _ _ _ h => h) (Or.inl ⟨by rfl, ?_⟩) hHeld ?_
  case refine_2 => (intro w hSw; (try dsimp only at hSw); have hc := hSw.cell.1; go_simp; try (with_reducible rfl))
  (try simp only [gs])
  refine wpAnyH_take (i := 4) (v := ?_) rfl (by kernel_rfl) (by kernel_rfl) (by kernel_rfl) (fun _ _ _ h => h) (Or.inl ⟨by rfl, ?_⟩) hHeld ?_
  case refine_2 => (intro w hSw; (try dsimp only at hSw); go_simp; try (with_reducible rfl))
  (try simp only [gs])
  refine wpAnyH_take (i := 5) rfl (by kernel_rfl) (by kernel_rfl) (by kernel_rfl) (fun _ _ _ h => h) (yieldsIf_load_mid (by rfl) _ _ rfl _ _ rfl _ _ (fun y h => CgC.key h) Tryz.underlying31 rfl (by rw [HKL.out]; exact HCK.out)) hHeld ?_
  (try simp only [gs])
  refine wpAnyH_take (i := 6) rfl (by kernel_rfl) (by kernel_rfl) (by kernel_rfl) (fun _ _ _ h => h) (yieldsIf_load_mid (by rfl) _ _ rfl _ _ rfl _ _ (fun y h => CgC.all h) Tryz.underlying60 rfl (by rw [HCL.out]; exact HCI.out)) hHeld ?_
  (try simp only [gs])
  generalize y2.drew = y3 at *
  refine wpAnyH_ready (rs := [7]) (by kernel_rfl) (by simp) (AllReadyH.cons rfl (fun K hK => ?_) AllReadyH.nil)
  rw [if_pos (by rfl)]
  (try simp only [gs])
  refine wp_store_a tyC _ _ _ rfl x.c (x.n + 1) V.C rfl HC1.out.vw.mapC (by have := HHN.out; omega) c.kz rfl c rfl rfl ?_
  intro y4 hm2 gr2
  have hB : ∀ i, i < y3.heap.size → i ≠ x.c → y4.heap[i]? = y3.heap[i]? := fun i hi hne => gr2.block i hi (fun e => hne (by cases e; rfl))
  refine hK.out _ _ ⟨(hB p (lt_of_block hHeld.blk) HQ.out.1).trans hHeld.blk, ⟨(hB _ hHeld.box.lt HQ.out.2).trans hHeld.box.blk⟩, (fun b e => by cases e)⟩ (fun g1 => ?_)
  clear hK K
  (try simp only [gs])
  refine wpAnyH_done (by kernel_rfl) ?_ _
  refine NoPanic.normal ?_
  have HE : Hid (VLeft y3 p iv { x with n := x.n + 1 } { C := putA Ch.n V.C c, R := V.R, U := V.U.set M KL } y4 { x with n := x.n + 2 }) := HC1.out.vw.putC hm2 gr2
  clear g1 hHeld hB gr2 hm2 HS2 HC1 HKL HCK HCL HCI
  go_wp2_with fail
  go_end0
  refine ⟨⟨_, rfl⟩, VLeft.shift HOW.out HB.out ?_⟩
  have f1 : FrV (x.own p) y1 y3 := HE1.out.fr.trans (FrV.of_below HD.out) (fun i hi => .inl hi)
  exact ⟨HE.out.vw, (show x.n + 2 ≤ x.n + 4 by omega), f1.trans HE.out.fr (fun i hi => .inl hi), fun i hi => .inl hi⟩
end Go.Proofs.YtdmindhjmjnagabGreatDoor
/- Put, Delete, Mark and New of a view. -/
namespace Go.Proofs.YtdmindhjmjnagabGreatDoor
set_option linter.unusedVariables false
set_option maxRecDepth 100000
open Go.RowKit

theorem change_calls (w : World) (p : Nat) (iv : Value) (x : VR) (V : VS) (c : Ch) (h : VwIn w p iv x V) (hn : x.n ≤ 100000) :
    Calls Tryz.prog 101 #[.pointer (some ⟨p, 0, none⟩), .agg (encC.c c).toArray] w fun e w' => (∃ rv, e = .returned rv) ∧ ∃ x', VLeft w p iv x (V.change c) w' x' := by
  have hlen := h.len
  cases hq : x.u.length with
  | zero =>
    have hu : x.u = [] := List.eq_nil_of_length_eq_zero hq
    have hU : V.U = [] := List.eq_nil_of_length_eq_zero (by rw [hlen, hq])
    refine (change_none w p iv x V c h hn hu).mono fun e w' q => ⟨q.1, { x with n := x.n + 1 }, ?_⟩
    have e1 : V.change c = { V with C := putA Ch.n V.C c } := by unfold VS.change keepU; rw [hU]; rfl
    rw [e1]
    exact q.2
  | succ M =>
    have h1 : M < x.u.length := by omega
    have h2 : M < V.U.length := by omega
    refine (change_some w p iv x V c M x.u[M] V.U[M] h hn hq (List.getElem?_eq_getElem h1) (List.getElem?_eq_getElem h2)).mono fun e w' q => ⟨q.1, { x with n := x.n + 2 }, ?_⟩
    have e1 : V.change c = { C := putA Ch.n V.C c, R := V.R, U := V.U.set M (keepL V.C V.U[M] c.kz) } := by
      unfold VS.change keepU
      have e2 : V.U.length - 1 = M := by omega
      rw [e2, List.getD_eq_getElem?_getD, List.getElem?_eq_getElem h2]
      rfl
    rw [e1]
    exact q.2
/-- A text that may be put. -/
def okV (v : List UInt8) : Bool := decide (1 ≤ v.length ∧ v.length ≤ 40)
set_option maxHeartbeats 4000000 in
theorem vput_calls (w : World) (p : Nat) (iv : Value) (x : VR) (V : VS) (c : Ch) (hg : c.g = false) (h : VwIn w p iv x V) (hn : x.n ≤ 100000) (hv : okV c.v = true) :
    Calls Tryz.prog 84 #[.pointer (some ⟨p, 0, none⟩), kv c.k, .string (str c.v)] w fun e w' => e = .returned (.int .i64 0) ∧ ∃ x', VLeft w p iv x (V.change c) w' x' := by
  have b1 : Below w.heap.size w (w.alloc (.cells (bc c.k).toArray 31)) := (Below.refl _ w).alloc (Nat.le_refl _) _
  have hk1 : Has (w.alloc (.cells (bc c.k).toArray 31)) w.heap.size c.k := Has.new w c.k c.h
  have hC := change_calls _ p iv x V c (h.called b1) hn
  have HB : Hid (Below w.heap.size w (w.alloc (.cells (bc c.k).toArray 31))) := b1
  have HOW : Hid (∀ i, x.own p i → i < w.heap.size) := fun i hi => h.lt hi
  have hv' := of_decide_eq_true hv
  have hs : (str c.v).size = c.v.length := str_size c.v
  have HG : Hid (c.g = false) := hg
  have hl1 : ¬ (((str c.v).size : Int) < 1) := by omega
  have hl2 : ¬ ((40 : Int) < ((str c.v).size : Int)) := by omega
  clear h b1 hv hv' hs hg hn
  go_enter Tryz.func84, Tryz.ntmps84
  go_wp2_with (first
    | (refine load_key _ rfl w.heap.size rfl rfl c.k hk1 ?_)
    | (refine build_put rfl _ _ rfl c HG.out rfl rfl ?_)
    | (go_at_call 101; refine hC.mono ?_; clear hC; rintro e w1 ⟨⟨rv, rfl⟩, x', E1⟩))
  go_ret
  exact ⟨rfl, x', VLeft.shift HOW.out HB.out E1⟩
set_option maxHeartbeats 4000000 in
theorem vput_bad (w : World) (p : Nat) (K : Kz) (v : List UInt8) (hv : okV v = false) :
    Calls Tryz.prog 84 #[.pointer (some ⟨p, 0, none⟩), kv K.k, .string (str v)] w fun e w' => e = .returned (.int .i64 1) ∧ Below w.heap.size w w' := by
  have b1 : Below w.heap.size w (w.alloc (.cells (bc K.k).toArray 31)) := (Below.refl _ w).alloc (Nat.le_refl _) _
  have HB : Hid (Below w.heap.size w (w.alloc (.cells (bc K.k).toArray 31))) := b1
  have hv' := of_decide_eq_false hv
  have hs : (str v).size = v.length := str_size v
  by_cases h1 : (str v).size = 0
  · have hl1 : (((str v).size : Int) < 1) := by omega
    clear b1 hv hv' hs h1
    go_enter Tryz.func84, Tryz.ntmps84
    go_wp2_with fail
    go_ret
    exact ⟨rfl, HB.out⟩
  · have hl1 : ¬ (((str v).size : Int) < 1) := by omega
    have hl2 : ((40 : Int) < ((str v).size : Int)) := by omega
    clear b1 hv hv' hs h1
    go_enter Tryz.func84, Tryz.ntmps84
    go_wp2_with fail
    go_ret
    exact ⟨rfl, HB.out⟩
/-- The change that takes a key away. -/
def goneC (K : Kz) : Ch := ⟨K.k, K.h, [], true⟩
set_option maxHeartbeats 4000000 in
theorem vdelete_calls (w : World) (p : Nat) (iv : Value) (x : VR) (V : VS) (K : Kz) (h : VwIn w p iv x V) (hn : x.n ≤ 100000) :
    Calls Tryz.prog 83 #[.pointer (some ⟨p, 0, none⟩), kv K.k] w fun e w' => e = .returned (.int .i64 0) ∧ ∃ x', VLeft w p iv x (V.change (goneC K)) w' x' := by
  have b1 : Below w.heap.size w (w.alloc (.cells (bc K.k).toArray 31)) := (Below.refl _ w).alloc (Nat.le_refl _) _
  have hk1 : Has (w.alloc (.cells (bc K.k).toArray 31)) w.heap.size K.k := Has.new w K.k K.h
  have hC := change_calls _ p iv x V (goneC K) (h.called b1) hn
  have HB : Hid (Below w.heap.size w (w.alloc (.cells (bc K.k).toArray 31))) := b1
  have HOW : Hid (∀ i, x.own p i → i < w.heap.size) := fun i hi => h.lt hi
  have HG : Hid (encC.c (goneC K) = encC.c ⟨K.k, K.h, [], true⟩) := rfl
  generalize goneC K = gc at *
  clear h b1 hn
  go_enter Tryz.func83, Tryz.ntmps83
  go_wp2_with (first
    | (refine load_key _ rfl w.heap.size rfl rfl K.k hk1 ?_)
    | (refine build_gone rfl _ _ rfl K rfl rfl ?_; rw [← HG.out]; clear HG)
    | (go_at_call 101; refine hC.mono ?_; clear hC; rintro e w1 ⟨⟨rv, rfl⟩, x', E1⟩))
  go_ret
  exact ⟨rfl, x', VLeft.shift HOW.out HB.out E1⟩
end Go.Proofs.YtdmindhjmjnagabGreatDoor
/- Reads of a view. -/
namespace Go.Proofs.YtdmindhjmjnagabGreatDoor
set_option linter.unusedVariables false
set_option maxRecDepth 100000
open Go.RowKit

theorem mem_same {a b : List Sp} (h : ∀ s, s ∈ a ↔ s ∈ b) : mem a = mem b := by
  funext x
  rw [Bool.eq_iff_iff]
  unfold mem
  rw [List.any_eq_true, List.any_eq_true]
  exact ⟨fun ⟨s, hs, q⟩ => ⟨s, (h s).1 hs, q⟩, fun ⟨s, hs, q⟩ => ⟨s, (h s).2 hs, q⟩⟩
end Go.Proofs.YtdmindhjmjnagabGreatDoor
/- Mark of a view. -/
namespace Go.Proofs.YtdmindhjmjnagabGreatDoor
set_option linter.unusedVariables false
set_option maxRecDepth 100000
open Go.RowKit

/-- A view behind Mark. -/
def VS.mark (V : VS) : VS := { V with U := V.U ++ [[]] }
/-- Behind the append of a new map to the marks, and the store of the new slice. -/
theorem VwIn.marked {w w1 w2 : World} {p : Nat} {iv : Value} {x : VR} {V : VS} (h : VwIn w p iv x V) (q g cap : Nat) (hq : w.heap.size ≤ q) (b1 : Below w.heap.size w w1) (hM : MapA encF Fo.n w1 q 0 []) (hrow : Own encM 170 w2 0 (.slice (some ⟨g, 0, none⟩) (x.u.length + 1) cap) (x.u ++ [q])) (hg : w1.grownBy w2 x.m.ownBlock) (hgw : x.m.ownBlock = some g ∨ w.heap.size ≤ g) :
    VLeft w p iv x V.mark (w2.setCell ⟨p, 3, none⟩ (.slice (some ⟨g, 0, none⟩) (x.u.length + 1) cap)) { x with m := .slice (some ⟨g, 0, none⟩) (x.u.length + 1) cap, u := x.u ++ [q], n := x.n + 1 } := by
  have h1 := h.called b1
  have hp : ∀ i, x.own p i → i ≠ p → x.m.ownBlock ≠ some i → (w2.setCell ⟨p, 3, none⟩ (.slice (some ⟨g, 0, none⟩) (x.u.length + 1) cap)).heap[i]? = w1.heap[i]? := fun i hi hne hnr => (heap_setCell_other _ _ _ _ hne).trans (hg.block i (h1.lt hi) (fun e => hnr e.symm))
  have hmp : ∀ b, (∃ es c, w1.heap[b]? = some (Obj.map es c)) → (w2.setCell ⟨p, 3, none⟩ (.slice (some ⟨g, 0, none⟩) (x.u.length + 1) cap)).heap[b]? = w1.heap[b]? := fun b hb =>
    (heap_setCell_other _ _ _ _ (fun e => h1.ne_map hb e.symm)).trans (hg.block b (by obtain ⟨es, c, hb⟩ := hb; exact lt_of_block hb) (fun e => h1.row_ne hb e.symm))
  have hb2 : w2.heap[p]? = some (.cells #[iv, .map (some x.c), .map (some x.r), x.m] 49 (0, 0)) := (hg.block p (lt_of_block h1.blk) (fun e => by
    rcases ownsRow_ne_a h1.row h1.blk (fun cur q => absurd (Obj.cells.inj q).2.1 (by decide)) with q | q
    · rw [q] at e; cases e
    · exact q e.symm)).trans h1.blk
  have hgp : g ≠ p := fun e => by
    obtain ⟨-, -⟩ : True ∧ True := ⟨trivial, trivial⟩
    rcases hrow.2 with ⟨q0, _⟩ | ⟨g', cap', cur', q0, _, q2, _⟩
    · cases q0
    · have e2 : g = g' := by
        injection q0 with a1
        injection a1 with a2
        injection a2
      rw [← e2, e, hb2] at q2
      exact absurd (Obj.cells.inj (Option.some.inj q2)).2.1 (by decide)
  have hcq : ∀ b, x.own p b → b ≠ q := fun b hb e => by have := h.lt hb; omega
  refine ⟨⟨?_, ?_, ?_, ?_, ?_, ?_, ?_, ?_⟩, (show x.n + 1 ≤ x.n + 4 by omega), ?_, ?_⟩
  · exact heap_setCell_same _ _ _ _ _ _ hb2
  · exact (h1.mapC.kept (hmp _ h1.mapC.isMap)).mono (Nat.le_succ _)
  · exact (h1.setR.kept (hmp _ h1.setR.isMap)).mono (Nat.le_succ _)
  · exact Own.same hrow (fun g' hg' => by cases hg'; exact heap_setCell_other _ _ _ _ hgp)
  · intro i hi
    simp only [List.length_append, List.length_singleton] at hi
    by_cases e : i < x.u.length
    · obtain ⟨L, q1, q2⟩ := h1.maps i e
      refine ⟨L, ?_, ?_⟩
      · show (V.U ++ [[]])[i]? = some L
        rw [List.getElem?_append_left (by rw [h.len]; exact e)]
        exact q1
      · show MapA encF Fo.n _ (x.u ++ [q])[i] _ L
        rw [List.getElem_append_left e]
        exact (q2.kept (hmp _ q2.isMap)).mono (Nat.le_succ _)
    · have e' : i = x.u.length := by omega
      subst e'
      refine ⟨[], ?_, ?_⟩
      · show (V.U ++ [[]])[x.u.length]? = some []
        rw [← h.len]
        simp
      · show MapA encF Fo.n _ (x.u ++ [q])[x.u.length] _ []
        rw [List.getElem_append_right (Nat.le_refl _)]
        simp only [Nat.sub_self, List.getElem_singleton]
        exact (hM.kept (hmp _ hM.isMap)).mono (Nat.zero_le _)
  · show (V.U ++ [[]]).length = (x.u ++ [q]).length
    simp [h.len]
  · show (x.u ++ [q]).length ≤ x.n + 1
    have := h.most
    simp
    omega
  · show (x.c :: x.r :: (x.u ++ [q])).Nodup
    have e1 : x.c :: x.r :: (x.u ++ [q]) = (x.c :: x.r :: x.u) ++ [q] := rfl
    rw [e1]
    refine List.nodup_append.2 ⟨h.apart, by simp, fun a ha b hb => ?_⟩
    rw [List.mem_singleton] at hb
    subst hb
    refine hcq a ?_
    rcases List.mem_cons.1 ha with rfl | ha
    · exact .inr (.inl rfl)
    · rcases List.mem_cons.1 ha with rfl | ha
      · exact .inr (.inr (.inl rfl))
      · exact .inr (.inr (.inr (.inl ha)))
  · have f1 : FrV (x.own p) w w1 := FrV.of_below b1
    have f2 : FrV (x.own p) w1 w2 := FrV.of_grown hg (fun i e => .inr (.inr (.inr (.inr e))))
    have f3 : FrV (x.own p) w2 (w2.setCell ⟨p, 3, none⟩ (.slice (some ⟨g, 0, none⟩) (x.u.length + 1) cap)) := ⟨⟨rfl, rfl, rfl, by simp, fun k hk => absurd hk (Nat.not_lt_zero k)⟩, fun i hi hn => heap_setCell_other _ _ _ _ (fun e => hn (.inl e))⟩
    exact (f1.trans f2 (fun i hi => .inl hi)).trans f3 (fun i hi => .inl hi)
  · intro i hi
    rcases hi with rfl | rfl | rfl | hi | hi
    · exact .inl (.inl rfl)
    · exact .inl (.inr (.inl rfl))
    · exact .inl (.inr (.inr (.inl rfl)))
    · rcases List.mem_append.1 hi with hi | hi
      · exact .inl (.inr (.inr (.inr (.inl hi))))
      · rw [List.mem_singleton] at hi
        subst hi
        exact .inr hq
    · cases hi
      rcases hgw with q | q
      · exact .inl (.inr (.inr (.inr (.inr q))))
      · exact .inr q
end Go.Proofs.YtdmindhjmjnagabGreatDoor
/- Mark of a view: the call. -/
namespace Go.Proofs.YtdmindhjmjnagabGreatDoor
set_option linter.unusedVariables false
set_option maxRecDepth 100000
open Go.RowKit

end Go.Proofs.YtdmindhjmjnagabGreatDoor
