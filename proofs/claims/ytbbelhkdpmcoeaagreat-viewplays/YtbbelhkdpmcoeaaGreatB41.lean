import Derived.Test.YtbbelhkdpmcoeaaGreatSi
import Derived.Test.YtbbelhkdpmcoeaaGreatB40
import Derived.Test.YtbbelhkdpmcoeaaGreatB39
import Derived.Test.YtbbelhkdpmcoeaaGreatB28
/- The document's View: Back; Put of a value that may not be. -/
namespace Go.Proofs.YtbbelhkdpmcoeaaGreat
set_option linter.unusedVariables false
set_option maxRecDepth 100000
open Go.RowKit

theorem MvIn.past {w w' : World} {p : Nat} {mv bv cv rv mv0 : Value} {l : List SV} {B : List Pa} {C : List Ch} {R : List Sp} {M M0 : List (Value × List Ch)} (h : MvIn w mv l M) (hr : RvIn w p bv cv rv mv0 B C R M0) (f : FrV (fun i => i = p) w w') (hp : ∀ g, mv.ownBlock = some g → g ≠ p) : MvIn w' mv l M :=
  ⟨SlB.aside h.sl f (fun _ => hp), h.eq, fun e he => (SlB.off enc0C (h.each e he) hr.blk hr.slices (fun g hg hne => f.block g hg hne)).wide f.size⟩
set_option maxHeartbeats 4000000 in
theorem rvput_bad (w : World) (p : Nat) (K : Kz) (v : List UInt8) (hv : okV v = false) :
    Calls Tryz.prog 24 #[.pointer (some ⟨p, 0, none⟩), kv K.k, .string (str v)] w fun e w' => e = .returned (.int .i64 1) ∧ Below w.heap.size w w' := by
  have b1 : Below w.heap.size w (w.alloc (.cells (bc K.k).toArray 29)) := (Below.refl _ w).alloc (Nat.le_refl _) _
  have HB : Hid (Below w.heap.size w (w.alloc (.cells (bc K.k).toArray 29))) := b1
  have hv1 : v.length < 1 ∨ 40 < v.length := by
    unfold okV at hv
    by_cases q : v.length < 1
    · exact .inl q
    · refine .inr ?_
      by_cases q2 : 40 < v.length
      · exact q2
      · exfalso
        have : (1 ≤ v.length ∧ v.length ≤ 40) := by omega
        simp [this] at hv
  have hlen : ((str v).size : Int) = (v.length : Int) := by rw [str_size]
  clear b1 hv
  rcases hv1 with hv1 | hv1
  · have hl1 : ((str v).size : Int) < 1 := by omega
    go_enter Tryz.func24, Tryz.ntmps24
    go_upto_region 1 with fail
    generalize w.alloc (.cells (bc K.k).toArray 29) = W at *
    go_wp2_with fail
    go_ret
    exact ⟨rfl, HB.out⟩
  · have hl1 : ¬ ((str v).size : Int) < 1 := by omega
    have hl2 : (40 : Int) < ((str v).size : Int) := by omega
    go_enter Tryz.func24, Tryz.ntmps24
    go_upto_region 1 with fail
    generalize w.alloc (.cells (bc K.k).toArray 29) = W at *
    go_wp2_with fail
    go_ret
    exact ⟨rfl, HB.out⟩
set_option maxHeartbeats 4000000 in
theorem rvback_bad (w : World) (p : Nat) (bv cv rv mv : Value) (B : List Pa) (C : List Ch) (R : List Sp) (M : List (Value × List Ch)) (h : RvIn w p bv cv rv mv B C R M) (MI : Int) (hM : MI < 0 ∨ (M.length : Int) ≤ MI) :
    Calls Tryz.prog 29 #[.pointer (some ⟨p, 0, none⟩), .int .i64 MI] w fun e w' => e = .returned (.int .i64 1) ∧ Below w.heap.size w w' := by
  obtain ⟨ad, cap, rfl, -, -, -⟩ := h.m.out
  have hc3 : w.cell? ⟨p, 3, none⟩ = some (.slice ad M.length cap) := (RvC.mk h.blk).c3
  have HB : Hid (Below w.heap.size w w) := Below.refl _ _
  generalize M.length = N at *
  clear h
  rcases hM with hM | hM
  · go_enter Tryz.func29, Tryz.ntmps29
    go_wp2_with fail
    go_ret
    exact ⟨rfl, HB.out⟩
  · have h0 : ¬ MI < 0 := by omega
    go_enter Tryz.func29, Tryz.ntmps29
    go_wp2_with fail
    go_ret
    exact ⟨rfl, HB.out⟩
set_option maxHeartbeats 4000000 in
theorem rvback_calls (w : World) (p : Nat) (bv cv rv mv : Value) (B : List Pa) (C : List Ch) (R : List Sp) (l : List SV) (M : List (Value × List Ch)) (h : RvIn w p bv cv rv mv B C R M) (hm : MvIn w mv l M) (hp : ∀ g, mv.ownBlock = some g → g ≠ p) (m : Nat) (Vm : Value) (Cm : List Ch) (he : M[m]? = some (Vm, Cm)) (MI : Int) (hMI : MI = (m : Int)) (hN5 : M.length ≤ 1000) :
    Calls Tryz.prog 29 #[.pointer (some ⟨p, 0, none⟩), .int .i64 MI] w fun e w' => e = .returned (.int .i64 0) ∧ FrV (fun i => i = p) w w' ∧ ∃ mv', RvIn w' p bv Vm rv mv' B Cm R (M.take (m + 1)) ∧ MvIn w' mv' (l.take (m + 1)) (M.take (m + 1)) ∧ mv'.ownBlock = mv.ownBlock := by
  have hlen : l.length = M.length := by have := congrArg List.length hm.eq; simpa using this
  obtain ⟨hml, he'⟩ := List.getElem?_eq_some_iff.1 he
  obtain ⟨ad, cap, rfl, hcap, hmax, -, -⟩ := id hm.sl
  obtain ⟨g, off, rfl, hg, hat⟩ := SlB.at hm.sl m (by omega)
  have hce : w.cell? ⟨g, off + m, none⟩ = some Vm := by
    have h0 := hat 0 (l[m]).v rfl
    have he2 : (l[m]).v = Vm := by
      have := congrArg (fun z => z[m]?) hm.eq
      simp only [List.getElem?_map, List.getElem?_eq_getElem (show m < l.length by omega), he, Option.map_some, Option.some.injEq] at this
      exact this
    rw [← he2]
    simpa using h0
  have HE : Hid (Sl encC w Vm Cm) := by
    have := hm.each _ (List.getElem_mem hml)
    rw [he'] at this
    exact this
  obtain ⟨ad1, cap1, rfl, -, -, -, -⟩ := id HE.out
  have hc3 : w.cell? ⟨p, 3, none⟩ = some (.slice (some ⟨g, off, none⟩) l.length cap) := (RvC.mk h.blk).c3
  have hc1 : w.cell? ⟨p, 1, none⟩ = some cv := (RvC.mk h.blk).c1
  have hf1 := frozen_of_row w p 1 _ _ h.blk
  have HR : Hid (RvIn w p bv cv rv (.slice (some ⟨g, off, none⟩) l.length cap) B C R M ∧ MvIn w (.slice (some ⟨g, off, none⟩) l.length cap) l M) := ⟨h, hm⟩
  have HPP : Hid (g ≠ p) := hp g rfl
  have HLN : Hid (l.length = M.length ∧ m < M.length) := ⟨hlen, hml⟩
  have hb := h.blk
  have hmI : ¬ MI < 0 := by omega
  have hmI2 : ¬ (l.length : Int) ≤ MI := by omega
  have hmI3 : MI < (l.length : Int) := by omega
  have hmI0 : 0 ≤ MI := by omega
  have hmc : MI + 1 ≤ (cap : Int) := by omega
  have hmc0 : 0 ≤ MI + 1 := by omega
  have hm5 : MI ≤ 1000 := by omega
  have hmn : MI.toNat = m := by omega
  clear hat h hm hlen hp he he' hml
  go_enter Tryz.func29, Tryz.ntmps29
  go_upto_region 4 with fail
  have hY : (w.setCell ⟨p, 1, none⟩ (.slice ad1 Cm.length cap1)).heap[p]? = some (.cells #[bv, .slice ad1 Cm.length cap1, rv, .slice (some ⟨g, off, none⟩) l.length cap] 41 (0, 0)) := by
    rw [setCell_eq_setRow w p 1 _ _ _ _ hb, setRow_heap w p _ _ _ _ hb]
    rfl
  have hFr : FrV (fun i => i = p) w (w.setCell ⟨p, 1, none⟩ (.slice ad1 Cm.length cap1)) := ⟨⟨rfl, rfl, rfl, by simp, fun k hk => absurd hk (Nat.not_lt_zero k)⟩, fun i _ hn => heap_setCell_other _ _ _ _ hn⟩
  have HR1 : Hid (RvIn (w.setCell ⟨p, 1, none⟩ (.slice ad1 Cm.length cap1)) p bv (.slice ad1 Cm.length cap1) rv (.slice (some ⟨g, off, none⟩) l.length cap) B Cm R M ∧ MvIn (w.setCell ⟨p, 1, none⟩ (.slice ad1 Cm.length cap1)) (.slice (some ⟨g, off, none⟩) l.length cap) l M ∧ FrV (fun i => i = p) w (w.setCell ⟨p, 1, none⟩ (.slice ad1 Cm.length cap1))) :=
    ⟨RvIn.stored HR.out.1 hY (fun g _ hne => heap_setCell_other _ _ _ _ hne) hFr.size HE.out HR.out.1.r HR.out.1.m (fun g' off' n' cap' e => by cases e; exact HPP.out), HR.out.2.past HR.out.1 hFr (fun g' e => by cases e; exact HPP.out), hFr⟩
  clear hY hFr hb hc1 hf1 hc3 hce HR HE
  generalize w.setCell ⟨p, 1, none⟩ (.slice ad1 Cm.length cap1) = y1 at *
  have hb := HR1.out.1.blk
  have hc3 : y1.cell? ⟨p, 3, none⟩ = some (.slice (some ⟨g, off, none⟩) l.length cap) := (RvC.mk hb).c3
  have hf3 := frozen_of_row y1 p 3 _ _ hb
  go_upto_region 5 with fail
  have hlt : (l.take (m + 1)).length = m + 1 := by have := HLN.out; rw [List.length_take]; omega
  have HT : Hid (SlB encY y1 y1.heap.size (.slice (some ⟨g, off, none⟩) (m + 1) cap) (l.take (m + 1))) := SlB.take HR1.out.2.1.sl (m + 1) (by have := HLN.out; omega)
  have HM1 : Hid (MvIn y1 (.slice (some ⟨g, off, none⟩) (m + 1) cap) (l.take (m + 1)) (M.take (m + 1))) := ⟨HT.out, by rw [List.map_take, List.map_take, HR1.out.2.1.eq], fun e he => HR1.out.2.1.each e (List.mem_of_mem_take he)⟩
  have hY : (y1.setCell ⟨p, 3, none⟩ (.slice (some ⟨g, off, none⟩) (m + 1) cap)).heap[p]? = some (.cells #[bv, .slice ad1 Cm.length cap1, rv, .slice (some ⟨g, off, none⟩) (m + 1) cap] 41 (0, 0)) := by
    rw [setCell_eq_setRow y1 p 3 _ _ _ _ hb, setRow_heap y1 p _ _ _ _ hb]
    rfl
  have hFr : FrV (fun i => i = p) y1 (y1.setCell ⟨p, 3, none⟩ (.slice (some ⟨g, off, none⟩) (m + 1) cap)) := ⟨⟨rfl, rfl, rfl, by simp, fun k hk => absurd hk (Nat.not_lt_zero k)⟩, fun i _ hn => heap_setCell_other _ _ _ _ hn⟩
  have HR2 : Hid (RvIn (y1.setCell ⟨p, 3, none⟩ (.slice (some ⟨g, off, none⟩) (m + 1) cap)) p bv (.slice ad1 Cm.length cap1) rv (.slice (some ⟨g, off, none⟩) (m + 1) cap) B Cm R (M.take (m + 1)) ∧ MvIn (y1.setCell ⟨p, 3, none⟩ (.slice (some ⟨g, off, none⟩) (m + 1) cap)) (.slice (some ⟨g, off, none⟩) (m + 1) cap) (l.take (m + 1)) (M.take (m + 1)) ∧ FrV (fun i => i = p) w (y1.setCell ⟨p, 3, none⟩ (.slice (some ⟨g, off, none⟩) (m + 1) cap))) :=
    ⟨RvIn.stored HR1.out.1 hY (fun g _ hne => heap_setCell_other _ _ _ _ hne) hFr.size HR1.out.1.c HR1.out.1.r HM1.out.slS (fun g' off' n' cap' e => by cases e; exact HPP.out), HM1.out.past HR1.out.1 hFr (fun g' e => by cases e; exact HPP.out), HR1.out.2.2.trans (S' := fun i => i = p) hFr (fun i e => .inl e)⟩
  clear hY hFr hb hc3 hf3
  generalize y1.setCell ⟨p, 3, none⟩ (.slice (some ⟨g, off, none⟩) (m + 1) cap) = y2 at *
  go_wp2_with fail
  go_ret
  exact ⟨rfl, HR2.out.2.2, _, HR2.out.1, HR2.out.2.1, rfl⟩
end Go.Proofs.YtbbelhkdpmcoeaaGreat
/- A slice of two slices of changes, in a drawn region. -/
namespace Go.Proofs.YtbbelhkdpmcoeaaGreat
set_option linter.unusedVariables false
set_option maxRecDepth 100000
open Go.RowKit

section
variable {o : Oper} {a : Act} {w : World} {Q : Exit → Act → World → Prop}
theorem wp_build_two {K : Act → World → Prop} (x y : Operand) (ho : o.op = .buildSlice 39 2 #[(0, x), (1, y)]) (v u : Value) (hx : a.eval x = v) (hy : a.eval y = u) (l m : List Ch) (hl : Sl encC w v l) (hm : Sl encC w u m)
    (h : ∀ w', SlS w' w'.heap.size (.slice (some ⟨w.heap.size, 0, none⟩) 2 2) [(v, l), (u, m)] → Below w.heap.size w w' → K (a.put o.dst (.slice (some ⟨w.heap.size, 0, none⟩) 2 2)) w') : o.wp Tryz.prog a w K Q := by
  obtain ⟨i, z, hi, hz, hs, hzc⟩ := infoV
  have cv := cells_sl hl
  have cu := cells_sl hm
  refine wp_buildSlice 39 37 2 _ ho #[v, u] i z Tryz.underlying39 hi hz (by rw [hs]; omega) (by rw [hs]; omega) ?_ ?_
  · rw [hs]
    obtain ⟨C, hC⟩ : ∃ C : Array Value, C = (Array.range (2 * 1)).map (z.cells[· % z.cells.size]!) := ⟨_, rfl⟩
    have hsz : C.size = 2 := by rw [hC]; simp
    rw [← hC]
    obtain ⟨cs⟩ := C
    rcases cs with _ | ⟨c0, _ | ⟨c1, _ | ⟨c2, cs⟩⟩⟩
    · simp at hsz
    · simp at hsz
    · simp only [List.map_toArray, List.map_cons, List.map_nil, hx, hy]
      rw [fill_put (off := 0) (size := 1) rfl (by rw [cv]; rfl) (by simp), fill_put (off := 1) (size := 1) rfl (by rw [cu]; rfl) (by simp [cv])]
      simp [cv, cu, Instr.fill]
    · simp at hsz
  · have hb : (w.alloc (.cells #[v, u] 37)).heap[w.heap.size]? = some (.cells #[v, u] 37 (0, 0)) := heap_alloc_new _ _
    have hbl : Below w.heap.size w (w.alloc (.cells #[v, u] 37)) := (Below.refl _ w).alloc (Nat.le_refl _) _
    refine h _ ⟨⟨_, 2, rfl, Nat.le_refl _, (by unfold maxLen; simp), .inr ⟨w.heap.size, 0, rfl, by simp, fun i hi => ?_⟩⟩, fun e he => ?_⟩ hbl
    · rw [Nat.zero_add, cell_of_row _ _ _ _ _ _ hb]
      match i, hi with
      | 0, _ => rfl
      | 1, _ => rfl
    · rcases List.mem_cons.1 he with rfl | he
      · exact hl.called hbl
      · rw [List.mem_singleton] at he
        subst he
        exact hm.called hbl
end
end Go.Proofs.YtbbelhkdpmcoeaaGreat
/- The document's View: Delete. -/
namespace Go.Proofs.YtbbelhkdpmcoeaaGreat
set_option linter.unusedVariables false
set_option maxRecDepth 100000
open Go.RowKit

set_option maxHeartbeats 4000000 in
theorem rvdelete_calls (w : World) (p : Nat) (bv cv rv mv : Value) (B : List Pa) (C : List Ch) (R : List Sp) (M : List (Value × List Ch)) (h : RvIn w p bv cv rv mv B C R M) (hp : ∀ g off n cap, mv = .slice (some ⟨g, off, none⟩) n cap → g ≠ p) (hC : C.length ≤ 1000) (K : Kz) :
    Calls Tryz.prog 25 #[.pointer (some ⟨p, 0, none⟩), kv K.k] w fun e w' => (∃ x, e = .returned x) ∧ FrV (fun i => i = p) w w' ∧ ∃ cv' d, RvIn w' p bv cv' rv mv B d R M ∧ NewV w.heap.size cv' ∧ JoinIs (C ++ [goneC K]) d ∧ d.length ≤ C.length + 1 := by
  have b1 : Below w.heap.size w (w.alloc (.cells (bc K.k).toArray 29)) := (Below.refl _ w).alloc (Nat.le_refl _) _
  have HK : Hid (Has (w.alloc (.cells (bc K.k).toArray 29)) w.heap.size K.k) := Has.new w K.k K.h
  have HR0 : Hid (RvIn (w.alloc (.cells (bc K.k).toArray 29)) p bv cv rv mv B C R M ∧ Below w.heap.size w (w.alloc (.cells (bc K.k).toArray 29))) := ⟨h.called b1, b1⟩
  have hInfo : ∀ J : Kz, (Tryz.prog.info? 29).map (·.size) = some (bc J.k).length := fun J => by rw [bc_length, J.h]; exact Tryz.key_info
  obtain ⟨ad, cap, rfl, hcap, hmax, -, -⟩ := id h.c
  have HC : Hid (C.length ≤ 1000) := hC
  have HPP : Hid (∀ g off n cap, mv = .slice (some ⟨g, off, none⟩) n cap → g ≠ p) := hp
  clear b1 h hC hp
  go_enter Tryz.func25, Tryz.ntmps25
  go_upto_region 1 with fail
  generalize hW : w.alloc (.cells (bc K.k).toArray 29) = W at *
  have HRD : Hid (RvIn W.drew p bv (.slice ad C.length cap) rv mv B C R M ∧ Below w.heap.size w W.drew ∧ Has W.drew w.heap.size K.k) := ⟨HR0.out.1.called ⟨rfl, rfl, rfl, Nat.le_refl _, fun _ _ => rfl⟩, HR0.out.2.trans ⟨rfl, rfl, rfl, Nat.le_refl _, fun _ _ => rfl⟩, ⟨HK.out.len, HK.out.blk⟩⟩
  refine wp_region_noPanic ?_
  refine wp_region_Z 12 (fun yy => RvC yy p bv (.slice ad C.length cap) rv mv ∧ yy.rangeAt w.heap.size 0 (bc K.k)) (by kernel_rfl) ⟨RvC.mk HRD.out.1.blk, range_has HRD.out.2.2⟩ (fun hHeld => ?_)
  refine wpAnyZ_take (i := 0) (v := ?_) [10, 11, 12] rfl (by kernel_rfl) (by kernel_rfl) (by kernel_rfl) (by kernel_rfl) (fun _ _ _ h => h) (Or.inl ⟨by rfl, ?_⟩) hHeld ?_
  case refine_2 => (intro w hSw; (try dsimp only at hSw); go_simp; try (with_reducible rfl))
  (try simp only [gs])
  refine wpAnyZ_take (i := 1) (v := ?_) [2, 3, 4, 8, 9, 12] rfl (by kernel_rfl) (by kernel_rfl) (by kernel_rfl) (by kernel_rfl) (fun _ _ _ h => h) (Or.inl ⟨by rfl, ?_⟩) hHeld ?_
  case refine_2 => (intro w hSw; (try dsimp only at hSw); go_simp; try (with_reducible rfl))
  (try simp only [gs])
  refine wpAnyZ_take (i := 2) (v := ?_) [3, 4, 8, 9, 12] rfl (by kernel_rfl) (by kernel_rfl) (by kernel_rfl) (by kernel_rfl) (fun _ _ _ h => h) (Or.inl ⟨by rfl, ?_⟩) hHeld ?_
  case refine_2 => (intro w hSw; (try dsimp only at hSw); go_simp; try (with_reducible rfl))
  (try simp only [gs])
  refine wpAnyZ_take (i := 3) (v := ?_) [4, 8, 9, 12] rfl (by kernel_rfl) (by kernel_rfl) (by kernel_rfl) (by kernel_rfl) (fun _ _ _ h => h) (Or.inl ⟨by rfl, ?_⟩) hHeld ?_
  case refine_2 => (intro w hSw; (try dsimp only at hSw); go_simp; try (with_reducible rfl))
  (try simp only [gs])
  refine wpAnyZ_take (i := 4) (v := ?_) [8, 9, 12] rfl (by kernel_rfl) (by kernel_rfl) (by kernel_rfl) (by kernel_rfl) (fun _ _ _ h => h) (Or.inl ⟨by rfl, ?_⟩) hHeld ?_
  case refine_2 => (intro w hSw; (try dsimp only at hSw); have hc := hSw.1.c1; go_simp; try (with_reducible rfl))
  (try simp only [gs])
  refine wpAnyZ_take (i := 5) [6, 7, 8, 9, 12] rfl (by kernel_rfl) (by kernel_rfl) (by kernel_rfl) (by kernel_rfl) (fun _ _ _ h => h) (yieldsIf_load_mid (by rfl) _ _ rfl _ _ rfl _ _ (fun _ h => h.2) Tryz.underlying29 rfl (hInfo K)) hHeld ?_
  (try simp only [gs])
  refine wpAnyZ_take (i := 6) (v := .agg (encC.c (goneC K)).toArray) [7, 8, 9, 12] rfl (by kernel_rfl) (by kernel_rfl) (by kernel_rfl) (by kernel_rfl) (fun _ _ _ h => h) (Or.inl ⟨by rfl, fun w _ => exec_build rfl (by simp only [List.map_toArray, List.map_cons, List.map_nil]; exact built_gone K) w⟩) hHeld ?_
  (try simp only [gs])
  clear hW HR0 HK
  generalize W.drew = W0 at *
  refine wpAnyZ_ready (rs := [7]) (by kernel_rfl) (by simp) (AllReadyZ.cons rfl (fun K0 hK => ?_) AllReadyZ.nil)
  rw [if_pos (by rfl)]
  (try simp only [gs])
  refine wp_build_el1 rowC _ rfl (goneC K) rfl (by decide) ?_
  intro y1 o1 b1 z1
  have HY1 : Hid (RvIn y1 p bv (.slice ad C.length cap) rv mv B C R M ∧ Below w.heap.size w y1 ∧ Has y1 w.heap.size K.k) := ⟨HRD.out.1.called b1, HRD.out.2.1.trans (b1.mono HRD.out.2.1.size), HRD.out.2.2.below b1 HRD.out.2.2.lt⟩
  have HO1 : Hid (Sl encC y1 (.slice (some ⟨W0.heap.size, 0, none⟩) 1 1) [goneC K]) := o1.slB
  refine hK.out _ _ (fun _ => ⟨RvC.mk HY1.out.1.blk, range_has HY1.out.2.2⟩) ?_
  clear hK K0 hHeld
  have hHeld : RvC y1 p bv (.slice ad C.length cap) rv mv ∧ y1.rangeAt w.heap.size 0 (bc K.k) := ⟨RvC.mk HY1.out.1.blk, range_has HY1.out.2.2⟩
  (try simp only [gs])
  clear o1 b1 z1
  refine wpAnyZ_ready (rs := [8]) (by kernel_rfl) (by simp) (AllReadyZ.cons rfl (fun K0 hK => ?_) AllReadyZ.nil)
  rw [if_pos (by rfl)]
  (try simp only [gs])
  refine wp_build_two _ _ rfl (.slice ad C.length cap) (.slice (some ⟨W0.heap.size, 0, none⟩) 1 1) rfl rfl C [goneC K] HY1.out.1.c HO1.out ?_
  intro y2 s2 b2
  have HY2 : Hid (RvIn y2 p bv (.slice ad C.length cap) rv mv B C R M ∧ Below w.heap.size w y2 ∧ Has y2 w.heap.size K.k) := ⟨HY1.out.1.called b2, HY1.out.2.1.trans (b2.mono HY1.out.2.1.size), HY1.out.2.2.below b2 HY1.out.2.2.lt⟩
  have hJ := rjoinN_calls y2 _ _ s2 (by simp) (by simp; have := HC.out; omega)
  refine hK.out _ _ (fun _ => ⟨RvC.mk HY2.out.1.blk, range_has HY2.out.2.2⟩) ?_
  clear hK K0 hHeld
  have hHeld : RvC y2 p bv (.slice ad C.length cap) rv mv ∧ y2.rangeAt w.heap.size 0 (bc K.k) := ⟨RvC.mk HY2.out.1.blk, range_has HY2.out.2.2⟩
  (try simp only [gs])
  clear s2 b2
  refine wpAnyZ_ready (rs := [9]) (by kernel_rfl) (by simp) (AllReadyZ.cons rfl (fun K0 hK => ?_) AllReadyZ.nil)
  rw [if_pos (by rfl)]
  (try simp only [gs])
  go_simp
  refine hJ.mono ?_
  clear hJ
  rintro e y3 ⟨v3, d, rfl, ⟨s3, n3⟩, i3, l3, b3⟩
  have HY3 : Hid (RvIn y3 p bv (.slice ad C.length cap) rv mv B C R M ∧ Below w.heap.size w y3 ∧ Has y3 w.heap.size K.k) := ⟨HY2.out.1.called b3, HY2.out.2.1.trans (b3.mono HY2.out.2.1.size), HY2.out.2.2.below b3 HY2.out.2.2.lt⟩
  have hfm : ([(Value.slice ad C.length cap, C), (.slice (some ⟨W0.heap.size, 0, none⟩) 1 1, [goneC K])] : List (Value × List Ch)).flatMap (·.2) = C ++ [goneC K] := by simp
  rw [hfm] at i3 l3
  have HD3 : Hid (JoinIs (C ++ [goneC K]) d ∧ d.length ≤ C.length + 1) := ⟨i3, by simpa using l3⟩
  refine hK.out _ _ (fun _ => ⟨RvC.mk HY3.out.1.blk, range_has HY3.out.2.2⟩) ?_
  clear hK K0 hHeld
  have hHeld : RvC y3 p bv (.slice ad C.length cap) rv mv ∧ y3.rangeAt w.heap.size 0 (bc K.k) := ⟨RvC.mk HY3.out.1.blk, range_has HY3.out.2.2⟩
  (try simp only [gs])
  clear i3 l3 b3 hfm
  have hb3 := HY3.out.1.blk
  have hf3 := frozen_of_row y3 p 1 _ _ hb3
  have hc3 : y3.cell? ⟨p, 1, none⟩ = some (.slice ad C.length cap) := (RvC.mk HY3.out.1.blk).c1
  obtain ⟨ad3, cap3, rfl, -, -, -, -⟩ := id s3
  have HN3 : Hid (NewV w.heap.size (.slice ad3 d.length cap3)) := fun g hg => Nat.le_trans HY2.out.2.1.size (n3 g hg)
  clear n3
  refine wpAnyZ_take (i := 10) (v := ?_) [11, 12] rfl (by kernel_rfl) (by kernel_rfl) (by kernel_rfl) (by kernel_rfl) (fun _ _ _ h => h) (Or.inl ⟨by rfl, ?_⟩) hHeld ?_
  case refine_2 => (intro w hSw; (try dsimp only at hSw); go_simp; try (with_reducible rfl))
  (try simp only [gs])
  refine wpAnyZ_take (i := 11) (v := ?_) [12] rfl (by kernel_rfl) (by kernel_rfl) (by kernel_rfl) (by kernel_rfl) (fun _ _ _ h => h) (Or.inl ⟨by rfl, ?_⟩) hHeld ?_
  case refine_2 => (intro w hSw; (try dsimp only at hSw); go_simp; try (with_reducible rfl))
  (try simp only [gs])
  refine wpAnyZ_ready (rs := [12]) (by kernel_rfl) (by simp) (AllReadyZ.cons rfl (fun K0 hK => ?_) AllReadyZ.nil)
  rw [if_pos (by rfl)]
  (try simp only [gs])
  go_simp
  refine hK.out _ _ (fun q => absurd q (by decide)) ?_
  clear hK K0
  (try simp only [gs])
  refine wpAnyZ_done (by kernel_rfl) ?_ _
  refine NoPanic.normal ?_
  have HF : Hid (RvIn (y3.setCell ⟨p, 1, none⟩ (.slice ad3 d.length cap3)) p bv (.slice ad3 d.length cap3) rv mv B d R M) := by
    refine RvIn.stored HY3.out.1 ?_ (fun g _ hne => heap_setCell_other _ _ _ _ hne) (by simp) s3 HY3.out.1.r HY3.out.1.m HPP.out
    rw [setCell_eq_setRow y3 p 1 _ _ _ _ hb3, setRow_heap y3 p _ _ _ _ hb3]
    rfl
  have HG : Hid (FrV (fun i => i = p) w (y3.setCell ⟨p, 1, none⟩ (.slice ad3 d.length cap3))) :=
    (FrV.of_below (S := fun i => i = p) HY3.out.2.1).trans (S' := fun i => i = p) ⟨⟨rfl, rfl, rfl, by simp, fun k hk => absurd hk (Nat.not_lt_zero k)⟩, fun i _ hn => heap_setCell_other _ _ _ _ hn⟩ (fun i e => .inl e)
  clear hHeld hf3 hc3 hb3
  generalize y3.setCell ⟨p, 1, none⟩ (.slice ad3 d.length cap3) = y4 at *
  go_wp2_with fail
  go_end0
  exact ⟨⟨_, rfl⟩, HG.out, _, d, HF.out, HN3.out, HD3.out⟩
end Go.Proofs.YtbbelhkdpmcoeaaGreat
