import Derived.Test.YtjhdnpplmlddaaaGreatSi
import Derived.Test.YtjhdnpplmlddaaaGreatB39
/- plan of a tree that is a leaf; put and lay of a leaf into a memory. -/
namespace Go.Proofs.YtjhdnpplmlddaaaGreat
set_option linter.unusedVariables false
open Go.RowKit

theorem right_lv0 {X : Nod} (h : rightN X = true) (hl : X.lv = 0) : X.ks = [] ∧ 1 ≤ X.ps.length ∧ X.ps.length ≤ 7 := by
  unfold rightN at h
  rw [if_neg (by omega), if_pos hl] at h
  simp only [okPairs, Bool.and_eq_true, decide_eq_true_eq] at h
  exact ⟨List.eq_nil_of_length_eq_zero h.1, h.2.1.1.1, h.2.1.1.2⟩
set_option maxRecDepth 100000 in
set_option maxHeartbeats 4000000 in
theorem plan_leaf {R : World → Prop} {iv : Value} {g : Int → Nod × Int} (D : GetterN R iv g) (w : World) (adc : Option Addr) (n1 capc : Nat) (root : Int) (X : Nod) (C : List Cq) (hc : Sl encCq w (.slice adc n1 capc) C) (hC : C.length ≤ 10000) (hR : R w) (hrt : root ≠ 0) (hrg : Rng root) (hg : g root = (X, 0)) (hr : rightN X = true) (hlv : X.lv = 0) (hch : chP (X.ps.map toPq) C = true) (hfk : (firstN X).length = 24) :
    Calls Tryz.prog 26 #[iv, .int .i64 root, .slice adc n1 capc] w fun e w' => ∃ v ys, e = .returned (.tuple #[v, .int .i64 ((crownP (leavesP Pq.n (mgP (X.ps.map toPq) C)) 0).2 : Int), .int .i64 0]) ∧ Sl encPv w' v ys ∧ RowIn w' w'.heap.size (crownP (leavesP Pq.n (mgP (X.ps.map toPq) C)) 0).2 (crownP (leavesP Pq.n (mgP (X.ps.map toPq) C)) 0).1 ys ∧ Below w.heap.size w w' := by
  have hread : readP g root (-1) = (X, 0) := by rw [readP, hg, if_pos rfl, if_pos ⟨hr, .inl rfl⟩]
  have HRD := readN_calls D w root (-1) hR hrg
  rw [hread] at HRD
  have hrt' : (root == 0) = false := by simpa using hrt
  obtain ⟨hks, h1, h7⟩ := right_lv0 hr hlv
  have hlen := lv_len C (X.ps.map toPq)
  obtain ⟨MG, hMG⟩ : ∃ MG, MG = mgP (X.ps.map toPq) C := ⟨_, rfl⟩
  rw [← hMG] at hlen ⊢
  have HMG : Hid (mgP (X.ps.map toPq) C = MG) := hMG.symm
  have HL : Hid (MG.length ≤ 100000) := (show _ ≤ _ by simp at hlen; omega)
  have HX : Hid (X.lv = 0 ∧ X.ps.length ≤ 20 ∧ chP (X.ps.map toPq) C = true ∧ (firstN X).length = 24 ∧ C.length ≤ 10000 ∧ Sl encCq w (.slice adc n1 capc) C) := ⟨hlv, by omega, hch, hfk, hC, hc⟩
  clear hc hC hR hrt hrg hg hr hlv hch hfk hread hks h1 h7 hlen hMG
  go_enter Tryz.func26, Tryz.ntmps26
  go_wp2_with fail
  refine HRD.mono ?_
  rintro e w1 ⟨pv, qv, rfl, P1, b1, ⟨nl1, nl2⟩, -, -⟩
  clear HRD
  obtain ⟨ap, np, cp, rfl⟩ : ∃ a n c, pv = .slice a n c := by obtain ⟨a, c, e⟩ := els_form P1.p; exact ⟨_, _, _, e⟩
  obtain ⟨aq, nq, cq, rfl⟩ : ∃ a n c, qv = .slice a n c := by obtain ⟨a, c, e⟩ := els_form P1.q; exact ⟨_, _, _, e⟩
  go_upto_region 8 with (refine store_node rfl _ _ rfl w1.heap.size rfl X (.slice ap np cp) (.slice aq nq cq) rfl rfl rfl nilN (.slice none 0 0) (.slice none 0 0) (HasN.new w1 nilN (.slice none 0 0) (.slice none 0 0) _ rfl rfl rfl) ?_; intro x2 hu2 tx2 sx2)
  have BS := step_below (Below.refl _ w1) _ tx2
  have hB2 : Below w.heap.size w x2 := b1.trans (BS.mono b1.size)
  have HCH := change_leaf x2 iv ap aq adc np cp nq cq n1 capc root X C (P1.below BS) nl1 (HX.out.2.2.2.2.2.called hB2) HX.out.2.2.2.2.1 HX.out.2.1 HX.out.1 HX.out.2.2.1 HX.out.2.2.2.1
  rw [HMG.out] at HCH
  have HU2 : Hid (HasN x2 w1.heap.size X (.slice ap np cp) (.slice aq nq cq) ∧ Below w.heap.size w x2 ∧ w1.heap.size < x2.heap.size) := ⟨hu2, hB2, hu2.lt⟩
  clear hu2 tx2 sx2 BS hB2 P1 b1 nl1 nl2
  generalize w1.heap.size = q1 at *
  go_wp2_with (refine load_node _ rfl q1 rfl rfl _ _ _ HU2.out.1 ?_)
  refine HCH.mono ?_
  rintro e w3 ⟨v3, xs, rfl, hs3, hr3, hb3⟩
  clear HCH
  have HCR := crown_calls w3 v3 xs (leavesP Pq.n MG) 0 hs3 hr3 (by rw [hr3.1]; exact Nat.le_trans (leaves_len MG) HL.out) (by omega)
  obtain ⟨a3, n3, c3, rfl⟩ : ∃ a n c, v3 = .slice a n c := by obtain ⟨a, c, e, _⟩ := hs3; exact ⟨_, _, _, e⟩
  have HB3 : Hid (Below w.heap.size w w3) := HU2.out.2.1.trans (hb3.mono HU2.out.2.1.size)
  have d0 := (HU2.out.1.below hb3 HU2.out.2.2).cells.1
  rw [HX.out.1] at d0
  clear hs3 hr3 hb3
  go_wp2_with fail
  refine HCR.mono ?_
  rintro e w4 ⟨v4, ys, rfl, hs4, hr4, hb4⟩
  clear HCR
  go_wp2
  go_ret3
  exact ⟨v4, ys, rfl, hs4, hr4, HB3.out.trans (hb4.mono HB3.out.size)⟩

/-- A writer over a memory, in a block. -/
def WrM (w : World) (wb p : Nat) (s : Option Addr × Nat × Nat) : Prop := w.heap[wb]? = some (.cells #[.iface 29 (.pointer (some ⟨p, 0, none⟩)), slv s] 82 (0, 0))
theorem WrM.c0 {w : World} {wb p : Nat} {s : Option Addr × Nat × Nat} (h : WrM w wb p s) : w.cell? ⟨wb, 0, none⟩ = some (.iface 29 (.pointer (some ⟨p, 0, none⟩))) ∧ w.cell? ⟨wb, 1, none⟩ = some (.slice s.1 s.2.1 s.2.2) := cells2 h
theorem nod_leaf (l : List Pq) (v : Value) (w : World) (h : SlB encQ w w.heap.size v l) : Parts w ⟨0, l.map toPr, []⟩ v (.slice none 0 0) := ⟨(slB_els h).1, Els.nil w⟩
set_option maxRecDepth 100000 in
set_option maxHeartbeats 4000000 in
theorem put_leaf (w : World) (wb p q b m K0 L : Nat) (S : RfS) (N : Int → Option NV) (s : Option Addr × Nat × Nat) (x : Pv) (l : List Pq) (hm : Mm w p q b m K0 L S N) (hw : WrM w wb p s) (hx : SlB encQ w w.heap.size (slv x.ps) l) (hk : x.ks.2.1 = 0) (hr : rightN ⟨0, l.map toPr, []⟩ = true) (hK : K0 ≤ 1000000) (hL : L ≤ 1000000) (hnx : I64 S.next) (htk : S.took = true) (hwb : wb ≠ q ∧ wb ≠ b ∧ wb ≠ m) :
    Calls Tryz.prog 54 #[.pointer (some ⟨wb, 0, none⟩), .agg (encPv.c x).toArray, .int .i64 0] w fun e w' => e = .returned (.tuple #[.int .i64 S.next, .int .i64 0]) ∧ FrM q b m w w' ∧ ∃ tp tq, Mm w' p q b m (K0 + 1) (L + 1) S.take (putN N S.next (⟨0, l.map toPr, []⟩, tp, tq)) := by
  obtain ⟨XK, hXK, XB, ⟨ap, np, cp⟩, ⟨ak, nk, ck⟩⟩ := x
  simp only [slv] at hx hk
  subst hk
  have hI : InB encPv 85 (w.alloc (.cells (encPv.c ⟨XK, hXK, XB, (ap, np, cp), (ak, 0, ck)⟩).toArray 85)) w.heap.size ⟨XK, hXK, XB, (ap, np, cp), (ak, 0, ck)⟩ := InB.new _ _ _ _ _ rfl
  have hB : Below w.heap.size w (w.alloc (.cells (encPv.c ⟨XK, hXK, XB, (ap, np, cp), (ak, 0, ck)⟩).toArray 85)) := (Below.refl _ w).alloc (Nat.le_refl _) _
  have HH : Hid (InB encPv 85 (w.alloc (.cells (encPv.c ⟨XK, hXK, XB, (ap, np, cp), (ak, 0, ck)⟩).toArray 85)) w.heap.size ⟨XK, hXK, XB, (ap, np, cp), (ak, 0, ck)⟩ ∧ Below w.heap.size w (w.alloc (.cells (encPv.c ⟨XK, hXK, XB, (ap, np, cp), (ak, 0, ck)⟩).toArray 85))) := ⟨hI, hB⟩
  have H0 : Hid (Mm w p q b m K0 L S N ∧ WrM w wb p s ∧ SlB encQ w w.heap.size (.slice ap np cp) l ∧ rightN ⟨0, l.map toPr, []⟩ = true ∧ K0 ≤ 1000000 ∧ L ≤ 1000000 ∧ I64 S.next ∧ S.took = true ∧ (wb ≠ q ∧ wb ≠ b ∧ wb ≠ m)) := ⟨hm, hw, hx, hr, hK, hL, hnx, htk, hwb⟩
  clear hm hw hx hr hK hL hnx htk hI hB hwb
  go_enter Tryz.func54, Tryz.ntmps54
  go_upto_region 1 with fail
  change Code.wp _ _ _ _ (w.alloc (.cells (encPv.c ⟨XK, hXK, XB, (ap, np, cp), (ak, 0, ck)⟩).toArray 85))
  generalize w.alloc (.cells (encPv.c ⟨XK, hXK, XB, (ap, np, cp), (ak, 0, ck)⟩).toArray 85) = W at *
  obtain ⟨c24, c25, c26⟩ := range_vV HH.out.1.range
  simp only [Nat.zero_add, slv] at c24 c25 c26
  generalize hq : w.heap.size = q0 at *
  have HQ : Hid (w.heap.size = q0) := hq
  clear hq
  go_wp2_with (refine store_node rfl _ _ rfl W.heap.size rfl ⟨0, l.map toPr, []⟩ (.slice ap np cp) (.slice none 0 0) rfl rfl rfl nilN (.slice none 0 0) (.slice none 0 0) (HasN.new W nilN (.slice none 0 0) (.slice none 0 0) _ rfl rfl rfl) ?_; intro x2 hu2 tx2 sx2; have c26b : x2.cell? ⟨q0, 26, none⟩ = some (.slice ak 0 ck) := (by
    have h1 := (HH.out.1.below (step_below (Below.refl _ W) _ tx2) HH.out.1.lt).range
    have h2 := (range_vV h1).2.2
    simpa [slv] using h2))
  have BS := step_below (Below.refl _ W) _ tx2
  have hB2 : Below q0 w x2 := HH.out.2.trans (BS.mono (by have := HH.out.1.lt; omega))
  have H2 : Hid (Mm x2 p q b m K0 L S N ∧ WrM x2 wb p s ∧ SlB encQ x2 x2.heap.size (.slice ap np cp) l ∧ HasN x2 W.heap.size ⟨0, l.map toPr, []⟩ (.slice ap np cp) (.slice none 0 0) ∧ Below q0 w x2 ∧ q0 < W.heap.size) := (by
    refine ⟨H0.out.1.below hB2 (by rw [HQ.out]; exact Nat.le_refl _), (hB2.block wb (by have := lt_of_block H0.out.2.1; rw [HQ.out] at this; exact this)).trans H0.out.2.1, H0.out.2.2.1.kept hB2.block (by have := hB2.size; rw [HQ.out] at this; exact this), hu2, hB2, HH.out.1.lt⟩)
  have HML : Hid (q < w.heap.size ∧ b < w.heap.size ∧ m < w.heap.size) := ⟨H0.out.1.lt.2.1, H0.out.1.lt.2.2.1, H0.out.1.lt.2.2.2⟩
  clear hu2 tx2 sx2 BS hB2 HH c24 c25 c26 c26b
  generalize W.heap.size = nb at *
  go_loopg [20] 0 (fun gg v20 wr => v20 = .int .i64 0 ∧ wr = x2)
  case atStart => exact ⟨rfl, rfl⟩
  case round =>
    obtain ⟨rfl, hwr⟩ := hrel
    rw [hwr]
    clear hwr
    have HMt : Hid (Meth (.iface 29 (.pointer (some ⟨p, 0, none⟩))) "Put" 119 (.pointer (some ⟨p, 0, none⟩))) := mem_methP p
    have HC : Hid (∀ y, Below x2.heap.size x2 y → Calls Tryz.prog 119 (#[.pointer (some ⟨p, 0, none⟩)] ++ #[nv ⟨0, l.map toPr, []⟩ (.slice ap np cp) (.slice none 0 0)]) y (PutTo y p q b m K0 L S N ⟨0, l.map toPr, []⟩)) := fun y hy => by
      have h1 := H2.out.2.2.1.kept hy.block hy.size
      have hmm := H2.out.1.below hy (Nat.le_refl _)
      exact mput_calls y p q b m K0 L S N _ _ _ hmm (nod_leaf l _ y h1) ⟨(slB_els h1).2, nilOk0⟩ H0.out.2.2.2.2.1 H0.out.2.2.2.2.2.1 H0.out.2.2.2.2.2.2.1 ⟨slB_apart h1 hmm, Lim.nil _ _ _⟩
    go_upto_region 10 with fail
    refine wp_region_noPanic ?_
    refine wp_region_held_drew (S := (fun y => WrM y wb p s ∧ HasN y nb ⟨0, l.map toPr, []⟩ (.slice ap np cp) (.slice none 0 0))) (by kernel_rfl) ⟨H2.out.2.1, H2.out.2.2.2.1⟩ (fun hHeld => ?_)
    refine wpAnyH_take (i := 0) (v := ?_) rfl (by kernel_rfl) (by kernel_rfl) (by kernel_rfl) (fun _ _ _ h => h) (Or.inl ⟨by rfl, ?_⟩) hHeld ?_
    case refine_2 => (intro w hSw; (try dsimp only at hSw); go_simp; try (with_reducible rfl))
    (try simp only [gs])
    refine wpAnyH_take (i := 1) (v := ?_) rfl (by kernel_rfl) (by kernel_rfl) (by kernel_rfl) (fun _ _ _ h => h) (Or.inl ⟨by rfl, ?_⟩) hHeld ?_
    case refine_2 => (intro w hSw; (try dsimp only at hSw); go_simp; try (with_reducible rfl))
    (try simp only [gs])
    refine wpAnyH_take (i := 2) (v := ?_) rfl (by kernel_rfl) (by kernel_rfl) (by kernel_rfl) (fun _ _ _ h => h) (Or.inl ⟨by rfl, ?_⟩) hHeld ?_
    case refine_2 => (intro w hSw; (try dsimp only at hSw); go_simp; try (with_reducible rfl))
    (try simp only [gs])
    refine wpAnyH_take (i := 3) (v := ?_) rfl (by kernel_rfl) (by kernel_rfl) (by kernel_rfl) (fun _ _ _ h => h) (Or.inl ⟨by rfl, ?_⟩) hHeld ?_
    case refine_2 => (intro w hSw; (try dsimp only at hSw); have cw := hSw.1.c0.1; go_simp; try (with_reducible rfl))
    (try simp only [gs])
    refine wpAnyH_take (i := 4) rfl (by kernel_rfl) (by kernel_rfl) (by kernel_rfl) (fun _ _ _ h => h) (yieldsIf_load_mid (by rfl) _ _ rfl _ _ rfl [.int .i64 0, .slice ap np cp, .slice none 0 0] _ (fun _ h => (fun j v hv => by rw [Nat.zero_add, cell_of_row _ nb j _ _ _ h.2.1]; simpa using hv)) Tryz.underlying60 rfl Tryz.node_info) hHeld ?_
    (try simp only [gs])
    refine wpAnyH_ready (rs := [5]) (by kernel_rfl) (by simp) (AllReadyH.cons rfl (fun K hK => ?_) AllReadyH.nil)
    rw [if_pos (by rfl)]
    (try simp only [gs])
    refine wp_invoke (.tmp 48) "Put" #[.tmp 49] _ rfl (.iface 29 (.pointer (some ⟨p, 0, none⟩))) _ _ rfl HMt.out #[nv ⟨0, l.map toPr, []⟩ (.slice ap np cp) (.slice none 0 0)] (by simp only [List.map_toArray, List.map_cons, List.map_nil]; rfl) (HC.out x2.drew ⟨rfl, rfl, rfl, Nat.le_refl _, fun _ _ => rfl⟩) ?_
    rintro e y1 ⟨hf, ⟨h1, -⟩ | ⟨-, h1, -⟩ | ⟨-, -, rfl, tp, tq, hmm⟩⟩
    · rw [H0.out.2.2.2.1] at h1; cases h1
    · rw [H0.out.2.2.2.2.2.2.2.1] at h1; cases h1
    refine ⟨_, rfl, ?_⟩
    have HFin : Hid (FrM q b m x2 y1 ∧ Mm y1 p q b m (K0 + 1) (L + 1) S.take (putN N S.next (⟨0, l.map toPr, []⟩, tp, tq))) := ⟨⟨hf.os, hf.tape, hf.output, hf.size, hf.block⟩, hmm⟩
    refine hK.out _ _ ⟨(hf.block wb (lt_of_block H2.out.2.1) H0.out.2.2.2.2.2.2.2.2.1 H0.out.2.2.2.2.2.2.2.2.2.1 H0.out.2.2.2.2.2.2.2.2.2.2).trans H2.out.2.1, ⟨(hf.block nb H2.out.2.2.2.1.lt (by have := HML.out; have := H2.out.2.2.2.2.2; have := HQ.out; omega) (by have := HML.out; have := H2.out.2.2.2.2.2; have := HQ.out; omega) (by have := HML.out; have := H2.out.2.2.2.2.2; have := HQ.out; omega)).trans H2.out.2.2.2.1.1, rfl, rfl⟩⟩ (fun h5 => ?_)
    clear hK K
    (try simp only [gs])
    refine wpAnyH_take (i := 6) (v := ?_) rfl (by kernel_rfl) (by kernel_rfl) (by kernel_rfl) (fun _ _ _ h => h) (Or.inl ⟨by rfl, ?_⟩) h5 ?_
    case refine_2 => (intro w hSw; (try dsimp only at hSw); go_simp; try (with_reducible rfl))
    (try simp only [gs])
    refine wpAnyH_take (i := 7) (v := ?_) rfl (by kernel_rfl) (by kernel_rfl) (by kernel_rfl) (fun _ _ _ h => h) (Or.inl ⟨by rfl, ?_⟩) h5 ?_
    case refine_2 => (intro w hSw; (try dsimp only at hSw); go_simp; try (with_reducible rfl))
    (try simp only [gs])
    refine wpAnyH_take (i := 8) (v := ?_) rfl (by kernel_rfl) (by kernel_rfl) (by kernel_rfl) (fun _ _ _ h => h) (Or.inl ⟨by rfl, ?_⟩) h5 ?_
    case refine_2 => (intro w hSw; (try dsimp only at hSw); go_simp; try (with_reducible rfl))
    (try simp only [gs])
    refine wpAnyH_take (i := 9) (v := ?_) rfl (by kernel_rfl) (by kernel_rfl) (by kernel_rfl) (fun _ _ _ h => h) (Or.inl ⟨by rfl, ?_⟩) h5 ?_
    case refine_2 => (intro w hSw; (try dsimp only at hSw); go_simp; try (with_reducible rfl))
    (try simp only [gs])
    refine wpAnyH_done (by kernel_rfl) ?_ _
    refine NoPanic.normal ?_
    go_wp2_with fail
    go_ret2
    refine ⟨rfl, ?_, _, _, HFin.out.2⟩
    have h3 := H2.out.2.2.2.2.1
    refine ⟨HFin.out.1.os.trans h3.os, HFin.out.1.tape.trans h3.tape, HFin.out.1.output.trans h3.output, Nat.le_trans h3.size HFin.out.1.size, fun k hk h5 h6 h7 => (HFin.out.1.block k (by have := h3.size; omega) h5 h6 h7).trans (h3.block k (by rw [← HQ.out]; exact hk))⟩
end Go.Proofs.YtjhdnpplmlddaaaGreat
/- lay of a leaf; Apply of one change to no tree, and to a leaf of which nothing is left. -/
namespace Go.Proofs.YtjhdnpplmlddaaaGreat
set_option linter.unusedVariables false
open Go.RowKit

def encN : Enc Int 1 := ⟨fun n => [.int .i64 n], fun _ => rfl, fun x v hv => by rw [List.mem_singleton] at hv; subst hv; rfl⟩
theorem rowN : RowTy Tryz.prog encN 23 3 8 := ⟨Tryz.underlying23, ⟨.int .i64 0, by kernel_rfl, rfl⟩, by decide⟩
/-- Besides a memory's blocks one more has turned. -/
structure FrW (q b m wb : Nat) (w w' : World) : Prop where
  os : w'.os = w.os
  tape : w'.tape = w.tape
  output : w'.output = w.output
  size : w.heap.size ≤ w'.heap.size
  block : ∀ k, k < w.heap.size → k ≠ q → k ≠ b → k ≠ m → k ≠ wb → w'.heap[k]? = w.heap[k]?
theorem WrM.set {w : World} {wb p : Nat} {s : Option Addr × Nat × Nat} (h : WrM w wb p s) (t : Option Addr × Nat × Nat) : WrM (w.setCell ⟨wb, 1, none⟩ (slv t)) wb p t := by
  unfold WrM
  rw [setCell_eq_setRow w wb 1 _ _ _ _ h, setRow_heap w wb _ _ _ _ h]
  rfl
theorem els_small {y : World} {sv : Value} {l : List El} {r : Option Nat} {b : Nat} {p : Nat} {s : Option Addr × Nat × Nat} (h : ElsIn y sv l r) (hz : WrM y b p s) : ElsIn y sv l (if l = [] then none else r) ∧ ∀ k, (if l = [] then none else r) = some k → k ≠ b := by
  obtain ⟨ad, cap, h1, h2, h3, ho, hc⟩ := h
  by_cases hl : l = []
  · rw [if_pos hl]
    exact ⟨⟨ad, cap, h1, h2, h3, ho, .inl hl⟩, fun k hk => by cases hk⟩
  · rw [if_neg hl]
    refine ⟨⟨ad, cap, h1, h2, h3, ho, hc⟩, fun k hk e => ?_⟩
    subst e
    rcases hc with hc | ⟨g, off, e1, e2, e3, e4⟩
    · exact hl hc
    · rw [hk] at e2
      cases e2
      have h0 : 0 < l.length := List.length_pos_iff.2 hl
      have := e4 0 h0 24 (l[0]).v (by have hlen := (ho 0 h0).len; rw [ec, List.getElem?_append_right (by rw [bc_length, hlen]; exact Nat.le_refl _), bc_length, hlen]; rfl)
      rw [cell_of_row y k _ _ _ _ hz] at this
      simp at this
theorem Els.touchW {y z : World} {sv : Value} {l : List El} {b : Nat} {p : Nat} {s : Option Addr × Nat × Nat} (h : Els y sv l) (hz : WrM y b p s) (t : Touch b none y z) : Els z sv l := by
  obtain ⟨r, h1, h2⟩ := h
  obtain ⟨h3, h4⟩ := els_small h1 hz
  have h5 : ∀ k, (if l = [] then none else r) = some k → k < y.heap.size := fun k hk => by
    split at hk
    · cases hk
    · exact h2 k hk
  exact ⟨_, h3.kept fun k hk => t.block k (h5 k hk) (h4 k hk) (by simp), fun k hk => Nat.lt_of_lt_of_le (h5 k hk) t.size⟩
theorem Mm.touchW {y z : World} {p q b m K L : Nat} {S : RfS} {N : Int → Option NV} (h : Mm y p q b m K L S N) {wb : Nat} {s : Option Addr × Nat × Nat} (hz : WrM y wb p s) (t : Touch wb none y z) (hn : wb ≠ p ∧ wb ≠ q ∧ wb ≠ b ∧ wb ≠ m) : Mm z p q b m K L S N := by
  have hl := h.lt
  have hk : ∀ k, k < y.heap.size → k ≠ wb → z.heap[k]? = y.heap[k]? := fun k h1 h2 => t.block k h1 h2 (by simp)
  exact ⟨(hk p hl.1 (Ne.symm hn.1)).trans h.blk, h.rf.kept (hk q hl.2.1 (Ne.symm hn.2.1)) (hk b hl.2.2.1 (Ne.symm hn.2.2.1)), h.mp.kept (hk m hl.2.2.2 (Ne.symm hn.2.2.2)), fun n x hx => ⟨⟨(h.pt n x hx).1.p.touchW hz t, (h.pt n x hx).1.q.touchW hz t⟩, (h.pt n x hx).2⟩, h.ap⟩
set_option maxRecDepth 100000 in
set_option maxHeartbeats 4000000 in
theorem lay_leaf (w : World) (wb p q b m K0 L : Nat) (S : RfS) (N : Int → Option NV) (x : Pv) (l : List Pq) (hm : Mm w p q b m K0 L S N) (hw : WrM w wb p nil3) (hx : SlB encQ w w.heap.size (slv x.ps) l) (hk : x.ks.2.1 = 0) (hb : x.b = 0) (hr : rightN ⟨0, l.map toPr, []⟩ = true) (hK : K0 ≤ 1000000) (hL : L ≤ 1000000) (hnx : I64 S.next) (htk : S.took = true) (hwb : wb ≠ p ∧ wb ≠ q ∧ wb ≠ b ∧ wb ≠ m) :
    Calls Tryz.prog 28 #[.pointer (some ⟨wb, 0, none⟩), .agg (encPv.c x).toArray, .int .i64 0] w fun e w' => e = .returned (.tuple #[.int .i64 S.next, .int .i64 0]) ∧ FrW q b m wb w w' ∧ ∃ tp tq, Mm w' p q b m (K0 + 1) (L + 1) S.take (putN N S.next (⟨0, l.map toPr, []⟩, tp, tq)) := by
  have hI : InB encPv 85 (w.alloc (.cells (encPv.c x).toArray 85)) w.heap.size x := InB.new _ _ _ _ _ rfl
  have hB : Below w.heap.size w (w.alloc (.cells (encPv.c x).toArray 85)) := (Below.refl _ w).alloc (Nat.le_refl _) _
  have HP := put_leaf (w.alloc (.cells (encPv.c x).toArray 85)) wb p q b m K0 L S N nil3 x l (hm.below hB (Nat.le_refl _)) ((hB.block wb (lt_of_block hw)).trans hw) (hx.kept hB.block hB.size) hk hr hK hL hnx htk hwb.2
  have HH : Hid (InB encPv 85 (w.alloc (.cells (encPv.c x).toArray 85)) w.heap.size x ∧ Below w.heap.size w (w.alloc (.cells (encPv.c x).toArray 85)) ∧ WrM (w.alloc (.cells (encPv.c x).toArray 85)) wb p nil3 ∧ wb < w.heap.size) := ⟨hI, hB, (hB.block wb (lt_of_block hw)).trans hw, lt_of_block hw⟩
  have HWB : Hid (wb ≠ q ∧ wb ≠ b ∧ wb ≠ m) := hwb.2
  have HWP : Hid (wb ≠ p) := hwb.1
  have c24 := (range_vV hI.range).1
  rw [Nat.zero_add, hb] at c24
  clear hm hw hx hk hb hr hK hL htk hI hB hwb hnx
  go_enter Tryz.func28, Tryz.ntmps28
  go_upto_region 1 with fail
  change Code.wp _ _ _ _ (w.alloc (.cells (encPv.c x).toArray 85))
  generalize w.alloc (.cells (encPv.c x).toArray 85) = W at *
  go_wp2_with (refine load_el elPv _ rfl w.heap.size 0 rfl rfl x HH.out.1.range ?_)
  refine HP.mono ?_
  rintro e w1 ⟨rfl, hf1, tp, tq, hm1⟩
  clear HP c24
  have hW1 : WrM w1 wb p nil3 := (hf1.block wb (lt_of_block HH.out.2.2.1) HWB.out.1 HWB.out.2.1 HWB.out.2.2).trans HH.out.2.2.1
  obtain ⟨c0, c1⟩ := hW1.c0
  simp only [nil3] at c1
  have f1 : w1.frozen? ⟨wb, 1, none⟩ = false := by
    have h1 : w1.heap[wb]? = _ := hW1
    simp [World.frozen?, h1]
  have H1 : Hid (FrM q b m W w1 ∧ Mm w1 p q b m (K0 + 1) (L + 1) S.take (putN N S.next (⟨0, l.map toPr, []⟩, tp, tq)) ∧ WrM w1 wb p nil3) := ⟨hf1, hm1, hW1⟩
  have hwlt : wb < w1.heap.size := lt_of_block hW1
  clear hf1 hm1 hW1
  obtain ⟨SN, hSN⟩ : ∃ SN, SN = S.next := ⟨_, rfl⟩
  have HSN : Hid (SN = S.next) := hSN
  rw [← hSN]
  clear hSN
  go_wp2_with (first
    | (refine build_c1 rowN rfl _ rfl SN _ rfl rfl ?_; intro x5 o5 b5 s5; clear s5; have HL5 : Hid (SlB encN x5 x5.heap.size (.slice (some ⟨w1.heap.size, 0, none⟩) 1 1) [SN]) := o5.slB; have HB5 : Hid (Below w1.heap.size w1 x5) := b5; clear o5 b5)
    | (at_builtin; refine append_sl rowN rfl _ _ rfl w1.heap.size (.slice none 0 0) [] [SN] rfl (Own.nil _ _ _ _) (.slice (some ⟨w1.heap.size, 0, none⟩) 1 1) rfl x5.heap.size HL5.out (by simp) (by decide) HB5.out.size ?_; intro v6 x6 ho6 gr6; obtain ⟨a6, c6, rfl⟩ := ho6.form; have c1b : x6.cell? ⟨wb, 1, none⟩ = some (.slice none 0 0) := (by
        have h1 : WrM x6 wb p nil3 := (gr6.block wb (by have := HB5.out.size; omega) (by simp [Value.ownBlock])).trans ((HB5.out.block wb hwlt).trans H1.out.2.2)
        exact h1.c0.2); have f1b : x6.frozen? ⟨wb, 1, none⟩ = false := (by
        have h1 : WrM x6 wb p nil3 := (gr6.block wb (by have := HB5.out.size; omega) (by simp [Value.ownBlock])).trans ((HB5.out.block wb hwlt).trans H1.out.2.2)
        have h2 : x6.heap[wb]? = _ := h1
        simp [World.frozen?, h2])))
  go_ret2
  have hW6 : WrM x6 wb p nil3 := (gr6.block wb (by have := HB5.out.size; omega) (by simp [Value.ownBlock])).trans ((HB5.out.block wb hwlt).trans H1.out.2.2)
  have hB6 : Below w1.heap.size w1 x6 := HB5.out.grown gr6 HB5.out.size (fun k hk => by cases hk)
  have hm6 := (H1.out.2.1.below hB6 (Nat.le_refl _)).touchW hW6 ((Touch.refl wb none x6).setCell 1 (Value.slice a6 1 c6)) ⟨HWP.out, HWB.out⟩
  rw [← HSN.out]
  rw [← HSN.out] at hm6
  refine ⟨rfl, ?_, tp, tq, hm6⟩
  have hf := H1.out.1
  have hw := HH.out.2.1
  refine ⟨hB6.os.trans (hf.os.trans hw.os), hB6.tape.trans (hf.tape.trans hw.tape), hB6.output.trans (hf.output.trans hw.output), ?_, fun k hk h1 h2 h3 h4 => ?_⟩
  · have := hB6.size
    have := hf.size
    have := hw.size
    simp
    omega
  · rw [Below.heap_setCell _ _ _ _ (by simpa using h4), hB6.block k (by have := hf.size; have := hw.size; omega), hf.block k (by have := hw.size; omega) h1 h2 h3]
    exact hw.block k hk
end Go.Proofs.YtjhdnpplmlddaaaGreat
/- Apply of one change to no tree, and to a leaf of which nothing is left. -/
namespace Go.Proofs.YtjhdnpplmlddaaaGreat
set_option linter.unusedVariables false
open Go.RowKit

/-- What Apply has planned, of one change: a row of at most one piece, of level 0. -/
def PlTo (w : World) (row : List (Pc Pq)) (e : Ending) (w' : World) : Prop := ∃ v ys, e = .returned (.tuple #[v, .int .i64 0, .int .i64 0]) ∧ Sl encPv w' v ys ∧ RowIn w' w'.heap.size 0 row ys ∧ Below w.heap.size w w'
set_option maxRecDepth 100000 in
set_option maxHeartbeats 4000000 in
theorem apply_none (w : World) (rv : Value) (T : TypeId) (root : Int) (ad : Addr) (cap : Nat) (c : Cq) (hc : Sl encCq w (.slice (some ad) 1 cap) [c]) (hlong : longC c = false)
    (hpl : ∀ w1 v, Below w.heap.size w w1 → Sl encCq w1 v [c] → Calls Tryz.prog 26 #[.iface T rv, .int .i64 root, v] w1 (PlTo w1 [])) :
    Calls Tryz.prog 9 #[.iface T rv, .int .i64 root, .slice (some ad) 1 cap] w fun e w' => e = .returned (.tuple #[.int .i64 0, .int .i64 0]) ∧ Below w.heap.size w w' := by
  have HC := containsC_calls w (.slice (some ad) 1 cap) [c] hc (by simp)
  have hany : anyC [c] = false := by simp [anyC, hlong]
  rw [hany] at HC
  have HSL : Hid (Sl encCq w (.slice (some ad) 1 cap) [c]) := hc
  have HPL : Hid (∀ w1 v, Below w.heap.size w w1 → Sl encCq w1 v [c] → Calls Tryz.prog 26 #[.iface T rv, .int .i64 root, v] w1 (PlTo w1 [])) := hpl
  clear hc hlong hany hpl
  go_enter Tryz.func9, Tryz.ntmps9
  go_wp2_with fail
  refine HC.mono ?_
  rintro e w1 ⟨rfl, b1⟩
  clear HC
  have HB1 : Hid (Below w.heap.size w w1) := b1
  clear b1
  go_wp2_with fail
  refine (given_calls w1 T rv).mono ?_
  rintro e w2 ⟨rfl, hw⟩
  rw [hw]
  clear hw
  have HS := settle1_calls w1 ad cap c (HSL.out.called HB1.out)
  go_wp2_with fail
  refine HS.mono ?_
  rintro e w3 ⟨v3, rfl, ho3, hb3⟩
  clear HS
  have HB3 : Hid (Below w.heap.size w w3) := HB1.out.trans (hb3.mono HB1.out.size)
  have HP := HPL.out w3 v3 HB3.out ho3.slB
  obtain ⟨a3, c3, rfl⟩ := ho3.form
  clear ho3 hb3
  simp only [List.length_singleton] at HP ⊢
  go_wp2_with fail
  refine HP.mono ?_
  rintro e w4 ⟨v4, ys, rfl, hs4, hr4, hb4⟩
  clear HP
  have hys : ys = [] := List.eq_nil_of_length_eq_zero hr4.1
  obtain ⟨a4, c4, rfl⟩ : ∃ a c, v4 = .slice a 0 c := by obtain ⟨a, c, e, _⟩ := hs4; rw [hys] at e; exact ⟨a, c, e⟩
  have HB4 : Hid (Below w.heap.size w w4) := HB3.out.trans (hb4.mono HB3.out.size)
  clear hs4 hr4 hb4 hys
  go_wp2
  go_ret2
  exact ⟨rfl, HB4.out⟩
set_option maxRecDepth 100000 in
set_option maxHeartbeats 4000000 in
theorem apply_one (w : World) (p q b m K0 L : Nat) (S : RfS) (N : Int → Option NV) (root f : Int) (ad : Addr) (cap : Nat) (c : Cq) (l : List Pq) (hc : Sl encCq w (.slice (some ad) 1 cap) [c]) (hlong : longC c = false)
    (hm : Mm w p q b m K0 L S N) (hr : rightN ⟨0, l.map toPr, []⟩ = true) (hK : K0 ≤ 1000000) (hL : L ≤ 1000000) (hnx : I64 S.next) (htk : S.took = true)
    (hpl : ∀ w1 v, Below w.heap.size w w1 → Sl encCq w1 v [c] → Calls Tryz.prog 26 #[.iface 29 (.pointer (some ⟨p, 0, none⟩)), .int .i64 root, v] w1 (PlTo w1 [.leaf f l])) :
    Calls Tryz.prog 9 #[.iface 29 (.pointer (some ⟨p, 0, none⟩)), .int .i64 root, .slice (some ad) 1 cap] w fun e w' => e = .returned (.tuple #[.int .i64 S.next, .int .i64 0]) ∧ FrM q b m w w' ∧ ∃ tp tq, Mm w' p q b m (K0 + 1) (L + 1) S.take (putN N S.next (⟨0, l.map toPr, []⟩, tp, tq)) := by
  have HC := containsC_calls w (.slice (some ad) 1 cap) [c] hc (by simp)
  have hany : anyC [c] = false := by simp [anyC, hlong]
  rw [hany] at HC
  have H0 : Hid (Sl encCq w (.slice (some ad) 1 cap) [c] ∧ Mm w p q b m K0 L S N ∧ rightN ⟨0, l.map toPr, []⟩ = true ∧ K0 ≤ 1000000 ∧ L ≤ 1000000 ∧ I64 S.next ∧ S.took = true) := ⟨hc, hm, hr, hK, hL, hnx, htk⟩
  have HPL : Hid (∀ w1 v, Below w.heap.size w w1 → Sl encCq w1 v [c] → Calls Tryz.prog 26 #[.iface 29 (.pointer (some ⟨p, 0, none⟩)), .int .i64 root, v] w1 (PlTo w1 [.leaf f l])) := hpl
  clear hc hlong hany hpl hm hr hK hL hnx htk
  go_enter Tryz.func9, Tryz.ntmps9
  go_wp2_with fail
  refine HC.mono ?_
  rintro e w1 ⟨rfl, b1⟩
  clear HC
  have HB1 : Hid (Below w.heap.size w w1) := b1
  clear b1
  go_wp2_with fail
  refine (given_calls w1 _ _).mono ?_
  rintro e w2 ⟨rfl, hw⟩
  rw [hw]
  clear hw
  have HS := settle1_calls w1 ad cap c (H0.out.1.called HB1.out)
  go_wp2_with fail
  refine HS.mono ?_
  rintro e w3 ⟨v3, rfl, ho3, hb3⟩
  clear HS
  have HB3 : Hid (Below w.heap.size w w3) := HB1.out.trans (hb3.mono HB1.out.size)
  have HP := HPL.out w3 v3 HB3.out ho3.slB
  obtain ⟨a3, c3, rfl⟩ := ho3.form
  clear ho3 hb3
  simp only [List.length_singleton] at HP ⊢
  go_wp2_with fail
  refine HP.mono ?_
  rintro e w4 ⟨v4, ys, rfl, hs4, hr4, hb4⟩
  clear HP
  obtain ⟨x, rfl⟩ : ∃ x, ys = [x] := by
    match ys, hr4.1 with
    | [x], _ => exact ⟨x, rfl⟩
  obtain ⟨a4, c4, rfl⟩ : ∃ a c, v4 = .slice a 1 c := by obtain ⟨a, c, e, _⟩ := hs4; exact ⟨a, c, e⟩
  obtain ⟨g4, off4, rfl, hg4, hat4⟩ := SlB.at hs4 0 (by simp)
  rw [Nat.zero_mul, Nat.add_zero, List.getElem_cons_zero] at hat4
  have hpc : PcIn w4 w4.heap.size 0 (.leaf f l) x := hr4.2 0 (by simp) (by simp)
  have HB4 : Hid (Below w.heap.size w w4 ∧ w4.rangeAt g4 off4 (encPv.c x) ∧ g4 < w4.heap.size ∧ PcIn w4 w4.heap.size 0 (.leaf f l) x) := ⟨HB3.out.trans (hb4.mono HB3.out.size), hat4, hg4, hpc⟩
  clear hs4 hr4 hb4 hat4 hg4 hpc
  go_upto_region 12 with fail
  have hw5 : WrM (w4.alloc (.cells #[.iface 29 (.pointer (some ⟨p, 0, none⟩)), .slice none 0 0] 82)) w4.heap.size p nil3 := heap_alloc_new _ _
  have hb5 : Below w4.heap.size w4 (w4.alloc (.cells #[.iface 29 (.pointer (some ⟨p, 0, none⟩)), .slice none 0 0] 82)) := (Below.refl _ _).alloc (Nat.le_refl _) _
  have hB5 : Below w.heap.size w (w4.alloc (.cells #[.iface 29 (.pointer (some ⟨p, 0, none⟩)), .slice none 0 0] 82)) := HB4.out.1.trans (hb5.mono HB4.out.1.size)
  have hm5 := H0.out.2.1.below hB5 (Nat.le_refl _)
  have hpc5 : PcIn (w4.alloc (.cells #[.iface 29 (.pointer (some ⟨p, 0, none⟩)), .slice none 0 0] 82)) (w4.alloc (.cells #[.iface 29 (.pointer (some ⟨p, 0, none⟩)), .slice none 0 0] 82)).heap.size 0 (.leaf f l) x := pcIn_kept hb5.block hb5.size 0 _ _ HB4.out.2.2.2
  have hml := H0.out.2.1.lt
  have hs4 := HB4.out.1.size
  have HLY := lay_leaf _ w4.heap.size p q b m K0 L S N x l hm5 hw5 hpc5.2.2.1 (by obtain ⟨_, _, e, _⟩ := hpc5.2.2.2; injection e) hpc5.2.1 H0.out.2.2.1 H0.out.2.2.2.1 H0.out.2.2.2.2.1 H0.out.2.2.2.2.2.1 H0.out.2.2.2.2.2.2 (by omega)
  have H5 : Hid (Below w.heap.size w (w4.alloc (.cells #[.iface 29 (.pointer (some ⟨p, 0, none⟩)), .slice none 0 0] 82)) ∧ (w4.alloc (.cells #[.iface 29 (.pointer (some ⟨p, 0, none⟩)), .slice none 0 0] 82)).rangeAt g4 off4 (encPv.c x) ∧ w.heap.size ≤ w4.heap.size) := ⟨hB5, range_same' HB4.out.2.1 (hb5.block g4 HB4.out.2.2.1), hs4⟩
  clear hw5 hb5 hB5 hm5 hpc5 hml hs4
  generalize w4.alloc (.cells #[.iface 29 (.pointer (some ⟨p, 0, none⟩)), .slice none 0 0] 82) = w5 at *
  generalize w4.heap.size = wb at *
  go_wp2_with (refine load_el elPv _ rfl g4 off4 rfl rfl x H5.out.2.1 ?_)
  refine HLY.mono ?_
  rintro e w6 ⟨rfl, hf6, tp, tq, hm6⟩
  clear HLY
  go_wp2
  go_ret2
  refine ⟨rfl, ?_, tp, tq, hm6⟩
  have h1 := H5.out.1
  exact ⟨hf6.os.trans h1.os, hf6.tape.trans h1.tape, hf6.output.trans h1.output, Nat.le_trans h1.size hf6.size, fun k hk e1 e2 e3 => (hf6.block k (by have := h1.size; omega) e1 e2 e3 (by have := H5.out.2.2; omega)).trans (h1.block k hk)⟩
end Go.Proofs.YtjhdnpplmlddaaaGreat
/- shown() of layer 7: what is plain in it. -/
namespace Go.Proofs.YtjhdnpplmlddaaaGreat
set_option linter.unusedVariables false
open Go.RowKit

def K7 : List UInt8 := 7 :: zs 23
def C71 : Cq := ⟨K7, rfl, ⟨#[49]⟩, false⟩
def C72 : Cq := ⟨K7, rfl, ByteArray.empty, true⟩
def Q7 : Pq := ⟨K7, rfl, ⟨#[49]⟩⟩
def X7 : Nod := ⟨0, [⟨K7, ⟨#[49]⟩⟩], []⟩
def F7 : Int := (num K7 : Int)
def S70 : RfS := RfS.new 102
def N7 (tp tq : Value) : Int → Option NV := putN (fun _ => none) 2 (X7, tp, tq)
theorem p7_new : RfS.new (clampM 100 + 2) = S70 := by rfl
theorem p7_next : S70.next = 2 := by decide
theorem p7_took : S70.took = true := by decide
theorem p7_right : rightN X7 = true := by decide
theorem p7_mg : mgP [] [C71] = [Q7] := by rfl
theorem p7_pl : crownP (leavesP Pq.n (mgP [] [C71])) 0 = ([.leaf F7 [Q7]], 0) := by
  rw [p7_mg]
  rfl
theorem p7_toPq : X7.ps.map toPq = [Q7] := by rfl
theorem p7_mg2 : mgP [Q7] [C72] = [] ∧ chP [Q7] [C72] = true := by
  have h1 : lowP Pq.n [Q7] C72.n = [] := by
    have e : decide (Q7.n < C72.n) = false := by
      show decide ((num K7 : Int) < (num K7 : Int)) = false
      simp
    simp [lowP, e]
  have h2 : highP Pq.n [Q7] C72.n = [Q7] := by
    have e : decide (Q7.n < C72.n) = false := by
      show decide ((num K7 : Int) < (num K7 : Int)) = false
      simp
    simp [highP, e]
  constructor
  · rw [mg_cons, h1, h2, strike_cons, if_pos (show Q7.n = C72.n from rfl)]
    rfl
  · rw [ch_cons, h2]
    have e : hitP Pq.n [Q7] C72.n = true := by
      show decide (Q7.n = C72.n) = true
      exact decide_eq_true rfl
    rw [e]
    rfl
theorem p7_pl2 : crownP (leavesP Pq.n (mgP [Q7] [C72])) 0 = ([], 0) := by
  rw [p7_mg2.1]
  rfl
theorem p7_getM (tp tq : Value) : getM (N7 tp tq) 2 = (X7, 0) := by rfl
theorem p7_get (tp tq : Value) : getP (getM (N7 tp tq)) 2 K7 = (⟨#[49]⟩, true, 0) := by
  have h : readP (getM (N7 tp tq)) 2 (-1) = (X7, 0) := by rw [readP, p7_getM, if_pos rfl, if_pos ⟨p7_right, .inl rfl⟩]
  rw [getP, if_neg (by decide), h]
  rfl
theorem p7_get0 (tp tq : Value) : getP (getM (N7 tp tq)) 0 K7 = (⟨#[]⟩, false, 0) := by rfl
theorem p7_check (tp tq : Value) : checkRoot (getM (N7 tp tq)) 2 = 0 := by
  have h : readP (getM (N7 tp tq)) 2 (-1) = (X7, 0) := by rw [readP, p7_getM, if_pos rfl, if_pos ⟨p7_right, .inl rfl⟩]
  unfold checkRoot
  rw [if_neg (by decide)]
  rfl
theorem p7_scan (tp tq : Value) : scanRoot (getM (N7 tp tq)) 2 ⟨zs 24, zs 24, true⟩ = (0, [⟨K7, ⟨#[49]⟩⟩]) := by
  have h : readP (getM (N7 tp tq)) 2 (-1) = (X7, 0) := by rw [readP, p7_getM, if_pos rfl, if_pos ⟨p7_right, .inl rfl⟩]
  rw [scanRoot, if_neg (by decide)]
  simp only [scanP, scanStep, h]
  rfl
theorem p7_rel (tp tq : Value) : (relRoot 2 ⟨1, S70.take, N7 tp tq⟩).1 = 0 ∧ (relRoot 2 ⟨1, S70.take, N7 tp tq⟩).2.S.free = 100 ∧ (relRoot 2 ⟨1, S70.take, N7 tp tq⟩).2.K ≤ 1000000 := by
  have e : (relRoot 2 ⟨1, S70.take, N7 tp tq⟩).2.K = 2 := by rfl
  exact ⟨by rfl, by rfl, by omega⟩
theorem p7_cnt : cnt S70.take.L 2 = 1 := by decide
end Go.Proofs.YtjhdnpplmlddaaaGreat
