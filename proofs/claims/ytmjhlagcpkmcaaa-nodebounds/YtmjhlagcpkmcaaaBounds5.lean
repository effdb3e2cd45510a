/- NodeBounds, walked. -/
import Derived.Test.YtmjhlagcpkmcaaaBnd5
import Derived.Test.YtmjhlagcpkmcaaaNodX
namespace Go.Proofs.Ytmjhlagcpkmcaaa
set_option linter.unusedVariables false
open Go.RowKit

/-- The node that is built, in its block. -/
structure BS (w y : World) (b : Nat) (lv : Int) (ps : List Pr) (ks : List Kd) (pv qv : Value) : Prop where
  h : HasN y b ⟨lv, ps, ks⟩ pv qv
  bel : Below w.heap.size w y
  ge : w.heap.size ≤ b
section
variable {w y z : World} {b : Nat} {lv : Int} {ps : List Pr} {ks : List Kd} {pv qv : Value}
theorem BS.lt (h : BS w y b lv ps ks pv qv) : b < y.heap.size := h.h.lt
theorem BS.below {B : Nat} (h : BS w y b lv ps ks pv qv) (bl : Below B y z) (hB : b < B) : BS w z b lv ps ks pv qv := ⟨h.h.below bl hB, h.bel.trans (bl.mono (by have := h.ge; omega)), h.ge⟩
theorem BS.called (h : BS w y b lv ps ks pv qv) (bl : Below y.heap.size y z) : BS w z b lv ps ks pv qv := h.below bl h.lt
theorem BS.drew (h : BS w y b lv ps ks pv qv) : BS w y.drew b lv ps ks pv qv := h.called ⟨rfl, rfl, rfl, Nat.le_refl _, fun _ _ => rfl⟩
theorem BS.c1 (h : BS w y b lv ps ks pv qv) : y.cell? ⟨b, 1, none⟩ = some pv := h.h.cells.2.1
theorem BS.c2 (h : BS w y b lv ps ks pv qv) : y.cell? ⟨b, 2, none⟩ = some qv := h.h.cells.2.2
theorem BS.set1 (h : BS w y b lv ps ks pv qv) (ps' : List Pr) (v : Value) (hv : v.oneCell' = true) : BS w (y.setCell ⟨b, 1, none⟩ v) b lv ps' ks v qv := ⟨h.h.set1 ps' v hv, h.bel.setCell (by have := h.ge; omega) _, h.ge⟩
theorem BS.set2 (h : BS w y b lv ps ks pv qv) (ks' : List Kd) (v : Value) (hv : v.oneCell' = true) : BS w (y.setCell ⟨b, 2, none⟩ v) b lv ps ks' pv v := ⟨h.h.set2 ks' v hv, h.bel.setCell (by have := h.ge; omega) _, h.ge⟩
end
section
variable {y z : World} {base n size : Nat} {e : TypeId} {v : Value} {xs : List Value}
theorem own_same (h : y.ownsRow base e size v n xs) (hb : ∀ k, v.ownBlock = some k → z.heap[k]? = y.heap[k]?) : z.ownsRow base e size v n xs := by
  refine ⟨h.1, ?_⟩
  rcases h.2 with hn | ⟨g, cap, cur, rfl, hg, hgg, rest⟩
  · exact .inl hn
  · exact .inr ⟨g, cap, cur, rfl, hg, (hb g rfl).trans hgg, rest⟩
theorem own_kept (h : y.ownsRow base e size v n xs) (bl : Below y.heap.size y z) : z.ownsRow base e size v n xs := own_same h fun k hk => bl.block k (h.lt k hk).2
theorem own_one (h : y.ownsRow base e size v n xs) : v.oneCell' = true := by
  rcases h.2 with ⟨rfl, _⟩ | ⟨g, cap, cur, rfl, _⟩ <;> rfl
theorem own_set {b j : Nat} {u : Value} (h : y.ownsRow base e size v n xs) (hb : b < base) : (y.setCell ⟨b, j, none⟩ u).ownsRow base e size v n xs := own_same h fun k hk => by
  have q := h.lt k hk
  exact (touch_set y b j u).block k q.2 (by omega) (by simp)
theorem own_slice (h : y.ownsRow base e size v n xs) : ∃ a c, v = .slice a n c := by
  rcases h.2 with ⟨rfl, rfl⟩ | ⟨g, cap, cur, rfl, _⟩ <;> exact ⟨_, _, rfl⟩
theorem grown_below {B : Nat} {row : Option Nat} (g : y.grownBy z row) (hB : B ≤ y.heap.size) (hr : ∀ k, row = some k → B ≤ k) : Below B y z := (Below.refl _ _).grown g hB hr
end
def AnyW (_ : World) : Prop := True
theorem AnyW.any (y : World) : AnyW y := trivial
theorem num_succ {k : Nat} (h : k < 100) : Value.int .i64 (wrap64 ((k : Int) + 1)) = .int .i64 ((k + 1 : Nat) : Int) := congrArg _ (by unfold wrap64; omega)
theorem max_1 {k : Nat} (h : k < 32) : k + 1 ≤ maxLen ∧ (k + 1) * 40 ≤ 140737488355328 ∧ (k + 1) * 32 ≤ 140737488355328 := by unfold maxLen; omega
theorem slice_K1 {ops : Array Oper} {rest : List Oper} {o : Oper} {a : Act} {w : World} {Q : Exit → Act → World → Prop} (x : Operand) (ho : o.op = .buildSlice 23 1 #[(0, x)]) (hg : o.guard = none) (CE : Array Value) (hs : Try.prog.builtSlice 46 1 [(0, .agg CE)] = some CE) (hx : a.eval x = .agg CE)
    (h : wpList Try.prog ops Q rest (a.put o.dst (.slice (some ⟨w.heap.size, 0, none⟩) 1 1)) (w.alloc (.cells CE 46))) : wpList Try.prog ops Q (o :: rest) a w :=
  wpList_plain hg fun _ hK => wp_buildSliceTo 23 46 1 _ ho Try.underlying23 CE (by simp only [List.map_toArray, List.map_cons, List.map_nil, hx]; exact hs) (hK _ _ h)
/-- A kid that is built of a key and a number. -/
theorem build_K1 {ops : Array Oper} {rest : List Oper} {o : Oper} {a : Act} {w : World} {Q : Exit → Act → World → Prop} (x y : Operand) (ho : o.op = .build 46 #[(0, x), (1, y)]) (hgd : o.guard = none) (CK : Array Value) (hx : a.eval x = .agg CK) (V' V : Int) (CE : Array Value)
    (hb : Try.prog.built 46 [(0, .agg CK), (1, .int .i64 V)] = some CE) (hy : a.eval y = .int .i64 V') (hv : V' = V) (h : wpList Try.prog ops Q rest (a.put o.dst (.agg CE)) w) : wpList Try.prog ops Q (o :: rest) a w := by
  subst hv
  exact build_any hgd 46 _ ho [(0, .agg CK), (1, .int .i64 V')] (by simp only [List.map_toArray, List.map_cons, List.map_nil, hx, hy]) CE hb h
/-- append of one element to a slice of its own. -/
theorem append_K1 {ops : Array Oper} {rest : List Oper} {o : Oper} {a : Act} {w : World} {Q : Exit → Act → World → Prop} (s x : Operand) (ho : o.op = .call { callee := .builtin .append, args := #[s, x], argTypes := #[23, 23] }) (hgd : o.guard = none)
    (B : Nat) (qv : Value) (j : Nat) (hq : w.ownsRow B 46 25 qv j (flat ((bK j).map Kd.el)) ∧ B ≤ w.heap.size) (hs : a.eval s = qv) (d : Nat) (hx : a.eval x = .slice (some ⟨d, 0, none⟩) 1 1) (hj : j < 32) (hr : w.rangeAt d 0 (ec (mK j).el))
    (h : ∀ a' c' w', Below B w w' → w'.ownsRow B 46 25 (.slice a' (j + 1) c') (j + 1) (flat ((bK (j + 1)).map Kd.el)) → wpList Try.prog ops Q rest (a.put o.dst (.slice a' (j + 1) c')) w') : wpList Try.prog ops Q (o :: rest) a w := by
  obtain ⟨i0, hi, hz0, hz1, hz2⟩ := info_parts Try.row_K
  refine wpList_append_own _ hgd s x 23 ho B 46 i0 (.agg (ec nilK).toArray) 25 32 Try.underlying23 hi hz0 hz1 hz2 rfl (by decide) qv j _ hs hq.1 ⟨d, 0, none⟩ 1 1 (ec (mK j).el) hx (by rw [ec_length (Kd.ok_el (kk_length j))]) (fun i u hu => by rw [add_lit]; exact hr i u hu) (ec_one (Kd.ok_el (kk_length j))) (max_1 hj).1 (max_1 hj).2.2 hq.2 ?_
  intro v' w' ow gr _
  obtain ⟨a', c', rfl⟩ := own_slice ow
  refine h a' c' w' (grown_below gr hq.2 (fun q e => (hq.1.lt q e).1)) ?_
  rw [flat_K]
  exact ow
set_option maxHeartbeats 16000000 in
set_option maxRecDepth 100000 in
theorem bounds5_walk (w : World) (p0 k0 l0 s0 : Int) : Calls Try.prog 4 #[.int .i64 p0, .int .i64 k0, .int .i64 l0, .int .i64 s0] w fun e w' => e = .returned (.bool true) ∧ Below w.heap.size w w' := by
  have m1 := and15 p0
  have m2 := and31 k0
  have m3 := and15 l0
  have m4 := and63 s0
  obtain ⟨N, hN⟩ := Int.eq_ofNat_of_zero_le (show 0 ≤ p0 % 16 by omega)
  obtain ⟨M, hM⟩ := Int.eq_ofNat_of_zero_le (show 0 ≤ k0 % 32 by omega)
  obtain ⟨lv, hl⟩ : ∃ lv, lv = l0 % 16 := ⟨_, rfl⟩
  obtain ⟨z, hz⟩ := Int.eq_ofNat_of_zero_le (show 0 ≤ s0 % 64 by omega)
  have HB : Hid (N < 16 ∧ M < 32 ∧ 0 ≤ lv ∧ lv < 16 ∧ z < 64) := (show _ ∧ _ by omega)
  rw [hN] at m1
  rw [hM] at m2
  rw [← hl] at m3
  rw [hz] at m4
  clear hN hM hl hz
  obtain ⟨sz, hsz⟩ : ∃ sz, sz = str (List.replicate z 0) := ⟨_, rfl⟩
  have HSZ : Hid (str (List.replicate z 0) = sz) := hsz.symm
  have HZS : Hid (sz.size = z) := (show _ = _ by rw [hsz]; simp [str, ByteArray.size])
  clear hsz
  go_enter Try.func4, Try.ntmps4
  go_upto_region 2 with (go_at_call 5; refine (shown_calls _).mono ?_; rintro e w1 ⟨rfl, b1⟩)
  have HB1 : Hid (Below w.heap.size w w1) := b1
  clear b1
  go_upto_region 7 with (first
    | (refine build_any rfl 25 _ rfl [(0, .int .i64 lv)] (by simp only [List.map_toArray, List.map_cons, List.map_nil]; rfl) _ (Try.node_built lv) ?_)
    | (refine store_node rfl _ _ rfl w1.heap.size rfl ⟨lv, [], []⟩ (.slice none 0 0) (.slice none 0 0) rfl rfl rfl nilN (.slice none 0 0) (.slice none 0 0) (HasN.new w1 nilN _ _ _ rfl rfl rfl) ?_; intro x1 hu1 tx1 sx1))
  have HX1 : Hid (BS w x1 w1.heap.size lv (bP 0 sz) (bK 0) (.slice none 0 0) (.slice none 0 0)) := ⟨hu1, HB1.out.trans ((step_below (Below.refl _ w1) _ tx1).mono HB1.out.size), HB1.out.size⟩
  clear hu1 tx1 sx1 HB1 m1 m2 m3 m4
  generalize w1.heap.size = b at *
  go_wp2_with fail
  go_loopg [11] N (fun g i wr => ∃ k pv, k + g = N ∧ i = .int .i64 (k : Int) ∧ Hid (BS w wr b lv (bP k sz) (bK 0) pv (.slice none 0 0) ∧ wr.ownsRow (b + 1) 44 25 pv k (flat ((bP k sz).map Pr.el))))
  case atStart => exact ⟨0, _, by omega, rfl, ⟨HX1.out, World.ownsRow_nil _ _ _ _⟩⟩
  case round =>
    obtain ⟨k, pv, hkg, rfl, HP⟩ := hrel
    cases gk with
    | succ g =>
      have hltI : (k : Int) < (N : Int) := by omega
      have HK : Hid (k < 16) := (show k < 16 by have := HB.out.1; omega)
      have HM : Hid (k + 1 ≤ maxLen ∧ (k + 1) * 40 ≤ 140737488355328) := (show _ ∧ _ from ⟨(max_1 (by have := HK.out; omega)).1, (max_1 (by have := HK.out; omega)).2.1⟩)
      have HZ : Hid ((z : Int) = (z : Int) ∧ z ≤ 100000) := ⟨rfl, by have := HB.out; omega⟩
      have HW : Hid (IntKind.u8.wrap (k : Int) = (k : Int)) := (show IntKind.u8.wrap (k : Int) = (k : Int) by have := HK.out; rw [IntKind.wrap_u8]; omega)
      have B0 := HP.out.1.drew
      have O0 : wr.drew.ownsRow (b + 1) 44 25 pv k (flat ((bP k sz).map Pr.el)) := own_same HP.out.2 fun _ _ => rfl
      clear HP
      go_upto_region 10 with fail
      refine wp_region_noPanic ?_
      refine wp_region_held_drew (S := AnyW) (by kernel_rfl) (AnyW.any _) (fun hHeld => ?_)
      refine wpAnyH_take (i := 0) (v := ?_) rfl (by kernel_rfl) (by kernel_rfl) (by kernel_rfl) (fun _ _ _ h => h) (Or.inl ⟨by rfl, ?_⟩) hHeld ?_
      case refine_2 => (intro w hSw; go_simp; try (with_reducible rfl))
      ((try simp only); (try simp only [List.getElem_toArray]); (try simp only [List.getElem_cons_succ]); (try simp only [List.getElem_cons_zero]); (try simp only [Act.put]); (try simp only [List.setIfInBounds_toArray]); (try simp only [List.set_cons_succ]); (try simp only [List.set_cons_zero]))
      refine wpAnyH_take (i := 2) (v := ?_) rfl (by kernel_rfl) (by kernel_rfl) (by kernel_rfl) (fun _ _ _ h => h) (Or.inl ⟨by rfl, ?_⟩) hHeld ?_
      case refine_2 => (intro w hSw; go_simp; try (with_reducible rfl))
      ((try simp only); (try simp only [List.getElem_toArray]); (try simp only [List.getElem_cons_succ]); (try simp only [List.getElem_cons_zero]); (try simp only [Act.put]); (try simp only [List.setIfInBounds_toArray]); (try simp only [List.set_cons_succ]); (try simp only [List.set_cons_zero]))
      refine wpAnyH_take (i := 3) (v := .int .u8 (k : Int)) rfl (by kernel_rfl) (by kernel_rfl) (by kernel_rfl) (fun _ _ _ h => h) (Or.inl ⟨by rfl, ?_⟩) hHeld ?_
      case refine_1 => (intro w hSw; have hw8 := HW.out; go_simp; try (with_reducible rfl))
      ((try simp only); (try simp only [List.getElem_toArray]); (try simp only [List.getElem_cons_succ]); (try simp only [List.getElem_cons_zero]); (try simp only [Act.put]); (try simp only [List.setIfInBounds_toArray]); (try simp only [List.set_cons_succ]); (try simp only [List.set_cons_zero]))
      refine wpAnyH_take (i := 4) (v := kv (kp k)) rfl (by kernel_rfl) (by kernel_rfl) (by kernel_rfl) (fun _ _ _ h => h) (Or.inl ⟨by rfl, fun _ _ => build_run 39 _ rfl [(23, .int .u8 (k : Int))] (by simp only [List.map_toArray, List.map_cons, List.map_nil]; rfl) _ (kp_made k (by have := HK.out; omega))⟩) hHeld ?_
      ((try simp only); (try simp only [List.getElem_toArray]); (try simp only [List.getElem_cons_succ]); (try simp only [List.getElem_cons_zero]); (try simp only [Act.put]); (try simp only [List.setIfInBounds_toArray]); (try simp only [List.set_cons_succ]); (try simp only [List.set_cons_zero]))
      refine wpAnyH_take (i := 5) (v := ?_) rfl (by kernel_rfl) (by kernel_rfl) (by kernel_rfl) (fun _ _ _ h => h) (Or.inl ⟨by rfl, ?_⟩) hHeld ?_
      case refine_2 => (intro w hSw; go_simp; try (with_reducible rfl))
      ((try simp only); (try simp only [List.getElem_toArray]); (try simp only [List.getElem_cons_succ]); (try simp only [List.getElem_cons_zero]); (try simp only [Act.put]); (try simp only [List.setIfInBounds_toArray]); (try simp only [List.set_cons_succ]); (try simp only [List.set_cons_zero]))
      generalize wr.drew = y0 at *
      refine wpAnyH_ready (rs := [1, 6]) (by kernel_rfl) (by simp) (AllReadyH.cons rfl (fun K hK => ?_) (AllReadyH.cons rfl (fun K hK => ?_) AllReadyH.nil))
      · rw [if_pos (by rfl)]
        ((try simp only); (try simp only [List.getElem_toArray]); (try simp only [List.getElem_cons_succ]); (try simp only [List.getElem_cons_zero]); (try simp only [Act.put]); (try simp only [List.setIfInBounds_toArray]); (try simp only [List.set_cons_succ]); (try simp only [List.set_cons_zero]))
        have c1 := B0.c1
        go_simp
        refine hK.out _ _ (AnyW.any _) (fun hHeld => ?_)
        clear hK K
        ((try simp only); (try simp only [List.getElem_toArray]); (try simp only [List.getElem_cons_succ]); (try simp only [List.getElem_cons_zero]); (try simp only [Act.put]); (try simp only [List.setIfInBounds_toArray]); (try simp only [List.set_cons_succ]); (try simp only [List.set_cons_zero]))
        clear c1
        refine wpAnyH_ready (rs := [6]) (by kernel_rfl) (by simp) (AllReadyH.cons rfl (fun K hK => ?_) AllReadyH.nil)
        rw [if_pos (by rfl)]
        ((try simp only); (try simp only [List.getElem_toArray]); (try simp only [List.getElem_cons_succ]); (try simp only [List.getElem_cons_zero]); (try simp only [Act.put]); (try simp only [List.setIfInBounds_toArray]); (try simp only [List.set_cons_succ]); (try simp only [List.set_cons_zero]))
        refine wp_make_zeros (.tmp 37) (.tmp 37) rfl y0.heap.size z _ rfl rfl HZ.out.1 HZ.out.2 (Nat.le_refl _) ?_
        intro y1 ow gr
        have bl : Below y0.heap.size y0 y1 := (Below.refl _ _).grown gr (Nat.le_refl _) (fun k hk => by cases hk)
        have B1 := B0.called bl
        have O1 := own_kept O0 bl
        have BY : Hid (Byt y1 (.slice (some ⟨y0.heap.size, 0, none⟩) z z) (List.replicate z 0)) := own_in ow (Below.refl _ _)
        clear ow gr bl
        refine hK.out _ _ (AnyW.any _) (fun hHeld => ?_)
        clear hK K
        ((try simp only); (try simp only [List.getElem_toArray]); (try simp only [List.getElem_cons_succ]); (try simp only [List.getElem_cons_zero]); (try simp only [Act.put]); (try simp only [List.setIfInBounds_toArray]); (try simp only [List.set_cons_succ]); (try simp only [List.set_cons_zero]))
        refine wpAnyH_ready (rs := [7]) (by kernel_rfl) (by simp) (AllReadyH.cons rfl (fun K hK => ?_) AllReadyH.nil)
        rw [if_pos (by rfl)]
        ((try simp only); (try simp only [List.getElem_toArray]); (try simp only [List.getElem_cons_succ]); (try simp only [List.getElem_cons_zero]); (try simp only [Act.put]); (try simp only [List.setIfInBounds_toArray]); (try simp only [List.set_cons_succ]); (try simp only [List.set_cons_zero]))
        have hcv := BY.out.conv
        go_simp
        refine hK.out _ _ (AnyW.any _) (fun hHeld => ?_)
        clear hK K
        ((try simp only); (try simp only [List.getElem_toArray]); (try simp only [List.getElem_cons_succ]); (try simp only [List.getElem_cons_zero]); (try simp only [Act.put]); (try simp only [List.setIfInBounds_toArray]); (try simp only [List.set_cons_succ]); (try simp only [List.set_cons_zero]))
        clear hcv BY
        refine wpAnyH_take (i := 8) (v := ev (mP sz k).el) rfl (by kernel_rfl) (by kernel_rfl) (by kernel_rfl) (fun _ _ _ h => h) (Or.inl ⟨by rfl, fun _ _ => build_run 44 _ rfl [(0, kv (kp k)), (1, .string sz)] (by simp only [List.map_toArray, List.map_cons, List.map_nil]; rw [HSZ.out]; rfl) _ (builtP (kp k) _ (kp_length k) rfl)⟩) hHeld ?_
        ((try simp only); (try simp only [List.getElem_toArray]); (try simp only [List.getElem_cons_succ]); (try simp only [List.getElem_cons_zero]); (try simp only [Act.put]); (try simp only [List.setIfInBounds_toArray]); (try simp only [List.set_cons_succ]); (try simp only [List.set_cons_zero]))
        refine wpAnyH_ready (rs := [9]) (by kernel_rfl) (by simp) (AllReadyH.cons rfl (fun K hK => ?_) AllReadyH.nil)
        rw [if_pos (by rfl)]
        ((try simp only); (try simp only [List.getElem_toArray]); (try simp only [List.getElem_cons_succ]); (try simp only [List.getElem_cons_zero]); (try simp only [Act.put]); (try simp only [List.setIfInBounds_toArray]); (try simp only [List.set_cons_succ]); (try simp only [List.set_cons_zero]))
        refine wp_buildSliceTo 22 44 1 _ rfl Try.underlying22 (ec (mP sz k).el).toArray (by simp only [List.map_toArray, List.map_cons, List.map_nil]; exact slice_one _ _ _ Try.row_P rfl _ (Pr.ok_el (kp_length k))) ?_
        have bl : Below y1.heap.size y1 (y1.alloc (.cells (ec (mP sz k).el).toArray 44)) := (Below.refl _ _).alloc (Nat.le_refl _) _
        have B2 := B1.called bl
        have O2 := own_kept O1 bl
        have RW : (y1.alloc (.cells (ec (mP sz k).el).toArray 44)).rangeAt y1.heap.size 0 (ec (mP sz k).el) := (HasP.new y1 (mP sz k).el _ rfl (Pr.ok_el (kp_length k))).range
        clear bl
        refine hK.out _ _ (AnyW.any _) (fun hHeld => ?_)
        clear hK K
        ((try simp only); (try simp only [List.getElem_toArray]); (try simp only [List.getElem_cons_succ]); (try simp only [List.getElem_cons_zero]); (try simp only [Act.put]); (try simp only [List.setIfInBounds_toArray]); (try simp only [List.set_cons_succ]); (try simp only [List.set_cons_zero]))
        generalize y1.heap.size = d9 at *
        generalize y1.alloc (.cells (ec (mP sz k).el).toArray 44) = y2 at *
        refine wpAnyH_ready (rs := [10]) (by kernel_rfl) (by simp) (AllReadyH.cons rfl (fun K hK => ?_) AllReadyH.nil)
        rw [if_pos (by rfl)]
        ((try simp only); (try simp only [List.getElem_toArray]); (try simp only [List.getElem_cons_succ]); (try simp only [List.getElem_cons_zero]); (try simp only [Act.put]); (try simp only [List.setIfInBounds_toArray]); (try simp only [List.set_cons_succ]); (try simp only [List.set_cons_zero]))
        obtain ⟨i0, hi, hz0, hz1, hz2⟩ := info_parts Try.row_P
        refine wp_append_own _ (.tmp 33) (.tmp 41) 22 rfl (b + 1) 44 i0 (.agg (ec nilP).toArray) 25 40 Try.underlying22 hi hz0 hz1 hz2 rfl (by decide) pv k _ rfl O2 ⟨d9, 0, none⟩ 1 1 (ec (mP sz k).el) rfl (by rw [ec_length (Pr.ok_el (kp_length k))]) (fun j u hu => by rw [add_lit]; exact RW j u hu) (ec_one (Pr.ok_el (kp_length k))) HM.out.1 HM.out.2 (by have := B2.lt; omega) ?_
        intro pv' y3 ow gr _
        obtain ⟨a', c', rfl⟩ := own_slice ow
        clear hi hz0 hz1 hz2
        have B3 := B2.below (grown_below (B := b + 1) gr B2.lt (fun q hq => (O2.lt q hq).1)) (Nat.lt_succ_self b)
        have ON0 : y3.ownsRow (b + 1) 44 25 (.slice a' (k + 1) c') (k + 1) (flat ((bP (k + 1) sz).map Pr.el)) := by rw [flat_P]; exact ow
        clear ow gr RW O2
        refine hK.out _ _ (AnyW.any _) (fun hHeld => ?_)
        clear hK K
        ((try simp only); (try simp only [List.getElem_toArray]); (try simp only [List.getElem_cons_succ]); (try simp only [List.getElem_cons_zero]); (try simp only [Act.put]); (try simp only [List.setIfInBounds_toArray]); (try simp only [List.set_cons_succ]); (try simp only [List.set_cons_zero]))
        refine wpAnyH_take (i := 11) (v := ?_) rfl (by kernel_rfl) (by kernel_rfl) (by kernel_rfl) (fun _ _ _ h => h) (Or.inl ⟨by rfl, ?_⟩) hHeld ?_
        case refine_2 => (intro w hSw; go_simp; try (with_reducible rfl))
        ((try simp only); (try simp only [List.getElem_toArray]); (try simp only [List.getElem_cons_succ]); (try simp only [List.getElem_cons_zero]); (try simp only [Act.put]); (try simp only [List.setIfInBounds_toArray]); (try simp only [List.set_cons_succ]); (try simp only [List.set_cons_zero]))
        refine wpAnyH_ready (rs := [12]) (by kernel_rfl) (by simp) (AllReadyH.cons rfl (fun K hK => ?_) AllReadyH.nil)
        rw [if_pos (by rfl)]
        ((try simp only); (try simp only [List.getElem_toArray]); (try simp only [List.getElem_cons_succ]); (try simp only [List.getElem_cons_zero]); (try simp only [Act.put]); (try simp only [List.setIfInBounds_toArray]); (try simp only [List.set_cons_succ]); (try simp only [List.set_cons_zero]))
        have c1 := B3.c1
        have f1 := B3.h.free 1
        have BN0 := B3.set1 (bP (k + 1) sz) (.slice a' (k + 1) c') (own_one ON0)
        have ON := own_set (b := b) (j := 1) (u := (.slice a' (k + 1) c')) ON0 (Nat.lt_succ_self b)
        go_simp
        refine hK.out _ _ (AnyW.any _) (fun hHeld => ?_)
        clear hK K
        ((try simp only); (try simp only [List.getElem_toArray]); (try simp only [List.getElem_cons_succ]); (try simp only [List.getElem_cons_zero]); (try simp only [Act.put]); (try simp only [List.setIfInBounds_toArray]); (try simp only [List.set_cons_succ]); (try simp only [List.set_cons_zero]))
        clear c1 f1 ON0
        have BN := BN0
        clear BN0
        generalize y3.setCell ⟨b, 1, none⟩ (.slice a' (k + 1) c') = y4 at *
        refine wpAnyH_done (by kernel_rfl) ?_ _
        refine NoPanic.normal ?_
        have HNEW : Hid (BS w y4 b lv (bP (k + 1) sz) (bK 0) (.slice a' (k + 1) c') (.slice none 0 0) ∧ y4.ownsRow (b + 1) 44 25 (.slice a' (k + 1) c') (k + 1) (flat ((bP (k + 1) sz).map Pr.el))) := ⟨BN, ON⟩
        clear BN ON hHeld
        go_wp2_with fail
        go_roundg g
        case measure => omega
        case rel => exact ⟨k + 1, (.slice a' (k + 1) c'), by omega, by have := HK.out; exact num_succ (by omega), HNEW⟩
      · rw [if_pos (by rfl)]
        ((try simp only); (try simp only [List.getElem_toArray]); (try simp only [List.getElem_cons_succ]); (try simp only [List.getElem_cons_zero]); (try simp only [Act.put]); (try simp only [List.setIfInBounds_toArray]); (try simp only [List.set_cons_succ]); (try simp only [List.set_cons_zero]))
        refine wp_make_zeros (.tmp 37) (.tmp 37) rfl y0.heap.size z _ rfl rfl HZ.out.1 HZ.out.2 (Nat.le_refl _) ?_
        intro y1 ow gr
        have bl : Below y0.heap.size y0 y1 := (Below.refl _ _).grown gr (Nat.le_refl _) (fun k hk => by cases hk)
        have B1 := B0.called bl
        have O1 := own_kept O0 bl
        have BY : Hid (Byt y1 (.slice (some ⟨y0.heap.size, 0, none⟩) z z) (List.replicate z 0)) := own_in ow (Below.refl _ _)
        clear ow gr bl
        refine hK.out _ _ (AnyW.any _) (fun hHeld => ?_)
        clear hK K
        ((try simp only); (try simp only [List.getElem_toArray]); (try simp only [List.getElem_cons_succ]); (try simp only [List.getElem_cons_zero]); (try simp only [Act.put]); (try simp only [List.setIfInBounds_toArray]); (try simp only [List.set_cons_succ]); (try simp only [List.set_cons_zero]))
        refine wpAnyH_ready (rs := [1, 7]) (by kernel_rfl) (by simp) (AllReadyH.cons rfl (fun K hK => ?_) (AllReadyH.cons rfl (fun K hK => ?_) AllReadyH.nil))
        · rw [if_pos (by rfl)]
          ((try simp only); (try simp only [List.getElem_toArray]); (try simp only [List.getElem_cons_succ]); (try simp only [List.getElem_cons_zero]); (try simp only [Act.put]); (try simp only [List.setIfInBounds_toArray]); (try simp only [List.set_cons_succ]); (try simp only [List.set_cons_zero]))
          have c1 := B1.c1
          go_simp
          refine hK.out _ _ (AnyW.any _) (fun hHeld => ?_)
          clear hK K
          ((try simp only); (try simp only [List.getElem_toArray]); (try simp only [List.getElem_cons_succ]); (try simp only [List.getElem_cons_zero]); (try simp only [Act.put]); (try simp only [List.setIfInBounds_toArray]); (try simp only [List.set_cons_succ]); (try simp only [List.set_cons_zero]))
          clear c1
          refine wpAnyH_ready (rs := [7]) (by kernel_rfl) (by simp) (AllReadyH.cons rfl (fun K hK => ?_) AllReadyH.nil)
          rw [if_pos (by rfl)]
          ((try simp only); (try simp only [List.getElem_toArray]); (try simp only [List.getElem_cons_succ]); (try simp only [List.getElem_cons_zero]); (try simp only [Act.put]); (try simp only [List.setIfInBounds_toArray]); (try simp only [List.set_cons_succ]); (try simp only [List.set_cons_zero]))
          have hcv := BY.out.conv
          go_simp
          refine hK.out _ _ (AnyW.any _) (fun hHeld => ?_)
          clear hK K
          ((try simp only); (try simp only [List.getElem_toArray]); (try simp only [List.getElem_cons_succ]); (try simp only [List.getElem_cons_zero]); (try simp only [Act.put]); (try simp only [List.setIfInBounds_toArray]); (try simp only [List.set_cons_succ]); (try simp only [List.set_cons_zero]))
          clear hcv BY
          refine wpAnyH_take (i := 8) (v := ev (mP sz k).el) rfl (by kernel_rfl) (by kernel_rfl) (by kernel_rfl) (fun _ _ _ h => h) (Or.inl ⟨by rfl, fun _ _ => build_run 44 _ rfl [(0, kv (kp k)), (1, .string sz)] (by simp only [List.map_toArray, List.map_cons, List.map_nil]; rw [HSZ.out]; rfl) _ (builtP (kp k) _ (kp_length k) rfl)⟩) hHeld ?_
          ((try simp only); (try simp only [List.getElem_toArray]); (try simp only [List.getElem_cons_succ]); (try simp only [List.getElem_cons_zero]); (try simp only [Act.put]); (try simp only [List.setIfInBounds_toArray]); (try simp only [List.set_cons_succ]); (try simp only [List.set_cons_zero]))
          refine wpAnyH_ready (rs := [9]) (by kernel_rfl) (by simp) (AllReadyH.cons rfl (fun K hK => ?_) AllReadyH.nil)
          rw [if_pos (by rfl)]
          ((try simp only); (try simp only [List.getElem_toArray]); (try simp only [List.getElem_cons_succ]); (try simp only [List.getElem_cons_zero]); (try simp only [Act.put]); (try simp only [List.setIfInBounds_toArray]); (try simp only [List.set_cons_succ]); (try simp only [List.set_cons_zero]))
          refine wp_buildSliceTo 22 44 1 _ rfl Try.underlying22 (ec (mP sz k).el).toArray (by simp only [List.map_toArray, List.map_cons, List.map_nil]; exact slice_one _ _ _ Try.row_P rfl _ (Pr.ok_el (kp_length k))) ?_
          have bl : Below y1.heap.size y1 (y1.alloc (.cells (ec (mP sz k).el).toArray 44)) := (Below.refl _ _).alloc (Nat.le_refl _) _
          have B2 := B1.called bl
          have O2 := own_kept O1 bl
          have RW : (y1.alloc (.cells (ec (mP sz k).el).toArray 44)).rangeAt y1.heap.size 0 (ec (mP sz k).el) := (HasP.new y1 (mP sz k).el _ rfl (Pr.ok_el (kp_length k))).range
          clear bl
          refine hK.out _ _ (AnyW.any _) (fun hHeld => ?_)
          clear hK K
          ((try simp only); (try simp only [List.getElem_toArray]); (try simp only [List.getElem_cons_succ]); (try simp only [List.getElem_cons_zero]); (try simp only [Act.put]); (try simp only [List.setIfInBounds_toArray]); (try simp only [List.set_cons_succ]); (try simp only [List.set_cons_zero]))
          generalize y1.heap.size = d9 at *
          generalize y1.alloc (.cells (ec (mP sz k).el).toArray 44) = y2 at *
          refine wpAnyH_ready (rs := [10]) (by kernel_rfl) (by simp) (AllReadyH.cons rfl (fun K hK => ?_) AllReadyH.nil)
          rw [if_pos (by rfl)]
          ((try simp only); (try simp only [List.getElem_toArray]); (try simp only [List.getElem_cons_succ]); (try simp only [List.getElem_cons_zero]); (try simp only [Act.put]); (try simp only [List.setIfInBounds_toArray]); (try simp only [List.set_cons_succ]); (try simp only [List.set_cons_zero]))
          obtain ⟨i0, hi, hz0, hz1, hz2⟩ := info_parts Try.row_P
          refine wp_append_own _ (.tmp 33) (.tmp 41) 22 rfl (b + 1) 44 i0 (.agg (ec nilP).toArray) 25 40 Try.underlying22 hi hz0 hz1 hz2 rfl (by decide) pv k _ rfl O2 ⟨d9, 0, none⟩ 1 1 (ec (mP sz k).el) rfl (by rw [ec_length (Pr.ok_el (kp_length k))]) (fun j u hu => by rw [add_lit]; exact RW j u hu) (ec_one (Pr.ok_el (kp_length k))) HM.out.1 HM.out.2 (by have := B2.lt; omega) ?_
          intro pv' y3 ow gr _
          obtain ⟨a', c', rfl⟩ := own_slice ow
          clear hi hz0 hz1 hz2
          have B3 := B2.below (grown_below (B := b + 1) gr B2.lt (fun q hq => (O2.lt q hq).1)) (Nat.lt_succ_self b)
          have ON0 : y3.ownsRow (b + 1) 44 25 (.slice a' (k + 1) c') (k + 1) (flat ((bP (k + 1) sz).map Pr.el)) := by rw [flat_P]; exact ow
          clear ow gr RW O2
          refine hK.out _ _ (AnyW.any _) (fun hHeld => ?_)
          clear hK K
          ((try simp only); (try simp only [List.getElem_toArray]); (try simp only [List.getElem_cons_succ]); (try simp only [List.getElem_cons_zero]); (try simp only [Act.put]); (try simp only [List.setIfInBounds_toArray]); (try simp only [List.set_cons_succ]); (try simp only [List.set_cons_zero]))
          refine wpAnyH_take (i := 11) (v := ?_) rfl (by kernel_rfl) (by kernel_rfl) (by kernel_rfl) (fun _ _ _ h => h) (Or.inl ⟨by rfl, ?_⟩) hHeld ?_
          case refine_2 => (intro w hSw; go_simp; try (with_reducible rfl))
          ((try simp only); (try simp only [List.getElem_toArray]); (try simp only [List.getElem_cons_succ]); (try simp only [List.getElem_cons_zero]); (try simp only [Act.put]); (try simp only [List.setIfInBounds_toArray]); (try simp only [List.set_cons_succ]); (try simp only [List.set_cons_zero]))
          refine wpAnyH_ready (rs := [12]) (by kernel_rfl) (by simp) (AllReadyH.cons rfl (fun K hK => ?_) AllReadyH.nil)
          rw [if_pos (by rfl)]
          ((try simp only); (try simp only [List.getElem_toArray]); (try simp only [List.getElem_cons_succ]); (try simp only [List.getElem_cons_zero]); (try simp only [Act.put]); (try simp only [List.setIfInBounds_toArray]); (try simp only [List.set_cons_succ]); (try simp only [List.set_cons_zero]))
          have c1 := B3.c1
          have f1 := B3.h.free 1
          have BN0 := B3.set1 (bP (k + 1) sz) (.slice a' (k + 1) c') (own_one ON0)
          have ON := own_set (b := b) (j := 1) (u := (.slice a' (k + 1) c')) ON0 (Nat.lt_succ_self b)
          go_simp
          refine hK.out _ _ (AnyW.any _) (fun hHeld => ?_)
          clear hK K
          ((try simp only); (try simp only [List.getElem_toArray]); (try simp only [List.getElem_cons_succ]); (try simp only [List.getElem_cons_zero]); (try simp only [Act.put]); (try simp only [List.setIfInBounds_toArray]); (try simp only [List.set_cons_succ]); (try simp only [List.set_cons_zero]))
          clear c1 f1 ON0
          have BN := BN0
          clear BN0
          generalize y3.setCell ⟨b, 1, none⟩ (.slice a' (k + 1) c') = y4 at *
          refine wpAnyH_done (by kernel_rfl) ?_ _
          refine NoPanic.normal ?_
          have HNEW : Hid (BS w y4 b lv (bP (k + 1) sz) (bK 0) (.slice a' (k + 1) c') (.slice none 0 0) ∧ y4.ownsRow (b + 1) 44 25 (.slice a' (k + 1) c') (k + 1) (flat ((bP (k + 1) sz).map Pr.el))) := ⟨BN, ON⟩
          clear BN ON hHeld
          go_wp2_with fail
          go_roundg g
          case measure => omega
          case rel => exact ⟨k + 1, (.slice a' (k + 1) c'), by omega, by have := HK.out; exact num_succ (by omega), HNEW⟩
        · rw [if_pos (by rfl)]
          ((try simp only); (try simp only [List.getElem_toArray]); (try simp only [List.getElem_cons_succ]); (try simp only [List.getElem_cons_zero]); (try simp only [Act.put]); (try simp only [List.setIfInBounds_toArray]); (try simp only [List.set_cons_succ]); (try simp only [List.set_cons_zero]))
          have hcv := BY.out.conv
          go_simp
          refine hK.out _ _ (AnyW.any _) (fun hHeld => ?_)
          clear hK K
          ((try simp only); (try simp only [List.getElem_toArray]); (try simp only [List.getElem_cons_succ]); (try simp only [List.getElem_cons_zero]); (try simp only [Act.put]); (try simp only [List.setIfInBounds_toArray]); (try simp only [List.set_cons_succ]); (try simp only [List.set_cons_zero]))
          clear hcv BY
          refine wpAnyH_take (i := 8) (v := ev (mP sz k).el) rfl (by kernel_rfl) (by kernel_rfl) (by kernel_rfl) (fun _ _ _ h => h) (Or.inl ⟨by rfl, fun _ _ => build_run 44 _ rfl [(0, kv (kp k)), (1, .string sz)] (by simp only [List.map_toArray, List.map_cons, List.map_nil]; rw [HSZ.out]; rfl) _ (builtP (kp k) _ (kp_length k) rfl)⟩) hHeld ?_
          ((try simp only); (try simp only [List.getElem_toArray]); (try simp only [List.getElem_cons_succ]); (try simp only [List.getElem_cons_zero]); (try simp only [Act.put]); (try simp only [List.setIfInBounds_toArray]); (try simp only [List.set_cons_succ]); (try simp only [List.set_cons_zero]))
          refine wpAnyH_ready (rs := [1, 9]) (by kernel_rfl) (by simp) (AllReadyH.cons rfl (fun K hK => ?_) (AllReadyH.cons rfl (fun K hK => ?_) AllReadyH.nil))
          · rw [if_pos (by rfl)]
            ((try simp only); (try simp only [List.getElem_toArray]); (try simp only [List.getElem_cons_succ]); (try simp only [List.getElem_cons_zero]); (try simp only [Act.put]); (try simp only [List.setIfInBounds_toArray]); (try simp only [List.set_cons_succ]); (try simp only [List.set_cons_zero]))
            have c1 := B1.c1
            go_simp
            refine hK.out _ _ (AnyW.any _) (fun hHeld => ?_)
            clear hK K
            ((try simp only); (try simp only [List.getElem_toArray]); (try simp only [List.getElem_cons_succ]); (try simp only [List.getElem_cons_zero]); (try simp only [Act.put]); (try simp only [List.setIfInBounds_toArray]); (try simp only [List.set_cons_succ]); (try simp only [List.set_cons_zero]))
            clear c1
            refine wpAnyH_ready (rs := [9]) (by kernel_rfl) (by simp) (AllReadyH.cons rfl (fun K hK => ?_) AllReadyH.nil)
            rw [if_pos (by rfl)]
            ((try simp only); (try simp only [List.getElem_toArray]); (try simp only [List.getElem_cons_succ]); (try simp only [List.getElem_cons_zero]); (try simp only [Act.put]); (try simp only [List.setIfInBounds_toArray]); (try simp only [List.set_cons_succ]); (try simp only [List.set_cons_zero]))
            refine wp_buildSliceTo 22 44 1 _ rfl Try.underlying22 (ec (mP sz k).el).toArray (by simp only [List.map_toArray, List.map_cons, List.map_nil]; exact slice_one _ _ _ Try.row_P rfl _ (Pr.ok_el (kp_length k))) ?_
            have bl : Below y1.heap.size y1 (y1.alloc (.cells (ec (mP sz k).el).toArray 44)) := (Below.refl _ _).alloc (Nat.le_refl _) _
            have B2 := B1.called bl
            have O2 := own_kept O1 bl
            have RW : (y1.alloc (.cells (ec (mP sz k).el).toArray 44)).rangeAt y1.heap.size 0 (ec (mP sz k).el) := (HasP.new y1 (mP sz k).el _ rfl (Pr.ok_el (kp_length k))).range
            clear bl
            refine hK.out _ _ (AnyW.any _) (fun hHeld => ?_)
            clear hK K
            ((try simp only); (try simp only [List.getElem_toArray]); (try simp only [List.getElem_cons_succ]); (try simp only [List.getElem_cons_zero]); (try simp only [Act.put]); (try simp only [List.setIfInBounds_toArray]); (try simp only [List.set_cons_succ]); (try simp only [List.set_cons_zero]))
            generalize y1.heap.size = d9 at *
            generalize y1.alloc (.cells (ec (mP sz k).el).toArray 44) = y2 at *
            refine wpAnyH_ready (rs := [10]) (by kernel_rfl) (by simp) (AllReadyH.cons rfl (fun K hK => ?_) AllReadyH.nil)
            rw [if_pos (by rfl)]
            ((try simp only); (try simp only [List.getElem_toArray]); (try simp only [List.getElem_cons_succ]); (try simp only [List.getElem_cons_zero]); (try simp only [Act.put]); (try simp only [List.setIfInBounds_toArray]); (try simp only [List.set_cons_succ]); (try simp only [List.set_cons_zero]))
            obtain ⟨i0, hi, hz0, hz1, hz2⟩ := info_parts Try.row_P
            refine wp_append_own _ (.tmp 33) (.tmp 41) 22 rfl (b + 1) 44 i0 (.agg (ec nilP).toArray) 25 40 Try.underlying22 hi hz0 hz1 hz2 rfl (by decide) pv k _ rfl O2 ⟨d9, 0, none⟩ 1 1 (ec (mP sz k).el) rfl (by rw [ec_length (Pr.ok_el (kp_length k))]) (fun j u hu => by rw [add_lit]; exact RW j u hu) (ec_one (Pr.ok_el (kp_length k))) HM.out.1 HM.out.2 (by have := B2.lt; omega) ?_
            intro pv' y3 ow gr _
            obtain ⟨a', c', rfl⟩ := own_slice ow
            clear hi hz0 hz1 hz2
            have B3 := B2.below (grown_below (B := b + 1) gr B2.lt (fun q hq => (O2.lt q hq).1)) (Nat.lt_succ_self b)
            have ON0 : y3.ownsRow (b + 1) 44 25 (.slice a' (k + 1) c') (k + 1) (flat ((bP (k + 1) sz).map Pr.el)) := by rw [flat_P]; exact ow
            clear ow gr RW O2
            refine hK.out _ _ (AnyW.any _) (fun hHeld => ?_)
            clear hK K
            ((try simp only); (try simp only [List.getElem_toArray]); (try simp only [List.getElem_cons_succ]); (try simp only [List.getElem_cons_zero]); (try simp only [Act.put]); (try simp only [List.setIfInBounds_toArray]); (try simp only [List.set_cons_succ]); (try simp only [List.set_cons_zero]))
            refine wpAnyH_take (i := 11) (v := ?_) rfl (by kernel_rfl) (by kernel_rfl) (by kernel_rfl) (fun _ _ _ h => h) (Or.inl ⟨by rfl, ?_⟩) hHeld ?_
            case refine_2 => (intro w hSw; go_simp; try (with_reducible rfl))
            ((try simp only); (try simp only [List.getElem_toArray]); (try simp only [List.getElem_cons_succ]); (try simp only [List.getElem_cons_zero]); (try simp only [Act.put]); (try simp only [List.setIfInBounds_toArray]); (try simp only [List.set_cons_succ]); (try simp only [List.set_cons_zero]))
            refine wpAnyH_ready (rs := [12]) (by kernel_rfl) (by simp) (AllReadyH.cons rfl (fun K hK => ?_) AllReadyH.nil)
            rw [if_pos (by rfl)]
            ((try simp only); (try simp only [List.getElem_toArray]); (try simp only [List.getElem_cons_succ]); (try simp only [List.getElem_cons_zero]); (try simp only [Act.put]); (try simp only [List.setIfInBounds_toArray]); (try simp only [List.set_cons_succ]); (try simp only [List.set_cons_zero]))
            have c1 := B3.c1
            have f1 := B3.h.free 1
            have BN0 := B3.set1 (bP (k + 1) sz) (.slice a' (k + 1) c') (own_one ON0)
            have ON := own_set (b := b) (j := 1) (u := (.slice a' (k + 1) c')) ON0 (Nat.lt_succ_self b)
            go_simp
            refine hK.out _ _ (AnyW.any _) (fun hHeld => ?_)
            clear hK K
            ((try simp only); (try simp only [List.getElem_toArray]); (try simp only [List.getElem_cons_succ]); (try simp only [List.getElem_cons_zero]); (try simp only [Act.put]); (try simp only [List.setIfInBounds_toArray]); (try simp only [List.set_cons_succ]); (try simp only [List.set_cons_zero]))
            clear c1 f1 ON0
            have BN := BN0
            clear BN0
            generalize y3.setCell ⟨b, 1, none⟩ (.slice a' (k + 1) c') = y4 at *
            refine wpAnyH_done (by kernel_rfl) ?_ _
            refine NoPanic.normal ?_
            have HNEW : Hid (BS w y4 b lv (bP (k + 1) sz) (bK 0) (.slice a' (k + 1) c') (.slice none 0 0) ∧ y4.ownsRow (b + 1) 44 25 (.slice a' (k + 1) c') (k + 1) (flat ((bP (k + 1) sz).map Pr.el))) := ⟨BN, ON⟩
            clear BN ON hHeld
            go_wp2_with fail
            go_roundg g
            case measure => omega
            case rel => exact ⟨k + 1, (.slice a' (k + 1) c'), by omega, by have := HK.out; exact num_succ (by omega), HNEW⟩
          · rw [if_pos (by rfl)]
            ((try simp only); (try simp only [List.getElem_toArray]); (try simp only [List.getElem_cons_succ]); (try simp only [List.getElem_cons_zero]); (try simp only [Act.put]); (try simp only [List.setIfInBounds_toArray]); (try simp only [List.set_cons_succ]); (try simp only [List.set_cons_zero]))
            refine wp_buildSliceTo 22 44 1 _ rfl Try.underlying22 (ec (mP sz k).el).toArray (by simp only [List.map_toArray, List.map_cons, List.map_nil]; exact slice_one _ _ _ Try.row_P rfl _ (Pr.ok_el (kp_length k))) ?_
            have bl : Below y1.heap.size y1 (y1.alloc (.cells (ec (mP sz k).el).toArray 44)) := (Below.refl _ _).alloc (Nat.le_refl _) _
            have B2 := B1.called bl
            have O2 := own_kept O1 bl
            have RW : (y1.alloc (.cells (ec (mP sz k).el).toArray 44)).rangeAt y1.heap.size 0 (ec (mP sz k).el) := (HasP.new y1 (mP sz k).el _ rfl (Pr.ok_el (kp_length k))).range
            clear bl
            refine hK.out _ _ (AnyW.any _) (fun hHeld => ?_)
            clear hK K
            ((try simp only); (try simp only [List.getElem_toArray]); (try simp only [List.getElem_cons_succ]); (try simp only [List.getElem_cons_zero]); (try simp only [Act.put]); (try simp only [List.setIfInBounds_toArray]); (try simp only [List.set_cons_succ]); (try simp only [List.set_cons_zero]))
            generalize y1.heap.size = d9 at *
            generalize y1.alloc (.cells (ec (mP sz k).el).toArray 44) = y2 at *
            refine wpAnyH_ready (rs := [1]) (by kernel_rfl) (by simp) (AllReadyH.cons rfl (fun K hK => ?_) AllReadyH.nil)
            rw [if_pos (by rfl)]
            ((try simp only); (try simp only [List.getElem_toArray]); (try simp only [List.getElem_cons_succ]); (try simp only [List.getElem_cons_zero]); (try simp only [Act.put]); (try simp only [List.setIfInBounds_toArray]); (try simp only [List.set_cons_succ]); (try simp only [List.set_cons_zero]))
            have c1 := B2.c1
            go_simp
            refine hK.out _ _ (AnyW.any _) (fun hHeld => ?_)
            clear hK K
            ((try simp only); (try simp only [List.getElem_toArray]); (try simp only [List.getElem_cons_succ]); (try simp only [List.getElem_cons_zero]); (try simp only [Act.put]); (try simp only [List.setIfInBounds_toArray]); (try simp only [List.set_cons_succ]); (try simp only [List.set_cons_zero]))
            clear c1
            refine wpAnyH_ready (rs := [10]) (by kernel_rfl) (by simp) (AllReadyH.cons rfl (fun K hK => ?_) AllReadyH.nil)
            rw [if_pos (by rfl)]
            ((try simp only); (try simp only [List.getElem_toArray]); (try simp only [List.getElem_cons_succ]); (try simp only [List.getElem_cons_zero]); (try simp only [Act.put]); (try simp only [List.setIfInBounds_toArray]); (try simp only [List.set_cons_succ]); (try simp only [List.set_cons_zero]))
            obtain ⟨i0, hi, hz0, hz1, hz2⟩ := info_parts Try.row_P
            refine wp_append_own _ (.tmp 33) (.tmp 41) 22 rfl (b + 1) 44 i0 (.agg (ec nilP).toArray) 25 40 Try.underlying22 hi hz0 hz1 hz2 rfl (by decide) pv k _ rfl O2 ⟨d9, 0, none⟩ 1 1 (ec (mP sz k).el) rfl (by rw [ec_length (Pr.ok_el (kp_length k))]) (fun j u hu => by rw [add_lit]; exact RW j u hu) (ec_one (Pr.ok_el (kp_length k))) HM.out.1 HM.out.2 (by have := B2.lt; omega) ?_
            intro pv' y3 ow gr _
            obtain ⟨a', c', rfl⟩ := own_slice ow
            clear hi hz0 hz1 hz2
            have B3 := B2.below (grown_below (B := b + 1) gr B2.lt (fun q hq => (O2.lt q hq).1)) (Nat.lt_succ_self b)
            have ON0 : y3.ownsRow (b + 1) 44 25 (.slice a' (k + 1) c') (k + 1) (flat ((bP (k + 1) sz).map Pr.el)) := by rw [flat_P]; exact ow
            clear ow gr RW O2
            refine hK.out _ _ (AnyW.any _) (fun hHeld => ?_)
            clear hK K
            ((try simp only); (try simp only [List.getElem_toArray]); (try simp only [List.getElem_cons_succ]); (try simp only [List.getElem_cons_zero]); (try simp only [Act.put]); (try simp only [List.setIfInBounds_toArray]); (try simp only [List.set_cons_succ]); (try simp only [List.set_cons_zero]))
            refine wpAnyH_take (i := 11) (v := ?_) rfl (by kernel_rfl) (by kernel_rfl) (by kernel_rfl) (fun _ _ _ h => h) (Or.inl ⟨by rfl, ?_⟩) hHeld ?_
            case refine_2 => (intro w hSw; go_simp; try (with_reducible rfl))
            ((try simp only); (try simp only [List.getElem_toArray]); (try simp only [List.getElem_cons_succ]); (try simp only [List.getElem_cons_zero]); (try simp only [Act.put]); (try simp only [List.setIfInBounds_toArray]); (try simp only [List.set_cons_succ]); (try simp only [List.set_cons_zero]))
            refine wpAnyH_ready (rs := [12]) (by kernel_rfl) (by simp) (AllReadyH.cons rfl (fun K hK => ?_) AllReadyH.nil)
            rw [if_pos (by rfl)]
            ((try simp only); (try simp only [List.getElem_toArray]); (try simp only [List.getElem_cons_succ]); (try simp only [List.getElem_cons_zero]); (try simp only [Act.put]); (try simp only [List.setIfInBounds_toArray]); (try simp only [List.set_cons_succ]); (try simp only [List.set_cons_zero]))
            have c1 := B3.c1
            have f1 := B3.h.free 1
            have BN0 := B3.set1 (bP (k + 1) sz) (.slice a' (k + 1) c') (own_one ON0)
            have ON := own_set (b := b) (j := 1) (u := (.slice a' (k + 1) c')) ON0 (Nat.lt_succ_self b)
            go_simp
            refine hK.out _ _ (AnyW.any _) (fun hHeld => ?_)
            clear hK K
            ((try simp only); (try simp only [List.getElem_toArray]); (try simp only [List.getElem_cons_succ]); (try simp only [List.getElem_cons_zero]); (try simp only [Act.put]); (try simp only [List.setIfInBounds_toArray]); (try simp only [List.set_cons_succ]); (try simp only [List.set_cons_zero]))
            clear c1 f1 ON0
            have BN := BN0
            clear BN0
            generalize y3.setCell ⟨b, 1, none⟩ (.slice a' (k + 1) c') = y4 at *
            refine wpAnyH_done (by kernel_rfl) ?_ _
            refine NoPanic.normal ?_
            have HNEW : Hid (BS w y4 b lv (bP (k + 1) sz) (bK 0) (.slice a' (k + 1) c') (.slice none 0 0) ∧ y4.ownsRow (b + 1) 44 25 (.slice a' (k + 1) c') (k + 1) (flat ((bP (k + 1) sz).map Pr.el))) := ⟨BN, ON⟩
            clear BN ON hHeld
            go_wp2_with fail
            go_roundg g
            case measure => omega
            case rel => exact ⟨k + 1, (.slice a' (k + 1) c'), by omega, by have := HK.out; exact num_succ (by omega), HNEW⟩
    | zero =>
      have hkN : ¬ (k : Int) < (N : Int) := by omega
      obtain rfl : k = N := by omega
      clear hkg
      have HPL : Hid (∀ q, pv.ownBlock = some q → q < wr.heap.size) := fun q hq => (HP.out.2.lt q hq).2
      have HF : Hid (b + 1 ≤ wr.heap.size) := HP.out.1.lt
      have HO0 : Hid (∀ Y qv, BS w Y b lv (bP k sz) (bK 0) pv qv → Y.ownsRow wr.heap.size 46 25 (.slice none 0 0) 0 (flat ((bK 0).map Kd.el))) := fun Y _ _ => World.ownsRow_nil _ _ _ _
      generalize hBk : wr.heap.size = Bk at *
      have HBk : Hid (wr.heap.size = Bk) := hBk
      clear hBk
      go_wp2_with fail
      go_loopg [12] M (fun g i wr => ∃ j qv, j + g = M ∧ i = .int .i64 (j : Int) ∧ Hid (BS w wr b lv (bP k sz) (bK j) pv qv ∧ wr.ownsRow (b + 1) 44 25 pv k (flat ((bP k sz).map Pr.el)) ∧ wr.ownsRow Bk 46 25 qv j (flat ((bK j).map Kd.el)) ∧ Bk ≤ wr.heap.size))
      case atStart => exact ⟨0, _, by omega, rfl, ⟨HP.out.1, HP.out.2, HO0.out _ _ HP.out.1, Nat.le_of_eq HBk.out.symm⟩⟩
      case round =>
        obtain ⟨j, qv, hjg, rfl, HP⟩ := hrel
        cases gk with
        | succ g =>
          have hltJ : (j : Int) < (M : Int) := by omega
          have HK : Hid (j < 32) := (show j < 32 by have := HB.out.2.1; omega)
          have HM : Hid (j + 1 ≤ maxLen ∧ (j + 1) * 32 ≤ 140737488355328) := (show _ ∧ _ from ⟨(max_1 HK.out).1, (max_1 HK.out).2.2⟩)
          have hw8 : IntKind.u8.wrap (j : Int) = (j : Int) := by have := HK.out; rw [IntKind.wrap_u8]; omega
          obtain ⟨CK, hCK⟩ : ∃ CK, CK = (bc (kk j)).toArray := ⟨_, rfl⟩
          obtain ⟨CE, hCE⟩ : ∃ CE, CE = (ec (mK j).el).toArray := ⟨_, rfl⟩
          obtain ⟨V, hV⟩ : ∃ V : Int, V = 99 - (j : Int) := ⟨_, rfl⟩
          have hw9 : wrap64 V = V := by have := HK.out; rw [hV]; unfold wrap64; omega
          have hw7 : 99 - (j : Int) = V := hV.symm
          obtain ⟨aq, cq, rfl⟩ := own_slice HP.out.2.2.1
          have c2 := HP.out.1.c2
          have HKM : Hid (Try.prog.built 39 [(5, .int .u8 (j : Int))] = some CK) := (show _ = _ by rw [hCK]; exact kk_made j (by have := HK.out; omega))
          have HBK : Hid (Try.prog.built 46 [(0, .agg CK), (1, .int .i64 V)] = some CE) := (show _ = _ by rw [hCK, hCE, hV]; exact builtK (kk j) _ (kk_length j) rfl)
          have HW8 : Hid (IntKind.i64.wrap V = V) := (show _ = _ by rw [IntKind.wrap_i64]; have h9 := hw9; unfold wrap64 at h9; exact h9)
          have HSL : Hid (Try.prog.builtSlice 46 1 [(0, .agg CE)] = some CE) := (show _ = _ by rw [hCE]; exact slice_one _ _ _ Try.row_K rfl _ (Kd.ok_el (kk_length j)))
          have HAL : Hid ((wr.alloc (.cells CE 46)).rangeAt wr.heap.size 0 (ec (mK j).el)) := (show World.rangeAt _ _ _ _ by rw [hCE]; exact (HasK.new wr (mK j).el _ rfl (Kd.ok_el (kk_length j))).range)
          have HQ : Hid ((wr.alloc (.cells CE 46)).ownsRow Bk 46 25 (.slice aq j cq) j (flat ((bK j).map Kd.el)) ∧ Bk ≤ (wr.alloc (.cells CE 46)).heap.size) := ⟨HP.out.2.2.1.alloc _, by have := HP.out.2.2.2; simp; omega⟩
          have HBN : Hid (∀ y1, Below Bk (wr.alloc (.cells CE 46)) y1 → BS w y1 b lv (bP k sz) (bK j) pv (.slice aq j cq)) := fun y1 b1 => (HP.out.1.called ((Below.refl _ _).alloc (Nat.le_refl _) _)).below b1 HF.out
          clear hCK hCE hV
          go_upto_region 14 with fail
          go_upto_region 13 with (first
            | (at_builtin; go_loud (refine append_K1 (.tmp 50) (.tmp 57) rfl rfl Bk (.slice aq j cq) j HQ.out rfl wr.heap.size rfl HK.out HAL.out ?_); intro a' c' y1 b1 ow1; have BN1 := HBN.out y1 b1; have f2 := BN1.h.free 2; have c2' := BN1.c2)
            | (refine build_any rfl 39 #[(5, .tmp 52)] rfl [(5, .int .u8 (j : Int))] (by simp only [List.map_toArray, List.map_cons, List.map_nil]; rfl) _ HKM.out ?_)
            | (refine build_K1 (.tmp 53) (.tmp 55) rfl rfl CK rfl _ V CE HBK.out rfl ?hv ?_; case hv => (first | rfl | exact hw9 | (exact HW8.out)))
            | (refine slice_K1 (.tmp 56) rfl rfl CE HSL.out rfl ?_))
          have BN2 := BN1.set2 (bK (j + 1)) (.slice a' (j + 1) c') rfl
          have OP1 : y1.ownsRow (b + 1) 44 25 pv k (flat ((bP k sz).map Pr.el)) := own_same (HP.out.2.1.alloc _) fun q hq => b1.block q (HPL.out q hq)
          have s1 := b1.size
          have HNEW : Hid (BS w (y1.setCell ⟨b, 2, none⟩ (.slice a' (j + 1) c')) b lv (bP k sz) (bK (j + 1)) pv (.slice a' (j + 1) c') ∧ (y1.setCell ⟨b, 2, none⟩ (.slice a' (j + 1) c')).ownsRow (b + 1) 44 25 pv k (flat ((bP k sz).map Pr.el)) ∧ (y1.setCell ⟨b, 2, none⟩ (.slice a' (j + 1) c')).ownsRow Bk 46 25 (.slice a' (j + 1) c') (j + 1) (flat ((bK (j + 1)).map Kd.el)) ∧ Bk ≤ (y1.setCell ⟨b, 2, none⟩ (.slice a' (j + 1) c')).heap.size) := ⟨BN2, own_set OP1 (Nat.lt_succ_self b), own_set ow1 HF.out, Nat.le_trans HQ.out.2 (Nat.le_trans b1.size (touch_set y1 b 2 (.slice a' (j + 1) c')).size)⟩
          clear BN1 BN2 OP1 f2 c2' c2 b1 ow1 hw8 hw9 hw7 s1
          generalize y1.setCell ⟨b, 2, none⟩ (.slice a' (j + 1) c') = y2 at *
          go_wp2_with fail
          go_roundg g
          case measure => omega
          case rel => exact ⟨j + 1, _, by omega, by have := HK.out; exact num_succ (by omega), HNEW⟩
        | zero =>
          have hjM : ¬ (j : Int) < (M : Int) := by omega
          obtain rfl : j = M := by omega
          clear hjg
          have HPT : Hid (Parts wr ⟨lv, bP k sz, bK j⟩ pv qv ∧ HasN wr b ⟨lv, bP k sz, bK j⟩ pv qv ∧ Below w.heap.size w wr) := ⟨⟨(own_els HP.out.2.1 (by simp [bP_length]) (okP k sz)).els, (own_els HP.out.2.2.1 (by simp [bK_length]) (okK j)).els⟩, HP.out.1.h, HP.out.1.bel⟩
          have HRB : Hid (rightN ⟨lv, bP k sz, bK j⟩ = true ↔ (lv = 0 ∧ 1 ≤ k ∧ k ≤ 7 ∧ j = 0 ∧ z ≤ 40) ∨ (1 ≤ lv ∧ lv ≤ 11 ∧ 2 ≤ j ∧ j ≤ 18 ∧ k = 0)) := (show _ ↔ _ by have q := right_b lv k j sz (by have := HB.out.1; omega) (by have := HB.out.2.1; omega); rw [HZS.out] at q; exact q)
          have HB2 : Hid (0 ≤ lv ∧ lv < 16) := ⟨HB.out.2.2.1, HB.out.2.2.2.1⟩
          clear HP HB
          go_upto_region 15 with fail
          obtain ⟨r, hr⟩ : ∃ r, r = rightN ⟨lv, bP k sz, bK j⟩ := ⟨_, rfl⟩
          have HRR : Hid (rightN ⟨lv, bP k sz, bK j⟩ = r) := hr.symm
          rw [← hr] at HRB
          clear hr
          go_cut [13] (fun v wc => v = .bool r ∧ wc = wr)
          case first =>
            clear HPT HRR
            cases r with
            | true =>
              rcases HRB.out.1 rfl with ⟨h1, h2, h3, h4, h5⟩ | ⟨h1, h2, h3, h4, h5⟩
              · subst h1
                subst h4
                have g2 : (1 : Int) ≤ (k : Int) := by omega
                have g3 : (k : Int) ≤ 7 := by omega
                have g5 : (z : Int) ≤ 40 := by omega
                go_wp2
                go_meet
                case rel => exact ⟨rfl, rfl⟩
              · subst h5
                have g0 : (lv == 0) = false := by have : ¬ lv = 0 := by omega
                                                  simpa using this
                have g3 : (2 : Int) ≤ (j : Int) := by omega
                have g4 : (j : Int) ≤ 18 := by omega
                go_wp2
                go_meet
                case rel => exact ⟨rfl, rfl⟩
            | false =>
              have hn : ¬ ((lv = 0 ∧ 1 ≤ k ∧ k ≤ 7 ∧ j = 0 ∧ z ≤ 40) ∨ (1 ≤ lv ∧ lv ≤ 11 ∧ 2 ≤ j ∧ j ≤ 18 ∧ k = 0)) := fun h => by have := HRB.out.2 h; cases this
              by_cases h0 : lv = 0
              · subst h0
                rcases (show (k : Int) < 1 ∨ (1 ≤ (k : Int) ∧ 7 < (k : Int)) ∨ (1 ≤ (k : Int) ∧ (k : Int) ≤ 7 ∧ ¬ ((j : Int) = 0)) ∨ (1 ≤ (k : Int) ∧ (k : Int) ≤ 7 ∧ j = 0 ∧ 40 < (z : Int)) by omega) with g1 | ⟨g1, g2⟩ | ⟨g1, g2, g3⟩ | ⟨g1, g2, g3, g4⟩
                · clear hn
                  go_wp2
                  go_meet
                  case rel => exact ⟨rfl, rfl⟩
                · clear hn
                  go_wp2
                  go_meet
                  case rel => exact ⟨rfl, rfl⟩
                · clear hn
                  have g4 : ((j : Int) == 0) = false := by simpa using g3
                  go_wp2
                  go_meet
                  case rel => exact ⟨rfl, rfl⟩
                · clear hn
                  subst g3
                  go_wp2
                  go_meet
                  case rel => exact ⟨by rw [decide_eq_false (by omega)], rfl⟩
              · have g0 : (lv == 0) = false := by simpa using h0
                have g9 : 1 ≤ lv := by have := HB2.out; omega
                rcases (show 11 < lv ∨ (lv ≤ 11 ∧ (j : Int) < 2) ∨ (lv ≤ 11 ∧ 2 ≤ (j : Int) ∧ 18 < (j : Int)) ∨ (lv ≤ 11 ∧ 2 ≤ (j : Int) ∧ (j : Int) ≤ 18 ∧ ¬ ((k : Int) = 0)) by omega) with g1 | ⟨g1, g2⟩ | ⟨g1, g2, g3⟩ | ⟨g1, g2, g3, g4⟩
                · clear hn h0
                  go_wp2
                  go_meet
                  case rel => exact ⟨rfl, rfl⟩
                · clear hn h0
                  go_wp2
                  go_meet
                  case rel => exact ⟨rfl, rfl⟩
                · clear hn h0
                  go_wp2
                  go_meet
                  case rel => exact ⟨rfl, rfl⟩
                · clear hn h0
                  have g5 : ((k : Int) == 0) = false := by simpa using g4
                  go_wp2
                  go_meet
                  case rel => exact ⟨rfl, rfl⟩
          case rest =>
            obtain ⟨rfl, rfl⟩ := hcut
            have hB := bytes_nod HPT.out.1
            rw [HRR.out] at hB
            cases r with
            | true =>
              go_wp2_with (first
                | (go_at_call 7; refine hB.mono ?_; rintro e w2 ⟨b2, ⟨q, _⟩ | ⟨_, a2, c2, rfl, _⟩⟩; · cases q)
                | (go_at_call 15; refine (right_calls _ _ _ _ (HPT.out.1.below b2)).mono ?_; rintro e w3 ⟨rfl, b3⟩; rw [HRR.out])
                | (refine load_node _ rfl b rfl rfl ⟨lv, bP k sz, bK j⟩ pv qv HPT.out.2.1 ?_)
                | (refine load_node _ rfl b rfl rfl ⟨lv, bP k sz, bK j⟩ pv qv (HPT.out.2.1.below b2 HPT.out.2.1.lt) ?_))
              go_ret
              exact ⟨by simp, (HPT.out.2.2.trans (b2.mono HPT.out.2.2.size)).trans (b3.mono (by have := HPT.out.2.2.size; have := b2.size; omega))⟩
            | false =>
              go_wp2_with (first
                | (go_at_call 7; refine hB.mono ?_; rintro e w2 ⟨b2, ⟨_, rfl⟩ | ⟨q, _⟩⟩; rotate_left; · cases q)
                | (go_at_call 15; refine (right_calls _ _ _ _ (HPT.out.1.below b2)).mono ?_; rintro e w3 ⟨rfl, b3⟩; rw [HRR.out])
                | (refine load_node _ rfl b rfl rfl ⟨lv, bP k sz, bK j⟩ pv qv HPT.out.2.1 ?_)
                | (refine load_node _ rfl b rfl rfl ⟨lv, bP k sz, bK j⟩ pv qv (HPT.out.2.1.below b2 HPT.out.2.1.lt) ?_))
              go_ret
              exact ⟨by simp, (HPT.out.2.2.trans (b2.mono HPT.out.2.2.size)).trans (b3.mono (by have := HPT.out.2.2.size; have := b2.size; omega))⟩
end Go.Proofs.Ytmjhlagcpkmcaaa
