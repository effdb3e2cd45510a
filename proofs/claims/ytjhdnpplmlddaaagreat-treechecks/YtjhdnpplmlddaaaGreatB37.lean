import Derived.Test.YtjhdnpplmlddaaaGreatB36
/- read of a memory, with what is known of nil slices. -/
namespace Go.Proofs.YtjhdnpplmlddaaaGreat
set_option linter.unusedVariables false
open Go.RowKit

theorem nilOk0 : NilOk (.slice none 0 0) := fun n c e => by cases e; rfl
/-- A block that is new. -/
def NB (w : World) (k : Nat) : Prop := w.heap.size ≤ k
theorem nb_alloc {w : World} {o : Obj} {k : Nat} (h : NB (w.alloc o) k) : NB w k := by
  have h1 : (w.alloc o).heap.size ≤ k := h
  simp at h1
  show w.heap.size ≤ k
  omega
def ReadN (w : World) (r : Nod × Int) (e : Ending) (w' : World) : Prop := ∃ pv qv, e = .returned (.tuple #[nv r.1 pv qv, .int .i64 r.2]) ∧ Parts w' r.1 pv qv ∧ Below w.heap.size w w' ∧ (NilOk pv ∧ NilOk qv) ∧ Lim (NB w) pv ∧ Lim (NB w) qv
/-- Whoever has nodes by numbers, and is not changed by being asked. -/
structure GetterN (R : World → Prop) (iv : Value) (g : Int → Nod × Int) : Prop where
  get : ∃ G recv, Meth iv "Get" G recv ∧ ∀ w n, R w → Rng n → Calls Tryz.prog G (#[recv] ++ #[.int .i64 n]) w fun e w' => ∃ pv qv, e = .returned (.tuple #[nv (g n).1 pv qv, .int .i64 (g n).2]) ∧ Parts w' (g n).1 pv qv ∧ Below w.heap.size w w' ∧ (NilOk pv ∧ NilOk qv) ∧ Lim (NB w) pv ∧ Lim (NB w) qv
  mono : ∀ w w', R w → Below w.heap.size w w' → R w'
  ifc : ∃ T recv, iv = .iface T recv
set_option maxHeartbeats 8000000 in
set_option maxRecDepth 100000 in
theorem readN_calls {R : World → Prop} {iv : Value} {g : Int → Nod × Int} (D : GetterN R iv g) (w : World) (n lvl : Int) (hR : R w) (hn : Rng n) : Calls Tryz.prog 38 #[iv, .int .i64 n, .int .i64 lvl] w (ReadN w (readP g n lvl)) := by
  obtain ⟨G, recv, hm, hget⟩ := D.get
  obtain ⟨T, rv, hiv⟩ := D.ifc
  have B0 : Below w.heap.size w (w.alloc (.cells #[.int .i64 0, .slice none 0 0, .slice none 0 0] 60)) := (Below.refl _ w).alloc (Nat.le_refl _) _
  have HN0 : Hid (HasN (w.alloc (.cells #[.int .i64 0, .slice none 0 0, .slice none 0 0] 60)) w.heap.size nilN (.slice none 0 0) (.slice none 0 0) ∧ Below w.heap.size w (w.alloc (.cells #[.int .i64 0, .slice none 0 0, .slice none 0 0] 60))) := ⟨HasN.new w nilN _ _ _ rfl rfl rfl, B0⟩
  have HC : Hid (Calls Tryz.prog G (#[recv] ++ #[.int .i64 n]) (w.alloc (.cells #[.int .i64 0, .slice none 0 0, .slice none 0 0] 60)) fun e w' => ∃ pv qv, e = .returned (.tuple #[nv (g n).1 pv qv, .int .i64 (g n).2]) ∧ Parts w' (g n).1 pv qv ∧ Below (w.alloc (.cells #[.int .i64 0, .slice none 0 0, .slice none 0 0] 60)).heap.size (w.alloc (.cells #[.int .i64 0, .slice none 0 0, .slice none 0 0] 60)) w' ∧ (NilOk pv ∧ NilOk qv) ∧ Lim (NB (w.alloc (.cells #[.int .i64 0, .slice none 0 0, .slice none 0 0] 60))) pv ∧ Lim (NB (w.alloc (.cells #[.int .i64 0, .slice none 0 0, .slice none 0 0] 60))) qv) := hget _ n (D.mono _ _ hR B0) hn
  have HRD : Hid (readP g n lvl = if (g n).2 = 0 then (if rightN (g n).1 = true ∧ (lvl = -1 ∨ (g n).1.lv = lvl) then ((g n).1, 0) else (nilN, 12)) else (nilN, (g n).2)) := rfl
  have HM : Hid (Meth iv "Get" G recv) := hm
  clear hget hR hn B0 D hm
  generalize readP g n lvl = RES at *
  generalize g n = gn at *
  obtain ⟨X, c⟩ := gn
  simp only at HC HRD
  subst hiv
  by_cases hc : c = 0
  · subst hc
    have HX : Hid (RES = if rightN X = true ∧ (lvl = -1 ∨ X.lv = lvl) then (X, 0) else (nilN, 12)) := (show _ = _ by rw [HRD.out, if_pos rfl])
    clear HRD
    go_enter Tryz.func38, Tryz.ntmps38
    go_upto_region 1 with fail
    go_upto_region 3 with (first
      | (refine invoke_op (.tmp 11) "Get" (.tmp 12) _ rfl rfl (.iface T rv) G recv (.int .i64 n) rfl HM.out rfl HC.out ?_; clear HC HM; rintro e w1 ⟨pv, qv, rfl, P1, b1, lm1⟩; refine ⟨_, rfl, ?_⟩)
      | (refine store_node rfl _ _ rfl w1.heap.size rfl X pv qv rfl P1.p.one P1.q.one nilN (.slice none 0 0) (.slice none 0 0) (HasN.new w1 nilN (.slice none 0 0) (.slice none 0 0) _ rfl rfl rfl) ?_; intro x2 hu2 tx2 sx2))
    have HLM : Hid ((NilOk pv ∧ NilOk qv) ∧ Lim (NB w) pv ∧ Lim (NB w) qv) := ⟨lm1.1, lm1.2.1.mono (fun _ hk => nb_alloc hk), lm1.2.2.mono (fun _ hk => nb_alloc hk)⟩
    clear lm1
    have BS := step_below (Below.refl _ w1) _ tx2
    have hs1 := b1.size
    simp at hs1
    have Z2 : HasN x2 w.heap.size nilN (.slice none 0 0) (.slice none 0 0) := (HN0.out.1.below b1 (by simp)).below BS (by omega)
    have B2 : Below w.heap.size w x2 := (HN0.out.2.trans (b1.mono (by simp))).trans (BS.mono (by omega))
    have P2 : Parts x2 X pv qv := P1.below BS
    have hlt2 : w1.heap.size < x2.heap.size := hu2.lt
    obtain ⟨c0, c1, c2⟩ := hu2.cells
    clear BS P1 b1 tx2 sx2 HN0
    have d12 : w1.heap.size ≠ w.heap.size := by omega
    generalize w1.heap.size = d at *
    have hr0 := right_calls x2 X pv qv P2
    cases hr : rightN X with
    | false =>
      have HF : Hid (RES = (nilN, 12)) := (show _ = _ by rw [HX.out, if_neg (by rw [hr]; simp)])
      rw [hr] at hr0
      clear hr HX
      go_wp2_with (first
        | (refine load_node _ rfl d rfl rfl _ _ _ hu2 ?_)
        | (go_at_call 61; refine hr0.mono ?_; rintro e w3 ⟨rfl, b3⟩)
        | (refine build_any rfl 60 _ rfl [] rfl _ Tryz.node0 ?_)
        | (refine store_node rfl _ _ rfl w.heap.size rfl nilN (.slice none 0 0) (.slice none 0 0) rfl rfl rfl nilN (.slice none 0 0) (.slice none 0 0) (Z2.below b3 Z2.lt) ?_; intro y hy ty sy))
      refine ret_node_ok rfl _ _ _ _ _ rfl rfl hy rfl ?_
      rw [HF.out]
      exact ⟨_, _, rfl, Parts.nil _, below_touched (B2.trans (b3.mono B2.size)) ty (Nat.le_refl _) (Nat.le_refl _), ⟨nilOk0, nilOk0⟩, Lim.nil _ _ _, Lim.nil _ _ _⟩
    | true =>
      rw [hr] at hr0
      by_cases hl : lvl = -1 ∨ X.lv = lvl
      · have HF : Hid (RES = (X, 0)) := (show _ = _ by rw [HX.out, if_pos ⟨hr, hl⟩])
        clear HX hr
        have hl' : (lvl != -1) = false ∨ ((lvl != -1) = true ∧ (X.lv != lvl) = false) := by
          by_cases h1 : lvl = -1
          · exact .inl (by simpa using h1)
          · exact .inr ⟨by simpa using h1, by simpa using (hl.resolve_left h1)⟩
        clear hl
        rcases hl' with h1 | ⟨h1, h2⟩
        all_goals
          go_wp2_with (first
            | (refine load_node _ rfl d rfl rfl _ _ _ (hu2.below b3 hlt2) ?_)
            | (refine load_node _ rfl d rfl rfl _ _ _ hu2 ?_)
            | (go_at_call 61; refine hr0.mono ?_; rintro e w3 ⟨rfl, b3⟩; obtain ⟨c0, c1, c2⟩ := (hu2.below b3 hlt2).cells)
            | (refine store_node rfl _ _ rfl w.heap.size rfl X pv qv rfl hu2.2.1 hu2.2.2 nilN (.slice none 0 0) (.slice none 0 0) (Z2.below b3 Z2.lt) ?_; intro y hy ty sy))
          refine ret_node_ok rfl _ _ _ _ _ rfl rfl hy rfl ?_
          rw [HF.out]
          exact ⟨_, _, rfl, (P2.below b3).touchN (Z2.below b3 Z2.lt) ty, below_touched (B2.trans (b3.mono B2.size)) ty (Nat.le_refl _) (Nat.le_refl _), HLM.out⟩
      · have HF : Hid (RES = (nilN, 12)) := (show _ = _ by rw [HX.out, if_neg (fun h => hl h.2)])
        have h1 : (lvl != -1) = true := by simpa using fun h => hl (.inl h)
        have h2 : (X.lv != lvl) = true := by simpa using fun h => hl (.inr h)
        clear hr HX hl
        go_wp2_with (first
          | (refine load_node _ rfl d rfl rfl _ _ _ hu2 ?_)
          | (go_at_call 61; refine hr0.mono ?_; rintro e w3 ⟨rfl, b3⟩; obtain ⟨c0, c1, c2⟩ := (hu2.below b3 hlt2).cells)
          | (refine build_any rfl 60 _ rfl [] rfl _ Tryz.node0 ?_)
          | (refine store_node rfl _ _ rfl w.heap.size rfl nilN (.slice none 0 0) (.slice none 0 0) rfl rfl rfl nilN (.slice none 0 0) (.slice none 0 0) (Z2.below b3 Z2.lt) ?_; intro y hy ty sy))
        refine ret_node_ok rfl _ _ _ _ _ rfl rfl hy rfl ?_
        rw [HF.out]
        exact ⟨_, _, rfl, Parts.nil _, below_touched (B2.trans (b3.mono B2.size)) ty (Nat.le_refl _) (Nat.le_refl _), ⟨nilOk0, nilOk0⟩, Lim.nil _ _ _, Lim.nil _ _ _⟩
  · have HF : Hid (RES = (nilN, c)) := (show _ = _ by rw [HRD.out, if_neg hc])
    have hc' : (c != 0) = true := by simpa using hc
    clear HRD hc
    go_enter Tryz.func38, Tryz.ntmps38
    go_upto_region 1 with fail
    go_upto_region 3 with (first
      | (refine invoke_op (.tmp 11) "Get" (.tmp 12) _ rfl rfl (.iface T rv) G recv (.int .i64 n) rfl HM.out rfl HC.out ?_; clear HC HM; rintro e w1 ⟨pv, qv, rfl, P1, b1, lm1⟩; refine ⟨_, rfl, ?_⟩)
      | (refine store_node rfl _ _ rfl w1.heap.size rfl X pv qv rfl P1.p.one P1.q.one nilN (.slice none 0 0) (.slice none 0 0) (HasN.new w1 nilN (.slice none 0 0) (.slice none 0 0) _ rfl rfl rfl) ?_; intro x2 hu2 tx2 sx2))
    have HLM : Hid ((NilOk pv ∧ NilOk qv) ∧ Lim (NB w) pv ∧ Lim (NB w) qv) := ⟨lm1.1, lm1.2.1.mono (fun _ hk => nb_alloc hk), lm1.2.2.mono (fun _ hk => nb_alloc hk)⟩
    clear lm1
    have BS := step_below (Below.refl _ w1) _ tx2
    have hs1 := b1.size
    simp at hs1
    have Z2 : HasN x2 w.heap.size nilN (.slice none 0 0) (.slice none 0 0) := (HN0.out.1.below b1 (by simp)).below BS (by omega)
    have B2 : Below w.heap.size w x2 := (HN0.out.2.trans (b1.mono (by simp))).trans (BS.mono (by omega))
    clear BS P1 b1 tx2 sx2 HN0 hu2
    generalize w1.heap.size = d at *
    go_wp2_with (first
      | (refine build_any rfl 60 _ rfl [] rfl _ Tryz.node0 ?_)
      | (refine store_node rfl _ _ rfl w.heap.size rfl nilN (.slice none 0 0) (.slice none 0 0) rfl rfl rfl nilN (.slice none 0 0) (.slice none 0 0) Z2 ?_; intro y hy ty sy))
    refine ret_node_ok rfl _ _ _ _ _ rfl rfl hy rfl ?_
    rw [HF.out]
    exact ⟨_, _, rfl, Parts.nil _, below_touched B2 ty (Nat.le_refl _) (Nat.le_refl _), ⟨nilOk0, nilOk0⟩, Lim.nil _ _ _, Lim.nil _ _ _⟩
set_option maxHeartbeats 4000000 in
set_option maxRecDepth 100000 in
theorem mgetN_calls (w : World) (p q b m K L : Nat) (S : RfS) (N : Int → Option NV) (n : Int) (h : Mm w p q b m K L S N) (hn : I64 n) : Calls Tryz.prog 32 #[.pointer (some ⟨p, 0, none⟩), .int .i64 n] w (ReadN w (getM N n)) := by
  have B0 : Below w.heap.size w (w.alloc (.cells #[.int .i64 0, .slice none 0 0, .slice none 0 0] 60)) := (Below.refl _ w).alloc (Nat.le_refl _) _
  have M0 := h.below B0 (Nat.le_refl _)
  have HN0 : Hid (HasN (w.alloc (.cells #[.int .i64 0, .slice none 0 0, .slice none 0 0] 60)) w.heap.size nilN (.slice none 0 0) (.slice none 0 0)) := HasN.new w nilN _ _ _ rfl rfl rfl
  obtain ⟨c0, c1⟩ := M0.cells
  have hl := M0.mp.look hn
  have HB0 : Hid (Below w.heap.size w (w.alloc (.cells #[.int .i64 0, .slice none 0 0, .slice none 0 0] 60))) := B0
  cases hN : N n with
  | none =>
    rw [hN] at hl
    have HF : Hid (getM N n = (nilN, 12)) := (show _ = _ by rw [getM, hN])
    clear h hn B0 M0
    simp only [Option.map_none, Option.getD_none, Option.isSome_none] at hl
    go_enter Tryz.func32, Tryz.ntmps32
    go_upto_region 1 with fail
    go_upto_region 2 with (refine store_node rfl _ _ rfl (w.heap.size + 1) rfl nilN (.slice none 0 0) (.slice none 0 0) rfl rfl rfl nilN (.slice none 0 0) (.slice none 0 0) (HasN.new _ nilN (.slice none 0 0) (.slice none 0 0) _ (by simp) rfl rfl) ?_; intro x2 hu2 tx2 sx2)
    have Z2 : HasN x2 w.heap.size nilN (.slice none 0 0) (.slice none 0 0) := (HN0.out.alloc _).touch tx2 (by omega)
    have B2 : Below w.heap.size w x2 := below_touched (HB0.out.alloc (by simp) _) tx2 (by omega) (Nat.le_refl _)
    clear hu2 tx2 sx2 hl c0 c1
    go_wp2_with (first
      | (refine build_any rfl 60 _ rfl [] rfl _ Tryz.node0 ?_)
      | (refine store_node rfl _ _ rfl w.heap.size rfl nilN (.slice none 0 0) (.slice none 0 0) rfl rfl rfl nilN (.slice none 0 0) (.slice none 0 0) Z2 ?_; intro y hy ty sy))
    refine ret_node_ok rfl _ _ _ _ _ rfl rfl hy rfl ?_
    rw [HF.out]
    exact ⟨_, _, rfl, Parts.nil _, below_touched B2 ty (Nat.le_refl _) (Nat.le_refl _), ⟨nilOk0, nilOk0⟩, Lim.nil _ _ _, Lim.nil _ _ _⟩
  | some x =>
    obtain ⟨X, pv, qv⟩ := x
    rw [hN] at hl
    have HF : Hid (getM N n = (X, 0)) := (show _ = _ by rw [getM, hN])
    obtain ⟨P0, hnl, h20, _, _⟩ := h.pt n _ hN
    have HP0 : Hid (Parts w X pv qv ∧ (NilOk pv ∧ NilOk qv) ∧ (X.ps.length ≤ 20 ∧ X.ks.length ≤ 20)) := ⟨P0, hnl, h20⟩
    clear h hn B0 M0 P0 hnl h20
    simp only [Option.map_some, Option.getD_some, Option.isSome_some, nvOf] at hl
    go_enter Tryz.func32, Tryz.ntmps32
    go_upto_region 1 with fail
    go_upto_region 2 with (refine store_node rfl _ _ rfl (w.heap.size + 1) rfl X pv qv rfl HP0.out.1.p.one HP0.out.1.q.one nilN (.slice none 0 0) (.slice none 0 0) (HasN.new _ nilN (.slice none 0 0) (.slice none 0 0) _ (by simp) rfl rfl) ?_; intro x2 hu2 tx2 sx2)
    have Z2 : HasN x2 w.heap.size nilN (.slice none 0 0) (.slice none 0 0) := (HN0.out.alloc _).touch tx2 (by omega)
    have B2 : Below w.heap.size w x2 := below_touched (HB0.out.alloc (by simp) _) tx2 (by omega) (Nat.le_refl _)
    have ha := apart_node x2 X pv qv (HP0.out.1.below B2) HP0.out.2.2 HP0.out.2.1
    clear tx2 sx2 hl c0 c1
    go_wp2_with (first
      | (refine load_node _ rfl (w.heap.size + 1) rfl rfl _ _ _ hu2 ?_)
      | (go_at_call 56; refine ha.mono ?_; rintro e w3 ⟨tp, tq, rfl, en1, en2, b3⟩)
      | (refine store_node rfl _ _ rfl w.heap.size rfl X tp tq rfl en1.els.one en2.els.one nilN (.slice none 0 0) (.slice none 0 0) (Z2.below b3 Z2.lt) ?_; intro y hy ty sy))
    refine ret_node_ok rfl _ _ _ _ _ rfl rfl hy rfl ?_
    rw [HF.out]
    have hs2 := B2.size
    exact ⟨_, _, rfl, (⟨en1.els, en2.els⟩ : Parts w3 X tp tq).touchN (Z2.below b3 Z2.lt) ty, below_touched (B2.trans (b3.mono B2.size)) ty (Nat.le_refl _) (Nat.le_refl _), ⟨en1.2, en2.2⟩, en1.lim.mono (fun k hk => by unfold NB; omega), en2.lim.mono (fun k hk => by unfold NB; omega)⟩
theorem mem_getterN (p q b m K L : Nat) (S : RfS) (N : Int → Option NV) : GetterN (fun w => Mm w p q b m K L S N) (.iface 29 (.pointer (some ⟨p, 0, none⟩))) (getM N) where
  get := ⟨32, _, mem_meth p, fun w n hR hn => mgetN_calls w p q b m K L S N n hR hn⟩
  mono := fun w w' h b => h.below b (Nat.le_refl _)
  ifc := ⟨_, _, rfl⟩

/-- A node's pairs, as they are merged; what a block holds. -/
def toPq (p : Pr) : Pq := if h : p.k.length = 24 then ⟨p.k, h, p.s⟩ else pq0
theorem toPq_eq {p : Pr} (h : p.k.length = 24) : toPq p = ⟨p.k, h, p.s⟩ := by rw [toPq, dif_pos h]
def kidN (k : Kd) : Int × Int := ((num k.k : Int), k.n)
def cntN (X : Nod) : List Pq ⊕ List (Int × Int) := if X.lv = 0 then .inl (X.ps.map toPq) else .inr (X.ks.map kidN)
def stG (g : Int → Nod × Int) : Store Pq := fun n => if (g n).2 = 0 then some (cntN (g n).1) else none
/-- The pairs of a node as a slice of pairs. -/
theorem els_slB {w : World} {sv : Value} {l : List Pr} (h : Els w sv (l.map Pr.el)) (hn : NilOk sv) : SlB encQ w w.heap.size sv (l.map toPq) := by
  obtain ⟨r, ⟨ad, cap, e, h1, h2, hok, hc⟩, _⟩ := h
  rw [List.length_map] at e h1 h2
  have hk : ∀ i (hi : i < l.length), (l[i]).k.length = 24 := fun i hi => by
    have := (hok i (by rw [List.length_map]; exact hi)).len
    rw [List.getElem_map] at this
    exact this
  refine ⟨ad, cap, by rw [List.length_map]; exact e, by rw [List.length_map]; exact h1, by rw [List.length_map]; exact h2, fun q => hn l.length cap (by rw [e, q]), ?_⟩
  rcases hc with hc | ⟨g, off, q1, q2, q3, q4⟩
  · exact .inl (by have := List.map_eq_nil_iff.1 hc; rw [this]; rfl)
  · refine .inr ⟨g, off, q1, q3, fun i hi => ?_⟩
    rw [List.length_map] at hi
    have h5 := q4 i (by rw [List.length_map]; exact hi)
    rw [List.getElem_map] at h5
    rw [List.getElem_map, toPq_eq (hk i hi)]
    exact h5
theorem els_len {w : World} {sv : Value} {l : List Pr} (h : Els w sv (l.map Pr.el)) : ∀ p ∈ l, p.k.length = 24 := by
  obtain ⟨r, ⟨ad, cap, e, h1, h2, hok, hc⟩, _⟩ := h
  intro p hp
  obtain ⟨i, hi, rfl⟩ := List.mem_iff_getElem.1 hp
  have := (hok i (by rw [List.length_map]; exact hi)).len
  rw [List.getElem_map] at this
  exact this
end Go.Proofs.YtjhdnpplmlddaaaGreat
