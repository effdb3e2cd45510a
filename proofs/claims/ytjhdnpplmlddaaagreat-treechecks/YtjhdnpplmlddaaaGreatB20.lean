import Derived.Test.YtjhdnpplmlddaaaGreatSi
import Derived.Test.YtjhdnpplmlddaaaGreatB19
import Derived.OwnWalk
/- Get of package tree. -/
namespace Go.Proofs.YtjhdnpplmlddaaaGreat
set_option linter.unusedVariables false
open Go.RowKit

theorem run_field_n (w : World) (E : El) (h : E.Ok) : (Instr.field 93 (ev E) 1).run Tryz.prog w = .ok E.v w := by
  have e : (ec E)[24]? = some E.v := by
    rw [ec, List.getElem?_append_right (by rw [bc_length, h.len]; exact Nat.le_refl _), bc_length, h.len]
    rfl
  simp [Instr.field, go_sem, asAgg, e, Result.andThen]
theorem store_node_op {o : Oper} {a : Act} {w : World} {K : Act → World → Prop} {Q : Exit → Act → World → Prop} (x y : Operand) (ho : o.op = .store 60 x y) (b : Nat) (hx : a.eval x = .pointer (some ⟨b, 0, none⟩)) (T : Nod) (tp tq : Value) (hy : a.eval y = nv T tp tq) (h1 : tp.oneCell' = true) (h2 : tq.oneCell' = true) (X : Nod) (pv qv : Value) (hF : HasN w b X pv qv)
    (h : ∀ w', HasN w' b T tp tq → Touch b none w w' → w'.heap.size = w.heap.size → K (a.put o.dst undef) w') : o.wp Tryz.prog a w K Q :=
  wp_store_row _ x y ho b _ hx hy _ _ hF.1 Tryz.node_info rfl (nc_all _ _ _ h1 h2) (h _ ⟨setRow_heap w b _ _ _ _ hF.1, h1, h2⟩ (touch_setRow _ _ _) (by simp))
/-- Down by a key, as far as there are levels. -/
def downP (g : Int → Nod × Int) (K : List UInt8) : Nat → Nod × Int → Nod × Int
  | 0, r => r
  | m + 1, r => if r.2 = 0 ∧ 0 < r.1.lv then downP g K m (readP g (kidAt r.1.ks (wayP r.1.ks K)).n (r.1.lv - 1)) else r
def findP : List Pr → List UInt8 → Option ByteArray
  | [], _ => none
  | p :: l, K => if p.k == K then some p.s else findP l K
def tellP : Option ByteArray → Int → ByteArray × Bool × Int
  | some s, _ => (s, true, 0)
  | none, c => (⟨#[]⟩, false, c)
def getP (g : Int → Nod × Int) (root : Int) (K : List UInt8) : ByteArray × Bool × Int := if root = 0 then (⟨#[]⟩, false, 0) else
  tellP (findP (downP g K 12 (readP g root (-1))).1.ps K) (downP g K 12 (readP g root (-1))).2
structure GT (w y : World) (K : List UInt8) (d : Nat) (X : Nod) (px qx : Value) : Prop where
  k : Has y w.heap.size K
  m : HasN y d X px qx
  q : Parts y X px qx
  bel : Below w.heap.size w y
  dge : w.heap.size < d
section
variable {w y z : World} {K : List UInt8} {d : Nat} {X Z : Nod} {px qx zp zq : Value}
theorem GT.called (h : GT w y K d X px qx) (b : Below y.heap.size y z) : GT w z K d X px qx := ⟨h.k.below b h.k.lt, h.m.below b h.m.lt, h.q.below b, h.bel.trans (b.mono h.bel.size), h.dge⟩
theorem GT.stored (h : GT w y K d X px qx) (hu : HasN z d Z zp zq) (t : Touch d none y z) (hq : Parts z Z zp zq) : GT w z K d Z zp zq := ⟨h.k.touch t (by have := h.dge; omega), hu, hq, below_touched h.bel t (by have := h.dge; omega) (Nat.le_refl _), h.dge⟩
end
set_option maxHeartbeats 16000000 in
set_option maxRecDepth 100000 in
theorem get_calls {lim : Nat} {R : World → Prop} {iv : Value} {g : Int → Nod × Int} (D : Getter lim R iv g) (w : World) (root : Int) (KY : List UInt8) (hK : KY.length = 24) (hR : R w) (hn : Rng root) :
    Calls Tryz.prog 20 #[iv, .int .i64 root, kv KY] w fun e w' => e = .returned (.tuple #[.string (getP g root KY).1, .bool (getP g root KY).2.1, .int .i64 (getP g root KY).2.2]) ∧ Below w.heap.size w w' := by
  obtain ⟨T0, rv, rfl⟩ := D.ifc
  obtain ⟨RS, hRS⟩ : ∃ RS, RS = getP g root KY := ⟨_, rfl⟩
  rw [← hRS]
  have HKY : Hid (KY.length = 24) := hK
  have HB0 : Hid (Has (w.alloc (.cells (bc KY).toArray 25)) w.heap.size KY ∧ Below w.heap.size w (w.alloc (.cells (bc KY).toArray 25))) := ⟨Has.new w KY hK, (Below.refl _ w).alloc (Nat.le_refl _) _⟩
  by_cases h0 : root = 0
  · have HF : Hid (RS = (⟨#[]⟩, false, 0)) := (show _ = _ by rw [hRS, getP, if_pos h0])
    have h0' : (root == 0) = true := by simpa using h0
    clear hRS h0
    go_enter Tryz.func20, Tryz.ntmps20
    go_wp2_with fail
    go_ret3
    exact ⟨by rw [HF.out]; rfl, HB0.out.2⟩
  · have h0' : (root == 0) = false := by simpa using h0
    obtain ⟨DN, hDN⟩ : ∃ DN, DN = downP g KY 12 (readP g root (-1)) := ⟨_, rfl⟩
    have HF : Hid (RS = tellP (findP DN.1.ps KY) DN.2) := (show _ = _ by rw [hRS, getP, if_neg h0, hDN])
    have HRW : Hid (∀ y, Below w.heap.size w y → R y) := fun y hy => D.mono _ _ hR hy
    have hrc := read_calls D (w.alloc (.cells (bc KY).toArray 25)) root (-1) (D.mono _ _ hR HB0.out.2) hn
    have HRA : Hid (∀ (y : World) (n lvl : Int), R y → Rng n → Calls Tryz.prog 38 #[.iface T0 rv, .int .i64 n, .int .i64 lvl] y (ReadTo lim y (readP g n lvl))) := fun y n lvl a b => read_calls D y n lvl a b
    have HR0 : Hid ((readP g root (-1)).2 = 0 → rightN (readP g root (-1)).1 = true) := fun q => by
      unfold readP at q ⊢
      split at q
      · rename_i q1
        rw [if_pos q1]
        split at q
        · rename_i q2
          rw [if_pos q2]
          exact q2.1
        · simp at q
      · rename_i q1
        exact absurd q q1
    have HDN : Hid (downP g KY 12 (readP g root (-1)) = DN) := hDN.symm
    clear hRS h0 D hR hn hDN hK
    generalize readP g root (-1) = RR at *
    obtain ⟨X0, c0⟩ := RR
    simp only at HR0
    go_enter Tryz.func20, Tryz.ntmps20
    go_upto_region 4 with (go_at_call 25; refine (given_calls _ T0 rv).mono ?_; rintro e w1 ⟨rfl, rfl⟩)
    go_upto_region 5 with (first
      | (go_at_call 38; refine hrc.mono ?_; rintro e w2 ⟨py, qy, rfl, P2, b2, _⟩)
      | (refine store_node rfl _ _ rfl w2.heap.size rfl X0 py qy rfl P2.p.one P2.q.one nilN (.slice none 0 0) (.slice none 0 0) (HasN.new w2 nilN (.slice none 0 0) (.slice none 0 0) _ rfl rfl rfl) ?_; intro x3 hu3 tx3 sx3))
    have BS3 := step_below (Below.refl _ w2) _ tx3
    have hs2 := b2.size
    simp at hs2
    have M3 : Hid (GT w x3 KY w2.heap.size X0 py qy) := ⟨(HB0.out.1.below b2 (by simp)).below BS3 (by omega), hu3, P2.below BS3, (HB0.out.2.trans (b2.mono (by simp))).trans (BS3.mono (by omega)), by omega⟩
    clear hu3 BS3 P2 b2 tx3 sx3 hrc hs2 HB0
    generalize w2.heap.size = d at *
    go_wp2_with fail
    go_loopg [10] 12 (fun m v wr => ∃ (X : Nod) (c : Int) (px qx : Value), v = .int .i64 c ∧ GT w wr KY d X px qx ∧ Hid (downP g KY m (X, c) = DN) ∧ Hid (c = 0 → rightN X = true ∧ X.lv ≤ (m : Int)))
    case atStart => exact ⟨X0, c0, py, qy, rfl, M3.out, HDN, fun q => ⟨HR0.out q, by have := (fits (HR0.out q)).l1; simp; omega⟩⟩
    case round =>
      clear M3 HDN HR0
      obtain ⟨X, c, px, qx, rfl, G, HD, HX⟩ := hrel
      obtain ⟨xp, xcp, rfl⟩ := G.q.lenP
      obtain ⟨xq, xcq, rfl⟩ := G.q.lenQ
      obtain ⟨c0, c1, c2⟩ := G.m.cells
      by_cases hgo : c = 0 ∧ 0 < X.lv
      · obtain ⟨hc, hlv⟩ := hgo
        subst hc
        obtain ⟨hrX, hlm⟩ := HX.out rfl
        cases gk with
        | zero => exfalso; simp at hlm; omega
        | succ m =>
        have FX := fits hrX
        have hl11 := FX.l1
        have HK1 : Hid (1 ≤ X.ks.length) := (show _ ≤ _ by
          rcases FX.one with ⟨q1, _, _⟩ | ⟨_, _, q3⟩
          · omega
          · omega)
        have hwl := wayP_lt KY HK1.out
        have HKO : Hid (kidAt X.ks (wayP X.ks KY)).el.Ok := Kd.ok_el (by rw [kidAt_eq hwl]; exact G.q.keyed.2 _ (List.getElem_mem hwl))
        have hkr : Rng (kidAt X.ks (wayP X.ks KY)).n := by
          rw [kidAt_eq hwl]
          have := FX.bs _ (List.getElem_mem hwl)
          exact rng_small this.1 this.2
        have HRD : Hid (∀ y, R y → Calls Tryz.prog 38 #[.iface T0 rv, .int .i64 (kidAt X.ks (wayP X.ks KY)).n, .int .i64 (X.lv - 1)] y (ReadTo lim y (readP g (kidAt X.ks (wayP X.ks KY)).n (X.lv - 1)))) := fun y hy => HRA.out y _ _ hy hkr
        have HNX0 : Hid (downP g KY m (readP g (kidAt X.ks (wayP X.ks KY)).n (X.lv - 1)) = DN) := (show _ = _ by rw [← HD.out, downP, if_pos ⟨rfl, hlv⟩])
        have HRN0 : Hid ((readP g (kidAt X.ks (wayP X.ks KY)).n (X.lv - 1)).2 = 0 → rightN (readP g (kidAt X.ks (wayP X.ks KY)).n (X.lv - 1)).1 = true ∧ (readP g (kidAt X.ks (wayP X.ks KY)).n (X.lv - 1)).1.lv ≤ (m : Int)) := fun q => by
          have := readP_ok q (show X.lv - 1 ≠ -1 by omega)
          exact ⟨this.1, by rw [this.2]; simp at hlm; omega⟩
        have hwl2 : IntKind.i64.wrap (X.lv - 1) = X.lv - 1 := by rw [IntKind.wrap_i64]; omega
        clear HD HX hrX hlm FX hwl hkr
        generalize readP g (kidAt X.ks (wayP X.ks KY)).n (X.lv - 1) = ZZ at *
        obtain ⟨Z, cz⟩ := ZZ
        have HNX : Hid (downP g KY m (Z, cz) = DN) := HNX0
        have HRN : Hid (cz = 0 → rightN Z = true ∧ Z.lv ≤ (m : Int)) := HRN0
        clear HNX0 HRN0
        go_upto_region 6 with fail
        have G0 := G.called (z := wr.drew) ⟨rfl, rfl, rfl, Nat.le_refl _, fun _ _ => rfl⟩
        clear G c0 c1 c2
        refine wp_region_noPanic ?_
        refine wp_region_held_drew (S := (fun y => Has y w.heap.size KY)) (by kernel_rfl) G0.k (fun hHeld => ?_)
        refine wpAnyH_take (i := 0) (v := ?_) rfl (by kernel_rfl) (by kernel_rfl) (by kernel_rfl) (fun _ _ _ h => h) (Or.inl ⟨by rfl, ?_⟩) hHeld ?_
        case refine_2 => (intro w hSw; go_simp; try (with_reducible rfl))
        (try simp only [gs])
        refine wpAnyH_take (i := 1) (v := ?_) rfl (by kernel_rfl) (by kernel_rfl) (by kernel_rfl) (fun _ _ _ h => h) (Or.inl ⟨by rfl, ?_⟩) hHeld ?_
        case refine_2 => (intro w hSw; go_simp; try (with_reducible rfl))
        (try simp only [gs])
        refine wpAnyH_take (i := 3) rfl (by kernel_rfl) (by kernel_rfl) (by kernel_rfl) (fun _ _ _ h => h) (yieldsIf_load_mid (by rfl) _ _ rfl _ _ rfl _ _ (fun _ h => h.range) Tryz.underlying25 rfl (by rw [bc_length, HKY.out]; exact Tryz.key_info)) hHeld ?_
        (try simp only [gs])
        refine wpAnyH_take (i := 6) (v := ?_) rfl (by kernel_rfl) (by kernel_rfl) (by kernel_rfl) (fun _ _ _ h => h) (Or.inl ⟨by rfl, ?_⟩) hHeld ?_
        case refine_2 => (intro w hSw; go_simp; try (with_reducible rfl))
        (try simp only [gs])
        generalize wr.drew = y0 at *
        refine wpAnyH_ready (rs := [2, 7]) (by kernel_rfl) (by simp) (AllReadyH.cons rfl (fun K hK => ?_) (AllReadyH.cons rfl (fun K hK => ?_) AllReadyH.nil))
        · rw [if_pos (by rfl)]
          (try simp only [gs])
          obtain ⟨c0, c1, c2⟩ := G0.m.cells
          go_simp
          refine hK.out _ _ G0.k (fun hHeld => ?_)
          clear hK K
          (try simp only [gs])
          clear c0 c1 c2
          refine wpAnyH_ready (rs := [4, 7]) (by kernel_rfl) (by simp) (AllReadyH.cons rfl (fun K hK => ?_) (AllReadyH.cons rfl (fun K hK => ?_) AllReadyH.nil))
          · rw [if_pos (by rfl)]
            (try simp only [gs])
            go_simp
            refine (wayTo_calls y0 xq xcq X.ks G0.q.q HK1.out KY HKY.out).mono ?_
            rintro e y1 ⟨rfl, bl⟩
            have G1 := G0.called bl
            clear bl
            refine hK.out _ _ G1.k (fun hHeld => ?_)
            clear hK K
            (try simp only [gs])
            refine wpAnyH_take (i := 5) (v := .int .i64 (kidAt X.ks (wayP X.ks KY)).n) rfl (by kernel_rfl) (by kernel_rfl) (by kernel_rfl) (fun _ _ _ h => h) (Or.inl ⟨by rfl, fun w _ => by have q := run_field_n w (kidAt X.ks (wayP X.ks KY)).el HKO.out; go_simp; rfl⟩) hHeld ?_
            (try simp only [gs])
            refine wpAnyH_ready (rs := [7]) (by kernel_rfl) (by simp) (AllReadyH.cons rfl (fun K hK => ?_) AllReadyH.nil)
            rw [if_pos (by rfl)]
            (try simp only [gs])
            obtain ⟨c0, c1, c2⟩ := G1.m.cells
            go_simp
            refine hK.out _ _ G1.k (fun hHeld => ?_)
            clear hK K
            (try simp only [gs])
            clear c0 c1 c2
            refine wpAnyH_take (i := 8) (v := ?_) rfl (by kernel_rfl) (by kernel_rfl) (by kernel_rfl) (fun _ _ _ h => h) (Or.inl ⟨by rfl, ?_⟩) hHeld ?_
            case refine_2 => (intro w hSw; go_simp; try (with_reducible rfl))
            (try simp only [gs])
            refine wpAnyH_ready (rs := [9]) (by kernel_rfl) (by simp) (AllReadyH.cons rfl (fun K hK => ?_) AllReadyH.nil)
            rw [if_pos (by rfl)]
            (try simp only [gs])
            go_simp
            refine (HRD.out y1 (HRW.out _ G1.bel)).mono ?_
            rintro e y2 ⟨zp, zq, rfl, PZ, bl, _⟩
            have G2 := G1.called bl
            clear bl
            refine hK.out _ _ G2.k (fun hHeld => ?_)
            clear hK K
            (try simp only)
            refine wpAnyH_take (i := 10) (v := ?_) rfl (by kernel_rfl) (by kernel_rfl) (by kernel_rfl) (fun _ _ _ h => h) (Or.inl ⟨by rfl, ?_⟩) hHeld ?_
            case refine_2 => (intro w hSw; go_simp; try (with_reducible rfl))
            (try simp only [gs])
            refine wpAnyH_take (i := 11) (v := ?_) rfl (by kernel_rfl) (by kernel_rfl) (by kernel_rfl) (fun _ _ _ h => h) (Or.inl ⟨by rfl, ?_⟩) hHeld ?_
            case refine_2 => (intro w hSw; go_simp; try (with_reducible rfl))
            (try simp only [gs])
            refine wpAnyH_take (i := 12) (v := ?_) rfl (by kernel_rfl) (by kernel_rfl) (by kernel_rfl) (fun _ _ _ h => h) (Or.inl ⟨by rfl, ?_⟩) hHeld ?_
            case refine_2 => (intro w hSw; go_simp; try (with_reducible rfl))
            (try simp only [gs])
            refine wpAnyH_ready (rs := [13]) (by kernel_rfl) (by simp) (AllReadyH.cons rfl (fun K hK => ?_) AllReadyH.nil)
            rw [if_pos (by rfl)]
            (try simp only [gs])
            refine store_node_op _ _ rfl d rfl Z zp zq rfl PZ.p.one PZ.q.one X _ _ G2.m ?_
            intro y3 hu tx sx
            have GN : GT w y3 KY d Z zp zq := G2.stored hu tx (PZ.touchN G2.m tx)
            refine hK.out _ _ GN.k (fun hHeld => ?_)
            clear hK K
            (try simp only [gs])
            refine wpAnyH_take (i := 14) (v := ?_) rfl (by kernel_rfl) (by kernel_rfl) (by kernel_rfl) (fun _ _ _ h => h) (Or.inl ⟨by rfl, ?_⟩) hHeld ?_
            case refine_2 => (intro w hSw; go_simp; try (with_reducible rfl))
            (try simp only [gs])
            refine wpAnyH_done (by kernel_rfl) ?_ _
            refine NoPanic.normal ?_
            go_wp2_with fail
            go_roundg m
            case measure => omega
            case rel => exact ⟨Z, cz, zp, zq, rfl, GN, HNX, HRN⟩
          · rw [if_pos (by rfl)]
            (try simp only [gs])
            obtain ⟨c0, c1, c2⟩ := G0.m.cells
            go_simp
            refine hK.out _ _ G0.k (fun hHeld => ?_)
            clear hK K
            (try simp only [gs])
            clear c0 c1 c2
            refine wpAnyH_take (i := 8) (v := ?_) rfl (by kernel_rfl) (by kernel_rfl) (by kernel_rfl) (fun _ _ _ h => h) (Or.inl ⟨by rfl, ?_⟩) hHeld ?_
            case refine_2 => (intro w hSw; go_simp; try (with_reducible rfl))
            (try simp only [gs])
            refine wpAnyH_ready (rs := [4]) (by kernel_rfl) (by simp) (AllReadyH.cons rfl (fun K hK => ?_) AllReadyH.nil)
            rw [if_pos (by rfl)]
            (try simp only [gs])
            go_simp
            refine (wayTo_calls y0 xq xcq X.ks G0.q.q HK1.out KY HKY.out).mono ?_
            rintro e y1 ⟨rfl, bl⟩
            have G1 := G0.called bl
            clear bl
            refine hK.out _ _ G1.k (fun hHeld => ?_)
            clear hK K
            (try simp only [gs])
            refine wpAnyH_take (i := 5) (v := .int .i64 (kidAt X.ks (wayP X.ks KY)).n) rfl (by kernel_rfl) (by kernel_rfl) (by kernel_rfl) (fun _ _ _ h => h) (Or.inl ⟨by rfl, fun w _ => by have q := run_field_n w (kidAt X.ks (wayP X.ks KY)).el HKO.out; go_simp; rfl⟩) hHeld ?_
            (try simp only [gs])
            refine wpAnyH_ready (rs := [9]) (by kernel_rfl) (by simp) (AllReadyH.cons rfl (fun K hK => ?_) AllReadyH.nil)
            rw [if_pos (by rfl)]
            (try simp only [gs])
            go_simp
            refine (HRD.out y1 (HRW.out _ G1.bel)).mono ?_
            rintro e y2 ⟨zp, zq, rfl, PZ, bl, _⟩
            have G2 := G1.called bl
            clear bl
            refine hK.out _ _ G2.k (fun hHeld => ?_)
            clear hK K
            (try simp only)
            refine wpAnyH_take (i := 10) (v := ?_) rfl (by kernel_rfl) (by kernel_rfl) (by kernel_rfl) (fun _ _ _ h => h) (Or.inl ⟨by rfl, ?_⟩) hHeld ?_
            case refine_2 => (intro w hSw; go_simp; try (with_reducible rfl))
            (try simp only [gs])
            refine wpAnyH_take (i := 11) (v := ?_) rfl (by kernel_rfl) (by kernel_rfl) (by kernel_rfl) (fun _ _ _ h => h) (Or.inl ⟨by rfl, ?_⟩) hHeld ?_
            case refine_2 => (intro w hSw; go_simp; try (with_reducible rfl))
            (try simp only [gs])
            refine wpAnyH_take (i := 12) (v := ?_) rfl (by kernel_rfl) (by kernel_rfl) (by kernel_rfl) (fun _ _ _ h => h) (Or.inl ⟨by rfl, ?_⟩) hHeld ?_
            case refine_2 => (intro w hSw; go_simp; try (with_reducible rfl))
            (try simp only [gs])
            refine wpAnyH_ready (rs := [13]) (by kernel_rfl) (by simp) (AllReadyH.cons rfl (fun K hK => ?_) AllReadyH.nil)
            rw [if_pos (by rfl)]
            (try simp only [gs])
            refine store_node_op _ _ rfl d rfl Z zp zq rfl PZ.p.one PZ.q.one X _ _ G2.m ?_
            intro y3 hu tx sx
            have GN : GT w y3 KY d Z zp zq := G2.stored hu tx (PZ.touchN G2.m tx)
            refine hK.out _ _ GN.k (fun hHeld => ?_)
            clear hK K
            (try simp only [gs])
            refine wpAnyH_take (i := 14) (v := ?_) rfl (by kernel_rfl) (by kernel_rfl) (by kernel_rfl) (fun _ _ _ h => h) (Or.inl ⟨by rfl, ?_⟩) hHeld ?_
            case refine_2 => (intro w hSw; go_simp; try (with_reducible rfl))
            (try simp only [gs])
            refine wpAnyH_done (by kernel_rfl) ?_ _
            refine NoPanic.normal ?_
            go_wp2_with fail
            go_roundg m
            case measure => omega
            case rel => exact ⟨Z, cz, zp, zq, rfl, GN, HNX, HRN⟩
        · rw [if_pos (by rfl)]
          (try simp only [gs])
          obtain ⟨c0, c1, c2⟩ := G0.m.cells
          go_simp
          refine hK.out _ _ G0.k (fun hHeld => ?_)
          clear hK K
          (try simp only [gs])
          clear c0 c1 c2
          refine wpAnyH_take (i := 8) (v := ?_) rfl (by kernel_rfl) (by kernel_rfl) (by kernel_rfl) (fun _ _ _ h => h) (Or.inl ⟨by rfl, ?_⟩) hHeld ?_
          case refine_2 => (intro w hSw; go_simp; try (with_reducible rfl))
          (try simp only [gs])
          refine wpAnyH_ready (rs := [2]) (by kernel_rfl) (by simp) (AllReadyH.cons rfl (fun K hK => ?_) AllReadyH.nil)
          rw [if_pos (by rfl)]
          (try simp only [gs])
          obtain ⟨c0, c1, c2⟩ := G0.m.cells
          go_simp
          refine hK.out _ _ G0.k (fun hHeld => ?_)
          clear hK K
          (try simp only [gs])
          clear c0 c1 c2
          refine wpAnyH_ready (rs := [4]) (by kernel_rfl) (by simp) (AllReadyH.cons rfl (fun K hK => ?_) AllReadyH.nil)
          rw [if_pos (by rfl)]
          (try simp only [gs])
          go_simp
          refine (wayTo_calls y0 xq xcq X.ks G0.q.q HK1.out KY HKY.out).mono ?_
          rintro e y1 ⟨rfl, bl⟩
          have G1 := G0.called bl
          clear bl
          refine hK.out _ _ G1.k (fun hHeld => ?_)
          clear hK K
          (try simp only [gs])
          refine wpAnyH_take (i := 5) (v := .int .i64 (kidAt X.ks (wayP X.ks KY)).n) rfl (by kernel_rfl) (by kernel_rfl) (by kernel_rfl) (fun _ _ _ h => h) (Or.inl ⟨by rfl, fun w _ => by have q := run_field_n w (kidAt X.ks (wayP X.ks KY)).el HKO.out; go_simp; rfl⟩) hHeld ?_
          (try simp only [gs])
          refine wpAnyH_ready (rs := [9]) (by kernel_rfl) (by simp) (AllReadyH.cons rfl (fun K hK => ?_) AllReadyH.nil)
          rw [if_pos (by rfl)]
          (try simp only [gs])
          go_simp
          refine (HRD.out y1 (HRW.out _ G1.bel)).mono ?_
          rintro e y2 ⟨zp, zq, rfl, PZ, bl, _⟩
          have G2 := G1.called bl
          clear bl
          refine hK.out _ _ G2.k (fun hHeld => ?_)
          clear hK K
          (try simp only)
          refine wpAnyH_take (i := 10) (v := ?_) rfl (by kernel_rfl) (by kernel_rfl) (by kernel_rfl) (fun _ _ _ h => h) (Or.inl ⟨by rfl, ?_⟩) hHeld ?_
          case refine_2 => (intro w hSw; go_simp; try (with_reducible rfl))
          (try simp only [gs])
          refine wpAnyH_take (i := 11) (v := ?_) rfl (by kernel_rfl) (by kernel_rfl) (by kernel_rfl) (fun _ _ _ h => h) (Or.inl ⟨by rfl, ?_⟩) hHeld ?_
          case refine_2 => (intro w hSw; go_simp; try (with_reducible rfl))
          (try simp only [gs])
          refine wpAnyH_take (i := 12) (v := ?_) rfl (by kernel_rfl) (by kernel_rfl) (by kernel_rfl) (fun _ _ _ h => h) (Or.inl ⟨by rfl, ?_⟩) hHeld ?_
          case refine_2 => (intro w hSw; go_simp; try (with_reducible rfl))
          (try simp only [gs])
          refine wpAnyH_ready (rs := [13]) (by kernel_rfl) (by simp) (AllReadyH.cons rfl (fun K hK => ?_) AllReadyH.nil)
          rw [if_pos (by rfl)]
          (try simp only [gs])
          refine store_node_op _ _ rfl d rfl Z zp zq rfl PZ.p.one PZ.q.one X _ _ G2.m ?_
          intro y3 hu tx sx
          have GN : GT w y3 KY d Z zp zq := G2.stored hu tx (PZ.touchN G2.m tx)
          refine hK.out _ _ GN.k (fun hHeld => ?_)
          clear hK K
          (try simp only [gs])
          refine wpAnyH_take (i := 14) (v := ?_) rfl (by kernel_rfl) (by kernel_rfl) (by kernel_rfl) (fun _ _ _ h => h) (Or.inl ⟨by rfl, ?_⟩) hHeld ?_
          case refine_2 => (intro w hSw; go_simp; try (with_reducible rfl))
          (try simp only [gs])
          refine wpAnyH_done (by kernel_rfl) ?_ _
          refine NoPanic.normal ?_
          go_wp2_with fail
          go_roundg m
          case measure => omega
          case rel => exact ⟨Z, cz, zp, zq, rfl, GN, HNX, HRN⟩
      · have HDN : Hid (DN = (X, c)) := (show _ = _ by
          rw [← HD.out]
          cases gk with
          | zero => rfl
          | succ m => rw [downP, if_neg hgo])
        have hstop : (c == 0) = false ∨ ((c == 0) = true ∧ ¬ 0 < X.lv) := by
          by_cases q : c = 0
          · exact .inr ⟨by simpa using q, fun q2 => hgo ⟨q, q2⟩⟩
          · exact .inl (by simpa using q)
        have HF2 : Hid (RS = tellP (findP X.ps KY) c) := (show _ = _ by rw [HF.out, HDN.out])
        have mP := (els_max G.q.p).2
        obtain ⟨P, hP⟩ : ∃ P : Nat, P = X.ps.length := ⟨_, rfl⟩
        have HP : Hid (P = X.ps.length) := hP
        have hmN : (P : Int) ≤ 9223372036854775807 := by unfold maxLen at mP; omega
        have HG : Hid (GT w wr KY d X (.slice xp P xcp) (.slice xq X.ks.length xcq)) := (show GT _ _ _ _ _ _ _ by rw [hP]; exact G)
        obtain ⟨FND, hFND⟩ : ∃ FND, FND = findP X.ps KY := ⟨_, rfl⟩
        have HFD0 : Hid (findP (X.ps.drop 0) KY = FND) := (show _ = _ by rw [List.drop_zero, hFND])
        have HF3 : Hid (RS = tellP FND c) := (show _ = _ by rw [HF2.out, hFND])
        rw [← hP] at c1
        clear G HD HX HDN HF HF2 hgo mP hP hFND
        rcases hstop with hs | ⟨hs, hs2⟩
        all_goals
          go_wp2_with fail
          clear c0 c1 c2
          go_loopg [46] P (fun m v wy => ∃ j : Nat, j + m = P ∧ v = .int .i64 (j : Int) ∧ Hid (GT w wy KY d X (.slice xp P xcp) (.slice xq X.ks.length xcq)) ∧ Hid (findP (X.ps.drop j) KY = FND))
          case atStart => exact ⟨0, by omega, rfl, HG, HFD0⟩
          case round =>
            clear HG HFD0
            obtain ⟨j, hjm, rfl, HGY, HFD⟩ := hrel
            cases gk with
            | zero =>
              have hjP : ¬ (j : Int) < (P : Int) := by omega
              have HN : Hid (FND = none) := (show _ = _ by rw [← HFD.out, List.drop_eq_nil_of_le (by rw [← HP.out]; omega)]; rfl)
              go_wp2_with fail
              go_ret3
              exact ⟨by rw [HF3.out, HN.out]; rfl, HGY.out.bel⟩
            | succ m =>
              have hjP : (j : Int) < (P : Int) := by omega
              have hjl : j < X.ps.length := by rw [← HP.out]; omega
              obtain ⟨ga, oa, rfl, hga, hat, ok⟩ := els_get HGY.out.q.p j hjl
              have HR1 : Hid (wr.rangeAt ga (oa + j * 25) (ec (Pr.el X.ps[j])) ∧ (Pr.el X.ps[j]).Ok) := ⟨hat, ok⟩
              have HFD1 : Hid (FND = if (X.ps[j]).k == KY then some (X.ps[j]).s else findP (X.ps.drop (j + 1)) KY) := (show _ = _ by rw [← HFD.out, List.drop_eq_getElem_cons hjl, findP])
              have ev1 : (Pr.el X.ps[j]).v = .string (X.ps[j]).s := rfl
              have HEK : Hid ((Pr.el X.ps[j]).k = (X.ps[j]).k) := rfl
              generalize Pr.el X.ps[j] = E at *
              generalize hkk : (X.ps[j]).k = A at *
              generalize hss : (X.ps[j]).s = sb at *
              clear hkk hss hat ok HFD
              go_upto_region 10 with (first
                | (refine load_P _ rfl ga (oa + j * 25) rfl rfl E HR1.out.2 HR1.out.1 ?_)
                | (refine store_P rfl _ _ rfl wr.heap.size rfl E rfl HR1.out.2 nilP (zero_P wr _ rfl) ?_; intro x1 hu1 tx1 sx1))
              have GY1 := HGY.out.called (step_below (Below.refl _ wr) _ tx1)
              have HAL : Hid (A.length = 24) := (show _ = _ by rw [← HEK.out]; exact HR1.out.2.len)
              have HRA1 : Hid (x1.rangeAt wr.heap.size 0 (bc A)) := (show World.rangeAt _ _ _ _ by rw [← HEK.out]; exact range_key hu1.range)
              have cv := hu1.val
              rw [ev1] at cv
              have heq := eq_key x1 A KY HAL.out HKY.out
              clear tx1 sx1 HR1 HGY ev1 hu1
              generalize wr.heap.size = d9 at *
              cases hak : (A == KY) with
              | true =>
                have HN : Hid (FND = some sb) := (show _ = _ by rw [HFD1.out, hak]; rfl)
                rw [hak] at heq
                go_wp2_with (first
                  | (refine load_part _ rfl d9 0 rfl rfl A HAL.out HRA1.out ?_)
                  | (refine load_key _ rfl w.heap.size rfl rfl KY GY1.k ?_))
                go_ret3
                exact ⟨by rw [HF3.out, HN.out]; rfl, GY1.bel⟩
              | false =>
                have HNX : Hid (findP (X.ps.drop (j + 1)) KY = FND) := (show _ = _ by rw [HFD1.out, hak]; rfl)
                rw [hak] at heq
                go_wp2_with (first
                  | (refine load_part _ rfl d9 0 rfl rfl A HAL.out HRA1.out ?_)
                  | (refine load_key _ rfl w.heap.size rfl rfl KY GY1.k ?_))
                go_roundg m
                case measure => omega
                case rel => exact ⟨j + 1, by omega, congrArg _ (by first | omega | (unfold wrap64; omega)), GY1, HNX⟩
end Go.Proofs.YtjhdnpplmlddaaaGreat
