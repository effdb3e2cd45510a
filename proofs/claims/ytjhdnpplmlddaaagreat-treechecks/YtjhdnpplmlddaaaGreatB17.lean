import Derived.Test.YtjhdnpplmlddaaaGreatSi
import Derived.Test.YtjhdnpplmlddaaaGreatB12
/- checkKids of package tree. -/
namespace Go.Proofs.YtjhdnpplmlddaaaGreat
set_option linter.unusedVariables false
open Go.RowKit

/-- What checkKids holds in memory: the node and the span that were handed in. -/
structure CK (R : World → Prop) (w y : World) (x : Nod) (pv qv : Value) (s : Sp) : Prop where
  n : HasN y w.heap.size x pv qv
  s : SpIn y (w.heap.size + 1) s.F s.T s.e
  p : Parts y x pv qv
  r : R y
  bel : Below w.heap.size w y
/-- Beside them, of a round: the kid, its node, its part of the span. -/
structure CR (R : World → Prop) (w y : World) (x : Nod) (pv qv : Value) (s : Sp) (d : Nat) (E : El) (d2 : Nat) (Y : Nod) (py qy : Value) (d3 : Nat) (p : Sp) : Prop where
  c : CK R w y x pv qv s
  k : HasK y d E
  m : HasN y d2 Y py qy
  q : Parts y Y py qy
  t : SpIn y d3 p.F p.T p.e
section
variable {R : World → Prop} {w y z : World} {x : Nod} {pv qv : Value} {s : Sp} {d : Nat} {E : El} {d2 : Nat} {Y : Nod} {py qy : Value} {d3 : Nat} {p : Sp}
theorem CK.called (h : CK R w y x pv qv s) (hm : ∀ w w', R w → Below w.heap.size w w' → R w') (b : Below y.heap.size y z) : CK R w z x pv qv s := ⟨h.n.below b h.n.lt, h.s.below b h.s.lt, h.p.below b, hm _ _ h.r b, h.bel.trans (b.mono h.bel.size)⟩
theorem CR.called (h : CR R w y x pv qv s d E d2 Y py qy d3 p) (hm : ∀ w w', R w → Below w.heap.size w w' → R w') (b : Below y.heap.size y z) : CR R w z x pv qv s d E d2 Y py qy d3 p := ⟨h.c.called hm b, h.k.below b h.k.lt, h.m.below b h.m.lt, h.q.below b, h.t.below b h.t.lt⟩
end
theorem spanZ (w : World) : HasS (w.alloc (.cells #[.int .u8 0, .int .u8 0, .int .u8 0, .int .u8 0, .int .u8 0, .int .u8 0, .int .u8 0, .int .u8 0, .int .u8 0, .int .u8 0, .int .u8 0, .int .u8 0, .int .u8 0, .int .u8 0, .int .u8 0, .int .u8 0, .int .u8 0, .int .u8 0, .int .u8 0, .int .u8 0, .int .u8 0, .int .u8 0, .int .u8 0, .int .u8 0, .int .u8 0, .int .u8 0, .int .u8 0, .int .u8 0, .int .u8 0, .int .u8 0, .int .u8 0, .int .u8 0, .int .u8 0, .int .u8 0, .int .u8 0, .int .u8 0, .int .u8 0, .int .u8 0, .int .u8 0, .int .u8 0, .int .u8 0, .int .u8 0, .int .u8 0, .int .u8 0, .int .u8 0, .int .u8 0, .int .u8 0, .int .u8 0, .bool false] 27)) w.heap.size (zs 24) (zs 24) false := by
  have := HasS.new w (zs 24) (zs 24) false rfl rfl
  rw [span_cells] at this
  exact this
theorem nAt_in {l : List Kd} {i : Nat} (h : i < l.length) : nAt l i = (l[i]).n := nAt_eq l i h
theorem rng_small {n : Int} (h1 : 2 ≤ n) (h2 : n ≤ 4294967295) : Rng n := ⟨by omega, by omega⟩
set_option maxHeartbeats 16000000 in
set_option maxRecDepth 100000 in
theorem checkKids_step {lim : Nat} {R : World → Prop} {iv : Value} {g : Int → Nod × Int} (D : Getter lim R iv g) (x : Nod) (rec : Nod → Sp → Int)
    (hrec : ∀ w y py qy p, R w → Parts w y py qy → p.Ok → rightN y = true → y.lv = x.lv - 1 → Calls Tryz.prog 39 #[iv, nv y py qy, spv p] w fun e w' => e = .returned (.int .i64 (rec y p)) ∧ Below w.heap.size w w')
    (w : World) (pv qv : Value) (s : Sp) (hR : R w) (h : Parts w x pv qv) (hs : s.Ok) (hr : rightN x = true) :
    Calls Tryz.prog 39 #[iv, nv x pv qv, spv s] w fun e w' => e = .returned (.int .i64 (checkGo g rec x s x.ks.length)) ∧ Below w.heap.size w w' := by
  have F := fits hr
  obtain ⟨T0, rv, rfl⟩ := D.ifc
  have HMO : Hid (∀ w w', R w → Below w.heap.size w w' → R w') := D.mono
  have HRD : Hid (∀ (y : World) (n lvl : Int), R y → Rng n → Calls Tryz.prog 38 #[.iface T0 rv, .int .i64 n, .int .i64 lvl] y (ReadTo lim y (readP g n lvl))) := fun y n lvl a b => read_calls D y n lvl a b
  have HREC : Hid (∀ w y py qy p, R w → Parts w y py qy → p.Ok → rightN y = true → y.lv = x.lv - 1 → Calls Tryz.prog 39 #[.iface T0 rv, nv y py qy, spv p] w fun e w' => e = .returned (.int .i64 (rec y p)) ∧ Below w.heap.size w w') := hrec
  have hkd := h.keyed
  obtain ⟨ap, cp, rfl⟩ := h.lenP
  obtain ⟨aq, cq, rfl⟩ := h.lenQ
  have mQ := (els_max h.q).2
  have GQ : Hid (∀ i (hi : i < x.ks.length), ∃ g off, aq = some ⟨g, off, none⟩ ∧ g < w.heap.size ∧ w.rangeAt g (off + i * 25) (ec (Kd.el x.ks[i])) ∧ (Kd.el x.ks[i]).Ok) := els_get h.q
  have HKB : Hid (∀ i (hi : i < x.ks.length), 2 ≤ (x.ks[i]).n ∧ (x.ks[i]).n ≤ 4294967295) := fun i hi => F.bs _ (List.getElem_mem hi)
  have HKD : Hid (∀ i (hi : i < x.ks.length), (x.ks[i]).k.length = 24) := fun i hi => hkd.2 _ (List.getElem_mem hi)
  have HLV : Hid (0 < x.ks.length → 1 ≤ x.lv ∧ x.lv ≤ 11) := fun h0 => by
    have h1 := F.l0
    have h2 := F.l1
    rcases F.one with ⟨q1, q2, _⟩ | ⟨q1, _, _⟩
    · rw [q2] at h0; simp at h0
    · omega
  have HOK : Hid s.Ok := hs
  obtain ⟨Q, hQ⟩ : ∃ Q : Nat, Q = x.ks.length := ⟨_, rfl⟩
  have HQ : Hid (Q = x.ks.length) := hQ
  have hmN : (Q : Int) ≤ 9223372036854775807 := by unfold maxLen at mQ; omega
  obtain ⟨C, hC⟩ : ∃ C, C = checkGo g rec x s x.ks.length := ⟨_, rfl⟩
  have HC : Hid (checkGo g rec x s Q = C) := (show _ = _ by rw [hC, hQ])
  rw [← hC, ← hQ]
  have CK0 : CK R w ((w.alloc (.cells (nc x (.slice ap x.ps.length cp) (.slice aq Q cq)) 60)).alloc (.cells (sc s.F s.T s.e).toArray 27)) x (.slice ap x.ps.length cp) (.slice aq Q cq) s := by
    have B0 : Below w.heap.size w ((w.alloc (.cells (nc x (.slice ap x.ps.length cp) (.slice aq Q cq)) 60)).alloc (.cells (sc s.F s.T s.e).toArray 27)) := ((Below.refl _ w).alloc (Nat.le_refl _) _).alloc (by simp) _
    refine ⟨(HasN.new w x _ _ _ rfl rfl rfl).alloc _, ?_, by rw [hQ]; exact h.below (by rw [← hQ]; exact B0), D.mono _ _ hR B0, B0⟩
    have := (HasS.new (w.alloc (.cells (nc x (.slice ap x.ps.length cp) (.slice aq Q cq)) 60)) s.F s.T s.e hs.1 hs.2).sp
    simpa using this
  have HK0 : Hid (CK R w ((w.alloc (.cells (nc x (.slice ap x.ps.length cp) (.slice aq Q cq)) 60)).alloc (.cells (sc s.F s.T s.e).toArray 27)) x (.slice ap x.ps.length cp) (.slice aq Q cq) s) := CK0
  obtain ⟨c0, c1, c2⟩ := CK0.n.cells
  clear CK0 h hs hr F hrec D hkd mQ hQ hC hR
  go_enter Tryz.func39, Tryz.ntmps39
  go_upto_region 1 with fail
  generalize (w.alloc (.cells (nc x (.slice ap x.ps.length cp) (.slice aq Q cq)) 60)).alloc (.cells (sc s.F s.T s.e).toArray 27) = V at *
  go_wp2_with fail
  clear c0 c1 c2
  go_loopg [16] Q (fun m i wr => ∃ k : Nat, k + m = Q ∧ i = .int .i64 (k : Int) ∧ Hid (CK R w wr x (.slice ap x.ps.length cp) (.slice aq Q cq) s) ∧ Hid (checkGo g rec x s m = C))
  case atStart => exact ⟨0, by omega, rfl, HK0, HC⟩
  case round =>
    clear HK0 HC
    obtain ⟨k, hkm, rfl, HCK, HGO⟩ := hrel
    cases gk with
    | zero =>
      have hk : ¬ (k : Int) < (Q : Int) := by omega
      go_wp2_with fail
      go_ret
      exact ⟨by rw [← HGO.out]; rfl, HCK.out.bel⟩
    | succ m =>
      have hkI : (k : Int) < (Q : Int) := by omega
      have hkl : k < x.ks.length := by rw [← HQ.out]; omega
      have hidx : x.ks.length - (m + 1) = k := by rw [← HQ.out]; omega
      obtain ⟨ga, oa, rfl, hga, hat, ok⟩ := GQ.out k hkl
      have HR1 : Hid (wr.rangeAt ga (oa + k * 25) (ec (Kd.el x.ks[k])) ∧ (Kd.el x.ks[k]).Ok) := ⟨range_same hat (HCK.out.bel.block ga hga), ok⟩
      have HGO1 : Hid (C = if (readP g (x.ks[k]).n (x.lv - 1)).2 = 0 then (if badKid (readP g (x.ks[k]).n (x.lv - 1)).1 (x.ks[k]).k (narS s x.ks k) then 12 else if rec (readP g (x.ks[k]).n (x.lv - 1)).1 (narS s x.ks k) = 0 then checkGo g rec x s m else rec (readP g (x.ks[k]).n (x.lv - 1)).1 (narS s x.ks k)) else (readP g (x.ks[k]).n (x.lv - 1)).2) := (show _ = _ by
        rw [← HGO.out, checkGo, hidx, nAt_in hkl, keyAt_eq hkl])
      have HNR : Hid (Rng (x.ks[k]).n) := rng_small (HKB.out k hkl).1 (HKB.out k hkl).2
      have hlv := HLV.out (by omega)
      have HRO : Hid ((readP g (x.ks[k]).n (x.lv - 1)).2 = 0 → rightN (readP g (x.ks[k]).n (x.lv - 1)).1 = true ∧ (readP g (x.ks[k]).n (x.lv - 1)).1.lv = x.lv - 1) := fun e => readP_ok e (by omega)
      have HRC : Hid (∀ y, R y → Calls Tryz.prog 38 #[.iface T0 rv, .int .i64 (x.ks[k]).n, .int .i64 (x.lv - 1)] y (ReadTo lim y (readP g (x.ks[k]).n (x.lv - 1)))) := fun y hy => HRD.out y _ _ hy HNR.out
      have HPO : Hid (narS s x.ks k).Ok := narS_ok HOK.out HKD.out k hkl
      have HNC : Hid (∀ y, Parts y x (.slice ap x.ps.length cp) (.slice (some ⟨ga, oa, none⟩) Q cq) → Calls Tryz.prog 59 #[spv s, .slice (some ⟨ga, oa, none⟩) Q cq, .int .i64 (k : Int)] y fun x1 w' => x1 = .returned (spv (narS s x.ks k)) ∧ Below y.heap.size y w') := fun y hy => narrow_calls y s HOK.out _ x.ks hy.q k hkl
      have HKL : Hid ((x.ks[k]).k.length = 24) := HKD.out k hkl
      have ev1 : (Kd.el x.ks[k]).v = .int .i64 (x.ks[k]).n := rfl
      have HEK : Hid ((Kd.el x.ks[k]).k = (x.ks[k]).k) := rfl
      generalize readP g (x.ks[k]).n (x.lv - 1) = RR at *
      obtain ⟨Y, ce⟩ := RR
      simp only at HGO1 HRO
      generalize narS s x.ks k = p at *
      generalize Kd.el x.ks[k] = E at *
      generalize hnn : (x.ks[k]).n = nn at *
      generalize hkk : (x.ks[k]).k = KK at *
      clear hnn hkk hat ok HNR hidx HGO
      obtain ⟨e0, e1', e2⟩ := HCK.out.n.cells
      clear e1'
      have hlI1 : 1 ≤ x.lv := hlv.1
      have hlI2 : x.lv ≤ 11 := hlv.2
      clear hlv
      go_upto_region 4 with (first
        | (refine load_K _ rfl ga (oa + k * 25) rfl rfl E HR1.out.2 HR1.out.1 ?_)
        | (refine store_K rfl _ _ rfl wr.heap.size rfl E rfl HR1.out.2 nilK (zero_K wr _ rfl) ?_; intro x1 hu1 tx1 sx1))
      have C1 : CK R w x1 x (.slice ap x.ps.length cp) (.slice (some ⟨ga, oa, none⟩) Q cq) s := HCK.out.called HMO.out (step_below (Below.refl _ wr) _ tx1)
      have ltd : wr.heap.size < x1.heap.size := hu1.lt
      obtain ⟨e0, _, e2⟩ := C1.n.cells
      have ek := hu1.val
      rw [ev1] at ek
      clear tx1 sx1 HR1 HCK ev1
      generalize wr.heap.size = d at *
      have hrc := HRC.out x1 C1.r
      by_cases hce : ce = 0
      rotate_left
      · have hce' : (ce != 0) = true := by simpa using hce
        have HFIN : Hid (C = ce) := (show _ = _ by rw [HGO1.out, if_neg hce])
        clear HGO1 HRO hce
        go_upto_region 5 with (first
          | (go_at_call 38; refine hrc.mono ?_; rintro e w2 ⟨py, qy, rfl, P2, b2, _⟩)
          | (refine store_node rfl _ _ rfl w2.heap.size rfl Y py qy rfl P2.p.one P2.q.one nilN (.slice none 0 0) (.slice none 0 0) (HasN.new w2 nilN (.slice none 0 0) (.slice none 0 0) _ rfl rfl rfl) ?_; intro x3 hu3 tx3 sx3))
        have C3 := (C1.called HMO.out b2).called HMO.out (step_below (Below.refl _ w2) _ tx3)
        clear C1 b2 P2 tx3 sx3 hu3
        generalize w2.heap.size = d2 at *
        go_wp2_with fail
        go_ret
        exact ⟨by rw [HFIN.out]; rfl, C3.bel⟩
      · subst hce
        obtain ⟨hrY, hlY⟩ := HRO.out rfl
        have HRY : Hid (rightN Y = true ∧ Y.lv = x.lv - 1) := ⟨hrY, hlY⟩
        have HGO2 : Hid (C = if badKid Y KK p then 12 else if rec Y p = 0 then checkGo g rec x s m else rec Y p) := (show _ = _ by rw [HGO1.out, if_pos rfl])
        clear hrY hlY HGO1 HRO
        go_upto_region 5 with (first
          | (go_at_call 38; refine hrc.mono ?_; rintro e w2 ⟨py, qy, rfl, P2, b2, _⟩)
          | (refine store_node rfl _ _ rfl w2.heap.size rfl Y py qy rfl P2.p.one P2.q.one nilN (.slice none 0 0) (.slice none 0 0) (HasN.new w2 nilN (.slice none 0 0) (.slice none 0 0) _ rfl rfl rfl) ?_; intro x3 hu3 tx3 sx3))
        have BS3 := step_below (Below.refl _ w2) _ tx3
        have C3 := (C1.called HMO.out b2).called HMO.out BS3
        have K3 := (hu1.below b2 ltd).below BS3 (Nat.lt_of_lt_of_le ltd b2.size)
        have P3 := P2.below BS3
        clear C1 b2 P2 tx3 sx3 BS3 hu1 ek
        generalize w2.heap.size = d2 at *
        go_upto_region 7 with fail
        obtain ⟨_, _, f2⟩ := C3.n.cells
        have hnc := HNC.out x3 C3.p
        go_upto_region 8 with (first
          | (refine load_span _ rfl (w.heap.size + 1) rfl rfl s.F s.T s.e C3.s ?_)
          | (go_at_call 59; refine hnc.mono ?_; rintro e w4 ⟨rfl, b4⟩)
          | (refine store_span rfl _ _ rfl w4.heap.size rfl p.F p.T p.e rfl HPO.out.1 HPO.out.2 (zs 24) (zs 24) false (spanZ w4) ?_; intro x5 hu5 tx5 sx5))
        have BS5 := step_below (Below.refl _ w4) _ tx5
        have lt2 := hu3.lt
        have M5 : CR R w x5 x (.slice ap x.ps.length cp) (.slice (some ⟨ga, oa, none⟩) Q cq) s d E d2 Y py qy w4.heap.size p := ⟨(C3.called HMO.out b4).called HMO.out BS5, (K3.below b4 K3.lt).below BS5 (Nat.lt_of_lt_of_le K3.lt b4.size), (hu3.below b4 lt2).below BS5 (Nat.lt_of_lt_of_le lt2 b4.size), (P3.below b4).below BS5, hu5.sp⟩
        clear C3 K3 P3 hu3 b4 tx5 sx5 hu5 BS5 f2 hnc lt2 e0 e2
        generalize w4.heap.size = d3 at *
        obtain ⟨yp, ycp, rfl⟩ := M5.q.lenP
        obtain ⟨yq, ycq, rfl⟩ := M5.q.lenQ
        obtain ⟨sh, hsh⟩ : ∃ sh, sh = shortB Y.ps.length Y.ks.length := ⟨_, rfl⟩
        have HSH : Hid (∀ y, Calls Tryz.prog 62 #[.int .i64 (Y.ps.length : Int), .int .i64 (Y.ks.length : Int)] y fun e w' => e = .returned (.bool sh) ∧ w' = y) := fun y => by rw [hsh]; exact isShort_calls y _ _
        have HFL : Hid ((firstN Y).length = 24) := firstN_length Y M5.q.keyed
        have HBK : Hid (badKid Y KK p = (sh || ((!(firstN Y == KK)) || !inS p.F p.T p.e (lastN Y)))) := (show _ = _ by rw [badKid, hsh])
        have HLC : Hid (∀ y, Parts y Y (.slice yp Y.ps.length ycp) (.slice yq Y.ks.length ycq) → Calls Tryz.prog 63 #[nv Y (.slice yp Y.ps.length ycp) (.slice yq Y.ks.length ycq)] y fun e w' => e = .returned (kv (lastN Y)) ∧ (lastN Y).length = 24 ∧ Below y.heap.size y w') := fun y hy => lastKey_calls y Y _ _ hy (fun q => by
          rcases (fits HRY.out.1).one with ⟨_, _, q3⟩ | ⟨q1, _, _⟩
          · exact q3
          · exact absurd q q1) (fun q => by
          rcases (fits HRY.out.1).one with ⟨q1, _, _⟩ | ⟨_, _, q3⟩
          · exact absurd q1 q
          · omega)
        have HFC : Hid (∀ y, Parts y Y (.slice yp Y.ps.length ycp) (.slice yq Y.ks.length ycq) → Calls Tryz.prog 40 #[nv Y (.slice yp Y.ps.length ycp) (.slice yq Y.ks.length ycq)] y fun e w' => e = .returned (kv (firstN Y)) ∧ Below y.heap.size y w') := fun y hy => first_calls y Y _ _ hy
        have HRCC : Hid (∀ y, CR R w y x (.slice ap x.ps.length cp) (.slice (some ⟨ga, oa, none⟩) Q cq) s d E d2 Y (.slice yp Y.ps.length ycp) (.slice yq Y.ks.length ycq) d3 p → Calls Tryz.prog 39 #[.iface T0 rv, nv Y (.slice yp Y.ps.length ycp) (.slice yq Y.ks.length ycq), spv p] y fun e w' => e = .returned (.int .i64 (rec Y p)) ∧ Below y.heap.size y w') := fun y hy => HREC.out y Y _ _ p hy.c.r hy.q HPO.out HRY.out.1 HRY.out.2
        clear hsh HRY hrc
        cases sh with
        | true =>
          refine wp_region_noPanic ?_
          refine wp_region_held_drew (S := (fun y => CR R w y x (.slice ap x.ps.length cp) (.slice (some ⟨ga, oa, none⟩) Q cq) s d E d2 Y (.slice yp Y.ps.length ycp) (.slice yq Y.ks.length ycq) d3 p)) (by kernel_rfl) (M5.called HMO.out ⟨rfl, rfl, rfl, Nat.le_refl _, fun _ _ => rfl⟩) (fun hHeld => ?_)
          refine wpAnyH_take (i := 0) (v := ?_) rfl (by kernel_rfl) (by kernel_rfl) (by kernel_rfl) (fun _ _ _ h => h) (Or.inl ⟨by rfl, ?_⟩) hHeld ?_
          case refine_2 => (intro w hSw; (try dsimp only at hSw); obtain ⟨k0, k1, k2⟩ := hSw.m.cells; go_simp; try (with_reducible rfl))
          (try simp only [gs])
          refine wpAnyH_take (i := 1) (v := ?_) rfl (by kernel_rfl) (by kernel_rfl) (by kernel_rfl) (fun _ _ _ h => h) (Or.inl ⟨by rfl, ?_⟩) hHeld ?_
          case refine_2 => (intro w hSw; (try dsimp only at hSw); obtain ⟨k0, k1, k2⟩ := hSw.m.cells; go_simp; try (with_reducible rfl))
          (try simp only [gs])
          refine wpAnyH_take (i := 2) (v := ?_) rfl (by kernel_rfl) (by kernel_rfl) (by kernel_rfl) (fun _ _ _ h => h) (Or.inl ⟨by rfl, ?_⟩) hHeld ?_
          case refine_2 => (intro w hSw; (try dsimp only at hSw); obtain ⟨k0, k1, k2⟩ := hSw.m.cells; go_simp; try (with_reducible rfl))
          (try simp only [gs])
          refine wpAnyH_take (i := 3) (v := ?_) rfl (by kernel_rfl) (by kernel_rfl) (by kernel_rfl) (fun _ _ _ h => h) (Or.inl ⟨by rfl, ?_⟩) hHeld ?_
          case refine_2 => (intro w hSw; (try dsimp only at hSw); obtain ⟨k0, k1, k2⟩ := hSw.m.cells; go_simp; try (with_reducible rfl))
          (try simp only [gs])
          refine wpAnyH_take (i := 4) (v := ?_) rfl (by kernel_rfl) (by kernel_rfl) (by kernel_rfl) (fun _ _ _ h => h) (Or.inl ⟨by rfl, ?_⟩) hHeld ?_
          case refine_2 => (intro w hSw; (try dsimp only at hSw); obtain ⟨k0, k1, k2⟩ := hSw.m.cells; go_simp; try (with_reducible rfl))
          (try simp only [gs])
          refine wpAnyH_take (i := 5) (v := ?_) rfl (by kernel_rfl) (by kernel_rfl) (by kernel_rfl) (fun _ _ _ h => h) (Or.inl ⟨by rfl, ?_⟩) hHeld ?_
          case refine_2 => (intro w hSw; (try dsimp only at hSw); obtain ⟨k0, k1, k2⟩ := hSw.m.cells; go_simp; try (with_reducible rfl))
          (try simp only [gs])
          generalize x5.drew = y0 at *
          refine wpAnyH_ready (rs := [6]) (by kernel_rfl) (by simp) (AllReadyH.cons rfl (fun K hK => ?_) AllReadyH.nil)
          rw [if_pos (by rfl)]
          (try simp only [gs])
          go_simp
          refine (HSH.out _).mono ?_
          rintro e y1 ⟨rfl, rfl⟩
          refine hK.out _ _ hHeld (fun g1 => ?_)
          clear hK K
          (try simp only [gs])
          refine wpAnyH_take (i := 7) (v := ?_) rfl (by kernel_rfl) (by kernel_rfl) (by kernel_rfl) (fun _ _ _ h => h) (Or.inl ⟨by rfl, ?_⟩) g1 ?_
          case refine_2 => (intro w hSw; (try dsimp only at hSw); go_simp; try (with_reducible rfl))
          (try simp only [gs])
          refine wpAnyH_take (i := 8) (v := undef) rfl (by kernel_rfl) (by kernel_rfl) (by kernel_rfl) (fun _ _ _ h => h) (Or.inr ⟨by rfl, rfl⟩) g1 ?_
          (try simp only [gs])
          refine wpAnyH_take (i := 9) (v := undef) rfl (by kernel_rfl) (by kernel_rfl) (by kernel_rfl) (fun _ _ _ h => h) (Or.inr ⟨by rfl, rfl⟩) g1 ?_
          (try simp only [gs])
          refine wpAnyH_take (i := 10) (v := undef) rfl (by kernel_rfl) (by kernel_rfl) (by kernel_rfl) (fun _ _ _ h => h) (Or.inr ⟨by rfl, rfl⟩) g1 ?_
          (try simp only [gs])
          refine wpAnyH_take (i := 11) (v := undef) rfl (by kernel_rfl) (by kernel_rfl) (by kernel_rfl) (fun _ _ _ h => h) (Or.inr ⟨by rfl, rfl⟩) g1 ?_
          (try simp only [gs])
          refine wpAnyH_take (i := 12) (v := undef) rfl (by kernel_rfl) (by kernel_rfl) (by kernel_rfl) (fun _ _ _ h => h) (Or.inr ⟨by rfl, rfl⟩) g1 ?_
          (try simp only [gs])
          refine wpAnyH_take (i := 13) (v := ?_) rfl (by kernel_rfl) (by kernel_rfl) (by kernel_rfl) (fun _ _ _ h => h) (Or.inl ⟨by rfl, ?_⟩) g1 ?_
          case refine_2 => (intro w hSw; (try dsimp only at hSw); go_simp; try (with_reducible rfl))
          (try simp only [gs])
          refine wpAnyH_take (i := 14) (v := ?_) rfl (by kernel_rfl) (by kernel_rfl) (by kernel_rfl) (fun _ _ _ h => h) (Or.inl ⟨by rfl, ?_⟩) g1 ?_
          case refine_2 => (intro w hSw; (try dsimp only at hSw); go_simp; try (with_reducible rfl))
          (try simp only [gs])
          refine wpAnyH_take (i := 15) (v := undef) rfl (by kernel_rfl) (by kernel_rfl) (by kernel_rfl) (fun _ _ _ h => h) (Or.inr ⟨by rfl, rfl⟩) g1 ?_
          (try simp only [gs])
          refine wpAnyH_take (i := 16) (v := undef) rfl (by kernel_rfl) (by kernel_rfl) (by kernel_rfl) (fun _ _ _ h => h) (Or.inr ⟨by rfl, rfl⟩) g1 ?_
          (try simp only [gs])
          refine wpAnyH_take (i := 17) (v := undef) rfl (by kernel_rfl) (by kernel_rfl) (by kernel_rfl) (fun _ _ _ h => h) (Or.inr ⟨by rfl, rfl⟩) g1 ?_
          (try simp only [gs])
          refine wpAnyH_take (i := 18) (v := undef) rfl (by kernel_rfl) (by kernel_rfl) (by kernel_rfl) (fun _ _ _ h => h) (Or.inr ⟨by rfl, rfl⟩) g1 ?_
          (try simp only [gs])
          refine wpAnyH_take (i := 19) (v := undef) rfl (by kernel_rfl) (by kernel_rfl) (by kernel_rfl) (fun _ _ _ h => h) (Or.inr ⟨by rfl, rfl⟩) g1 ?_
          (try simp only [gs])
          refine wpAnyH_take (i := 20) (v := ?_) rfl (by kernel_rfl) (by kernel_rfl) (by kernel_rfl) (fun _ _ _ h => h) (Or.inl ⟨by rfl, ?_⟩) g1 ?_
          case refine_2 => (intro w hSw; (try dsimp only at hSw); go_simp; try (with_reducible rfl))
          (try simp only [gs])
          refine wpAnyH_done (by kernel_rfl) ?_ _
          refine NoPanic.normal ?_
          have HFIN : Hid (C = 12) := (show _ = _ by rw [HGO2.out, if_pos (by rw [HBK.out]; rfl)])
          have HBL : Hid (Below w.heap.size w _) := g1.c.bel
          clear M5 HGO2 HBK HRCC
          go_wp2_with fail
          go_ret
          exact ⟨by rw [HFIN.out]; rfl, HBL.out⟩
        | false =>
          cases hf : (firstN Y == KK) with
          | false =>
            have HF1 : Hid ((firstN Y == KK) = false) := hf
            clear hf
            refine wp_region_noPanic ?_
            refine wp_region_held_drew (S := (fun y => CR R w y x (.slice ap x.ps.length cp) (.slice (some ⟨ga, oa, none⟩) Q cq) s d E d2 Y (.slice yp Y.ps.length ycp) (.slice yq Y.ks.length ycq) d3 p)) (by kernel_rfl) (M5.called HMO.out ⟨rfl, rfl, rfl, Nat.le_refl _, fun _ _ => rfl⟩) (fun hHeld => ?_)
            refine wpAnyH_take (i := 0) (v := ?_) rfl (by kernel_rfl) (by kernel_rfl) (by kernel_rfl) (fun _ _ _ h => h) (Or.inl ⟨by rfl, ?_⟩) hHeld ?_
            case refine_2 => (intro w hSw; (try dsimp only at hSw); obtain ⟨k0, k1, k2⟩ := hSw.m.cells; go_simp; try (with_reducible rfl))
            (try simp only [gs])
            refine wpAnyH_take (i := 1) (v := ?_) rfl (by kernel_rfl) (by kernel_rfl) (by kernel_rfl) (fun _ _ _ h => h) (Or.inl ⟨by rfl, ?_⟩) hHeld ?_
            case refine_2 => (intro w hSw; (try dsimp only at hSw); obtain ⟨k0, k1, k2⟩ := hSw.m.cells; go_simp; try (with_reducible rfl))
            (try simp only [gs])
            refine wpAnyH_take (i := 2) (v := ?_) rfl (by kernel_rfl) (by kernel_rfl) (by kernel_rfl) (fun _ _ _ h => h) (Or.inl ⟨by rfl, ?_⟩) hHeld ?_
            case refine_2 => (intro w hSw; (try dsimp only at hSw); obtain ⟨k0, k1, k2⟩ := hSw.m.cells; go_simp; try (with_reducible rfl))
            (try simp only [gs])
            refine wpAnyH_take (i := 3) (v := ?_) rfl (by kernel_rfl) (by kernel_rfl) (by kernel_rfl) (fun _ _ _ h => h) (Or.inl ⟨by rfl, ?_⟩) hHeld ?_
            case refine_2 => (intro w hSw; (try dsimp only at hSw); obtain ⟨k0, k1, k2⟩ := hSw.m.cells; go_simp; try (with_reducible rfl))
            (try simp only [gs])
            refine wpAnyH_take (i := 4) (v := ?_) rfl (by kernel_rfl) (by kernel_rfl) (by kernel_rfl) (fun _ _ _ h => h) (Or.inl ⟨by rfl, ?_⟩) hHeld ?_
            case refine_2 => (intro w hSw; (try dsimp only at hSw); obtain ⟨k0, k1, k2⟩ := hSw.m.cells; go_simp; try (with_reducible rfl))
            (try simp only [gs])
            refine wpAnyH_take (i := 5) (v := ?_) rfl (by kernel_rfl) (by kernel_rfl) (by kernel_rfl) (fun _ _ _ h => h) (Or.inl ⟨by rfl, ?_⟩) hHeld ?_
            case refine_2 => (intro w hSw; (try dsimp only at hSw); obtain ⟨k0, k1, k2⟩ := hSw.m.cells; go_simp; try (with_reducible rfl))
            (try simp only [gs])
            generalize x5.drew = y0 at *
            refine wpAnyH_ready (rs := [6]) (by kernel_rfl) (by simp) (AllReadyH.cons rfl (fun K hK => ?_) AllReadyH.nil)
            rw [if_pos (by rfl)]
            (try simp only [gs])
            go_simp
            refine (HSH.out _).mono ?_
            rintro e y1 ⟨rfl, rfl⟩
            refine hK.out _ _ hHeld (fun g1 => ?_)
            clear hK K
            (try simp only [gs])
            refine wpAnyH_take (i := 7) (v := ?_) rfl (by kernel_rfl) (by kernel_rfl) (by kernel_rfl) (fun _ _ _ h => h) (Or.inl ⟨by rfl, ?_⟩) g1 ?_
            case refine_2 => (intro w hSw; (try dsimp only at hSw); go_simp; try (with_reducible rfl))
            (try simp only [gs])
            refine wpAnyH_take (i := 8) rfl (by kernel_rfl) (by kernel_rfl) (by kernel_rfl) (fun _ _ _ h => h) (yieldsIf_load_mid (by rfl) _ _ rfl _ _ rfl _ _ (fun _ h => h.m.range) Tryz.underlying60 rfl Tryz.node_info) g1 ?_
            (try simp only [gs])
            refine wpAnyH_take (i := 10) (v := ?_) rfl (by kernel_rfl) (by kernel_rfl) (by kernel_rfl) (fun _ _ _ h => h) (Or.inl ⟨by rfl, ?_⟩) g1 ?_
            case refine_2 => (intro w hSw; (try dsimp only at hSw); go_simp; try (with_reducible rfl))
            (try simp only [gs])
            refine wpAnyH_take (i := 11) rfl (by kernel_rfl) (by kernel_rfl) (by kernel_rfl) (fun _ _ _ h => h) (yieldsIf_load_mid (by rfl) _ _ rfl _ _ rfl _ _ (fun _ h => (HEK.out ▸ range_key h.k.range : World.rangeAt _ d 0 (bc KK))) Tryz.underlying25 rfl (by rw [bc_length, HKL.out]; exact Tryz.key_info)) g1 ?_
            (try simp only [gs])
            refine wpAnyH_ready (rs := [9]) (by kernel_rfl) (by simp) (AllReadyH.cons rfl (fun K hK => ?_) AllReadyH.nil)
            rw [if_pos (by rfl)]
            (try simp only [gs])
            go_simp
            refine (HFC.out _ g1.q).mono ?_
            rintro e y2 ⟨rfl, b2⟩
            refine hK.out _ _ (g1.called HMO.out b2) (fun g2 => ?_)
            clear hK K
            (try simp only [gs])
            refine wpAnyH_take (i := 12) (v := .bool true) rfl (by kernel_rfl) (by kernel_rfl) (by kernel_rfl) (fun _ _ _ h => h) (Or.inl ⟨by rfl, ?_⟩) g2 ?_
            case refine_1 => (intro w hSw; (try dsimp only at hSw); have q := eq_key w (firstN Y) KK HFL.out HKL.out; rw [HF1.out] at q; go_simp; first | done | rfl)
            (try simp only [gs])
            refine wpAnyH_take (i := 13) (v := ?_) rfl (by kernel_rfl) (by kernel_rfl) (by kernel_rfl) (fun _ _ _ h => h) (Or.inl ⟨by rfl, ?_⟩) g2 ?_
            case refine_2 => (intro w hSw; (try dsimp only at hSw); go_simp; try (with_reducible rfl))
            (try simp only [gs])
            refine wpAnyH_take (i := 14) (v := ?_) rfl (by kernel_rfl) (by kernel_rfl) (by kernel_rfl) (fun _ _ _ h => h) (Or.inl ⟨by rfl, ?_⟩) g2 ?_
            case refine_2 => (intro w hSw; (try dsimp only at hSw); go_simp; try (with_reducible rfl))
            (try simp only [gs])
            refine wpAnyH_take (i := 15) (v := undef) rfl (by kernel_rfl) (by kernel_rfl) (by kernel_rfl) (fun _ _ _ h => h) (Or.inr ⟨by rfl, rfl⟩) g2 ?_
            (try simp only [gs])
            refine wpAnyH_take (i := 16) (v := undef) rfl (by kernel_rfl) (by kernel_rfl) (by kernel_rfl) (fun _ _ _ h => h) (Or.inr ⟨by rfl, rfl⟩) g2 ?_
            (try simp only [gs])
            refine wpAnyH_take (i := 17) (v := undef) rfl (by kernel_rfl) (by kernel_rfl) (by kernel_rfl) (fun _ _ _ h => h) (Or.inr ⟨by rfl, rfl⟩) g2 ?_
            (try simp only [gs])
            refine wpAnyH_take (i := 18) (v := undef) rfl (by kernel_rfl) (by kernel_rfl) (by kernel_rfl) (fun _ _ _ h => h) (Or.inr ⟨by rfl, rfl⟩) g2 ?_
            (try simp only [gs])
            refine wpAnyH_take (i := 19) (v := undef) rfl (by kernel_rfl) (by kernel_rfl) (by kernel_rfl) (fun _ _ _ h => h) (Or.inr ⟨by rfl, rfl⟩) g2 ?_
            (try simp only [gs])
            refine wpAnyH_take (i := 20) (v := ?_) rfl (by kernel_rfl) (by kernel_rfl) (by kernel_rfl) (fun _ _ _ h => h) (Or.inl ⟨by rfl, ?_⟩) g2 ?_
            case refine_2 => (intro w hSw; (try dsimp only at hSw); go_simp; try (with_reducible rfl))
            (try simp only [gs])
            refine wpAnyH_done (by kernel_rfl) ?_ _
            refine NoPanic.normal ?_
            have HFIN : Hid (C = 12) := (show _ = _ by rw [HGO2.out, if_pos (by rw [HBK.out, HF1.out]; rfl)])
            have HBL : Hid (Below w.heap.size w _) := g2.c.bel
            clear M5 HGO2 HBK HRCC
            go_wp2_with fail
            go_ret
            exact ⟨by rw [HFIN.out]; rfl, HBL.out⟩
          | true =>
            have HF1 : Hid ((firstN Y == KK) = true) := hf
            clear hf
            cases hin : inS p.F p.T p.e (lastN Y) with
            | false =>
              have HIN : Hid (inS p.F p.T p.e (lastN Y) = false) := hin
              clear hin
              refine wp_region_noPanic ?_
              refine wp_region_held_drew (S := (fun y => CR R w y x (.slice ap x.ps.length cp) (.slice (some ⟨ga, oa, none⟩) Q cq) s d E d2 Y (.slice yp Y.ps.length ycp) (.slice yq Y.ks.length ycq) d3 p)) (by kernel_rfl) (M5.called HMO.out ⟨rfl, rfl, rfl, Nat.le_refl _, fun _ _ => rfl⟩) (fun hHeld => ?_)
              refine wpAnyH_take (i := 0) (v := ?_) rfl (by kernel_rfl) (by kernel_rfl) (by kernel_rfl) (fun _ _ _ h => h) (Or.inl ⟨by rfl, ?_⟩) hHeld ?_
              case refine_2 => (intro w hSw; (try dsimp only at hSw); obtain ⟨k0, k1, k2⟩ := hSw.m.cells; go_simp; try (with_reducible rfl))
              (try simp only [gs])
              refine wpAnyH_take (i := 1) (v := ?_) rfl (by kernel_rfl) (by kernel_rfl) (by kernel_rfl) (fun _ _ _ h => h) (Or.inl ⟨by rfl, ?_⟩) hHeld ?_
              case refine_2 => (intro w hSw; (try dsimp only at hSw); obtain ⟨k0, k1, k2⟩ := hSw.m.cells; go_simp; try (with_reducible rfl))
              (try simp only [gs])
              refine wpAnyH_take (i := 2) (v := ?_) rfl (by kernel_rfl) (by kernel_rfl) (by kernel_rfl) (fun _ _ _ h => h) (Or.inl ⟨by rfl, ?_⟩) hHeld ?_
              case refine_2 => (intro w hSw; (try dsimp only at hSw); obtain ⟨k0, k1, k2⟩ := hSw.m.cells; go_simp; try (with_reducible rfl))
              (try simp only [gs])
              refine wpAnyH_take (i := 3) (v := ?_) rfl (by kernel_rfl) (by kernel_rfl) (by kernel_rfl) (fun _ _ _ h => h) (Or.inl ⟨by rfl, ?_⟩) hHeld ?_
              case refine_2 => (intro w hSw; (try dsimp only at hSw); obtain ⟨k0, k1, k2⟩ := hSw.m.cells; go_simp; try (with_reducible rfl))
              (try simp only [gs])
              refine wpAnyH_take (i := 4) (v := ?_) rfl (by kernel_rfl) (by kernel_rfl) (by kernel_rfl) (fun _ _ _ h => h) (Or.inl ⟨by rfl, ?_⟩) hHeld ?_
              case refine_2 => (intro w hSw; (try dsimp only at hSw); obtain ⟨k0, k1, k2⟩ := hSw.m.cells; go_simp; try (with_reducible rfl))
              (try simp only [gs])
              refine wpAnyH_take (i := 5) (v := ?_) rfl (by kernel_rfl) (by kernel_rfl) (by kernel_rfl) (fun _ _ _ h => h) (Or.inl ⟨by rfl, ?_⟩) hHeld ?_
              case refine_2 => (intro w hSw; (try dsimp only at hSw); obtain ⟨k0, k1, k2⟩ := hSw.m.cells; go_simp; try (with_reducible rfl))
              (try simp only [gs])
              generalize x5.drew = y0 at *
              refine wpAnyH_ready (rs := [6]) (by kernel_rfl) (by simp) (AllReadyH.cons rfl (fun K hK => ?_) AllReadyH.nil)
              rw [if_pos (by rfl)]
              (try simp only [gs])
              go_simp
              refine (HSH.out _).mono ?_
              rintro e y1 ⟨rfl, rfl⟩
              refine hK.out _ _ hHeld (fun g1 => ?_)
              clear hK K
              (try simp only [gs])
              refine wpAnyH_take (i := 7) (v := ?_) rfl (by kernel_rfl) (by kernel_rfl) (by kernel_rfl) (fun _ _ _ h => h) (Or.inl ⟨by rfl, ?_⟩) g1 ?_
              case refine_2 => (intro w hSw; (try dsimp only at hSw); go_simp; try (with_reducible rfl))
              (try simp only [gs])
              refine wpAnyH_take (i := 8) rfl (by kernel_rfl) (by kernel_rfl) (by kernel_rfl) (fun _ _ _ h => h) (yieldsIf_load_mid (by rfl) _ _ rfl _ _ rfl _ _ (fun _ h => h.m.range) Tryz.underlying60 rfl Tryz.node_info) g1 ?_
              (try simp only [gs])
              refine wpAnyH_take (i := 10) (v := ?_) rfl (by kernel_rfl) (by kernel_rfl) (by kernel_rfl) (fun _ _ _ h => h) (Or.inl ⟨by rfl, ?_⟩) g1 ?_
              case refine_2 => (intro w hSw; (try dsimp only at hSw); go_simp; try (with_reducible rfl))
              (try simp only [gs])
              refine wpAnyH_take (i := 11) rfl (by kernel_rfl) (by kernel_rfl) (by kernel_rfl) (fun _ _ _ h => h) (yieldsIf_load_mid (by rfl) _ _ rfl _ _ rfl _ _ (fun _ h => (HEK.out ▸ range_key h.k.range : World.rangeAt _ d 0 (bc KK))) Tryz.underlying25 rfl (by rw [bc_length, HKL.out]; exact Tryz.key_info)) g1 ?_
              (try simp only [gs])
              refine wpAnyH_ready (rs := [9]) (by kernel_rfl) (by simp) (AllReadyH.cons rfl (fun K hK => ?_) AllReadyH.nil)
              rw [if_pos (by rfl)]
              (try simp only [gs])
              go_simp
              refine (HFC.out _ g1.q).mono ?_
              rintro e y2 ⟨rfl, b2⟩
              refine hK.out _ _ (g1.called HMO.out b2) (fun g2 => ?_)
              clear hK K
              (try simp only [gs])
              refine wpAnyH_take (i := 12) (v := .bool false) rfl (by kernel_rfl) (by kernel_rfl) (by kernel_rfl) (fun _ _ _ h => h) (Or.inl ⟨by rfl, ?_⟩) g2 ?_
              case refine_1 => (intro w hSw; (try dsimp only at hSw); have q := eq_key w (firstN Y) KK HFL.out HKL.out; rw [HF1.out] at q; go_simp; first | done | rfl)
              (try simp only [gs])
              refine wpAnyH_take (i := 13) (v := ?_) rfl (by kernel_rfl) (by kernel_rfl) (by kernel_rfl) (fun _ _ _ h => h) (Or.inl ⟨by rfl, ?_⟩) g2 ?_
              case refine_2 => (intro w hSw; (try dsimp only at hSw); go_simp; try (with_reducible rfl))
              (try simp only [gs])
              refine wpAnyH_take (i := 14) (v := ?_) rfl (by kernel_rfl) (by kernel_rfl) (by kernel_rfl) (fun _ _ _ h => h) (Or.inl ⟨by rfl, ?_⟩) g2 ?_
              case refine_2 => (intro w hSw; (try dsimp only at hSw); go_simp; try (with_reducible rfl))
              (try simp only [gs])
              refine wpAnyH_take (i := 15) rfl (by kernel_rfl) (by kernel_rfl) (by kernel_rfl) (fun _ _ _ h => h) (yieldsIf_load_mid (by rfl) _ _ rfl _ _ rfl _ _ (fun _ h => h.t.r) Tryz.underlying27 rfl (by rw [sc_length _ _ _ HPO.out.1 HPO.out.2]; exact Tryz.span_info)) g2 ?_
              (try simp only [gs])
              refine wpAnyH_take (i := 16) rfl (by kernel_rfl) (by kernel_rfl) (by kernel_rfl) (fun _ _ _ h => h) (yieldsIf_load_mid (by rfl) _ _ rfl _ _ rfl _ _ (fun _ h => h.m.range) Tryz.underlying60 rfl Tryz.node_info) g2 ?_
              (try simp only [gs])
              refine wpAnyH_ready (rs := [17]) (by kernel_rfl) (by simp) (AllReadyH.cons rfl (fun K hK => ?_) AllReadyH.nil)
              rw [if_pos (by rfl)]
              (try simp only [gs])
              go_simp
              refine (HLC.out _ g2.q).mono ?_
              rintro e y3 ⟨rfl, hll, b3⟩
              have HLL : Hid ((lastN Y).length = 24) := hll
              clear hll
              refine hK.out _ _ (g2.called HMO.out b3) (fun g3 => ?_)
              clear hK K
              (try simp only [gs])
              refine wpAnyH_ready (rs := [18]) (by kernel_rfl) (by simp) (AllReadyH.cons rfl (fun K hK => ?_) AllReadyH.nil)
              rw [if_pos (by rfl)]
              (try simp only [gs])
              go_simp
              refine (within_calls _ p.F p.T p.e (lastN Y) HPO.out.1 HPO.out.2 HLL.out).mono ?_
              rintro e y4 ⟨rfl, b4⟩
              rw [HIN.out]
              refine hK.out _ _ (g3.called HMO.out b4) (fun g4 => ?_)
              clear hK K
              (try simp only [gs])
              refine wpAnyH_take (i := 19) (v := ?_) rfl (by kernel_rfl) (by kernel_rfl) (by kernel_rfl) (fun _ _ _ h => h) (Or.inl ⟨by rfl, ?_⟩) g4 ?_
              case refine_2 => (intro w hSw; (try dsimp only at hSw); go_simp; try (with_reducible rfl))
              (try simp only [gs])
              refine wpAnyH_take (i := 20) (v := ?_) rfl (by kernel_rfl) (by kernel_rfl) (by kernel_rfl) (fun _ _ _ h => h) (Or.inl ⟨by rfl, ?_⟩) g4 ?_
              case refine_2 => (intro w hSw; (try dsimp only at hSw); go_simp; try (with_reducible rfl))
              (try simp only [gs])
              refine wpAnyH_done (by kernel_rfl) ?_ _
              refine NoPanic.normal ?_
              have HFIN : Hid (C = 12) := (show _ = _ by rw [HGO2.out, if_pos (by rw [HBK.out, HF1.out, HIN.out]; rfl)])
              have HBL : Hid (Below w.heap.size w _) := g4.c.bel
              clear M5 HGO2 HBK HRCC
              go_wp2_with fail
              go_ret
              exact ⟨by rw [HFIN.out]; rfl, HBL.out⟩
            | true =>
              have HIN : Hid (inS p.F p.T p.e (lastN Y) = true) := hin
              clear hin
              refine wp_region_noPanic ?_
              refine wp_region_held_drew (S := (fun y => CR R w y x (.slice ap x.ps.length cp) (.slice (some ⟨ga, oa, none⟩) Q cq) s d E d2 Y (.slice yp Y.ps.length ycp) (.slice yq Y.ks.length ycq) d3 p)) (by kernel_rfl) (M5.called HMO.out ⟨rfl, rfl, rfl, Nat.le_refl _, fun _ _ => rfl⟩) (fun hHeld => ?_)
              refine wpAnyH_take (i := 0) (v := ?_) rfl (by kernel_rfl) (by kernel_rfl) (by kernel_rfl) (fun _ _ _ h => h) (Or.inl ⟨by rfl, ?_⟩) hHeld ?_
              case refine_2 => (intro w hSw; (try dsimp only at hSw); obtain ⟨k0, k1, k2⟩ := hSw.m.cells; go_simp; try (with_reducible rfl))
              (try simp only [gs])
              refine wpAnyH_take (i := 1) (v := ?_) rfl (by kernel_rfl) (by kernel_rfl) (by kernel_rfl) (fun _ _ _ h => h) (Or.inl ⟨by rfl, ?_⟩) hHeld ?_
              case refine_2 => (intro w hSw; (try dsimp only at hSw); obtain ⟨k0, k1, k2⟩ := hSw.m.cells; go_simp; try (with_reducible rfl))
              (try simp only [gs])
              refine wpAnyH_take (i := 2) (v := ?_) rfl (by kernel_rfl) (by kernel_rfl) (by kernel_rfl) (fun _ _ _ h => h) (Or.inl ⟨by rfl, ?_⟩) hHeld ?_
              case refine_2 => (intro w hSw; (try dsimp only at hSw); obtain ⟨k0, k1, k2⟩ := hSw.m.cells; go_simp; try (with_reducible rfl))
              (try simp only [gs])
              refine wpAnyH_take (i := 3) (v := ?_) rfl (by kernel_rfl) (by kernel_rfl) (by kernel_rfl) (fun _ _ _ h => h) (Or.inl ⟨by rfl, ?_⟩) hHeld ?_
              case refine_2 => (intro w hSw; (try dsimp only at hSw); obtain ⟨k0, k1, k2⟩ := hSw.m.cells; go_simp; try (with_reducible rfl))
              (try simp only [gs])
              refine wpAnyH_take (i := 4) (v := ?_) rfl (by kernel_rfl) (by kernel_rfl) (by kernel_rfl) (fun _ _ _ h => h) (Or.inl ⟨by rfl, ?_⟩) hHeld ?_
              case refine_2 => (intro w hSw; (try dsimp only at hSw); obtain ⟨k0, k1, k2⟩ := hSw.m.cells; go_simp; try (with_reducible rfl))
              (try simp only [gs])
              refine wpAnyH_take (i := 5) (v := ?_) rfl (by kernel_rfl) (by kernel_rfl) (by kernel_rfl) (fun _ _ _ h => h) (Or.inl ⟨by rfl, ?_⟩) hHeld ?_
              case refine_2 => (intro w hSw; (try dsimp only at hSw); obtain ⟨k0, k1, k2⟩ := hSw.m.cells; go_simp; try (with_reducible rfl))
              (try simp only [gs])
              generalize x5.drew = y0 at *
              refine wpAnyH_ready (rs := [6]) (by kernel_rfl) (by simp) (AllReadyH.cons rfl (fun K hK => ?_) AllReadyH.nil)
              rw [if_pos (by rfl)]
              (try simp only [gs])
              go_simp
              refine (HSH.out _).mono ?_
              rintro e y1 ⟨rfl, rfl⟩
              refine hK.out _ _ hHeld (fun g1 => ?_)
              clear hK K
              (try simp only [gs])
              refine wpAnyH_take (i := 7) (v := ?_) rfl (by kernel_rfl) (by kernel_rfl) (by kernel_rfl) (fun _ _ _ h => h) (Or.inl ⟨by rfl, ?_⟩) g1 ?_
              case refine_2 => (intro w hSw; (try dsimp only at hSw); go_simp; try (with_reducible rfl))
              (try simp only [gs])
              refine wpAnyH_take (i := 8) rfl (by kernel_rfl) (by kernel_rfl) (by kernel_rfl) (fun _ _ _ h => h) (yieldsIf_load_mid (by rfl) _ _ rfl _ _ rfl _ _ (fun _ h => h.m.range) Tryz.underlying60 rfl Tryz.node_info) g1 ?_
              (try simp only [gs])
              refine wpAnyH_take (i := 10) (v := ?_) rfl (by kernel_rfl) (by kernel_rfl) (by kernel_rfl) (fun _ _ _ h => h) (Or.inl ⟨by rfl, ?_⟩) g1 ?_
              case refine_2 => (intro w hSw; (try dsimp only at hSw); go_simp; try (with_reducible rfl))
              (try simp only [gs])
              refine wpAnyH_take (i := 11) rfl (by kernel_rfl) (by kernel_rfl) (by kernel_rfl) (fun _ _ _ h => h) (yieldsIf_load_mid (by rfl) _ _ rfl _ _ rfl _ _ (fun _ h => (HEK.out ▸ range_key h.k.range : World.rangeAt _ d 0 (bc KK))) Tryz.underlying25 rfl (by rw [bc_length, HKL.out]; exact Tryz.key_info)) g1 ?_
              (try simp only [gs])
              refine wpAnyH_ready (rs := [9]) (by kernel_rfl) (by simp) (AllReadyH.cons rfl (fun K hK => ?_) AllReadyH.nil)
              rw [if_pos (by rfl)]
              (try simp only [gs])
              go_simp
              refine (HFC.out _ g1.q).mono ?_
              rintro e y2 ⟨rfl, b2⟩
              refine hK.out _ _ (g1.called HMO.out b2) (fun g2 => ?_)
              clear hK K
              (try simp only [gs])
              refine wpAnyH_take (i := 12) (v := .bool false) rfl (by kernel_rfl) (by kernel_rfl) (by kernel_rfl) (fun _ _ _ h => h) (Or.inl ⟨by rfl, ?_⟩) g2 ?_
              case refine_1 => (intro w hSw; (try dsimp only at hSw); have q := eq_key w (firstN Y) KK HFL.out HKL.out; rw [HF1.out] at q; go_simp; first | done | rfl)
              (try simp only [gs])
              refine wpAnyH_take (i := 13) (v := ?_) rfl (by kernel_rfl) (by kernel_rfl) (by kernel_rfl) (fun _ _ _ h => h) (Or.inl ⟨by rfl, ?_⟩) g2 ?_
              case refine_2 => (intro w hSw; (try dsimp only at hSw); go_simp; try (with_reducible rfl))
              (try simp only [gs])
              refine wpAnyH_take (i := 14) (v := ?_) rfl (by kernel_rfl) (by kernel_rfl) (by kernel_rfl) (fun _ _ _ h => h) (Or.inl ⟨by rfl, ?_⟩) g2 ?_
              case refine_2 => (intro w hSw; (try dsimp only at hSw); go_simp; try (with_reducible rfl))
              (try simp only [gs])
              refine wpAnyH_take (i := 15) rfl (by kernel_rfl) (by kernel_rfl) (by kernel_rfl) (fun _ _ _ h => h) (yieldsIf_load_mid (by rfl) _ _ rfl _ _ rfl _ _ (fun _ h => h.t.r) Tryz.underlying27 rfl (by rw [sc_length _ _ _ HPO.out.1 HPO.out.2]; exact Tryz.span_info)) g2 ?_
              (try simp only [gs])
              refine wpAnyH_take (i := 16) rfl (by kernel_rfl) (by kernel_rfl) (by kernel_rfl) (fun _ _ _ h => h) (yieldsIf_load_mid (by rfl) _ _ rfl _ _ rfl _ _ (fun _ h => h.m.range) Tryz.underlying60 rfl Tryz.node_info) g2 ?_
              (try simp only [gs])
              refine wpAnyH_ready (rs := [17]) (by kernel_rfl) (by simp) (AllReadyH.cons rfl (fun K hK => ?_) AllReadyH.nil)
              rw [if_pos (by rfl)]
              (try simp only [gs])
              go_simp
              refine (HLC.out _ g2.q).mono ?_
              rintro e y3 ⟨rfl, hll, b3⟩
              have HLL : Hid ((lastN Y).length = 24) := hll
              clear hll
              refine hK.out _ _ (g2.called HMO.out b3) (fun g3 => ?_)
              clear hK K
              (try simp only [gs])
              refine wpAnyH_ready (rs := [18]) (by kernel_rfl) (by simp) (AllReadyH.cons rfl (fun K hK => ?_) AllReadyH.nil)
              rw [if_pos (by rfl)]
              (try simp only [gs])
              go_simp
              refine (within_calls _ p.F p.T p.e (lastN Y) HPO.out.1 HPO.out.2 HLL.out).mono ?_
              rintro e y4 ⟨rfl, b4⟩
              rw [HIN.out]
              refine hK.out _ _ (g3.called HMO.out b4) (fun g4 => ?_)
              clear hK K
              (try simp only [gs])
              refine wpAnyH_take (i := 19) (v := ?_) rfl (by kernel_rfl) (by kernel_rfl) (by kernel_rfl) (fun _ _ _ h => h) (Or.inl ⟨by rfl, ?_⟩) g4 ?_
              case refine_2 => (intro w hSw; (try dsimp only at hSw); go_simp; try (with_reducible rfl))
              (try simp only [gs])
              refine wpAnyH_take (i := 20) (v := ?_) rfl (by kernel_rfl) (by kernel_rfl) (by kernel_rfl) (fun _ _ _ h => h) (Or.inl ⟨by rfl, ?_⟩) g4 ?_
              case refine_2 => (intro w hSw; (try dsimp only at hSw); go_simp; try (with_reducible rfl))
              (try simp only [gs])
              refine wpAnyH_done (by kernel_rfl) ?_ _
              refine NoPanic.normal ?_
              have HGO3 : Hid (C = if rec Y p = 0 then checkGo g rec x s m else rec Y p) := (show _ = _ by rw [HGO2.out, if_neg (by rw [HBK.out, HF1.out, HIN.out]; simp)])
              have M6 := g4
              clear M5 HGO2 HBK g4 g1 g2 g3 hHeld b2 b3 b4
              have hcc := HRCC.out _ M6
              go_upto_region 10 with fail
              by_cases hrc0 : rec Y p = 0
              · have HNX : Hid (checkGo g rec x s m = C) := (show _ = _ by rw [HGO3.out, if_pos hrc0])
                rw [hrc0] at hcc
                clear hrc0 HGO3
                go_wp2_with (first
                  | (refine load_node _ rfl d2 rfl rfl _ _ _ M6.m ?_)
                  | (refine load_span _ rfl d3 rfl rfl p.F p.T p.e M6.t ?_)
                  | (go_at_call 39; refine hcc.mono ?_; rintro e w9 ⟨rfl, b9⟩))
                go_roundg m
                case measure => omega
                case rel => exact ⟨k + 1, by omega, congrArg _ (by first | omega | (unfold wrap64; omega)), (M6.called HMO.out b9).c, HNX⟩
              · have HFIN : Hid (C = rec Y p) := (show _ = _ by rw [HGO3.out, if_neg hrc0])
                have hrc' : (rec Y p != 0) = true := by simpa using hrc0
                generalize rec Y p = rc at *
                clear hrc0 HGO3
                go_wp2_with (first
                  | (refine load_node _ rfl d2 rfl rfl _ _ _ M6.m ?_)
                  | (refine load_span _ rfl d3 rfl rfl p.F p.T p.e M6.t ?_)
                  | (go_at_call 39; refine hcc.mono ?_; rintro e w9 ⟨rfl, b9⟩))
                go_ret
                exact ⟨by rw [HFIN.out]; rfl, (M6.called HMO.out b9).c.bel⟩
theorem checkKids_calls {lim : Nat} {R : World → Prop} {iv : Value} {g : Int → Nod × Int} (D : Getter lim R iv g) : ∀ (k : Nat) (w : World) (x : Nod) (pv qv : Value) (s : Sp), R w → Parts w x pv qv → s.Ok → rightN x = true → x.lv ≤ (k : Int) →
    Calls Tryz.prog 39 #[iv, nv x pv qv, spv s] w fun e w' => e = .returned (.int .i64 (checkP g k x s)) ∧ Below w.heap.size w w' := by
  intro k
  induction k with
  | zero =>
    intro w x pv qv s hR h hs hr hk
    have h0 : x.ks.length = 0 := by
      have F := fits hr
      rcases F.one with ⟨_, q2, _⟩ | ⟨q1, _, _⟩
      · rw [q2]; rfl
      · have := F.l0; exfalso; apply q1; simp at hk; omega
    have := checkKids_step D x (fun _ _ => 0) (fun w y py qy p _ _ _ hy hl => by have := (fits hy).l0; exfalso; simp at hk; omega) w pv qv s hR h hs hr
    rw [h0] at this
    exact this
  | succ k ih =>
    intro w x pv qv s hR h hs hr hk
    exact checkKids_step D x (checkP g k) (fun w y py qy p a b c d e => ih w y py qy p a b c d (by rw [e]; simp at hk; omega)) w pv qv s hR h hs hr
end Go.Proofs.YtjhdnpplmlddaaaGreat
