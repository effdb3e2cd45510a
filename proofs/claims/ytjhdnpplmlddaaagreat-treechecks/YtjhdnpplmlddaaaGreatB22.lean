import Derived.Test.YtjhdnpplmlddaaaGreatB21
/- scan of package tree. -/
namespace Go.Proofs.YtjhdnpplmlddaaaGreat
set_option linter.unusedVariables false
open Go.RowKit

theorem slice_P1 {ops : Array Oper} {rest : List Oper} {o : Oper} {a : Act} {w : World} {Q : Exit → Act → World → Prop} (x : Operand) (ho : o.op = .buildSlice 39 1 #[(0, x)]) (hg : o.guard = none) (E : El) (hE : E.Ok) (hx : a.eval x = ev E)
    (h : wpList Tryz.prog ops Q rest (a.put o.dst (.slice (some ⟨w.heap.size, 0, none⟩) 1 1)) (w.alloc (.cells (ec E).toArray 89))) : wpList Tryz.prog ops Q (o :: rest) a w :=
  wpList_plain hg fun _ hK => wp_buildSliceTo 39 89 1 _ ho Tryz.underlying39 (ec E).toArray (by simp only [List.map_toArray, List.map_cons, List.map_nil, hx]; exact slice_one _ _ _ Tryz.row_P rfl _ hE) (hK _ _ h)
/-- append of one pair to a row of one's own. -/
theorem append_P1 {ops : Array Oper} {rest : List Oper} {o : Oper} {a : Act} {w : World} {Q : Exit → Act → World → Prop} (s x : Operand) (ho : o.op = .call { callee := .builtin .append, args := #[s, x], argTypes := #[39, 39] }) (hgd : o.guard = none)
    (B : Nat) (fv : Value) (l : List Pr) (hq : OwnP B w fv l) (hB : B ≤ w.heap.size) (hs : a.eval s = fv) (d : Nat) (hx : a.eval x = .slice (some ⟨d, 0, none⟩) 1 1) (p : Pr) (hp : p.k.length = 24) (hl : l.length ≤ 1000000) (hr : w.rangeAt d 0 (ec p.el))
    (h : ∀ fv' w', OwnP B w' fv' (l ++ [p]) → Fr fv.ownBlock w w' → Near fv.ownBlock fv'.ownBlock w.heap.size → Below B w w' → wpList Tryz.prog ops Q rest (a.put o.dst fv') w') : wpList Tryz.prog ops Q (o :: rest) a w := by
  obtain ⟨i0, hi, hz0, hz1, hz2⟩ := info_parts Tryz.row_P
  refine wpList_append_lies w hgd s x 39 ho B 89 i0 (.agg (ec nilP).toArray) 25 40 Tryz.underlying39 hi hz0 hz1 hz2 rfl (by decide) fv l.length _ hs hq ⟨d, 0, none⟩ 1 1 (ec p.el) hx (by rw [ec_length (Pr.ok_el hp)]) (fun i u hu => by rw [add_lit]; exact hr i u hu) (ec_one (Pr.ok_el hp)) (by omega) (by unfold maxLen; omega) (by omega) hB _ rfl ?_
  intro g cap w' ow gr hat hlt
  refine h _ w' ?_ (Fr.of_grown gr) ?_ ((Fr.of_grown gr).below hB (fun k hk => (hq.lt k hk).1))
  · show w'.ownsRow B 89 25 _ (l ++ [p]).length (flat ((l ++ [p]).map Pr.el))
    rw [flat_Pr, List.length_append]
    exact ow
  · intro k hk
    have hk' : g = k := by simpa [Value.ownBlock] using hk
    subst hk'
    rcases hat with q | q
    · exact .inl q
    · exact .inr (Nat.le_of_eq q.symm)
theorem filter_step (s : Sp) (ps : List Pr) (j : Nat) (h : j < ps.length) : (ps.take (j + 1)).filter (inP s) = (ps.take j).filter (inP s) ++ (if inP s ps[j] then [ps[j]] else []) := by
  rw [List.take_succ_eq_append_getElem h, List.filter_append]
  simp [List.filter_cons]
set_option maxHeartbeats 16000000 in
set_option maxRecDepth 100000 in
theorem scan_step {lim : Nat} {R : World → Prop} {iv : Value} {g : Int → Nod × Int} (D : Getter lim R iv g) (w0 : World) (hR : R w0) (hlim : lim ≤ w0.heap.size) (rec : Int → Int → Sp → Int × List Pr) (w : World) (n lvl : Int) (s : Sp) (fv : Value) (l : List Pr)
    (hb : Below w0.heap.size w0 w) (ho : OwnP w0.heap.size w fv l) (hs : s.Ok) (hn : Rng n) (hlen : l.length + (scanStep g rec n lvl s).2.length ≤ 1000000)
    (hcall : ∀ (y : World) (i : Nat) (f : Value) (l' : List Pr), (readP g n lvl).2 = 0 → i < (readP g n lvl).1.ks.length → Below w0.heap.size w0 y → OwnP w0.heap.size y f l' → l'.length + (rec (nAt (readP g n lvl).1.ks i) ((readP g n lvl).1.lv - 1) (narS s (readP g n lvl).1.ks i)).2.length ≤ 1000000 →
      Calls Tryz.prog 36 #[iv, .int .i64 (nAt (readP g n lvl).1.ks i), .int .i64 ((readP g n lvl).1.lv - 1), spv (narS s (readP g n lvl).1.ks i), f] y (ScanTo w0 y f l' (rec (nAt (readP g n lvl).1.ks i) ((readP g n lvl).1.lv - 1) (narS s (readP g n lvl).1.ks i)))) :
    Calls Tryz.prog 36 #[iv, .int .i64 n, .int .i64 lvl, spv s, fv] w (ScanTo w0 w fv l (scanStep g rec n lvl s)) := by
  obtain ⟨T0, rv, rfl⟩ := D.ifc
  have HB : Hid (w0.heap.size ≤ w.heap.size) := hb.size
  obtain ⟨RES, hRES⟩ : ∃ RES, RES = scanStep g rec n lvl s := ⟨_, rfl⟩
  have HS0 : Hid (SpIn (w.alloc (.cells (sc s.F s.T s.e).toArray 27)) w.heap.size s.F s.T s.e ∧ Below w.heap.size w (w.alloc (.cells (sc s.F s.T s.e).toArray 27))) := ⟨(HasS.new w s.F s.T s.e hs.1 hs.2).sp, (Below.refl _ w).alloc (Nat.le_refl _) _⟩
  have B1 : Below w0.heap.size w0 (w.alloc (.cells (sc s.F s.T s.e).toArray 27)) := hb.trans (HS0.out.2.mono HB.out)
  have hrc := read_calls D (w.alloc (.cells (sc s.F s.T s.e).toArray 27)) n lvl (D.mono _ _ hR B1) hn
  have HRES : Hid (RES = if (readP g n lvl).2 = 0 then ((scanGo rec (readP g n lvl).1 s (readP g n lvl).1.ks.length).1, (readP g n lvl).1.ps.filter (inP s) ++ (scanGo rec (readP g n lvl).1 s (readP g n lvl).1.ks.length).2) else ((readP g n lvl).2, [])) := (show _ = _ by rw [hRES]; rfl)
  have HCL : Hid (∀ (y : World) (i : Nat) (f : Value) (l' : List Pr), (readP g n lvl).2 = 0 → i < (readP g n lvl).1.ks.length → Below w0.heap.size w0 y → OwnP w0.heap.size y f l' → l'.length + (rec (nAt (readP g n lvl).1.ks i) ((readP g n lvl).1.lv - 1) (narS s (readP g n lvl).1.ks i)).2.length ≤ 1000000 →
      Calls Tryz.prog 36 #[.iface T0 rv, .int .i64 (nAt (readP g n lvl).1.ks i), .int .i64 ((readP g n lvl).1.lv - 1), spv (narS s (readP g n lvl).1.ks i), f] y (ScanTo w0 y f l' (rec (nAt (readP g n lvl).1.ks i) ((readP g n lvl).1.lv - 1) (narS s (readP g n lvl).1.ks i)))) := hcall
  have HLEN : Hid (l.length + RES.2.length ≤ 1000000) := (show _ ≤ _ by rw [hRES]; exact hlen)
  have HRX : Hid ((readP g n lvl).2 = 0 → rightN (readP g n lvl).1 = true) := fun q => by
    unfold readP at q ⊢
    split at q
    · rename_i q1
      rw [if_pos q1]
      split at q
      · rename_i q2
        rw [if_pos q2]
        exact q2.1
      · simp at q
    · rename_i q1
      exact absurd q q1
  have HOK : Hid s.Ok := hs
  have HOW : Hid (OwnP w0.heap.size w fv l) := ho
  have HLM : Hid (lim ≤ w0.heap.size) := hlim
  have HBW : Hid (Below w0.heap.size w0 w) := hb
  rw [← hRES]
  clear hRES hcall hlen hs ho hb hn hR D hlim B1
  generalize readP g n lvl = RR at *
  obtain ⟨X, c⟩ := RR
  simp only at HRES HCL HRX
  go_enter Tryz.func36, Tryz.ntmps36
  go_upto_region 1 with fail
  go_upto_region 2 with (first
    | (go_at_call 38; refine hrc.mono ?_; rintro e w2 ⟨px, qx, rfl, P2, b2, lm2⟩)
    | (refine store_node rfl _ _ rfl w2.heap.size rfl X px qx rfl P2.p.one P2.q.one nilN (.slice none 0 0) (.slice none 0 0) (HasN.new w2 nilN (.slice none 0 0) (.slice none 0 0) _ rfl rfl rfl) ?_; intro x3 hu3 tx3 sx3))
  have BS3 := step_below (Below.refl _ w2) _ tx3
  have hs2 := b2.size
  simp at hs2
  have BW : Below w.heap.size w x3 := (HS0.out.2.trans (b2.mono (by simp))).trans (BS3.mono (by omega))
  have M3 : SC w0 w x3 s w2.heap.size X px qx fv.ownBlock fv l := by
    refine ⟨(HS0.out.1.below b2 (by simp)).below BS3 (by omega), hu3, P2.below BS3, HBW.out.trans (BW.mono HB.out), own_same HOW.out (fun k hk => BW.block k (HOW.out.lt k hk).2), fun k hk => ?_, Fr.of_below _ BW, Near.refl _ _⟩
    have hk1 := HOW.out.lt k hk
    have hl := HLM.out
    exact ⟨by omega, by omega, lm2.1.mono (fun j hj => by rcases hj with q | q; omega; simp at q; omega), lm2.2.mono (fun j hj => by rcases hj with q | q; omega; simp at q; omega)⟩
  have HM3 : Hid (SC w0 w x3 s w2.heap.size X px qx fv.ownBlock fv l) := M3
  clear BS3 hs2 BW M3 hu3 P2 b2 lm2 tx3 sx3 hrc HS0 HBW HOW HLM
  generalize w2.heap.size = d at *
  by_cases hc : c = 0
  rotate_left
  · have hc' : (c != 0) = true := by simpa using hc
    have HF : Hid (RES = (c, [])) := (show _ = _ by rw [HRES.out, if_neg hc])
    have HCN : Hid (¬ c = 0) := hc
    clear hc HRES HCL HRX
    go_wp2_with fail
    go_ret2
    exact ⟨HM3.out.bel, HM3.out.fr, .inl ⟨by rw [HF.out]; exact HCN.out, by rw [HF.out]; rfl⟩⟩
  subst hc
  have hrX := HRX.out rfl
  have FX := fits hrX
  obtain ⟨xp, xcp, rfl⟩ := HM3.out.q.lenP
  obtain ⟨xq, xcq, rfl⟩ := HM3.out.q.lenQ
  have mP := (els_max HM3.out.q.p).2
  have mQ := (els_max HM3.out.q.q).2
  obtain ⟨P, hP⟩ : ∃ P : Nat, P = X.ps.length := ⟨_, rfl⟩
  obtain ⟨Q, hQ⟩ : ∃ Q : Nat, Q = X.ks.length := ⟨_, rfl⟩
  have HP : Hid (P = X.ps.length) := hP
  have HQ : Hid (Q = X.ks.length) := hQ
  have hmP : (P : Int) ≤ 9223372036854775807 := by unfold maxLen at mP; omega
  have hmQ : (Q : Int) ≤ 9223372036854775807 := by unfold maxLen at mQ; omega
  have HLV : Hid (0 < X.ks.length → 1 ≤ X.lv ∧ X.lv ≤ 11) := fun h0 => by
    have h1 := FX.l0
    have h2 := FX.l1
    rcases FX.one with ⟨q1, q2, _⟩ | ⟨q1, _, _⟩
    · rw [q2] at h0; simp at h0
    · omega
  have HKD : Hid (∀ i (hi : i < X.ks.length), (X.ks[i]).k.length = 24) := fun i hi => HM3.out.q.keyed.2 _ (List.getElem_mem hi)
  have HPD : Hid (∀ i (hi : i < X.ps.length), (X.ps[i]).k.length = 24) := fun i hi => HM3.out.q.keyed.1 _ (List.getElem_mem hi)
  obtain ⟨GO, hGO⟩ : ∃ GO, GO = scanGo rec X s X.ks.length := ⟨_, rfl⟩
  have HGO : Hid (scanGo rec X s Q = GO) := (show _ = _ by rw [hGO, hQ])
  have HF : Hid (RES = (GO.1, X.ps.filter (inP s) ++ GO.2)) := (show _ = _ by rw [HRES.out, if_pos rfl, hGO])
  have HLN : Hid (l.length + (X.ps.filter (inP s)).length + GO.2.length ≤ 1000000) := (show _ ≤ _ by have := HLEN.out; rw [HF.out] at this; simp only [List.length_append] at this; omega)
  have HM4 : Hid (SC w0 w x3 s d X (.slice xp P xcp) (.slice xq Q xcq) fv.ownBlock fv l) := (show SC _ _ _ _ _ _ _ _ _ _ _ by rw [hP, hQ]; exact HM3.out)
  obtain ⟨c0, c1, c2⟩ := HM4.out.m.cells
  clear hrX FX mP mQ hP hQ hGO HRES HLEN HRX HM3
  obtain ⟨r0, hr0⟩ : ∃ r0, r0 = fv.ownBlock := ⟨_, rfl⟩
  rw [← hr0] at HM4
  have HR0 : Hid (r0 = fv.ownBlock) := hr0
  clear hr0
  go_wp2_with fail
  clear c0 c1 c2
  go_loopg [4, 32] P (fun m f v wr => ∃ (j : Nat) (f' : Value), j + m = P ∧ f' = f ∧ v = .int .i64 (j : Int) ∧ Hid (SC w0 w wr s d X (.slice xp P xcp) (.slice xq Q xcq) r0 f' (l ++ (X.ps.take j).filter (inP s))))
  case atStart => exact ⟨0, fv, by omega, rfl, rfl, (show SC _ _ _ _ _ _ _ _ _ _ _ by have := HM4.out; simpa using this)⟩
  case round =>
    clear HM4
    obtain ⟨j, f', hjm, rfl, rfl, HM⟩ := hrel
    cases gk with
    | succ m =>
      have hjP : (j : Int) < (P : Int) := by omega
      have hjl : j < X.ps.length := by rw [← HP.out]; omega
      obtain ⟨ga, oa, rfl, hga, hat, ok⟩ := els_get HM.out.q.p j hjl
      have HR1 : Hid (wr.rangeAt ga (oa + j * 25) (ec (Pr.el X.ps[j])) ∧ (Pr.el X.ps[j]).Ok) := ⟨hat, ok⟩
      have HFS : Hid (l ++ (X.ps.take (j + 1)).filter (inP s) = (l ++ (X.ps.take j).filter (inP s)) ++ (if inP s X.ps[j] then [X.ps[j]] else [])) := (show _ = _ by rw [filter_step s X.ps j hjl, List.append_assoc])
      have HLJ : Hid ((l ++ (X.ps.take j).filter (inP s)).length ≤ 1000000) := (show _ ≤ _ by
        have h1 := HLN.out
        have h2 : ((X.ps.take j).filter (inP s)).length ≤ (X.ps.filter (inP s)).length := ((List.take_sublist j X.ps).filter _).length_le
        rw [List.length_append]
        omega)
      have HKJ : Hid ((X.ps[j]).k.length = 24) := HPD.out j hjl
      have HIN : Hid (inP s X.ps[j] = inS s.F s.T s.e (X.ps[j]).k) := rfl
      generalize X.ps[j] = pj at *
      generalize l ++ (X.ps.take j).filter (inP s) = lj at *
      clear hat ok
      go_upto_region 7 with (first
        | (refine load_P _ rfl ga (oa + j * 25) rfl rfl pj.el HR1.out.2 HR1.out.1 ?_)
        | (refine store_P rfl _ _ rfl wr.heap.size rfl pj.el rfl HR1.out.2 nilP (zero_P wr _ rfl) ?_; intro x1 hu1 tx1 sx1))
      have M1 := HM.out.called (step_below (Below.refl _ wr) _ tx1)
      have lt1 : wr.heap.size < x1.heap.size := hu1.lt
      clear tx1 sx1 HM
      generalize wr.heap.size = d9 at *
      have hwc := within_calls x1 s.F s.T s.e pj.k HOK.out.1 HOK.out.2 HKJ.out
      cases hin : inS s.F s.T s.e pj.k with
      | false =>
        rw [hin] at hwc
        have HN : Hid (l ++ (X.ps.take (j + 1)).filter (inP s) = lj) := (show _ = _ by rw [HFS.out, HIN.out, hin]; simp)
        go_upto_region 9 with (first
          | (refine load_span _ rfl w.heap.size rfl rfl s.F s.T s.e M1.s ?_)
          | (refine load_part _ rfl d9 0 rfl rfl pj.k HKJ.out (range_key hu1.range) ?_)
          | (go_at_call 58; refine hwc.mono ?_; rintro e w2 ⟨rfl, b2⟩))
        have M2 := M1.called b2
        clear M1 hu1 b2 hwc
        go_wp2_with fail
        go_roundg m
        case measure => omega
        case rel => exact ⟨j + 1, _, by omega, rfl, congrArg _ (by first | omega | (unfold wrap64; omega)), (by rw [HN.out]; exact M2)⟩
      | true =>
        rw [hin] at hwc
        have HN : Hid (l ++ (X.ps.take (j + 1)).filter (inP s) = lj ++ [pj]) := (show _ = _ by rw [HFS.out, HIN.out, hin]; simp)
        go_upto_region 8 with (first
          | (refine load_span _ rfl w.heap.size rfl rfl s.F s.T s.e M1.s ?_)
          | (refine load_part _ rfl d9 0 rfl rfl pj.k HKJ.out (range_key hu1.range) ?_)
          | (go_at_call 58; refine hwc.mono ?_; rintro e w2 ⟨rfl, b2⟩))
        have M2 := M1.called b2
        have hu2 := hu1.below b2 lt1
        clear M1 hu1 b2 hwc
        have M3 := M2.called ((Below.refl _ w2).alloc (Nat.le_refl _) (.cells (ec pj.el).toArray 89))
        have RW : (w2.alloc (.cells (ec pj.el).toArray 89)).rangeAt w2.heap.size 0 (ec pj.el) := (HasP.new w2 pj.el _ rfl (Pr.ok_el HKJ.out)).range
        have hB3 : w0.heap.size ≤ (w2.alloc (.cells (ec pj.el).toArray 89)).heap.size := M3.bel.size
        go_upto_region 9 with (first
          | (at_builtin; refine append_P1 (.tmp 40) (.tmp 42) rfl rfl w0.heap.size _ lj M3.own hB3 rfl w2.heap.size rfl pj HKJ.out HLJ.out RW ?_; intro fw w4 ow fr nr bl)
          | (refine load_P _ rfl d9 0 rfl rfl pj.el (Pr.ok_el HKJ.out) hu2.range ?_)
          | (refine slice_P1 (.tmp 41) rfl rfl pj.el (Pr.ok_el HKJ.out) rfl ?_))
        have M4 := M3.moved fr (M3.bel.trans bl) ow nr
        clear M3 M2 hu2 fr nr ow bl RW hB3
        go_wp2_with fail
        go_roundg m
        case measure => omega
        case rel => exact ⟨j + 1, _, by omega, rfl, congrArg _ (by first | omega | (unfold wrap64; omega)), (by rw [HN.out]; exact M4)⟩
    | zero =>
      have hjP : ¬ (j : Int) < (P : Int) := by omega
      have HMJ : Hid (SC w0 w wr s d X (.slice xp P xcp) (.slice xq Q xcq) r0 f' (l ++ X.ps.filter (inP s))) := (show SC _ _ _ _ _ _ _ _ _ _ _ by
        have := HM.out
        rwa [List.take_of_length_le (by rw [← HP.out]; omega)] at this)
      obtain ⟨c0, c1, c2⟩ := HMJ.out.m.cells
      clear HM
      go_wp2_with fail
      clear c0 c1 c2
      go_loopg [4, 13, 48] Q (fun m f er v wr => ∃ (j : Nat) (f' : Value) (lj : List Pr), j + m = Q ∧ f' = f ∧ er = .int .i64 0 ∧ v = .int .i64 (j : Int) ∧ Hid (SC w0 w wr s d X (.slice xp P xcp) (.slice xq Q xcq) r0 f' lj) ∧ Hid (lj ++ (scanGo rec X s m).2 = l ++ X.ps.filter (inP s) ++ GO.2 ∧ (scanGo rec X s m).1 = GO.1))
      case atStart => exact ⟨0, f', _, by omega, rfl, rfl, rfl, HMJ, by rw [HGO.out]; exact ⟨rfl, rfl⟩⟩
      case round =>
        clear HMJ HGO
        obtain ⟨j, f', lj, hjm, rfl, rfl, rfl, HM, HEQ⟩ := hrel
        cases gk with
        | zero =>
          have hjQ : ¬ (j : Int) < (Q : Int) := by omega
          have HG1 : Hid (GO.1 = 0) := (show _ = _ by rw [← HEQ.out.2]; rfl)
          have HG2 : Hid (lj = l ++ RES.2) := (show _ = _ by have := HEQ.out.1; rw [HF.out]; simpa [scanGo] using this)
          go_wp2_with fail
          go_ret2
          refine ⟨HM.out.bel, by rw [← HR0.out]; exact HM.out.fr, .inr ⟨by rw [HF.out]; exact HG1.out, _, rfl, by rw [← HG2.out]; exact HM.out.own, by rw [← HR0.out]; exact HM.out.near⟩⟩
        | succ m =>
          have hjQ : (j : Int) < (Q : Int) := by omega
          have hjl : j < X.ks.length := by rw [← HQ.out]; omega
          have hidx : X.ks.length - (m + 1) = j := by rw [← HQ.out]; omega
          obtain ⟨ga, oa, rfl, hga, hat, ok⟩ := els_get HM.out.q.q j hjl
          have HR1 : Hid (wr.rangeAt ga (oa + j * 25) (ec (Kd.el X.ks[j])) ∧ (Kd.el X.ks[j]).Ok) := ⟨hat, ok⟩
          have hlv := HLV.out (by omega)
          have hlI1 : 1 ≤ X.lv := hlv.1
          have hlI2 : X.lv ≤ 11 := hlv.2
          have HSG : Hid (scanGo rec X s (m + 1) = if emptyS (narS s X.ks j).F (narS s X.ks j).T (narS s X.ks j).e then scanGo rec X s m else if (rec (X.ks[j]).n (X.lv - 1) (narS s X.ks j)).1 = 0 then ((scanGo rec X s m).1, (rec (X.ks[j]).n (X.lv - 1) (narS s X.ks j)).2 ++ (scanGo rec X s m).2) else rec (X.ks[j]).n (X.lv - 1) (narS s X.ks j)) := (show _ = _ by rw [scanGo, hidx, nAt_in hjl])
          have HPO : Hid (narS s X.ks j).Ok := narS_ok HOK.out HKD.out j hjl
          have HNC : Hid (∀ y, Parts y X (.slice xp P xcp) (.slice (some ⟨ga, oa, none⟩) Q xcq) → Calls Tryz.prog 59 #[spv s, .slice (some ⟨ga, oa, none⟩) Q xcq, .int .i64 (j : Int)] y fun x1 w' => x1 = .returned (spv (narS s X.ks j)) ∧ Below y.heap.size y w') := fun y hy => narrow_calls y s HOK.out _ X.ks hy.q j hjl
          have HCJ : Hid (∀ (y : World) (f : Value) (l' : List Pr), Below w0.heap.size w0 y → OwnP w0.heap.size y f l' → l'.length + (rec (X.ks[j]).n (X.lv - 1) (narS s X.ks j)).2.length ≤ 1000000 → Calls Tryz.prog 36 #[.iface T0 rv, .int .i64 (X.ks[j]).n, .int .i64 (X.lv - 1), spv (narS s X.ks j), f] y (ScanTo w0 y f l' (rec (X.ks[j]).n (X.lv - 1) (narS s X.ks j)))) := fun y f l' a b c => by
            have := HCL.out y j f l' (by first | rfl | trivial) hjl a b (by rw [nAt_in hjl]; exact c)
            rwa [nAt_in hjl] at this
          have HLL : Hid (lj.length + (scanGo rec X s (m + 1)).2.length ≤ 1000000) := (show _ ≤ _ by
            have h1 := congrArg List.length HEQ.out.1
            have h2 := HLN.out
            simp only [List.length_append] at h1
            omega)
          have ev1 : (Kd.el X.ks[j]).v = .int .i64 (X.ks[j]).n := rfl
          generalize narS s X.ks j = p at *
          generalize Kd.el X.ks[j] = E at *
          generalize hnn : (X.ks[j]).n = nn at *
          generalize rec nn (X.lv - 1) p = RC at *
          clear hat ok hnn hlv hidx
          go_upto_region 13 with (first
            | (refine load_K _ rfl ga (oa + j * 25) rfl rfl E HR1.out.2 HR1.out.1 ?_)
            | (refine store_K rfl _ _ rfl wr.heap.size rfl E rfl HR1.out.2 nilK (zero_K wr _ rfl) ?_; intro x1 hu1 tx1 sx1))
          have M1 := HM.out.called (step_below (Below.refl _ wr) _ tx1)
          clear tx1 sx1 HR1 HM
          generalize wr.heap.size = d9 at *
          obtain ⟨_, _, f2⟩ := M1.m.cells
          have hnc := HNC.out _ M1.q
          go_upto_region 14 with (first
            | (refine load_span _ rfl w.heap.size rfl rfl s.F s.T s.e M1.s ?_)
            | (go_at_call 59; refine hnc.mono ?_; rintro e w4 ⟨rfl, b4⟩)
            | (refine store_span rfl _ _ rfl w4.heap.size rfl p.F p.T p.e rfl HPO.out.1 HPO.out.2 (zs 24) (zs 24) false (spanZ w4) ?_; intro x5 hu5 tx5 sx5))
          have BS5 := step_below (Below.refl _ w4) _ tx5
          have M5 := (M1.called b4).called BS5
          have K5 := (hu1.below b4 hu1.lt).below BS5 (Nat.lt_of_lt_of_le hu1.lt b4.size)
          have S5 := hu5.sp
          clear M1 hu1 b4 BS5 tx5 sx5 hu5 f2 hnc
          generalize w4.heap.size = d10 at *
          have hie := isEmpty_calls x5 p.F p.T p.e HPO.out.1 HPO.out.2
          cases hem : emptyS p.F p.T p.e with
          | true =>
            rw [hem] at hie
            have HNX : Hid (lj ++ (scanGo rec X s m).2 = l ++ X.ps.filter (inP s) ++ GO.2 ∧ (scanGo rec X s m).1 = GO.1) := (show _ ∧ _ by have := HEQ.out; rw [HSG.out, if_pos hem] at this; exact this)
            clear hem HEQ HSG HLL
            go_wp2_with (first
              | (refine load_span _ rfl d10 rfl rfl p.F p.T p.e S5 ?_)
              | (go_at_call 60; refine hie.mono ?_; rintro e w6 ⟨rfl, b6⟩))
            have M6 := M5.called b6
            go_roundg m
            case measure => omega
            case rel => exact ⟨j + 1, _, lj, by omega, rfl, rfl, congrArg _ (by first | omega | (unfold wrap64; omega)), M6, HNX⟩
          | false =>
            rw [hem] at hie
            have HSG2 : Hid (scanGo rec X s (m + 1) = if RC.1 = 0 then ((scanGo rec X s m).1, RC.2 ++ (scanGo rec X s m).2) else RC) := (show _ = _ by rw [HSG.out, if_neg (by rw [hem]; simp)])
            have HLR : Hid (lj.length + RC.2.length ≤ 1000000) := (show _ ≤ _ by
              have h1 := HLL.out
              rw [HSG2.out] at h1
              split at h1
              · simp only [List.length_append] at h1
                omega
              · exact h1)
            clear hem HSG HLL
            go_upto_region 15 with (first
              | (refine load_span _ rfl d10 rfl rfl p.F p.T p.e S5 ?_)
              | (go_at_call 60; refine hie.mono ?_; rintro e w6 ⟨rfl, b6⟩))
            have M6 := M5.called b6
            have K6 := K5.below b6 K5.lt
            have S6 := S5.below b6 S5.lt
            clear M5 K5 S5 b6 hie
            obtain ⟨e0, _, _⟩ := M6.m.cells
            have ek := K6.val
            rw [ev1] at ek
            have hcj := HCJ.out w6 _ lj M6.bel M6.own HLR.out
            by_cases hrc : RC.1 = 0
            · have HNX0 : Hid ((lj ++ RC.2) ++ (scanGo rec X s m).2 = l ++ X.ps.filter (inP s) ++ GO.2 ∧ (scanGo rec X s m).1 = GO.1) := (show _ ∧ _ by have := HEQ.out; rw [HSG2.out, if_pos hrc] at this; exact ⟨by rw [List.append_assoc]; exact this.1, this.2⟩)
              have HRC : Hid (RC.1 = 0) := hrc
              clear hrc HSG2 HEQ
              go_upto_region 16 with (first
                | (refine load_span _ rfl d10 rfl rfl p.F p.T p.e S6 ?_)
                | (go_at_call 36; refine hcj.mono ?_; rintro e w8 ⟨b8, f8, ⟨q8, _⟩ | ⟨_, fw, rfl, o8, n8⟩⟩; · exact absurd HRC.out q8))
              have M8 := M6.moved f8 b8 o8 n8
              clear M6 K6 S6 b8 f8 o8 n8 hcj e0 ek
              go_wp2_with fail
              go_roundg m
              case measure => omega
              case rel => exact ⟨j + 1, _, _, by omega, rfl, rfl, congrArg _ (by first | omega | (unfold wrap64; omega)), M8, HNX0⟩
            · have HRC : Hid (¬ RC.1 = 0) := hrc
              have hrc' : (RC.1 != 0) = true := by simpa using hrc
              have HG1 : Hid (RES.1 = RC.1) := (show _ = _ by have := HEQ.out.2; rw [HSG2.out, if_neg hrc] at this; rw [HF.out]; exact this.symm)
              clear hrc HSG2 HEQ
              go_upto_region 16 with (first
                | (refine load_span _ rfl d10 rfl rfl p.F p.T p.e S6 ?_)
                | (go_at_call 36; refine hcj.mono ?_; rintro e w8 ⟨b8, f8, ⟨_, rfl⟩ | ⟨q8, _⟩⟩; rotate_left; · exact absurd q8 HRC.out))
              have F8 : Fr r0 w w8 := M6.fr.trans f8 M6.near
              have HFIN : Hid (Below w0.heap.size w0 w8 ∧ Fr r0 w w8) := ⟨b8, F8⟩
              clear M6 K6 S6 b8 f8 F8 hcj e0 ek
              generalize RC.1 = rc1 at *
              go_wp2_with fail
              go_ret2
              exact ⟨HFIN.out.1, by rw [← HR0.out]; exact HFIN.out.2, .inl ⟨by rw [HG1.out]; exact HRC.out, by rw [HG1.out]; rfl⟩⟩
end Go.Proofs.YtjhdnpplmlddaaaGreat
