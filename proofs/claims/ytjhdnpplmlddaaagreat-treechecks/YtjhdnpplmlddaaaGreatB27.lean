import Derived.Test.YtjhdnpplmlddaaaGreatB26
import Derived.Test.YtjhdnpplmlddaaaGreatB10
import Derived.Test.YtjhdnpplmlddaaaGreatB01
/- release of package tree, on a Memory. -/
namespace Go.Proofs.YtjhdnpplmlddaaaGreat
set_option linter.unusedVariables false
open Go.RowKit

/-- A memory as plain data: how often its counts were turned, its counts, its nodes. -/
structure MSt where
  K : Nat
  S : RfS
  N : Int → Option NV
def MSt.dec (M : MSt) (n : Int) : MSt := ⟨M.K + 1, M.S.dec n, if M.S.last n then delN M.N n else M.N⟩
abbrev MmS (w : World) (p q b m L : Nat) (M : MSt) : Prop := Mm w p q b m M.K L M.S M.N
/-- The kids of all nodes have numbers that an int may be. -/
def OkN (N : Int → Option NV) : Prop := ∀ n x, N n = some x → ∀ i (hi : i < x.1.ks.length), Rng (x.1.ks[i]).n
theorem OkN.dec {M : MSt} (h : OkN M.N) (n : Int) : OkN (M.dec n).N := fun k x hx => by
  unfold MSt.dec at hx
  simp only at hx
  split at hx
  · unfold delN at hx
    split at hx
    · cases hx
    · exact h k x hx
  · exact h k x hx
/-- What release does. -/
def relGo (rec : Int → MSt → Int × MSt) : List Kd → MSt → Int × MSt
  | [], M => (0, M)
  | kd :: l, M => if (rec kd.n M).1 = 0 then relGo rec l (rec kd.n M).2 else rec kd.n M
def relP : Nat → Int → MSt → Int × MSt
  | 0, _, M => (12, M)
  | k + 1, n, M =>
    match M.N n with
    | none => (12, M)
    | some x => if incE M.S n = 0 then (if M.S.last n then relGo (relP k) x.1.ks (M.dec n) else (0, M.dec n)) else (incE M.S n, M.dec n)
theorem relGo_mono {rec : Int → MSt → Int × MSt} (h : ∀ n M, M.K ≤ (rec n M).2.K) : ∀ (l : List Kd) (M : MSt), M.K ≤ (relGo rec l M).2.K
  | [], _ => Nat.le_refl _
  | kd :: l, M => by
    rw [relGo]
    split
    · exact Nat.le_trans (h kd.n M) (relGo_mono h l _)
    · exact h kd.n M
theorem relP_mono : ∀ (k : Nat) (n : Int) (M : MSt), M.K ≤ (relP k n M).2.K
  | 0, _, _ => Nat.le_refl _
  | k + 1, n, M => by
    rw [relP]
    cases hN : M.N n with
    | none => exact Nat.le_refl _
    | some x =>
      simp only
      split
      · split
        · exact Nat.le_trans (Nat.le_succ _) (relGo_mono (relP_mono k) x.1.ks (M.dec n))
        · exact Nat.le_succ _
      · exact Nat.le_succ _
theorem relGo_ok {rec : Int → MSt → Int × MSt} (h : ∀ n M, OkN M.N → OkN (rec n M).2.N) : ∀ (l : List Kd) (M : MSt), OkN M.N → OkN (relGo rec l M).2.N
  | [], _, hM => hM
  | kd :: l, M, hM => by
    rw [relGo]
    split
    · exact relGo_ok h l _ (h kd.n M hM)
    · exact h kd.n M hM
theorem relP_ok : ∀ (k : Nat) (n : Int) (M : MSt), OkN M.N → OkN (relP k n M).2.N
  | 0, _, _, hM => hM
  | k + 1, n, M, hM => by
    rw [relP]
    cases hN : M.N n with
    | none => exact hM
    | some x =>
      simp only
      split
      · split
        · exact relGo_ok (relP_ok k) x.1.ks _ (hM.dec n)
        · exact hM.dec n
      · exact hM.dec n
theorem mem_methD (p : Nat) : Meth (.iface 29 (.pointer (some ⟨p, 0, none⟩))) "Dec" 117 (.pointer (some ⟨p, 0, none⟩)) := fun w args => by
  exact meth_of (P := Tryz.prog) (fun w => by kernel_rfl) (fun args w => callFunc_go Tryz.func117 (by kernel_rfl) (by rfl) args w) w args
/-- What release holds in memory. -/
structure RL (w y : World) (p q b m L d : Nat) (X : Nod) (px qx : Value) (M : MSt) : Prop where
  n : HasN y d X px qx
  a : Parts y X px qx
  l : Lim (fun k => w.heap.size ≤ k) px ∧ Lim (fun k => w.heap.size ≤ k) qx
  mm : MmS y p q b m L M
  fr : FrM q b m w y
  lt : (q < w.heap.size ∧ b < w.heap.size ∧ m < w.heap.size) ∧ w.heap.size ≤ d
section
variable {w y z : World} {p q b m L d : Nat} {X : Nod} {px qx : Value} {M M' : MSt}
theorem RL.moved (h : RL w y p q b m L d X px qx M) (f : FrM q b m y z) (mm : MmS z p q b m L M') : RL w z p q b m L d X px qx M' := by
  have hl := h.lt
  have ne : ∀ k, w.heap.size ≤ k → k ≠ q ∧ k ≠ b ∧ k ≠ m := fun k hk => ⟨by omega, by omega, by omega⟩
  refine ⟨h.n.same (f.block d h.n.lt (ne d hl.2).1 (ne d hl.2).2.1 (ne d hl.2).2.2), ⟨h.a.p.keptL (fun a c e q h0 => ?_) f.size, h.a.q.keptL (fun a c e q h0 => ?_) f.size⟩, h.l, mm, h.fr.trans f, h.lt⟩
  · have := ne _ (h.l.1 a c e q h0)
    exact f.block _ (h.a.p.lim a c e q h0) this.1 this.2.1 this.2.2
  · have := ne _ (h.l.2 a c e q h0)
    exact f.block _ (h.a.q.lim a c e q h0) this.1 this.2.1 this.2.2
theorem RL.called (h : RL w y p q b m L d X px qx M) (bl : Below y.heap.size y z) : RL w z p q b m L d X px qx M := h.moved (FrM.of_below bl) (h.mm.below bl (Nat.le_refl _))
end
set_option maxHeartbeats 8000000 in
set_option maxRecDepth 100000 in
theorem release_calls (p q b m L : Nat) : ∀ (k : Nat) (w : World) (M : MSt) (n V : Int), V = (k : Int) → k ≤ 12 → MmS w p q b m L M → OkN M.N → Rng n → (relP k n M).2.K ≤ 1000000 →
    Calls Tryz.prog 35 #[.iface 29 (.pointer (some ⟨p, 0, none⟩)), .int .i64 n, .int .i64 V] w fun e w' => e = .returned (.int .i64 (relP k n M).1) ∧ MmS w' p q b m L (relP k n M).2 ∧ FrM q b m w w' := by
  intro k
  induction k with
  | zero =>
    intro w M n V hV _ hM _ _ _
    have hV0 : (V == 0) = true := by simpa using hV
    have HM : Hid (MmS w p q b m L M) := hM
    clear hV hM
    go_enter Tryz.func35, Tryz.ntmps35
    go_wp2_with fail
    go_ret
    exact ⟨rfl, HM.out, FrM.of_below (Below.refl _ _)⟩
  | succ k ih =>
    intro w M n V hV hk12 hM hO hn hKb
    have HIH : Hid (∀ (w : World) (M : MSt) (n V : Int), V = (k : Int) → k ≤ 12 → MmS w p q b m L M → OkN M.N → Rng n → (relP k n M).2.K ≤ 1000000 → Calls Tryz.prog 35 #[.iface 29 (.pointer (some ⟨p, 0, none⟩)), .int .i64 n, .int .i64 V] w fun e w' => e = .returned (.int .i64 (relP k n M).1) ∧ MmS w' p q b m L (relP k n M).2 ∧ FrM q b m w w') := ih
    have hV0 : (V == 0) = false := by
      have : ¬ V = 0 := by omega
      simpa using this
    have hV1 : 1 ≤ V := by omega
    have hV2 : V ≤ 12 := by omega
    have HVK : Hid (V - 1 = (k : Int)) := (show _ = _ by omega)
    have HK12 : Hid (k ≤ 12) := (show _ ≤ _ by omega)
    have HM : Hid (MmS w p q b m L M) := hM
    have HO : Hid (OkN M.N) := hO
    have HN : Hid (Rng n) := hn
    obtain ⟨RS, hRS⟩ : ∃ RS, RS = relP (k + 1) n M := ⟨_, rfl⟩
    rw [← hRS] at hKb ⊢
    have HKB : Hid (RS.2.K ≤ 1000000) := hKb
    have HG : Hid (Calls Tryz.prog 32 (#[.pointer (some ⟨p, 0, none⟩)] ++ #[.int .i64 n]) w (ReadTo 0 w (getM M.N n))) := mget_calls w p q b m M.K L M.S M.N n hM hn
    have HLT := hM.lt
    have HQ3 : Hid (q < w.heap.size ∧ b < w.heap.size ∧ m < w.heap.size) := ⟨HLT.2.1, HLT.2.2.1, HLT.2.2.2⟩
    have HMT : Hid (Meth (.iface 29 (.pointer (some ⟨p, 0, none⟩))) "Get" 32 (.pointer (some ⟨p, 0, none⟩))) := mem_meth p
    have HMD : Hid (Meth (.iface 29 (.pointer (some ⟨p, 0, none⟩))) "Dec" 117 (.pointer (some ⟨p, 0, none⟩))) := mem_methD p
    clear ih hV hM hO hn hKb HLT hk12
    cases hNn : M.N n with
    | none =>
      have HF : Hid (RS = (12, M)) := (show _ = _ by rw [hRS, relP, hNn])
      have HGN : Hid (getM M.N n = (nilN, 12)) := (show _ = _ by rw [getM, hNn])
      rw [HGN.out] at HG
      clear hRS hNn HGN
      go_enter Tryz.func35, Tryz.ntmps35
      go_upto_region 3 with fail
      go_upto_region 4 with (first
        | (refine invoke_op (.tmp 16) "Get" (.tmp 17) _ rfl rfl (.iface 29 (.pointer (some ⟨p, 0, none⟩))) 32 (.pointer (some ⟨p, 0, none⟩)) (.int .i64 n) rfl HMT.out rfl HG.out ?_; clear HG HMT; rintro e w1 ⟨px, qx, rfl, P1, b1, lm1⟩; refine ⟨_, rfl, ?_⟩)
        | (refine store_node rfl _ _ rfl w1.heap.size rfl nilN px qx rfl P1.p.one P1.q.one nilN (.slice none 0 0) (.slice none 0 0) (HasN.new w1 nilN (.slice none 0 0) (.slice none 0 0) _ rfl rfl rfl) ?_; intro x2 hu2 tx2 sx2))
      have B2 : Below w.heap.size w x2 := b1.trans ((step_below (Below.refl _ w1) _ tx2).mono b1.size)
      have HFIN : Hid (MmS x2 p q b m L M ∧ FrM q b m w x2) := ⟨HM.out.below B2 (Nat.le_refl _), FrM.of_below B2⟩
      clear b1 P1 lm1 hu2 tx2 sx2 B2
      generalize w1.heap.size = d at *
      go_wp2_with fail
      go_ret
      exact ⟨by rw [HF.out]; rfl, by rw [HF.out]; exact HFIN.out.1, HFIN.out.2⟩
    | some x =>
      obtain ⟨X, pv, qv⟩ := x
      have HF0 : Hid (RS = if incE M.S n = 0 then (if M.S.last n then relGo (relP k) X.ks (M.dec n) else (0, M.dec n)) else (incE M.S n, M.dec n)) := (show _ = _ by rw [hRS, relP, hNn])
      have HGN : Hid (getM M.N n = (X, 0)) := (show _ = _ by rw [getM, hNn])
      have HXR : Hid (∀ i (hi : i < X.ks.length), Rng (X.ks[i]).n) := HO.out n _ hNn
      rw [HGN.out] at HG
      have HKM : Hid (M.K ≤ 1000000) := (show _ ≤ _ by
        have h1 := HKB.out
        have h2 := relP_mono (k + 1) n M
        rw [← hRS] at h2
        omega)
      clear hRS hNn HGN
      go_enter Tryz.func35, Tryz.ntmps35
      go_upto_region 3 with fail
      go_upto_region 4 with (first
        | (refine invoke_op (.tmp 16) "Get" (.tmp 17) _ rfl rfl (.iface 29 (.pointer (some ⟨p, 0, none⟩))) 32 (.pointer (some ⟨p, 0, none⟩)) (.int .i64 n) rfl HMT.out rfl HG.out ?_; clear HG HMT; rintro e w1 ⟨px, qx, rfl, P1, b1, lm1⟩; refine ⟨_, rfl, ?_⟩)
        | (refine store_node rfl _ _ rfl w1.heap.size rfl X px qx rfl P1.p.one P1.q.one nilN (.slice none 0 0) (.slice none 0 0) (HasN.new w1 nilN (.slice none 0 0) (.slice none 0 0) _ rfl rfl rfl) ?_; intro x2 hu2 tx2 sx2))
      have BS := step_below (Below.refl _ w1) _ tx2
      have B2 : Below w.heap.size w x2 := b1.trans (BS.mono b1.size)
      have R2 : RL w x2 p q b m L w1.heap.size X px qx M := ⟨hu2, P1.below BS, ⟨lm1.1.mono (fun k hk => by rcases hk with q | q; omega; exact q), lm1.2.mono (fun k hk => by rcases hk with q | q; omega; exact q)⟩, HM.out.below B2 (Nat.le_refl _), FrM.of_below B2, HQ3.out, b1.size⟩
      have HD : Hid (Calls Tryz.prog 117 (#[.pointer (some ⟨p, 0, none⟩)] ++ #[.int .i64 n]) x2 fun e w' => e = .returned (.tuple #[.bool (M.S.last n), .int .i64 (incE M.S n)]) ∧ MmS w' p q b m L (M.dec n) ∧ FrM q b m x2 w') := mdec_calls x2 p q b m M.K L M.S M.N n R2.mm HN.out HKM.out
      have HR2 : Hid (RL w x2 p q b m L w1.heap.size X px qx M) := R2
      clear BS B2 R2 hu2 P1 b1 lm1 tx2 sx2 HM
      generalize w1.heap.size = d at *
      go_upto_region 6 with fail
      generalize M.S.last n = la at *
      by_cases hie : incE M.S n = 0
      rotate_left
      · have HF : Hid (RS = (incE M.S n, M.dec n)) := (show _ = _ by rw [HF0.out, if_neg hie])
        have hie' : (incE M.S n != 0) = true := by simpa using hie
        generalize incE M.S n = ie at *
        clear hie HF0
        go_upto_region 7 with (refine invoke_op (.tmp 25) "Dec" (.tmp 26) _ rfl rfl (.iface 29 (.pointer (some ⟨p, 0, none⟩))) 117 (.pointer (some ⟨p, 0, none⟩)) (.int .i64 n) rfl HMD.out rfl HD.out ?_; clear HD HMD; rintro e w3 ⟨rfl, m3, f3⟩; refine ⟨_, rfl, ?_⟩)
        have R3 := HR2.out.moved f3 m3
        clear HR2 m3 f3
        go_wp2_with fail
        go_ret
        exact ⟨by rw [HF.out]; rfl, by rw [HF.out]; exact R3.mm, R3.fr⟩
      rw [hie] at HD
      cases la with
      | false =>
        have HF : Hid (RS = (0, M.dec n)) := (show _ = _ by rw [HF0.out, if_pos hie]; rfl)
        clear hie HF0
        go_upto_region 7 with (refine invoke_op (.tmp 25) "Dec" (.tmp 26) _ rfl rfl (.iface 29 (.pointer (some ⟨p, 0, none⟩))) 117 (.pointer (some ⟨p, 0, none⟩)) (.int .i64 n) rfl HMD.out rfl HD.out ?_; clear HD HMD; rintro e w3 ⟨rfl, m3, f3⟩; refine ⟨_, rfl, ?_⟩)
        have R3 := HR2.out.moved f3 m3
        clear HR2 m3 f3
        go_wp2_with fail
        go_ret
        exact ⟨by rw [HF.out]; rfl, by rw [HF.out]; exact R3.mm, R3.fr⟩
      | true =>
        have HF : Hid (relGo (relP k) X.ks (M.dec n) = RS) := (show _ = _ by rw [HF0.out, if_pos hie]; rfl)
        have HOD : Hid (OkN (M.dec n).N) := HO.out.dec n
        clear hie HF0 HO
        go_upto_region 7 with (refine invoke_op (.tmp 25) "Dec" (.tmp 26) _ rfl rfl (.iface 29 (.pointer (some ⟨p, 0, none⟩))) 117 (.pointer (some ⟨p, 0, none⟩)) (.int .i64 n) rfl HMD.out rfl HD.out ?_; clear HD HMD; rintro e w3 ⟨rfl, m3, f3⟩; refine ⟨_, rfl, ?_⟩)
        have R3 : Hid (RL w w3 p q b m L d X px qx (M.dec n)) := HR2.out.moved f3 m3
        clear HR2 m3 f3
        obtain ⟨xq, xcq, rfl⟩ := R3.out.a.lenQ
        have mQ := (els_max R3.out.a.q).2
        obtain ⟨Q, hQ⟩ : ∃ Q : Nat, Q = X.ks.length := ⟨_, rfl⟩
        have HQ : Hid (Q = X.ks.length) := hQ
        have hmQ : (Q : Int) ≤ 9223372036854775807 := by unfold maxLen at mQ; omega
        have R4 : Hid (RL w w3 p q b m L d X px (.slice xq Q xcq) (M.dec n)) := (show RL _ _ _ _ _ _ _ _ _ _ _ _ by rw [hQ]; exact R3.out)
        obtain ⟨c0, c1, c2⟩ := R4.out.n.cells
        clear R3 mQ hQ
        generalize M.dec n = M1 at *
        go_wp2_with fail
        clear c0 c1 c2
        go_loopg [40] Q (fun mm v wr => ∃ (j : Nat) (Mj : MSt), j + mm = Q ∧ v = .int .i64 (j : Int) ∧ Hid (RL w wr p q b m L d X px (.slice xq Q xcq) Mj) ∧ Hid (relGo (relP k) (X.ks.drop j) Mj = RS) ∧ Hid (OkN Mj.N))
        case atStart => exact ⟨0, M1, by omega, rfl, R4, (show _ = _ by rw [List.drop_zero]; exact HF.out), HOD⟩
        case round =>
          clear R4 HF HOD
          obtain ⟨j, Mj, hjm, rfl, HR, HGJ, HOJ⟩ := hrel
          cases gk with
          | zero =>
            have hjQ : ¬ (j : Int) < (Q : Int) := by omega
            have HFN : Hid (RS = (0, Mj)) := (show _ = _ by rw [← HGJ.out, List.drop_eq_nil_of_le (by rw [← HQ.out]; omega)]; rfl)
            go_wp2_with fail
            go_ret
            exact ⟨by rw [HFN.out]; rfl, by rw [HFN.out]; exact HR.out.mm, HR.out.fr⟩
          | succ mm =>
            have hjQ : (j : Int) < (Q : Int) := by omega
            have hjl : j < X.ks.length := by rw [← HQ.out]; omega
            obtain ⟨ga, oa, rfl, hga, hat, ok⟩ := els_get HR.out.a.q j hjl
            have HR1 : Hid (wr.rangeAt ga (oa + j * 25) (ec (Kd.el X.ks[j])) ∧ (Kd.el X.ks[j]).Ok) := ⟨hat, ok⟩
            have HG1 : Hid (RS = if (relP k (X.ks[j]).n Mj).1 = 0 then relGo (relP k) (X.ks.drop (j + 1)) (relP k (X.ks[j]).n Mj).2 else relP k (X.ks[j]).n Mj) := (show _ = _ by rw [← HGJ.out, List.drop_eq_getElem_cons hjl, relGo])
            have HKJ : Hid ((relP k (X.ks[j]).n Mj).2.K ≤ 1000000) := (show _ ≤ _ by
              have h1 := HKB.out
              rw [HG1.out] at h1
              split at h1
              · exact Nat.le_trans (relGo_mono (relP_mono k) _ _) h1
              · exact h1)
            have HCJ : Hid (∀ y, MmS y p q b m L Mj → Calls Tryz.prog 35 #[.iface 29 (.pointer (some ⟨p, 0, none⟩)), .int .i64 (X.ks[j]).n, .int .i64 (V - 1)] y fun e w' => e = .returned (.int .i64 (relP k (X.ks[j]).n Mj).1) ∧ MmS w' p q b m L (relP k (X.ks[j]).n Mj).2 ∧ FrM q b m y w') := fun y hy => HIH.out y Mj _ _ HVK.out HK12.out hy HOJ.out (HXR.out j hjl) HKJ.out
            have HON : Hid (OkN (relP k (X.ks[j]).n Mj).2.N) := relP_ok k _ Mj HOJ.out
            have ev1 : (Kd.el X.ks[j]).v = .int .i64 (X.ks[j]).n := rfl
            generalize Kd.el X.ks[j] = E at *
            generalize hnn : (X.ks[j]).n = nn at *
            generalize relP k nn Mj = RC at *
            clear hat ok hnn HGJ
            go_upto_region 12 with (first
              | (refine load_K _ rfl ga (oa + j * 25) rfl rfl E HR1.out.2 HR1.out.1 ?_)
              | (refine store_K rfl _ _ rfl wr.heap.size rfl E rfl HR1.out.2 nilK (zero_K wr _ rfl) ?_; intro x1 hu1 tx1 sx1))
            have R1 := HR.out.called (step_below (Below.refl _ wr) _ tx1)
            have ek := hu1.val
            rw [ev1] at ek
            have hcj := HCJ.out _ R1.mm
            clear tx1 sx1 HR1 HR ev1 hu1
            generalize wr.heap.size = d9 at *
            by_cases hrc : RC.1 = 0
            · have HNX : Hid (relGo (relP k) (X.ks.drop (j + 1)) RC.2 = RS) := (show _ = _ by rw [HG1.out, if_pos hrc])
              rw [hrc] at hcj
              clear hrc HG1
              go_wp2_with (go_at_call 35; refine hcj.mono ?_; rintro e w8 ⟨rfl, m8, f8⟩)
              have R8 := R1.moved f8 m8
              go_roundg mm
              case measure => omega
              case rel => exact ⟨j + 1, RC.2, by omega, congrArg _ (by first | omega | (unfold wrap64; omega)), R8, HNX, HON⟩
            · have HFN : Hid (RS = RC) := (show _ = _ by rw [HG1.out, if_neg hrc])
              have hrc' : (RC.1 != 0) = true := by simpa using hrc
              clear hrc HG1
              go_wp2_with (go_at_call 35; refine hcj.mono ?_; rintro e w8 ⟨rfl, m8, f8⟩)
              have R8 := R1.moved f8 m8
              go_ret
              exact ⟨by rw [HFN.out]; rfl, by rw [HFN.out]; exact R8.mm, R8.fr⟩
end Go.Proofs.YtjhdnpplmlddaaaGreat
/- Release and Clone of package tree, on a Memory. -/
namespace Go.Proofs.YtjhdnpplmlddaaaGreat
set_option linter.unusedVariables false
open Go.RowKit

def relRoot (root : Int) (M : MSt) : Int × MSt := if root = 0 then (0, M) else relP 12 root M
set_option maxHeartbeats 4000000 in
set_option maxRecDepth 100000 in
theorem releaseRoot_calls (p q b m L : Nat) (w : World) (M : MSt) (root : Int) (hM : MmS w p q b m L M) (hO : OkN M.N) (hn : Rng root) (hK : (relRoot root M).2.K ≤ 1000000) :
    Calls Tryz.prog 13 #[.iface 29 (.pointer (some ⟨p, 0, none⟩)), .int .i64 root] w fun e w' => e = .returned (.int .i64 (relRoot root M).1) ∧ MmS w' p q b m L (relRoot root M).2 ∧ FrM q b m w w' := by
  obtain ⟨RS, hRS⟩ : ∃ RS, RS = relRoot root M := ⟨_, rfl⟩
  rw [← hRS] at hK ⊢
  by_cases h0 : root = 0
  · have HF : Hid (RS = (0, M)) := (show _ = _ by rw [hRS, relRoot, if_pos h0])
    have HM : Hid (MmS w p q b m L M) := hM
    have h0' : (root == 0) = true := by simpa using h0
    clear hRS h0 hM
    go_enter Tryz.func13, Tryz.ntmps13
    go_wp2_with fail
    go_ret
    exact ⟨by rw [HF.out]; rfl, by rw [HF.out]; exact HM.out, FrM.of_below (Below.refl _ _)⟩
  · have hr : RS = relP 12 root M := by rw [hRS, relRoot, if_neg h0]
    have hrc := release_calls p q b m L 12 w M root 12 rfl (Nat.le_refl _) hM hO hn (by rw [← hr]; exact hK)
    rw [← hr] at hrc
    have h0' : (root == 0) = false := by simpa using h0
    clear hRS h0 hr hM hO hn
    go_enter Tryz.func13, Tryz.ntmps13
    go_wp2_with (first
      | (go_at_call 25; refine (given_calls _ _ _).mono ?_; rintro e w1 ⟨rfl, rfl⟩)
      | (go_at_call 35; refine hrc.mono ?_; rintro e w2 ⟨rfl, m2, f2⟩))
    go_ret
    exact ⟨rfl, m2, f2⟩
theorem mem_methI (p : Nat) : Meth (.iface 29 (.pointer (some ⟨p, 0, none⟩))) "Inc" 118 (.pointer (some ⟨p, 0, none⟩)) := fun w args => by
  exact meth_of (P := Tryz.prog) (fun w => by kernel_rfl) (fun args w => callFunc_go Tryz.func118 (by kernel_rfl) (by rfl) args w) w args
theorem mem_methP (p : Nat) : Meth (.iface 29 (.pointer (some ⟨p, 0, none⟩))) "Put" 119 (.pointer (some ⟨p, 0, none⟩)) := fun w args => by
  exact meth_of (P := Tryz.prog) (fun w => by kernel_rfl) (fun args w => callFunc_go Tryz.func119 (by kernel_rfl) (by rfl) args w) w args
def MSt.inc (M : MSt) (n : Int) : MSt := ⟨M.K + 1, M.S.inc n, M.N⟩
def cloneRoot (root : Int) (M : MSt) : Int × MSt := if root = 0 then (0, M) else (incE M.S root, M.inc root)
end Go.Proofs.YtjhdnpplmlddaaaGreat
/- More of slices of elements of k cells: the rest of one, append of any slice at one operation. -/
namespace Go.Proofs.YtjhdnpplmlddaaaGreat
set_option linter.unusedVariables false
open Go.RowKit

theorem SlB.drop {α : Type} {k : Nat} {E : Enc α k} {w : World} {B : Nat} {ad : Option Addr} {n cap : Nat} {l : List α} (h : SlB E w B (.slice ad n cap) l) (m : Nat) (hm : m ≤ l.length) : SlB E w B (.slice (if cap = m then ad else ad.map (·.add (m * k))) (n - m) (cap - m)) (l.drop m) := by
  obtain ⟨ad', cap', h1, h2, h3, h4, h5⟩ := h
  cases h1
  have hlen : (l.drop m).length = l.length - m := List.length_drop
  refine ⟨_, cap - m, by rw [hlen], by omega, by omega, fun e => ?_, ?_⟩
  · have : ad = none := by
      split at e
      · exact e
      · cases ad with
        | none => rfl
        | some a => cases e
    have := h4 this
    omega
  · rcases h5 with rfl | ⟨g, off, rfl, hg, hr⟩
    · exact .inl (by simp)
    · by_cases hc : cap = m
      · refine .inl (List.drop_of_length_le (by omega))
      · refine .inr ⟨g, off + m * k, by rw [if_neg hc]; simp [Addr.add_mid], hg, fun i hi => ?_⟩
        rw [List.getElem_drop]
        have := hr (m + i) (by rw [hlen] at hi; omega)
        rw [Nat.add_mul, ← Nat.add_assoc] at this
        exact this
theorem wp_build_c1 {α : Type} {E : Enc α 1} {P : Program} {ts te : TypeId} {bytes : Nat} {o : Oper} {a : Act} {w : World} {K : Act → World → Prop} {Q : Exit → Act → World → Prop} (R : RowTy P E ts te bytes) (x : Operand) (ho : o.op = .buildSlice ts 1 #[(0, x)]) (e : α) (v : Value) (hx : a.eval x = v) (hv : v.cells = (E.c e).toArray)
    (h : ∀ w', Own E te w' w.heap.size (.slice (some ⟨w.heap.size, 0, none⟩) 1 1) [e] → Below w.heap.size w w' → w'.heap.size = w.heap.size + 1 → K (a.put o.dst (.slice (some ⟨w.heap.size, 0, none⟩) 1 1)) w') : o.wp P a w K Q := by
  obtain ⟨i, z, hi, hz, hsz, hby, hzc⟩ := R.parts
  refine wp_buildSlice ts te 1 _ ho (E.flat [e]).toArray i z R.under hi hz (by rw [hsz]; decide) (by rw [hsz]; decide) ?_ ?_
  · rw [hsz]
    have e1 : (Array.map (fun x : Nat × Operand => match x with | (i, x) => (i, a.eval x)) #[(0, x)]).toList = [(0, v)] := by simp [hx]
    have hs : v.cells.size = 1 := by rw [hv]; simp [E.len]
    rw [e1, fill_put (off := 0) (size := 1) rfl hs (by simp), E.flat_one, hv]
    simp [Instr.fill]
  · refine h _ ⟨E.flat_length [e], .inr ⟨w.heap.size, 1, (E.flat [e]).toArray, rfl, Nat.le_refl _, heap_alloc_new _ _, Nat.le_refl _, by unfold maxLen; omega, by simp [E.flat_length], ?_⟩⟩ ((Below.refl _ w).alloc (Nat.le_refl _) _) (by simp)
    have := E.flat_length [e]
    rw [List.take_of_length_le (by simp [this])]
section
variable {α : Type} {k : Nat} {E : Enc α k} {P : Program} {ts te : TypeId} {bytes : Nat} {o : Oper} {a : Act} {w : World} {K : Act → World → Prop} {Q : Exit → Act → World → Prop}
theorem wp_append_sl (R : RowTy P E ts te bytes) (s x : Operand) (ho : o.op = .call { callee := .builtin .append, args := #[s, x], argTypes := #[ts, ts] })
    (base : Nat) (v : Value) (l m : List α) (hs : a.eval s = v) (hown : Own E te w base v l) (u : Value) (hx : a.eval x = u) (B : Nat) (hu : SlB E w B u m)
    (h63 : l.length + m.length ≤ 1000000) (hbytes : bytes ≤ 10000) (hbase : base ≤ w.heap.size)
    (h : ∀ v' w', Own E te w' base v' (l ++ m) → w.grownBy w' v.ownBlock → K (a.put o.dst v') w') : o.wp P a w K Q := by
  obtain ⟨i, z, hi, hz, hsz, hby, hzc⟩ := R.parts
  have hB : (l.length + m.length) * bytes ≤ 140737488355328 := by
    have := Nat.mul_le_mul h63 hbytes
    omega
  have hl : (l ++ m).length = l.length + m.length := by simp
  have hu' := hu
  obtain ⟨ad, cap, rfl, _⟩ := hu'
  obtain ⟨_, hc⟩ := hu.news
  rcases hc with ⟨rfl, rfl, rfl⟩ | ⟨A, rfl, hn⟩
  · have hrun := run_append_owned_none (P := P) (w := w) base ts o.type te i k R.under hi v l.length (E.flat l) hown
    have hx' : a.eval x = .slice none 0 0 := hx
    unfold Oper.wp
    simp only [execOp, ho, resolve, invoke, builtin, Sem.run_bind, Sem.run_pure, Result.andThen_ok, List.map_toArray, List.map_cons, List.map_nil, hs, hx', hrun]
    exact h _ _ (by rw [List.append_nil]; exact hown) ⟨rfl, rfl, rfl, Nat.le_refl _, fun _ _ _ => rfl⟩
  · refine wp_append_own w s x ts ho base te i z k bytes R.under hi hz hsz hby hzc R.pos v l.length (E.flat l) hs hown A m.length cap (E.flat m) hx (E.flat_length m) hn (E.flat_ones m) (by unfold maxLen; omega) hB hbase ?_
    intro v' w' h1 h2 _
    refine h v' w' ?_ h2
    show w'.ownsRow base te k _ (l ++ m).length (E.flat (l ++ m))
    rw [hl, E.flat_append]
    exact h1
end
theorem build_c1 {α : Type} {E : Enc α 1} {P : Program} {ts te : TypeId} {bytes : Nat} {ops : Array Oper} {rest : List Oper} {o : Oper} {a : Act} {w : World} {Q : Exit → Act → World → Prop} (R : RowTy P E ts te bytes) (hg : o.guard = none) (x : Operand) (ho : o.op = .buildSlice ts 1 #[(0, x)]) (e : α) (v : Value) (hx : a.eval x = v) (hv : v.cells = (E.c e).toArray)
    (h : ∀ w', Own E te w' w.heap.size (.slice (some ⟨w.heap.size, 0, none⟩) 1 1) [e] → Below w.heap.size w w' → w'.heap.size = w.heap.size + 1 → wpList P ops Q rest (a.put o.dst (.slice (some ⟨w.heap.size, 0, none⟩) 1 1)) w') : wpList P ops Q (o :: rest) a w :=
  wpList_plain hg fun _ hK => wp_build_c1 R x ho e v hx hv fun w' h1 h2 h3 => hK _ _ (h w' h1 h2 h3)
theorem append_slB {α : Type} {k : Nat} {E : Enc α k} {P : Program} {ts te : TypeId} {bytes : Nat} {ops : Array Oper} {rest : List Oper} {o : Oper} {a : Act} {w : World} {Q : Exit → Act → World → Prop} (R : RowTy P E ts te bytes) (hg : o.guard = none) (s x : Operand) (ho : o.op = .call { callee := .builtin .append, args := #[s, x], argTypes := #[ts, ts] })
    (base : Nat) (v : Value) (l m : List α) (hs : a.eval s = v) (hown : Own E te w base v l) (u : Value) (hx : a.eval x = u) (B : Nat) (hu : SlB E w B u m)
    (h63 : l.length + m.length ≤ 1000000) (hbytes : bytes ≤ 10000) (hbase : base ≤ w.heap.size)
    (h : ∀ v' w', Own E te w' base v' (l ++ m) → w.grownBy w' v.ownBlock → wpList P ops Q rest (a.put o.dst v') w') : wpList P ops Q (o :: rest) a w :=
  wpList_plain hg fun _ hK => wp_append_sl R s x ho base v l m hs hown u hx B hu h63 hbytes hbase fun v' w' h1 h2 => hK _ _ (h v' w' h1 h2)
theorem sl_open {α : Type} {k : Nat} {E : Enc α k} {w : World} {v : Value} {l : List α} (h : Sl E w v l) : ∃ ad N cap, v = .slice ad N cap ∧ Hid (N = l.length ∧ N ≤ cap ∧ Sl E w (.slice ad N cap) l ∧ ∀ i (hi : i < l.length), ∃ g off, ad = some ⟨g, off, none⟩ ∧ g < w.heap.size ∧ w.rangeAt g (off + i * k) (E.c l[i])) := by
  have h0 := h
  obtain ⟨ad, cap, rfl, hcap, hmax, _, _⟩ := h
  exact ⟨ad, _, cap, rfl, ⟨rfl, hcap, h0, fun i hi => SlB.at h0 i hi⟩⟩
end Go.Proofs.YtjhdnpplmlddaaaGreat
/- Keys as numbers: ordered as their bytes, and one number a key (mathematics; the first part of SpM, for seats in which SpM cannot be laid beside the texts of the tree). -/
namespace Go.Proofs.YtjhdnpplmlddaaaGreat
set_option linter.unusedVariables false
open Go.RowKit

/-! Keys as numbers. -/
theorem foldl_split : ∀ (l : List UInt8) (a : Nat), l.foldl (fun a b => 256 * a + b.toNat) a = a * 256 ^ l.length + num l
  | [], a => by simp [num]
  | b :: l, a => by
    have e : num (b :: l) = List.foldl (fun a b => 256 * a + b.toNat) (256 * 0 + b.toNat) l := rfl
    rw [e, List.foldl_cons, foldl_split l (256 * a + b.toNat), foldl_split l (256 * 0 + b.toNat), List.length_cons, Nat.pow_succ, Nat.add_mul, Nat.add_mul]
    rw [show 256 * a * 256 ^ l.length = a * (256 ^ l.length * 256) by rw [Nat.mul_comm 256 a, Nat.mul_assoc, Nat.mul_comm 256]]
    simp [Nat.add_assoc]
theorem num_cons (b : UInt8) (l : List UInt8) : num (b :: l) = b.toNat * 256 ^ l.length + num l := by
  rw [num, List.foldl_cons, foldl_split]
  simp
theorem less_num : ∀ (K L : List UInt8), K.length = L.length → Op.bytesLess K L = decide (num K < num L)
  | [], [], _ => rfl
  | [], _ :: _, h => by cases h
  | _ :: _, [], h => by cases h
  | a :: xs, b :: ys, h => by
    have hl : xs.length = ys.length := by simpa using h
    have ih := less_num xs ys hl
    have hx := num_lt xs
    have hy := num_lt ys
    rw [Op.bytesLess, num_cons, num_cons, hl, ih]
    rw [hl] at hx
    generalize 256 ^ ys.length = M at *
    have hab : a = b ↔ a.toNat = b.toNat := UInt8.toNat_inj.symm
    have hlt : a < b ↔ a.toNat < b.toNat := UInt8.lt_iff_toNat_lt
    rcases Nat.lt_trichotomy a.toNat b.toNat with h1 | h1 | h1
    · have e : a.toNat * M + num xs < b.toNat * M + num ys := by
        have := Nat.mul_le_mul_right M (show a.toNat + 1 ≤ b.toNat from h1)
        rw [Nat.add_mul, Nat.one_mul] at this
        omega
      have n1 : a < b := hlt.2 h1
      simp [n1, e]
    · have e : a = b := hab.2 h1
      subst e
      simp
    · have e : ¬ a.toNat * M + num xs < b.toNat * M + num ys := by
        have := Nat.mul_le_mul_right M (show b.toNat + 1 ≤ a.toNat from h1)
        rw [Nat.add_mul, Nat.one_mul] at this
        omega
      have n1 : ¬ a < b := fun q => by have := hlt.1 q; omega
      have n2 : ¬ a = b := fun q => by have := hab.1 q; omega
      simp [n1, n2, e]
theorem num_inj : ∀ (K L : List UInt8), K.length = L.length → num K = num L → K = L
  | [], [], _, _ => rfl
  | [], _ :: _, h, _ => by cases h
  | _ :: _, [], h, _ => by cases h
  | a :: xs, b :: ys, h, he => by
    have hl : xs.length = ys.length := by simpa using h
    have hx := num_lt xs
    have hy := num_lt ys
    rw [num_cons, num_cons, hl] at he
    rw [hl] at hx
    have h0 : a.toNat = b.toNat := by
      generalize 256 ^ ys.length = M at *
      rcases Nat.lt_trichotomy a.toNat b.toNat with h1 | h1 | h1
      · have := Nat.mul_le_mul_right M (show a.toNat + 1 ≤ b.toNat from h1)
        rw [Nat.add_mul, Nat.one_mul] at this
        omega
      · exact h1
      · have := Nat.mul_le_mul_right M (show b.toNat + 1 ≤ a.toNat from h1)
        rw [Nat.add_mul, Nat.one_mul] at this
        omega
    rw [h0] at he
    rw [UInt8.toNat_inj.1 h0, num_inj xs ys hl (by omega)]
end Go.Proofs.YtjhdnpplmlddaaaGreat
