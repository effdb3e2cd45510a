/- RefsBack's walk: from the contracts of refs. -/
import Derived.Test.YtpgepejleklpfaaTakes6
import Derived.Laws.AppendOwn
namespace Go.Proofs.Ytpgepejleklpfaa
set_option linter.unusedVariables false
open Go.RowKit
attribute [local go_sem ↓] Go.wp_at_zero Go.wp_at_succ

/-- How often each number is held. -/
def hf (l : List Int) : Nat → Int := fun i => (l.count (i : Int) : Int)
theorem hf_nil (i : Nat) : hf [] i = 0 := rfl
theorem hf_push (l : List Int) (j i : Nat) : hf (l ++ [(j : Int)]) i = updI (hf l) j (hf l j + 1) i := by
  unfold hf updI
  rw [List.count_append]
  by_cases e : i = j
  · subst e; rw [if_pos rfl]; simp
  · rw [if_neg e]
    have : ¬ ((j : Int) = (i : Int)) := by omega
    simp [this]
theorem hf_drop (l : List Int) (k j i : Nat) (hk : k < l.length) (hj : l[k] = (j : Int)) : hf (l.take k ++ l.drop (k + 1)) i = updI (hf l) j (hf l j - 1) i := by
  have h1 : ∀ x : Int, l.count x = (l.take k ++ l.drop (k + 1)).count x + (if (j : Int) = x then 1 else 0) := fun x => by
    have : l = l.take k ++ (l[k] :: l.drop (k + 1)) := by rw [← List.drop_eq_getElem_cons hk, List.take_append_drop]
    conv => lhs; rw [this]
    rw [List.count_append, List.count_append, List.count_cons, hj]
    by_cases e : (j : Int) = x
    · simp [e]; omega
    · simp [e]
  unfold hf updI
  by_cases e : i = j
  · subst e; rw [if_pos rfl, h1]; simp
  · rw [if_neg e]
    show _ = ((l.count (i : Int) : Nat) : Int)
    rw [h1 (i : Int), if_neg (by omega)]; simp
theorem hf_pos (l : List Int) (k j : Nat) (hk : k < l.length) (hj : l[k] = (j : Int)) : 1 ≤ hf l j := by
  unfold hf
  have : 0 < l.count (j : Int) := List.count_pos_iff.2 (by rw [← hj]; exact List.getElem_mem hk)
  omega
theorem hf_le (l : List Int) (j : Nat) : hf l j ≤ (l.length : Int) := by
  unfold hf
  have := List.count_le_length (a := (j : Int)) (l := l)
  omega
theorem bk_dec {S : RfS} {K N j : Nat} {f : Nat → Int} (h : S.Ok K) (hc : Cn S N (tk N f)) (h1 : 2 ≤ j) (h2 : j < N) (hp : 1 ≤ f j) : S.need (j : Int) = 0 ∧ S.last (j : Int) = (f j - 1 == 0) ∧ Cn (S.dec (j : Int)) N (tk N (updI f j (f j - 1))) := by
  have hcj := tk_at hc h1 h2
  by_cases e : f j = 1
  · obtain ⟨d1, d2, d3⟩ := dec_one h (n := (j : Int)) (by omega) (by rw [hc.1]; omega) (by rw [hcj, e])
    refine ⟨d1, by rw [d2, e]; rfl, tk_upd hc h1 h2 (RfS.dec_blocks _ _) ?_⟩
    rw [e]; exact d3
  · obtain ⟨d1, d2, d3⟩ := dec_more h (n := (j : Int)) (by omega) (by rw [hc.1]; omega) (by rw [hcj]; omega)
    rw [hcj] at d3
    refine ⟨d1, ?_, tk_upd hc h1 h2 (RfS.dec_blocks _ _) d3⟩
    rw [d2]
    have : ¬ (f j - 1 = 0) := by omega
    simpa using this
theorem bk_nil {S : RfS} {K N : Nat} {f : Nat → Int} (h : S.Ok K) (hc : Cn S N (tk N f)) (hf : ∀ i, f i = 0) : S.L = [] := by
  cases hL : S.L with
  | nil => rfl
  | cons p r =>
    have h1 := h.inB p (by rw [hL]; simp)
    have h2 := cnt_mem h.rise (p := p) (by rw [hL]; simp)
    rw [hc.2] at h2
    unfold tk at h2
    rw [hf] at h2
    split at h2 <;> omega
/-- The state in the end: as a new one. -/
theorem bk_end {S : RfS} {K N : Nat} (h : S.Ok K) (hc : Cn S N (tk N (hf []))) (h3 : 3 ≤ N) (h4 : N ≤ 4294967296) : S.need 2 = 13 ∧ S.dec 2 = S ∧ S.inc 2 = S ∧ S.same (RfS.new (N : Int)) = true ∧ S.free = (N : Int) - 2 ∧ S.usedL = [] := by
  have hL := bk_nil h hc (fun i => hf_nil i)
  have hz : cnt S.L 2 = 0 := by rw [hL]; rfl
  obtain ⟨d1, d2, d3⟩ := dec_zero (S := S) (n := 2) (by omega) (by rw [hc.1]; omega) hz
  refine ⟨d1, d3, by unfold RfS.inc; rw [d1, if_neg (by omega)], ?_, ?_, ?_⟩
  · unfold RfS.same RfS.new
    rw [hL, hc.1]
    simp
    omega
  · unfold RfS.free; rw [hL, hc.1]; simp
  · unfold RfS.usedL; rw [hL]; rfl

theorem step_append_own {P : Program} (w : World) {ops : Array Oper} {o : Oper} {a : Act} {K : Act → World → Prop} {Q : Exit → Act → World → Prop} {E : Prop} (hgd : o.guard = none) (s x : Operand) (t : TypeId)
    (ho : o.op = .call { callee := .builtin .append, args := #[s, x], argTypes := #[t, t] })
    (base : Nat) (e : TypeId) (i : TypeInfo) (z : Value) (size bytes : Nat) (ht : P.underlying t = some (.slice e)) (hi : P.info? e = some i) (hz : i.zero = some z)
    (hsize : i.size = size) (hby : i.bytes = bytes) (hzs : z.cells.size = size) (hsz : 0 < size)
    (v : Value) (n : Nat) (xs : List Value) (hs : a.eval s = v) (hown : w.ownsRow base e size v n xs)
    (ad : Addr) (m c : Nat) (news : List Value) (hx : a.eval x = .slice (some ad) m c) (hl : news.length = m * size) (hnews : ∀ j u, news[j]? = some u → w.cell? (ad.add j) = some u) (h1 : ∀ u ∈ news, u.oneCell' = true)
    (h63 : n + m ≤ maxLen) (hbytes : (n + m) * bytes ≤ 140737488355328) (hbase : base ≤ w.heap.size)
    (h : ∀ v' w', w'.ownsRow base e size v' (n + m) (xs ++ news) → w.grownBy w' v.ownBlock → K (a.put o.dst v') w') :
    if Region.wanted o (yielded ops a.tmps) = true then Oper.wp P o a w K Q else E := by
  have hw : Region.wanted o (yielded ops a.tmps) = true := by simp [Region.wanted, hgd]
  rw [if_pos hw]
  exact wp_append_own w s x t ho base e i z size bytes ht hi hz hsize hby hzs hsz v n xs hs hown ad m c news hx hl hnews h1 h63 hbytes hbase fun v' w' h2 h3 _ => h v' w' h2 h3

theorem IntsIn.kept {w w' : World} {B : Nat} {v : Value} {l : List Int} (h : IntsIn w B v l) (hb : ∀ k, B ≤ k → k < w.heap.size → w'.heap[k]? = w.heap[k]?) : IntsIn w' B v l := by
  refine ⟨h.1, ?_⟩
  rcases h.2 with e | ⟨g, cap, cur, rfl, h3, h4, h5⟩
  · exact .inl e
  · exact .inr ⟨g, cap, cur, rfl, h3, (hb g h3 (lt_block h4)).trans h4, h5⟩
theorem IntsIn.nil (w : World) (B : Nat) : IntsIn w B (.slice none 0 0) [] := World.ownsRow_nil w B _ _
theorem IntsIn.at {w : World} {B : Nat} {v : Value} {l : List Int} (h : IntsIn w B v l) (h0 : 0 < l.length) : ∃ g cap, v = .slice (some ⟨g, 0, none⟩) l.length cap ∧ l.length ≤ cap ∧ cap ≤ maxLen ∧ B ≤ g ∧ g < w.heap.size ∧ ∀ k (hk : k < l.length), w.cell? ⟨g, k, none⟩ = some (.int .i64 l[k]) := by
  rcases h.2 with ⟨e, e2⟩ | ⟨g, cap, cur, rfl, h3, h4, h5, h6, _⟩
  · omega
  · refine ⟨g, cap, rfl, h5, h6, h3, lt_block h4, fun k hk => ?_⟩
    have := World.ownsRow.cellAt (g := g) h k (by omega)
    rw [this]
    simp [hk]
theorem RQ.under {w w' : World} {p b B K C : Nat} {S : RfS} (h : RQ w p b B K S) (hb : Below C w w') (h1 : p < C) (h2 : b < C) : RQ w' p b B K S := ⟨h.rf.kept (hb.block p h1) (hb.block b h2), h.bp, h.bb⟩
theorem Row.under {w w' : World} {q N C : Nat} {t : TypeId} {f : Nat → Value} (h : Row w q N t f) (hb : Below C w w') (h1 : q < C) : Row w' q N t f := h.kept (hb.block q h1)
theorem RQ.touch {w w' : World} {p b B K q c : Nat} {S : RfS} (h : RQ w p b B K S) (ht : Touch q (some c) w w') (h1 : p ≠ q) (h2 : p ≠ c) (h3 : b ≠ q) (h4 : b ≠ c) : RQ w' p b B K S :=
  ⟨h.rf.kept (ht.block p h.lt.1 h1 (fun e => h2 (by cases e; rfl))) (ht.block b h.lt.2 h3 (fun e => h4 (by cases e; rfl))), h.bp, h.bb⟩

set_option maxHeartbeats 4000000 in
set_option maxRecDepth 100000 in
theorem back6_walk (w : World) (bl : Int) (a : Option Addr) (len cap : Nat) (l : Nat → Int) (hl : ArgI w a len cap l) (a2 : Option Addr) (len2 cap2 : Nat) (l2 : Nat → Int) (hl2 : ArgI w a2 len2 cap2 l2) : Calls Try.prog 5 #[.int .i64 bl, .slice a len cap, .slice a2 len2 cap2] w fun e w' => e = .returned (.bool true) ∧ Below w.heap.size w w' := by
  have m1 := and65535 bl
  obtain ⟨i0, hi, hz0, hz1, hz2⟩ := info_parts Try.info_i64
  have HA : Hid (ArgI w a len cap l) := hl
  have HA2 : Hid (ArgI w a2 len2 cap2 l2) := hl2
  have hlen := hl.1
  have hlen2 := hl2.1
  unfold maxLen at hlen hlen2
  clear hl hl2
  go_enter Try.func5, Try.ntmps5
  go_upto_region 3 with (first | (go_at_call 8; refine (shown_calls _).mono ?_; rintro e w0 ⟨rfl, b0⟩))
  obtain ⟨N, hN, hN1, hN2⟩ : ∃ N : Nat, 3 + bl % 65536 % 1000 = (N : Int) ∧ 3 ≤ N ∧ N ≤ 1002 := ⟨(3 + bl % 65536 % 1000).toNat, by omega, by omega, by omega⟩
  simp only [hN]
  clear hN m1
  have Bw : Below w.heap.size w w0 := b0
  go_upto_region 4 with (go_at_call 9; refine (newQ _ (N : Int) ⟨by omega, by omega⟩).mono ?_; rintro e w1 ⟨rfl, h1, b1⟩)
  have hs0 := Bw.size
  have hs1 := b1.size
  have hlt1 := h1.lt
  have HW : Hid (Below w.heap.size w w1) := Bw.trans (b1.mono hs0)
  have HQ : Hid (RQ w1 (w0.heap.size + 1) w0.heap.size w0.heap.size 0 (RfS.new (N : Int)) ∧ Cn (RfS.new (N : Int)) N (tk N (hf []))) := ⟨h1, tk_new (by omega) (by omega)⟩
  have HS0 : Hid (w.heap.size ≤ w0.heap.size) := hs0
  clear h1 b1 Bw b0 hs0
  generalize w0.heap.size + 1 = p at *
  generalize w0.heap.size = q at *
  go_upto_region 8 with (go_at_call 9; refine (newQ _ (N : Int) ⟨by omega, by omega⟩).mono ?_; rintro e w2 ⟨rfl, h2, b2⟩)
  have hs2 := b2.size
  have hlt2 := h2.lt
  have HQ2 : Hid (RQ w2 p q q 0 (RfS.new (N : Int))) := HQ.out.1.below b2 (Nat.le_refl _)
  have HU2 : Hid (RQ w2 (w1.heap.size + 1) w1.heap.size w1.heap.size 0 (RfS.new (N : Int))) := h2
  have HB2 : Hid (Below w.heap.size w w2) := HW.out.trans (b2.mono HW.out.size)
  have HD2 : Hid (w1.heap.size + 1 ≠ p ∧ w1.heap.size + 1 ≠ q ∧ w1.heap.size ≠ p ∧ w1.heap.size ≠ q ∧ w.heap.size ≤ w1.heap.size) := ⟨by omega, by omega, by omega, by omega, HW.out.size⟩
  clear h2 b2 HW hs1 hs2 hlt1
  generalize w1.heap.size + 1 = u at *
  generalize w1.heap.size = x at *
  go_upto_region 9 with (at_make; refine wpList_make_full _ rfl (.tmp 38) (.tmp 38) 37 rfl w2.heap.size 3 i0 (.int .i64 0) 1 Try.underlying37 hi hz0 hz1 .i64 .i64 (N : Int) (N : Int) N rfl rfl rfl rfl (by rw [hz2]; omega) (by unfold maxLen; omega) (Nat.le_refl _) ?_; intro w3 hown hgrow)
  have hg3 : Below w2.heap.size w2 w3 := (Below.refl _ _).grown hgrow (Nat.le_refl _) (fun k hk => by cases hk)
  have hlt := HQ2.out.lt
  have hltu := HU2.out.lt
  have hsz := HB2.out.size
  have HR3 : Hid (RQ w3 p q q 0 (RfS.new (N : Int)) ∧ Cn (RfS.new (N : Int)) N (tk N (hf []))) := ⟨HQ2.out.below hg3 (Nat.le_refl _), HQ.out.2⟩
  have HU3 : Hid (RQ w3 u x x 0 (RfS.new (N : Int))) := HU2.out.below hg3 (Nat.le_refl _)
  have HW3 : Hid (Row w3 w2.heap.size N 3 (fun i => .int .i64 (hf [] i))) := made_row rfl hown
  have HD3 : Hid (w2.heap.size ≠ p ∧ w2.heap.size ≠ q ∧ w2.heap.size ≠ u ∧ w2.heap.size ≠ x ∧ w.heap.size ≤ w2.heap.size ∧ p < w2.heap.size ∧ q < w2.heap.size ∧ u < w2.heap.size ∧ x < w2.heap.size) := ⟨by omega, by omega, by omega, by omega, hsz, hlt.1, hlt.2, hltu.1, hltu.2⟩
  have HB3 : Hid (Below w.heap.size w w3) := HB2.out.trans (hg3.mono hsz)
  have hs3 := HW3.out.lt
  have HS3 : Hid (w2.heap.size + 1 ≤ w3.heap.size) := by show _ ≤ _; omega
  clear HQ HQ2 HU2 HB2 hown hgrow hg3 hlt hltu hsz hs3
  generalize w2.heap.size = r at *
  go_wp2_with fail
  go_loopg [10, 12] (min len 300) (fun g hv i wr => ∃ (k K : Nat) (S : RfS) (hl : List Int) (ha : Option Addr) (hc : Nat), k + g = min len 300 ∧ K ≤ k ∧ hl.length = k ∧ hv = .slice ha k hc ∧ i = .int .i64 (k : Int) ∧ Hid (RQ wr p q q K S ∧ Cn S N (tk N (hf hl)) ∧ RQ wr u x x 0 (RfS.new (N : Int)) ∧ Row wr r N 3 (fun i => .int .i64 (hf hl i)) ∧ IntsIn wr (r + 1) (.slice ha k hc) hl ∧ r + 1 ≤ wr.heap.size ∧ Below w.heap.size w wr ∧ ∀ y ∈ hl, ∃ j : Nat, y = (j : Int) ∧ 2 ≤ j ∧ j < N))
  case atStart => exact ⟨0, 0, _, [], none, 0, by omega, by omega, rfl, rfl, rfl, ⟨HR3.out.1, HR3.out.2, HU3.out, HW3.out, IntsIn.nil _ _, HS3.out, HB3.out, fun y hy => by cases hy⟩⟩
  case round =>
    clear HR3 HU3 HW3 HB3 HS3
    obtain ⟨k, K, S, hl, ha, hc, hk, hK, hkl, rfl, rfl, HI⟩ := hrel
    cases gk with
    | zero =>
      have HK : Hid (hl.length = k) := hkl
      clear hkl
      rcases (show k = len ∨ ((k : Int) < (len : Int) ∧ k = 300) by omega) with hke | ⟨hk1, hk2⟩
      · subst hke
        go_upto_region 18 with fail
        all_goals
          go_wp2_with fail
          go_loopg [10, 16] k (fun g hv i wr => ∃ (n K2 : Nat) (S2 : RfS) (hl : List Int) (ha : Option Addr) (hc : Nat), n + g = k ∧ K2 ≤ K + n ∧ hl.length = g ∧ hv = .slice ha g hc ∧ i = .int .i64 (n : Int) ∧ Hid (RQ wr p q q K2 S2 ∧ Cn S2 N (tk N (hf hl)) ∧ RQ wr u x x 0 (RfS.new (N : Int)) ∧ Row wr r N 3 (fun i => .int .i64 (hf hl i)) ∧ IntsIn wr (r + 1) (.slice ha g hc) hl ∧ r + 1 ≤ wr.heap.size ∧ Below w.heap.size w wr ∧ ∀ y ∈ hl, ∃ j : Nat, y = (j : Int) ∧ 2 ≤ j ∧ j < N))
          case atStart => exact ⟨0, K, S, hl, ha, hc, by omega, by omega, HK.out, rfl, rfl, HI⟩
          case round =>
            clear HI
            obtain ⟨n, K2, S2, hl2, ha2, hc2, hn, hK2, hkl, rfl, rfl, HI⟩ := hrel
            cases gk with
            | zero =>
              have e0 : hl2 = [] := List.eq_nil_of_length_eq_zero hkl
              subst e0
              have HE : Hid (S2.need 2 = 13 ∧ S2.dec 2 = S2 ∧ S2.inc 2 = S2 ∧ S2.same (RfS.new (N : Int)) = true ∧ S2.free = (N : Int) - 2 ∧ S2.usedL = []) := bk_end HI.out.1.rf.ok HI.out.2.1 hN1 (by omega)
              have D2 := HD2.out
              have D3 := HD3.out
              have HQU : Hid (RQ wr p q q K2 S2 ∧ RQ wr u x x 0 (RfS.new (N : Int)) ∧ Below w.heap.size w wr) := ⟨HI.out.1, HI.out.2.2.1, HI.out.2.2.2.2.2.2.1⟩
              clear HI
              go_upto_region 31 with (first
                | (go_at_call 22; refine (decQ _ p _ _ _ _ 2 HQU.out.1 ⟨by omega, by omega⟩ (by omega)).mono ?_; rintro e w4 ⟨rfl, h4, b4, t4⟩; rw [HE.out.1]; rw [HE.out.2.1] at h4))
              have HQ4 : Hid (RQ w4 p q q (K2 + 1) S2 ∧ RQ w4 u x x 0 (RfS.new (N : Int)) ∧ Below w.heap.size w w4) := ⟨h4, HQU.out.2.1.touch t4 (by omega) (by omega) (by omega) (by omega), HQU.out.2.2.trans (b4.mono HS0.out)⟩
              clear h4 b4 t4 HQU
              go_wp2_with (first
                | (go_at_call 23; refine (incQ _ p _ _ _ _ 2 HQ4.out.1 ⟨by omega, by omega⟩ (by omega)).mono ?_; rintro e w5 ⟨rfl, h5, b5, t5⟩; rw [HE.out.1]; rw [HE.out.2.2.1] at h5; have HQ5 : Hid (RQ w5 p q q (K2 + 1 + 1) S2 ∧ RQ w5 u x x 0 (RfS.new (N : Int)) ∧ Below w.heap.size w w5) := ⟨h5, HQ4.out.2.1.touch t5 (by omega) (by omega) (by omega) (by omega), HQ4.out.2.2.trans (b5.mono HS0.out)⟩; clear h5 b5 t5)
                | (go_at_call 16; refine (sameQ _ p _ _ _ u _ _ _ _ _ HQ5.out.1 HQ5.out.2.1).mono ?_; rintro e w6 ⟨rfl, b6⟩; rw [HE.out.2.2.2.1]; have HQ6 : Hid (RQ w6 p q q (K2 + 1 + 1) S2 ∧ Below w.heap.size w w6) := ⟨HQ5.out.1.below b6 (Nat.le_refl _), HQ5.out.2.2.trans (b6.mono HQ5.out.2.2.size)⟩; clear b6)
                | (go_at_call 20; refine (freeQ _ p _ _ _ _ HQ6.out.1 (by omega)).mono ?_; rintro e w7 ⟨rfl, h7, b7⟩; rw [HE.out.2.2.2.2.1]; have HQ7 : Hid (RQ w7 p q q (K2 + 1 + 1) S2 ∧ Below w.heap.size w w7) := ⟨h7, HQ6.out.2.trans (b7.mono HQ6.out.2.size)⟩; clear h7 b7)
                | (go_at_call 21; refine (usedQ _ p _ _ _ _ HQ7.out.1 (by omega)).mono ?_; rintro e w8 ⟨v8, rfl, h8, b8⟩; rw [HE.out.2.2.2.2.2] at h8; obtain ⟨va, vc, rfl⟩ := h8.form; rw [show ([] : List Int).length = 0 from rfl] at *; clear h8))
              go_ret
              exact ⟨by simp, HQ7.out.2.trans (b8.mono HQ7.out.2.size)⟩
            | succ g =>
              have HKL : Hid (hl2.length = g + 1) := hkl
              obtain ⟨gb, gcap, heq, hgc1, hgc2, hgb1, hgb2, hgc⟩ := HI.out.2.2.2.2.1.at (by omega)
              rw [hkl] at heq hgc1
              cases heq
              have HGC : Hid (∀ k (hk : k < hl2.length), wr.cell? ⟨gb, k, none⟩ = some (.int .i64 hl2[k])) := hgc
              clear hgc hkl
              have hge : (0 : Int) < ((g + 1 : Nat) : Int) := by omega
              go_upto_if 85 with fail
              go_cut [17] (fun v wc => ∃ kk : Nat, v = .int .i64 (kk : Int) ∧ kk < g + 1 ∧ wc = wr)
              case first =>
                by_cases hin : (n : Int) < (len2 : Int)
                · obtain ⟨ab, off, rfl, hab, hcell⟩ := HA2.out.cell HI.out.2.2.2.2.2.2.1 (i := n) (by omega)
                  have m2 := and65535 (l2 n)
                  generalize l2 n = y at *
                  obtain ⟨kk, hk1, hk2⟩ : ∃ kk : Nat, y % 65536 % ((g + 1 : Nat) : Int) = (kk : Int) ∧ kk < g + 1 := by
                    have a1 := Int.emod_nonneg (y % 65536) (show ((g + 1 : Nat) : Int) ≠ 0 by omega)
                    have a2 := Int.emod_lt_of_pos (y % 65536) hge
                    exact ⟨(y % 65536 % ((g + 1 : Nat) : Int)).toNat, by omega, by omega⟩
                  go_wp2
                  go_meet
                  case rel => exact ⟨kk, by rw [← hk1]; rfl, hk2, rfl⟩
                · go_wp2
                  go_meet
                  case rel => exact ⟨0, rfl, by omega, rfl⟩
              case rest =>
                obtain ⟨kk, rfl, hkk, rfl⟩ := hcut
                have hkk2 : kk < hl2.length := by have := HKL.out; omega
                obtain ⟨j, hj, hj1, hj2⟩ := HI.out.2.2.2.2.2.2.2 hl2[kk] (List.getElem_mem hkk2)
                have hck := HGC.out kk hkk2
                rw [hj] at hck
                have HE : Hid (S2.need (j : Int) = 0 ∧ S2.last (j : Int) = (hf hl2 j - 1 == 0) ∧ Cn (S2.dec (j : Int)) N (tk N (updI (hf hl2) j (hf hl2 j - 1)))) := bk_dec HI.out.1.rf.ok HI.out.2.1 hj1 hj2 (hf_pos hl2 kk j hkk2 hj)
                have hjn : (j : Int) < (N : Int) := by omega
                have D2 := HD2.out
                have D3 := HD3.out
                have hkI : (kk : Int) < ((g + 1 : Nat) : Int) := by omega
                go_upto_region 26 with (first
                  | (go_at_call 22; refine (decQ _ p _ _ _ _ (j : Int) HI.out.1 ⟨by omega, by omega⟩ (by omega)).mono ?_; rintro e w4 ⟨rfl, h4, b4, t4⟩; rw [HE.out.1, HE.out.2.1]))
                have HR4 : Hid (RQ w4 p q q (K2 + 1) (S2.dec (j : Int)) ∧ RQ w4 u x x 0 (RfS.new (N : Int)) ∧ Row w4 r N 3 (fun i => .int .i64 (hf hl2 i)) ∧ IntsIn w4 (r + 1) (.slice (some ⟨gb, 0, none⟩) (g + 1) hc2) hl2 ∧ r + 1 ≤ w4.heap.size ∧ Below w.heap.size w w4) :=
                  ⟨h4, HI.out.2.2.1.touch t4 (by omega) (by omega) (by omega) (by omega), HI.out.2.2.2.1.touch t4 (by omega) (by omega), HI.out.2.2.2.2.1.kept (fun z h1 h2 => t4.block z h2 (by omega) (fun e => by cases e; omega)), Nat.le_trans HI.out.2.2.2.2.2.1 t4.size, HI.out.2.2.2.2.2.2.1.trans (b4.mono HS0.out)⟩
                clear h4 b4 t4
                have c4 := HR4.out.2.2.1.cell hj2
                have f4 := HR4.out.2.2.1.free j
                have hf1 := hf_pos hl2 kk j hkk2 hj
                have hf2 : hf hl2 j ≤ 1000 := by have := hf_le hl2 j; have := HKL.out; omega
                have HX : Hid (hf (hl2.take kk ++ hl2.drop (kk + 1)) = updI (hf hl2) j (hf hl2 j - 1)) := funext fun i => hf_drop hl2 kk j i hkk2 hj
                have HR6 : Hid (RQ (w4.setCell ⟨r, j, none⟩ (.int .i64 (hf hl2 j - 1))) p q q (K2 + 1) (S2.dec (j : Int)) ∧ Cn (S2.dec (j : Int)) N (tk N (hf (hl2.take kk ++ hl2.drop (kk + 1)))) ∧ RQ (w4.setCell ⟨r, j, none⟩ (.int .i64 (hf hl2 j - 1))) u x x 0 (RfS.new (N : Int)) ∧ Row (w4.setCell ⟨r, j, none⟩ (.int .i64 (hf hl2 j - 1))) r N 3 (fun i => .int .i64 (hf (hl2.take kk ++ hl2.drop (kk + 1)) i)) ∧ IntsIn (w4.setCell ⟨r, j, none⟩ (.int .i64 (hf hl2 j - 1))) (r + 1) (.slice (some ⟨gb, 0, none⟩) (g + 1) hc2) hl2 ∧ r + 1 ≤ (w4.setCell ⟨r, j, none⟩ (.int .i64 (hf hl2 j - 1))).heap.size ∧ Below w.heap.size w (w4.setCell ⟨r, j, none⟩ (.int .i64 (hf hl2 j - 1))) ∧ cnt (S2.dec (j : Int)).L (j : Int) = hf hl2 j - 1 ∧ (w4.setCell ⟨r, j, none⟩ (.int .i64 (hf hl2 j - 1))).cell? ⟨r, j, none⟩ = some (.int .i64 (hf hl2 j - 1))) := by
                  have hrow := HR4.out.2.2.1.set j (.int .i64 (hf hl2 j - 1))
                  refine ⟨HR4.out.1.setRow (by omega) (by omega), ?_, HR4.out.2.1.setRow (by omega) (by omega), ?_, ?_, ?_, ?_, ?_, ?_⟩
                  · rw [HX.out]; exact HE.out.2.2
                  · refine hrow.same fun i _ => ?_
                    rw [HX.out]
                    unfold upd updI
                    by_cases e : i = j
                    · rw [if_pos e, if_pos e]
                    · rw [if_neg e, if_neg e]
                  · exact HR4.out.2.2.2.1.kept fun z h1 h2 => Below.heap_setCell _ _ _ _ (by simp; omega)
                  · have := HR4.out.2.2.2.2.1; simpa [World.setCell] using this
                  · exact below_set HR4.out.2.2.2.2.2 (by omega)
                  · rw [tk_at HE.out.2.2 hj1 hj2]; unfold updI; rw [if_pos rfl]
                  · rw [hrow.cell hj2]; unfold upd; rw [if_pos rfl]
                generalize hf hl2 j = v at *
                go_upto_region 27 with fail
                generalize w4.setCell ⟨r, j, none⟩ (.int .i64 (v - 1)) = w6 at *
                have c6 := HR6.out.2.2.2.2.2.2.2.2
                have c6d : w6.drew.cell? ⟨r, j, none⟩ = some (.int .i64 (v - 1)) := c6
                have hcc := countQ w6.drew p _ _ _ _ (j : Int) HR6.out.1.drew ⟨by omega, by omega⟩
                rw [HR6.out.2.2.2.2.2.2.2.1] at hcc
                clear c4 f4 hck
                go_region_held3 (fun w' => w'.cell? ⟨r, j, none⟩ = some (.int .i64 (v - 1))) (exact c6d)
                  (first | (go_at_call 19; refine hcc.mono ?_; rintro e w8 ⟨rfl, rfl⟩))
                go_upto_region 29 with fail
                have HR9 : Hid (RQ w6.drew p q q (K2 + 1) (S2.dec (j : Int)) ∧ RQ w6.drew u x x 0 (RfS.new (N : Int)) ∧ Row w6.drew r N 3 (fun i => .int .i64 (hf (hl2.take kk ++ hl2.drop (kk + 1)) i)) ∧ IntsIn w6.drew (r + 1) (.slice (some ⟨gb, 0, none⟩) (g + 1) hc2) hl2 ∧ r + 1 ≤ w6.drew.heap.size ∧ Below w.heap.size w w6.drew ∧ ∀ k (hk : k < hl2.length), w6.drew.cell? ⟨gb, k, none⟩ = some (.int .i64 hl2[k])) := by
                  obtain ⟨z1, z2, z3, z4, z5, z6, z7, z8, z9⟩ := HR6.out
                  refine ⟨z1.drew, z3.drew, z4.kept rfl, z5.kept fun _ _ _ => rfl, z6, z7.drew, fun k0 hk0 => ?_⟩
                  have := World.ownsRow.cellAt (g := gb) (n := g + 1) (by have := z5; unfold IntsIn at this; rw [HKL.out] at this; exact this) k0 (by have := HKL.out; omega)
                  show w6.cell? _ = _
                  rw [this]
                  simp [hk0]
                clear hcc c6 c6d
                generalize w6.drew = w9 at *
                have hs9 := HR9.out.2.2.2.2.1
                have e9 : (w9.alloc (.cells #[] 3)).heap.size = w9.heap.size + 1 := by simp
                have HOW : Hid ((w9.alloc (.cells #[] 3)).drew.ownsRow (r + 1) 3 1 (.slice (some ⟨w9.heap.size, 0, none⟩) 0 0) 0 []) := World.ownsRow_made w9 #[] 0 hs9 (Nat.zero_le _) (by simp)
                have HN1 : Hid (∀ i u, ((hl2.take kk).map encZ)[i]? = some u → (w9.alloc (.cells #[] 3)).drew.cell? ((⟨gb, 0, none⟩ : Addr).add i) = some u) := fun i u hu => by
                  rw [add_lit, Nat.zero_add]
                  have hi2 : i < kk := by
                    have := (List.getElem?_eq_some_iff.1 hu).1
                    simp at this
                    omega
                  have h1 := HR9.out.2.2.2.2.2.2 i (by omega)
                  simp only [List.getElem?_map, List.getElem?_take_of_lt hi2, List.getElem?_eq_getElem (show i < hl2.length by omega), Option.map_some, Option.some.injEq] at hu
                  rw [← hu]
                  exact Lib.cell?_alloc_some _ h1
                have hkc : (kk : Int) ≤ (hc2 : Int) := by omega
                have hkc2 : (kk : Int) + 1 ≤ ((g + 1 : Nat) : Int) := by omega
                have hkc3 : ((g + 1 : Nat) : Int) ≤ (hc2 : Int) := by omega
                have hkc4 : (kk : Int) ≤ (g : Int) := by omega
                have hkc5 : (g : Int) + 1 ≤ (hc2 : Int) := by omega
                have hwk : IntKind.i64.wrap ((kk : Int) + 1) = (kk : Int) + 1 := by rw [IntKind.wrap_i64]; omega
                have hwt : ((kk : Int) + 1).toNat = kk + 1 := by omega
                have hp1 : 0 ≤ (kk : Int) + 1 := by omega
                have hp2 : (kk : Int) + 1 ≤ (g : Int) + 1 := by omega
                have hp3 : ((kk : Int) ≤ (g : Int)) = True := by simp; omega
                obtain ⟨ad, had, HN2⟩ : ∃ ad : Addr, (if hc2 = kk + 1 then some (⟨gb, 0, none⟩ : Addr) else some ⟨gb, kk + 1, none⟩) = some ad ∧ Hid (∀ w', Below w9.heap.size w9 w' → ∀ i u, ((hl2.drop (kk + 1)).map encZ)[i]? = some u → w'.cell? (ad.add i) = some u) := by
                  have hcellw : ∀ w', Below w9.heap.size w9 w' → ∀ i (hi : kk + 1 + i < hl2.length), w'.cell? ⟨gb, kk + 1 + i, none⟩ = some (.int .i64 hl2[kk + 1 + i]) := fun w' hb i hi =>
                    (World.cell?_of_block (hb.block gb (by
                      have := HR9.out.2.2.2.2.2.2 (kk + 1 + i) hi
                      cases hh : w9.heap[gb]? with
                      | none => simp [World.cell?, hh] at this
                      | some o => exact lt_block hh))).trans (HR9.out.2.2.2.2.2.2 (kk + 1 + i) hi)
                  by_cases hcap : hc2 = kk + 1
                  · refine ⟨⟨gb, 0, none⟩, by rw [if_pos hcap], fun w' hb i u hu => ?_⟩
                    have := (List.getElem?_eq_some_iff.1 hu).1
                    have := HKL.out
                    simp at *
                    omega
                  · refine ⟨⟨gb, kk + 1, none⟩, by rw [if_neg hcap], fun w' hb i u hu => ?_⟩
                    rw [add_lit]
                    have hi2 : kk + 1 + i < hl2.length := by
                      have := (List.getElem?_eq_some_iff.1 hu).1
                      simp at this
                      omega
                    simp only [List.getElem?_map, List.getElem?_drop, List.getElem?_eq_getElem hi2, Option.map_some, Option.some.injEq] at hu
                    rw [← hu]
                    exact hcellw w' hb i hi2
                have hgk : g + 1 - (kk + 1) = g - kk := by omega
                go_wp2_with fail
                go_region_law ((first
                  | (refine step_append_own _ (by rfl) (.tmp 131) (.tmp 134) 37 (by rfl) (r + 1) 3 i0 (.int .i64 0) 1 8 Try.underlying37 hi hz0 hz1 hz2 rfl (by omega) (.slice (some ⟨w9.heap.size, 0, none⟩) 0 0) 0 [] (by rfl) (by exact HOW.out) ⟨gb, 0, none⟩ kk hc2 ((hl2.take kk).map encZ) (by rfl) (by simp; omega) (by exact HN1.out) (by intro u hu; obtain ⟨z, _, rfl⟩ := List.mem_map.1 hu; rfl) (by unfold maxLen; omega) (by omega) (by rw [show (w9.alloc (.cells #[] 3)).drew.heap.size = w9.heap.size + 1 from e9]; omega) ?_; intro v10 w10 hown10 hgrow10; have hb10 : Below w9.heap.size w9 w10 := ⟨hgrow10.os, hgrow10.tape, hgrow10.output, by have := hgrow10.size; have h2 : (w9.alloc (.cells #[] 3)).drew.heap.size = w9.heap.size + 1 := e9; omega, fun z hz => (hgrow10.block z (by have h2 : (w9.alloc (.cells #[] 3)).drew.heap.size = w9.heap.size + 1 := e9; omega) (fun e => by have e2 : some z = some w9.heap.size := e; cases e2; omega)).trans (Below.heap_alloc _ _ _ hz)⟩; have hr10 : r + 1 ≤ w10.heap.size := Nat.le_trans hs9 hb10.size)
                  | (refine step_append_own _ (by rfl) (.tmp 135) (.tmp 139) 37 (by rfl) (r + 1) 3 i0 (.int .i64 0) 1 8 Try.underlying37 hi hz0 hz1 hz2 rfl (by omega) v10 (0 + kk) ([] ++ (hl2.take kk).map encZ) (by rfl) (by exact hown10) ad (g - kk) (hc2 - (kk + 1)) ((hl2.drop (kk + 1)).map encZ) (by rfl) (by rw [List.length_map, List.length_drop, HKL.out]; omega) (by exact HN2.out _ hb10) (by intro u hu; obtain ⟨z, _, rfl⟩ := List.mem_map.1 hu; rfl) (by unfold maxLen; omega) (by omega) (by exact hr10) ?_; intro v11 w11 hown11 hgrow11)))
                all_goals
                  have HO11 : Hid (IntsIn w11 (r + 1) v11 (hl2.take kk ++ hl2.drop (kk + 1))) := by
                    show IntsIn _ _ _ _
                    unfold IntsIn
                    have e1 : (hl2.take kk ++ hl2.drop (kk + 1)).length = 0 + kk + (g - kk) := by rw [List.length_append, List.length_take, List.length_drop, HKL.out]; omega
                    rw [e1, List.map_append]
                    exact hown11
                  have HL11 : Hid ((hl2.take kk ++ hl2.drop (kk + 1)).length = g) := by show _ = _; rw [List.length_append, List.length_take, List.length_drop, HKL.out]; omega
                  obtain ⟨a11, c11, e11⟩ := HO11.out.form
                  rw [HL11.out] at e11
                  subst e11
                  have hb11 : Below (r + 1) w9 w11 := (hb10.mono hs9).grown hgrow11 hr10 (fun z hz => (hown10.lt z hz).1)
                  have HI11 : Hid (RQ w11 p q q (K2 + 1) (S2.dec (j : Int)) ∧ Cn (S2.dec (j : Int)) N (tk N (hf (hl2.take kk ++ hl2.drop (kk + 1)))) ∧ RQ w11 u x x 0 (RfS.new (N : Int)) ∧ Row w11 r N 3 (fun i => .int .i64 (hf (hl2.take kk ++ hl2.drop (kk + 1)) i)) ∧ IntsIn w11 (r + 1) (.slice a11 g c11) (hl2.take kk ++ hl2.drop (kk + 1)) ∧ r + 1 ≤ w11.heap.size ∧ Below w.heap.size w w11 ∧ ∀ y ∈ hl2.take kk ++ hl2.drop (kk + 1), ∃ j : Nat, y = (j : Int) ∧ 2 ≤ j ∧ j < N) :=
                    ⟨HR9.out.1.under hb11 (by omega) (by omega), HR6.out.2.1, HR9.out.2.1.under hb11 (by omega) (by omega), HR9.out.2.2.1.under hb11 (by omega), HO11.out, Nat.le_trans hs9 hb11.size, HR9.out.2.2.2.2.2.1.trans (hb11.mono (by omega)), fun y hy => HI.out.2.2.2.2.2.2.2 y (by rcases List.mem_append.1 hy with h1 | h1; exact List.mem_of_mem_take h1; exact List.mem_of_mem_drop h1)⟩
                  clear hown10 hgrow10 hb10 hown11 hgrow11 hb11 had HN2
                  go_wp2
                  go_roundg g
                  case measure => omega
                  case rel => exact ⟨n + 1, K2 + 1, _, _, _, _, by omega, by omega, HL11.out, rfl, by go_num, HI11⟩
      · have hk3 : (300 : Int) ≤ (k : Int) := by omega
        clear hk2
        go_upto_region 18 with fail
        all_goals
          go_wp2_with fail
          go_loopg [10, 16] k (fun g hv i wr => ∃ (n K2 : Nat) (S2 : RfS) (hl : List Int) (ha : Option Addr) (hc : Nat), n + g = k ∧ K2 ≤ K + n ∧ hl.length = g ∧ hv = .slice ha g hc ∧ i = .int .i64 (n : Int) ∧ Hid (RQ wr p q q K2 S2 ∧ Cn S2 N (tk N (hf hl)) ∧ RQ wr u x x 0 (RfS.new (N : Int)) ∧ Row wr r N 3 (fun i => .int .i64 (hf hl i)) ∧ IntsIn wr (r + 1) (.slice ha g hc) hl ∧ r + 1 ≤ wr.heap.size ∧ Below w.heap.size w wr ∧ ∀ y ∈ hl, ∃ j : Nat, y = (j : Int) ∧ 2 ≤ j ∧ j < N))
          case atStart => exact ⟨0, K, S, hl, ha, hc, by omega, by omega, HK.out, rfl, rfl, HI⟩
          case round =>
            clear HI
            obtain ⟨n, K2, S2, hl2, ha2, hc2, hn, hK2, hkl, rfl, rfl, HI⟩ := hrel
            cases gk with
            | zero =>
              have e0 : hl2 = [] := List.eq_nil_of_length_eq_zero hkl
              subst e0
              have HE : Hid (S2.need 2 = 13 ∧ S2.dec 2 = S2 ∧ S2.inc 2 = S2 ∧ S2.same (RfS.new (N : Int)) = true ∧ S2.free = (N : Int) - 2 ∧ S2.usedL = []) := bk_end HI.out.1.rf.ok HI.out.2.1 hN1 (by omega)
              have D2 := HD2.out
              have D3 := HD3.out
              have HQU : Hid (RQ wr p q q K2 S2 ∧ RQ wr u x x 0 (RfS.new (N : Int)) ∧ Below w.heap.size w wr) := ⟨HI.out.1, HI.out.2.2.1, HI.out.2.2.2.2.2.2.1⟩
              clear HI
              go_upto_region 31 with (first
                | (go_at_call 22; refine (decQ _ p _ _ _ _ 2 HQU.out.1 ⟨by omega, by omega⟩ (by omega)).mono ?_; rintro e w4 ⟨rfl, h4, b4, t4⟩; rw [HE.out.1]; rw [HE.out.2.1] at h4))
              have HQ4 : Hid (RQ w4 p q q (K2 + 1) S2 ∧ RQ w4 u x x 0 (RfS.new (N : Int)) ∧ Below w.heap.size w w4) := ⟨h4, HQU.out.2.1.touch t4 (by omega) (by omega) (by omega) (by omega), HQU.out.2.2.trans (b4.mono HS0.out)⟩
              clear h4 b4 t4 HQU
              go_wp2_with (first
                | (go_at_call 23; refine (incQ _ p _ _ _ _ 2 HQ4.out.1 ⟨by omega, by omega⟩ (by omega)).mono ?_; rintro e w5 ⟨rfl, h5, b5, t5⟩; rw [HE.out.1]; rw [HE.out.2.2.1] at h5; have HQ5 : Hid (RQ w5 p q q (K2 + 1 + 1) S2 ∧ RQ w5 u x x 0 (RfS.new (N : Int)) ∧ Below w.heap.size w w5) := ⟨h5, HQ4.out.2.1.touch t5 (by omega) (by omega) (by omega) (by omega), HQ4.out.2.2.trans (b5.mono HS0.out)⟩; clear h5 b5 t5)
                | (go_at_call 16; refine (sameQ _ p _ _ _ u _ _ _ _ _ HQ5.out.1 HQ5.out.2.1).mono ?_; rintro e w6 ⟨rfl, b6⟩; rw [HE.out.2.2.2.1]; have HQ6 : Hid (RQ w6 p q q (K2 + 1 + 1) S2 ∧ Below w.heap.size w w6) := ⟨HQ5.out.1.below b6 (Nat.le_refl _), HQ5.out.2.2.trans (b6.mono HQ5.out.2.2.size)⟩; clear b6)
                | (go_at_call 20; refine (freeQ _ p _ _ _ _ HQ6.out.1 (by omega)).mono ?_; rintro e w7 ⟨rfl, h7, b7⟩; rw [HE.out.2.2.2.2.1]; have HQ7 : Hid (RQ w7 p q q (K2 + 1 + 1) S2 ∧ Below w.heap.size w w7) := ⟨h7, HQ6.out.2.trans (b7.mono HQ6.out.2.size)⟩; clear h7 b7)
                | (go_at_call 21; refine (usedQ _ p _ _ _ _ HQ7.out.1 (by omega)).mono ?_; rintro e w8 ⟨v8, rfl, h8, b8⟩; rw [HE.out.2.2.2.2.2] at h8; obtain ⟨va, vc, rfl⟩ := h8.form; rw [show ([] : List Int).length = 0 from rfl] at *; clear h8))
              go_ret
              exact ⟨by simp, HQ7.out.2.trans (b8.mono HQ7.out.2.size)⟩
            | succ g =>
              have HKL : Hid (hl2.length = g + 1) := hkl
              obtain ⟨gb, gcap, heq, hgc1, hgc2, hgb1, hgb2, hgc⟩ := HI.out.2.2.2.2.1.at (by omega)
              rw [hkl] at heq hgc1
              cases heq
              have HGC : Hid (∀ k (hk : k < hl2.length), wr.cell? ⟨gb, k, none⟩ = some (.int .i64 hl2[k])) := hgc
              clear hgc hkl
              have hge : (0 : Int) < ((g + 1 : Nat) : Int) := by omega
              go_upto_if 85 with fail
              go_cut [17] (fun v wc => ∃ kk : Nat, v = .int .i64 (kk : Int) ∧ kk < g + 1 ∧ wc = wr)
              case first =>
                by_cases hin : (n : Int) < (len2 : Int)
                · obtain ⟨ab, off, rfl, hab, hcell⟩ := HA2.out.cell HI.out.2.2.2.2.2.2.1 (i := n) (by omega)
                  have m2 := and65535 (l2 n)
                  generalize l2 n = y at *
                  obtain ⟨kk, hk1, hk2⟩ : ∃ kk : Nat, y % 65536 % ((g + 1 : Nat) : Int) = (kk : Int) ∧ kk < g + 1 := by
                    have a1 := Int.emod_nonneg (y % 65536) (show ((g + 1 : Nat) : Int) ≠ 0 by omega)
                    have a2 := Int.emod_lt_of_pos (y % 65536) hge
                    exact ⟨(y % 65536 % ((g + 1 : Nat) : Int)).toNat, by omega, by omega⟩
                  go_wp2
                  go_meet
                  case rel => exact ⟨kk, by rw [← hk1]; rfl, hk2, rfl⟩
                · go_wp2
                  go_meet
                  case rel => exact ⟨0, rfl, by omega, rfl⟩
              case rest =>
                obtain ⟨kk, rfl, hkk, rfl⟩ := hcut
                have hkk2 : kk < hl2.length := by have := HKL.out; omega
                obtain ⟨j, hj, hj1, hj2⟩ := HI.out.2.2.2.2.2.2.2 hl2[kk] (List.getElem_mem hkk2)
                have hck := HGC.out kk hkk2
                rw [hj] at hck
                have HE : Hid (S2.need (j : Int) = 0 ∧ S2.last (j : Int) = (hf hl2 j - 1 == 0) ∧ Cn (S2.dec (j : Int)) N (tk N (updI (hf hl2) j (hf hl2 j - 1)))) := bk_dec HI.out.1.rf.ok HI.out.2.1 hj1 hj2 (hf_pos hl2 kk j hkk2 hj)
                have hjn : (j : Int) < (N : Int) := by omega
                have D2 := HD2.out
                have D3 := HD3.out
                have hkI : (kk : Int) < ((g + 1 : Nat) : Int) := by omega
                go_upto_region 26 with (first
                  | (go_at_call 22; refine (decQ _ p _ _ _ _ (j : Int) HI.out.1 ⟨by omega, by omega⟩ (by omega)).mono ?_; rintro e w4 ⟨rfl, h4, b4, t4⟩; rw [HE.out.1, HE.out.2.1]))
                have HR4 : Hid (RQ w4 p q q (K2 + 1) (S2.dec (j : Int)) ∧ RQ w4 u x x 0 (RfS.new (N : Int)) ∧ Row w4 r N 3 (fun i => .int .i64 (hf hl2 i)) ∧ IntsIn w4 (r + 1) (.slice (some ⟨gb, 0, none⟩) (g + 1) hc2) hl2 ∧ r + 1 ≤ w4.heap.size ∧ Below w.heap.size w w4) :=
                  ⟨h4, HI.out.2.2.1.touch t4 (by omega) (by omega) (by omega) (by omega), HI.out.2.2.2.1.touch t4 (by omega) (by omega), HI.out.2.2.2.2.1.kept (fun z h1 h2 => t4.block z h2 (by omega) (fun e => by cases e; omega)), Nat.le_trans HI.out.2.2.2.2.2.1 t4.size, HI.out.2.2.2.2.2.2.1.trans (b4.mono HS0.out)⟩
                clear h4 b4 t4
                have c4 := HR4.out.2.2.1.cell hj2
                have f4 := HR4.out.2.2.1.free j
                have hf1 := hf_pos hl2 kk j hkk2 hj
                have hf2 : hf hl2 j ≤ 1000 := by have := hf_le hl2 j; have := HKL.out; omega
                have HX : Hid (hf (hl2.take kk ++ hl2.drop (kk + 1)) = updI (hf hl2) j (hf hl2 j - 1)) := funext fun i => hf_drop hl2 kk j i hkk2 hj
                have HR6 : Hid (RQ (w4.setCell ⟨r, j, none⟩ (.int .i64 (hf hl2 j - 1))) p q q (K2 + 1) (S2.dec (j : Int)) ∧ Cn (S2.dec (j : Int)) N (tk N (hf (hl2.take kk ++ hl2.drop (kk + 1)))) ∧ RQ (w4.setCell ⟨r, j, none⟩ (.int .i64 (hf hl2 j - 1))) u x x 0 (RfS.new (N : Int)) ∧ Row (w4.setCell ⟨r, j, none⟩ (.int .i64 (hf hl2 j - 1))) r N 3 (fun i => .int .i64 (hf (hl2.take kk ++ hl2.drop (kk + 1)) i)) ∧ IntsIn (w4.setCell ⟨r, j, none⟩ (.int .i64 (hf hl2 j - 1))) (r + 1) (.slice (some ⟨gb, 0, none⟩) (g + 1) hc2) hl2 ∧ r + 1 ≤ (w4.setCell ⟨r, j, none⟩ (.int .i64 (hf hl2 j - 1))).heap.size ∧ Below w.heap.size w (w4.setCell ⟨r, j, none⟩ (.int .i64 (hf hl2 j - 1))) ∧ cnt (S2.dec (j : Int)).L (j : Int) = hf hl2 j - 1 ∧ (w4.setCell ⟨r, j, none⟩ (.int .i64 (hf hl2 j - 1))).cell? ⟨r, j, none⟩ = some (.int .i64 (hf hl2 j - 1))) := by
                  have hrow := HR4.out.2.2.1.set j (.int .i64 (hf hl2 j - 1))
                  refine ⟨HR4.out.1.setRow (by omega) (by omega), ?_, HR4.out.2.1.setRow (by omega) (by omega), ?_, ?_, ?_, ?_, ?_, ?_⟩
                  · rw [HX.out]; exact HE.out.2.2
                  · refine hrow.same fun i _ => ?_
                    rw [HX.out]
                    unfold upd updI
                    by_cases e : i = j
                    · rw [if_pos e, if_pos e]
                    · rw [if_neg e, if_neg e]
                  · exact HR4.out.2.2.2.1.kept fun z h1 h2 => Below.heap_setCell _ _ _ _ (by simp; omega)
                  · have := HR4.out.2.2.2.2.1; simpa [World.setCell] using this
                  · exact below_set HR4.out.2.2.2.2.2 (by omega)
                  · rw [tk_at HE.out.2.2 hj1 hj2]; unfold updI; rw [if_pos rfl]
                  · rw [hrow.cell hj2]; unfold upd; rw [if_pos rfl]
                generalize hf hl2 j = v at *
                go_upto_region 27 with fail
                generalize w4.setCell ⟨r, j, none⟩ (.int .i64 (v - 1)) = w6 at *
                have c6 := HR6.out.2.2.2.2.2.2.2.2
                have c6d : w6.drew.cell? ⟨r, j, none⟩ = some (.int .i64 (v - 1)) := c6
                have hcc := countQ w6.drew p _ _ _ _ (j : Int) HR6.out.1.drew ⟨by omega, by omega⟩
                rw [HR6.out.2.2.2.2.2.2.2.1] at hcc
                clear c4 f4 hck
                go_region_held3 (fun w' => w'.cell? ⟨r, j, none⟩ = some (.int .i64 (v - 1))) (exact c6d)
                  (first | (go_at_call 19; refine hcc.mono ?_; rintro e w8 ⟨rfl, rfl⟩))
                go_upto_region 29 with fail
                have HR9 : Hid (RQ w6.drew p q q (K2 + 1) (S2.dec (j : Int)) ∧ RQ w6.drew u x x 0 (RfS.new (N : Int)) ∧ Row w6.drew r N 3 (fun i => .int .i64 (hf (hl2.take kk ++ hl2.drop (kk + 1)) i)) ∧ IntsIn w6.drew (r + 1) (.slice (some ⟨gb, 0, none⟩) (g + 1) hc2) hl2 ∧ r + 1 ≤ w6.drew.heap.size ∧ Below w.heap.size w w6.drew ∧ ∀ k (hk : k < hl2.length), w6.drew.cell? ⟨gb, k, none⟩ = some (.int .i64 hl2[k])) := by
                  obtain ⟨z1, z2, z3, z4, z5, z6, z7, z8, z9⟩ := HR6.out
                  refine ⟨z1.drew, z3.drew, z4.kept rfl, z5.kept fun _ _ _ => rfl, z6, z7.drew, fun k0 hk0 => ?_⟩
                  have := World.ownsRow.cellAt (g := gb) (n := g + 1) (by have := z5; unfold IntsIn at this; rw [HKL.out] at this; exact this) k0 (by have := HKL.out; omega)
                  show w6.cell? _ = _
                  rw [this]
                  simp [hk0]
                clear hcc c6 c6d
                generalize w6.drew = w9 at *
                have hs9 := HR9.out.2.2.2.2.1
                have e9 : (w9.alloc (.cells #[] 3)).heap.size = w9.heap.size + 1 := by simp
                have HOW : Hid ((w9.alloc (.cells #[] 3)).drew.ownsRow (r + 1) 3 1 (.slice (some ⟨w9.heap.size, 0, none⟩) 0 0) 0 []) := World.ownsRow_made w9 #[] 0 hs9 (Nat.zero_le _) (by simp)
                have HN1 : Hid (∀ i u, ((hl2.take kk).map encZ)[i]? = some u → (w9.alloc (.cells #[] 3)).drew.cell? ((⟨gb, 0, none⟩ : Addr).add i) = some u) := fun i u hu => by
                  rw [add_lit, Nat.zero_add]
                  have hi2 : i < kk := by
                    have := (List.getElem?_eq_some_iff.1 hu).1
                    simp at this
                    omega
                  have h1 := HR9.out.2.2.2.2.2.2 i (by omega)
                  simp only [List.getElem?_map, List.getElem?_take_of_lt hi2, List.getElem?_eq_getElem (show i < hl2.length by omega), Option.map_some, Option.some.injEq] at hu
                  rw [← hu]
                  exact Lib.cell?_alloc_some _ h1
                have hkc : (kk : Int) ≤ (hc2 : Int) := by omega
                have hkc2 : (kk : Int) + 1 ≤ ((g + 1 : Nat) : Int) := by omega
                have hkc3 : ((g + 1 : Nat) : Int) ≤ (hc2 : Int) := by omega
                have hkc4 : (kk : Int) ≤ (g : Int) := by omega
                have hkc5 : (g : Int) + 1 ≤ (hc2 : Int) := by omega
                have hwk : IntKind.i64.wrap ((kk : Int) + 1) = (kk : Int) + 1 := by rw [IntKind.wrap_i64]; omega
                have hwt : ((kk : Int) + 1).toNat = kk + 1 := by omega
                have hp1 : 0 ≤ (kk : Int) + 1 := by omega
                have hp2 : (kk : Int) + 1 ≤ (g : Int) + 1 := by omega
                have hp3 : ((kk : Int) ≤ (g : Int)) = True := by simp; omega
                obtain ⟨ad, had, HN2⟩ : ∃ ad : Addr, (if hc2 = kk + 1 then some (⟨gb, 0, none⟩ : Addr) else some ⟨gb, kk + 1, none⟩) = some ad ∧ Hid (∀ w', Below w9.heap.size w9 w' → ∀ i u, ((hl2.drop (kk + 1)).map encZ)[i]? = some u → w'.cell? (ad.add i) = some u) := by
                  have hcellw : ∀ w', Below w9.heap.size w9 w' → ∀ i (hi : kk + 1 + i < hl2.length), w'.cell? ⟨gb, kk + 1 + i, none⟩ = some (.int .i64 hl2[kk + 1 + i]) := fun w' hb i hi =>
                    (World.cell?_of_block (hb.block gb (by
                      have := HR9.out.2.2.2.2.2.2 (kk + 1 + i) hi
                      cases hh : w9.heap[gb]? with
                      | none => simp [World.cell?, hh] at this
                      | some o => exact lt_block hh))).trans (HR9.out.2.2.2.2.2.2 (kk + 1 + i) hi)
                  by_cases hcap : hc2 = kk + 1
                  · refine ⟨⟨gb, 0, none⟩, by rw [if_pos hcap], fun w' hb i u hu => ?_⟩
                    have := (List.getElem?_eq_some_iff.1 hu).1
                    have := HKL.out
                    simp at *
                    omega
                  · refine ⟨⟨gb, kk + 1, none⟩, by rw [if_neg hcap], fun w' hb i u hu => ?_⟩
                    rw [add_lit]
                    have hi2 : kk + 1 + i < hl2.length := by
                      have := (List.getElem?_eq_some_iff.1 hu).1
                      simp at this
                      omega
                    simp only [List.getElem?_map, List.getElem?_drop, List.getElem?_eq_getElem hi2, Option.map_some, Option.some.injEq] at hu
                    rw [← hu]
                    exact hcellw w' hb i hi2
                have hgk : g + 1 - (kk + 1) = g - kk := by omega
                go_wp2_with fail
                go_region_law ((first
                  | (refine step_append_own _ (by rfl) (.tmp 131) (.tmp 134) 37 (by rfl) (r + 1) 3 i0 (.int .i64 0) 1 8 Try.underlying37 hi hz0 hz1 hz2 rfl (by omega) (.slice (some ⟨w9.heap.size, 0, none⟩) 0 0) 0 [] (by rfl) (by exact HOW.out) ⟨gb, 0, none⟩ kk hc2 ((hl2.take kk).map encZ) (by rfl) (by simp; omega) (by exact HN1.out) (by intro u hu; obtain ⟨z, _, rfl⟩ := List.mem_map.1 hu; rfl) (by unfold maxLen; omega) (by omega) (by rw [show (w9.alloc (.cells #[] 3)).drew.heap.size = w9.heap.size + 1 from e9]; omega) ?_; intro v10 w10 hown10 hgrow10; have hb10 : Below w9.heap.size w9 w10 := ⟨hgrow10.os, hgrow10.tape, hgrow10.output, by have := hgrow10.size; have h2 : (w9.alloc (.cells #[] 3)).drew.heap.size = w9.heap.size + 1 := e9; omega, fun z hz => (hgrow10.block z (by have h2 : (w9.alloc (.cells #[] 3)).drew.heap.size = w9.heap.size + 1 := e9; omega) (fun e => by have e2 : some z = some w9.heap.size := e; cases e2; omega)).trans (Below.heap_alloc _ _ _ hz)⟩; have hr10 : r + 1 ≤ w10.heap.size := Nat.le_trans hs9 hb10.size)
                  | (refine step_append_own _ (by rfl) (.tmp 135) (.tmp 139) 37 (by rfl) (r + 1) 3 i0 (.int .i64 0) 1 8 Try.underlying37 hi hz0 hz1 hz2 rfl (by omega) v10 (0 + kk) ([] ++ (hl2.take kk).map encZ) (by rfl) (by exact hown10) ad (g - kk) (hc2 - (kk + 1)) ((hl2.drop (kk + 1)).map encZ) (by rfl) (by rw [List.length_map, List.length_drop, HKL.out]; omega) (by exact HN2.out _ hb10) (by intro u hu; obtain ⟨z, _, rfl⟩ := List.mem_map.1 hu; rfl) (by unfold maxLen; omega) (by omega) (by exact hr10) ?_; intro v11 w11 hown11 hgrow11)))
                all_goals
                  have HO11 : Hid (IntsIn w11 (r + 1) v11 (hl2.take kk ++ hl2.drop (kk + 1))) := by
                    show IntsIn _ _ _ _
                    unfold IntsIn
                    have e1 : (hl2.take kk ++ hl2.drop (kk + 1)).length = 0 + kk + (g - kk) := by rw [List.length_append, List.length_take, List.length_drop, HKL.out]; omega
                    rw [e1, List.map_append]
                    exact hown11
                  have HL11 : Hid ((hl2.take kk ++ hl2.drop (kk + 1)).length = g) := by show _ = _; rw [List.length_append, List.length_take, List.length_drop, HKL.out]; omega
                  obtain ⟨a11, c11, e11⟩ := HO11.out.form
                  rw [HL11.out] at e11
                  subst e11
                  have hb11 : Below (r + 1) w9 w11 := (hb10.mono hs9).grown hgrow11 hr10 (fun z hz => (hown10.lt z hz).1)
                  have HI11 : Hid (RQ w11 p q q (K2 + 1) (S2.dec (j : Int)) ∧ Cn (S2.dec (j : Int)) N (tk N (hf (hl2.take kk ++ hl2.drop (kk + 1)))) ∧ RQ w11 u x x 0 (RfS.new (N : Int)) ∧ Row w11 r N 3 (fun i => .int .i64 (hf (hl2.take kk ++ hl2.drop (kk + 1)) i)) ∧ IntsIn w11 (r + 1) (.slice a11 g c11) (hl2.take kk ++ hl2.drop (kk + 1)) ∧ r + 1 ≤ w11.heap.size ∧ Below w.heap.size w w11 ∧ ∀ y ∈ hl2.take kk ++ hl2.drop (kk + 1), ∃ j : Nat, y = (j : Int) ∧ 2 ≤ j ∧ j < N) :=
                    ⟨HR9.out.1.under hb11 (by omega) (by omega), HR6.out.2.1, HR9.out.2.1.under hb11 (by omega) (by omega), HR9.out.2.2.1.under hb11 (by omega), HO11.out, Nat.le_trans hs9 hb11.size, HR9.out.2.2.2.2.2.1.trans (hb11.mono (by omega)), fun y hy => HI.out.2.2.2.2.2.2.2 y (by rcases List.mem_append.1 hy with h1 | h1; exact List.mem_of_mem_take h1; exact List.mem_of_mem_drop h1)⟩
                  clear hown10 hgrow10 hb10 hown11 hgrow11 hb11 had HN2
                  go_wp2
                  go_roundg g
                  case measure => omega
                  case rel => exact ⟨n + 1, K2 + 1, _, _, _, _, by omega, by omega, HL11.out, rfl, by go_num, HI11⟩
    | succ g =>
      have hk1 : (k : Int) < (len : Int) := by omega
      have hk2 : (k : Int) < 300 := by omega
      obtain ⟨ab, off, rfl, hab, hcell⟩ := HA.out.cell HI.out.2.2.2.2.2.2.1 (i := k) (by omega)
      have m2 := and24 (l k)
      generalize l k = y at *
      go_upto_region 13 with fail
      obtain ⟨j, hj, hj1, hj2⟩ := mod_n N y 16777216 (by omega) (by omega) (by omega)
      simp only [hj]
      clear hj m2 hcell
      have HE : Hid (S.merr (j : Int) = 0 ∧ S.first (j : Int) = (hf hl j == 0) ∧ Cn (S.mark (j : Int)) N (tk N (updI (hf hl) j (hf hl j + 1)))) := tk_mark HI.out.1.rf.ok HI.out.2.1 hj1 hj2
      have hjn : (j : Int) < (N : Int) := by omega
      have D2 := HD2.out
      have D3 := HD3.out
      go_upto_region 16 with (first
        | (go_at_call 17; refine (markQ _ p _ _ _ _ (j : Int) HI.out.1 ⟨by omega, by omega⟩ (by omega)).mono ?_; rintro e w4 ⟨rfl, h4, b4, t4⟩; rw [HE.out.1]))
      have HR4 : Hid (RQ w4 p q q (K + 1) (S.mark (j : Int)) ∧ RQ w4 u x x 0 (RfS.new (N : Int)) ∧ Row w4 r N 3 (fun i => .int .i64 (hf hl i)) ∧ IntsIn w4 (r + 1) (.slice ha k hc) hl ∧ r + 1 ≤ w4.heap.size ∧ Below w.heap.size w w4) :=
        ⟨h4, HI.out.2.2.1.touch t4 (by omega) (by omega) (by omega) (by omega), HI.out.2.2.2.1.touch t4 (by omega) (by omega), HI.out.2.2.2.2.1.kept (fun z h1 h2 => t4.block z h2 (by omega) (fun e => by cases e; omega)), Nat.le_trans HI.out.2.2.2.2.2.1 t4.size, HI.out.2.2.2.2.2.2.1.trans (b4.mono HS0.out)⟩
      clear h4 b4 t4
      have hs4 := HR4.out.2.2.2.2.1
      have HO4 : Hid (w4.ownsRow (r + 1) 3 1 (.slice ha k hc) k (hl.map encZ)) := by rw [← hkl]; have := HR4.out.2.2.2.1; rw [← hkl] at this; exact this
      have hkl2 : Hid (hl.length = k) := hkl
      clear hkl
      have e8 : (w4.alloc (.cells #[.int .i64 (j : Int)] 3)).heap.size = w4.heap.size + 1 := by simp
      go_upto_region 17 with (at_builtin; refine wpList_append_lies _ rfl (.tmp 67) (.tmp 69) 37 rfl (r + 1) 3 i0 (.int .i64 0) 1 8 Try.underlying37 hi hz0 hz1 hz2 rfl (by omega) (.slice ha k hc) k (hl.map encZ) rfl (by exact (HO4.out.alloc _)) ⟨w4.heap.size, 0, none⟩ 1 1 [.int .i64 (j : Int)] rfl rfl (by exact World.news_of_block (cs := #[_]) (heap_alloc_new _ _)) (by intro u hu; simp at hu; subst hu; rfl) (by omega) (by unfold maxLen; omega) (by omega) (by rw [e8]; omega) (w4.heap.size + 1) e8 ?_; intro g5 cap5 w5 hown5 hgrow5 hat5 hlt5)
      have hb5 : Below (r + 1) w4 w5 := ((Below.refl _ w4).mono hs4 |>.alloc hs4 _).grown hgrow5 (by rw [e8]; omega) (fun z hz => (HO4.out.lt z hz).1)
      have HR5 : Hid (RQ w5 p q q (K + 1) (S.mark (j : Int)) ∧ RQ w5 u x x 0 (RfS.new (N : Int)) ∧ Row w5 r N 3 (fun i => .int .i64 (hf hl i)) ∧ IntsIn w5 (r + 1) (.slice (some ⟨g5, 0, none⟩) (k + 1) cap5) (hl ++ [(j : Int)]) ∧ r + 1 ≤ w5.heap.size ∧ Below w.heap.size w w5) :=
        ⟨HR4.out.1.under hb5 (by omega) (by omega), HR4.out.2.1.under hb5 (by omega) (by omega), HR4.out.2.2.1.under hb5 (by omega), by
          unfold IntsIn
          rw [List.length_append, hkl2.out, List.map_append]
          exact hown5, Nat.le_trans hs4 hb5.size, HR4.out.2.2.2.2.2.trans (hb5.mono (by omega))⟩
      have c5 := HR5.out.2.2.1.cell hj2
      have f5 := HR5.out.2.2.1.free j
      have hf1 : 0 ≤ hf hl j := by unfold hf; omega
      have hf2 : hf hl j ≤ 1000 := by have := hf_le hl j; have := hkl2.out; omega
      have HF6 : Hid (RQ (w5.setCell ⟨r, j, none⟩ (.int .i64 (hf hl j + 1))) p q q (K + 1) (S.mark (j : Int)) ∧ Cn (S.mark (j : Int)) N (tk N (hf (hl ++ [(j : Int)]))) ∧ RQ (w5.setCell ⟨r, j, none⟩ (.int .i64 (hf hl j + 1))) u x x 0 (RfS.new (N : Int)) ∧ Row (w5.setCell ⟨r, j, none⟩ (.int .i64 (hf hl j + 1))) r N 3 (fun i => .int .i64 (hf (hl ++ [(j : Int)]) i)) ∧ IntsIn (w5.setCell ⟨r, j, none⟩ (.int .i64 (hf hl j + 1))) (r + 1) (.slice (some ⟨g5, 0, none⟩) (k + 1) cap5) (hl ++ [(j : Int)]) ∧ r + 1 ≤ (w5.setCell ⟨r, j, none⟩ (.int .i64 (hf hl j + 1))).heap.size ∧ Below w.heap.size w (w5.setCell ⟨r, j, none⟩ (.int .i64 (hf hl j + 1))) ∧ ∀ y ∈ hl ++ [(j : Int)], ∃ j : Nat, y = (j : Int) ∧ 2 ≤ j ∧ j < N) := by
        refine ⟨HR5.out.1.setRow (by omega) (by omega), ?_, HR5.out.2.1.setRow (by omega) (by omega), ?_, ?_, ?_, ?_, ?_⟩
        · have : hf (hl ++ [(j : Int)]) = updI (hf hl) j (hf hl j + 1) := funext fun i => hf_push hl j i
          rw [this]; exact HE.out.2.2
        · refine (HR5.out.2.2.1.set j _).same fun i _ => ?_
          rw [hf_push]
          unfold upd updI
          by_cases e : i = j
          · rw [if_pos e, if_pos e]
          · rw [if_neg e, if_neg e]
        · exact HR5.out.2.2.2.1.kept fun z h1 h2 => Below.heap_setCell _ _ _ _ (by simp; omega)
        · have := HR5.out.2.2.2.2.1; simpa [World.setCell] using this
        · exact below_set HR5.out.2.2.2.2.2 (by omega)
        · intro y hy
          rcases List.mem_append.1 hy with h1 | h1
          · exact HI.out.2.2.2.2.2.2.2 y h1
          · exact ⟨j, by simpa using h1, hj1, hj2⟩
      generalize hf hl j = v at *
      go_wp2_with fail
      go_roundg g
      case measure => omega
      case rel => exact ⟨k + 1, K + 1, _, _, _, _, by omega, by omega, by rw [List.length_append, hkl2.out]; rfl, rfl, by go_num, HF6⟩
end Go.Proofs.Ytpgepejleklpfaa
