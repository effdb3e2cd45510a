import Derived.Test.YtgicanpggndbeaaGreatB45
import Derived.WalkKit
/- dir: the statements' shown. -/
namespace Go.Proofs.YtgicanpggndbeaaGreat
set_option linter.unusedVariables false
set_option maxRecDepth 100000
open Go.RowKit

theorem VAt.re {w0 y : World} {lim p base k q : Nat} {pv iv : Value} {x : VR} {V : VS} (k' : Nat) (h : VAt w0 lim (NI lim p pv base) k iv q x V y) : VAt w0 lim (NI lim p pv base) k' iv q x V y := ⟨h.vw, h.base, h.own, h.bel, h.le, h.limy⟩
def sh1 : VS := vs0.change (enC 1 [98] 2)
def sh2 : VS := sh1.change (enC 1 [97] 3)
def sh3 : VS := { sh2 with R := sh2.R ++ [entriesS 1] }
def sh4 : VS := getW sh3 (ekz 1 [97])
def sh5 : VS := sh4.change (goneC (ekz 1 [97]))
def shL : List Pa := (scanV sh2.C nSn (entriesS 1)).1
theorem sh_okb : okE 1 [98] = true := by kernel_rfl
theorem sh_oka : okE 1 [97] = true := by kernel_rfl
theorem sh_L : scanV sh2.C nSn (entriesS 1) = (shL, 0) := rfl
theorem sh_len : shL.length = 2 := by kernel_rfl
theorem sh_names : namesL shL = [[97], [98]] := by kernel_rfl
theorem sh_good : shL.all (fun p => goodK p.k) = true := by kernel_rfl
theorem sh_get : getV sh3.C (plGe []) (ekz 1 [97]) = (be 3 4, true, 0) := by kernel_rfl
theorem sh_none : scanV sh5.C nSn (entriesS 2) = ([], 0) := by kernel_rfl
theorem nm_three {o : Option Int} (h : NmIs (be 3 4) o) : o = some 3 := (h 3).2 ⟨rfl, rfl⟩
set_option maxRecDepth 100000 in
set_option maxHeartbeats 8000000 in
theorem shown14_calls (w : World) : Calls Tryz.prog 7 #[] w fun e w' => e = .returned (.bool true) ∧ Below w.heap.size w w' := by
  have hN := vnewNil_calls w w (Below.refl _ _)
  go_enter Tryz.func7, Tryz.ntmps7
  go_upto_region 4 with (go_at_call 8; refine hN.mono ?_; clear hN; rintro e y0 ⟨lim, p, pv, base, q, x0, rfl, A0, hn0, -⟩)
  have HD : Hid (Baser lim noB (NI lim p pv base) (nI p) (plGe []) nSn) := ni_base lim p pv base
  have HN0 : Hid (x0.n = 0) := hn0
  have h1 := dput_ok HD.out w y0 9 q x0 vs0 A0 (by omega) 1 [98] 2 sh_okb rfl
  clear A0 hn0
  go_upto_region 5 with (go_at_call 10; refine h1.mono ?_; clear h1; rintro e y1 ⟨rfl, x1, T1⟩)
  have HN1 : Hid (x1.n ≤ 4) := (show _ ≤ _ by have := T1.n; have := HN0.out; omega)
  have h2 := dput_ok HD.out w y1 9 q x1 sh1 T1.at_ (by have := HN1.out; omega) 1 [97] 3 sh_oka rfl
  clear T1
  go_upto_region 6 with (go_at_call 10; refine h2.mono ?_; clear h2; rintro e y2 ⟨rfl, x2, T2⟩)
  have HN2 : Hid (x2.n ≤ 8) := (show _ ≤ _ by have := T2.n; have := HN1.out; omega)
  have h3 := dlist_ok HD.out w y2 8 q x2 sh2 (T2.at_.re 9) (by have := HN2.out; omega) 1 rfl shL sh_L (by rw [sh_len]; decide)
  rw [sh_len, sh_names] at h3
  clear T2
  go_upto_region 7 with (go_at_call 14; refine h3.mono ?_; clear h3; rintro e y3 ⟨x3, T3, hq3⟩
                         rcases hq3 with ⟨hg3, adn, capn, rfl, o3, no3⟩ | ⟨⟨p1, hp1, hp2⟩, -⟩
                         rotate_left
                         · exfalso
                           have := List.all_eq_true.1 sh_good p1 hp1
                           rw [hp2] at this
                           cases this)
  have HN3 : Hid (x3.n ≤ 12) := (show _ ≤ _ by have := T3.n; have := HN2.out; omega)
  have HO3 : Hid (Own encN 9 y3 y2.heap.size (.slice adn 2 capn) [[97], [98]] ∧ ∀ g, Value.ownBlock (.slice adn 2 capn) = some g → ¬ x3.own q g) := ⟨o3, no3⟩
  have h4 := dfind_ok HD.out w y3 8 q x3 sh3 (T3.at_.re 9) (by have := HN3.out; omega) 1 [97] sh_oka
  rw [sh_get] at h4
  clear T3 hg3 o3 no3
  go_upto_region 8 with (go_at_call 21; refine h4.mono ?_; clear h4; rintro e y4 ⟨⟨o, ho, rfl⟩, x4, T4⟩
                         obtain rfl := nm_three ho)
  have HN4 : Hid (x4.n ≤ 16) := (show _ ≤ _ by have := T4.n; have := HN3.out; omega)
  have HO4 : Hid (Own encN 9 y4 y2.heap.size (.slice adn 2 capn) [[97], [98]] ∧ ∀ g, Value.ownBlock (.slice adn 2 capn) = some g → ¬ x4.own q g) := ⟨HO3.out.1.same fun g hg => T4.kept (HO3.out.1.lt g hg).2 (HO3.out.2 g hg), fun g hg e => (T4.own g e).elim (HO3.out.2 g hg) (fun r => by have := (HO3.out.1.lt g hg).2; omega)⟩
  have h5 := ddrop_ok HD.out w y4 9 q x4 sh4 (T4.at_.re 9) (by have := HN4.out; omega) 1 [97] sh_oka
  clear T4 ho HO3
  go_upto_region 9 with (go_at_call 12; refine h5.mono ?_; clear h5; rintro e y5 ⟨rfl, x5, T5⟩)
  have HN5 : Hid (x5.n ≤ 20) := (show _ ≤ _ by have := T5.n; have := HN4.out; omega)
  have HO5 : Hid (Own encN 9 y5 y2.heap.size (.slice adn 2 capn) [[97], [98]] ∧ ∀ g, Value.ownBlock (.slice adn 2 capn) = some g → ¬ x5.own q g) := ⟨HO4.out.1.same fun g hg => T5.kept (HO4.out.1.lt g hg).2 (HO4.out.2 g hg), fun g hg e => (T5.own g e).elim (HO4.out.2 g hg) (fun r => by have := (HO4.out.1.lt g hg).2; omega)⟩
  have h6 := dempty_ok HD.out w y5 8 q x5 sh5 (T5.at_.re 9) (by have := HN5.out; omega) 2 rfl [] sh_none (Nat.zero_le _)
  clear T5 HO4
  go_upto_region 10 with (go_at_call 17; refine h6.mono ?_; clear h6; rintro e y6 ⟨rfl, x6, T6⟩)
  have HB6 : Hid (Below w.heap.size w y6) := T6.at_.bel
  have o6 : Own encN 9 y6 y2.heap.size (.slice adn 2 capn) [[97], [98]] := HO5.out.1.same fun g hg => T6.kept (HO5.out.1.lt g hg).2 (HO5.out.2 g hg)
  obtain ⟨g, off, rfl, -, ha⟩ := SlB.at o6.slB 0 (by decide)
  obtain ⟨g', off', e2, -, hb⟩ := SlB.at o6.slB 1 (by decide)
  cases e2
  have hc0 : y6.cell? ⟨g, off, none⟩ = some (.string ⟨#[97]⟩) := by have := ha 0 (.string ⟨#[97]⟩) rfl; simpa using this
  have hc1 : y6.cell? ⟨g, off + 1, none⟩ = some (.string ⟨#[98]⟩) := by have := hb 0 (.string ⟨#[98]⟩) rfl; simpa using this
  clear T6 o6 ha hb HO5
  go_wp2_with fail
  go_ret
  exact ⟨rfl, HB6.out⟩
end Go.Proofs.YtgicanpggndbeaaGreat
/- How keys are ordered, and which lie in a span: plain mathematics. -/
namespace Go.Proofs.YtgicanpggndbeaaGreat
set_option linter.unusedVariables false
set_option maxRecDepth 100000
open Go.RowKit

theorem less_self (l : List UInt8) : Op.bytesLess l l = false := by
  induction l with
  | nil => rfl
  | cons a l ih => rw [Op.bytesLess, ih]; simp
theorem less_app : ∀ (p q x y : List UInt8), p.length = q.length → Op.bytesLess (p ++ x) (q ++ y) = (Op.bytesLess p q || (p == q && Op.bytesLess x y))
  | [], [], x, y, _ => by simp [Op.bytesLess]
  | a :: p, b :: q, x, y, h => by
    have ih := less_app p q x y (by simpa using h)
    rw [List.cons_append, List.cons_append, Op.bytesLess, Op.bytesLess, ih, List.cons_beq_cons]
    cases decide (a < b) <;> cases (a == b) <;> simp
  | [], _ :: _, _, _, h => by simp at h
  | _ :: _, [], _, _, h => by simp at h
theorem less_zs : ∀ (n : Nat) (x : List UInt8), x.length = n → Op.bytesLess x (zs n) = false
  | 0, [], _ => rfl
  | n + 1, a :: x, h => by
    have ih := less_zs n x (by simpa using h)
    have e : zs (n + 1) = 0 :: zs n := rfl
    rw [e, Op.bytesLess, ih]
    simp
  | 0, _ :: _, h => by simp at h
  | _ + 1, [], h => by simp at h
theorem less_tops : ∀ (n : Nat) (x : List UInt8), x.length = n → Op.bytesLess (List.replicate n 255) x = false
  | 0, [], _ => rfl
  | n + 1, a :: x, h => by
    have ih := less_tops n x (by simpa using h)
    have ha : ¬ (255 : UInt8) < a := by
      rw [UInt8.lt_iff_toNat_lt]
      have := a.toNat_lt
      have e : (255 : UInt8).toNat = 255 := rfl
      omega
    rw [List.replicate_succ, Op.bytesLess, ih]
    simp [ha]
  | 0, _ :: _, h => by simp at h
  | _ + 1, [], h => by simp at h
theorem less_tri : ∀ (x y : List UInt8), x.length = y.length → (!Op.bytesLess x y) = (Op.bytesLess y x || x == y)
  | [], [], _ => rfl
  | a :: x, b :: y, h => by
    have ih := less_tri x y (by simpa using h)
    rw [Op.bytesLess, Op.bytesLess, List.cons_beq_cons]
    rcases Nat.lt_trichotomy a.toNat b.toNat with h1 | h1 | h1
    · have h2 : a < b := UInt8.lt_iff_toNat_lt.2 h1
      have h3 : ¬ b < a := fun e => by have := UInt8.lt_iff_toNat_lt.1 e; omega
      have h4 : ¬ a = b := fun e => by subst e; omega
      have h5 : ¬ b = a := fun e => h4 e.symm
      simp [h2, h3, h4, h5]
    · have h2 : a = b := UInt8.toNat_inj.1 h1
      subst h2
      simp [ih]
    · have h2 : b < a := UInt8.lt_iff_toNat_lt.2 h1
      have h3 : ¬ a < b := fun e => by have := UInt8.lt_iff_toNat_lt.1 e; omega
      have h4 : ¬ a = b := fun e => by subst e; omega
      simp [h2, h3, h4]
  | [], _ :: _, h => by simp at h
  | _ :: _, [], h => by simp at h

theorem less_be {i d : Nat} (hi : i < 4294967296) (hd : d < 4294967296) (x y : List UInt8) : Op.bytesLess (be i 4 ++ x) (be d 4 ++ y) = (decide (i < d) || (decide (i = d) && Op.bytesLess x y)) := by
  rw [less_app _ _ _ _ (by rw [be_length, be_length]), be_less 4 i d (by rw [p4]; exact hi) (by rw [p4]; exact hd)]
  have : (be i 4 == be d 4) = decide (i = d) := by
    rw [Bool.eq_iff_iff, beq_iff_eq, decide_eq_true_iff]
    exact be_inj (by rw [p4]; exact hi) (by rw [p4]; exact hd)
  rw [this]

/-- Names that are filled up with noughts are ordered as they were. -/
theorem less_names : ∀ (s t : List UInt8) (n m : Nat) (x y : UInt8), (0 : UInt8) ∉ s → (0 : UInt8) ∉ t → s.length + n = t.length + m → (s.length = t.length → x = y) → Op.bytesLess (s ++ zs n ++ [x]) (t ++ zs m ++ [y]) = Op.bytesLess s t
  | [], [], n, m, x, y, _, _, h, hx => by
    have e : n = m := by simpa using h
    subst e
    have := hx rfl
    subst this
    rw [less_self]
    rfl
  | [], b :: t, n, m, x, y, _, ht, h, _ => by
    obtain ⟨k, rfl⟩ : ∃ k, n = k + 1 := ⟨n - 1, by simp at h; omega⟩
    have hb : (0 : UInt8) < b := by
      rw [UInt8.lt_iff_toNat_lt]
      have h0 : b ≠ 0 := fun e => ht (by simp [e])
      have : b.toNat ≠ 0 := fun e => h0 (UInt8.toNat_inj.1 e)
      have e0 : (0 : UInt8).toNat = 0 := rfl
      omega
    show Op.bytesLess (0 :: _) (b :: _) = true
    rw [Op.bytesLess]
    simp [hb]
  | a :: s, [], n, m, x, y, hs, _, h, _ => by
    obtain ⟨k, rfl⟩ : ∃ k, m = k + 1 := ⟨m - 1, by simp at h; omega⟩
    have ha : a ≠ 0 := fun e => hs (by simp [e])
    have h0 : ¬ a < 0 := fun e => by have := UInt8.lt_iff_toNat_lt.1 e; have e0 : (0 : UInt8).toNat = 0 := rfl; omega
    show Op.bytesLess (a :: _) (0 :: _) = false
    rw [Op.bytesLess]
    simp [ha, h0]
  | a :: s, b :: t, n, m, x, y, hs, ht, h, hx => by
    have ih := less_names s t n m x y (fun e => hs (by simp [e])) (fun e => ht (by simp [e])) (by simp at h; omega) (fun e => hx (by simp [e]))
    show Op.bytesLess (a :: (s ++ zs n ++ [x])) (b :: (t ++ zs m ++ [y])) = Op.bytesLess (a :: s) (b :: t)
    rw [Op.bytesLess, Op.bytesLess, ih]

theorem entry_less {n : Int} {s t : List UInt8} (hn : okN n = true) (hs : okS s = true) (ht : okS t = true) : Op.bytesLess (entryR n s) (entryR n t) = Op.bytesLess s t := by
  obtain ⟨h0, h1, h2⟩ := okN_lt hn
  obtain ⟨s1, s2, s3⟩ := okS_out hs
  obtain ⟨t1, t2, t3⟩ := okS_out ht
  rw [show entryR n s = entryK n.toNat s by rw [entryR, hn, hs]; rfl, show entryR n t = entryK n.toNat t by rw [entryR, hn, ht]; rfl, entryK, entryK, less_be h1 h1, Op.bytesLess, less_names s t _ _ _ _ s3 t3 (by omega) (fun e => by rw [e])]
  simp
theorem chunk_less {n m p q : Int} (hn : okN n = true) (hm : okN m = true) (hp : okP p = true) (hq : okP q = true) : Op.bytesLess (chunkR n p) (chunkR m q) = (decide (n < m) || (decide (n = m) && decide (p < q))) := by
  obtain ⟨h0, h1, h2⟩ := okN_lt hn
  obtain ⟨m0, m1, m2⟩ := okN_lt hm
  obtain ⟨p0, p1, p2⟩ := okP_lt hp
  obtain ⟨q0, q1, q2⟩ := okP_lt hq
  have e : Op.bytesLess (be p.toNat 4) (be q.toNat 4) = decide (p < q) := by
    rw [be_less 4 _ _ (by rw [p4]; exact p1) (by rw [p4]; exact q1), decide_eq_decide]
    omega
  rw [show chunkR n p = chunkK n.toNat p.toNat by rw [chunkR, hn, hp]; rfl, show chunkR m q = chunkK m.toNat q.toNat by rw [chunkR, hm, hq]; rfl, chunkK, chunkK, less_be h1 m1, Op.bytesLess, less_app _ _ _ _ rfl, e, less_self]
  rw [show decide (n.toNat < m.toNat) = decide (n < m) by rw [decide_eq_decide]; omega, show decide (n.toNat = m.toNat) = decide (n = m) by rw [decide_eq_decide]; omega]
  simp
theorem inode_entry {n : Int} {s : List UInt8} (hn : okN n = true) (hs : okS s = true) : Op.bytesLess (inodeR n) (entryR n s) = true := by
  obtain ⟨h0, h1, h2⟩ := okN_lt hn
  rw [show inodeR n = headK n.toNat 1 by rw [inodeR, if_pos hn], show entryR n s = entryK n.toNat s by rw [entryR, hn, hs]; rfl, headK, entryK, less_be h1 h1, Op.bytesLess]
  simp
theorem entry_before {n p : Int} {s : List UInt8} (hn : okN n = true) (hs : okS s = true) (hp : okP p = true) : Op.bytesLess (entryR n s) (chunkR n p) = true := by
  obtain ⟨h0, h1, h2⟩ := okN_lt hn
  rw [show entryR n s = entryK n.toNat s by rw [entryR, hn, hs]; rfl, show chunkR n p = chunkK n.toNat p.toNat by rw [chunkR, hn, hp]; rfl, chunkK, entryK, less_be h1 h1, Op.bytesLess]
  simp

/-! Of two keys the one behind a key. -/
theorem nxt_tells (L : List UInt8) (hL : L.length = 24) : ∀ (i : Nat) (K : List UInt8), i ≤ 24 → K.length = 24 → K.drop i = zs (24 - i) →
    ((nxt K i).2 = true → Op.bytesLess L (nxt K i).1 = !Op.bytesLess (K.take i ++ List.replicate (24 - i) 255) L) ∧ ((nxt K i).2 = false → Op.bytesLess (K.take i ++ List.replicate (24 - i) 255) L = false)
  | 0, K, _, hK, _ => by
    refine ⟨fun h => (by cases h), fun _ => ?_⟩
    rw [List.take_zero, List.nil_append]
    exact less_tops 24 L hL
  | i + 1, K, hi, hK, hz => by
    have hlt : i < K.length := by omega
    have hg : K.getD i 0 = K[i] := by rw [List.getD_eq_getElem?_getD, List.getElem?_eq_getElem hlt]; rfl
    have hst : ∀ x, K.set i x = K.take i ++ x :: zs (24 - (i + 1)) := fun x => by
      rw [← hz, List.set_eq_take_append_cons_drop, if_pos hlt]
    have htk : K.take (i + 1) = K.take i ++ [K[i]] := List.take_succ_eq_append_getElem hlt
    have hl : (K.take i).length = i := by simp; omega
    rw [nxt]
    split
    · rename_i hx
      rw [hg] at hx
      have hx := u8_back hx
      have ih := nxt_tells L hL i (K.set i 0) (by omega) (by simpa using hK) (by
        rw [hst, List.drop_append_of_le_length (by omega), List.drop_of_length_le (by omega), List.nil_append, show 24 - i = (24 - (i + 1)) + 1 by omega]
        rfl)
      have e : (K.set i 0).take i ++ List.replicate (24 - i) 255 = K.take (i + 1) ++ List.replicate (24 - (i + 1)) 255 := by
        rw [hst, List.take_append_of_le_length (by omega), List.take_take, Nat.min_self, htk, hx, show 24 - i = (24 - (i + 1)) + 1 by omega, List.replicate_succ]
        simp
      rw [e] at ih
      exact ih
    · rename_i hx
      rw [hg] at hx ⊢
      refine ⟨fun _ => ?_, fun h => (by cases h)⟩
      have hLs : L = L.take i ++ L[i]'(by omega) :: L.drop (i + 1) := by
        rw [← List.drop_eq_getElem_cons, List.take_append_drop]
      have hLl : (L.take i).length = i := by simp; omega
      have hr1 : (L.drop (i + 1)).length = 24 - (i + 1) := by rw [List.length_drop, hL]
      have hp := u8_plus hx
      have hlx := u8_less hx
      generalize L[i]'(by omega) = y at hLs
      generalize L.drop (i + 1) = R at hLs hr1
      generalize L.take i = P at hLs hLl
      subst hLs
      rw [hst, htk, List.append_assoc, less_app _ _ _ _ (by rw [hl, hLl]), less_app _ _ _ _ (by rw [hl, hLl]), List.singleton_append, Op.bytesLess, Op.bytesLess, less_zs _ R hr1, less_tops _ R hr1]
      have ht := less_tri (K.take i) P (by rw [hl, hLl])
      have hy := y.toNat_lt
      have e1 : decide (y < K[i] + 1) = !decide (K[i] < y) := by
        rw [Bool.eq_iff_iff]
        simp only [Bool.not_eq_true', decide_eq_true_eq, decide_eq_false_iff_not, UInt8.lt_iff_toNat_lt]
        omega
      rw [e1]
      by_cases hPP : K.take i = P
      · subst hPP
        simp [less_self]
      · have hPP' : ¬ P = K.take i := fun e => hPP e.symm
        have e2 : (K.take i == P) = false := by simpa using hPP
        have e3 : (P == K.take i) = false := by simpa using hPP'
        rw [e2, Bool.or_false] at ht
        rw [e2, e3, ← ht]
        simp

theorem one_in (K L : List UInt8) (hK : K.length = 24) (hL : L.length = 24) : inS K (oneT K) (oneE K) L = (K == L) := by
  have h := nxt_tells L hL 24 K (Nat.le_refl _) hK (by rw [List.drop_of_length_le (by omega)]; rfl)
  rw [List.take_of_length_le (by omega), show 24 - 24 = 0 from rfl, List.replicate_zero, List.append_nil] at h
  have ht := less_tri L K (by rw [hK, hL])
  have ht' := less_tri K L (by rw [hK, hL])
  rw [inS, oneE, oneT]
  cases hn : (nxt K 24).2 with
  | true =>
    rw [h.1 hn]
    by_cases hKL : K = L
    · subst hKL
      simp [less_self]
    · have e1 : (K == L) = false := by simpa using hKL
      have e2 : (L == K) = false := by simpa using fun e : L = K => hKL e.symm
      rw [e1] at ht' ⊢
      rw [e2] at ht
      simp at ht ht' ⊢
      rw [ht]
      simp
  | false =>
    rw [h.2 hn] at ht
    by_cases hKL : K = L
    · subst hKL
      simp [less_self]
    · have e1 : (K == L) = false := by simpa using hKL
      have e2 : (L == K) = false := by simpa using fun e : L = K => hKL e.symm
      rw [e1]
      rw [e2] at ht
      simp at ht
      simp [ht]
end Go.Proofs.YtgicanpggndbeaaGreat
/- dir: names and keys (mathematics); several views beside one another. -/
namespace Go.Proofs.YtgicanpggndbeaaGreat
set_option linter.unusedVariables false
set_option maxRecDepth 100000
open Go.RowKit

theorem okH_zero (L : List UInt8) (h : okH L = true) : ∀ b ∈ L.take (dec L).2, b ≠ 0 := by
  simp only [okH, Bool.and_eq_true, decide_eq_true_eq] at h
  obtain ⟨h0, h32, _, _⟩ := h
  have hd : (dec L).2 = (chr L).1 := by unfold dec; rw [if_neg h0]
  rw [hd]
  intro x hx e
  subst e
  rcases chr_cases L with h' | ⟨a, r, rfl, h1, h'⟩ | ⟨a, b, r, rfl, h1, h2, h3, h4, h'⟩ | ⟨a, b, c, r, rfl, h1, h2, h3, h4, h5, h6, h'⟩ | ⟨a, b, c, d, r, rfl, h1, h2, h3, h4, h5, h6, h7, h'⟩
  · rw [h'] at h0; exact h0 rfl
  · rw [h'] at hx h32
    simp at hx
    subst hx
    simp at h32
  · rw [h'] at hx
    rw [tlB_iff] at h3
    simp at hx
    rcases hx with hx | hx <;> subst hx <;> simp at *
  · rw [h'] at hx
    rw [tlB_iff] at h3 h4
    simp at hx
    rcases hx with hx | hx | hx <;> subst hx <;> simp at *
  · rw [h'] at hx
    rw [tlB_iff] at h3 h4 h5
    simp at hx
    rcases hx with hx | hx | hx | hx <;> subst hx <;> simp at *
theorem okC_zero : ∀ (m : Nat) (L : List UInt8), L.length = m → okC L = true → (0 : UInt8) ∉ L := by
  intro m
  induction m using Nat.strongRecOn with
  | _ m ih =>
    intro L hm h
    by_cases hL : L = []
    · subst hL; simp
    have hd := dec_le L hL
    have hp := dec_pos L
    rw [okC_cons L hL, Bool.and_eq_true] at h
    have h2 := ih (L.drop (dec L).2).length (by simp only [List.length_drop]; omega) _ rfl h.2
    intro hmem
    rw [← List.take_append_drop (dec L).2 L, List.mem_append] at hmem
    rcases hmem with hm | hm
    · exact okH_zero L h.1 _ hm rfl
    · exact h2 hm
theorem rightP_okS {L : List UInt8} (h : rightP L = true) : okS L = true := by
  simp only [rightP, Bool.and_eq_true, decide_eq_true_eq] at h
  exact decide_eq_true ⟨h.1, h.2.1, okC_zero _ L rfl h.2.2.2.2⟩
theorem okE_right {n : Int} (hn : okN n = true) {L : List UInt8} (h : rightP L = true) : okE n L = true := by unfold okE; rw [hn, rightP_okS h, h]; rfl
theorem ekz_inj {n : Int} (hn : okN n = true) {a b : List UInt8} (ha : rightP a = true) (hb : rightP b = true) (h : a ≠ b) : ekz n a ≠ ekz n b := fun e => by
  have h1 := entry_inj hn (rightP_okS ha) hn (rightP_okS hb)
  have h2 : entryR n a = entryR n b := congrArg Kz.k e
  rw [h2] at h1
  simp at h1
  exact h h1
theorem mem_oneE (K A : Kz) : mem [oneSp K] (num A.k) = decide (A = K) := by
  have h1 : mem [oneSp K] (num A.k) = (oneSp K).inb (num A.k) := by simp [mem]
  have h2 : (oneSp K).inb (num A.k) = inS (oneSp K).F (oneSp K).T (oneSp K).e A.k := (in_num (oneSp K) A.k A.h).symm
  rw [h1, h2, show inS (oneSp K).F (oneSp K).T (oneSp K).e A.k = inS K.k (oneT K.k) (oneE K.k) A.k from rfl, one_in K.k A.k K.h A.h, Bool.eq_iff_iff, beq_iff_eq, decide_eq_true_eq]
  exact ⟨fun e => by cases K; cases A; cases e; rfl, fun e => by rw [e]⟩
theorem less_headE {i d : Nat} (hi : i < 4294967296) (hd : d < 4294967296) (kb c : UInt8) (r : List UInt8) (hr : r.length = 19) : Op.bytesLess (be i 4 ++ kb :: r) (headK d c) = (decide (i < d) || (decide (i = d) && decide (kb < c))) := by
  rw [headK, less_be hi hd, Op.bytesLess, less_zs 19 r hr]
  simp
theorem in_dirs {n d : Int} (hn : okN n = true) (hd : okN d = true) {s : List UInt8} (hs : okS s = true) : inS (entriesF d) (entriesT d) false (entryR n s) = decide (n = d) := by
  obtain ⟨i0, i1, i2⟩ := okN_lt hn
  obtain ⟨d0, d1, d2⟩ := okN_lt hd
  have hl := (okS_out hs).2.1
  have he : entryR n s = be n.toNat 4 ++ 2 :: (s ++ zs (18 - s.length) ++ [UInt8.ofNat s.length]) := by unfold entryR; rw [hn, hs]; rfl
  have hr : (s ++ zs (18 - s.length) ++ [UInt8.ofNat s.length]).length = 19 := by simp [zs_length]; omega
  rw [entriesF, entriesT, if_pos hd, if_pos hd, inS, he, less_headE i1 d1 _ _ _ hr, less_headE i1 d1 _ _ _ hr]
  rcases Int.lt_trichotomy n d with hlt | heq | hgt
  · have h1 : n.toNat < d.toNat := by omega
    have h2 : ¬ n = d := by omega
    simp [h1, h2]
  · subst heq
    simp
  · have h1 : ¬ n.toNat < d.toNat := by omega
    have h2 : ¬ n.toNat = d.toNat := by omega
    have h3 : ¬ n = d := by omega
    simp [h1, h2, h3]
theorem mem_dir {n : Int} (hn : okN n = true) {s : List UInt8} (hs : rightP s = true) : mem [entriesS n] (num (ekz n s).k) = true := by
  have h1 : mem [entriesS n] (num (ekz n s).k) = (entriesS n).inb (num (ekz n s).k) := by simp [mem]
  have h2 : (entriesS n).inb (num (ekz n s).k) = inS (entriesF n) (entriesT n) false (entryR n s) := (in_num (entriesS n) (ekz n s).k (ekz n s).h).symm
  rw [h1, h2, in_dirs hn hn (rightP_okS hs)]
  exact decide_eq_true rfl

/-! Views over nothing, beside one another. -/
structure NV where
  lim : Nat
  p : Nat
  pv : Value
  base : Nat
  q : Nat
  x : VR
  V : VS
def NV.at_ (d : NV) (w0 y : World) : Prop := VAt w0 d.lim (NI d.lim d.p d.pv d.base) 9 (nI d.p) d.q d.x d.V y
def NV.foot (d : NV) (i : Nat) : Prop := d.x.own d.q i ∨ i = d.p ∨ d.pv.ownBlock = some i
def NV.off (d e : NV) : Prop := ∀ i, d.x.own d.q i → ¬ e.foot i
theorem NV.lt {d : NV} {w0 y : World} (h : d.at_ w0 y) {i : Nat} (hi : d.foot i) : i < y.heap.size := by
  have hb : PlC d.lim y d.p d.pv [] d.base := h.base
  rcases hi with hi | rfl | hi
  · exact h.vw.lt hi
  · exact Nat.lt_of_lt_of_le hb.lo hb.le
  · exact Nat.lt_of_lt_of_le (hb.lov i hi) hb.le
/-- A step on one view leaves another one. -/
theorem NV.aside {d e : NV} {w0 y y' : World} {x' : VR} {V' : VS} {k nb : Nat} (hd : d.at_ w0 y) (he : e.at_ w0 y) (h1 : d.off e) (h2 : e.off d) (t : VRan noB w0 d.lim (NI d.lim d.p d.pv d.base) k (nI d.p) d.q d.x nb V' y x' y') :
    NV.at_ { d with x := x', V := V' } w0 y' ∧ e.at_ w0 y' ∧ NV.off { d with x := x', V := V' } e ∧ e.off { d with x := x', V := V' } := by
  have hb : PlC e.lim y e.p e.pv [] e.base := he.base
  refine ⟨t.at_.re 9, VAt.aside he t.fr (fun i hi => hi.elim (fun q => ⟨Nat.le_trans hd.le (hd.own i q), fun r => h1 i q (.inl r)⟩) (fun q => q.elim)) (hb.kept t.fr.size fun i hi => t.fr.block i (NV.lt he (.inr hi)) (fun q => q.elim (fun q => h1 i q (.inr hi)) (fun q => q))), fun i hi r => ?_, fun i hi r => ?_⟩
  · rcases t.own i hi with q | q
    · exact h1 i q r
    · have := NV.lt he r
      omega
  · rcases r with r | r
    · rcases t.own i r with q | q
      · exact h2 i hi (.inl q)
      · have := NV.lt he (.inl hi)
        omega
    · exact h2 i hi (.inr r)
theorem NV.called {d : NV} {w0 y y' : World} (h : d.at_ w0 y) (b : Below y.heap.size y y') : d.at_ w0 y' := VAt.called (ni_base _ _ _ _) h b
/-- Three of them. -/
structure Tri3 (w0 y : World) (a b c : NV) : Prop where
  at1 : a.at_ w0 y
  at2 : b.at_ w0 y
  at3 : c.at_ w0 y
  ab : a.off b
  ba : b.off a
  ac : a.off c
  ca : c.off a
  bc : b.off c
  cb : c.off b
theorem Tri3.rot {w0 y : World} {a b c : NV} (h : Tri3 w0 y a b c) : Tri3 w0 y b c a := ⟨h.at2, h.at3, h.at1, h.bc, h.cb, h.ba, h.ab, h.ca, h.ac⟩
theorem Tri3.fst {w0 y y' : World} {a b c : NV} {x' : VR} {V' : VS} {k nb : Nat} (h : Tri3 w0 y a b c) (t : VRan noB w0 a.lim (NI a.lim a.p a.pv a.base) k (nI a.p) a.q a.x nb V' y x' y') : Tri3 w0 y' { a with x := x', V := V' } b c := by
  obtain ⟨p1, p2, p3, p4⟩ := NV.aside h.at1 h.at2 h.ab h.ba t
  obtain ⟨q1, q2, q3, q4⟩ := NV.aside h.at1 h.at3 h.ac h.ca t
  exact ⟨p1, p2, q2, p3, p4, q3, q4, h.bc, h.cb⟩
theorem Tri3.called {w0 y y' : World} {a b c : NV} (h : Tri3 w0 y a b c) (b1 : Below y.heap.size y y') : Tri3 w0 y' a b c := ⟨NV.called h.at1 b1, NV.called h.at2 b1, NV.called h.at3 b1, h.ab, h.ba, h.ac, h.ca, h.bc, h.cb⟩
theorem NV.apart {d e : NV} {B : Nat} (hd : ∀ i, d.foot i → i < B) (he : ∀ i, e.foot i → B ≤ i) : d.off e ∧ e.off d :=
  ⟨fun i hi r => by have := hd i (.inl hi); have := he i r; omega, fun i hi r => by have := he i (.inl hi); have := hd i r; omega⟩
theorem nvNew_calls (w0 y : World) (hb : Below w0.heap.size w0 y) :
    Calls Tryz.prog 8 #[.nilIface] y fun e y' => ∃ d : NV, e = .returned (.pointer (some ⟨d.q, 0, none⟩)) ∧ d.at_ w0 y' ∧ d.V = vs0 ∧ d.x.n = 0 ∧ (∀ i, d.foot i → y.heap.size ≤ i) ∧ Below y.heap.size y y' :=
  (vnewNil_calls w0 y hb).mono fun e y' h => by
    obtain ⟨lim, p, pv, base, q, x, h1, h2, h3, h4, h5, h6, -, h8⟩ := h
    refine ⟨⟨lim, p, pv, base, q, x, vs0⟩, h1, h2, rfl, h3, fun i hi => ?_, h8⟩
    rcases hi with hi | rfl | hi
    · exact h4 i hi
    · exact h5
    · exact h6 i hi
end Go.Proofs.YtgicanpggndbeaaGreat
/- Masks and remainders on an int. -/
namespace Go.Proofs.YtgicanpggndbeaaGreat
set_option linter.unusedVariables false
set_option maxRecDepth 100000
theorem and_ones (n : Int) (m j : Nat) (hm : (BitVec.ofInt 64 (m : Int)).toNat = 2 ^ j - 1) : (BitVec.ofInt 64 n &&& BitVec.ofInt 64 (m : Int)).toNat = (n % ((2 ^ 64 : Nat) : Int)).toNat % 2 ^ j := by
  rw [BitVec.toNat_and, BitVec.toNat_ofInt, hm, Nat.and_two_pow_sub_one_eq_mod]
theorem and63 (n : Int) : bits .and .i64 n 63 = n % 64 := by
  show IntKind.i64.wrap ((BitVec.ofInt 64 n &&& BitVec.ofInt 64 ((63 : Nat) : Int)).toNat : Nat) = n % 64
  rw [and_ones n 63 6 (by decide), IntKind.wrap_i64]
  omega
theorem and65535 (n : Int) : bits .and .i64 n 65535 = n % 65536 := by
  show IntKind.i64.wrap ((BitVec.ofInt 64 n &&& BitVec.ofInt 64 ((65535 : Nat) : Int)).toNat : Nat) = n % 65536
  rw [and_ones n 65535 16 (by decide), IntKind.wrap_i64]
  omega
theorem and24 (n : Int) : bits .and .i64 n 16777215 = n % 16777216 := by
  show IntKind.i64.wrap ((BitVec.ofInt 64 n &&& BitVec.ofInt 64 ((16777215 : Nat) : Int)).toNat : Nat) = n % 16777216
  rw [and_ones n 16777215 24 (by decide), IntKind.wrap_i64]
  omega
theorem and32 (n : Int) : bits .and .i64 n 4294967295 = n % 4294967296 := by
  show IntKind.i64.wrap ((BitVec.ofInt 64 n &&& BitVec.ofInt 64 ((4294967295 : Nat) : Int)).toNat : Nat) = n % 4294967296
  rw [and_ones n 4294967295 32 (by decide), IntKind.wrap_i64]
  omega
theorem and1i (n : Int) : bits .and .i64 n 1 = n % 2 := by
  show IntKind.i64.wrap ((BitVec.ofInt 64 n &&& BitVec.ofInt 64 ((1 : Nat) : Int)).toNat : Nat) = n % 2
  rw [and_ones n 1 1 (by decide), IntKind.wrap_i64]
  omega
open Go.RowKit
theorem wrap64_of_range {x : Int} (h1 : -9223372036854775808 ≤ x) (h2 : x ≤ 9223372036854775807) : wrap64 x = x := by unfold wrap64; omega
end Go.Proofs.YtgicanpggndbeaaGreat
/- dir: the statements' cuts. -/
namespace Go.Proofs.YtgicanpggndbeaaGreat
set_option linter.unusedVariables false
set_option maxRecDepth 100000
open Go.RowKit

theorem str_cut40 (v : List UInt8) : (str v).extract 0 (min ((str v).size : Int) 40).toNat = str (v.take 40) := by
  have h : (min ((str v).size : Int) 40).toNat = min v.length 40 := by rw [str_size]; omega
  rw [h]
  apply ByteArray.ext
  apply Array.ext'
  rw [ByteArray.data_extract]
  simp only [Array.toList_extract, str_list, List.extract_eq_take_drop, List.drop_zero, Nat.sub_zero]
  by_cases q : v.length ≤ 40
  · rw [Nat.min_eq_left q, List.take_length, List.take_of_length_le q]
  · rw [Nat.min_eq_right (by omega)]
theorem strD (s : ByteArray) : str s.data.toList = s := by
  apply ByteArray.ext
  simp [str]
theorem numK_ok {K : Int} (h : 0 ≤ K ∧ K ≤ 65535) : okNum (1 + K) = true := by
  unfold okNum
  rw [decide_eq_true (by omega), decide_eq_true (by omega)]
  rfl
theorem getW_none (V : VS) (h : V.C = []) (K : Kz) : getW V K = { V with R := V.R ++ [oneSp K] } := by unfold getW; rw [h]; rfl
theorem getW_C (V : VS) (K : Kz) : (getW V K).C = V.C := by unfold getW; split <;> rfl
theorem okE_bad (n : Int) {s : List UInt8} (h : rightP s = false) : okE n s = false := by unfold okE; rw [h, Bool.and_false]
theorem NV.ran {d : NV} {w0 y y' : World} {x' : VR} {V' : VS} {k nb : Nat} (t : VRan noB w0 d.lim (NI d.lim d.p d.pv d.base) k (nI d.p) d.q d.x nb V' y x' y') : NV.at_ { d with x := x', V := V' } w0 y' := t.at_.re 9
end Go.Proofs.YtgicanpggndbeaaGreat
