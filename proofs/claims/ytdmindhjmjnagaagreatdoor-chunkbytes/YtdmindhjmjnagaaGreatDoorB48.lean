import Derived.Test.YtdmindhjmjnagaaGreatDoorB47
import Derived.Test.YtdmindhjmjnagaaGreatDoorB37
import Derived.Test.YtdmindhjmjnagaaGreatDoorB45
import Derived.Test.YtdmindhjmjnagaaGreatDoorB07
/- How many changes a cut leaves; the pairs of files; what a cut to nothing leaves (mathematics). -/
namespace Go.Proofs.YtdmindhjmjnagaaGreatDoor
set_option linter.unusedVariables false
set_option maxRecDepth 100000
open Go.RowKit

theorem putA_same (l : List Ch) (h : Asc Ch.n l) (c : Ch) (hc : (look Ch.n l c.n).isSome = true) : (putA Ch.n l c).length = l.length := by
  induction l with
  | nil => cases hc
  | cons a r ih =>
    obtain ⟨p1, p2⟩ := List.pairwise_cons.1 h
    unfold putA
    by_cases q : Ch.n a < Ch.n c
    · rw [if_pos q, List.length_cons, List.length_cons, ih p2 (by
        simp only [look] at hc
        rw [if_neg (by omega)] at hc
        exact hc)]
    · rw [if_neg q]
      by_cases e : Ch.n a = Ch.n c
      · rw [if_pos e]
        rfl
      · exfalso
        simp only [look] at hc
        rw [if_neg e, look_low Ch.n (fun b hb => by have := p1 b hb; omega)] at hc
        cases hc
theorem chAll_same (V : VS) (h : Asc Ch.n V.C) (l : List Pa) (hl : ∀ p ∈ l, (look Ch.n V.C p.n).isSome = true) : (chAll V l).C.length = V.C.length := by
  unfold chAll
  induction l generalizing V with
  | nil => rfl
  | cons p r ih =>
    rw [List.foldl_cons, ih (V.change (chgP p)) (putA_asc Ch.n _ h) (fun a ha => by
      show (look Ch.n (putA Ch.n V.C (chgP p)) a.n).isSome = true
      rw [putA_look Ch.n _ _ h]
      split
      · rfl
      · exact hl a (List.mem_cons_of_mem _ ha))]
    exact putA_same _ h _ (by rw [chgP_n]; exact hl p List.mem_cons_self)
theorem cutV_same {V : VS} (h : Asc Ch.n V.C) (ino size : Int) : (cutV V ino size).C.length = V.C.length := by
  unfold cutV
  refine chAll_same { V with R := V.R ++ [chsS ino (size / 32)] } h _ (fun p hp => ?_)
  unfold cutL at hp
  obtain ⟨x, hx, hxp⟩ := List.mem_filterMap.1 hp
  rw [(cutO_n hxp).1]
  unfold lives at hx
  obtain ⟨c, hc, rfl⟩ := List.mem_map.1 hx
  have hcm : c ∈ V.C := (List.mem_filter.1 (List.mem_filter.1 hc).1).1
  have := look_mem Ch.n h hcm
  show (look Ch.n V.C c.n).isSome = true
  rw [this]
  rfl
theorem pN_300 {off n : Nat} (h : n ≤ 300) : pN off n ≤ 11 := by
  unfold pN
  split <;> omega
/-! How long the lists are. -/
theorem change_U (V : VS) (hU : V.U = []) (c : Ch) : (V.change c).U = [] := by
  show keepU V.C V.U _ = []
  rw [hU]
  rfl
theorem chAll_U (V : VS) (hU : V.U = []) (l : List Pa) : (chAll V l).U = [] := by
  unfold chAll
  induction l generalizing V with
  | nil => exact hU
  | cons p r ih => exact ih _ (change_U V hU _)
theorem getW_U (V : VS) (K : Kz) : (getW V K).U = V.U := by unfold getW; split <;> rfl
theorem getW_Rlen (V : VS) (K : Kz) : (getW V K).R.length ≤ V.R.length + 1 := by
  unfold getW
  split
  · omega
  · simp
theorem getG_U (V : VS) (ino : Int) (off : Nat) (data : List UInt8) (pre : List Nat) : (getG V ino off data pre).U = V.U := by
  unfold getG
  induction pre generalizing V with
  | nil => rfl
  | cons a l ih =>
    rw [List.foldl_cons, ih]
    unfold gotF
    split
    · rfl
    · exact getW_U _ _
theorem getG_R (V : VS) (ino : Int) (off : Nat) (data : List UInt8) (pre : List Nat) : (getG V ino off data pre).R.length ≤ V.R.length + pre.length := by
  unfold getG
  induction pre generalizing V with
  | nil => simp
  | cons a l ih =>
    rw [List.foldl_cons, List.length_cons]
    have h := ih (gotF ino V (pcM off data.length a))
    have h2 : (gotF ino V (pcM off data.length a)).R.length ≤ V.R.length + 1 := by
      unfold gotF
      split
      · omega
      · exact getW_Rlen _ _
    omega
theorem writeV_U {V : VS} (hU : V.U = []) (ino : Int) (off : Nat) (data : List UInt8) : (writeV V (plGe []) ino off data).U = [] := by
  unfold writeV
  exact chAll_U _ (by rw [getG_U]; exact hU) _
theorem writeV_R (V : VS) (ino : Int) (off : Nat) (data : List UInt8) : (writeV V (plGe []) ino off data).R.length ≤ V.R.length + pN off data.length := by
  unfold writeV
  rw [chAll_R]
  have := getG_R V ino off data (List.range (pN off data.length))
  rw [List.length_range] at this
  exact this
theorem cutV_U {V : VS} (hU : V.U = []) (ino size : Int) : (cutV V ino size).U = [] := by
  unfold cutV
  exact chAll_U { V with R := V.R ++ [chsS ino (size / 32)] } hU _
theorem cutV_R (V : VS) (ino size : Int) : (cutV V ino size).R.length = V.R.length + 1 := by
  unfold cutV
  rw [chAll_R]
  simp
theorem most_of {V : VS} {k : Nat} (hU : V.U = []) (h1 : V.C.length ≤ k) (h2 : V.R.length ≤ k) : V.most k := ⟨h1, h2, by rw [hU]; exact Nat.zero_le _, fun L hL => by rw [hU] at hL; cases hL⟩
/-! Pairs of files. -/
theorem liveG {C : List Ch} (h : FileOk C) {x : Int} {p : Pa} (he : doneA (look Ch.n C x) none = some p) : ∃ (ino : Int) (pl : Nat), okN ino = true ∧ pl ≤ 4294967295 ∧ x = (keyC ino (pl : Int)).n ∧ vAt C ino (pl : Int) ≠ [] ∧ p = ⟨chunkR ino (pl : Int), chunkR_length _ _, vAt C ino (pl : Int)⟩ := by
  cases hl : look Ch.n C x with
  | none =>
    rw [hl] at he
    cases he
  | some c =>
    rw [hl] at he
    obtain ⟨hm, hn⟩ := look_key Ch.n hl
    obtain ⟨ino, pl, i1, i2, h2, _, h5⟩ := h.ok c hm
    have hpl : 0 ≤ pl ∧ pl ≤ 4294967295 := by unfold okP at i2; simp at i2; omega
    obtain ⟨pn, rfl⟩ := Int.eq_ofNat_of_zero_le hpl.1
    unfold doneA at he
    cases hg : c.g with
    | true =>
      simp only [hg, if_true] at he
      cases he
    | false =>
      simp only [hg, Bool.false_eq_true, if_false] at he
      cases he
      have hx : x = (keyC ino (pn : Int)).n := by rw [← hn]; show (num c.k : Int) = (num (chunkR ino (pn : Int)) : Int); rw [h2]
      have hv : vAt C ino (pn : Int) = c.v := by unfold vAt; rw [← hx, hl]
      refine ⟨ino, pn, i1, by omega, hx, ?_, ?_⟩
      · rw [hv]
        intro e
        have := h5.2 e
        rw [hg] at this
        cases this
      · rw [hv]
        obtain ⟨k, hk, v, g⟩ := c
        dsimp only at h2
        subst h2
        rfl
theorem live_mem {C : List Ch} (h : FileOk C) {p : Pa} (hp : p ∈ lives C allSp) : ∃ (ino : Int) (pl : Nat), okN ino = true ∧ pl ≤ 4294967295 ∧ vAt C ino (pl : Int) ≠ [] ∧ p = ⟨chunkR ino (pl : Int), chunkR_length _ _, vAt C ino (pl : Int)⟩ := by
  have h1 := look_mem Pa.n (lives_asc h.asc allSp) hp
  have h0 : (0 : Int) ≤ p.n := Int.natCast_nonneg _
  rw [live_look h _ h0] at h1
  obtain ⟨ino, pl, a, b, _, c, d⟩ := liveG h h1
  exact ⟨ino, pl, a, b, c, d⟩
/-- What is of other files. -/
def notOf (b : Int) (p : Pa) : Bool := !decide (pIno p.k = b)
theorem look_flt {f : Pa → Bool} : ∀ {l : List Pa}, Asc Pa.n l → ∀ x, look Pa.n (l.filter f) x = (look Pa.n l x).filter f
  | [], _, _ => rfl
  | a :: r, h, x => by
    obtain ⟨p1, p2⟩ := List.pairwise_cons.1 h
    rw [List.filter_cons]
    by_cases e : a.n = x
    · simp only [look]
      rw [if_pos e]
      cases hf : f a with
      | true => simp only [if_true, look]; rw [if_pos e]; simp [Option.filter, hf]
      | false =>
        simp only [Bool.false_eq_true, if_false]
        rw [look_flt p2 x, look_low Pa.n (fun b hb => by have := p1 b hb; omega)]
        simp [Option.filter, hf]
    · simp only [look]
      rw [if_neg e]
      cases hf : f a with
      | true => simp only [if_true, look]; rw [if_neg e, look_flt p2 x]
      | false => simp only [Bool.false_eq_true, if_false]; rw [look_flt p2 x]
theorem flt_asc {f : Pa → Bool} {l : List Pa} (h : Asc Pa.n l) : Asc Pa.n (l.filter f) := List.Pairwise.sublist List.filter_sublist h
theorem key_ino {ino : Int} {pl : Nat} (hi : okN ino = true) (hp : pl ≤ 4294967295) : pIno (chunkR ino (pl : Int)) = ino := by
  have h1 : chunkR ino (pl : Int) = chunkK ino.toNat ((pl : Int)).toNat := by unfold chunkR; rw [hi, okP_nat hp]; rfl
  rw [h1]
  exact (chunk_says hi (okP_nat hp)).1
theorem cut_none {V : VS} (h : FileOk V.C) {ino : Int} (hi : okN ino = true) : lives (cutV V ino 0).C allSp = (lives V.C allSp).filter (notOf ino) := by
  have hC := cut_ok h (ino := ino) (size := 0)
  have hv : ∀ (b : Int) (pl : Nat), okN b = true → pl ≤ 4294967295 → vAt (cutV V ino 0).C b (pl : Int) = if b = ino then [] else vAt V.C b (pl : Int) := fun b pl hb hp => by
    have := cut_vAt h hi (sz := 0) (by omega) hb hp
    rw [show ((0 : Nat) : Int) = 0 from rfl] at this
    rw [this]
    by_cases e : b = ino
    · rw [if_pos ⟨e, by omega⟩, if_pos e, show (staysP 0 (pl : Int)).toNat = 0 by unfold staysP; omega, List.take_zero]
      exact trimmed_zeros 0
    · rw [if_neg (by omega), if_neg e]
  refine asc_ext Pa.n (lives_asc hC.asc _) (flt_asc (lives_asc h.asc _)) fun x => ?_
  by_cases h0 : 0 ≤ x
  · rw [look_flt (lives_asc h.asc _), live_look hC x h0, live_look h x h0]
    cases he : doneA (look Ch.n (cutV V ino 0).C x) none with
    | some p =>
      obtain ⟨b, pl, hb, hp, rfl, hne, rfl⟩ := liveG hC he
      rw [hv b pl hb hp] at hne ⊢
      by_cases e : b = ino
      · rw [if_pos e] at hne
        exact absurd rfl hne
      · rw [if_neg e] at hne
        rw [live_of h hne]
        simp only [if_neg e]
        have hnot : notOf ino ⟨chunkR b (pl : Int), chunkR_length _ _, vAt V.C b (pl : Int)⟩ = true := by
          unfold notOf
          rw [key_ino hb hp, decide_eq_false e]
          rfl
        simp [Option.filter, hnot]
    | none =>
      cases hf : doneA (look Ch.n V.C x) none with
      | none => rfl
      | some p =>
        obtain ⟨b, pl, hb, hp, rfl, hne, rfl⟩ := liveG h hf
        by_cases e : b = ino
        · have hnot : notOf ino ⟨chunkR b (pl : Int), chunkR_length _ _, vAt V.C b (pl : Int)⟩ = false := by
            unfold notOf
            rw [key_ino hb hp, decide_eq_true e]
            rfl
          simp [Option.filter, hnot]
        · have hq := hv b pl hb hp
          rw [if_neg e] at hq
          have := live_of hC (by rw [hq]; exact hne)
          rw [he] at this
          cases this
  · have hn : ∀ l : List Pa, look Pa.n l x = none := fun l => (look_none Pa.n).2 fun a _ e => by
      have : (0 : Int) ≤ (num a.k : Int) := Int.natCast_nonneg _
      have e2 : (num a.k : Int) = x := e
      omega
    rw [hn, hn]
/-- The last byte of what was trimmed is no nought. -/
theorem trim_last {v : List UInt8} (ht : trimmed v = v) (h0 : v ≠ []) : v.length ≤ 32 ∧ v.getD (v.length - 1) 0 ≠ 0 := by
  refine ⟨by rw [← ht]; exact trimmed_length v, fun e => ?_⟩
  have hl : v.length ≤ 32 := by rw [← ht]; exact trimmed_length v
  unfold trimmed Lib.trimRightB at ht
  rw [List.take_of_length_le hl] at ht
  rcases List.eq_nil_or_concat v with q | ⟨a, b, rfl⟩
  · exact h0 q
  · have hb : b = 0 := by
      rw [List.getD_eq_getElem?_getD] at e
      simpa using e
    subst hb
    have hlen := congrArg List.length ht
    rw [List.concat_eq_append, List.reverse_append] at hlen
    simp only [List.reverse_singleton, List.cons_append, List.nil_append] at hlen
    rw [List.dropWhile_cons] at hlen
    simp only [beq_self_eq_true, if_true, List.length_reverse, List.length_append, List.length_cons, List.length_nil] at hlen
    have := (List.dropWhile_sublist (fun x : UInt8 => x == 0) (l := a.reverse)).length_le
    simp at this
    omega
end Go.Proofs.YtdmindhjmjnagaaGreatDoor
/- Masks of ones, beside RfM's. -/
namespace Go.Proofs.YtdmindhjmjnagaaGreatDoor
set_option linter.unusedVariables false
set_option maxRecDepth 100000
theorem and1023 (n : Int) : bits .and .i64 n 1023 = n % 1024 := by
  show IntKind.i64.wrap ((BitVec.ofInt 64 n &&& BitVec.ofInt 64 ((1023 : Nat) : Int)).toNat : Nat) = n % 1024
  rw [and_ones n 1023 10 (by decide), IntKind.wrap_i64]
  omega
theorem and511 (n : Int) : bits .and .i64 n 511 = n % 512 := by
  show IntKind.i64.wrap ((BitVec.ofInt 64 n &&& BitVec.ofInt 64 ((511 : Nat) : Int)).toNat : Nat) = n % 512
  rw [and_ones n 511 9 (by decide), IntKind.wrap_i64]
  omega
theorem and127 (n : Int) : bits .and .i64 n 127 = n % 128 := by
  show IntKind.i64.wrap ((BitVec.ofInt 64 n &&& BitVec.ofInt 64 ((127 : Nat) : Int)).toNat : Nat) = n % 128
  rw [and_ones n 127 7 (by decide), IntKind.wrap_i64]
  omega
theorem and20 (n : Int) : bits .and .i64 n 1048575 = n % 1048576 := by
  show IntKind.i64.wrap ((BitVec.ofInt 64 n &&& BitVec.ofInt 64 ((1048575 : Nat) : Int)).toNat : Nat) = n % 1048576
  rw [and_ones n 1048575 20 (by decide), IntKind.wrap_i64]
  omega
end Go.Proofs.YtdmindhjmjnagaaGreatDoor
/- What ChunkApart carries: a view with files, what is listed of it, what a cut leaves. -/
namespace Go.Proofs.YtdmindhjmjnagaaGreatDoor
set_option linter.unusedVariables false
set_option maxRecDepth 100000
open Go.RowKit

theorem and3 (n : Int) : bits .and .i64 n 3 = n % 4 := by
  show IntKind.i64.wrap ((BitVec.ofInt 64 n &&& BitVec.ofInt 64 ((3 : Nat) : Int)).toNat : Nat) = n % 4
  rw [and_ones n 3 2 (by decide), IntKind.wrap_i64]
  omega
theorem ok69 {b : Int} (h : 0 ≤ b ∧ b ≤ 3) : okNum (6 + b) = true ∧ okN (6 + b) = true := by
  refine ⟨?_, okN_of (by omega) (by omega)⟩
  unfold okNum
  rw [decide_eq_true (by omega), decide_eq_true (by omega)]
  rfl
theorem live_facts {C : List Ch} (h : FileOk C) {p : Pa} (hp : p ∈ lives C allSp) : right p.k = true ∧ pKind p.k = 3 ∧ 1 ≤ p.v.length ∧ p.v.length ≤ 32 ∧ p.v.getD (p.v.length - 1) 0 ≠ 0 := by
  obtain ⟨ino, pl, h1, h2, h3, rfl⟩ := live_mem h hp
  have hP := okP_nat h2
  have e : chunkR ino (pl : Int) = chunkK ino.toNat ((pl : Int)).toNat := by unfold chunkR; rw [h1, hP]; rfl
  obtain ⟨q1, q2⟩ := trim_last (vAt_trimmed h ino (pl : Int)) h3
  refine ⟨(chunk_right h1 hP).1, ?_, List.length_pos_iff.2 h3, q1, q2⟩
  show pKind (chunkR ino (pl : Int)) = 3
  rw [e]
  exact (chunk_says h1 hP).2.1
theorem flt_at {f : Pa → Bool} {l : List Pa} {j : Nat} (hj : j < l.length) (hf : f l[j] = true) : ∃ h : ((l.take j).filter f).length < (l.filter f).length, (l.filter f)[((l.take j).filter f).length] = l[j] ∧ ((l.take (j + 1)).filter f).length = ((l.take j).filter f).length + 1 := by
  have e : l.filter f = (l.take j).filter f ++ (l[j] :: (l.drop (j + 1)).filter f) := by
    conv => lhs; rw [← List.take_append_drop j l, List.drop_eq_getElem_cons hj]
    rw [List.filter_append, List.filter_cons, if_pos hf]
  have h1 : ((l.take j).filter f).length < (l.filter f).length := by rw [e]; simp
  refine ⟨h1, ?_, ?_⟩
  · apply Option.some.inj
    rw [← List.getElem?_eq_getElem h1, e, List.getElem?_append_right (Nat.le_refl _), Nat.sub_self]
    rfl
  · rw [List.take_succ_eq_append_getElem hj, List.filter_append, List.length_append, List.filter_cons, if_pos hf]
    rfl
theorem flt_skip {f : Pa → Bool} {l : List Pa} {j : Nat} (hj : j < l.length) (hf : f l[j] = false) : ((l.take (j + 1)).filter f).length = ((l.take j).filter f).length := by
  rw [List.take_succ_eq_append_getElem hj, List.filter_append, List.length_append, List.filter_cons, if_neg (by rw [hf]; decide)]
  rfl
/-- A view with files, after m writes. -/
structure ApC (w : World) (q m : Nat) (y : World) : Prop where
  ex : ∃ d : NV, d.q = q ∧ d.at_ w y ∧ FileOk d.V.C ∧ d.V.U = [] ∧ d.V.C.length ≤ 11 * m ∧ d.V.R.length ≤ 11 * m ∧ d.x.n ≤ 500
theorem chAll_plain (V W : VS) (hC : V.C = W.C) (hU : V.U = W.U) (l : List Pa) : (chAll V l).C = (chAll W l).C := by
  unfold chAll
  induction l generalizing V W with
  | nil => exact hC
  | cons p r ih =>
    refine ih _ _ ?_ ?_
    · show putA Ch.n V.C _ = putA Ch.n W.C _
      rw [hC]
    · show keepU V.C V.U _ = keepU W.C W.U _
      rw [hU, hC]
theorem cutV_plain (V : VS) (R : List Sp) (ino size : Int) : (cutV { V with R := R } ino size).C = (cutV V ino size).C := by
  unfold cutV
  exact chAll_plain { V with R := R ++ [chsS ino (size / 32)] } { V with R := V.R ++ [chsS ino (size / 32)] } rfl rfl _
section
variable {w y y' : World} {q m : Nat}
theorem ApC.bel (h : ApC w q m y) : Below w.heap.size w y := by
  obtain ⟨d, -, h1, -⟩ := h.ex
  exact h1.bel
theorem ApC.called (h : ApC w q m y) (b : Below y.heap.size y y') : ApC w q m y' := by
  obtain ⟨d, h1, h2, h3⟩ := h.ex
  exact ⟨d, h1, NV.called h2 b, h3⟩
theorem ApC.more (h : ApC w q m y) {n : Nat} (hn : m ≤ n) : ApC w q n y := by
  obtain ⟨d, h1, h2, h3, h4, h5, h6, h7⟩ := h.ex
  exact ⟨d, h1, h2, h3, h4, by omega, by omega, h7⟩
theorem ApC.write (h : ApC w q m y) (hm : m < 40) {ino : Int} (h1 : okNum ino = true) (h2 : okN ino = true) (off : Nat) (s : List UInt8) (ho : off ≤ 1023) (hs : s.length ≤ 300) :
    Calls Tryz.prog 12 #[.pointer (some ⟨q, 0, none⟩), .int .i64 ino, .int .i64 (off : Int), .string (str s)] y fun e y' => e = .returned (.int .i64 0) ∧ ApC w q (m + 1) y' := by
  obtain ⟨d, rfl, h3, h4, h5, h6, h7, h8⟩ := h.ex
  have hod : off + s.length ≤ 1048576 := by omega
  have hp := pN_300 (off := off) hs
  refine (nvWrite h3 ino off s h1 (by omega) hod).mono fun e z r => ⟨r.1, ?_⟩
  obtain ⟨x', T⟩ := r.2
  have hc := writeV_len d.V (plGe []) ino off s
  have hr := writeV_R d.V ino off s
  have hU := writeV_U h5 ino off s
  have A := VAt.tight (NV.ran T) 500 (most_of hU (by show (writeV d.V (plGe []) ino off s).C.length ≤ 500; omega) (by show (writeV d.V (plGe []) ino off s).R.length ≤ 500; omega))
  exact ⟨{ d with x := { x' with n := 500 }, V := writeV d.V (plGe []) ino off s }, rfl, A, write_ok h4 h2 hod, hU, by show (writeV d.V (plGe []) ino off s).C.length ≤ _; omega, by show (writeV d.V (plGe []) ino off s).R.length ≤ _; omega, Nat.le_refl _⟩
theorem ApC.start {d : NV} (h : d.at_ w y) (hq : q = d.q) (hV : d.V = vs0) (hn : d.x.n = 0) : ApC w q 0 y := by
  refine ⟨⟨d, hq.symm, h, by rw [hV]; exact FileOk.nil, by rw [hV]; rfl, by rw [hV]; exact Nat.zero_le _, by rw [hV]; exact Nat.zero_le _, by omega⟩⟩
/-- The three that come behind: all of it, a cut to nothing, all of it. -/
theorem ApC.last (h : ApC w q m y) (hm : m ≤ 40) :
    ∃ C, FileOk C ∧ (lives C allSp).length ≤ 440 ∧ Calls Tryz.prog 22 #[.pointer (some ⟨q, 0, none⟩), spv allSp] y fun e y1 => ∃ ad cap, e = .returned (.tuple #[.slice ad (lives C allSp).length cap, .int .i64 0]) ∧ Own encP 62 y1 w.heap.size (.slice ad (lives C allSp).length cap) (lives C allSp) ∧ Below w.heap.size w y1
      ∧ ∀ y2, Below y1.heap.size y1 y2 → Calls Tryz.prog 14 #[.pointer (some ⟨q, 0, none⟩), .int .i64 5, .int .i64 0] y2 fun e y3 => e = .returned (.int .i64 0) ∧ Below w.heap.size w y3
      ∧ Calls Tryz.prog 22 #[.pointer (some ⟨q, 0, none⟩), spv allSp] y3 fun e y4 => ∃ ad2 cap2, e = .returned (.tuple #[.slice ad2 ((lives C allSp).filter (notOf 5)).length cap2, .int .i64 0])
        ∧ Own encP 62 y4 w.heap.size (.slice ad2 ((lives C allSp).filter (notOf 5)).length cap2) ((lives C allSp).filter (notOf 5)) ∧ Below w.heap.size w y4 ∧ Own encP 62 y4 w.heap.size (.slice ad (lives C allSp).length cap) (lives C allSp) := by
  obtain ⟨d, rfl, h3, h4, h5, h6, h7, h8⟩ := h.ex
  have hll := lives_len d.V.C allSp
  refine ⟨d.V.C, h4, by omega, (nvScan h3 (by omega)).mono fun e y1 r => ?_⟩
  obtain ⟨ad, cap, r1, r2, T⟩ := r
  have hwy : w.heap.size ≤ y.heap.size := h3.bel.size
  refine ⟨ad, cap, r1, r2.lower hwy, T.at_.bel, fun y2 b2 => ?_⟩
  have A1 : NV.at_ { d with x := { d.x with n := d.x.n + 1 }, V := { d.V with R := d.V.R ++ [allSp] } } w y2 := NV.called (NV.ran T) b2
  have hx : ∀ i, d.x.own d.q i → i < y.heap.size := fun i hi => NV.lt h3 (.inl hi)
  refine (nvCut A1 5 0 rfl (by omega) (by show d.x.n + 1 + 4 + 4 * d.V.C.length ≤ 5000; omega)).mono fun e y3 r => ⟨r.1, ?_⟩
  obtain ⟨x', T3⟩ := r.2
  have A3 := NV.ran T3
  have hcl : (cutV { d.V with R := d.V.R ++ [allSp] } 5 0).C = (cutV d.V 5 0).C := cutV_plain _ _ _ _
  have o2 : Own encP 62 y2 y.heap.size (.slice ad (lives d.V.C allSp).length cap) (lives d.V.C allSp) := r2.below b2
  have o3 : Own encP 62 y3 y.heap.size (.slice ad (lives d.V.C allSp).length cap) (lives d.V.C allSp) := o2.same fun g hg => T3.kept (o2.lt g hg).2 (fun e => by have h1 := hx g e; have := (o2.lt g hg).1; omega)
  have hx3 : ∀ i, x'.own d.q i → i < y.heap.size ∨ y2.heap.size ≤ i := fun i hi => (T3.own i hi).imp (hx i) id
  refine ⟨A3.bel, (nvScan A3 (by have h1 : x'.n ≤ d.x.n + 1 + 4 + 4 * d.V.C.length := T3.n; show x'.n ≤ 5000; omega)).mono fun e y4 r => ?_⟩
  obtain ⟨ad2, cap2, r4, r5, T4⟩ := r
  have el : lives (cutV { d.V with R := d.V.R ++ [allSp] } 5 0).C allSp = (lives d.V.C allSp).filter (notOf 5) := by
    rw [hcl]
    exact cut_none h4 rfl
  have r4' : e = .returned (.tuple #[.slice ad2 (lives (cutV { d.V with R := d.V.R ++ [allSp] } 5 0).C allSp).length cap2, .int .i64 0]) := r4
  have r5' : Own encP 62 y4 y3.heap.size (.slice ad2 (lives (cutV { d.V with R := d.V.R ++ [allSp] } 5 0).C allSp).length cap2) (lives (cutV { d.V with R := d.V.R ++ [allSp] } 5 0).C allSp) := r5
  rw [el] at r4' r5'
  refine ⟨ad2, cap2, r4', r5'.lower A3.bel.size, T4.at_.bel, ?_⟩
  refine Own.lower (o3.same fun g hg => T4.kept (o3.lt g hg).2 (fun e => ?_)) hwy
  rcases hx3 g e with q1 | q1
  · have := (o3.lt g hg).1
    omega
  · have := (o2.lt g hg).2
    omega
end
end Go.Proofs.YtdmindhjmjnagaaGreatDoor
/- What comes in to stage 13's statements: steps. -/
namespace Go.Proofs.YtdmindhjmjnagaaGreatDoor
set_option linter.unusedVariables false
set_option maxRecDepth 100000
open Go.ChangeShapes Go.WideShapes Go.ChangeAt Go.RowKit

/-- A step of stage 13. -/
structure Co where
  kind : Int
  ino : Int
  off : Int
  n : Int
  s : List UInt8
  hi : -9223372036854775808 ≤ ino ∧ ino ≤ 9223372036854775807
  ho : -9223372036854775808 ≤ off ∧ off ≤ 9223372036854775807
  hn : -9223372036854775808 ≤ n ∧ n ≤ 9223372036854775807
def cocd (o : Co) : List Value := [.int .i64 o.kind, .int .i64 o.ino, .int .i64 o.off, .int .i64 o.n, .string (str o.s)]
def encCo : Enc Co 5 := ⟨cocd, fun _ => rfl, fun o v hv => by
  simp only [cocd, List.mem_cons, List.not_mem_nil, or_false] at hv
  rcases hv with rfl | rfl | rfl | rfl | rfl <;> rfl⟩
section
variable {w : World} {g off : Nat} {o : Co}
theorem range_cKind (h : w.rangeAt g off (encCo.c o)) : w.cell? ⟨g, off, none⟩ = some (.int .i64 o.kind) := by
  have := h 0 (.int .i64 o.kind) rfl
  simpa using this
theorem range_cIno (h : w.rangeAt g off (encCo.c o)) : w.cell? ⟨g, off + 1, none⟩ = some (.int .i64 o.ino) := h 1 (.int .i64 o.ino) rfl
theorem range_cOff (h : w.rangeAt g off (encCo.c o)) : w.cell? ⟨g, off + 2, none⟩ = some (.int .i64 o.off) := h 2 (.int .i64 o.off) rfl
theorem range_cN (h : w.rangeAt g off (encCo.c o)) : w.cell? ⟨g, off + 3, none⟩ = some (.int .i64 o.n) := h 3 (.int .i64 o.n) rfl
theorem range_cStr (h : w.rangeAt g off (encCo.c o)) : w.cell? ⟨g, off + 4, none⟩ = some (.string (str o.s)) := h 4 (.string (str o.s)) rfl
end
theorem open_cops {H : Type} {enc : TypeId × Value → H} {W : World} {base : Nat} {held : Bool} {a : Option Addr} {len cap : Nat} {d : DataW H} {p : List MemPlace}
    (h : DataW.Trod enc Tryz.prog W base (fun _ => true) held 22 (.slice a len cap) d p) : ∃ l : List Co, Sl encCo W (.slice a len cap) l := by
  refine open_els encCo 22 29 Tryz.underlying22 (by kernel_rfl) (by decide) (fun fuel z cs hf hl => ?_) h
  obtain ⟨xs, n', _, _, _, hlen, hf'⟩ := DataW.trod_struct Tryz.underlying29 hf
  match xs, hlen with
  | [y0, y1, y2, y3, y4], _ =>
    have ki : Tryz.prog.cellsOf 3 = 1 := by kernel_rfl
    have k1 : Tryz.prog.cellsOf 9 = 1 := by kernel_rfl
    have f0 := hf' 0 _ rfl
    have f1 := hf' 1 _ rfl
    have f2 := hf' 2 _ rfl
    have f3 := hf' 3 _ rfl
    have f4 := hf' 4 _ rfl
    simp at f0 f1 f2 f3 f4
    rw [ki] at f0 f1 f2 f3
    rw [k1] at f4
    obtain ⟨kd, e0, _, _⟩ := DataW.trod_int Tryz.underlying3 f0
    obtain ⟨ii, e1, _, w1⟩ := DataW.trod_int Tryz.underlying3 f1
    obtain ⟨oo, e2, _, w2⟩ := DataW.trod_int Tryz.underlying3 f2
    obtain ⟨nn, e3, _, w3⟩ := DataW.trod_int Tryz.underlying3 f3
    obtain ⟨s, e4, _, _⟩ := DataW.trod_string Tryz.underlying9 f4
    have b1 := bounds_i64 w1
    have b2 := bounds_i64 w2
    have b3 := bounds_i64 w3
    refine ⟨⟨kd, ii, oo, nn, s.data.toList, by omega, by omega, by omega⟩, ?_⟩
    show cs = [.int .i64 kd, .int .i64 ii, .int .i64 oo, .int .i64 nn, .string (str s.data.toList)]
    rw [str_data]
    rw [List.take_of_length_le (l := cs.drop 4) (by simp; omega)] at e4
    have d4 : cs.drop 4 = (cs.drop 3).drop 1 := by rw [List.drop_drop]
    have d3 : cs.drop 3 = (cs.drop 2).drop 1 := by rw [List.drop_drop]
    have d2 : cs.drop 2 = cs.tail.drop 1 := by rw [← List.drop_one, List.drop_drop]
    have d1 : cs.tail = cs.drop 1 := List.drop_one.symm
    show cs = .int .i64 kd :: .int .i64 ii :: .int .i64 oo :: .int .i64 nn :: [.string s]
    rw [← e4]
    show cs = .int .i64 kd :: .int .i64 ii :: .int .i64 oo :: ([.int .i64 nn] ++ cs.drop 4)
    rw [← e3, d4, List.take_append_drop]
    show cs = .int .i64 kd :: .int .i64 ii :: ([.int .i64 oo] ++ cs.drop 3)
    rw [← e2, d3, List.take_append_drop]
    show cs = .int .i64 kd :: ([.int .i64 ii] ++ cs.drop 2)
    rw [← e1, d2, List.take_append_drop]
    show cs = [.int .i64 kd] ++ cs.tail
    rw [← e0, d1, List.take_append_drop]
end Go.Proofs.YtdmindhjmjnagaaGreatDoor
