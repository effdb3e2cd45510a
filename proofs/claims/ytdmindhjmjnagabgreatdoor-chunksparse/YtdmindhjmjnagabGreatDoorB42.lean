import Derived.Test.YtdmindhjmjnagabGreatDoorB41
/- A file as its bytes (mathematics): what Read tells, what Cut leaves. -/
namespace Go.Proofs.YtdmindhjmjnagabGreatDoor
set_option linter.unusedVariables false
set_option maxRecDepth 100000
open Go.RowKit

theorem valL_lives {C : List Ch} (h : FileOk C) (s : Sp) (ino pl : Int) : valL (lives C s) (keyC ino pl) = if s.inb (keyC ino pl).n then vAt C ino pl else [] := by
  unfold valL lives vAt
  rw [look_lives (inL_asc h.asc s), look_filter]
  cases hs : s.inb (keyC ino pl).n with
  | false => rfl
  | true =>
    simp only [if_true]
    cases hl : look Ch.n C (keyC ino pl).n with
    | none => rfl
    | some c =>
      unfold doneA
      cases hg : c.g with
      | false =>
        simp only [hg, Bool.false_eq_true, if_false]
        rfl
      | true =>
        obtain ⟨_, _, _, _, _, _, h3⟩ := h.ok c (look_key Ch.n hl).1
        simp only [hg, if_true]
        exact (h3.1 hg).symm
theorem take_drop_map (F : List UInt8) (a m : Nat) (h : a + m ≤ F.length) : (F.drop a).take m = (List.range m).map fun j => F.getD (a + j) 0 := by
  apply List.ext_getElem
  · simp; omega
  · intro i h1 h2
    simp at h1 h2 ⊢
    rw [List.getElem?_eq_getElem (by omega)]
    rfl
theorem read_bytes {C : List Ch} (h : FileOk C) {ino : Int} (hi : okN ino = true) {off n : Nat} (hon : off + n ≤ 1048576) : readB C ino off n = (List.range n).map fun j => fB C ino (off + j) := by
  rcases Nat.eq_zero_or_pos n with rfl | h0
  · exact readP_zero _ _ _
  unfold readB readP
  have hk : ∀ k, k ≤ pN off n → readG (lives C (betS ino ((off / 32 : Nat) : Int) (((off + n - 1) / 32 : Nat) : Int))) ino off n (List.range k) = (List.range (min (pIx off k) n)).map fun j => fB C ino (off + j) := by
    intro k
    induction k with
    | zero =>
      intro _
      rw [pIx_zero, Nat.zero_min]
      rfl
    | succ k ih =>
      intro hk
      have hkn : k < pN off n := hk
      have hix := pIx_lt.2 hkn
      have hnx := pIx_next hkn
      have hpp := pIx_place off k
      have hlt := (pcK_ok hkn).2
      have h32 : pTt off n k ≤ 32 := Nat.min_le_right _ _
      have hfr : pFr off k = (off + pIx off k) % 32 := rfl
      have hN : pN off n = (off + n - 1) / 32 - off / 32 + 1 := if_neg (by omega)
      rw [List.range_succ, readG_snoc, ih (by omega), pcM_at hkn, Nat.min_eq_left (by omega), ← hnx, List.range_add, List.map_append, List.map_map]
      congr 1
      have hv : valL (lives C (betS ino ((off / 32 : Nat) : Int) (((off + n - 1) / 32 : Nat) : Int))) (keyC ino ((off / 32 + k : Nat) : Int)) = vAt C ino ((off / 32 + k : Nat) : Int) := by
        rw [valL_lives h, betS_in hi hi (okP_nat (by omega)) (by omega) (okP_nat (by omega)), if_pos (by simp; omega)]
      have hp : partP (lives C (betS ino ((off / 32 : Nat) : Int) (((off + n - 1) / 32 : Nat) : Int))) ino (pcK off n k) = ((cB C ino ((off / 32 + k : Nat) : Int)).drop (pFr off k)).take (pTt off n k - pFr off k) := by
        unfold cB
        rw [← hv]
        have a3 : ((pcK off n k).tt - (pcK off n k).fr).toNat = pTt off n k - pFr off k := by
          show ((pTt off n k : Int) - (pFr off k : Int)).toNat = _
          omega
        unfold partP
        rw [a3]
        rfl
      rw [hp, take_drop_map _ _ _ (by rw [cB_length]; omega)]
      refine List.map_congr_left fun j hj => ?_
      rw [List.mem_range] at hj
      show _ = fB C ino (off + (pIx off k + j))
      unfold fB
      rw [show (off + (pIx off k + j)) / 32 = off / 32 + k by omega, show (off + (pIx off k + j)) % 32 = pFr off k + j by omega]
  have hfin := hk (pN off n) (Nat.le_refl _)
  have hge : n ≤ pIx off (pN off n) := Nat.not_lt.1 (fun e => Nat.lt_irrefl _ (pIx_lt.1 e))
  rw [Nat.min_eq_right hge] at hfin
  exact hfin
/-! Cut. -/
theorem look_find (l : List Pa) (x : Int) : look Pa.n l x = l.find? (fun p => decide (p.n = x)) := by
  induction l with
  | nil => rfl
  | cons a r ih =>
    rw [List.find?_cons]
    simp only [look]
    by_cases e : a.n = x
    · rw [if_pos e, decide_eq_true e]
    · rw [if_neg e, decide_eq_false e, ih]
theorem cutO_n {size : Int} {p p' : Pa} (h : cutO size p = some p') : p'.n = p.n ∧ p'.k = p.k := by
  unfold cutO at h
  split at h
  · split at h
    · cases h
      exact ⟨rfl, rfl⟩
    · cases h
  · cases h
theorem cutL_find (size : Int) (x : Int) : ∀ {L : List Pa}, Asc Pa.n L → (cutL size L).find? (fun p => decide (p.n = x)) = (L.find? (fun p => decide (p.n = x))).bind (cutO size)
  | [], _ => rfl
  | p :: r, h => by
    obtain ⟨h1, h2⟩ := List.pairwise_cons.1 h
    have ih := cutL_find size x h2
    have hr : p.n = x → r.find? (fun p => decide (p.n = x)) = none := fun e => List.find?_eq_none.2 fun b hb => by
      have := h1 b hb
      simp
      omega
    rw [List.find?_cons]
    unfold cutL at ih ⊢
    cases hc : cutO size p with
    | none =>
      rw [List.filterMap_cons_none hc, ih]
      by_cases e : p.n = x
      · rw [decide_eq_true e, hr e]
        exact hc.symm
      · rw [decide_eq_false e]
    | some p' =>
      rw [List.filterMap_cons_some hc, List.find?_cons, (cutO_n hc).1, ih]
      by_cases e : p.n = x
      · rw [decide_eq_true e]
        exact hc.symm
      · rw [decide_eq_false e]
theorem cutL_apart (size : Int) {L : List Pa} (h : Asc Pa.n L) : (cutL size L).Pairwise fun a b => a.n ≠ b.n := by
  unfold cutL
  refine List.Pairwise.filterMap _ (fun a a' hab b hb b' hb' => ?_) h
  rw [(cutO_n hb).1, (cutO_n hb').1]
  omega
theorem drop_zeros (k : Nat) : List.dropWhile (fun x : UInt8 => x == 0) (List.replicate k 0) = [] := by
  induction k with
  | zero => rfl
  | succ k ih => rw [List.replicate_succ, List.dropWhile_cons]; simp
theorem trimmed_zeros (k : Nat) : trimmed (List.replicate k 0) = [] := by
  unfold trimmed Lib.trimRightB
  rw [List.take_replicate, List.reverse_replicate]
  have := drop_zeros (min 32 k)
  rw [this]
  rfl
theorem full_nil : fullP [] = List.replicate 32 0 := rfl
theorem cut_vAt {V : VS} (h : FileOk V.C) {ino : Int} (hi : okN ino = true) {sz : Nat} (hsz : sz ≤ 1048576) {b : Int} (hb : okN b = true) {pl : Nat} (hp : pl ≤ 4294967295) :
    vAt (cutV V ino (sz : Int)).C b (pl : Int) = if b = ino ∧ sz / 32 ≤ pl then trimmed ((cB V.C b (pl : Int)).take (staysP (sz : Int) (pl : Int)).toNat) else vAt V.C b (pl : Int) := by
  have hdiv : (sz : Int) / 32 = ((sz / 32 : Nat) : Int) := by omega
  have hL := lives_asc h.asc (chsS ino ((sz : Int) / 32))
  unfold cutV
  rw [chAll_vAt { V with R := V.R ++ [chsS ino ((sz : Int) / 32)] } h.asc _ (cutL_apart _ hL), cutL_find _ _ hL, ← look_find]
  have hlook : look Pa.n (lives V.C (chsS ino ((sz : Int) / 32))) (keyC b (pl : Int)).n = doneA (if (chsS ino ((sz : Int) / 32)).inb (keyC b (pl : Int)).n then look Ch.n V.C (keyC b (pl : Int)).n else none) none := by
    unfold lives
    rw [look_lives (inL_asc h.asc _), look_filter]
  have hin : (chsS ino ((sz : Int) / 32)).inb (keyC b (pl : Int)).n = decide (b = ino ∧ sz / 32 ≤ pl) := by
    rw [hdiv, chsS_in hi hb (okP_nat (by omega)) (okP_nat hp), Bool.eq_iff_iff]
    simp
    omega
  rw [hlook, hin]
  show (match (doneA _ none).bind (cutO (sz : Int)) with
    | some p => p.v
    | none => vAt V.C b (pl : Int)) = _
  by_cases hc : b = ino ∧ sz / 32 ≤ pl
  · rw [if_pos hc, decide_eq_true hc, if_pos rfl]
    cases hl : look Ch.n V.C (keyC b (pl : Int)).n with
    | none =>
      have hv : vAt V.C b (pl : Int) = [] := by unfold vAt; rw [hl]
      have hcb : cB V.C b (pl : Int) = List.replicate 32 0 := by unfold cB; rw [hv, full_nil]
      rw [hcb, List.take_replicate, trimmed_zeros]
      exact hv
    | some c =>
      obtain ⟨hcm, hcn⟩ := look_key Ch.n hl
      obtain ⟨i2, p2, k1, k2, k3, k4, k5⟩ := h.ok c hcm
      have hv : vAt V.C b (pl : Int) = c.v := by unfold vAt; rw [hl]
      have hcn2 : (keyC i2 p2).n = (keyC b (pl : Int)).n := by rw [← hcn]; show (num (chunkR i2 p2) : Int) = (num c.k : Int); rw [k3]
      obtain ⟨rfl, rfl⟩ := (keyC_n k1 hb k2 (okP_nat hp)).1 hcn2
      unfold doneA
      cases hg : c.g with
      | true =>
        have hv0 := k5.1 hg
        have hcb : cB V.C i2 (pl : Int) = List.replicate 32 0 := by unfold cB; rw [hv, hv0, full_nil]
        rw [hcb, List.take_replicate, trimmed_zeros]
        simp only [hg, if_true]
        show vAt V.C i2 (pl : Int) = []
        rw [hv, hv0]
      | false =>
        have hcr := chunk_right k1 k2
        have hpp : pPlace c.k = (pl : Int) := by
          have h1 : chunkR i2 (pl : Int) = chunkK i2.toNat ((pl : Int)).toNat := by unfold chunkR; rw [k1, k2]; rfl
          rw [k3, h1]
          exact (chunk_says k1 k2).2.2
        have hcu : cutO (sz : Int) c.pa = if trimmed ((fullP c.v).take (staysP (sz : Int) (pl : Int)).toNat) = [] ∨ trimmed ((fullP c.v).take (staysP (sz : Int) (pl : Int)).toNat) ≠ c.v then some ⟨c.k, c.h, trimmed ((fullP c.v).take (staysP (sz : Int) (pl : Int)).toNat)⟩ else none := by
          unfold cutO
          rw [if_pos (show right c.pa.k = true by show right c.k = true; rw [k3]; exact hcr.1), show pPlace c.pa.k = (pl : Int) from hpp]
          rfl
        have hcb : cB V.C i2 (pl : Int) = fullP c.v := by unfold cB; rw [hv]
        rw [hcb]
        simp only [hg, Bool.false_eq_true, if_false]
        show (match (some c.pa).bind (cutO (sz : Int)) with
          | some p => p.v
          | none => vAt V.C i2 (pl : Int)) = _
        rw [Option.bind_some, hcu]
        split
        · rename_i p hp2
          split at hp2
          · cases hp2
            rfl
          · cases hp2
        · rename_i hp2
          split at hp2
          · cases hp2
          · rename_i hno
            rw [hv]
            exact (Decidable.not_not.1 (fun e => hno (.inr e))).symm
  · rw [if_neg hc, decide_eq_false hc]
    rfl
theorem cut_fB {V : VS} (h : FileOk V.C) {ino : Int} (hi : okN ino = true) {sz : Nat} (hsz : sz ≤ 1048576) {b : Int} (hb : okN b = true) (i : Nat) (hI : i ≤ 4000000) :
    fB (cutV V ino (sz : Int)).C b i = if b = ino ∧ sz ≤ i then 0 else fB V.C b i := by
  unfold fB
  rw [show cB (cutV V ino (sz : Int)).C b ((i / 32 : Nat) : Int) = fullP (vAt (cutV V ino (sz : Int)).C b ((i / 32 : Nat) : Int)) from rfl, cut_vAt h hi hsz hb (by omega)]
  by_cases hc : b = ino ∧ sz / 32 ≤ i / 32
  · rw [if_pos hc]
    obtain ⟨rfl, h1⟩ := hc
    have hst : (staysP (sz : Int) ((i / 32 : Nat) : Int)).toNat = min (sz - i / 32 * 32) 32 := by unfold staysP; omega
    rw [hst]
    have hl := cB_length V.C b ((i / 32 : Nat) : Int)
    generalize cB V.C b ((i / 32 : Nat) : Int) = F at *
    have hT : (F.take (min (sz - i / 32 * 32) 32)).length = min (sz - i / 32 * 32) 32 := by rw [List.length_take, hl]; omega
    rw [← (chunk_is (F.take (min (sz - i / 32 * 32) 32)) (by omega)).fs, fullP, List.take_of_length_le (by omega), hT]
    simp only [List.getD_eq_getElem?_getD]
    by_cases hin : sz ≤ i
    · rw [if_pos (by simp [hin]), List.getElem?_append_right (by omega), List.getElem?_replicate]
      split <;> rfl
    · rw [if_neg (by omega), List.getElem?_append_left (by omega), List.getElem?_take_of_lt (by omega)]
  · rw [if_neg hc, if_neg (by omega)]
    rfl
theorem cut_ok {V : VS} (h : FileOk V.C) {ino size : Int} : FileOk (cutV V ino size).C := by
  unfold cutV
  refine chAll_ok { V with R := V.R ++ [chsS ino (size / 32)] } h _ (fun p hp => ?_)
  unfold cutL at hp
  obtain ⟨x, hx, hxp⟩ := List.mem_filterMap.1 hp
  have hk := (cutO_n hxp).2
  unfold lives at hx
  obtain ⟨c, hc, rfl⟩ := List.mem_map.1 hx
  have hcm : c ∈ V.C := (List.mem_filter.1 (List.mem_filter.1 hc).1).1
  obtain ⟨i2, p2, k1, k2, k3, -, -⟩ := h.ok c hcm
  refine ⟨i2, p2, k1, k2, hk.trans k3, ?_⟩
  unfold cutO at hxp
  split at hxp
  · split at hxp
    · cases hxp
      exact trimmed_twice _
    · cases hxp
  · cases hxp
end Go.Proofs.YtdmindhjmjnagabGreatDoor
/- Files with the same bytes have the same pairs (mathematics); all that stands in a view over nothing. -/
namespace Go.Proofs.YtdmindhjmjnagabGreatDoor
set_option linter.unusedVariables false
set_option maxRecDepth 100000
open Go.RowKit

/-- All keys. -/
def allSp : Sp := ⟨zs 24, zs 24, true, rfl, rfl⟩
theorem allSp_in (x : Int) (h : 0 ≤ x) : allSp.inb x = true := by
  have h0 : num (zs 24) = 0 := by kernel_rfl
  unfold Sp.inb allSp
  simp [h0, h]
theorem built_allSp : Tryz.prog.built 33 [(2, .bool true)] = some (sc allSp.F allSp.T allSp.e).toArray := by
  rw [Tryz.span_built, fill_put (off := 48) (size := 1) rfl rfl (by simp [sc, bc_length, zs_length]), sc_E _ _ _ _ (zs_length _) (zs_length _)]
  rfl
theorem build_allSp {ops : Array Oper} {rest : List Oper} {o : Oper} {a : Act} {w : World} {Q : Exit → Act → World → Prop} (hg : o.guard = none) (z : Operand) (ho : o.op = .build 33 #[(2, z)]) (hz : a.eval z = .bool true)
    (h : wpList Tryz.prog ops Q rest (a.put o.dst (spv allSp)) w) : wpList Tryz.prog ops Q (o :: rest) a w :=
  build_any hg _ ho [(2, .bool true)] (by simp [hz]) _ built_allSp h
/-- All keys are the file's. -/
def InF (C : List Ch) (ino : Int) : Prop := ∀ c ∈ C, ∃ pl : Nat, pl ≤ 100000 ∧ c.k = chunkR ino (pl : Int)
theorem InF.nil (ino : Int) : InF [] ino := fun c hc => by cases hc
theorem putA_in {C : List Ch} {ino : Int} (h : InF C ino) (c : Ch) (hc : ∃ pl : Nat, pl ≤ 100000 ∧ c.k = chunkR ino (pl : Int)) : InF (putA Ch.n C c) ino := fun a ha => (putA_mem Ch.n ha).elim (h a) (fun e => by subst e; exact hc)
theorem chAll_in (V : VS) {ino : Int} (h : InF V.C ino) (l : List Pa) (hl : ∀ p ∈ l, ∃ pl : Nat, pl ≤ 100000 ∧ p.k = chunkR ino (pl : Int)) : InF (chAll V l).C ino := by
  unfold chAll
  induction l generalizing V with
  | nil => exact h
  | cons p r ih => exact ih (V.change (chgP p)) (putA_in h _ (by rw [chgP_k]; exact hl p List.mem_cons_self)) (fun a ha => hl a (List.mem_cons_of_mem _ ha))
theorem write_in {V : VS} {ino : Int} (h : InF V.C ino) {off : Nat} {data : List UInt8} (hod : off + data.length ≤ 1048576) : InF (writeV V (plGe []) ino off data).C ino := by
  unfold writeV
  refine chAll_in _ (by rw [getG_C]; exact h) _ (fun p hp => ?_)
  unfold putG at hp
  obtain ⟨k, hk, rfl⟩ := List.mem_map.1 hp
  rw [List.mem_range] at hk
  refine ⟨off / 32 + k, by have := pIx_lt.2 hk; unfold pIx at this; omega, ?_⟩
  rw [pcM_at hk]
  rfl
theorem vAt_trimmed {C : List Ch} (h : FileOk C) (ino pl : Int) : trimmed (vAt C ino pl) = vAt C ino pl := by
  unfold vAt
  cases hl : look Ch.n C (keyC ino pl).n with
  | none => exact trimmed_zeros 0
  | some c =>
    obtain ⟨_, _, _, _, _, h4, _⟩ := h.ok c (look_key Ch.n hl).1
    exact h4
theorem vAt_of_bytes {C D : List Ch} (hC : FileOk C) (hD : FileOk D) {ino : Int} {pl : Nat} (h : ∀ j, j < 32 → fB C ino (32 * pl + j) = fB D ino (32 * pl + j)) : vAt C ino (pl : Int) = vAt D ino (pl : Int) := by
  have hb : cB C ino (pl : Int) = cB D ino (pl : Int) := by
    apply List.ext_getElem (by rw [cB_length, cB_length])
    intro j h1 h2
    rw [cB_length] at h1
    have e := h j h1
    unfold fB at e
    rw [show (32 * pl + j) / 32 = pl by omega, show (32 * pl + j) % 32 = j by omega, List.getD_eq_getElem?_getD, List.getD_eq_getElem?_getD, List.getElem?_eq_getElem (by rw [cB_length]; omega), List.getElem?_eq_getElem (by rw [cB_length]; omega)] at e
    exact e
  have e1 := (chunk_is (vAt C ino (pl : Int)) (by rw [← vAt_trimmed hC]; exact trimmed_length _)).tf
  have e2 := (chunk_is (vAt D ino (pl : Int)) (by rw [← vAt_trimmed hD]; exact trimmed_length _)).tf
  rw [vAt_trimmed hC] at e1
  rw [vAt_trimmed hD] at e2
  rw [← e1, ← e2]
  exact congrArg trimmed hb
/-- What is live of a key. -/
theorem live_look {C : List Ch} (h : FileOk C) (x : Int) (h0 : 0 ≤ x) : look Pa.n (lives C allSp) x = doneA (look Ch.n C x) none := by
  unfold lives
  rw [look_lives (inL_asc h.asc allSp), look_filter, allSp_in x h0, if_pos rfl]
theorem live_some {C : List Ch} (h : FileOk C) {ino : Int} (hi : okN ino = true) (hF : InF C ino) {x : Int} {p : Pa} (he : doneA (look Ch.n C x) none = some p) : ∃ pl : Nat, pl ≤ 100000 ∧ x = (keyC ino (pl : Int)).n ∧ vAt C ino (pl : Int) ≠ [] ∧ p = ⟨chunkR ino (pl : Int), chunkR_length _ _, vAt C ino (pl : Int)⟩ := by
  cases hl : look Ch.n C x with
  | none =>
    rw [hl] at he
    cases he
  | some c =>
    rw [hl] at he
    obtain ⟨hm, hn⟩ := look_key Ch.n hl
    obtain ⟨pl, h1, h2⟩ := hF c hm
    obtain ⟨_, _, _, _, _, _, h5⟩ := h.ok c hm
    unfold doneA at he
    cases hg : c.g with
    | true =>
      simp only [hg, if_true] at he
      cases he
    | false =>
      simp only [hg, Bool.false_eq_true, if_false] at he
      cases he
      have hx : x = (keyC ino (pl : Int)).n := by rw [← hn]; show (num c.k : Int) = (num (chunkR ino (pl : Int)) : Int); rw [h2]
      have hv : vAt C ino (pl : Int) = c.v := by unfold vAt; rw [← hx, hl]
      refine ⟨pl, h1, hx, ?_, ?_⟩
      · rw [hv]
        intro e
        have := h5.2 e
        rw [hg] at this
        cases this
      · rw [hv]
        obtain ⟨k, hk, v, g⟩ := c
        dsimp only at h2
        subst h2
        rfl
theorem live_of {C : List Ch} (h : FileOk C) {ino : Int} {pl : Nat} (hv : vAt C ino (pl : Int) ≠ []) : doneA (look Ch.n C (keyC ino (pl : Int)).n) none = some ⟨chunkR ino (pl : Int), chunkR_length _ _, vAt C ino (pl : Int)⟩ := by
  cases hl : look Ch.n C (keyC ino (pl : Int)).n with
  | none => exact absurd (by unfold vAt; rw [hl]) hv
  | some c =>
    have hv2 : vAt C ino (pl : Int) = c.v := by unfold vAt; rw [hl]
    obtain ⟨hm, hn⟩ := look_key Ch.n hl
    obtain ⟨_, _, _, _, _, _, h5⟩ := h.ok c hm
    have hk : c.k = chunkR ino (pl : Int) := num_inj _ _ (by rw [c.h, chunkR_length]) (by have : (num c.k : Int) = (num (chunkR ino (pl : Int)) : Int) := hn; exact Int.ofNat.inj this)
    unfold doneA
    cases hg : c.g with
    | true => exact absurd (h5.1 hg) (by rw [← hv2]; exact hv)
    | false =>
      simp only [hg, Bool.false_eq_true, if_false]
      rw [hv2]
      obtain ⟨k, hk2, v, g⟩ := c
      dsimp only at hk
      subst hk
      rfl
theorem lives_same {C D : List Ch} (hC : FileOk C) (hD : FileOk D) {ino : Int} (hi : okN ino = true) (iC : InF C ino) (iD : InF D ino) (h : ∀ i, i ≤ 4000000 → fB C ino i = fB D ino i) : lives C allSp = lives D allSp := by
  have hv : ∀ pl : Nat, pl ≤ 100000 → vAt C ino (pl : Int) = vAt D ino (pl : Int) := fun pl hp => vAt_of_bytes hC hD (fun j hj => h _ (by omega))
  have hdir : ∀ {C D : List Ch}, FileOk C → FileOk D → InF C ino → (∀ pl : Nat, pl ≤ 100000 → vAt C ino (pl : Int) = vAt D ino (pl : Int)) → ∀ x p, doneA (look Ch.n C x) none = some p → doneA (look Ch.n D x) none = some p := fun {C D} hC hD iC hv x p he => by
    obtain ⟨pl, h1, rfl, h3, rfl⟩ := live_some hC hi iC he
    rw [live_of hD (by rw [← hv pl h1]; exact h3), hv pl h1]
  refine asc_ext Pa.n (lives_asc hC.asc _) (lives_asc hD.asc _) fun x => ?_
  by_cases h0 : 0 ≤ x
  · rw [live_look hC x h0, live_look hD x h0]
    cases he : doneA (look Ch.n C x) none with
    | some p => exact (hdir hC hD iC hv x p he).symm
    | none =>
      cases hf : doneA (look Ch.n D x) none with
      | none => rfl
      | some p =>
        have := hdir hD hC iD (fun pl hp => (hv pl hp).symm) x p hf
        rw [he] at this
        cases this
  · have hn : ∀ C : List Ch, look Pa.n (lives C allSp) x = none := fun C => (look_none Pa.n).2 fun a _ e => by
      have : (0 : Int) ≤ (num a.k : Int) := Int.natCast_nonneg _
      have e2 : (num a.k : Int) = x := e
      omega
    rw [hn, hn]
/-- Written in two pieces. -/
theorem two_fB {V : VS} (hV : FileOk V.C) {ino : Int} (hi : okN ino = true) {off k : Nat} {s : List UInt8} (hk : k ≤ s.length) (hod : off + s.length ≤ 1048576) (i : Nat) (hI : i ≤ 4000000) :
    fB (writeV (writeV V (plGe []) ino off (s.take k)) (plGe []) ino (off + k) (s.drop k)).C ino i = fB (writeV V (plGe []) ino off s).C ino i
    ∧ fB (writeV (writeV V (plGe []) ino (off + k) (s.drop k)) (plGe []) ino off (s.take k)).C ino i = fB (writeV V (plGe []) ino off s).C ino i := by
  have l1 : (s.take k).length = k := by rw [List.length_take]; omega
  have l2 : (s.drop k).length = s.length - k := List.length_drop
  have d1 : ∀ j, j < k → (s.take k).getD j 0 = s.getD j 0 := fun j hj => by rw [List.getD_eq_getElem?_getD, List.getD_eq_getElem?_getD, List.getElem?_take_of_lt hj]
  have d2 : ∀ j, (s.drop k).getD j 0 = s.getD (k + j) 0 := fun j => by rw [List.getD_eq_getElem?_getD, List.getD_eq_getElem?_getD, List.getElem?_drop]
  have o1 : off + (s.take k).length ≤ 1048576 := by omega
  have o2 : off + k + (s.drop k).length ≤ 1048576 := by omega
  rw [write_fB (write_ok hV hi o1).asc hi o2 hi i hI, write_fB hV.asc hi o1 hi i hI, write_fB hV.asc hi hod hi i hI, write_fB (write_ok hV hi o2).asc hi o1 hi i hI, write_fB hV.asc hi o2 hi i hI, l1, l2]
  constructor
  · by_cases c1 : off + k ≤ i ∧ i < off + k + (s.length - k)
    · rw [if_pos ⟨rfl, c1.1, c1.2⟩, if_pos ⟨rfl, by omega, by omega⟩, d2]
      congr 1
      omega
    · rw [if_neg (by omega)]
      by_cases c2 : off ≤ i ∧ i < off + k
      · rw [if_pos ⟨rfl, c2.1, c2.2⟩, if_pos ⟨rfl, by omega, by omega⟩, d1 _ (by omega)]
      · rw [if_neg (by omega), if_neg (by omega)]
  · by_cases c2 : off ≤ i ∧ i < off + k
    · rw [if_pos ⟨rfl, c2.1, c2.2⟩, if_pos ⟨rfl, by omega, by omega⟩, d1 _ (by omega)]
    · rw [if_neg (by omega)]
      by_cases c1 : off + k ≤ i ∧ i < off + k + (s.length - k)
      · rw [if_pos ⟨rfl, c1.1, c1.2⟩, if_pos ⟨rfl, by omega, by omega⟩, d2]
        congr 1
        omega
      · rw [if_neg (by omega), if_neg (by omega)]
theorem write_read {V : VS} (hV : FileOk V.C) {ino : Int} (hi : okN ino = true) {off : Nat} {s : List UInt8} (hod : off + s.length ≤ 1048576) : readB (writeV V (plGe []) ino off s).C ino off s.length = s := by
  rw [read_bytes (write_ok hV hi hod) hi hod]
  apply List.ext_getElem (by simp)
  intro j h1 h2
  rw [List.getElem_map, List.getElem_range, write_fB hV.asc hi hod hi _ (by omega), if_pos ⟨rfl, by omega, by omega⟩, show off + j - off = j by omega, List.getD_eq_getElem?_getD, List.getElem?_eq_getElem h2]
  rfl
/-- A scan of all of a view over nothing. -/
theorem nvScan {d : NV} {w0 y : World} (h : d.at_ w0 y) (hn : d.x.n ≤ 5000) :
    Calls Tryz.prog 7 #[.pointer (some ⟨d.q, 0, none⟩), spv allSp] y fun e y' => ∃ ad cap, e = .returned (.tuple #[.slice ad (lives d.V.C allSp).length cap, .int .i64 0]) ∧ Own encP 76 y' y.heap.size (.slice ad (lives d.V.C allSp).length cap) (lives d.V.C allSp) ∧ VRan noB w0 d.lim (NI d.lim d.p d.pv d.base) 9 (nI d.p) d.q d.x (d.x.n + 4) { d.V with R := d.V.R ++ [allSp] } y { d.x with n := d.x.n + 1 } y' := by
  refine (VAt.scan (ni_base d.lim d.p d.pv d.base) (VAt.re 10 h) (fun i hi => hi.elim) hn allSp).mono fun e y' r => ?_
  rw [scan_lives (NV.asc h)] at r
  obtain ⟨ad, cap, r1, r2, r3⟩ := r
  exact ⟨ad, cap, r1, r2, r3.ran (Nat.le_refl _)⟩
end Go.Proofs.YtdmindhjmjnagabGreatDoor
