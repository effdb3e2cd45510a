import Derived.Test.YtdmindhjmjnagaaGreatDoorSi
import Derived.Test.YtdmindhjmjnagaaGreatDoorB48
import Derived.Test.YtdmindhjmjnagaaGreatDoorB37
import Derived.Test.YtdmindhjmjnagaaGreatDoorB03
import Derived.Test.YtdmindhjmjnagaaGreatDoorB27
import Derived.Test.YtdmindhjmjnagaaGreatDoorSi
import Derived.Test.YtdmindhjmjnagaaGreatDoorB01
import Derived.OwnWalk
/- A file as its bytes (mathematics): what Read tells, what Cut leaves. -/
namespace Go.Proofs.YtdmindhjmjnagaaGreatDoor
set_option linter.unusedVariables false
set_option maxRecDepth 100000
open Go.RowKit

theorem valL_lives {C : List Ch} (h : FileOk C) (s : Sp) (ino pl : Int) : valL (lives C s) (keyC ino pl) = if s.inb (keyC ino pl).n then vAt C ino pl else [] := by
  unfold valL lives vAt
  rw [look_lives (inL_asc h.asc s), look_filter]
  cases hs : s.inb (keyC ino pl).n with
  | false => rfl
  | true =>
    simp only [if_true]
    cases hl : look Ch.n C (keyC ino pl).n with
    | none => rfl
    | some c =>
      unfold doneA
      cases hg : c.g with
      | false =>
        simp only [hg, Bool.false_eq_true, if_false]
        rfl
      | true =>
        obtain ⟨_, _, _, _, _, _, h3⟩ := h.ok c (look_key Ch.n hl).1
        simp only [hg, if_true]
        exact (h3.1 hg).symm
theorem take_drop_map (F : List UInt8) (a m : Nat) (h : a + m ≤ F.length) : (F.drop a).take m = (List.range m).map fun j => F.getD (a + j) 0 := by
  apply List.ext_getElem
  · simp; omega
  · intro i h1 h2
    simp at h1 h2 ⊢
    rw [List.getElem?_eq_getElem (by omega)]
    rfl
theorem read_bytes {C : List Ch} (h : FileOk C) {ino : Int} (hi : okN ino = true) {off n : Nat} (hon : off + n ≤ 1048576) : readB C ino off n = (List.range n).map fun j => fB C ino (off + j) := by
  rcases Nat.eq_zero_or_pos n with rfl | h0
  · exact readP_zero _ _ _
  unfold readB readP
  have hk : ∀ k, k ≤ pN off n → readG (lives C (betS ino ((off / 32 : Nat) : Int) (((off + n - 1) / 32 : Nat) : Int))) ino off n (List.range k) = (List.range (min (pIx off k) n)).map fun j => fB C ino (off + j) := by
    intro k
    induction k with
    | zero =>
      intro _
      rw [pIx_zero, Nat.zero_min]
      rfl
    | succ k ih =>
      intro hk
      have hkn : k < pN off n := hk
      have hix := pIx_lt.2 hkn
      have hnx := pIx_next hkn
      have hpp := pIx_place off k
      have hlt := (pcK_ok hkn).2
      have h32 : pTt off n k ≤ 32 := Nat.min_le_right _ _
      have hfr : pFr off k = (off + pIx off k) % 32 := rfl
      have hN : pN off n = (off + n - 1) / 32 - off / 32 + 1 := if_neg (by omega)
      rw [List.range_succ, readG_snoc, ih (by omega), pcM_at hkn, Nat.min_eq_left (by omega), ← hnx, List.range_add, List.map_append, List.map_map]
      congr 1
      have hv : valL (lives C (betS ino ((off / 32 : Nat) : Int) (((off + n - 1) / 32 : Nat) : Int))) (keyC ino ((off / 32 + k : Nat) : Int)) = vAt C ino ((off / 32 + k : Nat) : Int) := by
        rw [valL_lives h, betS_in hi hi (okP_nat (by omega)) (by omega) (okP_nat (by omega)), if_pos (by simp; omega)]
      have hp : partP (lives C (betS ino ((off / 32 : Nat) : Int) (((off + n - 1) / 32 : Nat) : Int))) ino (pcK off n k) = ((cB C ino ((off / 32 + k : Nat) : Int)).drop (pFr off k)).take (pTt off n k - pFr off k) := by
        unfold cB
        rw [← hv]
        have a3 : ((pcK off n k).tt - (pcK off n k).fr).toNat = pTt off n k - pFr off k := by
          show ((pTt off n k : Int) - (pFr off k : Int)).toNat = _
          omega
        unfold partP
        rw [a3]
        rfl
      rw [hp, take_drop_map _ _ _ (by rw [cB_length]; omega)]
      refine List.map_congr_left fun j hj => ?_
      rw [List.mem_range] at hj
      show _ = fB C ino (off + (pIx off k + j))
      unfold fB
      rw [show (off + (pIx off k + j)) / 32 = off / 32 + k by omega, show (off + (pIx off k + j)) % 32 = pFr off k + j by omega]
  have hfin := hk (pN off n) (Nat.le_refl _)
  have hge : n ≤ pIx off (pN off n) := Nat.not_lt.1 (fun e => Nat.lt_irrefl _ (pIx_lt.1 e))
  rw [Nat.min_eq_right hge] at hfin
  exact hfin
/-! Cut. -/
theorem look_find (l : List Pa) (x : Int) : look Pa.n l x = l.find? (fun p => decide (p.n = x)) := by
  induction l with
  | nil => rfl
  | cons a r ih =>
    rw [List.find?_cons]
    simp only [look]
    by_cases e : a.n = x
    · rw [if_pos e, decide_eq_true e]
    · rw [if_neg e, decide_eq_false e, ih]
theorem cutO_n {size : Int} {p p' : Pa} (h : cutO size p = some p') : p'.n = p.n ∧ p'.k = p.k := by
  unfold cutO at h
  split at h
  · split at h
    · cases h
      exact ⟨rfl, rfl⟩
    · cases h
  · cases h
theorem cutL_find (size : Int) (x : Int) : ∀ {L : List Pa}, Asc Pa.n L → (cutL size L).find? (fun p => decide (p.n = x)) = (L.find? (fun p => decide (p.n = x))).bind (cutO size)
  | [], _ => rfl
  | p :: r, h => by
    obtain ⟨h1, h2⟩ := List.pairwise_cons.1 h
    have ih := cutL_find size x h2
    have hr : p.n = x → r.find? (fun p => decide (p.n = x)) = none := fun e => List.find?_eq_none.2 fun b hb => by
      have := h1 b hb
      simp
      omega
    rw [List.find?_cons]
    unfold cutL at ih ⊢
    cases hc : cutO size p with
    | none =>
      rw [List.filterMap_cons_none hc, ih]
      by_cases e : p.n = x
      · rw [decide_eq_true e, hr e]
        exact hc.symm
      · rw [decide_eq_false e]
    | some p' =>
      rw [List.filterMap_cons_some hc, List.find?_cons, (cutO_n hc).1, ih]
      by_cases e : p.n = x
      · rw [decide_eq_true e]
        exact hc.symm
      · rw [decide_eq_false e]
theorem cutL_apart (size : Int) {L : List Pa} (h : Asc Pa.n L) : (cutL size L).Pairwise fun a b => a.n ≠ b.n := by
  unfold cutL
  refine List.Pairwise.filterMap _ (fun a a' hab b hb b' hb' => ?_) h
  rw [(cutO_n hb).1, (cutO_n hb').1]
  omega
theorem drop_zeros (k : Nat) : List.dropWhile (fun x : UInt8 => x == 0) (List.replicate k 0) = [] := by
  induction k with
  | zero => rfl
  | succ k ih => rw [List.replicate_succ, List.dropWhile_cons]; simp
theorem trimmed_zeros (k : Nat) : trimmed (List.replicate k 0) = [] := by
  unfold trimmed Lib.trimRightB
  rw [List.take_replicate, List.reverse_replicate]
  have := drop_zeros (min 32 k)
  rw [this]
  rfl
theorem full_nil : fullP [] = List.replicate 32 0 := rfl
theorem cut_vAt {V : VS} (h : FileOk V.C) {ino : Int} (hi : okN ino = true) {sz : Nat} (hsz : sz ≤ 1048576) {b : Int} (hb : okN b = true) {pl : Nat} (hp : pl ≤ 4294967295) :
    vAt (cutV V ino (sz : Int)).C b (pl : Int) = if b = ino ∧ sz / 32 ≤ pl then trimmed ((cB V.C b (pl : Int)).take (staysP (sz : Int) (pl : Int)).toNat) else vAt V.C b (pl : Int) := by
  have hdiv : (sz : Int) / 32 = ((sz / 32 : Nat) : Int) := by omega
  have hL := lives_asc h.asc (chsS ino ((sz : Int) / 32))
  unfold cutV
  rw [chAll_vAt { V with R := V.R ++ [chsS ino ((sz : Int) / 32)] } h.asc _ (cutL_apart _ hL), cutL_find _ _ hL, ← look_find]
  have hlook : look Pa.n (lives V.C (chsS ino ((sz : Int) / 32))) (keyC b (pl : Int)).n = doneA (if (chsS ino ((sz : Int) / 32)).inb (keyC b (pl : Int)).n then look Ch.n V.C (keyC b (pl : Int)).n else none) none := by
    unfold lives
    rw [look_lives (inL_asc h.asc _), look_filter]
  have hin : (chsS ino ((sz : Int) / 32)).inb (keyC b (pl : Int)).n = decide (b = ino ∧ sz / 32 ≤ pl) := by
    rw [hdiv, chsS_in hi hb (okP_nat (by omega)) (okP_nat hp), Bool.eq_iff_iff]
    simp
    omega
  rw [hlook, hin]
  show (match (doneA _ none).bind (cutO (sz : Int)) with
    | some p => p.v
    | none => vAt V.C b (pl : Int)) = _
  by_cases hc : b = ino ∧ sz / 32 ≤ pl
  · rw [if_pos hc, decide_eq_true hc, if_pos rfl]
    cases hl : look Ch.n V.C (keyC b (pl : Int)).n with
    | none =>
      have hv : vAt V.C b (pl : Int) = [] := by unfold vAt; rw [hl]
      have hcb : cB V.C b (pl : Int) = List.replicate 32 0 := by unfold cB; rw [hv, full_nil]
      rw [hcb, List.take_replicate, trimmed_zeros]
      exact hv
    | some c =>
      obtain ⟨hcm, hcn⟩ := look_key Ch.n hl
      obtain ⟨i2, p2, k1, k2, k3, k4, k5⟩ := h.ok c hcm
      have hv : vAt V.C b (pl : Int) = c.v := by unfold vAt; rw [hl]
      have hcn2 : (keyC i2 p2).n = (keyC b (pl : Int)).n := by rw [← hcn]; show (num (chunkR i2 p2) : Int) = (num c.k : Int); rw [k3]
      obtain ⟨rfl, rfl⟩ := (keyC_n k1 hb k2 (okP_nat hp)).1 hcn2
      unfold doneA
      cases hg : c.g with
      | true =>
        have hv0 := k5.1 hg
        have hcb : cB V.C i2 (pl : Int) = List.replicate 32 0 := by unfold cB; rw [hv, hv0, full_nil]
        rw [hcb, List.take_replicate, trimmed_zeros]
        simp only [hg, if_true]
        show vAt V.C i2 (pl : Int) = []
        rw [hv, hv0]
      | false =>
        have hcr := chunk_right k1 k2
        have hpp : pPlace c.k = (pl : Int) := by
          have h1 : chunkR i2 (pl : Int) = chunkK i2.toNat ((pl : Int)).toNat := by unfold chunkR; rw [k1, k2]; rfl
          rw [k3, h1]
          exact (chunk_says k1 k2).2.2
        have hcu : cutO (sz : Int) c.pa = if trimmed ((fullP c.v).take (staysP (sz : Int) (pl : Int)).toNat) = [] ∨ trimmed ((fullP c.v).take (staysP (sz : Int) (pl : Int)).toNat) ≠ c.v then some ⟨c.k, c.h, trimmed ((fullP c.v).take (staysP (sz : Int) (pl : Int)).toNat)⟩ else none := by
          unfold cutO
          rw [if_pos (show right c.pa.k = true by show right c.k = true; rw [k3]; exact hcr.1), show pPlace c.pa.k = (pl : Int) from hpp]
          rfl
        have hcb : cB V.C i2 (pl : Int) = fullP c.v := by unfold cB; rw [hv]
        rw [hcb]
        simp only [hg, Bool.false_eq_true, if_false]
        show (match (some c.pa).bind (cutO (sz : Int)) with
          | some p => p.v
          | none => vAt V.C i2 (pl : Int)) = _
        rw [Option.bind_some, hcu]
        split
        · rename_i p hp2
          split at hp2
          · cases hp2
            rfl
          · cases hp2
        · rename_i hp2
          split at hp2
          · cases hp2
          · rename_i hno
            rw [hv]
            exact (Decidable.not_not.1 (fun e => hno (.inr e))).symm
  · rw [if_neg hc, decide_eq_false hc]
    rfl
theorem cut_fB {V : VS} (h : FileOk V.C) {ino : Int} (hi : okN ino = true) {sz : Nat} (hsz : sz ≤ 1048576) {b : Int} (hb : okN b = true) (i : Nat) (hI : i ≤ 4000000) :
    fB (cutV V ino (sz : Int)).C b i = if b = ino ∧ sz ≤ i then 0 else fB V.C b i := by
  unfold fB
  rw [show cB (cutV V ino (sz : Int)).C b ((i / 32 : Nat) : Int) = fullP (vAt (cutV V ino (sz : Int)).C b ((i / 32 : Nat) : Int)) from rfl, cut_vAt h hi hsz hb (by omega)]
  by_cases hc : b = ino ∧ sz / 32 ≤ i / 32
  · rw [if_pos hc]
    obtain ⟨rfl, h1⟩ := hc
    have hst : (staysP (sz : Int) ((i / 32 : Nat) : Int)).toNat = min (sz - i / 32 * 32) 32 := by unfold staysP; omega
    rw [hst]
    have hl := cB_length V.C b ((i / 32 : Nat) : Int)
    generalize cB V.C b ((i / 32 : Nat) : Int) = F at *
    have hT : (F.take (min (sz - i / 32 * 32) 32)).length = min (sz - i / 32 * 32) 32 := by rw [List.length_take, hl]; omega
    rw [← (chunk_is (F.take (min (sz - i / 32 * 32) 32)) (by omega)).fs, fullP, List.take_of_length_le (by omega), hT]
    simp only [List.getD_eq_getElem?_getD]
    by_cases hin : sz ≤ i
    · rw [if_pos (by simp [hin]), List.getElem?_append_right (by omega), List.getElem?_replicate]
      split <;> rfl
    · rw [if_neg (by omega), List.getElem?_append_left (by omega), List.getElem?_take_of_lt (by omega)]
  · rw [if_neg hc, if_neg (by omega)]
    rfl
theorem cut_ok {V : VS} (h : FileOk V.C) {ino size : Int} : FileOk (cutV V ino size).C := by
  unfold cutV
  refine chAll_ok { V with R := V.R ++ [chsS ino (size / 32)] } h _ (fun p hp => ?_)
  unfold cutL at hp
  obtain ⟨x, hx, hxp⟩ := List.mem_filterMap.1 hp
  have hk := (cutO_n hxp).2
  unfold lives at hx
  obtain ⟨c, hc, rfl⟩ := List.mem_map.1 hx
  have hcm : c ∈ V.C := (List.mem_filter.1 (List.mem_filter.1 hc).1).1
  obtain ⟨i2, p2, k1, k2, k3, -, -⟩ := h.ok c hcm
  refine ⟨i2, p2, k1, k2, hk.trans k3, ?_⟩
  unfold cutO at hxp
  split at hxp
  · split at hxp
    · cases hxp
      exact trimmed_twice _
    · cases hxp
  · cases hxp
end Go.Proofs.YtdmindhjmjnagaaGreatDoor
/- Masks of ones, beside RfM's. -/
namespace Go.Proofs.YtdmindhjmjnagaaGreatDoor
set_option linter.unusedVariables false
set_option maxRecDepth 100000
theorem and1023 (n : Int) : bits .and .i64 n 1023 = n % 1024 := by
  show IntKind.i64.wrap ((BitVec.ofInt 64 n &&& BitVec.ofInt 64 ((1023 : Nat) : Int)).toNat : Nat) = n % 1024
  rw [and_ones n 1023 10 (by decide), IntKind.wrap_i64]
  omega
theorem and511 (n : Int) : bits .and .i64 n 511 = n % 512 := by
  show IntKind.i64.wrap ((BitVec.ofInt 64 n &&& BitVec.ofInt 64 ((511 : Nat) : Int)).toNat : Nat) = n % 512
  rw [and_ones n 511 9 (by decide), IntKind.wrap_i64]
  omega
theorem and127 (n : Int) : bits .and .i64 n 127 = n % 128 := by
  show IntKind.i64.wrap ((BitVec.ofInt 64 n &&& BitVec.ofInt 64 ((127 : Nat) : Int)).toNat : Nat) = n % 128
  rw [and_ones n 127 7 (by decide), IntKind.wrap_i64]
  omega
theorem and20 (n : Int) : bits .and .i64 n 1048575 = n % 1048576 := by
  show IntKind.i64.wrap ((BitVec.ofInt 64 n &&& BitVec.ofInt 64 ((1048575 : Nat) : Int)).toNat : Nat) = n % 1048576
  rw [and_ones n 1048575 20 (by decide), IntKind.wrap_i64]
  omega
end Go.Proofs.YtdmindhjmjnagaaGreatDoor
/- The document's own keys held against one another, and its spans (as KeyS, over KeyD alone). -/
namespace Go.Proofs.YtdmindhjmjnagaaGreatDoor
set_option linter.unusedVariables false
set_option maxRecDepth 100000
open Go.RowKit

theorem conv_part {w : World} {b o : Nat} {K : List UInt8} (hr : w.rangeAt b o (bc K)) (hl : K.length = 24) (cap : Nat) : (convert 49 9 (.slice (some ⟨b, o, none⟩) 24 cap)).run Tryz.prog w = .ok (.string (str K)) w := by
  have := run_convert_bytes_arg (P := Tryz.prog) w 49 5 Tryz.underlying49 Tryz.underlying5 b o 24 cap (K.map fun b => (b.toNat : Int)) (by simp [hl]) (fun i hi => by
    have hi' : i < K.length := by omega
    rw [hr i (.int .u8 ((K[i]).toNat : Int)) (by simp [bc, hi'])]
    simp [hi']) 9 Tryz.underlying9
  rw [str_of] at this
  exact this

/-- What stands while two keys are held against one another. -/
structure Two (w : World) (b c : Nat) (K L : List UInt8) (w' : World) : Prop where
  k : Has w' b K
  l : Has w' c L
  bel : Below w.heap.size w w'
theorem Two.drew {w : World} {b c : Nat} {K L : List UInt8} {w' : World} (h : Two w b c K L w') : Two w b c K L w'.drew := ⟨⟨h.k.len, h.k.blk⟩, ⟨h.l.len, h.l.blk⟩, h.bel.drew⟩
theorem Two.out {w : World} {b c : Nat} {K L : List UInt8} {w' : World} (h : Two w b c K L w') : (convert 49 9 (.slice (some ⟨b, 0, none⟩) 24 24)).run Tryz.prog w' = .ok (.string (str K)) w' ∧ (convert 49 9 (.slice (some ⟨c, 0, none⟩) 24 24)).run Tryz.prog w' = .ok (.string (str L)) w' ∧ Two w b c K L w' :=
  ⟨conv_part h.k.range h.k.len 24, conv_part h.l.range h.l.len 24, h⟩

set_option maxHeartbeats 1000000 in
theorem rless_calls (w : World) (K L : List UInt8) (hK : K.length = 24) (hL : L.length = 24) :
    Calls Tryz.prog 140 #[kv K, kv L] w fun e w' => e = .returned (.bool (Op.bytesLess K L)) ∧ Below w.heap.size w w' := by
  have h0 : Two w w.heap.size (w.heap.size + 1) K L ((w.alloc (.cells (bc K).toArray 54)).alloc (.cells (bc L).toArray 54)) := ⟨(Has.new w K hK).alloc _, by have := Has.new (w.alloc (.cells (bc K).toArray 54)) L hL; simpa using this, below_made (below_made (Below.refl _ w) (Nat.le_refl _) _) (Nat.le_refl _) _⟩
  go_enter Tryz.func140, Tryz.ntmps140
  go_wp2
  generalize (w.alloc (.cells (bc K).toArray 54)).alloc (.cells (bc L).toArray 54) = W at *
  go_region_held3 (fun w' => (convert 49 9 (.slice (some ⟨w.heap.size, 0, none⟩) 24 24)).run Tryz.prog w' = .ok (.string (str K)) w' ∧ (convert 49 9 (.slice (some ⟨w.heap.size + 1, 0, none⟩) 24 24)).run Tryz.prog w' = .ok (.string (str L)) w' ∧ Two w w.heap.size (w.heap.size + 1) K L w') (first | exact h0.drew.out | assumption) (fail)
  go_wp2_with fail
  go_ret
  refine ⟨?_, h0.drew.bel⟩
  show Ending.returned (Value.bool (Op.bytesLess (str K).toList (str L).toList)) = _
  rw [str_toList, str_toList]

/-- What stands while a key is held against a span. -/
structure Tri (w : World) (b c : Nat) (F T : List UInt8) (e : Bool) (K : List UInt8) (w' : World) : Prop where
  s : HasS w' b F T e
  k : Has w' c K
  bel : Below w.heap.size w w'
theorem Tri.drew {w : World} {b c : Nat} {F T : List UInt8} {e : Bool} {K : List UInt8} {w' : World} (h : Tri w b c F T e K w') : Tri w b c F T e K w'.drew := ⟨⟨h.s.f, h.s.t, h.s.blk⟩, ⟨h.k.len, h.k.blk⟩, h.bel.drew⟩
theorem Tri.out {w : World} {b c : Nat} {F T : List UInt8} {e : Bool} {K : List UInt8} {w' : World} (h : Tri w b c F T e K w') : (convert 49 9 (.slice (some ⟨c, 0, none⟩) 24 24)).run Tryz.prog w' = .ok (.string (str K)) w' ∧ (convert 49 9 (.slice (some ⟨b, 0, none⟩) 24 24)).run Tryz.prog w' = .ok (.string (str F)) w' ∧ (convert 49 9 (.slice (some ⟨b, 24, none⟩) 24 24)).run Tryz.prog w' = .ok (.string (str T)) w' ∧ w'.cell? ⟨b, 48, none⟩ = some (.bool e) ∧ Tri w b c F T e K w' :=
  ⟨conv_part h.k.range h.k.len 24, conv_part h.s.ofF h.s.f 24, conv_part h.s.ofT h.s.t 24, h.s.ofE, h⟩

set_option maxRecDepth 100000 in
set_option maxHeartbeats 4000000 in
theorem rin_calls (w : World) (F T : List UInt8) (e : Bool) (K : List UInt8) (hF : F.length = 24) (hT : T.length = 24) (hK : K.length = 24) :
    Calls Tryz.prog 62 #[sv F T e, kv K] w fun x w' => x = .returned (.bool (inS F T e K)) ∧ Below w.heap.size w w' := by
  have h0 : Tri w w.heap.size (w.heap.size + 1) F T e K ((w.alloc (.cells (sc F T e).toArray 56)).alloc (.cells (bc K).toArray 54)) := ⟨(HasS.new w F T e hF hT).alloc _, by have := Has.new (w.alloc (.cells (sc F T e).toArray 56)) K hK; simpa using this, below_made (below_made (Below.refl _ w) (Nat.le_refl _) _) (Nat.le_refl _) _⟩
  have HIN : Hid (inS F T e K = (!Op.bytesLess K F && (e || Op.bytesLess K T))) := rfl
  cases hlf : Op.bytesLess K F with
  | true =>
    have hl1 : Op.bytesLess (str K).toList (str F).toList = true := by rw [str_toList, str_toList]; exact hlf
    go_enter Tryz.func62, Tryz.ntmps62
    go_wp2
    generalize (w.alloc (.cells (sc F T e).toArray 56)).alloc (.cells (bc K).toArray 54) = W at *
    have q1 : ∀ n, (convert 49 9 (.slice (some ⟨w.heap.size + 1, 0, none⟩) 24 24)).run Tryz.prog (W.drewN n) = .ok (.string (str K)) (W.drewN n) := fun n => conv_part (w := W.drewN n) h0.k.range h0.k.len 24
    have q2 : ∀ n, (convert 49 9 (.slice (some ⟨w.heap.size, 0, none⟩) 24 24)).run Tryz.prog (W.drewN n) = .ok (.string (str F)) (W.drewN n) := fun n => conv_part (w := W.drewN n) h0.s.ofF h0.s.f 24
    have HB : Hid (Below w.heap.size w W) := h0.bel
    clear h0
    go_quiet (fail)
    go_wp2_with fail
    go_ret
    exact ⟨by rw [HIN.out, hlf]; rfl, below_drewN HB.out _⟩
  | false =>
    have hl1 : Op.bytesLess (str K).toList (str F).toList = false := by rw [str_toList, str_toList]; exact hlf
    cases e with
    | true =>
      go_enter Tryz.func62, Tryz.ntmps62
      go_wp2
      generalize (w.alloc (.cells (sc F T true).toArray 56)).alloc (.cells (bc K).toArray 54) = W at *
      have q1 : ∀ n, (convert 49 9 (.slice (some ⟨w.heap.size + 1, 0, none⟩) 24 24)).run Tryz.prog (W.drewN n) = .ok (.string (str K)) (W.drewN n) := fun n => conv_part (w := W.drewN n) h0.k.range h0.k.len 24
      have q2 : ∀ n, (convert 49 9 (.slice (some ⟨w.heap.size, 0, none⟩) 24 24)).run Tryz.prog (W.drewN n) = .ok (.string (str F)) (W.drewN n) := fun n => conv_part (w := W.drewN n) h0.s.ofF h0.s.f 24
      have cE := h0.s.ofE
      have HB : Hid (Below w.heap.size w W) := h0.bel
      clear h0
      go_quiet (fail)
      go_wp2_with fail
      go_ret
      exact ⟨by rw [HIN.out, hlf]; rfl, below_drewN HB.out _⟩
    | false =>
      go_enter Tryz.func62, Tryz.ntmps62
      go_wp2
      generalize (w.alloc (.cells (sc F T false).toArray 56)).alloc (.cells (bc K).toArray 54) = W at *
      have q1 : ∀ n, (convert 49 9 (.slice (some ⟨w.heap.size + 1, 0, none⟩) 24 24)).run Tryz.prog (W.drewN n) = .ok (.string (str K)) (W.drewN n) := fun n => conv_part (w := W.drewN n) h0.k.range h0.k.len 24
      have q2 : ∀ n, (convert 49 9 (.slice (some ⟨w.heap.size, 0, none⟩) 24 24)).run Tryz.prog (W.drewN n) = .ok (.string (str F)) (W.drewN n) := fun n => conv_part (w := W.drewN n) h0.s.ofF h0.s.f 24
      have q3 : ∀ n, (convert 49 9 (.slice (some ⟨w.heap.size, 24, none⟩) 24 24)).run Tryz.prog (W.drewN n) = .ok (.string (str T)) (W.drewN n) := fun n => conv_part (w := W.drewN n) h0.s.ofT h0.s.t 24
      have cE := h0.s.ofE
      have HB : Hid (Below w.heap.size w W) := h0.bel
      clear h0
      go_quiet (fail)
      go_wp2_with fail
      go_ret
      refine ⟨?_, below_drewN HB.out _⟩
      show Ending.returned (Value.bool (Op.bytesLess (str K).toList (str T).toList)) = _
      rw [HIN.out, hlf, str_toList, str_toList]
      simp

end Go.Proofs.YtdmindhjmjnagaaGreatDoor
/- The document's Has (as Te8B, over KeyS2 alone). -/
namespace Go.Proofs.YtdmindhjmjnagaaGreatDoor
set_option linter.unusedVariables false
set_option maxRecDepth 100000
open Go.RowKit

theorem mem_take (l : List Sp) (k : Nat) (h : k < l.length) (x : Int) : mem (l.take (k + 1)) x = (mem (l.take k) x || (l[k]).inb x) := by
  rw [List.take_succ_eq_append_getElem h, mem_append]
  simp [mem]
theorem mem_hit (l : List Sp) (k : Nat) (h : k < l.length) (x : Int) (hi : (l[k]).inb x = true) : mem l x = true := by
  unfold mem
  rw [List.any_eq_true]
  exact ⟨l[k], List.getElem_mem h, hi⟩
set_option maxRecDepth 100000 in
set_option maxHeartbeats 4000000 in
theorem rhas_calls (w : World) (u : Value) (l : List Sp) (h : Sl encS w u l) (K : List UInt8) (hK : K.length = 24) : Calls Tryz.prog 25 #[u, kv K] w fun e w' => e = .returned (.bool (mem l (num K))) ∧ Below w.heap.size w w' := by
  have b1 : Below w.heap.size w (w.alloc (.cells (bc K).toArray 54)) := (Below.refl _ w).alloc (Nat.le_refl _) _
  have HS : Hid (Sl encS w u l) := h
  have HK : Hid (Has (w.alloc (.cells (bc K).toArray 54)) w.heap.size K) := Has.new w K hK
  have HB : Hid (Below w.heap.size w (w.alloc (.cells (bc K).toArray 54))) := b1
  obtain ⟨ad, cap, rfl, hcap, hmax, _, _⟩ := h
  have HG : Hid (∀ i (hi : i < l.length), ∃ g off, ad = some ⟨g, off, none⟩ ∧ g < w.heap.size ∧ w.rangeAt g (off + i * 49) (encS.c l[i])) := fun i hi => SlB.at HS.out i hi
  obtain ⟨N, hN⟩ : ∃ N : Nat, N = l.length := ⟨_, rfl⟩
  have HN : Hid (N = l.length) := hN
  rw [← hN] at hcap hmax ⊢
  have HM : Hid (∀ k : Nat, k < N → wrap64 ((k : Int) + 1) = ((k + 1 : Nat) : Int)) := fun k hk => wrap_next hk hmax
  clear b1 hN hmax
  have hiK : (Tryz.prog.info? 54).map (·.size) = some (bc K).length := by rw [bc_length, hK]; exact Tryz.key_info
  go_enter Tryz.func25, Tryz.ntmps25
  go_wp2_with fail
  generalize hW : w.alloc (.cells (bc K).toArray 54) = W at *
  have hbW := HK.out.lt
  go_loopg [5] N (fun gg i wr => ∃ k : Nat, k + gg = N ∧ i = .int .i64 (k : Int) ∧ Hid (Below W.heap.size W wr ∧ mem (l.take k) (num K) = false))
  case atStart => exact ⟨0, by omega, rfl, ⟨Below.refl _ _, rfl⟩⟩
  case round =>
    obtain ⟨k, hkg, rfl, HL⟩ := hrel
    cases gk with
    | zero =>
      have hkN : k = N := by omega
      subst hkN
      go_wp2_with fail
      go_ret
      have h1 := HL.out.2
      rw [List.take_of_length_le (by have := HN.out; omega)] at h1
      exact ⟨by rw [h1]; rfl, HB.out.trans (HL.out.1.mono HB.out.size)⟩
    | succ gg =>
      have hlt : k < N := by omega
      have hltI : (k : Int) < (N : Int) := by omega
      have hk0 : (0 : Int) ≤ (k : Int) := by omega
      have hkl : k < l.length := by have := HN.out; omega
      obtain ⟨g, off, rfl, hg, hr⟩ := HG.out k hkl
      have hgW : g < W.heap.size := Nat.lt_of_lt_of_le hg HB.out.size
      have rS : wr.rangeAt g (off + k * 49) (encS.c l[k]) := range_same' (range_same' hr (HB.out.block g hg)) (HL.out.1.block g hgW)
      have rK : wr.rangeAt w.heap.size 0 (bc K) := (HK.out.below HL.out.1 hbW).range
      have HT : Hid (mem (l.take (k + 1)) (num K) = (mem (l.take k) (num K) || (l[k]).inb (num K))) := mem_take l k hkl _
      have HH : Hid ((l[k]).inb (num K) = true → mem l (num K) = true) := mem_hit l k hkl _
      have hin := fun y => rin_calls y (l[k]).F (l[k]).T (l[k]).e K (l[k]).hF (l[k]).hT hK
      rw [in_num (l[k]) K hK] at hin
      have HIN : Hid (∀ y, Calls Tryz.prog 62 #[spv (l[k]), kv K] y fun x w' => x = .returned (.bool ((l[k]).inb (num K))) ∧ Below y.heap.size y w') := hin
      have hiS : (Tryz.prog.info? 56).map (·.size) = some (encS.c (l[k])).length := by rw [encS.len]; exact Tryz.span_info
      have HKS : Hid (wrap64 ((k : Int) + 1) = ((k + 1 : Nat) : Int)) := HM.out k hlt
      have hws := HL.out.1.size
      clear hin hr
      generalize (l[k]).inb (num K) = rs at *
      generalize l[k] = s at *
      go_upto_region 4 with fail
      refine wp_region_noPanic ?_
      refine wp_region_held_drew (S := (fun yy => yy.rangeAt g (off + k * 49) (encS.c s) ∧ yy.rangeAt w.heap.size 0 (bc K))) (by kernel_rfl) ⟨rS, rK⟩ (fun hHeld => ?_)
      refine wpAnyH_take (i := 0) (v := ?_) rfl (by kernel_rfl) (by kernel_rfl) (by kernel_rfl) (fun _ _ _ h => h) (Or.inl ⟨by rfl, ?_⟩) hHeld ?_
      case refine_2 => (intro w hSw; (try dsimp only at hSw); go_simp; try (with_reducible rfl))
      (try simp only [gs])
      refine wpAnyH_take (i := 1) (v := ?_) rfl (by kernel_rfl) (by kernel_rfl) (by kernel_rfl) (fun _ _ _ h => h) (Or.inl ⟨by rfl, ?_⟩) hHeld ?_
      case refine_2 => (intro w hSw; (try dsimp only at hSw); go_simp; try (with_reducible rfl))
      (try simp only [gs])
      refine wpAnyH_take (i := 2) (v := ?_) rfl (by kernel_rfl) (by kernel_rfl) (by kernel_rfl) (fun _ _ _ h => h) (Or.inl ⟨by rfl, ?_⟩) hHeld ?_
      case refine_2 => (intro w hSw; (try dsimp only at hSw); go_simp; try (with_reducible rfl))
      (try simp only [gs])
      refine wpAnyH_take (i := 3) rfl (by kernel_rfl) (by kernel_rfl) (by kernel_rfl) (fun _ _ _ h => h) (yieldsIf_load_mid (by rfl) _ _ rfl _ _ rfl _ _ (fun _ h => h.1) Tryz.underlying56 rfl hiS) hHeld ?_
      (try simp only [gs])
      refine wpAnyH_take (i := 4) rfl (by kernel_rfl) (by kernel_rfl) (by kernel_rfl) (fun _ _ _ h => h) (yieldsIf_load_mid (by rfl) _ _ rfl _ _ rfl _ _ (fun _ h => h.2) Tryz.underlying54 rfl hiK) hHeld ?_
      (try simp only [gs])
      refine wpAnyH_ready (rs := [5]) (by kernel_rfl) (by simp) (AllReadyH.cons rfl (fun K hK => ?_) AllReadyH.nil)
      rw [if_pos (by rfl)]
      (try simp only [gs])
      go_simp
      refine (HIN.out _).mono ?_
      rintro e y ⟨rfl, b⟩
      refine hK.out _ _ ⟨range_same' hHeld.1 (b.block g (by show g < wr.heap.size; omega)), range_same' hHeld.2 (b.block w.heap.size (by show w.heap.size < wr.heap.size; omega))⟩ (fun hHeld => ?_)
      clear hK K
      (try simp only [gs])
      have HY : Hid (Below W.heap.size W y) := HL.out.1.drew.trans (b.mono (by show W.heap.size ≤ wr.heap.size; omega))
      refine wpAnyH_take (i := 6) (v := ?_) rfl (by kernel_rfl) (by kernel_rfl) (by kernel_rfl) (fun _ _ _ h => h) (Or.inl ⟨by rfl, ?_⟩) hHeld ?_
      case refine_2 => (intro w hSw; (try dsimp only at hSw); go_simp; try (with_reducible rfl))
      (try simp only [gs])
      refine wpAnyH_done (by kernel_rfl) ?_ _
      refine NoPanic.normal ?_
      cases rs with
      | true =>
        go_wp2_with fail
        go_ret
        exact ⟨by rw [show mem l (num K) = true by first | exact HH.out trivial | exact HH.out rfl]; rfl, HB.out.trans (HY.out.mono HB.out.size)⟩
      | false =>
        go_wp2_with fail
        go_roundg gg
        case measure => omega
        case rel => exact ⟨k + 1, by omega, congrArg (Value.int .i64) HKS.out, ⟨HY.out, by rw [HT.out, HL.out.2]; rfl⟩⟩
end Go.Proofs.YtdmindhjmjnagaaGreatDoor
/- Noughts that are made, and taken as a text (GENERIC). -/
namespace Go.Proofs.YtdmindhjmjnagaaGreatDoor
set_option linter.unusedVariables false
set_option maxRecDepth 100000
open Go.RowKit

theorem zr_info : (Tryz.prog.info? 5).map (fun i => (i.zero, i.size, i.bytes)) = some (some (.int .u8 0), 1, 1) := by kernel_rfl
theorem zr_cells (n : Nat) : (madeCells (Value.int .u8 0).cells (n * 1)).toList = bc (List.replicate n 0) := by
  apply List.ext_getElem
  · simp [madeCells, bc]
  · intro i h1 h2
    simp [madeCells, bc, Value.cells, Nat.mod_one]
theorem zr_make {ops : Array Oper} {rest : List Oper} {o : Oper} {a : Act} {w : World} {Q : Exit → Act → World → Prop} (l c : Operand) (hop : o.op = Op.makeSlice 49 l c) (hgd : o.guard = none) (n : Nat) (L : Int) (hl : a.eval l = .int .i64 L) (hc : a.eval c = .int .i64 L) (hL : L = (n : Int)) (b2 : n ≤ 100000)
    (h : ∀ w', w'.ownsRow w.heap.size 5 1 (.slice (some ⟨w.heap.size, 0, none⟩) n n) n (bc (List.replicate n 0)) → w.grownBy w' none → wpList Tryz.prog ops Q rest (a.put o.dst (.slice (some ⟨w.heap.size, 0, none⟩) n n)) w') : wpList Tryz.prog ops Q (o :: rest) a w := by
  obtain ⟨i0, hi, hz0, hz1, hz2⟩ := info_parts zr_info
  obtain ⟨w', hrun, r1, r2⟩ := run_make_full (P := Tryz.prog) w w.heap.size 49 5 i0 (.int .u8 0) 1 Tryz.underlying49 hi hz0 hz1 .i64 .i64 n (by rw [hz2]; omega) (by unfold maxLen; omega) (Nat.le_refl _)
  subst hL
  rw [zr_cells] at r1
  refine wpList_plain hgd fun K hK => ?_
  unfold Oper.wp
  simp [execOp, hop, hl, hc, hrun, Result.andThen]
  exact hK _ _ (h w' r1 r2)
/-- Bytes in a row of one's own, as a text. -/
theorem zr_conv {w : World} {base g n cap : Nat} {L : List UInt8} (h : w.ownsRow base 5 1 (.slice (some ⟨g, 0, none⟩) n cap) n (bc L)) :
    (convert 49 9 (.slice (some ⟨g, 0, none⟩) n cap)).run Tryz.prog w = .ok (.string (str L)) w := by
  have hn : L.length = n := by have := h.1; rw [bc_length] at this; omega
  have hr : w.rangeAt g 0 (bc L) := by
    rcases h.2 with ⟨e, _⟩ | ⟨g', cap', cur, e, h2, h3, h4, h5, h6, h7⟩
    · cases e
    · cases e
      intro j v hv
      rw [Nat.zero_add, cell_of_row _ _ _ _ _ _ h3]
      have hj : j < n * 1 := by have := (List.getElem?_eq_some_iff.1 hv).1; rw [bc_length] at this; omega
      rw [← h7, List.getElem?_take_of_lt hj] at hv
      simpa using hv
  have := run_convert_bytes_arg (P := Tryz.prog) w 49 5 Tryz.underlying49 Tryz.underlying5 g 0 n cap (L.map fun b => (b.toNat : Int)) (by simp [hn]) (fun i hi => by
    have hi' : i < L.length := by omega
    rw [hr i (.int .u8 ((L[i]).toNat : Int)) (by simp [bc, hi'])]
    simp [hi']) 9 Tryz.underlying9
  rw [str_of] at this
  exact this
end Go.Proofs.YtdmindhjmjnagaaGreatDoor
