import Derived.Test.YtjhdnpplmlddaaaGreatB13
import Derived.Test.YtjhdnpplmlddaaaGreatB05
/- What the document's Of reads of a node's block: plain mathematics. -/
namespace Go.Proofs.YtjhdnpplmlddaaaGreat
set_option linter.unusedVariables false
open Go.RowKit

theorem win_mid (A M Z : List UInt8) (i n : Nat) (hi : i = A.length) (hn : n = M.length) : win (A ++ (M ++ Z)) i n = M := by
  subst hi hn
  rw [win_in (by simp), List.drop_left, List.take_left]
theorem getD_mid (A Z : List UInt8) (b : UInt8) (i : Nat) (hi : i = A.length) : (A ++ (b :: Z)).getD i 0 = b := by
  subst hi
  simp
/-- A pair, a kid at a place. -/
def pSize (L : List UInt8) (i : Nat) : Nat := (L.getD (i + 24) 0).toNat
def pOne (L : List UInt8) (i : Nat) : Pr := ⟨win L i 24, str (win L (i + 25) (pSize L i))⟩
def kOne (L : List UInt8) (i : Nat) : Kd := ⟨win L i 24, (num (win L (i + 24) 4) : Int)⟩
/-- What has been read behind k rounds, and where the next one begins. -/
def itP (L : List UInt8) : Nat → List Pr × Nat
  | 0 => ([], 4)
  | k + 1 => ((itP L k).1 ++ [pOne L (itP L k).2], (itP L k).2 + 25 + pSize L (itP L k).2)
def itK (L : List UInt8) : Nat → List Kd × Nat
  | 0 => ([], 4)
  | k + 1 => ((itK L k).1 ++ [kOne L (itK L k).2], (itK L k).2 + 28)
def parse (L : List UInt8) : Nod :=
  if L.getD 2 0 = 0 then ⟨0, (itP L (L.getD 3 0).toNat).1, []⟩ else ⟨((L.getD 2 0).toNat : Int), [], (itK L (L.getD 3 0).toNat).1⟩
theorem itP_le (L : List UInt8) : ∀ k, (itP L k).2 ≤ 4 + 280 * k
  | 0 => Nat.le_refl _
  | k + 1 => by
    have := itP_le L k
    have h : pSize L (itP L k).2 < 256 := (L.getD ((itP L k).2 + 24) 0).toNat_lt
    simp only [itP]
    omega
theorem itK_eq (L : List UInt8) : ∀ k, (itK L k).2 = 4 + 28 * k
  | 0 => rfl
  | k + 1 => by simp only [itK]; rw [itK_eq L k]; omega
theorem itP_length (L : List UInt8) : ∀ k, (itP L k).1.length = k
  | 0 => rfl
  | k + 1 => by simp [itP, itP_length L k]
theorem itK_length (L : List UInt8) : ∀ k, (itK L k).1.length = k
  | 0 => rfl
  | k + 1 => by simp [itK, itK_length L k]
theorem itP_keyed (L : List UInt8) : ∀ k, ∀ p ∈ (itP L k).1, p.k.length = 24
  | 0 => fun p hp => by cases hp
  | k + 1 => fun p hp => by
    simp only [itP, List.mem_append, List.mem_singleton] at hp
    rcases hp with hp | rfl
    · exact itP_keyed L k p hp
    · exact win_length _ _ _
theorem itK_keyed (L : List UInt8) : ∀ k, ∀ p ∈ (itK L k).1, p.k.length = 24
  | 0 => fun p hp => by cases hp
  | k + 1 => fun p hp => by
    simp only [itK, List.mem_append, List.mem_singleton] at hp
    rcases hp with hp | rfl
    · exact itK_keyed L k p hp
    · exact win_length _ _ _
theorem parse_keyed (L : List UInt8) : Keyed (parse L) := by
  unfold parse
  split
  · exact ⟨itP_keyed L _, fun p hp => by cases hp⟩
  · exact ⟨(fun p hp => by cases hp), itK_keyed L _⟩
theorem be1 (n : Nat) : be n 1 = [UInt8.ofNat n] := by simp [be]
/-- One pair in the midst. -/
theorem pOne_mid (A Z : List UInt8) (p : Pr) (i : Nat) (hi : i = A.length) (hk : p.k.length = 24) (hs : p.s.size < 256) : pOne (A ++ ((p.k ++ (be p.s.size 1 ++ p.s.data.toList)) ++ Z)) i = p ∧ pSize (A ++ ((p.k ++ (be p.s.size 1 ++ p.s.data.toList)) ++ Z)) i = p.s.size := by
  have hsz : p.s.data.toList.length = p.s.size := rfl
  have h2 : pSize (A ++ ((p.k ++ (be p.s.size 1 ++ p.s.data.toList)) ++ Z)) i = p.s.size := by
    have e : A ++ ((p.k ++ (be p.s.size 1 ++ p.s.data.toList)) ++ Z) = (A ++ p.k) ++ (UInt8.ofNat p.s.size :: (p.s.data.toList ++ Z)) := by rw [be1]; simp
    unfold pSize
    rw [e, getD_mid _ _ _ _ (by rw [List.length_append, hk, hi])]
    simp
    omega
  refine ⟨?_, h2⟩
  unfold pOne
  rw [h2]
  have e1 : win (A ++ ((p.k ++ (be p.s.size 1 ++ p.s.data.toList)) ++ Z)) i 24 = p.k := by
    rw [show A ++ ((p.k ++ (be p.s.size 1 ++ p.s.data.toList)) ++ Z) = A ++ (p.k ++ ((be p.s.size 1 ++ p.s.data.toList) ++ Z)) by simp]
    exact win_mid _ _ _ _ _ hi hk.symm
  have e2 : win (A ++ ((p.k ++ (be p.s.size 1 ++ p.s.data.toList)) ++ Z)) (i + 25) p.s.size = p.s.data.toList := by
    rw [show A ++ ((p.k ++ (be p.s.size 1 ++ p.s.data.toList)) ++ Z) = (A ++ (p.k ++ be p.s.size 1)) ++ (p.s.data.toList ++ Z) by simp]
    exact win_mid _ _ _ _ _ (by simp [hi, hk, be_length]) hsz.symm
  rw [e1, e2, str_data]
theorem kOne_mid (A Z : List UInt8) (p : Kd) (i : Nat) (hi : i = A.length) (hk : p.k.length = 24) (hn : 0 ≤ p.n ∧ p.n ≤ 4294967295) : kOne (A ++ ((p.k ++ be p.n.toNat 4) ++ Z)) i = p := by
  have e1 : win (A ++ ((p.k ++ be p.n.toNat 4) ++ Z)) i 24 = p.k := by
    rw [show A ++ ((p.k ++ be p.n.toNat 4) ++ Z) = A ++ (p.k ++ (be p.n.toNat 4 ++ Z)) by simp]
    exact win_mid _ _ _ _ _ hi hk.symm
  have e2 : win (A ++ ((p.k ++ be p.n.toNat 4) ++ Z)) (i + 24) 4 = be p.n.toNat 4 := by
    rw [show A ++ ((p.k ++ be p.n.toNat 4) ++ Z) = (A ++ p.k) ++ (be p.n.toNat 4 ++ Z) by simp]
    exact win_mid _ _ _ _ _ (by simp [hi, hk]) (be_length _ _).symm
  unfold kOne
  rw [e1, e2, num_be 4 _ (by have : (256 : Nat) ^ 4 = 4294967296 := by decide
                             omega)]
  have : ((p.n.toNat : Nat) : Int) = p.n := by omega
  rw [this]
theorem encP_app (a b : List Pr) : encP (a ++ b) = encP a ++ encP b := by simp [encP]
theorem encK_app (a b : List Kd) : encK (a ++ b) = encK a ++ encK b := by simp [encK]
theorem itP_enc (H Z : List UInt8) (hH : H.length = 4) (l : List Pr) (hk : ∀ p ∈ l, p.k.length = 24) (hs : ∀ p ∈ l, p.s.size ≤ 40) : ∀ k, k ≤ l.length → itP (H ++ (encP l ++ Z)) k = (l.take k, 4 + (encP (l.take k)).length)
  | 0, _ => by simp [itP, encP]
  | k + 1, h => by
    have hkl : k < l.length := by omega
    have ih := itP_enc H Z hH l hk hs k (by omega)
    have e : H ++ (encP l ++ Z) = (H ++ encP (l.take k)) ++ (((l[k]).k ++ (be (l[k]).s.size 1 ++ (l[k]).s.data.toList)) ++ (encP (l.drop (k + 1)) ++ Z)) := by
      have e0 : encP l = encP (l.take k) ++ (((l[k]).k ++ (be (l[k]).s.size 1 ++ (l[k]).s.data.toList)) ++ encP (l.drop (k + 1))) := by
        rw [← encP_cons, ← encP_app, ← List.drop_eq_getElem_cons hkl, List.take_append_drop]
      rw [e0]
      simp
    obtain ⟨h1, h2⟩ := pOne_mid (H ++ encP (l.take k)) (encP (l.drop (k + 1)) ++ Z) l[k] (4 + (encP (l.take k)).length) (by simp [hH]) (hk _ (List.getElem_mem _)) (by have := hs _ (List.getElem_mem hkl); omega)
    rw [← e] at h1 h2
    rw [itP, ih]
    simp only [h1, h2]
    rw [List.take_succ_eq_append_getElem hkl, encP_app]
    refine Prod.ext rfl ?_
    simp only [encP, List.flatMap_cons, List.flatMap_nil, List.append_nil, List.length_append, be_length, hk _ (List.getElem_mem hkl)]
    have : (l[k]).s.data.toList.length = (l[k]).s.size := rfl
    omega
theorem itK_enc (H Z : List UInt8) (hH : H.length = 4) (l : List Kd) (hk : ∀ p ∈ l, p.k.length = 24) (hs : ∀ p ∈ l, 2 ≤ p.n ∧ p.n ≤ 4294967295) : ∀ k, k ≤ l.length → itK (H ++ (encK l ++ Z)) k = (l.take k, 4 + (encK (l.take k)).length)
  | 0, _ => by simp [itK, encK]
  | k + 1, h => by
    have hkl : k < l.length := by omega
    have ih := itK_enc H Z hH l hk hs k (by omega)
    have e : H ++ (encK l ++ Z) = (H ++ encK (l.take k)) ++ (((l[k]).k ++ be (l[k]).n.toNat 4) ++ (encK (l.drop (k + 1)) ++ Z)) := by
      have e0 : encK l = encK (l.take k) ++ (((l[k]).k ++ be (l[k]).n.toNat 4) ++ encK (l.drop (k + 1))) := by
        rw [← encK_cons, ← encK_app, ← List.drop_eq_getElem_cons hkl, List.take_append_drop]
      rw [e0]
      simp
    have h1 := kOne_mid (H ++ encK (l.take k)) (encK (l.drop (k + 1)) ++ Z) l[k] (4 + (encK (l.take k)).length) (by simp [hH]) (hk _ (List.getElem_mem _)) (by have := hs _ (List.getElem_mem hkl); omega)
    rw [← e] at h1
    rw [itK, ih]
    simp only [h1]
    rw [List.take_succ_eq_append_getElem hkl, encK_app]
    refine Prod.ext rfl ?_
    simp only [encK, List.flatMap_cons, List.flatMap_nil, List.append_nil, List.length_append, be_length, hk _ (List.getElem_mem hkl)]
    omega
theorem head_at (x : Nod) (Z : List UInt8) (h0 : 0 ≤ x.lv) (h1 : x.lv ≤ 11) (hn : x.ps.length + x.ks.length < 256) : (encH x ++ Z).getD 2 0 = UInt8.ofNat x.lv.toNat ∧ ((encH x ++ Z).getD 3 0).toNat = x.ps.length + x.ks.length ∧ (encH x).length = 4 := by
  have e : encH x = [87, 84, UInt8.ofNat x.lv.toNat, UInt8.ofNat (x.ps.length + x.ks.length)] := by simp [encH, be1]
  rw [e]
  refine ⟨rfl, ?_, rfl⟩
  show (UInt8.ofNat (x.ps.length + x.ks.length)).toNat = _
  simp
  omega
theorem parse_enc (x : Nod) (hk : Keyed x) (hr : rightN x = true) : parse (enc x) = x := by
  have F := fits hr
  have l0 := F.l0
  have l1 := F.l1
  obtain ⟨g1, g2, g3⟩ := head_at x ((encP x.ps ++ encK x.ks) ++ List.replicate (512 - (encB x).length) 0) l0 l1 (by have := F.np; have := F.nk; omega)
  have e : enc x = encH x ++ ((encP x.ps ++ encK x.ks) ++ List.replicate (512 - (encB x).length) 0) := by simp [enc, encB]
  unfold parse
  rw [e, g1, g2]
  obtain ⟨lv, ps, ks⟩ := x
  simp only at *
  by_cases hl : lv = 0
  · subst hl
    have hks : ks = [] := by
      have := hr
      simp [rightN] at this
      exact this.1
    subst hks
    rw [if_pos (show UInt8.ofNat (Int.toNat 0) = 0 from rfl)]
    have h := itP_enc (encH ⟨0, ps, []⟩) (List.replicate (512 - (encB ⟨0, ps, []⟩).length) 0) g3 ps hk.1 F.vs ps.length (Nat.le_refl _)
    simp only [encK, List.flatMap_nil, List.append_nil, List.length_nil, Nat.add_zero]
    rw [h, List.take_length]
  · have hps : ps = [] := by
      have := hr
      simp [rightN, hl, show ¬ (lv < 0 ∨ 12 ≤ lv) by omega] at this
      exact this.1
    subst hps
    have hne : ¬ UInt8.ofNat lv.toNat = 0 := fun h0 => by
      have := congrArg UInt8.toNat h0
      simp at this
      omega
    rw [if_neg hne]
    have h := itK_enc (encH ⟨lv, [], ks⟩) (List.replicate (512 - (encB ⟨lv, [], ks⟩).length) 0) g3 ks hk.2 F.bs ks.length (Nat.le_refl _)
    have hlv : ((UInt8.ofNat lv.toNat).toNat : Int) = lv := by simp; omega
    simp only [encP, List.flatMap_nil, List.nil_append, List.length_nil, Nat.zero_add]
    rw [h, List.take_length, hlv]
theorem parse_of (L : List UInt8) : ofN L = if rightN (parse L) = true ∧ enc (parse L) = L then some (parse L) else none := by
  split
  · rename_i h
    exact (of_iff _ _).2 ⟨h.1, parse_keyed L, h.2⟩
  · rename_i h
    cases h2 : ofN L with
    | none => rfl
    | some y =>
      obtain ⟨a, b, c⟩ := enc_of h2
      have e : parse L = y := by rw [← c]; exact parse_enc y b a
      exact absurd ⟨by rw [e]; exact a, by rw [e]; exact c⟩ h
end Go.Proofs.YtjhdnpplmlddaaaGreat
