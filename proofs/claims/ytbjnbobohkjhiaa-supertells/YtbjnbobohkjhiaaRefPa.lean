/- What the document's Of reads out of a block: plain mathematics. -/
import Derived.Test.YtbjnbobohkjhiaaRefGt
namespace Go.Proofs.Ytbjnbobohkjhiaa
set_option linter.unusedVariables false
open Go.RowKit

def rlen (L : List UInt8) (p : Nat) : Nat := num (win L p 1)
def rsnap (L : List UInt8) (p : Nat) : Snp := ⟨str (cutP L (p + 1) (rlen L p)), getP L (p + 1 + rlen L p) 4, getP L (p + 5 + rlen L p) 8⟩
def rnext (L : List UInt8) (p : Nat) : Nat := p + 13 + rlen L p
def rlist (L : List UInt8) : Nat → Nat → List Snp
  | 0, _ => []
  | k + 1, p => rsnap L p :: rlist L k (rnext L p)
def rpos (L : List UInt8) : Nat → Nat → Nat
  | 0, p => p
  | k + 1, p => rpos L k (rnext L p)
def parse (L : List UInt8) : Sup := ⟨getP L 0 8, getP L 12 4, getP L 16 4, getP L 20 8, rlist L (rlen L 28) 29⟩
theorem rlist_succ (L : List UInt8) : ∀ (k p : Nat), rlist L (k + 1) p = rlist L k p ++ [rsnap L (rpos L k p)]
  | 0, p => rfl
  | k + 1, p => by rw [rlist, rlist_succ L k (rnext L p)]; rfl
theorem rpos_succ (L : List UInt8) : ∀ (k p : Nat), rpos L (k + 1) p = rnext L (rpos L k p)
  | 0, p => rfl
  | k + 1, p => by rw [rpos, rpos_succ L k (rnext L p)]; rfl
theorem rlen_lt (L : List UInt8) (p : Nat) : rlen L p < 256 := by
  have := num_lt (win L p 1)
  rw [win_length] at this
  simpa [rlen] using this
theorem getP_one (L : List UInt8) (p : Nat) : getP L p 1 = (rlen L p : Int) := by
  have := rlen_lt L p
  unfold getP
  exact i64_small (by unfold rlen at this; omega)
theorem rlist_length (L : List UInt8) : ∀ (k p : Nat), (rlist L k p).length = k
  | 0, p => rfl
  | k + 1, p => by simp [rlist, rlist_length L k]
theorem rpos_le (L : List UInt8) : ∀ (k p : Nat), rpos L k p ≤ p + 268 * k
  | 0, p => by simp [rpos]
  | k + 1, p => by
    have h1 := rpos_le L k (rnext L p)
    have h2 := rlen_lt L p
    rw [rpos]
    unfold rnext at h1 ⊢
    omega

/-- Bytes that lie in the midst of others. -/
theorem win_mid {L A x B : List UInt8} {p : Nat} {k : Nat} (h : L = A ++ (x ++ B)) (hp : A.length = p) (hk : x.length = k) : win L p k = x := by
  subst h hp hk
  rw [win_in (by simp)]
  simp
theorem getP_mid {L A x B : List UInt8} {p k : Nat} {n : Int} (h : L = A ++ (x ++ B)) (hp : A.length = p) (hx : x = be n.toNat k) (h0 : 0 ≤ n) (hn : n.toNat < 256 ^ k) (h63 : n ≤ 9223372036854775807) : getP L p k = n := by
  have hk : x.length = k := by rw [hx, be_length]
  rw [getP, win_mid h hp hk, hx, num_be k _ hn, i64_small (by omega)]
  omega
theorem rlen_mid {L A B : List UInt8} {p n : Nat} (h : L = A ++ (be n 1 ++ B)) (hp : A.length = p) (hn : n < 256) : rlen L p = n := by
  rw [rlen, win_mid h hp (be_length n 1), num_be 1 n (by omega)]
theorem cut_mid {L A x B : List UInt8} {p k : Nat} (h : L = A ++ (x ++ B)) (hp : A.length = p) (hk : x.length = k) : cutP L p k = x := by
  subst h hp hk
  rw [cutP, if_neg (by simp)]
  simp
theorem rlist_enc : ∀ (l : List Snp) (L A B : List UInt8) (p : Nat), (∀ s ∈ l, s.n.size ≤ 18 ∧ 0 ≤ s.r ∧ s.r ≤ 4294967295 ∧ 0 ≤ s.c ∧ s.c ≤ 281474976710655) → L = A ++ (encL l ++ B) → A.length = p → rlist L l.length p = l
  | [], _, _, _, _, _, _, _ => rfl
  | s :: l, L, A, B, p, hs, h, hp => by
    obtain ⟨h1, h2, h3, h4, h5⟩ := hs s (by simp)
    have hnl : s.n.data.toList.length = s.n.size := by simp
    have e0 : L = A ++ (be s.n.size 1 ++ (s.n.data.toList ++ (be s.r.toNat 4 ++ (be s.c.toNat 8 ++ (encL l ++ B))))) := by rw [h]; simp [encL, encS]
    have e1 : L = (A ++ be s.n.size 1) ++ (s.n.data.toList ++ (be s.r.toNat 4 ++ (be s.c.toNat 8 ++ (encL l ++ B)))) := by rw [e0]; simp
    have e2 : L = (A ++ be s.n.size 1 ++ s.n.data.toList) ++ (be s.r.toNat 4 ++ (be s.c.toNat 8 ++ (encL l ++ B))) := by rw [e0]; simp
    have e3 : L = (A ++ be s.n.size 1 ++ s.n.data.toList ++ be s.r.toNat 4) ++ (be s.c.toNat 8 ++ (encL l ++ B)) := by rw [e0]; simp
    have e4 : L = (A ++ be s.n.size 1 ++ s.n.data.toList ++ be s.r.toNat 4 ++ be s.c.toNat 8) ++ (encL l ++ B) := by rw [e0]; simp
    have r1 : rlen L p = s.n.size := rlen_mid e0 hp (by omega)
    have r2 : cutP L (p + 1) s.n.size = s.n.data.toList := cut_mid e1 (by simp [be_length, hp]) hnl
    have r3 : getP L (p + 1 + s.n.size) 4 = s.r := getP_mid e2 (by simp [be_length, hp]; omega) rfl h2 (by rw [p4]; omega) (by omega)
    have r4 : getP L (p + 5 + s.n.size) 8 = s.c := getP_mid e3 (by simp [be_length, hp]; omega) rfl h4 (by rw [p8]; omega) (by omega)
    have ih := rlist_enc l L _ B (rnext L p) (fun x hx => hs x (by simp [hx])) e4 (by rw [rnext, r1]; simp [be_length, hp]; omega)
    rw [List.length_cons, rlist, ih, rsnap, r1, r2, r3, r4, str_data]
theorem parse_enc (S : Sup) (hr : right S = true) : parse (enc S) = S := by
  have fit := fits hr
  have hb := okRoot_bounds fit.r
  have hg0 := fit.g0; have hg1 := fit.g1; have hx0 := fit.x0; have hx1 := fit.x1; have hc0 := fit.c0; have hc1 := fit.c1; have h8 := fit.len
  obtain ⟨Z, hZ⟩ : ∃ Z, Z = List.replicate (504 - (encB S).length) (0 : UInt8) ++ be S.g.toNat 8 := ⟨_, rfl⟩
  have e0 : enc S = [] ++ (be S.g.toNat 8 ++ (wain.data.toList ++ (be S.r.toNat 4 ++ (be S.x.toNat 4 ++ (be S.c.toNat 8 ++ (be S.l.length 1 ++ (encL S.l ++ Z))))))) := by rw [enc, ← hZ, encB, encH]; simp
  have e1 : enc S = (be S.g.toNat 8 ++ wain.data.toList) ++ (be S.r.toNat 4 ++ (be S.x.toNat 4 ++ (be S.c.toNat 8 ++ (be S.l.length 1 ++ (encL S.l ++ Z))))) := by rw [e0]; simp
  have e2 : enc S = (be S.g.toNat 8 ++ wain.data.toList ++ be S.r.toNat 4) ++ (be S.x.toNat 4 ++ (be S.c.toNat 8 ++ (be S.l.length 1 ++ (encL S.l ++ Z)))) := by rw [e0]; simp
  have e3 : enc S = (be S.g.toNat 8 ++ wain.data.toList ++ be S.r.toNat 4 ++ be S.x.toNat 4) ++ (be S.c.toNat 8 ++ (be S.l.length 1 ++ (encL S.l ++ Z))) := by rw [e0]; simp
  have e4 : enc S = (be S.g.toNat 8 ++ wain.data.toList ++ be S.r.toNat 4 ++ be S.x.toNat 4 ++ be S.c.toNat 8) ++ (be S.l.length 1 ++ (encL S.l ++ Z)) := by rw [e0]; simp
  have e5 : enc S = (be S.g.toNat 8 ++ wain.data.toList ++ be S.r.toNat 4 ++ be S.x.toNat 4 ++ be S.c.toNat 8 ++ be S.l.length 1) ++ (encL S.l ++ Z) := by rw [e0]; simp
  have hw : wain.data.toList.length = 4 := rfl
  have r0 : getP (enc S) 0 8 = S.g := getP_mid e0 rfl rfl (by omega) (by rw [p8]; omega) (by omega)
  have r1 : getP (enc S) 12 4 = S.r := getP_mid e1 (by simp [be_length, hw]) rfl hb.1 (by rw [p4]; omega) (by omega)
  have r2 : getP (enc S) 16 4 = S.x := getP_mid e2 (by simp [be_length, hw]) rfl (by omega) (by rw [p4]; omega) (by omega)
  have r3 : getP (enc S) 20 8 = S.c := getP_mid e3 (by simp [be_length, hw]) rfl hc0 (by rw [p8]; omega) (by omega)
  have r4 : rlen (enc S) 28 = S.l.length := rlen_mid e4 (by simp [be_length, hw]) (by omega)
  have r5 : rlist (enc S) S.l.length 29 = S.l := rlist_enc S.l (enc S) _ Z 29 (fun s hs => fit.snap hs) e5 (by simp [be_length, hw])
  rw [parse, r0, r1, r2, r3, r4, r5]
/-- The document's Of gives what the landed one gives. -/
theorem parse_of (L : List UInt8) : ofP L = if right (parse L) = true ∧ enc (parse L) = L then some (parse L) else none := by
  split
  · rename_i h
    exact (of_iff _ _).2 h
  · rename_i h
    cases ho : ofP L with
    | none => rfl
    | some S =>
      obtain ⟨h1, h2⟩ := (of_iff _ _).1 ho
      refine absurd ?_ h
      rw [← h2, parse_enc S h1]
      exact ⟨h1, rfl⟩
end Go.Proofs.Ytbjnbobohkjhiaa
