/- A block's superblock is the one whose block it is: plain mathematics. -/
import Derived.Test.YtnpohjbhfoebcaaSupM
namespace Go.Proofs.Ytnpohjbhfoebcaa
set_option linter.unusedVariables false
open Go.RowKit

theorem got_app (x y : List UInt8) (n : Int) (h : (x.length : Int) = n) : (⟨x ++ y, false⟩ : RS).got n = x := by
  subst h
  unfold RS.got
  rw [if_neg (by simp; omega)]
  simp
theorem take_app (x y : List UInt8) (n : Int) (h : (x.length : Int) = n) : (⟨x ++ y, false⟩ : RS).take n = ⟨y, false⟩ := by
  subst h
  unfold RS.take
  rw [if_neg (by simp; omega)]
  simp
theorem i64_small {n : Nat} (h : n < 9223372036854775808) : i64 n = (n : Int) := by
  unfold i64 wrap64
  omega
theorem i64_back {n : Nat} (h : n < 18446744073709551616) (h0 : 0 ≤ i64 n) : i64 n = (n : Int) := by
  unfold i64 wrap64 at *
  omega
theorem be_len_int (v k : Nat) (n : Int) (h : n = k) : ((be v k).length : Int) = n := by rw [be_length, h]

theorem rdSnap_enc (s : Snp) (y : List UInt8) (h1 : s.n.size ≤ 18) (h2 : 0 ≤ s.r) (h3 : s.r ≤ 4294967295) (h4 : 0 ≤ s.c) (h5 : s.c ≤ 281474976710655) : rdSnap ⟨encS s ++ y, false⟩ = s ∧ rdRest ⟨encS s ++ y, false⟩ = ⟨y, false⟩ := by
  obtain ⟨n, r, c⟩ := s
  simp only at h1 h2 h3 h4 h5
  have hn : n.data.toList.length = n.size := by simp
  have e0 : encS ⟨n, r, c⟩ ++ y = be n.size 1 ++ (n.data.toList ++ (be r.toNat 4 ++ (be c.toNat 8 ++ y))) := by simp [encS]
  have g1 := got_app (be n.size 1) (n.data.toList ++ (be r.toNat 4 ++ (be c.toNat 8 ++ y))) 1 (be_len_int _ _ _ rfl)
  have t1 := take_app (be n.size 1) (n.data.toList ++ (be r.toNat 4 ++ (be c.toNat 8 ++ y))) 1 (be_len_int _ _ _ rfl)
  have m1 : num (be n.size 1) = n.size := num_be 1 n.size (by omega)
  have g2 := got_app n.data.toList (be r.toNat 4 ++ (be c.toNat 8 ++ y)) n.size (by rw [hn])
  have t2 := take_app n.data.toList (be r.toNat 4 ++ (be c.toNat 8 ++ y)) n.size (by rw [hn])
  have g3 := got_app (be r.toNat 4) (be c.toNat 8 ++ y) 4 (be_len_int _ _ _ rfl)
  have t3 := take_app (be r.toNat 4) (be c.toNat 8 ++ y) 4 (be_len_int _ _ _ rfl)
  have m3 : num (be r.toNat 4) = r.toNat := num_be 4 _ (by rw [p4]; omega)
  have g4 := got_app (be c.toNat 8) y 8 (be_len_int _ _ _ rfl)
  have t4 := take_app (be c.toNat 8) y 8 (be_len_int _ _ _ rfl)
  have m4 : num (be c.toNat 8) = c.toNat := num_be 8 _ (by rw [p8]; omega)
  rw [e0]
  constructor
  · simp only [rdSnap, RS.text, RS.atext, g1, t1, m1, g2, t2, g3, t3, m3, g4, m4, str_data]
    rw [i64_small (by omega)]
    congr 1 <;> omega
  · simp only [rdRest, RS.atext, g1, t1, m1, t2, t3, t4]
theorem rdN_enc (y : List UInt8) : ∀ (l : List Snp), (∀ s ∈ l, s.n.size ≤ 18 ∧ 0 ≤ s.r ∧ s.r ≤ 4294967295 ∧ 0 ≤ s.c ∧ s.c ≤ 281474976710655) → rdN l.length ⟨encL l ++ y, false⟩ = l ∧ rdR l.length ⟨encL l ++ y, false⟩ = ⟨y, false⟩
  | [], _ => ⟨rfl, rfl⟩
  | s :: l, h => by
    obtain ⟨h1, h2, h3, h4, h5⟩ := h s (by simp)
    have ih := rdN_enc y l fun x hx => h x (by simp [hx])
    have e : encL (s :: l) ++ y = encS s ++ (encL l ++ y) := by simp [encL]
    obtain ⟨a, b⟩ := rdSnap_enc s (encL l ++ y) h1 h2 h3 h4 h5
    rw [e, List.length_cons, rdN, rdR, a, b]
    exact ⟨by rw [ih.1], ih.2⟩

theorem readF_enc (S : Sup) (hr : right S = true) : readF (enc S) = (fieldsOf S, true) ∧ heldOf (enc S) = S.l.length := by
  have fit := fits hr
  have hlen := fit.enc
  have hB := fit.encB
  have h8 := fit.len
  have hg0 := fit.g0; have hg1 := fit.g1; have hx0 := fit.x0; have hx1 := fit.x1; have hc0 := fit.c0; have hc1 := fit.c1
  have hr0 := okRoot_bounds fit.r
  obtain ⟨Z, hZ⟩ : ∃ Z, Z = List.replicate (504 - (encB S).length) (0 : UInt8) := ⟨_, rfl⟩
  have eL : enc S = (encB S ++ Z) ++ be S.g.toNat 8 := by simp [enc, hZ]
  have hl : (encB S ++ Z).length = 504 := by simp [hZ]; omega
  have e1 : (enc S).take 504 = encB S ++ Z := by rw [eL, List.take_append_of_le_length (by omega), List.take_of_length_le (by omega)]
  have e2 : (enc S).drop 504 = be S.g.toNat 8 := by rw [eL, List.drop_append_of_le_length (by omega), List.drop_of_length_le (by omega)]; rfl
  have e3 : encB S ++ Z = be S.g.toNat 8 ++ (wain.data.toList ++ (be S.r.toNat 4 ++ (be S.x.toNat 4 ++ (be S.c.toNat 8 ++ (be S.l.length 1 ++ (encL S.l ++ Z)))))) := by simp [encB, encH]
  have g0 := got_app (be S.g.toNat 8) (wain.data.toList ++ (be S.r.toNat 4 ++ (be S.x.toNat 4 ++ (be S.c.toNat 8 ++ (be S.l.length 1 ++ (encL S.l ++ Z)))))) 8 (be_len_int _ _ _ rfl)
  have t0 := take_app (be S.g.toNat 8) (wain.data.toList ++ (be S.r.toNat 4 ++ (be S.x.toNat 4 ++ (be S.c.toNat 8 ++ (be S.l.length 1 ++ (encL S.l ++ Z)))))) 8 (be_len_int _ _ _ rfl)
  have g1 := got_app wain.data.toList (be S.r.toNat 4 ++ (be S.x.toNat 4 ++ (be S.c.toNat 8 ++ (be S.l.length 1 ++ (encL S.l ++ Z))))) 4 rfl
  have t1 := take_app wain.data.toList (be S.r.toNat 4 ++ (be S.x.toNat 4 ++ (be S.c.toNat 8 ++ (be S.l.length 1 ++ (encL S.l ++ Z))))) 4 rfl
  have g2 := got_app (be S.r.toNat 4) (be S.x.toNat 4 ++ (be S.c.toNat 8 ++ (be S.l.length 1 ++ (encL S.l ++ Z)))) 4 (be_len_int _ _ _ rfl)
  have t2 := take_app (be S.r.toNat 4) (be S.x.toNat 4 ++ (be S.c.toNat 8 ++ (be S.l.length 1 ++ (encL S.l ++ Z)))) 4 (be_len_int _ _ _ rfl)
  have g3 := got_app (be S.x.toNat 4) (be S.c.toNat 8 ++ (be S.l.length 1 ++ (encL S.l ++ Z))) 4 (be_len_int _ _ _ rfl)
  have t3 := take_app (be S.x.toNat 4) (be S.c.toNat 8 ++ (be S.l.length 1 ++ (encL S.l ++ Z))) 4 (be_len_int _ _ _ rfl)
  have g4 := got_app (be S.c.toNat 8) (be S.l.length 1 ++ (encL S.l ++ Z)) 8 (be_len_int _ _ _ rfl)
  have t4 := take_app (be S.c.toNat 8) (be S.l.length 1 ++ (encL S.l ++ Z)) 8 (be_len_int _ _ _ rfl)
  have g5 := got_app (be S.l.length 1) (encL S.l ++ Z) 1 (be_len_int _ _ _ rfl)
  have t5 := take_app (be S.l.length 1) (encL S.l ++ Z) 1 (be_len_int _ _ _ rfl)
  have gE := got_app (be S.g.toNat 8) [] 8 (be_len_int _ _ _ rfl)
  rw [List.append_nil] at gE
  have m0 : num (be S.g.toNat 8) = S.g.toNat := num_be 8 _ (by rw [p8]; omega)
  have m2 : num (be S.r.toNat 4) = S.r.toNat := num_be 4 _ (by rw [p4]; omega)
  have m3 : num (be S.x.toNat 4) = S.x.toNat := num_be 4 _ (by rw [p4]; omega)
  have m4 : num (be S.c.toNat 8) = S.c.toNat := num_be 8 _ (by rw [p8]; omega)
  have m5 : num (be S.l.length 1) = S.l.length := num_be 1 _ (by omega)
  obtain ⟨n1, n2⟩ := rdN_enc Z S.l fun s hs => fit.snap hs
  have i0 : i64 S.g.toNat = S.g := by rw [i64_small (by omega)]; omega
  have i4 : i64 S.c.toNat = S.c := by rw [i64_small (by omega)]; omega
  have c5 : rdCount ⟨encB S ++ Z, false⟩ = S.l.length := by
    rw [e3]
    simp only [rdCount, rd5, rd4, rd3, rd2, rd1, t0, t1, t2, t3, t4, g5, m5]
  have hH : rdHeld ⟨encB S ++ Z, false⟩ = S.l.length := by rw [rdHeld, c5, Nat.min_eq_left h8]
  have r6 : rd6 ⟨encB S ++ Z, false⟩ = ⟨encL S.l ++ Z, false⟩ := by
    rw [e3]
    simp only [rd6, rd5, rd4, rd3, rd2, rd1, t0, t1, t2, t3, t4, t5]
  refine ⟨?_, by rw [heldOf, if_pos hlen, e1, hH]⟩
  have j2 : ((S.r.toNat : Nat) : Int) = S.r := by omega
  have j3 : ((S.x.toNat : Nat) : Int) = S.x := by omega
  have eF : rdF ⟨encB S ++ Z, false⟩ S.l.length S.g = fieldsOf S := by
    unfold rdF fieldsOf
    rw [c5, r6, n1, e3]
    simp only [rd4, rd3, rd2, rd1, g0, t0, g1, t1, g2, t2, g3, t3, g4, m0, m2, m3, m4, i0, i4, j2, j3, str_data]
  have eZ : Z.all (· == 0) = true := by
    rw [hZ]
    simp
  rw [readF, if_pos hlen, e1, e2, hH, r6, n2, gE, m0, i0, eF]
  simp only [eZ]
  rfl
theorem of_enc (S : Sup) (hr : right S = true) : ofP (enc S) = some S := by
  obtain ⟨h1, h2⟩ := readF_enc S hr
  have h3 : says (fieldsOf S) S.l.length = S := by
    unfold says fieldsOf
    simp
  unfold ofP
  rw [h1, h2]
  simp only [h3, hr]
  simp

theorem take_good {s : RS} {n : Int} (h : (s.take n).bad = false) : s.bad = false ∧ 0 ≤ n ∧ s.l = s.got n ++ (s.take n).l ∧ ((s.got n).length : Int) = n := by
  unfold RS.take RS.got at *
  split at h
  · cases h
  · rename_i hc
    have h1 : s.bad = false := by
      cases hb : s.bad
      · rfl
      · exact absurd (Or.inl hb) hc
    rw [if_neg hc, if_neg hc]
    refine ⟨h1, by omega, by simp, ?_⟩
    simp
    omega
theorem be_num : ∀ (l : List UInt8), be (num l) l.length = l := by
  intro l
  induction hn : l.length generalizing l with
  | zero => rw [List.eq_nil_of_length_eq_zero hn]; rfl
  | succ k ih =>
    obtain ⟨b, m, rfl⟩ : ∃ b m, l = b :: m := by
      cases l with
      | nil => simp at hn
      | cons b m => exact ⟨b, m, rfl⟩
    have hm : m.length = k := by simpa using hn
    have h1 := num_lt m
    rw [hm] at h1
    have hp := pow_pos256 k
    have e1 : num (b :: m) = b.toNat * 256 ^ k + num m := by
      have : ∀ (l : List UInt8) (c : Nat), l.foldl (fun a b => 256 * a + b.toNat) c = c * 256 ^ l.length + num l := by
        intro l
        induction l with
        | nil => intro c; simp [num]
        | cons x l ih2 =>
          intro c
          have a3 : num (x :: l) = x.toNat * 256 ^ l.length + num l := by
            have := ih2 x.toNat
            simpa [num] using this
          have a4 : 256 * c * 256 ^ l.length = c * (256 ^ l.length * 256) := by rw [Nat.mul_comm 256 c, Nat.mul_assoc, Nat.mul_comm 256]
          rw [List.foldl_cons, ih2, a3, List.length_cons, Nat.pow_succ, Nat.add_mul, a4]
          omega
      have a := this m b.toNat
      rw [hm] at a
      simpa [num] using a
    have e2 : num (b :: m) / 256 ^ k = b.toNat := by
      rw [e1, Nat.mul_comm, Nat.mul_add_div hp, Nat.div_eq_of_lt h1]
      rfl
    have e3 : num (b :: m) % 256 ^ k = num m := by
      rw [e1, Nat.mul_comm, Nat.mul_add_mod, Nat.mod_eq_of_lt h1]
    rw [be, e2, ← be_mod (num (b :: m)) k k (Nat.le_refl _), e3, ih m hm]
    simp
theorem be_num_of {l : List UInt8} {k : Nat} {n : Int} (h : (l.length : Int) = n) (hk : n = k) : be (num l) k = l := by
  have : l.length = k := by omega
  rw [← this]
  exact be_num l
theorem num_lt8 {l : List UInt8} (h : (l.length : Int) = 8) : num l < 18446744073709551616 := num_small (by omega)

theorem rdSnap_back {s : RS} (h : (rdRest s).bad = false) (hc : 0 ≤ (rdSnap s).c) : s.bad = false ∧ s.l = encS (rdSnap s) ++ (rdRest s).l := by
  unfold rdRest at h
  obtain ⟨a1, _, a3, a4⟩ := take_good h
  obtain ⟨b1, _, b3, b4⟩ := take_good a1
  unfold RS.atext at b1 b3 b4
  obtain ⟨c1, _, c3, c4⟩ := take_good b1
  obtain ⟨d1, _, d3, d4⟩ := take_good c1
  refine ⟨d1, ?_⟩
  have hc2 : i64 (num ((s.atext.take 4).got 8)) = (num ((s.atext.take 4).got 8) : Int) := i64_back (num_lt8 a4) hc
  have b4' : ((s.atext.got 4).length : Int) = 4 := b4
  have f1 : be s.text.length 1 = s.got 1 := by
    have : (s.text.length : Int) = (num (s.got 1) : Int) := c4
    have h2 : s.text.length = num (s.got 1) := by omega
    rw [h2]
    exact be_num_of d4 rfl
  have e : encS (rdSnap s) = s.got 1 ++ (s.text ++ (s.atext.got 4 ++ (s.atext.take 4).got 8)) := by
    simp only [encS, rdSnap, str_size, str_list, hc2]
    rw [Int.toNat_natCast, Int.toNat_natCast, f1, be_num_of b4' rfl, be_num_of a4 rfl]
  have g1 : s.atext.l = s.atext.got 4 ++ (s.atext.take 4).l := b3
  have g2 : (s.take 1).l = s.text ++ s.atext.l := c3
  rw [e, d3, g2, g1, a3]
  simp [rdRest]
theorem rdN_back : ∀ (k : Nat) (s : RS), (rdR k s).bad = false → (∀ x ∈ rdN k s, 0 ≤ x.c) → s.bad = false ∧ s.l = encL (rdN k s) ++ (rdR k s).l
  | 0, s, h, _ => ⟨h, by simp [rdN, encL, rdR]⟩
  | k + 1, s, h, hc => by
    obtain ⟨a, b⟩ := rdN_back k (rdRest s) h fun x hx => hc x (by simp [rdN, hx])
    obtain ⟨c, d⟩ := rdSnap_back a (hc _ (by simp [rdN]))
    refine ⟨c, ?_⟩
    rw [d, b]
    simp [rdN, encL, rdR]
theorem zeros_of {l : List UInt8} (h : l.all (· == 0) = true) : l = List.replicate l.length 0 := by
  refine List.eq_replicate_iff.2 ⟨rfl, fun b hb => ?_⟩
  have := List.all_eq_true.1 h b hb
  simpa using this

theorem one_le_nonneg {n : Int} (h : 1 ≤ n) : 0 ≤ n := by omega
theorem enc_parts (G W R X C N Z D : List UInt8) (l : List Snp) (hG : G.length = 8) (hR : R.length = 4) (hX : X.length = 4) (hC : C.length = 8) (hN : N.length = 1) (hD : D.length = 8)
    (h0 : 1 ≤ i64 (num G)) (h4 : 0 ≤ i64 (num C)) (hW : str W = wain) (hn : (num N : Int) = l.length) (hE : i64 (num D) = i64 (num G)) (hZ : Z.all (· == 0) = true)
    (hl : (G ++ (W ++ (R ++ (X ++ (C ++ (N ++ (encL l ++ Z))))))).length = 504) :
    enc ⟨i64 (num G), (num R : Int), (num X : Int), i64 (num C), l⟩ = (G ++ (W ++ (R ++ (X ++ (C ++ (N ++ (encL l ++ Z))))))) ++ D := by
  have k0 : i64 (num G) = (num G : Int) := i64_back (n := num G) (num_lt8 (l := G) (by rw [hG]; rfl)) (one_le_nonneg h0)
  have k4 : i64 (num C) = (num C : Int) := i64_back (n := num C) (num_lt8 (l := C) (by rw [hC]; rfl)) h4
  have kD : i64 (num D) = (num D : Int) := i64_back (n := num D) (num_lt8 (l := D) (by rw [hD]; rfl)) (by rw [hE]; exact one_le_nonneg h0)
  have hW2 : W = wain.data.toList := by rw [← hW]; simp [str]
  have hn2 : l.length = num N := Int.ofNat_inj.1 hn.symm
  have hD2 : num D = num G := by
    rw [kD, k0] at hE
    exact Int.ofNat_inj.1 hE
  have bG : be (num G) 8 = G := by rw [← hG]; exact be_num G
  have bD : be (num G) 8 = D := by rw [← hD2, ← hD]; exact be_num D
  have bR : be (num R) 4 = R := by rw [← hR]; exact be_num R
  have bX : be (num X) 4 = X := by rw [← hX]; exact be_num X
  have bC : be (num C) 8 = C := by rw [← hC]; exact be_num C
  have bN : be (num N) 1 = N := by rw [← hN]; exact be_num N
  have eB : encB ⟨i64 (num G), (num R : Int), (num X : Int), i64 (num C), l⟩ = G ++ (W ++ (R ++ (X ++ (C ++ (N ++ encL l))))) := by
    simp only [encB, encH, k0, k4, Int.toNat_natCast, hn2]
    rw [bG, bR, bX, bC, bN, ← hW2]
    simp
  have hZl : Z.length = 504 - (encB ⟨i64 (num G), (num R : Int), (num X : Int), i64 (num C), l⟩).length := by
    rw [eB]
    simp only [List.length_append] at hl ⊢
    omega
  have hZ2 : Z = List.replicate (504 - (encB ⟨i64 (num G), (num R : Int), (num X : Int), i64 (num C), l⟩).length) 0 := by
    rw [← hZl]
    exact zeros_of hZ
  rw [enc, ← hZ2, eB]
  simp only [k0, Int.toNat_natCast]
  rw [bD]
  simp
theorem len_nat {l : List UInt8} {n : Int} {k : Nat} (h : (l.length : Int) = n) (hk : n = k) : l.length = k := by omega
theorem enc_of {L : List UInt8} {S : Sup} (h : ofP L = some S) : enc S = L := by
  have hr := ofP_right h
  have fit := fits hr
  unfold ofP at h
  split at h
  · rename_i hc
    simp only [Bool.and_eq_true, beq_iff_eq] at hc
    obtain ⟨⟨hok, _⟩, hE⟩ := hc
    cases h
    by_cases hl : L.length = 512
    · have eF : readF L = (rdF ⟨L.take 504, false⟩ (rdHeld ⟨L.take 504, false⟩) (i64 (num ((⟨L.drop 504, false⟩ : RS).got 8))), !(rdR (rdHeld ⟨L.take 504, false⟩) (rd6 ⟨L.take 504, false⟩)).bad && (rdR (rdHeld ⟨L.take 504, false⟩) (rd6 ⟨L.take 504, false⟩)).l.all (· == 0)) := by rw [readF, if_pos hl]
      have eH : heldOf L = rdHeld ⟨L.take 504, false⟩ := by rw [heldOf, if_pos hl]
      rw [eF] at hok
      rw [eF, eH] at hE hr fit ⊢
      simp only at hok hE hr fit ⊢
      have hlT : (⟨L.take 504, false⟩ : RS).l.length = 504 := by simp; omega
      have hLL : L = (⟨L.take 504, false⟩ : RS).l ++ L.drop 504 := by simp
      have hD : (L.drop 504).length = 8 := by simp; omega
      generalize (⟨L.take 504, false⟩ : RS) = s at *
      generalize L.drop 504 = D at *
      have gD : (⟨D, false⟩ : RS).got 8 = D := by
        have := got_app D [] 8 (by omega)
        rwa [List.append_nil] at this
      rw [gD] at hE hr fit ⊢
      have hM : rdHeld s ≤ 8 := Nat.min_le_right _ _
      generalize hm : rdHeld s = m at *
      have eS : says (rdF s m (i64 (num D))) m = ⟨i64 (num (s.got 8)), (num ((rd2 s).got 4) : Int), (num ((rd3 s).got 4) : Int), i64 (num ((rd4 s).got 8)), rdN m (rd6 s)⟩ := by
        simp only [says, rdF]
        rw [List.take_append_of_le_length (by rw [rdN_length]; omega), List.take_of_length_le (by rw [rdN_length]; omega)]
      rw [eS] at hE hr fit ⊢
      simp only [Bool.and_eq_true, Bool.not_eq_true'] at hok
      obtain ⟨hb, hz⟩ := hok
      obtain ⟨a0, a1⟩ := rdN_back m (rd6 s) hb fun x hx => (fit.snap hx).2.2.2.1
      obtain ⟨b0, _, b2, b3⟩ := take_good a0
      obtain ⟨c0, _, c2, c3⟩ := take_good b0
      obtain ⟨d0, _, d2, d3⟩ := take_good c0
      obtain ⟨e0, _, e2, e3⟩ := take_good d0
      obtain ⟨f0, _, f2, f3⟩ := take_good e0
      obtain ⟨g0, _, g2, g3⟩ := take_good f0
      have hlt : str ((rd1 s).got 4) = wain := by have := congrArg Fld.lt hE; simp only [fieldsOf, rdF] at this; exact this.symm
      have hcn : (rdCount s : Int) = (rdN m (rd6 s)).length := by have := congrArg Fld.n hE; simp only [fieldsOf, rdF] at this; exact this.symm
      have hee : i64 (num D) = i64 (num (s.got 8)) := by have := congrArg Fld.e hE; simp only [fieldsOf, rdF] at this; exact this.symm
      have x1 : s.l = s.got 8 ++ (rd1 s).l := g2
      have x2 : (rd1 s).l = (rd1 s).got 4 ++ (rd2 s).l := f2
      have x3 : (rd2 s).l = (rd2 s).got 4 ++ (rd3 s).l := e2
      have x4 : (rd3 s).l = (rd3 s).got 4 ++ (rd4 s).l := d2
      have x5 : (rd4 s).l = (rd4 s).got 8 ++ (rd5 s).l := c2
      have x6 : (rd5 s).l = (rd5 s).got 1 ++ (rd6 s).l := b2
      have xs : s.l = s.got 8 ++ ((rd1 s).got 4 ++ ((rd2 s).got 4 ++ ((rd3 s).got 4 ++ ((rd4 s).got 8 ++ ((rd5 s).got 1 ++ (encL (rdN m (rd6 s)) ++ (rdR m (rd6 s)).l)))))) := by
        rw [← a1, ← x6, ← x5, ← x4, ← x3, ← x2, ← x1]
      rw [xs] at hlT hLL
      have key := enc_parts (s.got 8) ((rd1 s).got 4) ((rd2 s).got 4) ((rd3 s).got 4) ((rd4 s).got 8) ((rd5 s).got 1) (rdR m (rd6 s)).l D (rdN m (rd6 s)) (len_nat g3 rfl) (len_nat e3 rfl) (len_nat d3 rfl) (len_nat c3 rfl) (len_nat b3 rfl) hD fit.g0 fit.c0 hlt hcn hee hz hlT
      exact key.trans hLL.symm
    · rw [readF, if_neg hl] at hok
      cases hok
  · cases h
theorem of_iff (L : List UInt8) (S : Sup) : ofP L = some S ↔ right S = true ∧ enc S = L := ⟨fun h => ⟨ofP_right h, enc_of h⟩, fun ⟨h1, h2⟩ => by rw [← h2]; exact of_enc S h1⟩
end Go.Proofs.Ytnpohjbhfoebcaa
