import Derived.Test.YtjhdnpplmlddaaaGreatB34
/- crown of package tree. -/
namespace Go.Proofs.YtjhdnpplmlddaaaGreat
set_option linter.unusedVariables false
open Go.RowKit

theorem down_stop (f : Nat) (row : List (Pc Pq)) (k : Nat) (h : row.length ≠ 1 ∨ ∃ p, row = [p] ∧ (kidsOf p).length ≠ 1) : downGo (f + 1) row k = (row, k) := by
  unfold downGo
  split
  · rename_i a p
    rcases h with h | ⟨q, e, h⟩
    · exact absurd rfl h
    · cases e
      exact absurd rfl h
  · rfl
theorem share_len_le {α : Type} (l : List α) : (shareP l 18).length ≤ l.length := by
  rw [share_length]
  omega
set_option maxRecDepth 100000 in
set_option maxHeartbeats 8000000 in
theorem crown_calls (w : World) (v : Value) (xs : List Pv) (ks : List (Pc Pq)) (d : Nat) (h : Sl encPv w v xs) (hr : RowIn w w.heap.size d ks xs) (hl : xs.length ≤ 100000) (hd : d ≤ 11) :
    Calls Tryz.prog 47 #[v, .int .i64 (d : Int)] w fun e w' => ∃ v' ys, e = .returned (.tuple #[v', .int .i64 ((crownP ks d).2 : Int)]) ∧ Sl encPv w' v' ys ∧ RowIn w' w'.heap.size (crownP ks d).2 (crownP ks d).1 ys ∧ Below w.heap.size w w' := by
  have h' := h
  obtain ⟨ad, cap, rfl, _⟩ := h'
  obtain ⟨n, hn⟩ : ∃ n : Nat, n = xs.length := ⟨_, rfl⟩
  rw [← hn] at h ⊢
  have HST : Hid (∃ row xs, upGo 12 row d = upGo 12 ks d ∧ Sl encPv w (.slice ad n cap) xs ∧ RowIn w w.heap.size d row xs ∧ Below w.heap.size w w ∧ (d ≤ 11 ∧ 12 ≤ d + 12 + 1) ∧ xs.length ≤ 100000) := ⟨ks, xs, rfl, h, hr, Below.refl _ _, ⟨hd, by omega⟩, hl⟩
  clear h hr hl hn
  go_enter Tryz.func47, Tryz.ntmps47
  go_wp2_with fail
  go_loopg [0, 1] 12 (fun f v0 v1 wr => ∃ (k n0 c0 : Nat) (a0 : Option Addr), v0 = .slice a0 n0 c0 ∧ v1 = .int .i64 (k : Int) ∧ Hid (∃ row xs, upGo f row k = upGo 12 ks d ∧ Sl encPv wr (.slice a0 n0 c0) xs ∧ RowIn wr wr.heap.size k row xs ∧ Below w.heap.size w wr ∧ (k ≤ 11 ∧ 12 ≤ k + f + 1) ∧ xs.length ≤ 100000))
  case atStart => exact ⟨d, n, cap, ad, rfl, rfl, HST.out⟩
  case round =>
    obtain ⟨k, n0, c0, a0, rfl, rfl, HS⟩ := hrel
    clear HST
    have hk11 : (k : Int) ≤ 11 := by obtain ⟨_, _, _, _, _, _, q, _⟩ := HS.out; omega
    by_cases hcond : 1 < n0 ∧ k + 1 < 12
    · have h1 : (n0 : Int) > 1 := by omega
      have h2 : (k : Int) + 1 < 12 := by omega
      cases gk with
      | zero => obtain ⟨_, _, _, _, _, _, q, _⟩ := HS.out; omega
      | succ f =>
        obtain ⟨row, xs, e1, e2, e3, e4, e5, e6⟩ := HS.out
        have HI := inners_calls wr (.slice a0 n0 c0) xs row k e2 e3 e6
        have hn0 : n0 = xs.length := by obtain ⟨_, _, e, _⟩ := e2; injection e
        have HU : Hid (upGo f (innersP row) (k + 1) = upGo 12 ks d) := (show _ = _ by rw [← e1, upGo, if_pos ⟨by rw [← e3.1, ← hn0]; exact hcond.1, hcond.2⟩])
        have HB : Hid (Below w.heap.size w wr ∧ xs.length ≤ 100000 ∧ xs.length = row.length) := ⟨e4, e6, e3.1⟩
        clear e1 e2 e3 e4 e6 HS hn0
        go_wp2_with fail
        refine HI.mono ?_
        rintro e w1 ⟨v1, ys, rfl, ho, hrw, hb⟩
        clear HI
        obtain ⟨a1, c1, rfl⟩ := ho.form
        go_wp2_with fail
        go_roundg f
        case measure => omega
        case rel =>
          refine ⟨k + 1, _, _, _, rfl, congrArg (Value.int .i64) (by first | omega | (unfold wrap64; omega)), innersP row, ys, HU.out, ho.slB, hrw.kept hb.block hb.size, HB.out.1.trans (hb.mono HB.out.1.size), by omega, ?_⟩
          have h3 := hrw.1
          have h4 := share_len_le row
          rw [innersP, List.length_map] at h3
          have := HB.out
          omega
    · have HUP : Hid (∀ (row : List (Pc Pq)) (xs : List Pv), RowIn wr wr.heap.size k row xs → Sl encPv wr (.slice a0 n0 c0) xs → upGo gk row k = (row, k)) := fun row xs q1 q2 => by
        have hn0 : n0 = xs.length := by obtain ⟨_, _, e, _⟩ := q2; injection e
        cases gk with
        | zero => rfl
        | succ f => rw [upGo, if_neg (by rw [← q1.1, ← hn0]; exact hcond)]
      by_cases h1 : 1 < n0
      · have h2 : (n0 : Int) > 1 := by omega
        have h3 : ¬ (k : Int) + 1 < 12 := by omega
        go_wp2_with fail
        have HD0 : Hid (∃ row xs, downGo 12 row k = crownP ks d ∧ Sl encPv wr (.slice a0 n0 c0) xs ∧ RowIn wr wr.heap.size k row xs ∧ Below w.heap.size w wr ∧ (k < 12 ∧ 12 ≤ 12)) := (by
          obtain ⟨row, xs, e1, e2, e3, e4, e5, e6⟩ := HS.out
          refine ⟨row, xs, ?_, e2, e3, e4, by omega⟩
          rw [crownP, ← e1]
          show downGo 12 row k = downGo 12 (upGo _ row k).1 (upGo _ row k).2
          rw [HUP.out row xs e3 e2])
        clear HS HUP
        go_loopg [0, 1] 12 (fun f v0 v1 wr => ∃ (k n0 c0 : Nat) (a0 : Option Addr), v0 = .slice a0 n0 c0 ∧ v1 = .int .i64 (k : Int) ∧ Hid (∃ row xs, downGo f row k = crownP ks d ∧ Sl encPv wr (.slice a0 n0 c0) xs ∧ RowIn wr wr.heap.size k row xs ∧ Below w.heap.size w wr ∧ (k < f ∧ f ≤ 12)))
        case atStart => exact ⟨k, n0, c0, a0, rfl, rfl, HD0.out⟩
        case round =>
          clear HD0 hcond
          obtain ⟨k, n0, c0, a0, rfl, rfl, HS⟩ := hrel
          obtain ⟨row, xs, e1, e2, e3, e4, e5⟩ := HS.out
          have hn0 : n0 = xs.length := by obtain ⟨_, _, e, _⟩ := e2; injection e
          cases gk with
          | zero => omega
          | succ f =>
            by_cases h1 : xs.length = 1
            · obtain ⟨x, rfl⟩ : ∃ x, xs = [x] := by
                match xs, h1 with
                | [x], _ => exact ⟨x, rfl⟩
              obtain ⟨p, rfl⟩ : ∃ p, row = [p] := by
                have := e3.1
                match row, this with
                | [p], _ => exact ⟨p, rfl⟩
              have hpx : PcIn wr wr.heap.size k p x := e3.2 0 (by simp) (by simp)
              have hkl := kids_len hpx
              have hn1 : ((n0 : Int) == 1) = true := by rw [hn0]; rfl
              have hn0p : (0 : Int) < (n0 : Int) := by rw [hn0]; simp
              have hn0N : 0 < n0 := by rw [hn0]; simp
              obtain ⟨g0, off, rfl, hg0, hat⟩ := SlB.at e2 0 (by simp)
              rw [Nat.zero_mul, Nat.add_zero] at hat
              have hc26 := (range_vV hat).2.2
              obtain ⟨⟨aK, nK, cK⟩, hK⟩ : ∃ q, q = x.ks := ⟨_, rfl⟩
              rw [List.getElem_cons_zero, ← hK] at hc26
              rw [← hK] at hkl
              simp only [slv] at hc26
              have hkl' : nK = (kidsOf p).length := hkl
              have HE : Hid (downGo (f + 1) [p] k = crownP ks d ∧ Sl encPv wr (.slice (some ⟨g0, off, none⟩) n0 c0) [x] ∧ RowIn wr wr.heap.size k [p] [x] ∧ Below w.heap.size w wr ∧ (k < f + 1 ∧ f + 1 ≤ 12) ∧ (aK, nK, cK) = x.ks ∧ PcIn wr wr.heap.size k p x) := ⟨e1, e2, e3, e4, e5, hK, hpx⟩
              by_cases h2 : nK = 1
              · have hk1 : ((nK : Int) == 1) = true := by rw [h2]; rfl
                have HN : Hid (∃ q k', k = k' + 1 ∧ downGo f [q] k' = crownP ks d ∧ ∃ y, Sl encPv wr (.slice aK nK cK) [y] ∧ RowIn wr wr.heap.size k' [q] [y]) := (by
                  match k, p, hpx, e1, e5 with
                  | 0, .stay _ _, _, _, _ => rw [h2] at hkl'; cases hkl'
                  | _ + 1, .stay _ _, _, _, _ => rw [h2] at hkl'; cases hkl'
                  | 0, .leaf _ _, _, _, _ => rw [h2] at hkl'; cases hkl'
                  | _ + 1, .leaf _ _, _, _, _ => rw [h2] at hkl'; cases hkl'
                  | 0, .inner _ _, hpx, _, _ => exact hpx.elim
                  | k' + 1, .inner _ kk, hpx, e1, e5 =>
                    have hkk : kk.length = 1 := by rw [h2] at hkl'; exact hkl'.symm
                    obtain ⟨q, rfl⟩ : ∃ q, kk = [q] := by
                      match kk, hkk with
                      | [q], _ => exact ⟨q, rfl⟩
                    obtain ⟨_, _, _, ys, s1, s2, s3⟩ := hpx
                    obtain ⟨y, rfl⟩ : ∃ y, ys = [y] := by
                      match ys, s2 with
                      | [y], _ => exact ⟨y, rfl⟩
                    rw [← hK] at s1
                    exact ⟨q, k', rfl, e1, y, s1, rfl, s3⟩)
                have hkI : (1 : Int) ≤ (k : Int) := by obtain ⟨q, k', e, _⟩ := HN.out; omega
                have hkI2 : (k : Int) ≤ 100 := by obtain ⟨_, _, _, _, q, _⟩ := HE.out; omega
                clear e1 e2 e3 e4 hpx hkl hat hK hkl' h1 h2 HS
                go_wp2_with fail
                go_roundg f
                case measure => omega
                case rel =>
                  obtain ⟨q, k', e, s1, y, s2, s3⟩ := HN.out
                  exact ⟨k', nK, cK, aK, rfl, congrArg (Value.int .i64) (by first | omega | (unfold wrap64; omega)), [q], [y], s1, s2, s3, HE.out.2.2.2.1, by have := HE.out.2.2.2.2.1; omega⟩
              · have hk1 : ((nK : Int) == 1) = false := by simp; omega
                have HST : Hid (crownP ks d = ([p], k)) := (show _ = _ by rw [← e1]; exact down_stop f _ k (.inr ⟨p, rfl, by rw [← hkl']; exact h2⟩))
                clear e1 e2 e3 e4 hpx hkl hat hK hkl' h1 h2 HS
                go_wp2_with fail
                go_ret2
                rw [HST.out]
                exact ⟨_, [x], rfl, HE.out.2.1, HE.out.2.2.1, HE.out.2.2.2.1⟩
            · have hn1 : ((n0 : Int) == 1) = false := by rw [hn0]; simp; omega
              have HE : Hid (Sl encPv wr (.slice a0 n0 c0) xs ∧ RowIn wr wr.heap.size k row xs ∧ Below w.heap.size w wr) := ⟨e2, e3, e4⟩
              have HST : Hid (crownP ks d = (row, k)) := (show _ = _ by rw [← e1]; exact down_stop f _ k (.inl (by rw [← e3.1]; exact h1)))
              clear e1 e2 e3 e4 h1 HS hn0
              go_wp2_with fail
              go_ret2
              rw [HST.out]
              exact ⟨_, xs, rfl, HE.out.1, HE.out.2.1, HE.out.2.2⟩
      · have h2 : ¬ (n0 : Int) > 1 := by omega
        go_wp2_with fail
        have HD0 : Hid (∃ row xs, downGo 12 row k = crownP ks d ∧ Sl encPv wr (.slice a0 n0 c0) xs ∧ RowIn wr wr.heap.size k row xs ∧ Below w.heap.size w wr ∧ (k < 12 ∧ 12 ≤ 12)) := (by
          obtain ⟨row, xs, e1, e2, e3, e4, e5, e6⟩ := HS.out
          refine ⟨row, xs, ?_, e2, e3, e4, by omega⟩
          rw [crownP, ← e1]
          show downGo 12 row k = downGo 12 (upGo _ row k).1 (upGo _ row k).2
          rw [HUP.out row xs e3 e2])
        clear HS HUP
        go_loopg [0, 1] 12 (fun f v0 v1 wr => ∃ (k n0 c0 : Nat) (a0 : Option Addr), v0 = .slice a0 n0 c0 ∧ v1 = .int .i64 (k : Int) ∧ Hid (∃ row xs, downGo f row k = crownP ks d ∧ Sl encPv wr (.slice a0 n0 c0) xs ∧ RowIn wr wr.heap.size k row xs ∧ Below w.heap.size w wr ∧ (k < f ∧ f ≤ 12)))
        case atStart => exact ⟨k, n0, c0, a0, rfl, rfl, HD0.out⟩
        case round =>
          clear HD0 hcond
          obtain ⟨k, n0, c0, a0, rfl, rfl, HS⟩ := hrel
          obtain ⟨row, xs, e1, e2, e3, e4, e5⟩ := HS.out
          have hn0 : n0 = xs.length := by obtain ⟨_, _, e, _⟩ := e2; injection e
          cases gk with
          | zero => omega
          | succ f =>
            by_cases h1 : xs.length = 1
            · obtain ⟨x, rfl⟩ : ∃ x, xs = [x] := by
                match xs, h1 with
                | [x], _ => exact ⟨x, rfl⟩
              obtain ⟨p, rfl⟩ : ∃ p, row = [p] := by
                have := e3.1
                match row, this with
                | [p], _ => exact ⟨p, rfl⟩
              have hpx : PcIn wr wr.heap.size k p x := e3.2 0 (by simp) (by simp)
              have hkl := kids_len hpx
              have hn1 : ((n0 : Int) == 1) = true := by rw [hn0]; rfl
              have hn0p : (0 : Int) < (n0 : Int) := by rw [hn0]; simp
              have hn0N : 0 < n0 := by rw [hn0]; simp
              obtain ⟨g0, off, rfl, hg0, hat⟩ := SlB.at e2 0 (by simp)
              rw [Nat.zero_mul, Nat.add_zero] at hat
              have hc26 := (range_vV hat).2.2
              obtain ⟨⟨aK, nK, cK⟩, hK⟩ : ∃ q, q = x.ks := ⟨_, rfl⟩
              rw [List.getElem_cons_zero, ← hK] at hc26
              rw [← hK] at hkl
              simp only [slv] at hc26
              have hkl' : nK = (kidsOf p).length := hkl
              have HE : Hid (downGo (f + 1) [p] k = crownP ks d ∧ Sl encPv wr (.slice (some ⟨g0, off, none⟩) n0 c0) [x] ∧ RowIn wr wr.heap.size k [p] [x] ∧ Below w.heap.size w wr ∧ (k < f + 1 ∧ f + 1 ≤ 12) ∧ (aK, nK, cK) = x.ks ∧ PcIn wr wr.heap.size k p x) := ⟨e1, e2, e3, e4, e5, hK, hpx⟩
              by_cases h2 : nK = 1
              · have hk1 : ((nK : Int) == 1) = true := by rw [h2]; rfl
                have HN : Hid (∃ q k', k = k' + 1 ∧ downGo f [q] k' = crownP ks d ∧ ∃ y, Sl encPv wr (.slice aK nK cK) [y] ∧ RowIn wr wr.heap.size k' [q] [y]) := (by
                  match k, p, hpx, e1, e5 with
                  | 0, .stay _ _, _, _, _ => rw [h2] at hkl'; cases hkl'
                  | _ + 1, .stay _ _, _, _, _ => rw [h2] at hkl'; cases hkl'
                  | 0, .leaf _ _, _, _, _ => rw [h2] at hkl'; cases hkl'
                  | _ + 1, .leaf _ _, _, _, _ => rw [h2] at hkl'; cases hkl'
                  | 0, .inner _ _, hpx, _, _ => exact hpx.elim
                  | k' + 1, .inner _ kk, hpx, e1, e5 =>
                    have hkk : kk.length = 1 := by rw [h2] at hkl'; exact hkl'.symm
                    obtain ⟨q, rfl⟩ : ∃ q, kk = [q] := by
                      match kk, hkk with
                      | [q], _ => exact ⟨q, rfl⟩
                    obtain ⟨_, _, _, ys, s1, s2, s3⟩ := hpx
                    obtain ⟨y, rfl⟩ : ∃ y, ys = [y] := by
                      match ys, s2 with
                      | [y], _ => exact ⟨y, rfl⟩
                    rw [← hK] at s1
                    exact ⟨q, k', rfl, e1, y, s1, rfl, s3⟩)
                have hkI : (1 : Int) ≤ (k : Int) := by obtain ⟨q, k', e, _⟩ := HN.out; omega
                have hkI2 : (k : Int) ≤ 100 := by obtain ⟨_, _, _, _, q, _⟩ := HE.out; omega
                clear e1 e2 e3 e4 hpx hkl hat hK hkl' h1 h2 HS
                go_wp2_with fail
                go_roundg f
                case measure => omega
                case rel =>
                  obtain ⟨q, k', e, s1, y, s2, s3⟩ := HN.out
                  exact ⟨k', nK, cK, aK, rfl, congrArg (Value.int .i64) (by first | omega | (unfold wrap64; omega)), [q], [y], s1, s2, s3, HE.out.2.2.2.1, by have := HE.out.2.2.2.2.1; omega⟩
              · have hk1 : ((nK : Int) == 1) = false := by simp; omega
                have HST : Hid (crownP ks d = ([p], k)) := (show _ = _ by rw [← e1]; exact down_stop f _ k (.inr ⟨p, rfl, by rw [← hkl']; exact h2⟩))
                clear e1 e2 e3 e4 hpx hkl hat hK hkl' h1 h2 HS
                go_wp2_with fail
                go_ret2
                rw [HST.out]
                exact ⟨_, [x], rfl, HE.out.2.1, HE.out.2.2.1, HE.out.2.2.2.1⟩
            · have hn1 : ((n0 : Int) == 1) = false := by rw [hn0]; simp; omega
              have HE : Hid (Sl encPv wr (.slice a0 n0 c0) xs ∧ RowIn wr wr.heap.size k row xs ∧ Below w.heap.size w wr) := ⟨e2, e3, e4⟩
              have HST : Hid (crownP ks d = (row, k)) := (show _ = _ by rw [← e1]; exact down_stop f _ k (.inl (by rw [← e3.1]; exact h1)))
              clear e1 e2 e3 e4 h1 HS hn0
              go_wp2_with fail
              go_ret2
              rw [HST.out]
              exact ⟨_, xs, rfl, HE.out.1, HE.out.2.1, HE.out.2.2⟩
end Go.Proofs.YtjhdnpplmlddaaaGreat
