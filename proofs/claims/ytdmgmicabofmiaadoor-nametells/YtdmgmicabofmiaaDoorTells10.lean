/- Names and paths are what the document says. -/
import Derived.Test.YtdmgmicabofmiaaDoorNaZ
namespace Go.Proofs.YtdmgmicabofmiaaDoor
set_option linter.unusedVariables false
open Go.RowKit

/-- What Split tells, whichever: a slice and whether it is a path. -/
theorem splitTo_open {w w' : World} {s : ByteArray} {e : Ending} (h : SplitTo w s e w') : ∃ (v : Value) (l : List ByteArray) (ok : Bool), e = .returned (.tuple #[v, .bool ok]) ∧ Sl encS w' v l ∧ Below w.heap.size w w' ∧ ((ok = true ∧ splitP s.data.toList = some (bl l)) ∨ (ok = false ∧ l = [] ∧ splitP s.data.toList = none)) := by
  obtain ⟨b, ⟨v, l, h1, h2, h3⟩ | ⟨h1, h2⟩⟩ := h
  · exact ⟨v, l, true, h1, h2, b, .inl ⟨rfl, h3⟩⟩
  · exact ⟨_, [], false, h1, SlB.nil _ _ _, b, .inr ⟨rfl, rfl, h2⟩⟩
theorem split_two {L : List UInt8} {l m : List ByteArray} {o p : Bool} (h1 : (o = true ∧ splitP L = some (bl l)) ∨ (o = false ∧ l = [] ∧ splitP L = none)) (h2 : (p = true ∧ splitP L = some (bl m)) ∨ (p = false ∧ m = [] ∧ splitP L = none)) : o = p ∧ l = m ∧ l.length ≤ 200 := by
  rcases h1 with ⟨rfl, e1⟩ | ⟨rfl, rfl, e1⟩ <;> rcases h2 with ⟨rfl, e2⟩ | ⟨rfl, rfl, e2⟩
  · exact ⟨rfl, bl_eq (Option.some.inj (e1.symm.trans e2)), split_len e1⟩
  · rw [e1] at e2; cases e2
  · rw [e1] at e2; cases e2
  · exact ⟨rfl, rfl, by simp⟩
theorem joinTo_open {w w' : World} {l : List ByteArray} {e : Ending} (h : JoinTo w l e w') : ∃ (p : ByteArray) (ok : Bool), e = .returned (.tuple #[.string p, .bool ok]) ∧ Below w.heap.size w w' ∧ ((ok = true ∧ joinP (bl l) = some p.data.toList) ∨ (ok = false ∧ p = ⟨#[]⟩ ∧ joinP (bl l) = none)) := by
  obtain ⟨b, ⟨p, h1, h2⟩ | ⟨h1, h2⟩⟩ := h
  · exact ⟨p, true, h1, b, .inl ⟨rfl, h2⟩⟩
  · exact ⟨_, false, h1, b, .inr ⟨rfl, rfl, h2⟩⟩
theorem join_two {l : List (List UInt8)} {a b : ByteArray} {o p : Bool} (h1 : (o = true ∧ joinP l = some a.data.toList) ∨ (o = false ∧ a = ⟨#[]⟩ ∧ joinP l = none)) (h2 : (p = true ∧ joinP l = some b.data.toList) ∨ (p = false ∧ b = ⟨#[]⟩ ∧ joinP l = none)) : o = p ∧ a = b := by
  rcases h1 with ⟨rfl, e1⟩ | ⟨rfl, rfl, e1⟩ <;> rcases h2 with ⟨rfl, e2⟩ | ⟨rfl, rfl, e2⟩
  · exact ⟨rfl, bl_inj (Option.some.inj (e1.symm.trans e2))⟩
  · rw [e1] at e2; cases e2
  · rw [e1] at e2; cases e2
  · exact ⟨rfl, rfl⟩

theorem below_one (w : World) (o : Obj) : Below w.heap.size w (w.alloc o) := (Below.refl _ _).alloc (Nat.le_refl _) _
set_option maxRecDepth 1000000 in
set_option maxHeartbeats 8000000 in
theorem nameTells_walk (w : World) (s t : ByteArray) (v : Value) (l : List ByteArray) (hv : Sl encS w v l) (n : Int) (hn : -9223372036854775808 ≤ n ∧ n ≤ 9223372036854775807) :
    Calls Tryd.prog 3 #[.string s, .string t, v, .int .i64 n] w fun e w' => e = .returned (.bool true) ∧ Below w.heap.size w w' := by
  obtain ⟨k, hk1, hk2, hk3⟩ := cut_text s 300 300 rfl
  obtain ⟨p, hp1, hp2, hp3⟩ := cut_text t 300 300 rfl
  obtain ⟨ad, cap, rfl, hcap, hmax, -, -⟩ := id hv
  obtain ⟨m, hm1, hm2, hm4, hm5⟩ := cut_list l.length 30 30 rfl
  have hm6 : (m : Int) ≤ (cap : Int) := by omega
  have hM : Sl encS w (.slice ad m cap) (l.take m) := SlB.take hv m hm4
  have hMl : (l.take m).length ≤ 30 := by simp; omega
  have HN : Hid (-9223372036854775808 ≤ n ∧ n ≤ 9223372036854775807) := hn
  clear hv hn hmax
  go_enter Tryd.func3, Tryd.ntmps3
  go_wp2_with fail
  refine (shown_calls w).mono ?_
  rintro e w1 ⟨rfl, b1⟩
  have hM1 := Sl.called hM b1
  clear hM
  go_upto_region 5 with fail
  generalize s.extract 0 k = S at *
  generalize t.extract 0 p = T at *
  generalize l.take m = M at *
  clear hk1 hk2 hp1 hp2 hm1 hm2 hm4 hm6 hcap
  have B0 : Below w1.heap.size w1 (w1.alloc (.cells #[] 9)) := below_one w1 _
  have oE : Own encS 9 (w1.alloc (.cells #[] 9)) w1.heap.size (.slice (some ⟨w1.heap.size, 0, none⟩) 0 0) [] := World.ownsRow_made (base := w1.heap.size) (e := 9) (size := 1) w1 #[] 0 (Nat.le_refl _) (by unfold maxLen; omega) rfl
  have hM2 : SlB encS (w1.alloc (.cells #[] 9)) w1.heap.size (.slice ad m cap) M := SlB.below hM1 B0
  go_upto_region 6 with (at_builtin; refine append_slB rowS rfl _ _ rfl w1.heap.size (.slice (some ⟨w1.heap.size, 0, none⟩) 0 0) [] M rfl oE (.slice ad m cap) rfl w1.heap.size hM2 (by simp only [List.length_nil]; omega) (by decide) B0.size ?_; intro vo x1 oO gO)
  have c1 : Below w1.heap.size w1 x1 := B0.grown gO B0.size (fun j hj => by have e : w1.heap.size = j := (by simpa [Value.ownBlock] using hj); omega)
  have B1 : Below w.heap.size w x1 := b1.trans (c1.mono b1.size)
  have hO : Sl encS x1 vo M := oO.slB
  have hM3 : Sl encS x1 (.slice ad m cap) M := Sl.called hM1 c1
  clear B0 oE hM2 oO gO c1 b1 hM1
  go_wp2_with fail
  refine (split_calls S x1).mono ?_
  rintro e x2 hT2
  obtain ⟨v1, l1, k1, rfl, hv1, d2, hs1⟩ := splitTo_open hT2
  clear hT2
  have B2 := B1.trans (d2.mono B1.size)
  replace hO := Sl.called hO d2
  replace hM3 := Sl.called hM3 d2
  clear B1 d2
  go_wp2_with fail
  refine (rsplit_calls S x2).mono ?_
  rintro e x3 hT3
  obtain ⟨v2, l2, k2, rfl, hv2, d3, hs2⟩ := splitTo_open hT3
  clear hT3
  have B3 := B2.trans (d3.mono B2.size)
  replace hO := Sl.called hO d3
  replace hM3 := Sl.called hM3 d3
  replace hv1 := Sl.called hv1 d3
  obtain ⟨rfl, rfl, hll⟩ := split_two hs1 hs2
  clear hs1 hs2
  clear B2 d3
  go_wp2_with fail
  refine (join_calls vo M x3 (by omega) hO).mono ?_
  rintro e x4 hT4
  obtain ⟨p1, j1, rfl, d4, hj1⟩ := joinTo_open hT4
  clear hT4
  have B4 := B3.trans (d4.mono B3.size)
  replace hO := Sl.called hO d4
  replace hM3 := Sl.called hM3 d4
  replace hv1 := Sl.called hv1 d4
  replace hv2 := Sl.called hv2 d4
  clear B3 d4
  go_wp2_with fail
  refine (rjoin_calls _ M x4 (by omega) hM3).mono ?_
  rintro e x5 hT5
  obtain ⟨p2, j2, rfl, d5, hj2⟩ := joinTo_open hT5
  clear hT5
  have B5 := B4.trans (d5.mono B4.size)
  replace hO := Sl.called hO d5
  replace hM3 := Sl.called hM3 d5
  replace hv1 := Sl.called hv1 d5
  replace hv2 := Sl.called hv2 d5
  obtain ⟨rfl, rfl⟩ := join_two hj1 hj2
  clear hj1 hj2
  clear B4 d5
  go_wp2_with fail
  refine (right_calls S x5).mono ?_
  rintro e x6 ⟨rfl, d6⟩
  have B6 := B5.trans (d6.mono B5.size)
  replace hO := Sl.called hO d6
  replace hM3 := Sl.called hM3 d6
  replace hv1 := Sl.called hv1 d6
  replace hv2 := Sl.called hv2 d6
  clear B5 d6
  go_wp2_with fail
  refine (rright_calls S x6).mono ?_
  rintro e x7 ⟨rfl, d7⟩
  generalize rightP S.data.toList = R at *
  have B7 := B6.trans (d7.mono B6.size)
  replace hO := Sl.called hO d7
  replace hM3 := Sl.called hM3 d7
  replace hv1 := Sl.called hv1 d7
  replace hv2 := Sl.called hv2 d7
  clear B6 d7
  go_wp2_with fail
  refine (same_calls _ _ l1 l1 x7 hv1 hv2 (by omega)).mono ?_
  rintro e x8 ⟨rfl, d8⟩
  rw [decide_eq_true (rfl : l1 = l1)]
  clear hv1 hv2
  have B8 := B7.trans (d8.mono B7.size)
  replace hO := Sl.called hO d8
  replace hM3 := Sl.called hM3 d8
  clear B7 d8
  go_wp2_with fail
  refine (same_calls _ _ M M x8 hO hM3 (by omega)).mono ?_
  rintro e x9 ⟨rfl, d9⟩
  rw [decide_eq_true (rfl : M = M)]
  clear hO hM3
  have B9 := B8.trans (d9.mono B8.size)
  clear B8 d9
  go_wp2_with fail
  refine (width_calls S (by omega) x9).mono ?_
  rintro e x10 ⟨rfl, d10⟩
  have B10 := B9.trans (d10.mono B9.size)
  clear B9 d10
  go_wp2_with fail
  refine (rwidth_calls S (by omega) x10).mono ?_
  rintro e x11 ⟨rfl, d11⟩
  generalize wid S.data.toList = W at *
  have B11 := B10.trans (d11.mono B10.size)
  clear B10 d11
  go_wp2_with fail
  refine (short_calls S n HN.out (by omega) x11).mono ?_
  rintro e x12 ⟨rfl, d12⟩
  have B12 := B11.trans (d12.mono B11.size)
  clear B11 d12
  go_wp2_with fail
  refine (rshort_calls S n (by omega) x12).mono ?_
  rintro e x13 ⟨rfl, d13⟩
  generalize (⟨(shortP S.data.toList n).toArray⟩ : ByteArray) = SH at *
  have B13 := B12.trans (d13.mono B12.size)
  clear B12 d13
  go_wp2_with fail
  refine (below_calls S T x13).mono ?_
  rintro e x14 ⟨rfl, d14⟩
  have B14 := B13.trans (d14.mono B13.size)
  clear B13 d14
  go_wp2_with fail
  refine (rbelow_calls S T x14).mono ?_
  rintro e x15 ⟨rfl, d15⟩
  generalize belowP S.data.toList T.data.toList = BB at *
  have B15 := B14.trans (d15.mono B14.size)
  clear B14 d15
  go_wp2_with fail
  go_ret
  exact ⟨by simp, B15⟩
end Go.Proofs.YtdmgmicabofmiaaDoor
