/- The document's own words: Right. -/
import Derived.Test.YtbjnbobohkjhiaaRefN
import Derived.Deep.QuietTactic
import Derived.BigQuiet
namespace Go.Proofs.Ytbjnbobohkjhiaa
set_option linter.unusedVariables false
open Go.RowKit

theorem less_nil (l : List UInt8) : Op.bytesLess [] l = decide (0 < l.length) := by cases l <;> rfl
theorem less_some {a l : List UInt8} (h : Op.bytesLess a l = true) : 0 < l.length := by
  cases l with
  | nil => cases a <;> cases h
  | cons _ _ => simp
theorem tl_size (b : ByteArray) : b.toList.length = b.size := by rw [ByteArray.toList_eq]; simp
set_option maxHeartbeats 8000000 in
set_option maxRecDepth 100000 in
theorem rright_go (w : World) (g rt x c : Int) (l : List Snp) (r : Option Nat) (ad : Option Addr) (cap : Nat) (hcap : l.length ≤ cap)
    (hin : l = [] ∨ ∃ g off, ad = some ⟨g, off, none⟩ ∧ r = some g ∧ g < w.heap.size ∧ ∀ i (hi : i < l.length), SnpAt w g (off + i * 3) l[i])
    (q1 : 1 ≤ g) (q2 : g ≤ 281474976710655) (q4 : 2 ≤ x) (q5 : x ≤ 1073741824) (q6 : 0 ≤ c) (q7 : c ≤ 281474976710655) (q8 : l.length ≤ 8) (qr : okRoot rt = true) :
    Calls Try.prog 17 #[uv ⟨g, rt, x, c, l⟩ (.slice ad l.length cap)] w fun e w' => e = .returned (.bool (okFrom [] c l)) ∧ Below w.heap.size w w' := by
  have hb : ∀ o, Below w.heap.size w (w.alloc o) := fun o => (Below.refl _ _).alloc (Nat.le_refl _) o
  have HIN : Hid (l = [] ∨ ∃ g off, ad = some ⟨g, off, none⟩ ∧ r = some g ∧ g < w.heap.size ∧ ∀ i (hi : i < l.length), SnpAt w g (off + i * 3) l[i]) := hin
  clear hin
  obtain ⟨N, hN⟩ : ∃ N : Nat, N = l.length := ⟨_, rfl⟩
  rw [← hN] at q8 hcap ⊢
  have HN : Hid (N = l.length) := hN
  clear hN
  go_enter Try.func17, Try.ntmps17
  go_upto_region 7 with (go_at_call 30; refine (rroot_calls rt _).mono ?_; rintro e w1 ⟨rfl, rfl⟩; rw [qr])
  have U0 : HasU (w.alloc (.cells (uc ⟨g, rt, x, c, l⟩ (.slice ad N cap)) 24)) w.heap.size ⟨g, rt, x, c, l⟩ (.slice ad N cap) := HasU.new w _ _ _ rfl rfl
  have HU : Hid (HasU (w.alloc (.cells (uc ⟨g, rt, x, c, l⟩ (.slice ad N cap)) 24)) w.heap.size ⟨g, rt, x, c, l⟩ (.slice ad N cap)) := U0
  have B0 := hb (.cells (uc ⟨g, rt, x, c, l⟩ (.slice ad N cap)) 24)
  have SZ : (w.alloc (.cells (uc ⟨g, rt, x, c, l⟩ (.slice ad N cap)) 24)).heap.size = w.heap.size + 1 := by simp
  clear U0 q1 q2 q4 q5 qr hb
  generalize w.alloc (.cells (uc ⟨g, rt, x, c, l⟩ (.slice ad N cap)) 24) = W at *
  go_loopw [4] (fun i wr => ∃ (k : Nat) (y : List UInt8), k ≤ N ∧ i = .int .i64 (k : Int) ∧ Below (w.heap.size + 1) W wr ∧ Hid (okFrom [] c l = okFrom y c (l.drop k)) ∧ Hid ((k = 0 ∧ y = []) ∨ ∃ j, k = j + 1 ∧ ∃ hj : j < l.length, y = l[j].n.toList)) (fun i _ => N - (intOf i).toNat)
  case atStart => exact ⟨0, [], Nat.zero_le _, rfl, Below.refl _ _, (show _ = _ from rfl), .inl ⟨rfl, rfl⟩⟩
  case round =>
    obtain ⟨k, y, hk, rfl, hbel, HE, HY⟩ := hrel
    have hbs := hbel.size
    have UW : HasU wr w.heap.size ⟨g, rt, x, c, l⟩ (.slice ad N cap) := HU.out.below hbel (by omega)
    have BW : Below w.heap.size w wr := B0.trans (hbel.mono (by omega))
    obtain ⟨_, _, _, kc, k4⟩ := UW.cells
    simp only at kc
    by_cases hlt : k < N
    · have hkl : k < l.length := by rw [← HN.out]; exact hlt
      obtain ⟨ga, oa, rfl, gla, hall⟩ : ∃ g off, ad = some ⟨g, off, none⟩ ∧ g < w.heap.size ∧ ∀ i (hi : i < l.length), SnpAt w g (off + i * 3) l[i] := by
        rcases HIN.out with e | ⟨g, off, h1, _, h2, h3⟩
        · rw [e] at hkl; simp at hkl
        · exact ⟨g, off, h1, h2, h3⟩
      have hat := (hall k hkl).same (BW.block ga gla)
      obtain ⟨c0, c1, c2⟩ := hat
      have HE2 := HE.out
      rw [okFrom_drop _ _ _ _ hkl] at HE2
      have HP : Hid ((k = 0 ∧ y = []) ∨ ∃ j, k = j + 1 ∧ ∃ p : ByteArray, y = p.toList ∧ wr.cell? ⟨ga, oa + j * 3, none⟩ = some (.string p)) := (by
        rcases HY.out with h | ⟨j, e, hj, h⟩
        · exact .inl h
        · exact .inr ⟨j, e, l[j].n, h, ((hall j hj).same (BW.block ga gla)).1⟩)
      have HNX : Hid (∃ hj : k < l.length, l[k].n.toList = l[k].n.toList) := ⟨hkl, rfl⟩
      have HE3 : Hid (okFrom [] c l = (decide (l[k].n.size ≤ 18) && Op.bytesLess y l[k].n.toList && okRoot l[k].r && decide (0 ≤ l[k].c) && decide (l[k].c ≤ c) && okFrom l[k].n.toList c (l.drop (k + 1)))) := HE2
      have HYN : Hid (∀ s, s = l[k] → ((k + 1 = 0 ∧ s.n.toList = []) ∨ ∃ j, k + 1 = j + 1 ∧ ∃ hj : j < l.length, s.n.toList = l[j].n.toList)) := fun s hs => .inr ⟨k, rfl, hkl, by rw [hs]⟩
      clear HE2 HE HY HNX hall
      generalize hsk : l[k] = s at *
      have HYM := HYN.out s rfl
      clear HYN hsk
      have HYK : Hid ((k + 1 = 0 ∧ s.n.toList = []) ∨ ∃ j, k + 1 = j + 1 ∧ ∃ hj : j < l.length, s.n.toList = l[j].n.toList) := HYM
      clear HYM
      obtain ⟨sn, sr, sc⟩ := s
      simp only at c0 c1 c2 HE3
      have fin : ∀ o, Below (w.heap.size + 1) W (wr.alloc o) := fun o => hbel.alloc (by omega) o
      have finw : ∀ o n, Below w.heap.size w ((wr.alloc o).drewN n) := fun o n => below_drewN (BW.alloc BW.size o) n
      have kc' : ∀ o, (wr.alloc o).cell? ⟨w.heap.size, 3, none⟩ = some (.int .i64 c) := fun o => (UW.alloc o).cells.2.2.2.1
      have k4' : ∀ o, (wr.alloc o).cell? ⟨w.heap.size, 4, none⟩ = some (.slice (some ⟨ga, oa, none⟩) N cap) := fun o => (UW.alloc o).cells.2.2.2.2
      have HL0 : Hid (¬ 1 ≤ sn.size → Op.bytesLess y sn.toList = false) := fun hn => by
        cases hh : Op.bytesLess y sn.toList with
        | false => rfl
        | true =>
          have := less_some hh
          rw [tl_size] at this
          omega
      by_cases p1 : 1 ≤ sn.size
      rotate_left
      · go_wp2_with (go_at_call 30; refine (rroot_calls sr _).mono ?_; rintro e w1 ⟨rfl, rfl⟩)
        go_ret
        exact ⟨Eq.trans rfl (congrArg (fun b => Ending.returned (Value.bool b)) (show false = okFrom [] c l by rw [HE3.out, HL0.out (by omega)]; simp)), finw _ 0⟩
      by_cases p2 : sn.size ≤ 18
      rotate_left
      · go_wp2_with (go_at_call 30; refine (rroot_calls sr _).mono ?_; rintro e w1 ⟨rfl, rfl⟩)
        go_ret
        exact ⟨Eq.trans rfl (congrArg (fun b => Ending.returned (Value.bool b)) (show false = okFrom [] c l by rw [HE3.out, decide_eq_false (show ¬ sn.size ≤ 18 by omega)]; simp)), finw _ 0⟩
      cases p3 : okRoot sr with
      | false =>
        go_wp2_with (go_at_call 30; refine (rroot_calls sr _).mono ?_; rintro e w1 ⟨rfl, rfl⟩; rw [p3])
        go_ret
        exact ⟨Eq.trans rfl (congrArg (fun b => Ending.returned (Value.bool b)) (show false = okFrom [] c l by rw [HE3.out, p3]; simp)), finw _ 0⟩
      | true =>
      by_cases p4 : 0 ≤ sc
      rotate_left
      · go_wp2_with (go_at_call 30; refine (rroot_calls sr _).mono ?_; rintro e w1 ⟨rfl, rfl⟩; rw [p3])
        go_ret
        exact ⟨Eq.trans rfl (congrArg (fun b => Ending.returned (Value.bool b)) (show false = okFrom [] c l by rw [HE3.out, decide_eq_false (show ¬ 0 ≤ sc by omega)]; simp)), finw _ 0⟩
      by_cases p5 : sc ≤ c
      rotate_left
      · go_wp2_with (go_at_call 30; refine (rroot_calls sr _).mono ?_; rintro e w1 ⟨rfl, rfl⟩; rw [p3])
        go_ret
        exact ⟨Eq.trans rfl (congrArg (fun b => Ending.returned (Value.bool b)) (show false = okFrom [] c l by rw [HE3.out, decide_eq_false (show ¬ sc ≤ c by omega)]; simp)), finw _ 0⟩
      have HE4 : Hid (okFrom [] c l = (Op.bytesLess y sn.toList && okFrom sn.toList c (l.drop (k + 1)))) := (show _ = _ by
        rw [HE3.out, p3, decide_eq_true (show sn.size ≤ 18 by omega), decide_eq_true (show 0 ≤ sc by omega), decide_eq_true (show sc ≤ c by omega)]
        simp)
      clear HE3 HL0
      go_upto_region 13 with (go_at_call 30; refine (rroot_calls sr _).mono ?_; rintro e w1 ⟨rfl, rfl⟩; rw [p3])
      rcases HP.out with ⟨rfl, rfl⟩ | ⟨j, rfl, p, rfl, hcp⟩
      · have hl : Op.bytesLess [] sn.toList = true := by rw [less_nil, tl_size]; exact decide_eq_true p1
        have HE5 : Hid (okFrom [] c l = okFrom sn.toList c (l.drop (0 + 1))) := (show _ = _ by rw [HE4.out, hl]; rfl)
        clear HE4 HP hl
        go_quiet (fail)
        go_wp2
        go_round
        case rel => exact ⟨1, sn.toList, by omega, rfl, below_drewN (fin _) _, HE5, HYK⟩
        case measure => simp [intOf]; omega
      · have hcp' : ∀ o, (wr.alloc o).cell? ⟨ga, oa + j * 3, none⟩ = some (.string p) := fun o => (World.cell?_of_block (Below.heap_alloc _ _ _ (show ga < wr.heap.size by have := BW.size; omega))).trans hcp
        cases hlp : Op.bytesLess p.toList sn.toList with
        | false =>
          have HE5 : Hid (okFrom [] c l = false) := (show _ = _ by rw [HE4.out, hlp]; rfl)
          have q6 := less_all sn.toList p.toList
          rw [hlp] at q6
          clear HE4 HP hlp
          cases q7 : Op.bytesLess sn.toList p.toList with
          | true =>
            clear q6
            go_quiet (fail)
            go_wp2
            go_ret
            exact ⟨by rw [HE5.out]; rfl, finw _ _⟩
          | false =>
            rw [q7] at q6
            have q8 : (sn.toList == p.toList) = true := by simpa using q6
            clear q6
            go_quiet (fail)
            go_wp2
            go_ret
            exact ⟨by rw [HE5.out]; rfl, finw _ _⟩
        | true =>
          have HE5 : Hid (okFrom [] c l = okFrom sn.toList c (l.drop (j + 1 + 1))) := (show _ = _ by rw [HE4.out, hlp]; rfl)
          have q6 := less_all sn.toList p.toList
          rw [hlp] at q6
          have q7 : Op.bytesLess sn.toList p.toList = false := by cases hh : Op.bytesLess sn.toList p.toList <;> simp [hh] at q6 ⊢
          have q8 : (sn.toList == p.toList) = false := by rw [q7] at q6; simpa using q6
          clear q6 HE4 HP hlp
          go_quiet (fail)
          go_wp2
          go_round
          case rel => exact ⟨j + 1 + 1, sn.toList, by omega, by go_num, below_drewN (fin _) _, HE5, HYK⟩
          case measure => simp [intOf]; omega
    · have e : k = N := by omega
      subst e
      go_wp2
      go_ret
      exact ⟨by rw [HE.out, HN.out, List.drop_length]; rfl, BW⟩
end Go.Proofs.Ytbjnbobohkjhiaa
