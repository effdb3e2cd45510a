/- A writer writes what the document says: the walk of PackWrites. -/
import Derived.Test.YtjcipamnidomkaaRefX
import Derived.Test.YtjcipamnidomkaaConv
import Derived.Deep.CutBlock
import Derived.Deep.DeepCutAuto
namespace Go.Proofs.Ytjcipamnidomkaa
set_option linter.unusedVariables false
open Go.RowKit

/-- Pack's writer and the document's, side by side, in one state. -/
def Duo (w : World) (p q : Nat) (S : WS) (r : Option Nat) : Prop := WrS w p S r ∧ KR w q S ∧ Off r p q
theorem duo_wr {w w1 : World} {p q : Nat} {S S' : WS} {r : Option Nat} (h : Duo w p q S r) (g : WrG p w r S' w1) : ∃ r1, WrS w1 p S' r1 ∧ KR w1 q S ∧ Off r1 p q ∧ Touch p r w w1 := by
  obtain ⟨r1, g1, g2, g3⟩ := g
  exact ⟨r1, g1, h.2.1.kept (g2.block q h.2.1.lt h.2.2.1 h.2.2.2), h.2.2.near g3 h.2.1.lt, g2⟩
theorem duo_k {w1 w2 : World} {p q : Nat} {S' : WS} {r1 : Option Nat} (h1 : WrS w1 p S' r1) (o1 : Off r1 p q) (g : KG q w1 S' w2) : Duo w2 p q S' r1 :=
  ⟨h1.kept (g.2.block p h1.lt.1 (Ne.symm o1.1) (by simp)) (fun k hk => g.2.block k (h1.lt.2 k hk).2 (fun e => o1.2 (by rw [hk, e])) (by simp)), g.1, o1⟩
theorem Duo.below {w w' : World} {p q : Nat} {S : WS} {r : Option Nat} (h : Duo w p q S r) (hb : Below w.heap.size w w') : Duo w' p q S r := ⟨h.1.below hb (Nat.le_refl _), h.2.1.below hb, h.2.2⟩

theorem WrS.len {w : World} {p : Nat} {S : WS} {r : Option Nat} (h : WrS w p S r) : (S.l.length : Int) ≤ 2147483647 := by
  obtain ⟨sv, h1, h2, h3, h4, h5, h6⟩ := h
  omega

set_option maxHeartbeats 4000000 in
set_option maxRecDepth 100000 in
theorem writes_walk (n : Int) (a : Option Addr) (len cap : Nat) (fs : Nat → FD) (w : World) (hl : len ≤ maxLen) (hs : FieldsIn w a len fs) :
    Calls Try.prog 3 #[.int .i64 n, .slice a len cap] w fun e w' => e = .returned (.bool true) ∧ Below w.heap.size w w' := by
  unfold maxLen at hl
  obtain ⟨M, hM, hM0, hM1⟩ : ∃ M : Int, bits .and .i64 n 4095 = M ∧ 0 ≤ M ∧ M ≤ 4095 := ⟨_, and4095 n, by omega, by omega⟩
  go_enter Try.func3, Try.ntmps3
  go_wp2_with (first
    | (go_at_call 9; refine (shown_calls _).mono ?_; rintro e w0 ⟨rfl, b0⟩)
    | (go_at_call 10; refine (new_calls _ M hM0 (by omega)).mono ?_; rintro e w1 ⟨rfl, h1, b1⟩)
    | (go_at_call 11; refine (knew_calls _ M hM0 (by omega)).mono ?_; rintro e w2 ⟨rfl, k2, b2⟩))
  have s0 := b0.size
  have s1 := b1.size
  have hp1 := h1.lt.1
  have hD : Duo w2 w0.heap.size w1.heap.size ⟨M, [], false⟩ none := ⟨h1.below b2 (Nat.le_refl _), k2, by omega, by simp⟩
  have bel2 := (b0.trans (b1.mono s0)).trans (b2.mono (by omega))
  have hpw : w.heap.size ≤ w0.heap.size := s0
  have hqw : w.heap.size ≤ w1.heap.size := by omega
  generalize hp0 : w0.heap.size = p at *
  generalize hq0 : w1.heap.size = q at *
  have Hp : Hid (w0.heap.size = p) := hp0
  have Hq : Hid (w1.heap.size = q) := hq0
  clear hp0 hq0 h1 k2 b0 b1 b2 hM s0 s1 hp1
  go_loopw [8, 9, 10, 11, 12, 13, 14] (fun i _ _ _ _ _ _ wr => ∃ (k : Nat) (S : WS) (r : Option Nat), k ≤ len ∧ k ≤ 60 ∧ i = .int .i64 k ∧ Duo wr p q S r ∧ Below w.heap.size w wr)
    (fun i _ _ _ _ _ _ _ => len - (intOf i).toNat)
  case atStart => exact ⟨0, _, none, Nat.zero_le _, by omega, rfl, hD, bel2⟩
  case round =>
    obtain ⟨k, S, r, hk, hk60, rfl, hd, hbel⟩ := hrel
    clear hD bel2
    by_cases hlt : k < len
    · by_cases hk60' : (k : Int) < 60
      · obtain ⟨g, off, rfl, hg, c0, c1, c2, c3, hkb, hnb, hv, hts⟩ := hs k hlt
        have d3 := (hbel.cell (p := ⟨g, off + k * 4 + 3, none⟩) (by exact hg)).trans c3
        unfold maxLen at hts
        go_upto_region 10 with fail
        go_cut [9] (fun s wc => ∃ (T : ByteArray) (j : Nat), (T.size : Int) ≤ 300 ∧ s = .string T ∧ wc = wr.drewN j)
        case first =>
          by_cases h300 : ((fs k).s.size : Int) ≤ 300
          · go_quiet (fail)
            go_wp2_with fail
            go_meet
            case rel => exact ⟨_, _, h300, rfl, rfl⟩
          · have hsz : ((fs k).s.extract 0 300).size = 300 := cut_size _ 300 (by omega)
            go_quiet (fail)
            go_wp2_with fail
            go_meet
            case rel => exact ⟨_, _, by omega, rfl, rfl⟩
        case rest =>
          obtain ⟨T, j, hT, rfl, rfl⟩ := hcut
          have d0 := (hbel.cell (p := ⟨g, off + k * 4, none⟩) (by exact hg)).trans c0
          have d1 := (hbel.cell (p := ⟨g, off + k * 4 + 1, none⟩) (by exact hg)).trans c1
          have d2 := (hbel.cell (p := ⟨g, off + k * 4 + 2, none⟩) (by exact hg)).trans c2
          clear d3
          go_upto_block 2 with fail
          go_cut [9] (fun _ wc => ∃ (S' : WS) (r' : Option Nat), Duo wc p q S' r' ∧ Below w.heap.size w wc)
          case first =>
            by_cases hk0 : (fs k).kind = 0
            · have hbt : ((fs k).kind == 0) = true := by rw [beq_iff_eq]; exact hk0
              clear hk0
              go_wp2_with (first
                | (go_at_call 12; refine (byte_calls _ p (fs k).n S r (by exact hd.1) hnb.2).mono ?_; rintro e w3 ⟨rfl, hg3⟩; obtain ⟨r3, h3, k1, o3, t3⟩ := duo_wr hd (WrG.drewN (k := j) hg3); have e1 := hbel.trans (t3.below (B := w.heap.size) hbel.size hpw (fun i hi => by have := (hd.1.lt.2 i hi).1; omega)); have m1 := (e1.cell (p := ⟨g, off + k * 4 + 1, none⟩) (by exact hg)).trans c1)
                | (go_at_call 13; refine (kbyte_calls _ q (fs k).n S k1 hnb.1 hnb.2).mono ?_; rintro e w4 ⟨rfl, hg4⟩; have hd4 := duo_k h3 o3 hg4; have e4 := e1.trans (hg4.2.below (B := w.heap.size) e1.size hqw (fun i hi => by cases hi))))
              go_meet
              case rel => exact ⟨_, _, hd4, e4⟩
            have hb0 : ((fs k).kind == 0) = false := by rw [beq_eq_false_iff_ne]; exact hk0
            clear hk0
            by_cases hk1 : (fs k).kind = 1
            · have hbt : ((fs k).kind == 1) = true := by rw [beq_iff_eq]; exact hk1
              clear hk1
              go_wp2_with (first
                | (go_at_call 14; refine (word_calls _ p (fs k).n S r (by exact hd.1) hnb.2).mono ?_; rintro e w3 ⟨rfl, hg3⟩; obtain ⟨r3, h3, k1, o3, t3⟩ := duo_wr hd (WrG.drewN (k := j) hg3); have e1 := hbel.trans (t3.below (B := w.heap.size) hbel.size hpw (fun i hi => by have := (hd.1.lt.2 i hi).1; omega)); have m1 := (e1.cell (p := ⟨g, off + k * 4 + 1, none⟩) (by exact hg)).trans c1)
                | (go_at_call 15; refine (kword_calls _ q (fs k).n S k1 hnb.1 hnb.2).mono ?_; rintro e w4 ⟨rfl, hg4⟩; have hd4 := duo_k h3 o3 hg4; have e4 := e1.trans (hg4.2.below (B := w.heap.size) e1.size hqw (fun i hi => by cases hi))))
              go_meet
              case rel => exact ⟨_, _, hd4, e4⟩
            have hb1 : ((fs k).kind == 1) = false := by rw [beq_eq_false_iff_ne]; exact hk1
            clear hk1
            by_cases hk2 : (fs k).kind = 2
            · have hbt : ((fs k).kind == 2) = true := by rw [beq_iff_eq]; exact hk2
              clear hk2
              go_wp2_with (first
                | (go_at_call 16; refine (long_int _ p (fs k).v S r (by exact hd.1) hv.1).mono ?_; rintro e w3 ⟨rfl, hg3⟩; obtain ⟨r3, h3, k1, o3, t3⟩ := duo_wr hd (WrG.drewN (k := j) hg3); have e1 := hbel.trans (t3.below (B := w.heap.size) hbel.size hpw (fun i hi => by have := (hd.1.lt.2 i hi).1; omega)); have m2 := (e1.cell (p := ⟨g, off + k * 4 + 2, none⟩) (by exact hg)).trans c2)
                | (go_at_call 17; refine (klong_calls _ q (fs k).v S k1 hv.1 hv.2).mono ?_; rintro e w4 ⟨rfl, hg4⟩; have hd4 := duo_k h3 o3 hg4; have e4 := e1.trans (hg4.2.below (B := w.heap.size) e1.size hqw (fun i hi => by cases hi))))
              go_meet
              case rel => exact ⟨_, _, hd4, e4⟩
            have hb2 : ((fs k).kind == 2) = false := by rw [beq_eq_false_iff_ne]; exact hk2
            clear hk2
            by_cases hk3 : (fs k).kind = 3
            · have hbt : ((fs k).kind == 3) = true := by rw [beq_iff_eq]; exact hk3
              clear hk3
              go_wp2_with (first
                | (go_at_call 18; refine (text_calls _ p T S r (by exact hd.1) (by omega)).mono ?_; rintro e w3 ⟨rfl, hg3⟩; obtain ⟨r3, h3, k1, o3, t3⟩ := duo_wr hd (WrG.drewN (k := j) hg3); have e1 := hbel.trans (t3.below (B := w.heap.size) hbel.size hpw (fun i hi => by have := (hd.1.lt.2 i hi).1; omega)))
                | (go_at_call 19; refine (ktext_calls _ q T S k1 (by omega)).mono ?_; rintro e w4 ⟨rfl, hg4⟩; have hd4 := duo_k h3 o3 hg4; have e4 := e1.trans (hg4.2.below (B := w.heap.size) e1.size hqw (fun i hi => by cases hi))))
              go_meet
              case rel => exact ⟨_, _, hd4, e4⟩
            have hb3 : ((fs k).kind == 3) = false := by rw [beq_eq_false_iff_ne]; exact hk3
            clear hk3
            by_cases hk4 : (fs k).kind = 4
            · have hbt : ((fs k).kind == 4) = true := by rw [beq_iff_eq]; exact hk4
              clear hk4
              go_wp2_with (first
                | (go_at_call 20; refine (raw_calls _ p T S r (by exact hd.1) (by omega)).mono ?_; rintro e w3 ⟨rfl, hg3⟩; obtain ⟨r3, h3, k1, o3, t3⟩ := duo_wr hd (WrG.drewN (k := j) hg3); have e1 := hbel.trans (t3.below (B := w.heap.size) hbel.size hpw (fun i hi => by have := (hd.1.lt.2 i hi).1; omega)))
                | (go_at_call 21; refine (kraw_calls _ q T S k1).mono ?_; rintro e w4 ⟨rfl, hg4⟩; have hd4 := duo_k h3 o3 hg4; have e4 := e1.trans (hg4.2.below (B := w.heap.size) e1.size hqw (fun i hi => by cases hi))))
              go_meet
              case rel => exact ⟨_, _, hd4, e4⟩
            have hb4 : ((fs k).kind == 4) = false := by rw [beq_eq_false_iff_ne]; exact hk4
            clear hk4
            go_wp2_with (first
              | (go_at_call 22; refine (fill_calls _ p (fs k).n S r (by exact hd.1) hnb.2).mono ?_; rintro e w3 ⟨rfl, hg3⟩; obtain ⟨r3, h3, k1, o3, t3⟩ := duo_wr hd (WrG.drewN (k := j) hg3); have e1 := hbel.trans (t3.below (B := w.heap.size) hbel.size hpw (fun i hi => by have := (hd.1.lt.2 i hi).1; omega)); have m1 := (e1.cell (p := ⟨g, off + k * 4 + 1, none⟩) (by exact hg)).trans c1)
              | (go_at_call 23; refine (kfill_calls _ q (fs k).n S k1).mono ?_; rintro e w4 ⟨rfl, hg4⟩; have hd4 := duo_k h3 o3 hg4; have e4 := e1.trans (hg4.2.below (B := w.heap.size) e1.size hqw (fun i hi => by cases hi))))
            go_meet
            case rel => exact ⟨_, _, hd4, e4⟩
          case rest =>
            obtain ⟨S', r', hd', hbel'⟩ := hcut
            clear hd hbel d0 d1 d2
            cases hbad : S'.bad with
            | true =>
              have Hb : Hid (S'.bad = true) := hbad
              clear hbad
              go_wp2_with (first
                | (go_at_call 24; refine (done_bad _ p _ r' hd'.1 Hb.out).mono ?_; rintro e w5 ⟨rfl, rfl⟩; have hcv := conv_nil w5; rw [str_nil] at hcv)
                | (go_at_call 25; refine (kdone_bad _ q _ hd'.2.1 Hb.out).mono ?_; rintro e w6 ⟨rfl, rfl⟩))
              go_loopw [14] (fun i wz => i = .int .i64 0 ∧ wz = w6) (fun _ _ => 0)
              case atStart => exact ⟨rfl, rfl⟩
              case round =>
                obtain ⟨rfl, rfl⟩ := hrel
                go_wp2
                go_roundw
                case rel => exact ⟨k + 1, S', r', by omega, by omega, by go_num, hd', hbel'⟩
                case measure => simp [intOf]; omega
            | false =>
              have Hb : Hid (S'.bad = false) := hbad
              clear hbad
              go_wp2_with (first
                | (go_at_call 24; refine (done_ok _ p _ r' hd'.1 Hb.out).mono ?_; rintro e w5 ⟨a5, c5, rfl, o5, b5⟩; have hcv := conv_bytes (own_bytes o5))
                | (go_at_call 25; refine (kdone_ok _ q _ (hd'.below b5).2.1 Hb.out).mono ?_; rintro e w6 ⟨rfl, rfl⟩))
              have hNb := hd'.1.len
              generalize S'.l.length = N at *
              generalize bc S'.l = xs5 at *
              clear hcv
              go_loopw [14] (fun i wz => ∃ (t : Nat) (xs : List Value), t ≤ N ∧ i = .int .i64 (t : Int) ∧ wz.ownsRow wc.heap.size 5 1 (.slice a5 N c5) N xs ∧ Below wc.heap.size wc wz) (fun i _ => N - (intOf i).toNat)
              case atStart => exact ⟨0, xs5, Nat.zero_le _, rfl, o5, b5⟩
              case round =>
                obtain ⟨t, xs, ht, rfl, ho, hz⟩ := hrel
                by_cases htN : t < N
                · obtain ⟨g5, hav⟩ : ∃ g5, a5 = some ⟨g5, 0, none⟩ := by
                    obtain ⟨g5, cap5, he, _⟩ := ho.form (by omega)
                    simp only [Value.slice.injEq] at he
                    exact ⟨g5, he.1⟩
                  subst hav
                  have hc := ho.cellAt t (by omega)
                  have hfz := ho.frozenAt t
                  have hxl : t < xs.length := by have := ho.1; omega
                  rw [List.getElem?_eq_getElem hxl] at hc
                  have hst := ho.stored t (.int .u8 63)
                  have hg5 := (ho.lt g5 rfl).1
                  have R1 := hst.1
                  have R2 := hz.grown hst.2 hz.size (fun i hi => by cases hi; exact hg5)
                  clear hst
                  go_wp2
                  go_roundw
                  case rel => exact ⟨t + 1, _, by omega, by go_num, R1, R2⟩
                  case measure => simp [intOf]; omega
                · have hnt : ¬ (t : Int) < N := by omega
                  have hd6 := hd'.below hz
                  have hbel6 := hbel'.trans (hz.mono hbel'.size)
                  go_wp2
                  go_roundw
                  case rel => exact ⟨k + 1, S', r', by omega, by omega, by go_num, hd6, hbel6⟩
                  case measure => simp [intOf]; omega
      · have h60 : ¬ (k : Int) < 60 := by omega
        go_wp2
        go_ret
        exact ⟨rfl, hbel⟩
    · have h60 : ¬ (k : Int) < len := by omega
      go_wp2
      go_ret
      exact ⟨rfl, hbel⟩
end Go.Proofs.Ytjcipamnidomkaa
