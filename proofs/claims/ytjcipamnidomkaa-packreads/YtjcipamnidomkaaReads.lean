/- A reader reads what the document says: the walk of PackReads. -/
import Derived.Test.YtjcipamnidomkaaRefR
import Derived.Test.YtjcipamnidomkaaArgs
import Derived.Deep.CutBlock
import Derived.Deep.DeepCutAuto
import Derived.Deep.RegionHeld3
import Derived.Laws.AppendOwnNone
namespace Go.Proofs.Ytjcipamnidomkaa
set_option linter.unusedVariables false
open Go.RowKit

/-- Pack's reader and the document's, side by side, in one state. -/
def Pair (w : World) (q u : Nat) (t : RS) (rr : Option Nat) : Prop := RdS w q t rr ∧ KQ w u t ∧ u ≠ q ∧ rr ≠ some u ∧ (∀ k, rr = some k → k < w.heap.size) ∧ t.l.length ≤ 2000
theorem got_le (t : RS) (n : Int) : (t.take n).l.length ≤ t.l.length := by
  unfold RS.take
  split
  · simp
  · simp
theorem pair_r {w w1 : World} {q u : Nat} {t t' : RS} {rr : Option Nat} (h : Pair w q u t rr) (g : RdG q w rr t' w1) : RdS w1 q t' rr ∧ KQ w1 u t :=
  ⟨g.1, h.2.1.kept (g.2.block u h.2.1.lt h.2.2.1 (by simp))⟩
theorem pair_k {w w1 w2 : World} {q u : Nat} {t t' : RS} {rr : Option Nat} (h : Pair w q u t rr) (hs : w.heap.size ≤ w1.heap.size) (g1 : RdS w1 q t' rr) (g : QG u w1 t' w2) (hl : t'.l.length ≤ t.l.length) : Pair w2 q u t' rr :=
  ⟨g1.kept (g.2.block q g1.lt (Ne.symm h.2.2.1) (by simp)) (fun k hk => g.2.block k (by have := h.2.2.2.2.1 k hk; omega) (fun e => h.2.2.2.1 (by rw [hk, e])) (by simp)), g.1, h.2.2.1, h.2.2.2.1, fun k hk => by have := h.2.2.2.2.1 k hk; have := g.2.size; omega, by have := h.2.2.2.2.2; omega⟩
theorem Pair.below {w w' : World} {q u : Nat} {t : RS} {rr : Option Nat} (h : Pair w q u t rr) (hb : Below w.heap.size w w') : Pair w' q u t rr :=
  ⟨h.1.below hb h.1.lt h.2.2.2.2.1, h.2.1.kept (hb.block u h.2.1.lt), h.2.2.1, h.2.2.2.1, fun k hk => by have := h.2.2.2.2.1 k hk; have := hb.size; omega, h.2.2.2.2.2⟩

theorem grown_trans {w w1 w2 : World} {r : Option Nat} (h : w.grownBy w1 r) (k : w1.grownBy w2 r) : w.grownBy w2 r :=
  ⟨k.os.trans h.os, k.tape.trans h.tape, k.output.trans h.output, Nat.le_trans h.size k.size, fun i hi hr => (k.block i (by have := h.size; omega) hr).trans (h.block i hi hr)⟩
theorem pair_grown {w w' : World} {q u : Nat} {t : RS} {rr r : Option Nat} (h : Pair w q u t rr) (g : w.grownBy w' r) (hq : some q ≠ r) (hu : some u ≠ r) (hr : ∀ k, rr = some k → some k ≠ r) : Pair w' q u t rr :=
  ⟨h.1.kept (g.block q h.1.lt hq) (fun k hk => g.block k (h.2.2.2.2.1 k hk) (hr k hk)), h.2.1.kept (g.block u h.2.1.lt hu), h.2.2.1, h.2.2.2.1, fun k hk => by have := h.2.2.2.2.1 k hk; have := g.size; omega, h.2.2.2.2.2⟩

set_option maxHeartbeats 4000000 in
set_option maxRecDepth 100000 in
theorem reads_walk (a b : Option Addr) (len cap bcap : Nat) (fs : Nat → FD) (L : List UInt8) (w : World) (hl : len ≤ maxLen) (hs : FieldsIn w a len fs) (hb : ArgBytes w b bcap L) (hLm : L.length ≤ maxLen) :
    Calls Try.prog 4 #[.slice b L.length bcap, .slice a len cap] w fun e w' => e = .returned (.bool true) ∧ Below w.heap.size w w' := by
  unfold maxLen at hl hLm
  obtain ⟨i0, hi, hz0, hz1, hz2⟩ := info_parts Try.info_u8
  have hbc := hb.1
  go_enter Try.func4, Try.ntmps4
  go_upto_region 2 with (go_at_call 9; refine (shown_calls _).mono ?_; rintro e w0 ⟨rfl, b0⟩)
  go_cut [0] (fun v wc => ∃ (a5 : Option Addr) (c5 : Nat) (P : List UInt8), P.length ≤ 2000 ∧ v = .slice a5 P.length c5 ∧ wc.ownsRow w0.heap.size 5 1 (.slice a5 P.length c5) P.length (bc P) ∧ Below w0.heap.size w0 wc)
  case first =>
    have hm := World.ownsRow_made (base := w0.heap.size) (e := 5) (size := 1) w0 #[] 0 (Nat.le_refl _) (by unfold maxLen; omega) rfl
    have hb0 := hb.below b0 (Nat.le_refl _)
    cases b with
    | none =>
      obtain ⟨rfl, rfl⟩ := hb.2.1 rfl
      go_wp2_with (at_builtin; refine wpList_append_own_none rfl (.tmp 12) (.tmp 17) 34 rfl w0.heap.size 5 i0 1 Try.underlying34 hi (.slice (some ⟨w0.heap.size, 0, none⟩) 0 0) 0 [] rfl hm rfl ?_)
      go_meet
      case rel => exact ⟨_, 0, [], by simp, rfl, hm, (Below.refl _ _).alloc (Nat.le_refl _) _⟩
    | some x =>
      obtain ⟨n, P, Hn, hP, hPL⟩ : ∃ (n : Nat) (P : List UInt8), Hid (n = P.length) ∧ ArgBytes w0 (some x) bcap P ∧ (((L.length : Int) ≤ 2000 ∧ n = L.length) ∨ (¬ (L.length : Int) ≤ 2000 ∧ n = 2000)) := by
        by_cases h2000 : (L.length : Int) ≤ 2000
        · exact ⟨L.length, L, rfl, hb0, .inl ⟨h2000, rfl⟩⟩
        · exact ⟨2000, L.take 2000, show 2000 = _ by rw [List.length_take]; omega, hb0.pre 2000 (by omega), .inr ⟨h2000, rfl⟩⟩
      have hPc := hP.2.2 x rfl
      have hcs : ∀ j u, (bc P)[j]? = some u → (w0.alloc (.cells #[] 5)).cell? (x.add j) = some u := fun j u hu => by
        have e : (x.add j).block = x.block := by unfold Addr.add; split <;> rfl
        exact (((Below.refl w0.heap.size w0).alloc (Nat.le_refl _) _).cell (p := x.add j) (by rw [e]; exact (hPc j u hu).1)).trans (hPc j u hu).2
      clear hPc hP hb0 hb
      rcases hPL with ⟨h2000, hnL⟩ | ⟨h2000, hnL⟩
      · subst hnL
        go_wp2_with (at_builtin; refine wpList_append_own _ rfl (.tmp 12) (.tmp 17) 34 rfl w0.heap.size 5 i0 (.int .u8 0) 1 1 Try.underlying34 hi hz0 hz1 hz2 rfl (by decide) (.slice (some ⟨w0.heap.size, 0, none⟩) 0 0) 0 [] rfl hm x L.length bcap (bc P) rfl (by rw [bc_length]; have := Hn.out; omega) hcs (bc_one P) (by unfold maxLen; omega) (by omega) (by simp) ?_; intro v' w1 hown0 hgrow _; rw [Nat.zero_add, List.nil_append, Hn.out] at hown0; obtain ⟨a', c', rfl⟩ := own_form hown0)
        go_meet
        case rel => exact ⟨a', c', P, by have := Hn.out; omega, rfl, hown0, ((Below.refl _ _).alloc (Nat.le_refl _) _).grown hgrow (by simp) (fun k hk => by simp [Value.ownBlock] at hk; omega)⟩
      · subst hnL
        go_wp2_with (at_builtin; refine wpList_append_own _ rfl (.tmp 12) (.tmp 17) 34 rfl w0.heap.size 5 i0 (.int .u8 0) 1 1 Try.underlying34 hi hz0 hz1 hz2 rfl (by decide) (.slice (some ⟨w0.heap.size, 0, none⟩) 0 0) 0 [] rfl hm x 2000 bcap (bc P) rfl (by rw [bc_length]; have := Hn.out; omega) hcs (bc_one P) (by unfold maxLen; omega) (by omega) (by simp) ?_; intro v' w1 hown0 hgrow _; rw [Nat.zero_add, List.nil_append, Hn.out] at hown0; obtain ⟨a', c', rfl⟩ := own_form hown0)
        go_meet
        case rel => exact ⟨a', c', P, by have := Hn.out; omega, rfl, hown0, ((Below.refl _ _).alloc (Nat.le_refl _) _).grown hgrow (by simp) (fun k hk => by simp [Value.ownBlock] at hk; omega)⟩
  case rest =>
    obtain ⟨a5, c5, P, hP, rfl, ho, hbw⟩ := hcut
    have hcv := conv_bytes (own_bytes ho)
    clear hb
    go_upto_block 0 with (go_at_call 26; refine (read_calls _ _ P _ (own_bytes (ho.alloc _)) (by omega)).mono ?_; rintro e w2 ⟨q, rr, rfl, h2, b2, q2, k2⟩)
    have hu : KQ w2 wc.heap.size ⟨P, false⟩ := ⟨(b2.block wc.heap.size (by simp)).trans (heap_alloc_new _ _), fun e => by cases e⟩
    have s0 := b0.size
    have s1 := hbw.size
    have s2 : wc.heap.size + 1 ≤ w2.heap.size := by have := b2.size; simp at this; omega
    have q2' : wc.heap.size + 1 ≤ q := by simpa using q2
    have hPair : Pair w2 q wc.heap.size ⟨P, false⟩ rr := ⟨h2, hu, by omega, (fun e => by have h := (k2 _ e).1; rw [World.size_alloc] at h; omega), fun k hk => (k2 k hk).2, hP⟩
    have bel2 : Below w.heap.size w w2 := ((b0.trans (hbw.mono s0)).trans ((Below.refl _ _).alloc (by omega) _)).trans (b2.mono (by simp; omega))
    have ho2 : w2.ownsRow w0.heap.size 5 1 (.slice a5 P.length c5) P.length (bc P) := (ho.alloc _).kept (w' := w2) (row := none) ⟨b2.os, b2.tape, b2.output, b2.size, fun k hk _ => b2.block k hk⟩ (by cases (Value.slice a5 P.length c5).ownBlock <;> simp)
    have hrow : ∀ k, (Value.slice a5 P.length c5).ownBlock = some k → w0.heap.size ≤ k ∧ k < wc.heap.size := ho.lt
    have hrr : ∀ k, rr = some k → wc.heap.size < k := fun k hk => by have := (k2 k hk).1; simp at this; omega
    have huw : w.heap.size ≤ wc.heap.size := by omega
    have hqw : w.heap.size ≤ q := by omega
    generalize hu0 : wc.heap.size = u at *
    have Hu : Hid (wc.heap.size = u) := hu0
    obtain ⟨zs, hzs⟩ : ∃ zs : List Int, bc P = zs.map (Value.int .u8) := ⟨P.map fun x => (x.toNat : Int), by simp [bc]⟩
    rw [hzs] at ho2
    generalize P.length = N at *
    clear hu0 hcv ho hbw b2 k2 q2 hu h2 s1 s2 hzs
    go_cut [8] (fun _ wd => w2.grownBy wd (Value.slice a5 N c5).ownBlock)
    case first =>
      go_wp2_with fail
      go_loopw [8] (fun i wz => ∃ (t : Nat) (ys : List Int), t ≤ N ∧ i = .int .i64 (t : Int) ∧ wz.ownsRow w0.heap.size 5 1 (.slice a5 N c5) N (ys.map (Value.int .u8)) ∧ w2.grownBy wz (Value.slice a5 N c5).ownBlock) (fun i _ => N - (intOf i).toNat)
      case atStart => exact ⟨0, zs, Nat.zero_le _, rfl, ho2, World.grownBy.refl _ _⟩
      case round =>
        obtain ⟨t, ys, ht, rfl, hoz, hz⟩ := hrel
        clear ho2
        by_cases htN : t < N
        · obtain ⟨g5, hav⟩ : ∃ g5, a5 = some ⟨g5, 0, none⟩ := by
            obtain ⟨g5, cap5, he, _⟩ := hoz.form (by omega)
            simp only [Value.slice.injEq] at he
            exact ⟨g5, he.1⟩
          subst hav
          have hyl : t < ys.length := by have := hoz.1; simp at this; omega
          have hc := hoz.cellAt t (by omega)
          have hfz := hoz.frozenAt t
          rw [List.getElem?_map, List.getElem?_eq_getElem hyl, Option.map_some] at hc
          have hst := hoz.stored t (.int .u8 (IntKind.u8.wrap (ys[t] + 1)))
          rw [← List.map_set] at hst
          have R1 := hst.1
          have R2 := grown_trans hz hst.2
          clear hst
          go_wp2
          go_roundw
          case rel => exact ⟨t + 1, ys.set t (IntKind.u8.wrap (ys[t] + 1)), by omega, by go_num, R1, R2⟩
          case measure => simp [intOf]; omega
        · have hnt : ¬ (t : Int) < N := by omega
          go_wp2
          go_meet
          case rel => exact hz
    case rest =>
      have hP3 := pair_grown hPair hcut (fun e => by have := hrow q e.symm; omega) (fun e => by have := hrow u e.symm; omega) (fun k hk e => by have := hrow k e.symm; have := hrr k hk; omega)
      have bel3 := bel2.grown hcut bel2.size (fun k hk => by have := hrow k hk; omega)
      clear hPair bel2 ho2 hcut hrow hrr
      go_wp2_with fail
      go_loopw [9, 10] (fun i _ wr => ∃ (k : Nat) (t : RS), k ≤ len ∧ k ≤ 60 ∧ i = .int .i64 k ∧ Pair wr q u t rr ∧ Below w.heap.size w wr) (fun i _ _ => len - (intOf i).toNat)
      case atStart => exact ⟨0, _, Nat.zero_le _, by omega, rfl, hP3, bel3⟩
      case round =>
        obtain ⟨k, t, hk, hk60, rfl, hp, hbel⟩ := hrel
        clear hP3 bel3
        by_cases hlt : k < len
        · by_cases hk60' : (k : Int) < 60
          · obtain ⟨g, off, rfl, hg, c0, c1, c2, c3, hkb, hnb, hv, hts⟩ := hs k hlt
            have d0 := (hbel.cell (p := ⟨g, off + k * 4, none⟩) (by exact hg)).trans c0
            have d1 := (hbel.cell (p := ⟨g, off + k * 4 + 1, none⟩) (by exact hg)).trans c1
            go_upto_block 4 with fail
            go_cut [10] (fun s wx => s = .bool true ∧ ∃ t' : RS, Pair wx q u t' rr ∧ Below w.heap.size w wx)
            case first =>
              by_cases hk0 : (fs k).kind = 0
              · have hbt : ((fs k).kind == 0) = true := by rw [beq_iff_eq]; exact hk0
                clear hk0
                go_wp2_with (first
                  | (go_at_call 27; refine (byte_reads _ q t rr hp.1).mono ?_; rintro e w3 ⟨rfl, hg3⟩; have hp1 := pair_r hp hg3; have e3 := hbel.trans (hg3.2.below (B := w.heap.size) hbel.size hqw (fun i hi => by cases hi)))
                  | (go_at_call 28; refine (kbyte_reads _ u t hp1.2).mono ?_; rintro e w4 ⟨rfl, hg4⟩; have hp4 := pair_k hp hg3.2.size hp1.1 hg4 (got_le t 1); have e4 := e3.trans (hg4.2.below (B := w.heap.size) e3.size huw (fun i hi => by cases hi))))
                go_meet
                case rel => exact ⟨by simp, _, hp4, e4⟩
              have hb0 : ((fs k).kind == 0) = false := by rw [beq_eq_false_iff_ne]; exact hk0
              clear hk0
              by_cases hk1 : (fs k).kind = 1
              · have hbt : ((fs k).kind == 1) = true := by rw [beq_iff_eq]; exact hk1
                clear hk1
                go_wp2_with (first
                  | (go_at_call 29; refine (word_reads _ q t rr hp.1).mono ?_; rintro e w3 ⟨rfl, hg3⟩; have hp1 := pair_r hp hg3; have e3 := hbel.trans (hg3.2.below (B := w.heap.size) hbel.size hqw (fun i hi => by cases hi)))
                  | (go_at_call 30; refine (kword_reads _ u t hp1.2).mono ?_; rintro e w4 ⟨rfl, hg4⟩; have hp4 := pair_k hp hg3.2.size hp1.1 hg4 (got_le t 4); have e4 := e3.trans (hg4.2.below (B := w.heap.size) e3.size huw (fun i hi => by cases hi))))
                go_meet
                case rel => exact ⟨by simp, _, hp4, e4⟩
              have hb1 : ((fs k).kind == 1) = false := by rw [beq_eq_false_iff_ne]; exact hk1
              clear hk1
              by_cases hk2 : (fs k).kind = 2
              · have hbt : ((fs k).kind == 2) = true := by rw [beq_iff_eq]; exact hk2
                clear hk2
                go_wp2_with (first
                  | (go_at_call 31; refine (long_reads _ q t rr hp.1).mono ?_; rintro e w3 ⟨rfl, hg3⟩; have hp1 := pair_r hp hg3; have e3 := hbel.trans (hg3.2.below (B := w.heap.size) hbel.size hqw (fun i hi => by cases hi)))
                  | (go_at_call 32; refine (klong_reads _ u t hp1.2).mono ?_; rintro e w4 ⟨rfl, hg4⟩; have hp4 := pair_k hp hg3.2.size hp1.1 hg4 (got_le t 8); have e4 := e3.trans (hg4.2.below (B := w.heap.size) e3.size huw (fun i hi => by cases hi))))
                go_meet
                case rel => exact ⟨by simp, _, hp4, e4⟩
              have hb2 : ((fs k).kind == 2) = false := by rw [beq_eq_false_iff_ne]; exact hk2
              clear hk2
              by_cases hk3 : (fs k).kind = 3
              · have hbt : ((fs k).kind == 3) = true := by rw [beq_iff_eq]; exact hk3
                clear hk3
                go_wp2_with (first
                  | (go_at_call 33; refine (text_reads _ q t rr hp.1).mono ?_; rintro e w3 ⟨rfl, hg3⟩; have hp1 := pair_r hp hg3; have e3 := hbel.trans (hg3.2.below (B := w.heap.size) hbel.size hqw (fun i hi => by cases hi)))
                  | (go_at_call 34; refine (ktext_reads _ u t hp1.2).mono ?_; rintro e w4 ⟨rfl, hg4⟩; have hp4 := pair_k hp hg3.2.size hp1.1 hg4 (Nat.le_trans (got_le (t.take 1) _) (got_le t 1)); have e4 := e3.trans (hg4.2.below (B := w.heap.size) e3.size huw (fun i hi => by cases hi))))
                go_meet
                case rel => exact ⟨by simp, _, hp4, e4⟩
              have hb3 : ((fs k).kind == 3) = false := by rw [beq_eq_false_iff_ne]; exact hk3
              clear hk3
              by_cases hk4 : (fs k).kind = 4
              · have hbt : ((fs k).kind == 4) = true := by rw [beq_iff_eq]; exact hk4
                clear hk4
                go_wp2_with fail
                go_region_held3 (fun w' => w'.cell? ⟨g, off + k * 4 + 1, none⟩ = some (.int .i64 (fs k).n)) (first | go_keep | exact m3 | exact m4)
                  (first
                    | (go_at_call 35; refine (raw_reads _ q (fs k).n t rr (by exact hp.1)).mono ?_; rintro e w3 ⟨rfl, hg3⟩; have hg3' : RdG q wr rr (t.take (fs k).n) w3 := ⟨hg3.1, ⟨hg3.2.os, hg3.2.tape, hg3.2.output, hg3.2.size, hg3.2.block⟩⟩; have hp1 := pair_r hp hg3'; have e3 := hbel.trans (hg3'.2.below (B := w.heap.size) hbel.size hqw (fun i hi => by cases hi)); have m3 := (e3.cell (p := ⟨g, off + k * 4 + 1, none⟩) (by exact hg)).trans c1)
                    | (go_at_call 36; refine (kraw_reads _ u (fs k).n t hp1.2).mono ?_; rintro e w4 ⟨rfl, hg4⟩; have hp4 := pair_k hp hg3'.2.size hp1.1 hg4 (got_le t _); have e4 := e3.trans (hg4.2.below (B := w.heap.size) e3.size huw (fun i hi => by cases hi)); have m4 := (e4.cell (p := ⟨g, off + k * 4 + 1, none⟩) (by exact hg)).trans c1))
                go_wp2_with fail
                go_meet
                case rel => exact ⟨by simp, _, hp4, e4⟩
              have hb4 : ((fs k).kind == 4) = false := by rw [beq_eq_false_iff_ne]; exact hk4
              clear hk4
              go_wp2_with fail
              go_meet
              case rel => exact ⟨rfl, t, hp, hbel⟩
            case rest =>
              obtain ⟨rfl, t', hp', hbel'⟩ := hcut
              clear hp hbel d0 d1
              have hsz : (str t'.l).size = t'.l.length := str_size t'.l
              obtain ⟨u0, u1⟩ := cells2 hp'.2.1.1
              go_wp2_with fail
              go_region_held3 (fun w' => w'.cell? ⟨u, 0, none⟩ = some (.string (str t'.l)) ∧ w'.cell? ⟨u, 1, none⟩ = some (.bool t'.bad)) (first | go_keep | exact ⟨m5, m6⟩)
                (first
                  | (go_at_call 37; refine (left_reads _ q t' rr (by exact hp'.1)).mono ?_; rintro e w3 ⟨rfl, rfl⟩)
                  | (go_at_call 38; refine (wrong_reads _ q t' rr (by exact hp'.1)).mono ?_; rintro e w3 ⟨rfl, rfl⟩)
                  | (go_at_call 39; refine (noughts_reads _ q t' rr (by exact hp'.1) (by exact hp'.2.2.2.2.1) (by have := hp'.2.2.2.2.2; omega)).mono ?_; rintro e w4 ⟨rfl, b4⟩; have hp4 := hp'.below ⟨b4.os, b4.tape, b4.output, b4.size, b4.block⟩; have m5 := (cells2 hp4.2.1.1).1; have m6 := (cells2 hp4.2.1.1).2)
                  | (go_at_call 40; refine (knoughts_reads _ u t' hp4.2.1 (by have := hp'.2.2.2.2.2; omega)).mono ?_; rintro e w5 ⟨rfl, rfl⟩))
              have e4 := hbel'.trans (Below.mono (B := _) ⟨b4.os, b4.tape, b4.output, b4.size, b4.block⟩ hbel'.size)
              go_wp2
              go_roundw
              case rel => exact ⟨k + 1, t', by omega, by omega, by go_num, hp4, e4⟩
              case measure => simp [intOf]; omega
          · go_wp2
            go_ret
            exact ⟨rfl, hbel⟩
        · have h60 : ¬ (k : Int) < len := by omega
          go_wp2
          go_ret
          exact ⟨rfl, hbel⟩
end Go.Proofs.Ytjcipamnidomkaa
