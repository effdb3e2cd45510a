/- DeviceArmed's walk: a device that is armed crashes at that call, and as Crash does. -/
import Derived.Test.YtmemhckkfhlnmaaDevTwo
namespace Go.Proofs.Ytmemhckkfhlnmaa
set_option linter.unusedVariables false
open Go.RowKit
attribute [local go_sem ↓] Go.wp_at_zero Go.wp_at_succ

theorem read_up {D : DS} (h : D.down = false) (hb : D.blocks = 8) (i : Int) (h0 : 0 ≤ i) (h1 : i < 8) : D.read i = (D.nw i, 0) := by
  unfold DS.read
  rw [if_neg (by rw [h]; simp), if_neg (by omega)]


theorem and31 (n : Int) : bits .and .i64 n 31 = n % 32 := by
  show IntKind.i64.wrap ((BitVec.ofInt 64 n &&& BitVec.ofInt 64 ((31 : Nat) : Int)).toNat : Nat) = n % 32
  rw [and_ones n 31 5 (by decide), IntKind.wrap_i64]
  omega
theorem new2 (w : World) (p : Nat) (D : DS) (B : Nat) (n : Int) (h : DQ w p D B) (hn : I64 n) : Calls Try.prog 10 #[.int .i64 n] w fun e w' => e = .returned (.pointer (some ⟨w.heap.size + 2, 0, none⟩)) ∧ D2 w' p D (w.heap.size + 2) (DS.new n) B ∧ Below w.heap.size w w' := by
  obtain ⟨r, T, h1, h2, h3⟩ := h
  refine (new_calls w n hn).mono fun e w' ⟨e1, e2, e3⟩ => ⟨e1, ⟨r, T, _, _, h1.below e3 (Nat.le_refl _), e2, fun k hk => ?_, fun k hk => ?_, Nat.le_trans h3 e3.size⟩, e3⟩
  · have hl := h1.mine_lt hk
    refine ⟨h2 k hk, fun hm => ?_, fun hf => hf.elim⟩
    rcases hm with e | e | e | e
    · omega
    · have e' : k = w.heap.size := e
      omega
    · have e' : k = w.heap.size + 1 := e
      omega
    · cases e
  · have hk' : w.heap.size ≤ k := by
      rcases hk with e | e | e | e
      · omega
      · have e' : k = w.heap.size := e
        omega
      · have e' : k = w.heap.size + 1 := e
        omega
      · cases e
    exact ⟨by omega, fun ht => by have := (h1.tt k ht).1; omega⟩

/-- One that is armed, one that is crashed by hand: behind i of n calls. -/
structure Tw (A B : DS) (n i mask torn bytes : Int) : Prop where
  fl : B.fl = A.fl
  nw : B.nw = A.nw
  lo : B.loose = A.loose
  dn : B.down = A.down
  ba : A.blocks = 8
  bb : B.blocks = 8
  before : i < n → A.down = false ∧ A.armed = n - i ∧ A.mask = mask ∧ A.torn = torn ∧ A.bytes = bytes ∧ B.armed = 0
  after : n ≤ i → A.down = true
  ca : A.calls ≤ i
  cb : B.calls ≤ i
theorem tick_dn {D : DS} (h : D.down = true) : D.tick = (D, false) := by
  unfold DS.tick
  rw [if_pos h]
theorem Tw.more {A B : DS} {n i mask torn bytes : Int} (h : Tw A B n i mask torn bytes) (hi : n ≤ i) : Tw A B n (i + 1) mask torn bytes :=
  ⟨h.fl, h.nw, h.lo, h.dn, h.ba, h.bb, fun h1 => by omega, fun _ => h.after hi, by have := h.ca; omega, by have := h.cb; omega⟩
theorem Tw.ticks {A B : DS} {n i mask torn bytes : Int} (h : Tw A B n i mask torn bytes) (hi : i + 1 < n) :
    A.tick = ({ A with calls := A.calls + 1, armed := A.armed - 1 }, true) ∧ B.tick = ({ B with calls := B.calls + 1 }, true) ∧ Tw { A with calls := A.calls + 1, armed := A.armed - 1 } { B with calls := B.calls + 1 } n (i + 1) mask torn bytes := by
  obtain ⟨d1, d2, d3, d4, d5, d6⟩ := h.before (by omega)
  have hd : B.down = false := h.dn.trans d1
  refine ⟨?_, ?_, ⟨h.fl, h.nw, h.lo, h.dn, h.ba, h.bb, fun _ => ⟨d1, by show A.armed - 1 = _; omega, d3, d4, d5, d6⟩, fun h1 => by omega, by have := h.ca; show A.calls + 1 ≤ _; omega, by have := h.cb; show B.calls + 1 ≤ _; omega⟩⟩
  · unfold DS.tick
    rw [if_neg (by rw [d1]; simp), if_neg (by omega), if_neg (by omega)]
  · unfold DS.tick
    rw [if_neg (by rw [hd]; simp), if_pos d6]
theorem Tw.flush {A B : DS} {n i mask torn bytes : Int} (h : Tw A B n i mask torn bytes) (hi : i + 1 ≠ n) : A.flush.2 = B.flush.2 ∧ Tw A.flush.1 B.flush.1 n (i + 1) mask torn bytes := by
  by_cases hn : i + 1 < n
  · obtain ⟨t1, t2, t3⟩ := h.ticks hn
    unfold DS.flush
    rw [t1, t2]
    exact ⟨rfl, ⟨t3.nw, t3.nw, rfl, t3.dn, t3.ba, t3.bb, t3.before, t3.after, t3.ca, t3.cb⟩⟩
  · have hd := h.after (by omega)
    have hd2 : B.down = true := h.dn.trans hd
    unfold DS.flush
    rw [tick_dn hd, tick_dn hd2]
    exact ⟨rfl, h.more (by omega)⟩
theorem Tw.write {A B : DS} {n i mask torn bytes : Int} (h : Tw A B n i mask torn bytes) (hi : i + 1 ≠ n) (m : Int) (b : List UInt8) : (A.write m b).2 = (B.write m b).2 ∧ Tw (A.write m b).1 (B.write m b).1 n (i + 1) mask torn bytes := by
  by_cases hn : i + 1 < n
  · obtain ⟨t1, t2, t3⟩ := h.ticks hn
    unfold DS.write
    rw [t1, t2]
    have hA := h.ba
    have hB := h.bb
    by_cases hc : m < 0 ∨ A.blocks ≤ m ∨ b.length ≠ 512
    · have hc2 : m < 0 ∨ B.blocks ≤ m ∨ b.length ≠ 512 := by omega
      rw [if_neg (by simp), if_pos hc, if_neg (by simp), if_pos hc2]
      exact ⟨rfl, t3⟩
    · have hc2 : ¬ (m < 0 ∨ B.blocks ≤ m ∨ b.length ≠ 512) := by omega
      rw [if_neg (by simp), if_neg hc, if_neg (by simp), if_neg hc2]
      refine ⟨rfl, t3.fl, ?_, ?_, t3.dn, t3.ba, t3.bb, t3.before, t3.after, t3.ca, t3.cb⟩
      · simp only [DS.put, h.nw]
      · simp only [DS.put, h.lo]
  · have hd := h.after (by omega)
    have hd2 : B.down = true := h.dn.trans hd
    unfold DS.write
    rw [tick_dn hd, tick_dn hd2]
    exact ⟨rfl, h.more (by omega)⟩
theorem Tw.fall {A B : DS} {n i mask torn bytes : Int} (h : Tw A B n i mask torn bytes) (hi : i + 1 = n) : A.tick = (({ A with calls := A.calls + 1 } : DS).crash mask torn bytes, false) ∧ Tw (({ A with calls := A.calls + 1 } : DS).crash mask torn bytes) (B.crash mask torn bytes) n (i + 1) mask torn bytes := by
  obtain ⟨d1, d2, d3, d4, d5, d6⟩ := h.before (by omega)
  have hd : B.down = false := h.dn.trans d1
  have es : B.settled mask torn bytes = ({ A with calls := A.calls + 1 } : DS).settled mask torn bytes := by
    funext k
    unfold DS.settled
    simp only [h.fl, h.nw, h.lo]
  refine ⟨?_, ?_⟩
  · unfold DS.tick
    rw [if_neg (by rw [d1]; simp), if_neg (by omega), if_pos (by omega), d3, d4, d5]
  · have hA : ({ A with calls := A.calls + 1 } : DS).crash mask torn bytes = { A with calls := A.calls + 1, fl := ({ A with calls := A.calls + 1 } : DS).settled mask torn bytes, nw := ({ A with calls := A.calls + 1 } : DS).settled mask torn bytes, loose := [], down := true, armed := 0 } := by
      unfold DS.crash
      rw [if_neg (by show ¬ (A.down = true); rw [d1]; simp)]
    have hB : B.crash mask torn bytes = { B with fl := B.settled mask torn bytes, nw := B.settled mask torn bytes, loose := [], down := true, armed := 0 } := by
      unfold DS.crash
      rw [if_neg (by rw [hd]; simp)]
    rw [hA, hB, es]
    exact ⟨rfl, rfl, rfl, rfl, h.ba, h.bb, fun h1 => by omega, fun _ => rfl, by have := h.ca; show A.calls + 1 ≤ _; omega, by have := h.cb; show B.calls ≤ _; omega⟩
theorem Tw.fall_f {A B : DS} {n i mask torn bytes : Int} (h : Tw A B n i mask torn bytes) (hi : i + 1 = n) : A.flush.2 = 11 ∧ Tw A.flush.1 (B.crash mask torn bytes) n (i + 1) mask torn bytes := by
  obtain ⟨t1, t2⟩ := h.fall hi
  unfold DS.flush
  rw [t1]
  exact ⟨rfl, t2⟩
theorem Tw.fall_w {A B : DS} {n i mask torn bytes : Int} (h : Tw A B n i mask torn bytes) (hi : i + 1 = n) (m : Int) (b : List UInt8) : (A.write m b).2 = 11 ∧ Tw (A.write m b).1 (B.crash mask torn bytes) n (i + 1) mask torn bytes := by
  obtain ⟨t1, t2⟩ := h.fall hi
  unfold DS.write
  rw [t1]
  exact ⟨rfl, t2⟩
theorem Tw.first_of {D : DS} (P : Plain D 0) (n mask torn bytes : Int) (hn : 1 ≤ n) : Tw (D.arm n mask torn bytes) D n 0 mask torn bytes :=
  ⟨rfl, rfl, rfl, rfl, P.bl, P.bl, fun _ => ⟨P.dn, by show max n 0 = _; omega, rfl, rfl, rfl, P.ar⟩, fun h => by omega, P.cl, P.cl⟩
theorem Tw.first (n mask torn bytes : Int) (hn : 1 ≤ n) : Tw ((DS.new 8).arm n mask torn bytes) (DS.new 8) n 0 mask torn bytes := Tw.first_of Plain.first n mask torn bytes hn

set_option maxHeartbeats 8000000 in
set_option maxRecDepth 100000 in
theorem armed_walk (w : World) (a : Option Addr) (len cap : Nat) (os : Nat → OD) (narg mask torn bytes : Int) (hlen : len ≤ maxLen) (hos : OpsIn w a len os) (hm : 0 ≤ mask ∧ mask ≤ 18446744073709551615) (htn : I64 torn) (hby : I64 bytes) :
    Calls Try.prog 5 #[.slice a len cap, .int .i64 narg, .int .u64 mask, .int .i64 torn, .int .i64 bytes] w fun e w' => e = .returned (.bool true) ∧ Below w.heap.size w w' := by
  have h31 := and31 narg
  obtain ⟨x, hx⟩ : ∃ x, x = narg % 32 := ⟨_, rfl⟩
  rw [← hx] at h31
  have hx0 : 0 ≤ x := by omega
  have hx1 : x < 32 := by omega
  clear hx
  go_enter Try.func5, Try.ntmps5
  go_wp2_with fail
  refine (shown_calls _).mono ?_
  rintro e w0 ⟨rfl, b0⟩
  go_wp2_with fail
  refine (newQ _ 8 ⟨by omega, by omega⟩).mono ?_
  rintro e w1 ⟨rfl, h1, b1⟩
  generalize hp : w0.heap.size + 2 = p at *
  clear hp
  go_wp2_with fail
  refine (new2 _ p _ _ 8 h1 ⟨by omega, by omega⟩).mono ?_
  rintro e w2 ⟨rfl, h2, b2⟩
  generalize hq : w1.heap.size + 2 = q at *
  clear hq
  have hw0 := b0.size
  have B1 : Below w.heap.size w w1 := b0.trans (b1.mono b0.size)
  have B2 : Below w.heap.size w w2 := B1.trans (b2.mono B1.size)
  clear b1 b2 B1 h1
  go_wp2_with fail
  refine (arm2 _ p q _ _ _ (1 + x) mask torn bytes h2 ⟨by omega, by omega⟩ hm htn hby).mono ?_
  rintro e w3 ⟨rfl, h3, b3⟩
  have B3 := B2.trans (b3.mono hw0)
  have hT0 := Tw.first (1 + x) mask torn bytes (by omega)
  clear h2 b3 B2
  go_wp2_with fail
  go_loopw [14] (fun i wr => ∃ (k : Nat) (A Bd : DS), k ≤ len ∧ k ≤ 60 ∧ i = .int .i64 (k : Int) ∧ D2 wr p A q Bd w0.heap.size ∧ Tw A Bd (1 + x) k mask torn bytes ∧ Below w.heap.size w wr)
    (fun i _ => len - (intOf i).toNat)
  case atStart => exact ⟨0, _, _, Nat.zero_le _, Nat.zero_le _, rfl, h3, hT0, B3⟩
  case round =>
    obtain ⟨k, A, Bd, hk, hk60, rfl, hP, hT, hBel⟩ := hrel
    clear h3 hT0 B3
    have hkb : (k : Int) < 1000 := by omega
    have hca := hT.ca
    have hcb := hT.cb
    by_cases hk5 : k < len ∧ k < 60
    · obtain ⟨hk5, hk6⟩ := hk5
      have hki : (k : Int) < (len : Int) := by omega
      have hki2 : (k : Int) < 60 := by omega
      obtain ⟨b, off, rfl, hbl, hall⟩ : ∃ b off, a = some ⟨b, off, none⟩ ∧ b < w.heap.size ∧ ∀ i, i < len → OpAt w b (off + i * 7) (os i) ∧ (os i).In := by
        rcases hos with h0 | h0
        · omega
        · exact h0
      obtain ⟨hat, hin⟩ := hall k hk5
      have HS : Hid (∀ w' : World, Below w.heap.size w w' → w'.cell? ⟨b, off + k * 7, none⟩ = some (.int .i64 (os k).kind) ∧ w'.cell? ⟨b, off + k * 7 + 1, none⟩ = some (.int .i64 (os k).n) ∧ w'.cell? ⟨b, off + k * 7 + 2, none⟩ = some (.int .i64 (os k).c)) := fun w' hb => ⟨(hat.below hb hbl).1, (hat.below hb hbl).2.1, (hat.below hb hbl).2.2.1⟩
      clear hat hall hos hin
      generalize (os k).kind = kd at *
      generalize (os k).n = on at *
      generalize (os k).c = oc at *
      have h15n := and15 on
      obtain ⟨nm, hnm⟩ : ∃ nm, nm = on % 16 := ⟨_, rfl⟩
      rw [← hnm] at h15n
      have hn0 : 0 ≤ nm := by omega
      have hn1 : nm < 16 := by omega
      clear hnm
      have HC : Hid ((cont oc).length = 512) := cont_length oc
      obtain ⟨z0, z1, z2⟩ := HS.out wr hBel
      by_cases ek : kd = 2
      · have tk : (kd == 2) = true := by simp [ek]
        clear ek
        by_cases en : (k : Int) + 1 = 1 + x
        · have tn : ((k : Int) + 1 == 1 + x) = true := by simp; omega
          obtain ⟨hc, hT'⟩ := hT.fall_f en
          go_wp2_with fail
          refine (flush2 _ p q _ _ _ hP (by omega)).mono ?_
          rintro e w5 ⟨rfl, h5, b5⟩
          rw [hc]
          go_wp2_with fail
          refine (crash2 _ q p _ _ _ mask torn bytes h5.swap (by omega) hm htn hby).mono ?_
          rintro e w6 ⟨rfl, h6, b6⟩
          go_wp2
          go_roundw
          case rel => exact ⟨k + 1, _, _, by omega, by omega, by go_num, h6.swap, hT', (hBel.trans (b5.mono hw0)).trans (b6.mono hw0)⟩
          case measure => simp [intOf]; omega
        · have tn : ((k : Int) + 1 == 1 + x) = false := by simp; omega
          obtain ⟨hc, hT'⟩ := hT.flush en
          go_wp2_with fail
          refine (flush2 _ p q _ _ _ hP (by omega)).mono ?_
          rintro e w5 ⟨rfl, h5, b5⟩
          rw [hc]
          have W5 := hBel.trans (b5.mono hw0)
          obtain ⟨v0, v1, v2⟩ := HS.out w5 W5
          go_wp2_with fail
          refine (flush2 _ q p _ _ _ h5.swap (by omega)).mono ?_
          rintro e w6 ⟨rfl, h6, b6⟩
          have W6 := W5.trans (b6.mono hw0)
          generalize hca2 : Bd.flush.2 = yc at *
          generalize hga : A.flush.1 = A1 at *
          generalize hgb : Bd.flush.1 = Bd1 at *
          clear hca2 hga hgb
          go_wp2_with fail
          refine (upQ _ p _ _ h6.two).mono ?_
          rintro e x1 ⟨rfl, rfl⟩
          go_wp2_with fail
          refine (upQ _ q _ _ h6.one).mono ?_
          rintro e x1 ⟨rfl, rfl⟩
          rw [hT'.dn]
          go_wp2_with fail
          refine (looseQ _ p _ _ h6.two).mono ?_
          rintro e x1 ⟨rfl, rfl⟩
          go_wp2_with fail
          refine (looseQ _ q _ _ h6.one).mono ?_
          rintro e x1 ⟨rfl, rfl⟩
          rw [hT'.lo]
          go_wp2
          go_roundw
          case rel => exact ⟨k + 1, _, _, by omega, by omega, by go_num, h6.swap, hT', W6⟩
          case measure => simp [intOf]; omega
      · have tk : (kd == 2) = false := by simp [ek]
        clear ek
        by_cases en : (k : Int) + 1 = 1 + x
        · have tn : ((k : Int) + 1 == 1 + x) = true := by simp; omega
          obtain ⟨hc, hT'⟩ := hT.fall_w en nm (cont oc)
          go_wp2_with fail
          go_region_held3 (fun w' => w'.cell? ⟨b, off + k * 7, none⟩ = some (.int .i64 kd) ∧ w'.cell? ⟨b, off + k * 7 + 1, none⟩ = some (.int .i64 on) ∧ w'.cell? ⟨b, off + k * 7 + 2, none⟩ = some (.int .i64 oc)) (first | exact HS.out _ ⟨hBel.os, hBel.tape, hBel.output, hBel.size, hBel.block⟩ | exact d5 | exact d6 | fail)
            (first
              | (go_at_call 22; refine (content_calls _ oc).mono ?_; rintro e w5 ⟨rfl, o5, b5⟩; have B5 : Below wr.heap.size wr w5 := ⟨b5.os, b5.tape, b5.output, b5.size, b5.block⟩; have W5 := hBel.trans (B5.mono hBel.size); have d5 := HS.out w5 W5; have hW := write2 wr w5 p q _ _ w0.heap.size nm _ (cont oc) hP B5 (made_fresh o5) (by omega) (by rw [HC.out]; exact Nat.le_refl _) ⟨by omega, by omega⟩)
              | (go_at_call 21; refine hW.mono ?_; rintro e w6 ⟨rfl, h6, b6⟩; rw [hc]; have W6 := W5.trans (b6.mono hw0); have d6 := HS.out w6 W6))
          all_goals
            go_wp2_with fail
            refine (crash2 _ q p _ _ _ mask torn bytes h6.swap (by omega) hm htn hby).mono ?_
            rintro e w7 ⟨rfl, h7, b7⟩
            go_wp2
            go_roundw
            case rel => exact ⟨k + 1, _, _, by omega, by omega, by go_num, h7.swap, hT', W6.trans (b7.mono hw0)⟩
            case measure => simp [intOf]; omega
        · have tn : ((k : Int) + 1 == 1 + x) = false := by simp; omega
          obtain ⟨hc, hT'⟩ := hT.write en nm (cont oc)
          go_wp2_with fail
          go_region_held3 (fun w' => w'.cell? ⟨b, off + k * 7, none⟩ = some (.int .i64 kd) ∧ w'.cell? ⟨b, off + k * 7 + 1, none⟩ = some (.int .i64 on) ∧ w'.cell? ⟨b, off + k * 7 + 2, none⟩ = some (.int .i64 oc)) (first | exact HS.out _ ⟨hBel.os, hBel.tape, hBel.output, hBel.size, hBel.block⟩ | exact d5 | exact d6 | fail)
            (first
              | (go_at_call 22; refine (content_calls _ oc).mono ?_; rintro e w5 ⟨rfl, o5, b5⟩; have B5 : Below wr.heap.size wr w5 := ⟨b5.os, b5.tape, b5.output, b5.size, b5.block⟩; have W5 := hBel.trans (B5.mono hBel.size); have d5 := HS.out w5 W5; have hW := write2 wr w5 p q _ _ w0.heap.size nm _ (cont oc) hP B5 (made_fresh o5) (by omega) (by rw [HC.out]; exact Nat.le_refl _) ⟨by omega, by omega⟩)
              | (go_at_call 21; refine hW.mono ?_; rintro e w6 ⟨rfl, h6, b6⟩; rw [hc]; have W6 := W5.trans (b6.mono hw0); have d6 := HS.out w6 W6))
          all_goals
            obtain ⟨v0, v1, v2⟩ := d6
            go_wp2_with fail
            go_region_held3 (fun w' => w'.cell? ⟨b, off + k * 7, none⟩ = some (.int .i64 kd) ∧ w'.cell? ⟨b, off + k * 7 + 1, none⟩ = some (.int .i64 on) ∧ w'.cell? ⟨b, off + k * 7 + 2, none⟩ = some (.int .i64 oc)) (first | exact HS.out _ ⟨W6.os, W6.tape, W6.output, W6.size, W6.block⟩ | exact d7 | exact d8 | fail)
              (first
                | (go_at_call 22; refine (content_calls _ oc).mono ?_; rintro e w7 ⟨rfl, o7, b7⟩; have B7 : Below w6.heap.size w6 w7 := ⟨b7.os, b7.tape, b7.output, b7.size, b7.block⟩; have W7 := W6.trans (B7.mono W6.size); have d7 := HS.out w7 W7; have hW2 := write2 w6 w7 q p _ _ w0.heap.size nm _ (cont oc) h6.swap B7 (made_fresh o7) (by omega) (by rw [HC.out]; exact Nat.le_refl _) ⟨by omega, by omega⟩)
                | (go_at_call 21; refine hW2.mono ?_; rintro e w8 ⟨rfl, h8, b8⟩; have W8 := W7.trans (b8.mono hw0); have d8 := HS.out w8 W8))
          all_goals
            generalize hca2 : (Bd.write nm (cont oc)).2 = yc at *
            generalize hga : (A.write nm (cont oc)).1 = A1 at *
            generalize hgb : (Bd.write nm (cont oc)).1 = Bd1 at *
            clear hca2 hga hgb
            have h6 := h8
            have W6 := W8
            go_wp2_with fail
            refine (upQ _ p _ _ h6.two).mono ?_
            rintro e x1 ⟨rfl, rfl⟩
            go_wp2_with fail
            refine (upQ _ q _ _ h6.one).mono ?_
            rintro e x1 ⟨rfl, rfl⟩
            rw [hT'.dn]
            go_wp2_with fail
            refine (looseQ _ p _ _ h6.two).mono ?_
            rintro e x1 ⟨rfl, rfl⟩
            go_wp2_with fail
            refine (looseQ _ q _ _ h6.one).mono ?_
            rintro e x1 ⟨rfl, rfl⟩
            rw [hT'.lo]
            go_wp2
            go_roundw
            case rel => exact ⟨k + 1, _, _, by omega, by omega, by go_num, h6.swap, hT', W6⟩
            case measure => simp [intOf]; omega
    · by_cases hkl : k < len
      · have hki : (k : Int) < (len : Int) := by omega
        have hkj : ¬ ((k : Int) < 60) := by omega
        go_wp2_with fail
        refine (start2 _ p q _ _ _ hP).mono ?_
        rintro e w12 ⟨rfl, h12, b12⟩
        go_wp2_with fail
        refine (start2 _ q p _ _ _ h12.swap).mono ?_
        rintro e w13 ⟨rfl, h13, b13⟩
        have hF := h13.swap
        have W13 : Below w.heap.size w w13 := (hBel.trans (b12.mono hw0)).trans (b13.mono hw0)
        have HRD : Hid (∀ i : Int, 0 ≤ i → i < 8 → A.start.read i = (A.nw i, 0) ∧ Bd.start.read i = (A.nw i, 0)) := fun i h0 h1 => ⟨read_up (D := A.start) rfl hT.ba i h0 h1, by rw [read_up (D := Bd.start) rfl hT.bb i h0 h1]; show (Bd.nw i, (0 : Int)) = _; rw [hT.nw]⟩
        clear h12 h13 b12 b13 hBel hP
        generalize hgn : A.nw = N at *
        generalize hga : A.start = A at *
        generalize hgb : Bd.start = Bd at *
        clear hgn hga hgb hT
        go_wp2_with fail
        go_loopw [17] (fun i wr => ∃ (k : Nat), k ≤ 8 ∧ i = .int .i64 (k : Int) ∧ D2 wr p A q Bd w0.heap.size ∧ Below w.heap.size w wr)
          (fun i _ => 8 - (intOf i).toNat)
        case atStart => exact ⟨0, Nat.zero_le _, rfl, hF, W13⟩
        case round =>
          obtain ⟨k, hk, rfl, hP, hBl⟩ := hrel
          clear hF W13
          by_cases hk8 : k < 8
          · have hk9 : (k : Int) < 8 := by omega
            obtain ⟨R1, R2⟩ := HRD.out (k : Int) (by omega) hk9
            have r1 := readQ wr p A w0.heap.size k hP.one ⟨by omega, by omega⟩
            rw [R1] at r1
            go_wp2_with fail
            refine r1.mono ?_
            rintro e x1 ⟨sx, rfl, y1, c1⟩
            have hP1 := hP.below c1 (Nat.le_refl _)
            have r2 := readQ x1 q Bd w0.heap.size k hP1.two ⟨by omega, by omega⟩
            rw [R2] at r2
            go_wp2_with fail
            refine r2.mono ?_
            rintro e x2 ⟨sy, rfl, y2, c2⟩
            have hP2 := hP1.below c2 (Nat.le_refl _)
            have k1 := conv_got (y1.later c2 (Nat.le_refl _))
            have k2 := conv_got y2
            have X1 := hBl.trans (c1.mono hBl.size)
            have X2 := X1.trans (c2.mono X1.size)
            clear r1 r2 R1 R2
            go_wp2
            go_roundw
            case rel => exact ⟨k + 1, by omega, by go_num, hP2, X2⟩
            case measure => simp [intOf]; omega
          · have ek : k = 8 := by omega
            subst ek
            go_wp2
            go_ret
            exact ⟨rfl, hBl⟩
      · have hki : ¬ ((k : Int) < (len : Int)) := by omega
        go_wp2_with fail
        refine (start2 _ p q _ _ _ hP).mono ?_
        rintro e w12 ⟨rfl, h12, b12⟩
        go_wp2_with fail
        refine (start2 _ q p _ _ _ h12.swap).mono ?_
        rintro e w13 ⟨rfl, h13, b13⟩
        have hF := h13.swap
        have W13 : Below w.heap.size w w13 := (hBel.trans (b12.mono hw0)).trans (b13.mono hw0)
        have HRD : Hid (∀ i : Int, 0 ≤ i → i < 8 → A.start.read i = (A.nw i, 0) ∧ Bd.start.read i = (A.nw i, 0)) := fun i h0 h1 => ⟨read_up (D := A.start) rfl hT.ba i h0 h1, by rw [read_up (D := Bd.start) rfl hT.bb i h0 h1]; show (Bd.nw i, (0 : Int)) = _; rw [hT.nw]⟩
        clear h12 h13 b12 b13 hBel hP
        generalize hgn : A.nw = N at *
        generalize hga : A.start = A at *
        generalize hgb : Bd.start = Bd at *
        clear hgn hga hgb hT
        go_wp2_with fail
        go_loopw [17] (fun i wr => ∃ (k : Nat), k ≤ 8 ∧ i = .int .i64 (k : Int) ∧ D2 wr p A q Bd w0.heap.size ∧ Below w.heap.size w wr)
          (fun i _ => 8 - (intOf i).toNat)
        case atStart => exact ⟨0, Nat.zero_le _, rfl, hF, W13⟩
        case round =>
          obtain ⟨k, hk, rfl, hP, hBl⟩ := hrel
          clear hF W13
          by_cases hk8 : k < 8
          · have hk9 : (k : Int) < 8 := by omega
            obtain ⟨R1, R2⟩ := HRD.out (k : Int) (by omega) hk9
            have r1 := readQ wr p A w0.heap.size k hP.one ⟨by omega, by omega⟩
            rw [R1] at r1
            go_wp2_with fail
            refine r1.mono ?_
            rintro e x1 ⟨sx, rfl, y1, c1⟩
            have hP1 := hP.below c1 (Nat.le_refl _)
            have r2 := readQ x1 q Bd w0.heap.size k hP1.two ⟨by omega, by omega⟩
            rw [R2] at r2
            go_wp2_with fail
            refine r2.mono ?_
            rintro e x2 ⟨sy, rfl, y2, c2⟩
            have hP2 := hP1.below c2 (Nat.le_refl _)
            have k1 := conv_got (y1.later c2 (Nat.le_refl _))
            have k2 := conv_got y2
            have X1 := hBl.trans (c1.mono hBl.size)
            have X2 := X1.trans (c2.mono X1.size)
            clear r1 r2 R1 R2
            go_wp2
            go_roundw
            case rel => exact ⟨k + 1, by omega, by go_num, hP2, X2⟩
            case measure => simp [intOf]; omega
          · have ek : k = 8 := by omega
            subst ek
            go_wp2
            go_ret
            exact ⟨rfl, hBl⟩
end Go.Proofs.Ytmemhckkfhlnmaa
