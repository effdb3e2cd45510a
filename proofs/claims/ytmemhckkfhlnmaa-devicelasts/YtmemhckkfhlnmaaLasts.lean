/- DeviceLasts's walk: what is flushed and not written since stays. -/
import Derived.Test.YtmemhckkfhlnmaaDevR
import Derived.Deep.DeepCutAuto
import Derived.Deep.CutBlock
namespace Go.Proofs.Ytmemhckkfhlnmaa
set_option linter.unusedVariables false
open Go.RowKit
attribute [local go_sem ↓] Go.wp_at_zero Go.wp_at_succ

/-- A block that is flushed, not loose, holds X; so many calls at most. -/
structure Safe (D : DS) (wh : Int) (X : List UInt8) (c : Int) : Prop where
  bl : D.blocks = 8
  nl : wh ∉ D.loose
  fl : D.fl wh = X
  cl : D.calls ≤ c
theorem Safe.more {D : DS} {wh : Int} {X : List UInt8} {c c' : Int} (h : Safe D wh X c) (hc : c ≤ c') : Safe D wh X c' := ⟨h.bl, h.nl, h.fl, by have := h.cl; omega⟩
theorem Safe.crash {D : DS} {wh : Int} {X : List UInt8} {c : Int} (h : Safe D wh X c) (mask torn bytes : Int) : Safe (D.crash mask torn bytes) wh X c := by
  unfold DS.crash
  split
  · exact h
  · refine ⟨h.bl, List.not_mem_nil, ?_, h.cl⟩
    show D.settled mask torn bytes wh = X
    unfold DS.settled
    rw [if_neg h.nl]
    exact h.fl
theorem Safe.tick {D : DS} {wh : Int} {X : List UInt8} {c : Int} (h : Safe D wh X c) : Safe D.tick.1 wh X (c + 1) := by
  have h1 : Safe { D with calls := D.calls + 1 } wh X (c + 1) := ⟨h.bl, h.nl, h.fl, by have := h.cl; simp only; omega⟩
  unfold DS.tick
  split
  · exact h.more (by omega)
  · split
    · exact h1
    · split
      · exact h1.crash _ _ _
      · exact ⟨h.bl, h.nl, h.fl, by have := h.cl; simp only; omega⟩
theorem Safe.flush {D : DS} {wh : Int} {X : List UInt8} {c : Int} (h : Safe D wh X c) (ok : D.Ok) : Safe D.flush.1 wh X (c + 1) := by
  have t := h.tick
  have tk := ok.tick
  unfold DS.flush
  split
  · exact t
  · exact ⟨t.bl, List.not_mem_nil, (tk.still wh t.nl).trans t.fl, t.cl⟩
theorem Safe.write {D : DS} {wh : Int} {X : List UInt8} {c : Int} (h : Safe D wh X c) (n : Int) (b : List UInt8) (hn : n ≠ wh) : Safe (D.write n b).1 wh X (c + 1) := by
  have t := h.tick
  unfold DS.write
  split
  · exact t
  · split
    · exact t
    · refine ⟨t.bl, ?_, t.fl, t.cl⟩
      show wh ∉ (if n ∈ D.tick.1.loose then D.tick.1.loose else D.tick.1.loose ++ [n])
      split
      · exact t.nl
      · intro hm
        rcases List.mem_append.1 hm with hm | hm
        · exact t.nl hm
        · rw [List.mem_singleton] at hm; exact hn hm.symm
theorem Safe.start {D : DS} {wh : Int} {X : List UInt8} {c : Int} (h : Safe D wh X c) : Safe D.start wh X c := ⟨h.bl, h.nl, h.fl, h.cl⟩
theorem Safe.arm {D : DS} {wh : Int} {X : List UInt8} {c : Int} (h : Safe D wh X c) (n m t y : Int) : Safe (D.arm n m t y) wh X c := ⟨h.bl, h.nl, h.fl, h.cl⟩
theorem Safe.read {D : DS} {wh : Int} {X : List UInt8} {c : Int} (h : Safe D wh X c) (ok : D.Ok) (hd : D.down = false) (h0 : 0 ≤ wh) (h1 : wh < 8) : D.read wh = (X, 0) := by
  have hb := h.bl
  unfold DS.read
  rw [if_neg (by rw [hd]; simp), if_neg (by omega), ok.still wh h.nl, h.fl]
theorem safe_first (wh : Int) (X : List UInt8) (h0 : 0 ≤ wh) (h1 : wh < 8) (hX : X.length = 512) :
    ((DS.new 8).write wh X).2 = 0 ∧ ((DS.new 8).write wh X).1.flush.2 = 0 ∧ Safe ((DS.new 8).write wh X).1.flush.1 wh X 2 ∧ ((DS.new 8).write wh X).1.calls = 1 := by
  rw [new8, DS.write_plain rfl rfl h0 (by simp only; omega) hX]
  refine ⟨rfl, ?_, ?_, rfl⟩
  · rw [DS.flush_plain rfl rfl]
  · rw [DS.flush_plain rfl rfl]
    refine ⟨rfl, List.not_mem_nil, ?_, ?_⟩
    · simp [DS.put]
    · simp [DS.put]
set_option maxHeartbeats 8000000 in
set_option maxRecDepth 100000 in
theorem lasts_walk (w : World) (a : Option Addr) (len cap : Nat) (os : Nat → OD) (where' c : Int) (hlen : len ≤ maxLen) (hos : OpsIn w a len os) : Calls Try.prog 6 #[.slice a len cap, .int .i64 where', .int .i64 c] w fun e w' => e = .returned (.bool true) ∧ Below w.heap.size w w' := by
  have hXl : (cont c).length = 512 := cont_length c
  have HL : Hid ((cont c).length = 512) := hXl
  have h7 := and7 where'
  obtain ⟨wh, hwh⟩ : ∃ wh, wh = where' % 8 := ⟨_, rfl⟩
  rw [← hwh] at h7
  have hwh0 : 0 ≤ wh := by omega
  have hwh1 : wh < 8 := by omega
  obtain ⟨S1, S2, S3, S4⟩ := safe_first wh (cont c) hwh0 hwh1 hXl
  generalize hX : cont c = X at *
  have HX : Hid (cont c = X) := hX
  clear hX hXl hwh
  go_enter Try.func6, Try.ntmps6
  go_wp2_with fail
  refine (shown_calls _).mono ?_
  rintro e w0 ⟨rfl, b0⟩
  go_wp2_with fail
  refine (newQ _ 8 ⟨by omega, by omega⟩).mono ?_
  rintro e w1 ⟨rfl, h1, b1⟩
  generalize hp : w0.heap.size + 2 = p at *
  go_wp2_with fail
  refine (content_calls _ c).mono ?_
  rintro e w2 ⟨rfl, o2, b2⟩
  rw [HX.out] at o2
  rw [HX.out]
  go_wp2_with fail
  refine (writeQ w1 w2 p _ w0.heap.size wh _ X h1 b2 (made_fresh o2) (by rw [new8]; simp only; omega) (by rw [HL.out]; exact Nat.le_refl _) ⟨by omega, by omega⟩).mono ?_
  rintro e w3 ⟨rfl, h3, b3⟩
  rw [S1]
  go_wp2_with fail
  refine (flushQ w3 p _ w0.heap.size h3 (by rw [S4]; omega)).mono ?_
  rintro e w4 ⟨rfl, h4, b4⟩
  rw [S2]
  have B4 : Below w.heap.size w w4 := b0.trans ((((b1.trans (b2.mono h1.size)).trans b3).trans b4).mono b0.size)
  clear b1 b2 b3 b4 o2 h1 h3 S1 S2 S4
  generalize ((DS.new 8).write wh X).1.flush.1 = D4 at *
  go_wp2_with fail
  go_loopw [9] (fun i wr => ∃ (k : Nat) (D : DS), k ≤ len ∧ k ≤ 80 ∧ i = .int .i64 (k : Int) ∧ DQ wr p D w0.heap.size ∧ Safe D wh X (2 + k) ∧ Below w.heap.size w wr)
    (fun i _ => len - (intOf i).toNat)
  case atStart => exact ⟨0, D4, Nat.zero_le _, Nat.zero_le _, rfl, h4, S3, B4⟩
  case round =>
    obtain ⟨k, D, hk, hk80, rfl, hD, hSafe, hBel⟩ := hrel
    clear h4 S3 B4
    have hkb : (k : Int) < 1000 := by omega
    by_cases hk5 : k < len ∧ k < 80
    · obtain ⟨hk5, hk6⟩ := hk5
      have hki : (k : Int) < (len : Int) := by omega
      have hki2 : (k : Int) < 80 := by omega
      obtain ⟨b, off, rfl, hbl, hall⟩ : ∃ b off, a = some ⟨b, off, none⟩ ∧ b < w.heap.size ∧ ∀ i, i < len → OpAt w b (off + i * 7) (os i) ∧ (os i).In := by
        rcases hos with h0 | h0
        · omega
        · exact h0
      obtain ⟨hat, hin⟩ := hall k hk5
      have hat' := hat.below hBel hbl
      clear hat hall hos
      generalize os k = o at *
      obtain ⟨q0, q1, q2, q3, q4, q5, q6⟩ := hat'
      obtain ⟨i0, i1, i2, i3, i4, i5, i6⟩ := hin
      obtain ⟨kd, on, oc, ol, om, ot, oy⟩ := o
      simp only at q0 q1 q2 q3 q4 q5 q6 i0 i1 i2 i3 i4 i5 i6
      go_upto_block 2 with fail
      obtain ⟨wo, hwo⟩ : ∃ wo, wo = wr.alloc (.cells #[.int .i64 kd, .int .i64 on, .int .i64 oc, .int .i64 ol, .int .u64 om, .int .i64 ot, .int .i64 oy] 30) := ⟨_, rfl⟩
      have hob : wo.heap[wr.heap.size]? = some (.cells #[.int .i64 kd, .int .i64 on, .int .i64 oc, .int .i64 ol, .int .u64 om, .int .i64 ot, .int .i64 oy] 30 (0, 0)) := by rw [hwo]; exact heap_alloc_new _ _
      have hboW : Below wr.heap.size wr wo := by rw [hwo]; exact (Below.refl _ _).alloc (Nat.le_refl _) _
      have hDo := hD.below hboW (Nat.le_refl _)
      rw [← hwo]
      clear hwo q0 q1 q2 q3 q4 q5 q6
      obtain ⟨q0, q1, q2, q3, q4, q5, q6⟩ := cells7 hob
      have hBo : Below w.heap.size w wo := hBel.trans (hboW.mono hBel.size)
      have hcl := hSafe.cl
      go_cut [9] (fun v wc => v = .int .i64 (k : Int) ∧ ∃ D' : DS, DQ wc p D' w0.heap.size ∧ Safe D' wh X (2 + (k + 1 : Nat)) ∧ Below w.heap.size w wc)
      case first =>
        by_cases e2 : kd = 2
        · have t2 : (kd == 2) = true := by simp [e2]
          clear e2
          go_wp2_with (go_at_call 20; refine (flushQ _ p _ _ hDo (by omega)).mono ?_; rintro e w5 ⟨rfl, h5, b5⟩)
          go_meet
          case rel => exact ⟨rfl, _, h5, (hSafe.flush hD.ok).more (by omega), hBo.trans (b5.mono b0.size)⟩
        · have t2 : (kd == 2) = false := by simp [e2]
          by_cases e3 : kd = 3
          · have t3 : (kd == 3) = true := by simp [e3]
            clear e2 e3
            go_wp2_with (go_at_call 16; refine (crashQ _ p _ _ om ot oy hDo (by omega) i4 i5 i6).mono ?_; rintro e w5 ⟨rfl, h5, b5⟩)
            go_meet
            case rel => exact ⟨rfl, _, h5, (hSafe.crash _ _ _).more (by omega), hBo.trans (b5.mono b0.size)⟩
          · have t3 : (kd == 3) = false := by simp [e3]
            by_cases e4 : kd = 4
            · have t4 : (kd == 4) = true := by simp [e4]
              clear e2 e3 e4
              go_wp2_with (go_at_call 18; refine (startQ _ p _ _ hDo).mono ?_; rintro e w5 ⟨rfl, h5, b5⟩)
              go_meet
              case rel => exact ⟨rfl, _, h5, hSafe.start.more (by omega), hBo.trans (b5.mono b0.size)⟩
            · have t4 : (kd == 4) = false := by simp [e4]
              by_cases e5 : kd = 5
              · have t5 : (kd == 5) = true := by simp [e5]
                clear e2 e3 e4 e5
                go_wp2_with (go_at_call 27; refine (armQ _ p _ _ oc om ot oy hDo i2 i4 i5 i6).mono ?_; rintro e w5 ⟨rfl, h5, b5⟩)
                go_meet
                case rel => exact ⟨rfl, _, h5, (hSafe.arm _ _ _ _).more (by omega), hBo.trans (b5.mono b0.size)⟩
              · have t5 : (kd == 5) = false := by simp [e5]
                have h7n := and7 on
                obtain ⟨nm, hnm⟩ : ∃ nm, nm = on % 8 := ⟨_, rfl⟩
                rw [← hnm] at h7n
                have hn0 : 0 ≤ nm := by omega
                have hn1 : nm < 8 := by omega
                clear e2 e3 e4 e5 hnm
                by_cases en : nm = wh
                · have tn : (nm != wh) = false := by simp [en]
                  have tn2 : (nm == wh) = true := by simp [en]
                  clear en
                  go_wp2
                  go_meet
                  case rel => exact ⟨rfl, D, hDo, hSafe.more (by omega), hBo⟩
                · have tn : (nm != wh) = true := by simp [en]
                  have tn2 : (nm == wh) = false := by simp [en]
                  have HE : Hid (nm ≠ wh) := en
                  have HC : Hid ((cont oc).length = 512) := cont_length oc
                  clear en
                  go_wp2
                  have HS : Hid (∀ w' : World, w'.heap[wr.heap.size]? = wo.heap[wr.heap.size]? → w'.cell? ⟨wr.heap.size, 1, none⟩ = some (.int .i64 on) ∧ w'.cell? ⟨wr.heap.size, 2, none⟩ = some (.int .i64 oc)) := fun w' e => ⟨(World.cell?_of_block e).trans q1, (World.cell?_of_block e).trans q2⟩
                  have hHlt : wr.heap.size < wo.heap.size := lt_block hob
                  go_region_held3 (fun w' => w'.cell? ⟨wr.heap.size, 1, none⟩ = some (.int .i64 on) ∧ w'.cell? ⟨wr.heap.size, 2, none⟩ = some (.int .i64 oc)) (first | exact HS.out _ rfl | exact d5 | exact d6 | fail)
                    (first
                      | (go_at_call 22; refine (content_calls _ oc).mono ?_; rintro e w5 ⟨rfl, o5, b5⟩; have B5 : Below wo.heap.size wo w5 := ⟨b5.os, b5.tape, b5.output, b5.size, b5.block⟩; have d5 := HS.out w5 (B5.block _ hHlt); have hW := writeQ2 wr w5 p D w0.heap.size nm _ (cont oc) hD (hboW.trans (B5.mono hboW.size)) (made_fresh2 hboW.size o5) (by omega) (by rw [HC.out]; exact Nat.le_refl _) ⟨by omega, by omega⟩)
                      | (go_at_call 21; refine hW.mono ?_; rintro e w6 ⟨rfl, h6, b6, kk⟩; have d6 := HS.out w6 ((kk _ (Nat.le_refl _) (Nat.lt_of_lt_of_le hHlt B5.size)).trans (B5.block _ hHlt))))
                  all_goals
                    go_wp2
                    go_meet
                    case rel => exact ⟨rfl, _, h6, (hSafe.write _ _ HE.out).more (by omega), (hBo.trans (B5.mono hBo.size)).trans (b6.mono b0.size)⟩
      case rest =>
        obtain ⟨rfl, D', hD', hS', hB'⟩ := hcut
        have hUp := upQ wc p D' _ hD'
        have hDQs := hD'.size
        cases hdn : D'.down with
        | true =>
          rw [hdn] at hUp
          go_wp2_with (go_at_call 23; refine hUp.mono ?_; rintro e w7 ⟨rfl, rfl⟩)
          go_roundw
          case rel => exact ⟨k + 1, D', by omega, by omega, by go_num, hD', hS', hB'⟩
          case measure => simp [intOf]; omega
        | false =>
          rw [hdn] at hUp
          have hRd := readQ wc p D' _ wh hD' ⟨by omega, by omega⟩
          rw [hS'.read hD'.ok hdn hwh0 hwh1] at hRd
          go_wp2_with (first | (go_at_call 23; refine hUp.mono ?_; rintro e w7 ⟨rfl, rfl⟩) | (go_at_call 26; refine hRd.mono ?_; rintro e w8 ⟨sx, rfl, y8, b8⟩))
          have HS2 : Hid (∀ w' : World, Below w8.heap.size w8 w' → (convert 42 9 sx).run Try.prog w' = .ok (.string (str X)) w') := fun w' hb => conv_got (y8.later hb (Nat.le_refl _))
          go_region_held (fun w' => (convert 42 9 sx).run Try.prog w' = .ok (.string (str X)) w')
            (first | exact HS2.out _ ⟨rfl, rfl, rfl, Nat.le_refl _, fun _ _ => rfl⟩ | exact d16 | fail)
            (first
              | (go_at_call 22; refine (content_calls _ c).mono ?_; rintro e w16 ⟨rfl, o16, b16⟩; rw [HX.out] at o16; rw [HX.out]; have k16 : (convert 42 9 (.slice (some ⟨w8.heap.size, 0, none⟩) X.length X.length)).run Try.prog w16 = .ok (.string (str X)) w16 := conv_made o16; have B16 : Below w8.heap.size w8 w16 := ⟨b16.os, b16.tape, b16.output, b16.size, b16.block⟩; have d16 := HS2.out w16 B16))
          all_goals
            have h16 := (hD'.below b8 (Nat.le_refl _)).below B16 (Nat.le_refl _)
            have hB16 := (hB'.trans (b8.mono hB'.size)).trans (B16.mono (Nat.le_trans hB'.size b8.size))
            go_wp2
            go_roundw
            case rel => exact ⟨k + 1, D', by omega, by omega, by go_num, h16, hS', hB16⟩
            case measure => simp [intOf]; omega
    · have hRd : ∀ w5, DQ w5 p D.start w0.heap.size → Calls Try.prog 26 #[.pointer (some ⟨p, 0, none⟩), .int .i64 wh] w5 fun e w' => ∃ sv, e = .returned (.tuple #[sv, .int .i64 0]) ∧ Got w5 X sv w' ∧ Below w5.heap.size w5 w' := fun w5 h5 => by
        have := readQ w5 p D.start _ wh h5 ⟨by omega, by omega⟩
        rw [hSafe.start.read h5.ok rfl hwh0 hwh1] at this
        exact this
      by_cases hkl : k < len
      · have hki : (k : Int) < (len : Int) := by omega
        have hkj : ¬ ((k : Int) < 80) := by omega
        go_wp2_with (first | (go_at_call 18; refine (startQ _ p _ _ hD).mono ?_; rintro e w5 ⟨rfl, h5, b5⟩; have hRd5 := hRd w5 h5) | (go_at_call 26; refine hRd5.mono ?_; rintro e w8 ⟨sx, rfl, y8, b8⟩))
        have HS2 : Hid (∀ w' : World, Below w8.heap.size w8 w' → (convert 42 9 sx).run Try.prog w' = .ok (.string (str X)) w') := fun w' hb => conv_got (y8.later hb (Nat.le_refl _))
        go_region_held (fun w' => (convert 42 9 sx).run Try.prog w' = .ok (.string (str X)) w')
          (first | exact HS2.out _ ⟨rfl, rfl, rfl, Nat.le_refl _, fun _ _ => rfl⟩ | exact d16 | fail)
          (first
            | (go_at_call 22; refine (content_calls _ c).mono ?_; rintro e w16 ⟨rfl, o16, b16⟩; rw [HX.out] at o16; rw [HX.out]; have k16 : (convert 42 9 (.slice (some ⟨w8.heap.size, 0, none⟩) X.length X.length)).run Try.prog w16 = .ok (.string (str X)) w16 := conv_made o16; have B16 : Below w8.heap.size w8 w16 := ⟨b16.os, b16.tape, b16.output, b16.size, b16.block⟩; have d16 := HS2.out w16 B16))
        all_goals
          have hB5 := hBel.trans (b5.mono b0.size)
          have hB8 := hB5.trans (b8.mono hB5.size)
          have hB16 := hB8.trans (B16.mono hB8.size)
          go_wp2
          go_ret
          exact ⟨by simp, hB16⟩
      · have hki : ¬ ((k : Int) < (len : Int)) := by omega
        go_wp2_with (first | (go_at_call 18; refine (startQ _ p _ _ hD).mono ?_; rintro e w5 ⟨rfl, h5, b5⟩; have hRd5 := hRd w5 h5) | (go_at_call 26; refine hRd5.mono ?_; rintro e w8 ⟨sx, rfl, y8, b8⟩))
        have HS2 : Hid (∀ w' : World, Below w8.heap.size w8 w' → (convert 42 9 sx).run Try.prog w' = .ok (.string (str X)) w') := fun w' hb => conv_got (y8.later hb (Nat.le_refl _))
        go_region_held (fun w' => (convert 42 9 sx).run Try.prog w' = .ok (.string (str X)) w')
          (first | exact HS2.out _ ⟨rfl, rfl, rfl, Nat.le_refl _, fun _ _ => rfl⟩ | exact d16 | fail)
          (first
            | (go_at_call 22; refine (content_calls _ c).mono ?_; rintro e w16 ⟨rfl, o16, b16⟩; rw [HX.out] at o16; rw [HX.out]; have k16 : (convert 42 9 (.slice (some ⟨w8.heap.size, 0, none⟩) X.length X.length)).run Try.prog w16 = .ok (.string (str X)) w16 := conv_made o16; have B16 : Below w8.heap.size w8 w16 := ⟨b16.os, b16.tape, b16.output, b16.size, b16.block⟩; have d16 := HS2.out w16 B16))
        all_goals
          have hB5 := hBel.trans (b5.mono b0.size)
          have hB8 := hB5.trans (b8.mono hB5.size)
          have hB16 := hB8.trans (B16.mono hB8.size)
          go_wp2
          go_ret
          exact ⟨by simp, hB16⟩
end Go.Proofs.Ytmemhckkfhlnmaa
