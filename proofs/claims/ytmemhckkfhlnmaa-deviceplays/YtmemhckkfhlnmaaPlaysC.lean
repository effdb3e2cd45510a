/- For DevicePlays: a step on both. -/
import Derived.Test.YtmemhckkfhlnmaaPlaysB
namespace Go.Proofs.Ytmemhckkfhlnmaa
set_option linter.unusedVariables false
open Go.RowKit
attribute [local go_sem ↓] Go.wp_at_zero Go.wp_at_succ

/-- Both behind a step: the same state, at most one call more. -/
def Next (w : World) (M S : Nat → Prop) (p q : Nat) (c : Int) (w' : World) : Prop := ∃ D', PGo w M S p D' q D' w' ∧ D'.calls ≤ c
theorem DS.crash_calls_eq (D : DS) (m t y : Int) : (D.crash m t y).calls = D.calls := by
  unfold DS.crash
  split <;> rfl
theorem DS.tick_calls_le (D : DS) : D.tick.1.calls ≤ D.calls + 1 := by
  unfold DS.tick
  split
  · simp only; omega
  · split
    · exact Int.le_refl _
    · split
      · rw [DS.crash_calls_eq]; exact Int.le_refl _
      · exact Int.le_refl _
theorem DS.flush_calls_le (D : DS) : D.flush.1.calls ≤ D.calls + 1 := by
  unfold DS.flush
  split
  · exact D.tick_calls_le
  · exact D.tick_calls_le
theorem DS.write_calls_le (D : DS) (n : Int) (b : List UInt8) : (D.write n b).1.calls ≤ D.calls + 1 := by
  unfold DS.write
  split
  · exact D.tick_calls_le
  · split
    · exact D.tick_calls_le
    · exact D.tick_calls_le
theorem Fr.aside {M : Nat → Prop} {w w' : World} (h : Fr M w w') {k : Nat} (hk : k < w.heap.size) (hn : ¬ M k) : w'.heap[k]? = w.heap[k]? := h.block k hk hn
theorem Near'.aside {M M' : Nat → Prop} {n k : Nat} (h : Near' M M' n) (hk : k < n) (hn : ¬ M k) : ¬ M' k := fun e => by
  rcases h k e with e | e
  · exact hn e
  · omega
def opCells (o : OD) : Array Value := #[.int .i64 o.kind, .int .i64 o.n, .int .i64 o.c, .int .i64 o.less, .int .u64 o.mask, .int .i64 o.torn, .int .i64 o.bytes]
theorem bytes_take {w : World} {g base : Nat} {L : List UInt8} {k : Nat} (hk : k ≤ L.length) (h : w.ownsRow base 5 1 (.slice (some ⟨g, 0, none⟩) L.length L.length) L.length (bc L)) : BytesIn w (.slice (some ⟨g, 0, none⟩) k L.length) (L.take k) (some g) := by
  refine ⟨some ⟨g, 0, none⟩, L.length, ?_, ?_, .inr ⟨g, 0, rfl, rfl, (h.lt g rfl).2, fun j u hu => ?_⟩⟩
  · rw [List.length_take, Nat.min_eq_left hk]
  · rw [List.length_take]; omega
  · have h2 : (bc L)[j]? = some u := by
      unfold bc at hu ⊢
      rw [List.map_take, List.getElem?_take] at hu
      split at hu
      · exact hu
      · cases hu
    have := h.cells (g := g) rfl j u h2
    rw [add_lit] at this
    exact this
theorem row_take {w : World} {base g cap n k : Nat} {xs : List Value} {e : TypeId} (hk : k ≤ n) (h : w.ownsRow base e 1 (.slice (some ⟨g, 0, none⟩) n cap) n xs) : w.ownsRow base e 1 (.slice (some ⟨g, 0, none⟩) k cap) k (xs.take k) := by
  have hl := h.1
  rcases h.2 with ⟨e1, _⟩ | ⟨g', cap', cur, e1, h1, h2, h3, h4, h5, h6⟩
  · cases e1
  · cases e1
    refine ⟨by rw [List.length_take]; omega, .inr ⟨g, cap, cur, rfl, h1, h2, by omega, h4, h5, ?_⟩⟩
    rw [← h6, List.take_take]
    congr 1
    omega
set_option maxHeartbeats 8000000 in
set_option maxRecDepth 100000 in
theorem does_calls (w : World) (p q : Nat) (D : DS) (M S : Nat → Prop) (o : OD) (h : Pair w p D q D M S) (hcl : D.calls ≤ 999990) (hin : o.In) :
    Calls Try.prog 14 #[.pointer (some ⟨p, 0, none⟩), .pointer (some ⟨q, 0, none⟩), .agg (opCells o)] w fun e w' => e = .returned (.bool true) ∧ Next w M S p q (D.calls + 1) w' := by
  obtain ⟨i0, i1, i2, i3, i4, i5, i6⟩ := hin
  obtain ⟨kd, on, oc, ol, om, ot, oy⟩ := o
  simp only at i0 i1 i2 i3 i4 i5 i6
  unfold opCells
  go_enter Try.func14, Try.ntmps14
  go_upto_region 1 with fail
  obtain ⟨wo, hwo⟩ : ∃ wo, wo = w.alloc (.cells #[.int .i64 kd, .int .i64 on, .int .i64 oc, .int .i64 ol, .int .u64 om, .int .i64 ot, .int .i64 oy] 30) := ⟨_, rfl⟩
  have hob : wo.heap[w.heap.size]? = some (.cells #[.int .i64 kd, .int .i64 on, .int .i64 oc, .int .i64 ol, .int .u64 om, .int .i64 ot, .int .i64 oy] 30 (0, 0)) := by rw [hwo]; exact heap_alloc_new _ _
  have hbo : Below w.heap.size w wo := by rw [hwo]; exact (Below.refl _ _).alloc (Nat.le_refl _) _
  rw [← hwo]
  clear hwo
  have hP := h.below hbo (Nat.le_refl _)
  have hX : w.heap.size < wo.heap.size := lt_block hob
  have hXS : ¬ S w.heap.size := fun e => by have := h.lt e; omega
  have hXM : ¬ M w.heap.size := fun e => hXS (h.sub e)
  have HF : Hid (∀ {D' E' : DS} {w' : World}, PGo wo M S p D' q E' w' → PGo w M S p D' q E' w') := fun hg => PGo.trans ⟨hbo.os, hbo.tape, hbo.output, hbo.size, fun k hk _ => hbo.block k hk⟩ (fun _ hk => .inl hk) (fun k hk => by exact .inl hk) hg
  generalize hXe : w.heap.size = X at *
  obtain ⟨q0, q1, q2, q3, q4, q5, q6⟩ := cells7 hob
  have HS : Hid (∀ w' : World, w'.heap[X]? = wo.heap[X]? → w'.cell? ⟨X, 1, none⟩ = some (.int .i64 on) ∧ w'.cell? ⟨X, 2, none⟩ = some (.int .i64 oc) ∧ w'.cell? ⟨X, 4, none⟩ = some (.int .u64 om) ∧ w'.cell? ⟨X, 5, none⟩ = some (.int .i64 ot) ∧ w'.cell? ⟨X, 6, none⟩ = some (.int .i64 oy)) := fun w' e => ⟨(World.cell?_of_block e).trans q1, (World.cell?_of_block e).trans q2, (World.cell?_of_block e).trans q4, (World.cell?_of_block e).trans q5, (World.cell?_of_block e).trans q6⟩
  by_cases e1 : kd = 1
  · have t1 : (kd == 1) = true := by simp [e1]
    clear e1
    have hcl5 : (cont oc).length = 512 := cont_length oc
    have hC := content_calls wo oc
    go_upto_region 6 with (go_at_call 22; refine hC.mono ?_; rintro e w1 ⟨rfl, o1, b1⟩; rw [hcl5]; have r3 := (World.cell?_of_block (b1.block X hX)).trans q3; have r1 := (World.cell?_of_block (b1.block X hX)).trans q1)
    generalize hK : (512 - if 512 < if ol < 0 then 0 else ol then 512 else if ol < 0 then 0 else ol).toNat = K
    have hK5 : K ≤ 512 := by rw [← hK]; split <;> omega
    clear hK
    generalize (512 - if 512 < if ol < 0 then 0 else ol then 512 else if ol < 0 then 0 else ol) = K2
    generalize (if 512 < if ol < 0 then 0 else ol then 512 else if ol < 0 then 0 else ol) = K3
    generalize (if ol < 0 then 0 else ol) = K4
    have hg : wo.heap.size < w1.heap.size := (o1.lt _ rfl).2
    have hsv := bytes_take (k := K) (by omega) o1
    have hrow := row_take (k := K) (by omega) o1
    rw [hcl5] at hsv hrow
    have hBl : ((cont oc).take K).length ≤ 512 := by rw [List.length_take]; omega
    generalize (cont oc).take K = B at *
    generalize (bc (cont oc)).take K = xs0 at *
    have hcv : (convert 42 9 (.slice (some ⟨wo.heap.size, 0, none⟩) K 512)).run Try.prog w1 = .ok (.string (str B)) w1 := conv_bytes hsv
    have hP1 := hP.below b1 (Nat.le_refl _)
    have hgS : ¬ S wo.heap.size := fun e => by have := hP.lt e; omega
    have hgM : ¬ M wo.heap.size := fun e => hgS (hP.sub e)
    have hX1 : X < w1.heap.size := by omega
    have hXe1 : X < wo.heap.size := hX
    clear o1 hC q0 q1 q2 q3 q4 q5 q6 hob hbo hP HS hXS
    have F0 : Fr M wo w1 := ⟨b1.os, b1.tape, b1.output, b1.size, fun k hk _ => b1.block k hk⟩
    clear b1
    generalize hge : wo.heap.size = g at *
    have Hge : Hid (wo.heap.size = g) := hge
    clear hge
    have HRow : Hid (∀ w3 : World, w3.heap[g]? = w1.heap[g]? → w3.ownsRow 0 5 1 (.slice (some ⟨g, 0, none⟩) K 512) K xs0) := fun w3 e => row_base (row_kept3 hrow fun k hk => by cases hk; exact e)
    go_wp2_with (first
      | (go_at_call 33; refine (rwriteP _ p q D D M S on B hP1 (by omega)).mono ?_; rintro e w2 ⟨rfl, M1, S1, P1, F1, N1, N1'⟩; have z1 := (World.cell?_of_block (F1.block X hX1 hXM)).trans r1; have hgS1 := Near'.aside N1' hg hgS; have hW := writeP w2 p q D _ M1 S1 on (.slice (some ⟨g, 0, none⟩) K 512) B g P1 (hsv.kept fun k e => by cases e; exact F1.block g hg hgM) hgS1 (by omega) hBl i1)
      | (go_at_call 21; refine hW.mono ?_; rintro e w3 ⟨rfl, M3, S3, P3, F3, N3, N3'⟩))
    have hs2 := F1.size
    have hgS3 := Near'.aside N3' (by omega) hgS1
    have hgM1 : ¬ M1 g := fun e => hgS1 (P1.sub e)
    have hrow3 := HRow.out w3 ((F3.block g (by omega) hgM1).trans (F1.block g hg hgM))
    have hNN : Near' M M3 g := fun k hk => by
      rcases N3 k hk with e | e
      · rcases N1 k e with e | e
        · exact .inl e
        · exact .inr (by omega)
      · exact .inr (by omega)
    have hNS : Near' S S3 g := fun k hk => by
      rcases N3' k hk with e | e
      · rcases N1' k e with e | e
        · exact .inl e
        · exact .inr (by omega)
      · exact .inr (by omega)
    have hFF : Fr M wo w3 := (F0.trans F1 (fun _ hk => .inl hk)).trans F3 (fun k hk => by
      rcases N1 k hk with e | e
      · exact .inl e
      · exact .inr (by have := F0.size; omega))
    have HG' : Hid (∀ w4, OnlyP g w3 w4 → PGo wo M S p (D.write on B).1 q (D.write on B).1 w4) := fun w4 ho => ⟨M3, S3, P3.kept fun k hk => ho.block k (fun e => hgS3 (by rw [← e]; exact hk)), ⟨ho.os.trans hFF.os, ho.tape.trans hFF.tape, ho.output.trans hFF.output, by rw [ho.size]; exact hFF.size, fun k hk hn => (ho.block k (by have := Hge.out; omega)).trans (hFF.block k hk hn)⟩, (by rw [Hge.out]; exact hNN), (by rw [Hge.out]; exact hNS)⟩
    have Hw : Hid ((D.write on B).1.calls ≤ D.calls + 1) := D.write_calls_le on B
    clear hNN hNS hFF P3 F3 N3 N3' P1 F1 N1 N1' F0 hP1 hsv hrow hcv hW HRow r1 r3 z1
    generalize (D.write on B).1 = D' at *
    generalize (D.write on B).2 = er at *
    go_loopw [10] (fun i wr => ∃ (k : Nat) (xs : List Value), k ≤ K ∧ i = .int .i64 (k : Int) ∧ wr.ownsRow 0 5 1 (.slice (some ⟨g, 0, none⟩) K 512) K xs ∧ OnlyP g w3 wr)
      (fun i _ => K - (intOf i).toNat)
    case atStart => exact ⟨0, _, Nat.zero_le _, rfl, hrow3, OnlyP.refl _ _⟩
    case round =>
      obtain ⟨k, xs, hk, rfl, ho, hon⟩ := hrel
      by_cases hk5 : k < K
      · have hc := ho.cellAt k (by omega)
        have hfz := ho.frozenAt k
        have hxl : k < xs.length := by have := ho.1; omega
        rw [List.getElem?_eq_getElem hxl] at hc
        have hki : (k : Int) < (K : Int) := by omega
        have R1 := (ho.stored k (.int .u8 33)).1
        have R2 := hon.setCell k (.int .u8 33)
        clear ho hon
        go_wp2
        go_roundw
        case rel => exact ⟨k + 1, _, by omega, by go_num, R1, R2⟩
        case measure => simp [intOf]; omega
      · have hki : ¬ ((k : Int) < (K : Int)) := by omega
        clear ho
        go_wp2
        go_ret
        exact ⟨by simp, _, HF.out (HG'.out _ hon), Hw.out⟩
  · have t1 : (kd == 1) = false := by simp [e1]
    by_cases e2 : kd = 2
    · have t2 : (kd == 2) = true := by simp [e2]
      clear e1 e2
      go_wp2_with (first
        | (go_at_call 20; refine (flushP _ p q _ _ M S hP (by omega)).mono ?_; rintro e w1 ⟨rfl, M1, S1, P1, F1, N1, N1'⟩; have hR := rflushP w1 p q _ D M1 S1 P1 (by omega))
        | (go_at_call 34; refine hR.mono ?_; rintro e w2 ⟨rfl, g2⟩))
      go_ret
      exact ⟨by simp, _, HF.out (PGo.trans F1 N1 N1' g2), D.flush_calls_le⟩
    · have t2 : (kd == 2) = false := by simp [e2]
      by_cases e3 : kd = 3
      · have t3 : (kd == 3) = true := by simp [e3]
        clear e1 e2 e3
        go_wp2_with (first
          | (go_at_call 16; refine (crashP _ p q _ _ M S om ot oy hP (by omega) i4 i5 i6).mono ?_; rintro e w1 ⟨rfl, M1, S1, P1, F1, N1, N1'⟩; obtain ⟨z1, z2, z4, z5, z6⟩ := HS.out w1 (F1.block X hX hXM); have hR := rcrashP w1 p q _ D M1 S1 om ot oy P1 (by omega) i4)
          | (go_at_call 17; refine hR.mono ?_; rintro e w2 ⟨rfl, g2⟩))
        go_ret
        exact ⟨rfl, _, HF.out (PGo.trans F1 N1 N1' g2), by rw [DS.crash_calls_eq]; omega⟩
      · have t3 : (kd == 3) = false := by simp [e3]
        by_cases e4 : kd = 4
        · have t4 : (kd == 4) = true := by simp [e4]
          clear e1 e2 e3 e4
          go_wp2_with (first
            | (go_at_call 18; refine (startP _ p q _ _ M S hP).mono ?_; rintro e w1 ⟨rfl, M1, S1, P1, F1, N1, N1'⟩; have hR := rstartP w1 p q _ D M1 S1 P1)
            | (go_at_call 19; refine hR.mono ?_; rintro e w2 ⟨rfl, g2⟩))
          go_ret
          exact ⟨rfl, _, HF.out (PGo.trans F1 N1 N1' g2), by show D.calls ≤ D.calls + 1; omega⟩
        · have t4 : (kd == 4) = false := by simp [e4]
          by_cases e5 : kd = 5
          · have t5 : (kd == 5) = true := by simp [e5]
            clear e1 e2 e3 e4 e5
            go_wp2_with (first
              | (go_at_call 27; refine (armP _ p q _ _ M S oc om ot oy hP i2 i4 i5 i6).mono ?_; rintro e w1 ⟨rfl, M1, S1, P1, F1, N1, N1'⟩; obtain ⟨z1, z2, z4, z5, z6⟩ := HS.out w1 (F1.block X hX hXM); have hR := rarmP w1 p q _ D M1 S1 oc om ot oy P1 i2 i4 i5 i6)
              | (go_at_call 35; refine hR.mono ?_; rintro e w2 ⟨rfl, g2⟩))
            go_ret
            exact ⟨rfl, _, HF.out (PGo.trans F1 N1 N1' g2), by show D.calls ≤ D.calls + 1; omega⟩
          · have t5 : (kd == 5) = false := by simp [e5]
            clear e1 e2 e3 e4 e5
            go_wp2_with (go_at_call 36; refine (reads_calls _ p q D M S on hP (by omega) i1).mono ?_; rintro e w1 ⟨rfl, b1⟩)
            go_ret
            exact ⟨rfl, D, HF.out ((PGo.refl hP).later b1), by omega⟩
end Go.Proofs.Ytmemhckkfhlnmaa
