/- The document's own device: Crash. -/
import Derived.Test.YtmemhckkfhlnmaaRefF
namespace Go.Proofs.Ytmemhckkfhlnmaa
set_option linter.unusedVariables false
open Go.RowKit
attribute [local go_sem ↓] Go.wp_at_zero Go.wp_at_succ

/-- What is newest of a block, behind so many of the order. -/
def newAt (D : DS) (mask t y : Int) (i : Int) (j : Nat) : List UInt8 := if i ∈ D.loose.take j then D.settled mask t y i else D.nw i
theorem new_0 (D : DS) (mask t y i : Int) : newAt D mask t y i 0 = D.nw i := by unfold newAt; simp
theorem new_end {D : DS} (ok : D.Ok) (mask t y i : Int) : newAt D mask t y i D.loose.length = D.settled mask t y i := by
  unfold newAt
  rw [List.take_length]
  split
  · rfl
  · rename_i h
    unfold DS.settled
    rw [if_neg h, ok.still i h]
theorem new_other {D : DS} (mask t y i : Int) (j : Nat) (hj : j < D.loose.length) (hne : D.loose[j] ≠ i) : newAt D mask t y i (j + 1) = newAt D mask t y i j := by
  unfold newAt
  by_cases e : i ∈ D.loose.take j
  · rw [if_pos e, if_pos ((mem_take_succ j hj i).2 (.inl e))]
  · rw [if_neg e, if_neg (fun h => by rcases (mem_take_succ j hj i).1 h with h | h; exact e h; exact hne h.symm)]
theorem new_this {D : DS} (ok : D.Ok) (mask t y i : Int) (j : Nat) (hj : j < D.loose.length) (he : D.loose[j] = i) : newAt D mask t y i j = D.nw i ∧ newAt D mask t y i (j + 1) = wantAt D mask t y i (j + 1) := by
  subst he
  have hn := at_new ok.once j hj
  have hm : D.loose[j] ∈ D.loose.take (j + 1) := (mem_take_succ j hj _).2 (.inr rfl)
  unfold newAt wantAt
  exact ⟨by rw [if_neg hn], by rw [if_pos hm, if_pos hm]⟩
theorem settled_clamp (D : DS) (mask t y : Int) : D.settled mask t (min (max y 0) 512) = D.settled mask t y := by
  funext n
  have e : min (max (min (max y 0) 512) 0) 512 = min (max y 0) 512 := by omega
  unfold DS.settled
  rw [e]
/-- The list behind one more of the order. -/
theorem lcells_step {D : DS} (ok : D.Ok) (mask t y : Int) (ns : List Int) (nd : ns.Nodup) (k : Nat) (hk : k < D.loose.length) (hm : D.loose[k] ∈ ns) :
    (((lcells (fun i => wantAt D mask t y i k) (fun i => newAt D mask t y i k) ns).set (ns.idxOf D.loose[k] * 3) (.int .i64 D.loose[k])).set (ns.idxOf D.loose[k] * 3 + 1) (.string (str (wantAt D mask t y D.loose[k] (k + 1))))).set (ns.idxOf D.loose[k] * 3 + 2) (.string (str (wantAt D mask t y D.loose[k] (k + 1)))) =
    lcells (fun i => wantAt D mask t y i (k + 1)) (fun i => newAt D mask t y i (k + 1)) ns := by
  have hj := List.idxOf_lt_length_of_mem hm
  have hne : ns[ns.idxOf D.loose[k]] = D.loose[k] := List.getElem_idxOf hj
  have s3 := (lcells_set (fun i => wantAt D mask t y i k) (fun i => newAt D mask t y i k) ns nd _ hj []).2.2
  rw [hne] at s3
  rw [s3, (lcells_set _ _ ns nd _ hj _).1, (lcells_set _ _ ns nd _ hj _).2.1, hne]
  refine lcells_congr _ _ _ _ ns fun n _ => ?_
  unfold upd
  by_cases e : n = D.loose[k]
  · rw [if_pos e, if_pos e, e]
    exact ⟨rfl, ((new_this ok mask t y _ k hk rfl).2).symm⟩
  · rw [if_neg e, if_neg e]
    exact ⟨(want_other mask t y n k hk (Ne.symm e)).symm, (new_other mask t y n k hk (Ne.symm e)).symm⟩
theorem rem64 (i : Nat) : Int.tmod (i : Int) 64 = ((i % 64 : Nat) : Int) := by
  rw [Int.tmod_eq_emod_of_nonneg (by omega)]; omega
theorem tbit (mask : Int) (k : Nat) (h : 0 ≤ mask) : ((mask / 2 ^ (k % 64)).tmod 2 == 1) = bitOf mask k := by
  unfold bitOf
  rw [Int.tmod_eq_emod_of_nonneg (Int.ediv_nonneg h (by exact Int.le_of_lt (Int.pow_pos (by omega))))]
/-- The loop's relation. -/
structure CrR (w wr : World) (q : Nat) (D : DS) (lv ov : Value) (ns : List Int) (mask t y : Int) (k : Nat) : Prop where
  blk : wr.heap[q]? = some (.cells (refCells D lv ov) 63 (0, 0))
  lrow : wr.ownsRow 0 69 3 lv ns.length (lcells (fun i => wantAt D mask t y i k) (fun i => newAt D mask t y i k) ns)
  orow : wr.ownsRow 0 3 1 ov D.loose.length (ic D.loose)
  fr : Fr (RMine q lv ov) w wr
theorem rcrash_end {w wr : World} {q : Nat} {D : DS} {lv ov : Value} {ns : List Int} {mask torn bytes y : Int} (h : RD w q D lv ov ns) (hd : D.down = false) (hy : y = min (max bytes 0) 512) (hC : CrR w wr q D lv ov ns mask torn y D.loose.length) :
    RGo q w lv ov (D.crash mask torn bytes) (((wr.setCell ⟨q, 2, none⟩ (.slice none 0 0)).setCell ⟨q, 3, none⟩ (.bool true)).setCell ⟨q, 5, none⟩ (.int .i64 0)) := by
  have hok := h.ok.crash mask torn bytes
  have e : D.crash mask torn bytes = { D with fl := D.settled mask torn bytes, nw := D.settled mask torn bytes, loose := [], down := true, armed := 0 } := by
    unfold DS.crash
    rw [if_neg (by rw [hd]; simp)]
  rw [e] at hok ⊢
  have ho : OnlyP q wr (((wr.setCell ⟨q, 2, none⟩ (.slice none 0 0)).setCell ⟨q, 3, none⟩ (.bool true)).setCell ⟨q, 5, none⟩ (.int .i64 0)) := (((OnlyP.refl _ _).setCell _ _).setCell _ _).setCell _ _
  refine ⟨lv, .slice none 0 0, ns, ?_, ⟨ho.os.trans hC.fr.os, ho.tape.trans hC.fr.tape, ho.output.trans hC.fr.output, by rw [ho.size]; exact hC.fr.size, fun k hk hn => (ho.block k (fun e => hn (.inl e))).trans (hC.fr.block k hk hn)⟩, fun k hk => ?_⟩
  · exact {
      ok := hok
      blk := by simp [World.setCell, Array.getElem?_modify, hC.blk, refCells]
      lrow := by
        have := row_kept3 (w' := (((wr.setCell ⟨q, 2, none⟩ (.slice none 0 0)).setCell ⟨q, 3, none⟩ (.bool true)).setCell ⟨q, 5, none⟩ (.int .i64 0))) hC.lrow fun k e => ho.block k (fun e' => h.ql (by rw [e, e']))
        rw [lcells_congr _ _ (D.settled mask torn bytes) (D.settled mask torn bytes) ns fun n _ => ⟨by rw [want_end, hy, settled_clamp], by rw [new_end h.ok, hy, settled_clamp]⟩] at this
        exact this
      orow := World.ownsRow_nil _ _ _ _
      rm := h.rm
      rt := h.rt
      ry := h.ry
      ra := by show (0 : Int) ≤ 9223372036854775807; omega
      nd := h.nd
      sub := fun n e => by cases e
      out := fun n hn => by
        have hnl : n ∉ D.loose := fun hm => hn (h.sub n hm)
        have : D.settled mask torn bytes n = nought := by
          unfold DS.settled
          rw [if_neg hnl]
          exact (h.out n hn).1
        exact ⟨this, this⟩
      ln := h.ln
      inB := h.inB
      ql := h.ql
      qo := fun e => by cases e
      lo := fun k _ e => by cases e }
  · rcases hk with hk | hk | hk
    · exact .inl (.inl hk)
    · exact .inl (.inr (.inl hk))
    · cases hk
set_option maxHeartbeats 4000000 in
set_option maxRecDepth 100000 in
theorem rcrash_up (w : World) (q : Nat) (D : DS) (lv ov : Value) (ns : List Int) (mask torn bytes : Int) (h : RD w q D lv ov ns) (hcl : D.calls ≤ 1000000) (hm : 0 ≤ mask ∧ mask ≤ 18446744073709551615) (hd : D.down = false) :
    Calls Try.prog 17 #[.pointer (some ⟨q, 0, none⟩), .int .u64 mask, .int .i64 torn, .int .i64 bytes] w fun e w' => e = .returned (.tuple #[]) ∧ RGo q w lv ov (D.crash mask torn bytes) w' := by
  obtain ⟨c0, c1, c2, c3, c4, c5, _⟩ := cell9 h.blk
  rw [hd] at c3
  have hH : Hid (RD w q D lv ov ns) := h
  have HD : Hid (D.down = false) := hd
  have hlen : D.loose.length ≤ 1000000 := by have := h.ok.lc; omega
  have hnl : ns.length ≤ 1000000 := by have := h.ln; omega
  clear h hd hcl c4 c5
  go_enter Try.func17, Try.ntmps17
  go_upto_if 15 with fail
  go_cut [3] (fun v wc => v = .int .i64 (max bytes 0) ∧ w = wc)
  case first =>
    by_cases hb : bytes < 0
    · have e : Hid (max bytes 0 = 0) := by show _ = _; omega
      go_wp2
      go_meet
      case rel => exact ⟨by rw [e.out], rfl⟩
    · have e : Hid (max bytes 0 = bytes) := by show _ = _; omega
      go_wp2
      go_meet
      case rel => exact ⟨by rw [e.out], rfl⟩
  case rest =>
    obtain ⟨rfl, rfl⟩ := hcut
    obtain ⟨y0, hy0⟩ : ∃ y0, y0 = max bytes 0 := ⟨_, rfl⟩
    rw [← hy0]
    have HY0 : Hid (y0 = max bytes 0) := hy0
    have hy00 : 0 ≤ y0 := by omega
    clear hy0
    go_upto_if 17 with fail
    go_cut [3] (fun v wd => v = .int .i64 (min y0 512) ∧ w = wd)
    case first =>
      by_cases hb : y0 > 512
      · have e : Hid (min y0 512 = 512) := by show _ = _; omega
        go_wp2
        go_meet
        case rel => exact ⟨by rw [e.out], rfl⟩
      · have e : Hid (min y0 512 = y0) := by show _ = _; omega
        go_wp2
        go_meet
        case rel => exact ⟨by rw [e.out], rfl⟩
    case rest =>
      obtain ⟨rfl, rfl⟩ := hcut
      obtain ⟨y, hy⟩ : ∃ y, y = min y0 512 := ⟨_, rfl⟩
      rw [← hy]
      have hy1 : 0 ≤ y := by omega
      have hy2 : y ≤ 512 := by omega
      have HY : Hid (y = min (max bytes 0) 512) := by show _ = _; rw [hy, HY0.out]
      clear hy HY0
      go_wp2_with fail
      obtain ⟨oa, oc, rfl⟩ := own_form3 hH.out.orow
      obtain ⟨la, lc, rfl⟩ := own_form3 hH.out.lrow
      go_loopw [8] (fun i wr => ∃ (k : Nat), k ≤ D.loose.length ∧ i = .int .i64 (k : Int) ∧ CrR w wr q D (.slice la ns.length lc) (.slice oa D.loose.length oc) ns mask torn y k)
        (fun i _ => D.loose.length - (intOf i).toNat)
      case atStart =>
        refine ⟨0, Nat.zero_le _, rfl, hH.out.blk, ?_, hH.out.orow, Fr.refl _ _⟩
        rw [lcells_congr _ _ D.fl D.nw ns fun n _ => ⟨want_0 D mask torn y n, new_0 D mask torn y n⟩]
        exact hH.out.lrow
      case round =>
        obtain ⟨k, hk, rfl, hC⟩ := hrel
        by_cases hk5 : k < D.loose.length
        · obtain ⟨og, oc', e⟩ := row_somewhere hC.orow (by omega)
          cases e
          have hmem := hH.out.sub _ (List.getElem_mem hk5)
          have hjl := List.idxOf_lt_length_of_mem hmem
          obtain ⟨lg, lc', e⟩ := row_somewhere hC.lrow (by omega)
          cases e
          have hne : ns[ns.idxOf D.loose[k]] = D.loose[k] := List.getElem_idxOf hjl
          obtain ⟨_, d1, d2, _⟩ := cell9 hC.blk
          have co := (hC.orow.cellAt k (by omega)).trans (ic_at D.loose k hk5)
          obtain ⟨l0, l1, l2⟩ := lcells_at (fun i => wantAt D mask torn y i k) (fun i => newAt D mask torn y i k) ns _ hjl
          rw [hne] at l0 l1 l2
          have t1 := want_this hH.out.ok mask torn y D.loose[k] k hk5 rfl hy1 hy2
          have t2 := new_this hH.out.ok mask torn y D.loose[k] k hk5 rfl
          rw [t1.1] at l1
          rw [t2.1] at l2
          have m0 := (hC.lrow.cellAt (ns.idxOf D.loose[k] * 3) (by omega)).trans l0
          have m1 := (hC.lrow.cellAt (ns.idxOf D.loose[k] * 3 + 1) (by omega)).trans l1
          have m2 := (hC.lrow.cellAt (ns.idxOf D.loose[k] * 3 + 2) (by omega)).trans l2
          have hql : lg ≠ q := fun e => hH.out.ql (by rw [e]; rfl)
          have hqo : og ≠ q := fun e => hH.out.qo (by rw [e]; rfl)
          have hlo : lg ≠ og := fun e => hH.out.lo lg rfl (by rw [e]; rfl)
          have hA : Hid (∀ w', w'.heap[q]? = wr.heap[q]? → w'.heap[lg]? = wr.heap[lg]? → Calls Try.prog 39 #[.pointer (some ⟨q, 0, none⟩), .int .i64 D.loose[k]] w' fun e w'' => e = .returned (.int .i64 ((ns.idxOf D.loose[k] : Nat) : Int)) ∧ w' = w'') := fun w' e1 e2 => by
            refine (rat_gen w' q _ _ _ ns D.loose[k] ((World.cell?_of_block e1).trans d1) (row_kept3 hC.lrow fun k hk => by cases hk; exact e2) hnl hH.out.nd).mono fun e w'' ⟨h1, h2⟩ => ⟨?_, h2.symm⟩
            rw [h1]
            unfold atIx
            rw [if_pos hmem]
          have hqlt := lt_block hC.blk
          have hllt := (hC.lrow.lt lg rfl).2
          have HS := lcells_step hH.out.ok mask torn y ns hH.out.nd k hk5 hmem
          have Hwant : Hid (wantAt D mask torn y D.loose[k] (k + 1) = _) := t1.2
          generalize ns.idxOf D.loose[k] = j at *
          generalize D.loose[k] = m at *
          have hki : (k : Int) < (D.loose.length : Int) := by omega
          have hji : (j : Int) < (ns.length : Int) := by omega
          have hj0 : ¬ ((j : Int) < 0) := by omega
          have HC : Hid (CrR w wr q D (.slice (some ⟨lg, 0, none⟩) ns.length lc) (.slice (some ⟨og, 0, none⟩) D.loose.length oc) ns mask torn y k) := hC
          have Hs2 : Hid (_) := HS
          clear hC HS hne l0 l1 l2 t1 t2 hmem
          go_wp2_with fail
          go_region_held3 (fun w' => w'.cell? ⟨q, 1, none⟩ = some (.slice (some ⟨lg, 0, none⟩) ns.length lc) ∧ w'.cell? ⟨q, 2, none⟩ = some (.slice (some ⟨og, 0, none⟩) D.loose.length oc) ∧ w'.cell? ⟨og, k, none⟩ = some (.int .i64 m) ∧ w'.cell? ⟨lg, j * 3, none⟩ = some (.int .i64 m) ∧ w'.cell? ⟨lg, j * 3 + 1, none⟩ = some (.string (str (D.fl m))) ∧ w'.cell? ⟨lg, j * 3 + 2, none⟩ = some (.string (str (D.nw m))))
            (go_keep)
            (first | (go_at_call 39; refine (hA.out _ ?_ ?_).mono ?_; (first | rfl | exact Below.heap_alloc _ _ _ hqlt | trace_state); (first | rfl | exact Below.heap_alloc _ _ _ hllt | trace_state); rintro e w5 ⟨rfl, rfl⟩))
          all_goals
            generalize hW1 : (wr.alloc (.cells #[.int .i64 m, .string (str (D.fl m)), .string (str (D.nw m))] 69)).drew = W1 at *
            have hx : W1.heap[wr.heap.size]? = some (.cells #[.int .i64 m, .string (str (D.fl m)), .string (str (D.nw m))] 69 (0, 0)) := by rw [← hW1]; exact heap_alloc_new _ _
            have hB1 : Below wr.heap.size wr W1 := by rw [← hW1]; exact ((Below.refl _ _).alloc (Nat.le_refl _) _).trans ⟨rfl, rfl, rfl, Nat.le_refl _, fun _ _ => rfl⟩
            clear hW1
            obtain ⟨x0, x1, x2⟩ := cells3 hx
            obtain ⟨f0, f1, f2⟩ := free3 hx
            go_upto_if 44 with fail
            go_cut [9] (fun v wc => v = .pointer (some ⟨wr.heap.size, 0, none⟩) ∧ wc.heap[wr.heap.size]? = some (.cells #[.int .i64 m, .string (str (wantAt D mask torn y m (k + 1))), .string (str (D.nw m))] 69 (0, 0)) ∧ OnlyP wr.heap.size W1 wc)
            case first =>
              by_cases ht : (k : Int) = torn
              · have t1 : ((k : Int) == torn) = true := by simp [ht]
                have HW : Hid (wantAt D mask torn y m (k + 1) = (D.nw m).take y.toNat ++ (D.fl m).drop y.toNat) := by show _ = _; rw [Hwant.out, if_pos ht]
                have hs1 : (str (D.nw m)).size = 512 := by rw [str_size, hH.out.ok.ln]
                have hs2 : (str (D.fl m)).size = 512 := by rw [str_size, hH.out.ok.lf]
                have hsx := (set3 (u := .string (str (wantAt D mask torn y m (k + 1)))) hx).2.1
                have ho := (OnlyP.refl wr.heap.size W1).setCell 1 (.string (str (wantAt D mask torn y m (k + 1))))
                clear ht
                go_wp2_with fail
                go_region
                all_goals
                  rw [str_cut _ _ y.toNat (hH.out.ok.ln m) (hH.out.ok.lf m) (by omega), ← HW.out]
                  go_wp2
                  go_meet
                  case rel => exact ⟨rfl, hsx, ⟨ho.os, ho.tape, ho.output, ho.size, ho.block⟩⟩
              · have t1 : ((k : Int) == torn) = false := by simp [ht]
                cases hb : bitOf mask k with
                | true =>
                  have HW : Hid (wantAt D mask torn y m (k + 1) = D.nw m) := by show _ = _; rw [Hwant.out, if_neg ht, if_pos hb]
                  have tb : ((mask / 2 ^ (k % 64)).tmod 2 == 1) = true := by rw [tbit mask k hm.1, hb]
                  have hsx := (set3 (u := .string (str (D.nw m))) hx).2.1
                  have ho := (OnlyP.refl wr.heap.size W1).setCell 1 (.string (str (D.nw m)))
                  clear ht hb
                  go_wp2
                  go_meet
                  case rel => exact ⟨rfl, by rw [HW.out]; exact hsx, ho⟩
                | false =>
                  have HW : Hid (wantAt D mask torn y m (k + 1) = D.fl m) := by show _ = _; rw [Hwant.out, if_neg ht, if_neg (by rw [hb]; simp)]
                  have tb : ((mask / 2 ^ (k % 64)).tmod 2 == 1) = false := by rw [tbit mask k hm.1, hb]
                  clear ht hb
                  go_wp2
                  go_meet
                  case rel => exact ⟨rfl, by rw [HW.out]; exact hx, OnlyP.refl _ _⟩
            case rest =>
              obtain ⟨rfl, hx', hO⟩ := hcut
              have Hfr : Hid (Fr (RMine q (.slice (some ⟨lg, 0, none⟩) ns.length lc) (.slice (some ⟨og, 0, none⟩) D.loose.length oc)) w wr) := HC.out.fr
              generalize hX : wr.heap.size = X at *
              generalize hV : wantAt D mask torn y m (k + 1) = V at *
              have HV : Hid (wantAt D mask torn y m (k + 1) = V) := hV
              clear hV Hwant x0 x1 x2 f0 f1 f2
              obtain ⟨x0, x1, x2⟩ := cells3 hx'
              obtain ⟨f0, f1, f2⟩ := free3 hx'
              have hxd := (set3 (u := .string (str V)) hx').2.2
              have hOd := hO.setCell 2 (.string (str V))
              go_wp2_with fail
              generalize wc.setCell ⟨X, 2, none⟩ (.string (str V)) = Wd at *
              have hK : ∀ i, i < X → Wd.heap[i]? = wr.heap[i]? := fun i hi => (hOd.block i (by omega)).trans (hB1.block i hi)
              have hHB : Hid (∀ i, i < X → Wd.heap[i]? = wr.heap[i]?) := hK
              have holt : og < X := by rw [← hX]; exact (HC.out.orow.lt og rfl).2
              have g1 : Wd.cell? ⟨q, 1, none⟩ = some (.slice (some ⟨lg, 0, none⟩) ns.length lc) := (World.cell?_of_block (hK q hqlt)).trans d1
              have g2 : Wd.cell? ⟨q, 2, none⟩ = some (.slice (some ⟨og, 0, none⟩) D.loose.length oc) := (World.cell?_of_block (hK q hqlt)).trans d2
              have g3 : Wd.cell? ⟨og, k, none⟩ = some (.int .i64 m) := (World.cell?_of_block (hK og holt)).trans co
              obtain ⟨z0, z1, z2⟩ := cells3 hxd
              have hLd : Wd.ownsRow 0 69 3 (.slice (some ⟨lg, 0, none⟩) ns.length lc) ns.length (lcells (fun i => wantAt D mask torn y i k) (fun i => newAt D mask torn y i k) ns) := row_kept3 HC.out.lrow fun i hi => by cases hi; exact hK lg hllt
              have p0 := (World.cell?_of_block (hK lg hllt)).trans m0
              have p1 := (World.cell?_of_block (hK lg hllt)).trans m1
              have p2 := (World.cell?_of_block (hK lg hllt)).trans m2
              have lf0 := hLd.frozenAt (j * 3)
              have lf1 := hLd.frozenAt (j * 3 + 1)
              have lf2 := hLd.frozenAt (j * 3 + 2)
              have n1 : q ≠ lg := Ne.symm hql
              have n2 : og ≠ lg := Ne.symm hlo
              have n3 : X ≠ lg := by omega
              have n4 : lg ≠ X := by omega
              have hstep : Hid (CrR w (((Wd.setCell ⟨lg, j * 3, none⟩ (.int .i64 m)).setCell ⟨lg, j * 3 + 1, none⟩ (.string (str V))).setCell ⟨lg, j * 3 + 2, none⟩ (.string (str V))) q D (.slice (some ⟨lg, 0, none⟩) ns.length lc) (.slice (some ⟨og, 0, none⟩) D.loose.length oc) ns mask torn y (k + 1)) := by
                have st1 := hLd.stored (j * 3) (.int .i64 m)
                have st2 := st1.1.stored (j * 3 + 1) (.string (str V))
                have st3 := st2.1.stored (j * 3 + 2) (.string (str V))
                have hne : ∀ i, i ≠ lg → (((Wd.setCell ⟨lg, j * 3, none⟩ (.int .i64 m)).setCell ⟨lg, j * 3 + 1, none⟩ (.string (str V))).setCell ⟨lg, j * 3 + 2, none⟩ (.string (str V))).heap[i]? = Wd.heap[i]? := fun i hi => by
                  rw [Below.heap_setCell _ _ _ _ (by simpa using hi), Below.heap_setCell _ _ _ _ (by simpa using hi), Below.heap_setCell _ _ _ _ (by simpa using hi)]
                have hsz : (((Wd.setCell ⟨lg, j * 3, none⟩ (.int .i64 m)).setCell ⟨lg, j * 3 + 1, none⟩ (.string (str V))).setCell ⟨lg, j * 3 + 2, none⟩ (.string (str V))).heap.size = Wd.heap.size := by simp [World.setCell]
                refine ⟨((hne q n1).trans (hK q hqlt)).trans HC.out.blk, ?_, row_kept3 HC.out.orow fun i hi => by cases hi; exact (hne og n2).trans (hK og holt), ?_⟩
                · have := st3.1
                  rw [← Hs2.out]
                  exact this
                · refine ⟨?_, ?_, ?_, ?_, fun i hi hn => ?_⟩
                  · exact (hOd.os.trans hB1.os).trans Hfr.out.os
                  · exact (hOd.tape.trans hB1.tape).trans Hfr.out.tape
                  · exact (hOd.output.trans hB1.output).trans Hfr.out.output
                  · rw [hsz, hOd.size]; have := hB1.size; have := Hfr.out.size; omega
                  · have hs := Hfr.out.size
                    exact ((hne i (fun e => hn (.inr (.inl (by rw [e]; rfl))))).trans (hK i (by omega))).trans (Hfr.out.block i hi hn)
              clear hLd hK hO hx hx' hB1
              go_region_held3 (fun w' => w'.cell? ⟨q, 1, none⟩ = some (.slice (some ⟨lg, 0, none⟩) ns.length lc) ∧ w'.cell? ⟨q, 2, none⟩ = some (.slice (some ⟨og, 0, none⟩) D.loose.length oc) ∧ w'.cell? ⟨og, k, none⟩ = some (.int .i64 m) ∧ w'.cell? ⟨X, 0, none⟩ = some (.int .i64 m) ∧ w'.cell? ⟨X, 1, none⟩ = some (.string (str V)) ∧ w'.cell? ⟨X, 2, none⟩ = some (.string (str V)))
                (go_keep)
                (first | (go_at_call 39; refine (hA.out _ ?_ ?_).mono ?_; (first | exact hHB.out _ hqlt | rfl); (first | exact hHB.out _ hllt | rfl); rintro e w5 ⟨rfl, rfl⟩))
              all_goals
                generalize ((Wd.setCell ⟨lg, j * 3, none⟩ (.int .i64 m)).setCell ⟨lg, j * 3 + 1, none⟩ (.string (str V))).setCell ⟨lg, j * 3 + 2, none⟩ (.string (str V)) = We at *
                clear g1 g2 g3 z0 z1 z2 p0 p1 p2 lf0 lf1 lf2 hxd hOd
                go_wp2
                go_roundw
                case rel => exact ⟨k + 1, by omega, by go_num, ⟨hstep.out.blk, hstep.out.lrow, hstep.out.orow, ⟨hstep.out.fr.os, hstep.out.fr.tape, hstep.out.fr.output, hstep.out.fr.size, hstep.out.fr.block⟩⟩⟩
                case measure => simp [intOf]; omega
        · have e : k = D.loose.length := by omega
          subst e
          have hki : ¬ ((D.loose.length : Int) < (D.loose.length : Int)) := by omega
          obtain ⟨d0, d1, d2, d3, d4, d5, _⟩ := cell9 hC.blk
          have f2 := free9 hC.blk 2
          have f3 := free9 hC.blk 3
          have f5 := free9 hC.blk 5
          have R := rcrash_end hH.out HD.out HY.out hC
          clear hC
          go_wp2
          go_end0
          exact ⟨rfl, R⟩
set_option maxHeartbeats 400000 in
theorem rcrash_calls (w : World) (q : Nat) (D : DS) (lv ov : Value) (ns : List Int) (mask torn bytes : Int) (h : RD w q D lv ov ns) (hcl : D.calls ≤ 1000000) (hm : 0 ≤ mask ∧ mask ≤ 18446744073709551615) :
    Calls Try.prog 17 #[.pointer (some ⟨q, 0, none⟩), .int .u64 mask, .int .i64 torn, .int .i64 bytes] w fun e w' => e = .returned (.tuple #[]) ∧ RGo q w lv ov (D.crash mask torn bytes) w' := by
  cases hd : D.down with
  | false => exact rcrash_up w q D lv ov ns mask torn bytes h hcl hm hd
  | true =>
    obtain ⟨c0, c1, c2, c3, _⟩ := cell9 h.blk
    rw [hd] at c3
    have E : Hid (D.crash mask torn bytes = D) := by show _ = _; unfold DS.crash; rw [if_pos hd]
    have R : RGo q w lv ov D w := RGo.of h (OnlyP.refl _ _)
    clear h hd
    go_enter Try.func17, Try.ntmps17
    go_wp2
    ((try simp only [Exit.inBlock, Exit.then]); refine bodyPost_ret (results_none rfl _ _ _) rfl ?_)
    rw [E.out]
    exact ⟨rfl, R⟩
end Go.Proofs.Ytmemhckkfhlnmaa
