/- The document's own device: Write. -/
import Derived.Test.YtmemhckkfhlnmaaRefH
import Derived.Deep.RegionLaw
namespace Go.Proofs.Ytmemhckkfhlnmaa
set_option linter.unusedVariables false
open Go.RowKit
attribute [local go_sem ↓] Go.wp_at_zero Go.wp_at_succ

theorem Try.info_block : (Try.prog.info? 69).map (fun i => (i.zero, i.size, i.bytes)) = some (some (.agg #[.int .i64 0, .string ⟨#[]⟩, .string ⟨#[]⟩]), 3, 40) := by kernel_rfl
/-- The list with a number that is in it. -/
def addN (ns : List Int) (n : Int) : List Int := if n ∈ ns then ns else ns ++ [n]
theorem addN_at (ns : List Int) (n : Int) : ∃ h : (if n ∈ ns then ns.idxOf n else ns.length) < (addN ns n).length, (addN ns n)[if n ∈ ns then ns.idxOf n else ns.length] = n := by
  unfold addN
  by_cases e : n ∈ ns
  · simp only [if_pos e]
    exact ⟨List.idxOf_lt_length_of_mem e, List.getElem_idxOf _⟩
  · simp only [if_neg e]
    exact ⟨by simp, by simp⟩
theorem addN_nodup (ns : List Int) (n : Int) (nd : ns.Nodup) : (addN ns n).Nodup := by
  unfold addN
  split
  · exact nd
  · rename_i h
    rw [List.nodup_append]
    exact ⟨nd, by simp, fun a ha b hb e => by simp at hb; subst hb; subst e; exact h ha⟩
theorem mem_addN (ns : List Int) (n k : Int) : k ∈ addN ns n ↔ k ∈ ns ∨ k = n := by
  unfold addN
  by_cases e : n ∈ ns
  · rw [if_pos e]
    exact ⟨.inl, fun h => by rcases h with h | rfl; exact h; exact e⟩
  · rw [if_neg e]; simp
theorem addN_length (ns : List Int) (n : Int) : (addN ns n).length ≤ ns.length + 1 := by
  unfold addN
  split <;> simp
/-- Behind the test whether the block was ever written. -/
structure WrM (w1 wc : World) (q : Nat) (D : DS) (lv ov lv2 : Value) (ns : List Int) (n : Int) (nw' : Int → List UInt8) : Prop where
  blk : wc.heap[q]? = some (.cells (refCells D lv2 ov) 63 (0, 0))
  lrow : wc.ownsRow 0 69 3 lv2 (addN ns n).length (lcells D.fl nw' (addN ns n))
  orow : wc.ownsRow 0 3 1 ov D.loose.length (ic D.loose)
  fr : Fr (RMine q lv ov) w1 wc
  near : Near' (RMine q lv ov) (RMine q lv2 ov) w1.heap.size
  ql : lv2.ownBlock ≠ some q
  lo : ∀ k, lv2.ownBlock = some k → ov.ownBlock ≠ some k
  nwo : ∀ k, k ≠ n → nw' k = D.nw k
theorem WrM.drew {w1 wc : World} {q : Nat} {D : DS} {lv ov lv2 : Value} {ns : List Int} {n : Int} {nw' : Int → List UInt8} (h : WrM w1 wc q D lv ov lv2 ns n nw') : WrM w1 wc.drew q D lv ov lv2 ns n nw' := ⟨h.blk, h.lrow, h.orow, h.fr.drew, h.near, h.ql, h.lo, h.nwo⟩
theorem block_added {w1 w5 w6 : World} {q g cap : Nat} {D : DS} {lv ov : Value} {ns : List Int} {n : Int} {N : List UInt8} {o : Obj} (h : RD w1 q D lv ov ns) (hm : n ∉ ns) (B5 : Below w1.heap.size w1 w5) (hN : N = nought)
    (hown : w6.ownsRow 0 69 3 (.slice (some ⟨g, 0, none⟩) (ns.length + 1) cap) (ns.length + 1) (lcells D.fl D.nw ns ++ [.int .i64 n, .string (str N), .string ⟨#[]⟩])) (hgrow : (w5.alloc o).grownBy w6 lv.ownBlock) (hat : lv.ownBlock = some g ∨ g = (w5.alloc o).heap.size) :
    w6.cell? ⟨q, 1, none⟩ = some lv ∧ w6.frozen? ⟨q, 1, none⟩ = false ∧ WrM w1 (w6.setCell ⟨q, 1, none⟩ (.slice (some ⟨g, 0, none⟩) (ns.length + 1) cap)) q D lv ov (.slice (some ⟨g, 0, none⟩) (ns.length + 1) cap) ns n (upd D.nw n []) := by
  have hs5 := B5.size
  have hsa : (w5.alloc o).heap.size = w5.heap.size + 1 := by simp
  have hql := lt_block h.blk
  have hk : ∀ k, k < w1.heap.size → lv.ownBlock ≠ some k → w6.heap[k]? = w1.heap[k]? := fun k h1 h2 => ((hgrow.block k (by omega) (fun e => h2 e.symm)).trans (Below.heap_alloc _ _ _ (by omega))).trans (B5.block k h1)
  have hbq := (hk q hql h.ql).trans h.blk
  have hgq : g ≠ q := by
    rcases hat with e | e
    · exact fun e' => h.ql (by rw [e, e'])
    · omega
  have hko : ∀ k, ov.ownBlock = some k → w6.heap[k]? = w1.heap[k]? := fun k e => hk k (h.orow.lt k e).2 (fun e' => h.lo k e' e)
  refine ⟨(cell9 hbq).2.1, free9 hbq 1, ?_⟩
  have hA : addN ns n = ns ++ [n] := by unfold addN; rw [if_neg hm]
  exact {
    blk := by simp [World.setCell, Array.getElem?_modify, hbq, refCells]
    lrow := by
      rw [hA, List.length_append, lcells_append, lcells_congr D.fl (upd D.nw n []) D.fl D.nw ns fun k hk => ⟨rfl, by unfold upd; rw [if_neg (fun (e : k = n) => hm (by rw [← e]; exact hk))]⟩]
      have e : lcells D.fl (upd D.nw n []) [n] = [.int .i64 n, .string (str N), .string ⟨#[]⟩] := by
        unfold lcells upd
        simp only [List.flatMap_cons, List.flatMap_nil, List.append_nil, if_pos]
        rw [(h.out n hm).1, hN]
        rfl
      rw [e]
      exact row_kept3 hown fun k e => by cases e; exact Below.heap_setCell _ _ _ _ (by simpa using hgq)
    orow := row_kept3 h.orow fun k e => (Below.heap_setCell _ _ _ _ (by simp; intro e'; exact h.qo (by rw [e, e']))).trans (hko k e)
    fr := ⟨(hgrow.os.trans B5.os), (hgrow.tape.trans B5.tape), (hgrow.output.trans B5.output), by have := hgrow.size; simp [World.setCell]; omega, fun k h1 h2 => (Below.heap_setCell _ _ _ _ (by simp; intro e; exact h2 (.inl e))).trans (hk k h1 (fun e => h2 (.inr (.inl e))))⟩
    near := fun k e => by
      rcases e with e | e | e
      · exact .inl (.inl e)
      · cases e
        rcases hat with e | e
        · exact .inl (.inr (.inl e))
        · right
          rw [hsa] at e
          have : w1.heap.size ≤ g := by omega
          exact this
      · exact .inl (.inr (.inr e))
    ql := fun e => by cases e; exact hgq rfl
    lo := fun k e e' => by
      cases e
      rcases hat with e | e
      · exact h.lo g e e'
      · have := (h.orow.lt g e').2; omega
    nwo := fun k e => by unfold upd; rw [if_neg e] }
/-- The end, whether the number was loose or not. -/
theorem rwrite_end {w1 wc wd : World} {q : Nat} {D : DS} {lv ov lv2 ov2 : Value} {ns : List Int} {n : Int} {nw' : Int → List UInt8} {b : List UInt8} (h : RD w1 q D lv ov ns) (hin : 0 ≤ n ∧ n < D.blocks) (hb : b.length = 512) (hlc : (D.loose.length : Int) + 1 ≤ D.calls) (hln : (ns.length : Int) + 1 ≤ D.calls)
    (hM : WrM w1 wc q D lv ov lv2 ns n nw') (blk : wd.heap[q]? = some (.cells (refCells D lv2 ov2) 63 (0, 0))) (lrow : wd.ownsRow 0 69 3 lv2 (addN ns n).length (lcells D.fl (upd nw' n b) (addN ns n)))
    (orow : wd.ownsRow 0 3 1 ov2 (D.put n b).loose.length (ic (D.put n b).loose)) (fr : Fr (RMine q lv2 ov) wc wd) (hov : ov2.ownBlock = ov.ownBlock ∨ ∃ g, ov2.ownBlock = some g ∧ wc.heap.size ≤ g) (hq : ov2.ownBlock ≠ some q) (hl : ∀ k, lv2.ownBlock = some k → ov2.ownBlock ≠ some k) : RGo q w1 lv ov (D.put n b) wd := by
  refine ⟨lv2, ov2, addN ns n, ?_, hM.fr.trans fr hM.near, fun k hk => ?_⟩
  · exact {
      ok := h.ok.put n b hb hlc
      blk := blk
      lrow := by
        rw [lcells_congr D.fl (upd nw' n b) (D.put n b).fl (D.put n b).nw (addN ns n) fun k _ => ⟨rfl, ?_⟩] at lrow
        · exact lrow
        · unfold upd DS.put
          simp only
          by_cases e : k = n
          · rw [if_pos e, if_pos e]
          · rw [if_neg e, if_neg e]; exact hM.nwo k e
      orow := orow
      rm := h.rm
      rt := h.rt
      ry := h.ry
      ra := h.ra
      nd := addN_nodup ns n h.nd
      sub := fun k hk => by
        rw [mem_addN]
        unfold DS.put at hk
        simp only at hk
        split at hk
        · exact .inl (h.sub k hk)
        · rcases List.mem_append.1 hk with hk | hk
          · exact .inl (h.sub k hk)
          · exact .inr (by simpa using hk)
      out := fun k hk => by
        rw [mem_addN] at hk
        have h1 : k ∉ ns := fun e => hk (.inl e)
        have h2 : k ≠ n := fun e => hk (.inr e)
        refine ⟨(h.out k h1).1, ?_⟩
        unfold DS.put
        simp only
        rw [if_neg h2]
        exact (h.out k h1).2
      ln := by have := addN_length ns n; show ((addN ns n).length : Int) ≤ D.calls; omega
      inB := fun k hk => by
        rcases (mem_addN ns n k).1 hk with e | e
        · exact h.inB k e
        · subst e; exact hin
      ql := hM.ql
      qo := hq
      lo := hl }
  · rcases hk with hk | hk | hk
    · exact .inl (.inl hk)
    · exact hM.near k (.inr (.inl hk))
    · rcases hov with e | ⟨g, e, hg⟩
      · exact hM.near k (.inr (.inr (by rw [← e]; exact hk)))
      · rw [e] at hk
        cases hk
        exact .inr (by have := hM.fr.size; omega)
theorem ring_added {w1 wc W3 w6 : World} {q g cap : Nat} {D : DS} {lv ov lv2 : Value} {ns : List Int} {n : Int} {nw' : Int → List UInt8} {b : List UInt8} {o : Obj} (h : RD w1 q D lv ov ns) (hin : 0 ≤ n ∧ n < D.blocks) (hb : b.length = 512) (hlc : (D.loose.length : Int) + 1 ≤ D.calls) (hln : (ns.length : Int) + 1 ≤ D.calls)
    (hM : WrM w1 wc q D lv ov lv2 ns n nw') (blk : W3.heap[q]? = some (.cells (refCells D lv2 ov) 63 (0, 0))) (lrow : W3.ownsRow 0 69 3 lv2 (addN ns n).length (lcells D.fl (upd nw' n b) (addN ns n))) (fr : Fr (RMine q lv2 ov) wc W3) (hn : n ∉ D.loose)
    (hown : w6.ownsRow 0 3 1 (.slice (some ⟨g, 0, none⟩) (D.loose.length + 1) cap) (D.loose.length + 1) (ic D.loose ++ [.int .i64 n])) (hgrow : (W3.alloc o).grownBy w6 ov.ownBlock) (hat : ov.ownBlock = some g ∨ g = (W3.alloc o).heap.size) :
    w6.cell? ⟨q, 2, none⟩ = some ov ∧ w6.frozen? ⟨q, 2, none⟩ = false ∧ RGo q w1 lv ov (D.put n b) (w6.setCell ⟨q, 2, none⟩ (.slice (some ⟨g, 0, none⟩) (D.loose.length + 1) cap)) := by
  have hsa : (W3.alloc o).heap.size = W3.heap.size + 1 := by simp
  have hql := lt_block blk
  have hk : ∀ k, k < W3.heap.size → ov.ownBlock ≠ some k → w6.heap[k]? = W3.heap[k]? := fun k h1 h2 => (hgrow.block k (by omega) (fun e => h2 e.symm)).trans (Below.heap_alloc _ _ _ (by omega))
  have hbq := (hk q hql h.qo).trans blk
  have hgq : g ≠ q := by
    rcases hat with e | e
    · exact fun e' => h.qo (by rw [e, e'])
    · omega
  have hlg : ∀ k, lv2.ownBlock = some k → k ≠ g := fun k e e' => by
    subst e'
    rcases hat with e2 | e2
    · exact hM.lo k e e2
    · have := (lrow.lt k e).2; omega
  have hput : (D.put n b).loose = D.loose ++ [n] := by unfold DS.put; simp only; rw [if_neg hn]
  refine ⟨(cell9 hbq).2.2.1, free9 hbq 2, ?_⟩
  refine rwrite_end (ov2 := .slice (some ⟨g, 0, none⟩) (D.loose.length + 1) cap) h hin hb hlc hln hM ?_ ?_ ?_ ?_ ?_ ?_ ?_
  · simp [World.setCell, Array.getElem?_modify, hbq, refCells]
  · exact row_kept3 lrow fun k e => (Below.heap_setCell _ _ _ _ (by simp; intro e'; exact hM.ql (by rw [e, e']))).trans (hk k (lrow.lt k e).2 (hM.lo k e))
  · rw [hput, List.length_append]
    have e : ic (D.loose ++ [n]) = ic D.loose ++ [.int .i64 n] := by simp [ic]
    rw [e]
    exact row_kept3 hown fun k e => by cases e; exact Below.heap_setCell _ _ _ _ (by simpa using hgq)
  · exact ⟨hgrow.os.trans fr.os, hgrow.tape.trans fr.tape, hgrow.output.trans fr.output, by have := hgrow.size; have := fr.size; simp [World.setCell]; omega, fun k h1 h2 => ((Below.heap_setCell _ _ _ _ (by simp; intro e; exact h2 (.inl e))).trans (hk k (by have := fr.size; omega) (fun e => h2 (.inr (.inr e))))).trans (fr.block k h1 h2)⟩
  · rcases hat with e | e
    · exact .inl (by rw [e]; rfl)
    · exact .inr ⟨g, rfl, by have := fr.size; omega⟩
  · exact fun e => by cases e; exact hgq rfl
  · exact fun k e e' => by cases e'; exact hlg g e rfl
set_option maxHeartbeats 4000000 in
set_option maxRecDepth 100000 in
theorem rwrite_calls (w : World) (q : Nat) (D : DS) (lv ov : Value) (ns : List Int) (n : Int) (b : List UInt8) (h : RD w q D lv ov ns) (hcl : D.calls ≤ 999999) :
    Calls Try.prog 33 #[.pointer (some ⟨q, 0, none⟩), .int .i64 n, .string (str b)] w fun e w' => e = .returned (.int .i64 (D.write n b).2) ∧ RGo q w lv ov (D.write n b).1 w' := by
  cases hb : D.tick.2 with
  | false =>
    have hT := rfalls_false w q D lv ov ns h hcl hb
    have E : Hid (D.write n b = (D.tick.1, 11)) := by show _ = _; unfold DS.write; rw [if_pos hb]
    clear h hb
    go_enter Try.func33, Try.ntmps33
    go_wp2_with (go_at_call 46; refine hT.mono ?_; rintro e w1 ⟨rfl, hg⟩)
    go_ret
    rw [E.out]
    exact ⟨rfl, hg⟩
  | true =>
    have hT := rfalls_true w q D lv ov ns h hcl hb
    obtain ⟨ht1, ht2, ht3, ht4, ht5, ht6⟩ := DS.tick_on hb
    have hc1 : D.tick.1.calls ≤ 1000000 := by rw [ht1]; omega
    have hlc : (D.tick.1.loose.length : Int) + 1 ≤ D.tick.1.calls := by rw [ht1, ht2]; have := h.ok.lc; omega
    have hln : (ns.length : Int) + 1 ≤ D.tick.1.calls := by rw [ht1]; have := h.ln; omega
    have hsz : (str b).size = b.length := str_size b
    by_cases hbad : n < 0 ∨ D.blocks ≤ n ∨ b.length ≠ 512
    · have E : Hid (D.write n b = (D.tick.1, 1)) := by show _ = _; unfold DS.write; rw [if_neg (by rw [hb]; simp), if_pos hbad]
      rw [← ht6] at hbad
      clear h hb ht1 ht2 ht3 ht4 ht5 ht6
      generalize D.tick.1 = D1 at *
      by_cases e1 : n < 0
      · clear hbad
        go_enter Try.func33, Try.ntmps33
        go_wp2_with (go_at_call 46; refine hT.mono ?_; rintro e w1 ⟨rfl, hg, ho⟩; have HG : Hid (RGo q w lv ov D1 w1) := RGo.of hg ho; have c0 := (cell9 hg.blk).1; clear hg ho)
        go_ret
        rw [E.out]
        exact ⟨rfl, HG.out⟩
      · by_cases e2 : D1.blocks ≤ n
        · clear hbad
          go_enter Try.func33, Try.ntmps33
          go_wp2_with (go_at_call 46; refine hT.mono ?_; rintro e w1 ⟨rfl, hg, ho⟩; have HG : Hid (RGo q w lv ov D1 w1) := RGo.of hg ho; have c0 := (cell9 hg.blk).1; clear hg ho)
          go_ret
          rw [E.out]
          exact ⟨rfl, HG.out⟩
        · have e3 : b.length ≠ 512 := by omega
          have e4 : ((b.length : Int) == 512) = false := by simp; omega
          have e5 : ((b.length : Int) != 512) = true := by simp; omega
          clear hbad e3
          go_enter Try.func33, Try.ntmps33
          go_wp2_with (go_at_call 46; refine hT.mono ?_; rintro e w1 ⟨rfl, hg, ho⟩; have HG : Hid (RGo q w lv ov D1 w1) := RGo.of hg ho; have c0 := (cell9 hg.blk).1; clear hg ho)
          go_ret
          rw [E.out]
          exact ⟨rfl, HG.out⟩
    · have E : Hid (D.write n b = (D.tick.1.put n b, 0)) := by show _ = _; unfold DS.write; rw [if_neg (by rw [hb]; simp), if_neg hbad]
      rw [← ht6] at hbad
      have e1 : ¬ n < 0 := by omega
      have e2 : ¬ D.tick.1.blocks ≤ n := by omega
      have hb5 : b.length = 512 := by omega
      have HB5 : Hid (b.length = 512) := hb5
      rw [hb5] at hsz
      have hin : 0 ≤ n ∧ n < D.tick.1.blocks := by omega
      clear h hb ht1 ht2 ht3 ht4 ht5 ht6 hbad hb5
      generalize D.tick.1 = D1 at *
      go_enter Try.func33, Try.ntmps33
      go_upto_if 32 with (first | (go_at_call 46; refine hT.mono ?_; rintro e w1 ⟨rfl, hg, ho⟩; have HG : Hid (RD w1 q D1 lv ov ns) := hg; have HO : Hid (OnlyP q w w1) := ho; have c0 := (cell9 hg.blk).1; have c1 := (cell9 hg.blk).2.1; have hA := rat_calls w1 q D1 lv ov ns n hg hc1; clear hg ho) | (go_at_call 39; refine hA.mono ?_; rintro e w2 ⟨rfl, rfl⟩))
      have hnl : (ns.length : Int) ≤ 1000000 := by omega
      go_cut [8] (fun v wc => ∃ (lv2 : Value) (nw' : Int → List UInt8), v = .int .i64 ((if n ∈ ns then ns.idxOf n else ns.length : Nat) : Int) ∧ WrM w2 wc q D1 lv ov lv2 ns n nw')
      case first =>
        by_cases hm : n ∈ ns
        · have ha : atIx ns n = (ns.idxOf n : Int) := by unfold atIx; rw [if_pos hm]
          have hi0 : ¬ ((ns.idxOf n : Int) < 0) := by omega
          have HM : Hid (n ∈ ns) := hm
          rw [ha]
          clear ha hm hA hT
          go_wp2
          go_meet
          case rel =>
            refine ⟨lv, D1.nw, by rw [if_pos HM.out], ?_⟩
            have hN : addN ns n = ns := by unfold addN; rw [if_pos HM.out]
            exact ⟨HG.out.blk, by rw [hN]; exact HG.out.lrow, HG.out.orow, Fr.refl _ _, fun k hk => .inl hk, HG.out.ql, HG.out.lo, fun k _ => rfl⟩
        · have ha : atIx ns n = -1 := by unfold atIx; rw [if_neg hm]
          have HM : Hid (n ∉ ns) := hm
          obtain ⟨la, lc, rfl⟩ := own_form3 HG.out.lrow
          rw [ha]
          clear ha hm hA hT
          obtain ⟨i0, hi, hz0, hz1, hz2⟩ := info_parts Try.info_block
          have HN : Hid (∀ w', Calls Try.prog 25 #[] w' fun e w'' => e = .returned (.string (str nought)) ∧ Below w'.heap.size w' w'') := fun w' => noughts_calls w'
          obtain ⟨N, hNN⟩ : ∃ N, N = nought := ⟨_, rfl⟩
          rw [← hNN] at HN
          have HNN : Hid (N = nought) := hNN
          clear hNN
          have f1 := free9 HG.out.blk 1
          have hqlt := lt_block HG.out.blk
          have HC : Hid (∀ w5, Below w2.heap.size w2 w5 → w5.cell? ⟨q, 1, none⟩ = some (.slice la ns.length lc)) := fun w5 b5 => (World.cell?_of_block (b5.block q hqlt)).trans c1
          have HF : Hid (∀ w5, Below w2.heap.size w2 w5 → w5.frozen? ⟨q, 1, none⟩ = false) := fun w5 b5 => (World.frozen?_of_block (b5.block q hqlt)).trans f1
          go_wp2_with fail
          have HL : Hid (∀ w5, Below w2.heap.size w2 w5 → w5.ownsRow 0 69 3 (.slice la ns.length lc) ns.length (lcells D1.fl D1.nw ns)) := fun w5 b5 => row_kept3 HG.out.lrow fun k e => b5.block k (HG.out.lrow.lt k e).2
          go_region_law ((first
            | (refine step_append_lies _ rfl _ _ 61 rfl 0 69 i0 (.agg #[.int .i64 0, .string ⟨#[]⟩, .string ⟨#[]⟩]) 3 40 Try.underlying61 hi hz0 hz1 hz2 rfl (by omega) (.slice la ns.length lc) ns.length (lcells D1.fl D1.nw ns) rfl ((HL.out _ B5).alloc _) ⟨_, 0, none⟩ 1 1 [.int .i64 n, .string (str N), .string ⟨#[]⟩] rfl rfl (World.news_of_block (cs := #[_, _, _]) (heap_alloc_new _ _)) (by intro u hu; simp at hu; rcases hu with rfl | rfl | rfl <;> rfl) (by omega) (by unfold maxLen; omega) (by omega) (by simp) _ rfl ?_; intro g cap w6 hown hgrow hat hlt; obtain ⟨k1, k2, hWM⟩ := block_added HG.out HM.out B5 HNN.out hown hgrow hat)
            | (go_wp2_with (go_at_call 25; refine (HN.out _).mono ?_; rintro e w5 ⟨rfl, b5⟩; have B5 : Below w2.heap.size w2 w5 := ⟨b5.os, b5.tape, b5.output, b5.size, b5.block⟩; have c15 := HC.out _ B5; have f15 := HF.out _ B5; have c16 : ∀ o, (w5.alloc o).cell? ⟨q, 1, none⟩ = some (.slice la ns.length lc) := fun o => Lib.cell?_alloc_some _ c15))))
          all_goals
            have HW : Hid (_) := hWM
            clear hWM hown hgrow hat
            go_wp2
            go_meet
            case rel => exact ⟨_, _, by rw [if_neg HM.out], HW.out⟩
      case rest =>
        obtain ⟨lv2, nw', rfl, hM⟩ := hcut
        obtain ⟨hj, hat⟩ := addN_at ns n
        have hND := addN_nodup ns n HG.out.nd
        have hlen2 := addN_length ns n
        obtain ⟨lg, lc2, rfl⟩ := row_somewhere hM.lrow (by omega)
        obtain ⟨k0, k1, k2, _⟩ := cell9 hM.blk
        generalize (if n ∈ ns then ns.idxOf n else ns.length) = j at *
        obtain ⟨l0, l1, l2⟩ := lcells_at D1.fl nw' (addN ns n) j hj
        have m2 := (hM.lrow.cellAt (j * 3 + 2) (by omega)).trans l2
        have lf2 := hM.lrow.frozenAt (j * 3 + 2)
        have st := (hM.lrow.stored (j * 3 + 2) (.string (str b))).1
        rw [(lcells_set D1.fl nw' (addN ns n) hND j hj b).2.1, hat] at st
        have n1 : q ≠ lg := fun e => hM.ql (by rw [e]; rfl)
        have hb3 : (wc.setCell ⟨lg, j * 3 + 2, none⟩ (.string (str b))).heap[q]? = some (.cells (refCells D1 (.slice (some ⟨lg, 0, none⟩) (addN ns n).length lc2) ov) 63 (0, 0)) := (Below.heap_setCell _ _ _ _ (by simpa using n1)).trans hM.blk
        have ho3 : (wc.setCell ⟨lg, j * 3 + 2, none⟩ (.string (str b))).ownsRow 0 3 1 ov D1.loose.length (ic D1.loose) := row_kept3 hM.orow fun k e => Below.heap_setCell _ _ _ _ (by simp; intro e'; exact hM.lo lg rfl (by rw [← e']; exact e))
        have hf3 : Fr (RMine q (.slice (some ⟨lg, 0, none⟩) (addN ns n).length lc2) ov) wc (wc.setCell ⟨lg, j * 3 + 2, none⟩ (.string (str b))) := ⟨rfl, rfl, rfl, by simp [World.setCell], fun k h1 h2 => Below.heap_setCell _ _ _ _ (by simp; intro e; exact h2 (.inr (.inl (by rw [e]; rfl))))⟩
        have hji : (j : Int) < ((addN ns n).length : Int) := by omega
        have HM : Hid (_) := hM
        have HT : Hid ((wc.setCell ⟨lg, j * 3 + 2, none⟩ (.string (str b))).ownsRow 0 69 3 (.slice (some ⟨lg, 0, none⟩) (addN ns n).length lc2) (addN ns n).length (lcells D1.fl (upd nw' n b) (addN ns n))) := st
        have HO3 : Hid ((wc.setCell ⟨lg, j * 3 + 2, none⟩ (.string (str b))).ownsRow 0 3 1 ov D1.loose.length (ic D1.loose)) := ho3
        have HF3 : Hid (_) := hf3
        clear hM st ho3 hf3 hA hT hat l0 l1 l2 hND
        go_wp2_with fail
        generalize wc.setCell ⟨lg, j * 3 + 2, none⟩ (.string (str b)) = W3 at *
        obtain ⟨z0, z1, z2, _⟩ := cell9 hb3
        have hlc0 : (D1.loose.length : Int) ≤ 1000000 := by omega
        obtain ⟨oa, oc, rfl⟩ := own_form3 HO3.out
        clear k0 k1 k2 m2 lf2
        go_loopw [9] (fun i wr => ∃ (k : Nat), k ≤ D1.loose.length ∧ i = .int .i64 (k : Int) ∧ W3 = wr ∧ Hid (∀ i (hi : i < D1.loose.length), i < k → D1.loose[i] ≠ n))
          (fun i _ => D1.loose.length - (intOf i).toNat)
        case atStart => exact ⟨0, Nat.zero_le _, rfl, rfl, fun _ _ h => by omega⟩
        case round =>
          obtain ⟨k, hk, rfl, rfl, HX⟩ := hrel
          by_cases hk5 : k < D1.loose.length
          · obtain ⟨og, oc', e⟩ := row_somewhere HO3.out (by omega)
            cases e
            have co := (HO3.out.cellAt k (by omega)).trans (ic_at D1.loose k hk5)
            have hki : (k : Int) < (D1.loose.length : Int) := by omega
            by_cases e : D1.loose[k] = n
            · have e1 : (D1.loose[k] == n) = true := by simp [e]
              have hmem : n ∈ D1.loose := by rw [← e]; exact List.getElem_mem hk5
              have hput : (D1.put n b).loose = D1.loose := by unfold DS.put; simp only; rw [if_pos hmem]
              have R := rwrite_end HG.out hin HB5.out hlc hln HM.out hb3 HT.out (by rw [hput]; exact HO3.out) HF3.out (.inl rfl) HG.out.qo HM.out.lo
              have R2 : Hid (_) := RGo.trans HO.out.fr R
              clear R hput hmem e
              generalize D1.loose[k] = m at *
              go_wp2
              go_ret
              rw [E.out]
              exact ⟨rfl, R2.out⟩
            · have e1 : (D1.loose[k] == n) = false := by simp [e]
              have HN : Hid (∀ i (hi : i < D1.loose.length), i < k + 1 → D1.loose[i] ≠ n) := fun i hi hik => by
                by_cases e' : i = k
                · subst e'; exact e
                · exact HX.out i hi (by omega)
              clear e
              generalize D1.loose[k] = m at *
              go_wp2
              go_roundw
              case rel => exact ⟨k + 1, by omega, by go_num, by trivial, HN.out⟩
              case measure => simp [intOf]; omega
          · have e : k = D1.loose.length := by omega
            subst e
            have hki : ¬ ((D1.loose.length : Int) < (D1.loose.length : Int)) := by omega
            have HNM : Hid (n ∉ D1.loose) := fun hm => by
              obtain ⟨i, hi, e⟩ := List.getElem_of_mem hm
              exact HX.out i hi hi e
            obtain ⟨i0, hi, hz0, hz1, hz2⟩ := info_parts Try.info_i64
            clear HX
            go_wp2_with (at_builtin; refine wpList_append_lies _ rfl _ _ 38 rfl 0 3 i0 (.int .i64 0) 1 8 Try.underlying38 hi hz0 hz1 hz2 rfl (by omega) _ D1.loose.length (ic D1.loose) rfl (HO3.out.alloc _) ⟨_, 0, none⟩ 1 1 [.int .i64 n] rfl rfl (World.news_of_block (cs := #[_]) (heap_alloc_new _ _)) (by intro u hu; simp at hu; subst hu; rfl) (by omega) (by unfold maxLen; omega) (by omega) (by simp) _ rfl ?_; intro g5 cap5 w6 hown6 hgrow6 hat6 hlt6; obtain ⟨y1, y2, hR⟩ := ring_added HG.out hin HB5.out hlc hln HM.out hb3 HT.out HF3.out HNM.out hown6 hgrow6 hat6)
            go_ret
            rw [E.out]
            exact ⟨rfl, RGo.trans HO.out.fr hR⟩
end Go.Proofs.Ytmemhckkfhlnmaa
