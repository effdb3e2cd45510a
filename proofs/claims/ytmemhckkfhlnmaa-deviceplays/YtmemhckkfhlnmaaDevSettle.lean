/- What settle comes to: of each loose block so many new bytes are flushed as its closure tells, and nothing is loose. -/
import Derived.Test.YtmemhckkfhlnmaaDevRep
namespace Go.Proofs.Ytmemhckkfhlnmaa
set_option linter.unusedVariables false
open Go.RowKit
attribute [local go_sem ↓] Go.wp_at_zero Go.wp_at_succ

/-- What is flushed of a loose block, if K tells how many bytes of the newest content stay. -/
def DS.kept (D : DS) (K : Nat → Nat) (n : Int) : List UInt8 := (D.nw n).take (K (D.loose.idxOf n)) ++ (D.fl n).drop (K (D.loose.idxOf n))
def DS.mid (D : DS) (K : Nat → Nat) (i : Nat) (n : Int) : List UInt8 := if n ∈ D.loose.take i then D.kept K n else D.fl n
def DS.settle (D : DS) (K : Nat → Nat) : DS := { D with fl := D.mid K D.loose.length, nw := D.mid K D.loose.length, loose := [] }
def midL (D : DS) (r : DR) (i : Nat) : Int → Option Value := fun n => if n ∈ D.loose.take i then none else r.L n

/-- A device that is being settled: i of its loose blocks are done. -/
structure Mid (w wr : World) (D : DS) (r : DR) (T : Nat → Prop) (K : Nat → Nat) (i : Nat) (nf : Nat) (F : Int → Option Value) (U : Nat → Prop) : Prop where
  fr : Fr (fun k => k = r.fb ∨ k = r.lb) w wr
  mf : MapV wr r.fb nf F
  ml : MapV wr r.lb r.nl (midL D r i)
  cf : nf ≤ r.nf + i
  atF : ∀ n v, F n = some v → ∃ g, U g ∧ BytesIn wr v (D.mid K i n) (some g)
  noF : ∀ n, F n = none → D.mid K i n = nought
  uo : ∀ k, U k → T k ∨ w.heap.size ≤ k
  ul : ∀ k, U k → k < wr.heap.size
theorem DS.mid_length {D : DS} (h : D.Ok) (K : Nat → Nat) (hK : ∀ i, K i ≤ 512) (i : Nat) (n : Int) : (D.mid K i n).length = 512 := by
  have h1 := h.lf n
  have h2 := h.ln n
  have h3 := hK (D.loose.idxOf n)
  unfold DS.mid DS.kept
  split
  · rw [List.length_append, List.length_take, List.length_drop]
    omega
  · assumption
theorem Mid.start {w : World} {p : Nat} {D : DS} {r : DR} {T : Nat → Prop} {K : Nat → Nat} (h : Dev w p D r T) : Mid w w D r T K 0 r.nf r.F T where
  fr := Fr.refl _ _
  mf := h.mf
  ml := by
    have e : midL D r 0 = r.L := by funext n; unfold midL; simp
    rw [e]
    exact h.ml
  cf := Nat.le_refl _
  atF := fun n v e => by
    have := h.atF n v e
    unfold DS.mid
    rw [if_neg (by simp)]
    exact this
  noF := fun n e => by
    unfold DS.mid
    rw [if_neg (by simp)]
    exact h.noF n e
  uo := fun k e => .inl e
  ul := fun k e => (h.tt k e).1

theorem idx_of_at {l : List Int} (h : l.Nodup) (i : Nat) (hi : i < l.length) : l.idxOf l[i] = i := by
  have := List.Nodup.idxOf_getElem h i hi
  exact this
theorem at_new {l : List Int} (h : l.Nodup) (i : Nat) (hi : i < l.length) : l[i] ∉ l.take i := by
  intro hm
  obtain ⟨j, hj, e⟩ := List.mem_iff_getElem.1 hm
  have hj' : j < i := by simp at hj; omega
  rw [List.getElem_take] at e
  have h1 := idx_of_at h j (by omega)
  rw [e, idx_of_at h i hi] at h1
  omega
theorem mem_take_succ {l : List Int} (i : Nat) (hi : i < l.length) (n : Int) : n ∈ l.take (i + 1) ↔ n ∈ l.take i ∨ n = l[i] := by
  rw [List.take_succ_eq_append_getElem hi, List.mem_append, List.mem_singleton]

theorem midL_next {D : DS} {r : DR} (k : Nat) (hk : k < D.loose.length) : delAt (midL D r k) D.loose[k] = midL D r (k + 1) := by
  funext m
  unfold delAt midL
  by_cases e : m = D.loose[k]
  · rw [if_pos e, if_pos ((mem_take_succ k hk m).2 (.inr e))]
  · rw [if_neg e]
    by_cases e2 : m ∈ D.loose.take k
    · rw [if_pos e2, if_pos ((mem_take_succ k hk m).2 (.inl e2))]
    · rw [if_neg e2, if_neg (fun h => by rcases (mem_take_succ k hk m).1 h with h | h; exact e2 h; exact e h)]
theorem mid_other {D : DS} {K : Nat → Nat} (k : Nat) (hk : k < D.loose.length) {m : Int} (e : m ≠ D.loose[k]) : D.mid K (k + 1) m = D.mid K k m := by
  unfold DS.mid
  by_cases e2 : m ∈ D.loose.take k
  · rw [if_pos e2, if_pos ((mem_take_succ k hk m).2 (.inl e2))]
  · rw [if_neg e2, if_neg (fun h => by rcases (mem_take_succ k hk m).1 h with h | h; exact e2 h; exact e h)]
theorem mid_same {D : DS} {K : Nat → Nat} (k : Nat) (hk : k < D.loose.length) : D.mid K (k + 1) D.loose[k] = D.kept K D.loose[k] := by
  unfold DS.mid
  rw [if_pos ((mem_take_succ k hk _).2 (.inr rfl))]
theorem Mid.off {w wr : World} {p : Nat} {D : DS} {r : DR} {T : Nat → Prop} {K : Nat → Nat} {k nf : Nat} {F : Int → Option Value} {U : Nat → Prop} (hM : Mid w wr D r T K k nf F U) (h : Dev w p D r T) {g : Nat} (hg : U g) : g ≠ r.fb ∧ g ≠ r.lb := by
  have h1 := h.mf.lt
  have h2 := h.ml.lt
  rcases hM.uo g hg with e | e
  · exact ⟨(h.tt g e).2.2.1, (h.tt g e).2.2.2.1⟩
  · exact ⟨by omega, by omega⟩
theorem Mid.put {w wr w' : World} {p : Nat} {D : DS} {r : DR} {T : Nat → Prop} {K : Nat → Nat} {k nf : Nat} {F : Int → Option Value} {U : Nat → Prop} (hM : Mid w wr D r T K k nf F U) (h : Dev w p D r T) (hk : k < D.loose.length) {n : Int} (hn : D.loose[k] = n)
    {v : Value} {g : Nat} (hfr : Fr (fun k => k = r.fb ∨ k = r.lb) wr w') (mf : MapV w' r.fb (nf + 1) (putAt F n v)) (ml : MapV w' r.lb r.nl (delAt (midL D r k) n)) (hv : BytesIn w' v (D.kept K n) (some g)) (hg : wr.heap.size ≤ g) (hg2 : g < w'.heap.size) :
    Mid w w' D r T K (k + 1) (nf + 1) (putAt F n v) (fun j => U j ∨ j = g) := by
  subst hn
  refine ⟨hM.fr.trans hfr (fun j hj => .inl hj), mf, ?_, by have := hM.cf; omega, ?_, ?_, ?_, ?_⟩
  · rw [← midL_next k hk]
    exact ml
  · intro m u hu
    unfold putAt at hu
    by_cases e : m = D.loose[k]
    · rw [if_pos e] at hu
      cases hu
      subst e
      rw [mid_same k hk]
      exact ⟨g, .inr rfl, hv⟩
    · rw [if_neg e] at hu
      obtain ⟨j, h1, h2⟩ := hM.atF m u hu
      rw [mid_other k hk e]
      have := hM.off h h1
      exact ⟨j, .inl h1, h2.kept fun i hi => by cases hi; exact hfr.block j (hM.ul j h1) (by simp; omega)⟩
  · intro m hm
    unfold putAt at hm
    by_cases e : m = D.loose[k]
    · rw [if_pos e] at hm; cases hm
    · rw [if_neg e] at hm
      rw [mid_other k hk e]
      exact hM.noF m hm
  · intro j hj
    rcases hj with hj | rfl
    · exact hM.uo j hj
    · exact .inr (by have := hM.fr.size; omega)
  · intro j hj
    rcases hj with hj | rfl
    · have := hM.ul j hj; have := hfr.size; omega
    · exact hg2
theorem Mid.skip {w wr w' : World} {p : Nat} {D : DS} {r : DR} {T : Nat → Prop} {K : Nat → Nat} {k nf : Nat} {F : Int → Option Value} {U : Nat → Prop} (hM : Mid w wr D r T K k nf F U) (h : Dev w p D r T) (hk : k < D.loose.length) (h0 : K k = 0)
    (hfr : Fr (fun k => k = r.fb ∨ k = r.lb) wr w') (mf : MapV w' r.fb nf F) (ml : MapV w' r.lb r.nl (delAt (midL D r k) D.loose[k])) :
    Mid w w' D r T K (k + 1) nf F U := by
  have hs : ∀ m, D.mid K (k + 1) m = D.mid K k m := fun m => by
    by_cases e : m = D.loose[k]
    · subst e
      rw [mid_same k hk]
      unfold DS.mid DS.kept
      rw [if_neg (at_new h.ok.once k hk), idx_of_at h.ok.once k hk, h0]
      rfl
    · exact mid_other k hk e
  refine ⟨hM.fr.trans hfr (fun j hj => .inl hj), mf, ?_, by have := hM.cf; omega, ?_, ?_, hM.uo, ?_⟩
  · rw [← midL_next k hk]
    exact ml
  · intro m u hu
    obtain ⟨j, h1, h2⟩ := hM.atF m u hu
    rw [hs]
    have := hM.off h h1
    exact ⟨j, h1, h2.kept fun i hi => by cases hi; exact hfr.block j (hM.ul j h1) (by simp; omega)⟩
  · intro m hm
    rw [hs]
    exact hM.noF m hm
  · intro j hj
    have := hM.ul j hj; have := hfr.size; omega
theorem midL_none {w : World} {p : Nat} {D : DS} {r : DR} {T : Nat → Prop} (h : Dev w p D r T) (n : Int) : midL D r D.loose.length n = none := by
  unfold midL
  rw [List.take_length]
  by_cases e : n ∈ D.loose
  · rw [if_pos e]
  · rw [if_neg e]
    cases hL : r.L n with
    | none => rfl
    | some v => exact absurd ((h.inL n).1 (by rw [hL]; rfl)) e
theorem set10_3 {w : World} {p : Nat} {D : DS} {r : DR} {t : TypeId} (u : Value) (h : w.heap[p]? = some (.cells (devCells D r) t (0, 0))) :
    (w.setCell ⟨p, 3, none⟩ u).heap[p]? = some (.cells (devCells D { r with ov := u }) t (0, 0)) := by
  simp [World.setCell, Array.getElem?_modify, h, devCells]
theorem Mid.done {w wr : World} {p : Nat} {D : DS} {r : DR} {T : Nat → Prop} {K : Nat → Nat} {nf : Nat} {F : Int → Option Value} {U : Nat → Prop} (hM : Mid w wr D r T K D.loose.length nf F U) (h : Dev w p D r T) (hK : ∀ i, K i ≤ 512) :
    ∃ r' U', Dev (wr.setCell ⟨p, 3, none⟩ (.slice none 0 0)) p (D.settle K) r' U' ∧ Fr (Mine p r) w (wr.setCell ⟨p, 3, none⟩ (.slice none 0 0)) ∧ Near' (Mine p r) (Mine p r') w.heap.size ∧ Near' T U' w.heap.size := by
  have hp := lt_block h.blk
  have hpb : wr.heap[p]? = w.heap[p]? := hM.fr.block p hp (by have := h.pf; have := h.pl; simp; omega)
  have hU : ∀ k, U k → k ≠ p ∧ k ≠ r.fb ∧ k ≠ r.lb := fun k hk => by
    have h1 := hM.off h hk
    refine ⟨?_, h1.1, h1.2⟩
    rcases hM.uo k hk with e | e
    · exact (h.tt k e).2.1
    · omega
  have hset : ∀ k, k ≠ p → (wr.setCell ⟨p, 3, none⟩ (.slice none 0 0)).heap[k]? = wr.heap[k]? := fun k hk => Below.heap_setCell _ _ _ _ (by simpa using hk)
  have hz : (wr.setCell ⟨p, 3, none⟩ (.slice none 0 0)).heap.size = wr.heap.size := by simp [World.setCell]
  refine ⟨{ r with ov := .slice none 0 0, nf := nf, F := F, L := midL D r D.loose.length }, U, ?_, ?_, ?_, hM.uo⟩
  · exact {
      ok := ⟨h.ok.b1, h.ok.b2, DS.mid_length h.ok K hK _, DS.mid_length h.ok K hK _, fun _ _ => rfl, List.nodup_nil, h.ok.a0, h.ok.c0, by have := h.ok.c0; simpa [DS.settle] using this⟩
      blk := set10_3 (D := D) (r := r) _ (hpb.trans h.blk)
      mf := hM.mf.kept (hset _ (Ne.symm h.pf))
      ml := hM.ml.kept (hset _ (Ne.symm h.pl))
      row := World.ownsRow_nil _ _ _ _
      arm := h.arm
      rm := h.rm
      rt := h.rt
      ry := h.ry
      ra := h.ra
      cf := by have h1 := hM.cf; have h2 := h.cf; simp [DS.settle]; omega
      cl := h.cl
      inL := fun n => by
        show (midL D r D.loose.length n).isSome = true ↔ n ∈ ([] : List Int)
        rw [midL_none h n]
        simp
      atL := fun n v e => by
        exfalso
        have e1 : midL D r D.loose.length n = some v := e
        rw [midL_none h n] at e1
        cases e1
      atF := fun n v e => by
        obtain ⟨g, h1, h2⟩ := hM.atF n v e
        exact ⟨g, h1, h2.kept fun k hk => by cases hk; exact hset g (hU g h1).1⟩
      noF := hM.noF
      inB := fun n hn => by cases hn
      pf := h.pf
      pl := h.pl
      fl := h.fl
      po := fun k hk => by cases hk
      tt := fun k hk => ⟨by rw [hz]; exact hM.ul k hk, (hU k hk).1, (hU k hk).2.1, (hU k hk).2.2, fun e => by cases e⟩ }
  · refine ⟨hM.fr.os, hM.fr.tape, hM.fr.output, by rw [hz]; exact hM.fr.size, fun k hk hn => ?_⟩
    rw [hset k (fun e => hn (.inl e))]
    exact hM.fr.block k hk (fun e => hn (by rcases e with e | e; exact .inr (.inl e); exact .inr (.inr (.inl e))))
  · intro k hk
    rcases hk with e | e | e | e
    · exact .inl (.inl e)
    · exact .inl (.inr (.inl e))
    · exact .inl (.inr (.inr (.inl e)))
    · cases e

/-- Where the rest of a slice lies: a cut at the very end does not move. -/
def cutOff (o cap x : Nat) : Nat := if cap = x then o else o + x
theorem cut_addr (g o cap x : Nat) : Hid ((if cap = x then some (⟨g, o, none⟩ : Addr) else some ⟨g, o + x, none⟩) = some ⟨g, cutOff o cap x, none⟩) := by
  show _ = _
  unfold cutOff
  split <;> rfl
theorem cut_cells {w : World} {g o cap x : Nat} {L : List UInt8} (h : ∀ j u, (bc L)[j]? = some u → w.cell? ⟨g, o + j, none⟩ = some u) (hl : L.length = 512) (hc : 512 ≤ cap) : ∀ j u, (bc (L.drop x))[j]? = some u → w.cell? ⟨g, cutOff o cap x + j, none⟩ = some u := by
  intro j u hu
  have h1 := bc_get hu
  rw [List.length_drop, hl] at h1
  have h2 := h (x + j) u (bc_drop hu)
  unfold cutOff
  rw [if_neg (by omega), Nat.add_assoc]
  exact h2

theorem mid_put_end {w w1 w2 w3 w4 w5 : World} {p : Nat} {D : DS} {r : DR} {T : Nat → Prop} {K : Nat → Nat} {k nf x g3 cap3 : Nat} {F : Int → Option Value} {U : Nat → Prop} {o : Obj} (hM : Mid w w1 D r T K k nf F U) (h : Dev w p D r T) (hk5 : k < D.loose.length) {n : Int} (hnn : D.loose[k] = n)
    (HK : D.kept K n = (D.nw n).take x ++ (D.fl n).drop x) (Hl : ((D.nw n).take x ++ (D.fl n).drop x).length = 512) (hbel2 : Below w1.drew.heap.size w1.drew w2) (hbel3 : Below (w2.alloc o).heap.size (w2.alloc o) w3)
    (hb13 : ∀ j, j < w1.heap.size → w3.heap[j]? = w1.heap[j]?) (hM13 : w1.heap.size ≤ w3.heap.size) (hg3 : (w2.alloc o).heap.size ≤ g3) (ho3 : w3.ownsRow (w2.alloc o).heap.size 5 1 (.slice (some ⟨g3, 0, none⟩) 512 cap3) 512 (bc ((D.nw n).take x ++ (D.fl n).drop x)))
    (hm4 : MapV w4 r.fb (nf + 1) (putAt F n (.slice (some ⟨g3, 0, none⟩) 512 cap3))) (hgr4 : w3.grownBy w4 (some r.fb)) (hm5 : MapV w5 r.lb r.nl (delAt (midL D r k) n)) (hgr5 : w4.grownBy w5 (some r.lb)) :
    Mid w w5 D r T K (k + 1) (nf + 1) (putAt F n (.slice (some ⟨g3, 0, none⟩) 512 cap3)) (fun j => U j ∨ j = g3) := by
  have e1 : w1.drew.heap.size = w1.heap.size := rfl
  have z2 := hbel2.size
  have z3 := hbel3.size
  have z4 := hgr4.size
  have z5 := hgr5.size
  have hf := hM.mf.lt
  have hl := hM.ml.lt
  simp at z3 hg3
  have hg3l : g3 < w3.heap.size := (ho3.lt g3 rfl).2
  have hblk : ∀ j, j < w3.heap.size → j ≠ r.fb → j ≠ r.lb → w5.heap[j]? = w3.heap[j]? := fun j hj h1 h2 => (hgr5.block j (by omega) (fun e => by cases e; exact h2 rfl)).trans (hgr4.block j hj (fun e => by cases e; exact h1 rfl))
  have hv3 : BytesIn w3 (.slice (some ⟨g3, 0, none⟩) 512 cap3) (D.kept K n) (some g3) := by
    rw [HK]
    have ho : w3.ownsRow (w2.alloc o).heap.size 5 1 (.slice (some ⟨g3, 0, none⟩) 512 cap3) ((D.nw n).take x ++ (D.fl n).drop x).length (bc ((D.nw n).take x ++ (D.fl n).drop x)) := by rw [Hl]; exact ho3
    exact own_bytes ho
  refine hM.put h hk5 hnn ⟨hgr5.os.trans (hgr4.os.trans (hbel3.os.trans hbel2.os)), hgr5.tape.trans (hgr4.tape.trans (hbel3.tape.trans hbel2.tape)), hgr5.output.trans (hgr4.output.trans (hbel3.output.trans hbel2.output)), by omega, fun j hj hn => ?_⟩ (hm4.kept (hgr5.block _ (by omega) (by simpa using h.fl))) hm5
    (hv3.kept fun j e => by cases e; exact hblk g3 hg3l (by omega) (by omega)) (by omega) (by omega)
  rw [hblk j (by omega) (fun e => hn (.inl e)) (fun e => hn (.inr e))]
  exact hb13 j hj

set_option maxHeartbeats 4000000 in
set_option maxRecDepth 100000 in
theorem settle_calls (w : World) (p : Nat) (D : DS) (r : DR) (T : Nat → Prop) (h : Dev w p D r T) (fn : Nat) (caps : Array Value) (K : Nat → Nat) (hK : ∀ i, K i ≤ 512) (hcl : D.calls ≤ 1000000) (hent : ∀ (args : Array Value) (w : World), (callFunc fn args).run Try.prog w = .ok (.enter fn args) w)
    (hcall : ∀ (i : Nat) (wr : World), i < D.loose.length → Fr (fun k => k = r.fb ∨ k = r.lb) w wr → Calls Try.prog fn (#[.int .i64 (i : Int)] ++ caps) wr fun e w' => e = .returned (.int .i64 (K i : Int)) ∧ w' = wr) :
    Calls Try.prog 37 #[.pointer (some ⟨p, 0, none⟩), .func (.func fn) #[] caps] w fun e w' => e = .returned (.tuple #[]) ∧ ∃ r' U, Dev w' p (D.settle K) r' U ∧ Fr (Mine p r) w w' ∧ Near' (Mine p r) (Mine p r') w.heap.size ∧ Near' T U w.heap.size := by
  obtain ⟨c0, c1, c2, c3, _⟩ := cell10 h.blk
  obtain ⟨a, c, e⟩ := own_form h.row
  rw [e] at c3
  go_enter Try.func37, Try.ntmps37
  go_wp2
  go_loopw [12] (fun i wr => ∃ (k : Nat) (nf : Nat) (F : Int → Option Value) (U : Nat → Prop), k ≤ D.loose.length ∧ i = .int .i64 (k : Int) ∧ Mid w wr D r T K k nf F U)
    (fun i _ => D.loose.length - (intOf i).toNat)
  case atStart => exact ⟨0, r.nf, r.F, T, Nat.zero_le _, rfl, Mid.start h⟩
  case round =>
    obtain ⟨k, nf, F, U, hk, rfl, hM⟩ := hrel
    by_cases hk5 : k < D.loose.length
    · have hki : (k : Int) < (D.loose.length : Int) := by omega
      have hkb : (k : Int) < 1000001 := by have := h.ok.lc; omega
      obtain ⟨g, rfl⟩ : ∃ g, a = some ⟨g, 0, none⟩ := by
        rcases h.row.2 with ⟨_, e2⟩ | ⟨g', cap', cur, e1, _⟩
        · omega
        · rw [e] at e1; cases e1; exact ⟨g', rfl⟩
      have hcell : wr.cell? ⟨g, k, none⟩ = some (.int .i64 D.loose[k]) := by
        have h1 := h.row.cells (g := g) (by rw [e]; rfl) k _ (ic_at D.loose k hk5)
        rw [add_lit, Nat.zero_add] at h1
        have h2 := h.po g (by rw [e]; rfl)
        rw [← h1]
        refine World.cell?_of_block (hM.fr.block g ?_ (by simp [h2.2.1, h2.2.2]))
        exact (h.row.lt g (by rw [e]; rfl)).2
      have hcc := hcall k wr hk5 hM.fr
      have hnew := at_new h.ok.once k hk5
      have hmem : D.loose[k] ∈ D.loose := List.getElem_mem hk5
      have hidx := idx_of_at h.ok.once k hk5
      have hb1 : wr.cell? ⟨p, 1, none⟩ = some (.map (some r.fb)) := by
        rw [← c1]
        exact World.cell?_of_block (hM.fr.block p (lt_block h.blk) (by have := h.pf; have := h.pl; simp; omega))
      have hb2 : wr.cell? ⟨p, 2, none⟩ = some (.map (some r.lb)) := by
        rw [← c2]
        exact World.cell?_of_block (hM.fr.block p (lt_block h.blk) (by have := h.pf; have := h.pl; simp; omega))
      have hnB := h.inB _ hmem
      have hb3 := h.ok.b2
      have hn64 : I64 D.loose[k] := ⟨by omega, by omega⟩
      obtain ⟨lv, hlv⟩ := Option.isSome_iff_exists.1 ((h.inL _).2 hmem)
      obtain ⟨g1, hT1, hB1⟩ := h.atL _ lv hlv
      have hB1' : BytesIn wr lv (D.nw D.loose[k]) (some g1) := hB1.kept fun j e => by
        cases e
        have := h.tt g1 hT1
        exact hM.fr.block g1 this.1 (by simp; omega)
      obtain ⟨o1, cap1, rfl, hc1, hg1, hcs1⟩ := hB1'.at512 (h.ok.ln _)
      have hml : midL D r k D.loose[k] = some (.slice (some ⟨g1, o1, none⟩) 512 cap1) := by unfold midL; rw [if_neg hnew]; exact hlv
      have hlk : (Instr.lookup 56 (.map (some r.lb)) (.int .i64 D.loose[k]) false).run Try.prog wr = .ok (.slice (some ⟨g1, o1, none⟩) 512 cap1) wr := by rw [hM.ml.look1 hn64, hml]; rfl
      have hplt := lt_same (lt_block h.blk) (hM.fr.block p (lt_block h.blk) (by have := h.pf; have := h.pl; simp; omega))
      have hllt := hM.ml.lt
      have hflt := hM.mf.lt
      have hS : ∀ w' : World, w'.heap[p]? = wr.heap[p]? → w'.heap[r.lb]? = wr.heap[r.lb]? → (w'.cell? ⟨p, 1, none⟩ = some (.map (some r.fb)) ∧ w'.cell? ⟨p, 2, none⟩ = some (.map (some r.lb)) ∧ (Instr.lookup 56 (.map (some r.lb)) (.int .i64 D.loose[k]) false).run Try.prog w' = .ok (.slice (some ⟨g1, o1, none⟩) 512 cap1) w') := fun w' e1 e2 =>
        ⟨(World.cell?_of_block e1).trans hb1, (World.cell?_of_block e1).trans hb2, by rw [(hM.ml.kept e2).look1 hn64, hml]; rfl⟩
      by_cases hx0 : 0 < K k
      · have hx1 := hK k
        have hkept : D.kept K D.loose[k] = (D.nw D.loose[k]).take (K k) ++ (D.fl D.loose[k]).drop (K k) := by unfold DS.kept; rw [hidx]
        have hmid : D.mid K k D.loose[k] = D.fl D.loose[k] := by unfold DS.mid; rw [if_neg hnew]
        have HK : Hid (D.kept K D.loose[k] = (D.nw D.loose[k]).take (K k) ++ (D.fl D.loose[k]).drop (K k)) := hkept
        have Hmid : Hid (D.mid K k D.loose[k] = D.fl D.loose[k]) := hmid
        generalize hx : K k = x at *
        generalize hnn : D.loose[k] = n at *
        have hi1 : (0 : Int) ≤ (x : Int) := by omega
        have hi2 : (x : Int) ≤ 512 := by omega
        have hi3 : (x : Int) ≤ (cap1 : Int) := by omega
        have hi4 : (0 : Int) < (x : Int) := by omega
        have hi5 : (512 : Int) ≤ (cap1 : Int) := by omega
        have HS : Hid (∀ w' : World, w'.heap[p]? = wr.heap[p]? → w'.heap[r.lb]? = wr.heap[r.lb]? → (w'.cell? ⟨p, 1, none⟩ = some (.map (some r.fb)) ∧ w'.cell? ⟨p, 2, none⟩ = some (.map (some r.lb)) ∧ (Instr.lookup 56 (.map (some r.lb)) (.int .i64 n) false).run Try.prog w' = .ok (.slice (some ⟨g1, o1, none⟩) 512 cap1) w')) := hS
        have hl1 : ((D.nw n).take x).length = x := by rw [List.length_take, h.ok.ln]; omega
        have hl2 : ((D.fl n).drop x).length = 512 - x := by rw [List.length_drop, h.ok.lf]
        have Hl1 : Hid (((D.nw n).take x).length = x) := hl1
        have Hl2 : Hid (((D.fl n).drop x).length = 512 - x) := hl2
        have Hl3 : Hid (((D.nw n).take x ++ (D.fl n).drop x).length = 512) := by show _ = _; rw [List.length_append, hl1, hl2]; omega
        have hnfm : nf < maxLen := by have h1 := hM.cf; have h2 := h.cf; unfold maxLen; omega
        clear hkept hmid hS hl1 hl2
        go_wp2_with (refine hcc.mono ?_; rintro e w1 ⟨rfl, rfl⟩)
        go_region_held3 (fun w' => w'.cell? ⟨p, 1, none⟩ = some (.map (some r.fb)) ∧ w'.cell? ⟨p, 2, none⟩ = some (.map (some r.lb)) ∧ (Instr.lookup 56 (.map (some r.lb)) (.int .i64 n) false).run Try.prog w' = .ok (.slice (some ⟨g1, o1, none⟩) 512 cap1) w')
          (first | exact HS.out _ rfl rfl | exact d2 | exact d3 _ | exact d4 | exact d5 | fail)
          (first
            | (go_at_call 49; refine (lasting_gen w1.drew p r.fb nf F U n (D.mid K k n) hn64 hb1 (hM.mf.kept rfl) (DS.mid_length h.ok K hK k n) (hM.noF n) (hM.atF n)).mono ?_; rintro e w2 ⟨g2, o2, cap2, rfl, hc2, hu2, hg2, hcs2, hbel2⟩; have hi6 : (x : Int) ≤ (cap2 : Int) := (by omega); have hi7 : (512 : Int) ≤ (cap2 : Int) := (by omega); have HC2 : Hid (∀ j u, (bc (D.fl n))[j]? = some u → w2.cell? ⟨g2, o2 + j, none⟩ = some u) := (by show _; rw [← Hmid.out]; exact hcs2); clear hcs2; have d2 := HS.out w2 (hbel2.block p hplt) (hbel2.block r.lb hllt); have d3 := fun o => HS.out (w2.alloc o) ((Below.heap_alloc w2 o p (Nat.lt_of_lt_of_le hplt hbel2.size)).trans (hbel2.block p hplt)) ((Below.heap_alloc w2 o r.lb (Nat.lt_of_lt_of_le hllt hbel2.size)).trans (hbel2.block r.lb hllt)); have hE := cut_addr g2 o2 cap2 x)
            | (go_at_call 48; rw [hE.out]; refine (concat_calls _ w2.heap.size g1 o1 cap1 g2 (cutOff o2 cap2 x) (cap2 - x) x (512 - x) ((D.nw n).take x) ((D.fl n).drop x) Hl1.out Hl2.out (heap_alloc_new w2 _) (fun j u hu => Lib.cell?_alloc_some _ (below_cell hbel2 rfl (hcs1 j u (bc_take hu)))) (fun j u hu => Lib.cell?_alloc_some _ (cut_cells HC2.out (h.ok.lf n) hc2 j u hu)) hx0 (by omega) (by omega)).mono ?_; rintro e w3 ⟨g3, cap3, he3, hg3, ho3, hbel3⟩; rw [Hl3.out] at he3 ho3; subst he3; have hb13 : ∀ j, j < w1.heap.size → w3.heap[j]? = w1.heap[j]? := fun j hj => (hbel3.block j (by have h1 := hbel2.size; have h3 : w1.drew.heap.size = w1.heap.size := rfl; simp; omega)).trans ((Below.heap_alloc w2 _ j (Nat.lt_of_lt_of_le hj hbel2.size)).trans (hbel2.block j hj)); have hM13 : w1.heap.size ≤ w3.heap.size := (by have h1 := hbel2.size; have h2 := hbel3.size; simp at h2; have h3 : w1.drew.heap.size = w1.heap.size := rfl; omega); have d4 := HS.out w3 (hb13 p hplt) (hb13 r.lb hllt); obtain ⟨w4, hrun4, hm4, hgr4⟩ := MapV.store (hM.mf.kept (hb13 r.fb hflt)) hnfm hn64 (.slice (some ⟨g3, 0, none⟩) 512 cap3); have d5 := HS.out w4 ((hgr4.block p (Nat.lt_of_lt_of_le hplt hM13) (by simpa using h.pf)).trans (hb13 p hplt)) ((hgr4.block r.lb (Nat.lt_of_lt_of_le hllt hM13) (by simpa using Ne.symm h.fl)).trans (hb13 r.lb hllt))))
        all_goals
          obtain ⟨z1, z2, z3⟩ := d5
          have hm4l : MapV w4 r.lb r.nl (midL D r k) := hM.ml.kept ((hgr4.block r.lb (Nat.lt_of_lt_of_le hllt hM13) (by simpa using Ne.symm h.fl)).trans (hb13 r.lb hllt))
          clear d2 d3 d4 z1 z3 hrun4
          go_wp2_with (at_delete; refine wpList_delete_v _ rfl _ _ rfl r.lb r.nl (midL D r k) rfl hm4l n hn64 rfl ?_; intro w5 hm5 hgr5)
          go_roundw
        case rel =>
          refine ⟨k + 1, nf + 1, putAt F n (.slice (some ⟨g3, 0, none⟩) 512 cap3), fun j => U j ∨ j = g3, by omega, by go_num, ?_⟩
          exact mid_put_end hM h hk5 hnn HK.out Hl3.out hbel2 hbel3 hb13 hM13 hg3 ho3 hm4 hgr4 hm5 hgr5
        case measure => simp [intOf]; omega
        case rel =>
          refine ⟨k + 1, nf + 1, putAt F n (.slice (some ⟨g3, 0, none⟩) 512 cap3), fun j => U j ∨ j = g3, by omega, by go_num, ?_⟩
          exact mid_put_end hM h hk5 hnn HK.out Hl3.out hbel2 hbel3 hb13 hM13 hg3 ho3 hm4 hgr4 hm5 hgr5
        case measure => simp [intOf]; omega
      · have hx0' : K k = 0 := by omega
        have HK0 : Hid (K k = 0) := hx0'
        rw [hx0'] at hcc
        clear hx0 hS
        generalize hnn : D.loose[k] = n at *
        go_wp2_with (first | (refine hcc.mono ?_; rintro e w1 ⟨rfl, rfl⟩) | (at_delete; refine wpList_delete_v _ rfl _ _ rfl r.lb r.nl (midL D r k) rfl hM.ml n hn64 rfl ?_; intro w5 hm5 hgr5))
        go_roundw
        case rel =>
          refine ⟨k + 1, nf, F, U, by omega, by go_num, ?_⟩
          refine hM.skip h hk5 HK0.out ⟨hgr5.os, hgr5.tape, hgr5.output, hgr5.size, fun j hj hn => hgr5.block j hj (fun e => by cases e; exact hn (.inr rfl))⟩ (hM.mf.kept (hgr5.block _ hM.mf.lt (by simpa using h.fl))) (by rw [hnn]; exact hm5)
        case measure => simp [intOf]; omega
    · have ek : k = D.loose.length := by omega
      subst ek
      have hdone := hM.done h hK
      have hbk : wr.heap[p]? = some (.cells (devCells D r) 60 (0, 0)) := (hM.fr.block p (lt_block h.blk) (by have := h.pf; have := h.pl; simp; omega)).trans h.blk
      obtain ⟨k0, k1, k2, k3, _⟩ := cell10 hbk
      have kf := free10 hbk 3
      clear hM h hbk
      go_wp2
      go_end0
      exact ⟨rfl, hdone⟩
end Go.Proofs.Ytmemhckkfhlnmaa
