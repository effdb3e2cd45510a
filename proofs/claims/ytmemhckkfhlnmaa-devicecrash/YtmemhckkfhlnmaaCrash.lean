/- DeviceCrash's walk: of what is loose just what is named is kept, and one block in part. -/
import Derived.Test.YtmemhckkfhlnmaaCrashL
import Derived.Deep.DeepCutAuto
import Derived.Deep.QuietTactic
import Derived.BigQuiet
namespace Go.Proofs.Ytmemhckkfhlnmaa
set_option linter.unusedVariables false
open Go.RowKit
attribute [local go_sem ↓] Go.wp_at_zero Go.wp_at_succ

theorem and65535 (n : Int) : bits .and .i64 n 65535 = n % 65536 := by
  show IntKind.i64.wrap ((BitVec.ofInt 64 n &&& BitVec.ofInt 64 ((65535 : Nat) : Int)).toNat : Nat) = n % 65536
  rw [and_ones n 65535 16 (by decide), IntKind.wrap_i64]
  omega
theorem and63 (n : Int) : bits .and .i64 n 63 = n % 64 := by
  show IntKind.i64.wrap ((BitVec.ofInt 64 n &&& BitVec.ofInt 64 ((63 : Nat) : Int)).toNat : Nat) = n % 64
  rw [and_ones n 63 6 (by decide), IntKind.wrap_i64]
  omega
/-- The blocks that the statement itself writes. -/
def Own (f nn : Nat) (ov : Value) : Nat → Prop := fun k => k = f ∨ k = nn ∨ ov.ownBlock = some k
/-- All that the statement holds. -/
structure CS (w wr : World) (p B f nn g0 : Nat) (D A : DS) (fs ns : Nat → Int) (ov : Value) : Prop where
  dx : DX wr p A B (Own f nn ov)
  af : Arr wr f fs
  an : Arr wr nn ns
  row : wr.ownsRow g0 3 1 ov D.loose.length (ic D.loose)
  bel : Below w.heap.size w wr
theorem CS.later {w wr w' : World} {p B f nn g0 : Nat} {D A : DS} {fs ns : Nat → Int} {ov : Value} (h : CS w wr p B f nn g0 D A fs ns ov) (hb : Below wr.heap.size wr w') : CS w w' p B f nn g0 D A fs ns ov :=
  ⟨h.dx.touch hb.size (fun k hk _ => hb.block k hk) (fun k hk => .inl hk), h.af.kept (hb.block _ h.af.lt), h.an.kept (hb.block _ h.an.lt), row_kept h.row (fun k hk => hb.block k (h.row.lt k hk).2), h.bel.trans (hb.mono h.bel.size)⟩
theorem CS.did {w wr w' : World} {p B f nn g0 : Nat} {D A A' : DS} {fs ns : Nat → Int} {ov : Value} (h : CS w wr p B f nn g0 D A fs ns ov) (hB : w.heap.size ≤ B) (hx : DX w' p A' B (Own f nn ov)) (hb : Below B wr w') (hk : ∀ k, Own f nn ov k → w'.heap[k]? = wr.heap[k]?) : CS w w' p B f nn g0 D A' fs ns ov :=
  ⟨hx, h.af.kept (hk f (.inl rfl)), h.an.kept (hk nn (.inr (.inl rfl))), row_kept h.row (fun k e => hk k (.inr (.inr e))), h.bel.trans (hb.mono hB)⟩
/-- A store into the array of the newest numbers. -/
theorem CS.put {w wr : World} {p B f nn g0 : Nat} {D A : DS} {fs ns : Nat → Int} {ov : Value} (h : CS w wr p B f nn g0 D A fs ns ov) (hfn : f < nn) (hng : nn < g0) (hw : w.heap.size ≤ nn) (j : Nat) (hj : j < 8) (c : Int) : CS w (wr.setCell ⟨nn, j, none⟩ (.int .i64 c)) p B f nn g0 D A fs (fun i => if i = j then c else ns i) ov := by
  have hset : ∀ k, k ≠ nn → (wr.setCell ⟨nn, j, none⟩ (.int .i64 c)).heap[k]? = wr.heap[k]? := fun k hk => Below.heap_setCell _ _ _ _ (by simpa using hk)
  exact ⟨h.dx.touch (by rw [set_size]; exact Nat.le_refl _) (fun k _ hn => hset k (fun e => hn (.inr (.inl e)))) (fun k hk => .inl hk), h.af.kept (hset f (by omega)), h.an.set j hj c, row_kept h.row (fun k e => hset k (by have := (h.row.lt k e).1; omega)), below_set h.bel hw _⟩
/-- The flushed numbers are the newest ones; nothing is in order. -/
def set8 (w : World) (f : Nat) (v : Nat → Int) : World := (((((((w.setCell ⟨f, 0, none⟩ (.int .i64 (v 0))).setCell ⟨f, 1, none⟩ (.int .i64 (v 1))).setCell ⟨f, 2, none⟩ (.int .i64 (v 2))).setCell ⟨f, 3, none⟩ (.int .i64 (v 3))).setCell ⟨f, 4, none⟩ (.int .i64 (v 4))).setCell ⟨f, 5, none⟩ (.int .i64 (v 5))).setCell ⟨f, 6, none⟩ (.int .i64 (v 6))).setCell ⟨f, 7, none⟩ (.int .i64 (v 7))
theorem set8_at {w : World} {f : Nat} {u : Nat → Int} (h : Arr w f u) (v : Nat → Int) : Arr (set8 w f v) f v := by
  unfold Arr set8
  simp [World.setCell, Array.getElem?_modify, show w.heap[f]? = _ from h, arr8]
theorem set8_other (w : World) (f : Nat) (v : Nat → Int) (k : Nat) (hk : k ≠ f) : (set8 w f v).heap[k]? = w.heap[k]? := by
  unfold set8
  rw [Below.heap_setCell _ _ _ _ (by simpa using hk), Below.heap_setCell _ _ _ _ (by simpa using hk), Below.heap_setCell _ _ _ _ (by simpa using hk), Below.heap_setCell _ _ _ _ (by simpa using hk), Below.heap_setCell _ _ _ _ (by simpa using hk), Below.heap_setCell _ _ _ _ (by simpa using hk), Below.heap_setCell _ _ _ _ (by simpa using hk), Below.heap_setCell _ _ _ _ (by simpa using hk)]
theorem set8_size (w : World) (f : Nat) (v : Nat → Int) : (set8 w f v).heap.size = w.heap.size := by
  unfold set8
  simp only [set_size]
theorem cell_os (w : World) (a : Addr) (u : Value) : (w.setCell a u).os = w.os ∧ (w.setCell a u).tape = w.tape ∧ (w.setCell a u).output = w.output := ⟨rfl, rfl, rfl⟩
theorem set8_os (w : World) (f : Nat) (v : Nat → Int) : (set8 w f v).os = w.os ∧ (set8 w f v).tape = w.tape ∧ (set8 w f v).output = w.output := by
  unfold set8
  simp only [cell_os, and_self]
theorem CS.flushed {w wr : World} {p B f nn g0 : Nat} {D D' A : DS} {fs ns : Nat → Int} {ov : Value} (h : CS w wr p B f nn g0 D A fs ns ov) (hfn : f < nn) (hw : w.heap.size ≤ f) (hl : D'.loose = []) : CS w (set8 wr f ns) p B f nn g0 D' A ns ns (.slice none 0 0) := by
  have hs := set8_size wr f ns
  obtain ⟨o1, o2, o3⟩ := set8_os wr f ns
  have ho : ∀ k, k ≠ f → (set8 wr f ns).heap[k]? = wr.heap[k]? := fun k hk => set8_other wr f ns k hk
  have ha := set8_at h.af ns
  generalize set8 wr f ns = W at *
  have hdx : DX W p A B (Own f nn (.slice none 0 0)) := h.dx.touch (Nat.le_of_eq hs.symm) (fun k _ hn => ho k (fun e => hn (.inl e))) (fun k hk => .inl (by
    rcases hk with e | e | e
    · exact .inl e
    · exact .inr (.inl e)
    · cases e))
  have hrow : W.ownsRow g0 3 1 (.slice none 0 0) D'.loose.length (ic D'.loose) := by rw [hl]; exact World.ownsRow_nil _ _ _ _
  have hbel : Below w.heap.size w W := ⟨o1.trans h.bel.os, o2.trans h.bel.tape, o3.trans h.bel.output, by rw [hs]; exact h.bel.size, fun k hk => by rw [ho k (by omega)]; exact h.bel.block k hk⟩
  exact ⟨hdx, ha, h.an.kept (ho nn (by omega)), hrow, hbel⟩
/-- One more in order. -/
theorem CS.append {w wr w' : World} {p B f nn g0 g cap : Nat} {D D' A : DS} {fs ns : Nat → Int} {ov : Value} {o : Obj} {m : Int} (h : CS w wr p B f nn g0 D A fs ns ov) (hng : f < g0 ∧ nn < g0) (hw : w.heap.size ≤ g0) (hg0 : g0 ≤ wr.heap.size) (hl : D'.loose = D.loose ++ [m])
    (hown : w'.ownsRow g0 3 1 (.slice (some ⟨g, 0, none⟩) (D.loose.length + 1) cap) (D.loose.length + 1) (ic D.loose ++ [.int .i64 m])) (hgrow : (wr.alloc o).grownBy w' ov.ownBlock) (hat : ov.ownBlock = some g ∨ g = (wr.alloc o).heap.size) :
    CS w w' p B f nn g0 D' A fs ns (.slice (some ⟨g, 0, none⟩) (D.loose.length + 1) cap) := by
  have hz : (wr.alloc o).heap.size = wr.heap.size + 1 := by simp
  have hgs := hgrow.size
  have hlt := (hown.lt g rfl).2
  have hb : ∀ k, k < wr.heap.size → ov.ownBlock ≠ some k → w'.heap[k]? = wr.heap[k]? := fun k hk hn => (hgrow.block k (by omega) (fun e => hn e.symm)).trans (Below.heap_alloc wr o k hk)
  refine ⟨h.dx.touch (by omega) (fun k hk hn => hb k hk (fun e => hn (.inr (.inr e)))) (fun k hk => ?_), h.af.kept (hb f h.af.lt (fun e => by have := (h.row.lt f e).1; omega)), h.an.kept (hb nn h.an.lt (fun e => by have := (h.row.lt nn e).1; omega)), ?_, ⟨hgrow.os.trans h.bel.os, hgrow.tape.trans h.bel.tape, hgrow.output.trans h.bel.output, by have := h.bel.size; omega, fun k hk => ?_⟩⟩
  · rcases hk with e | e | e
    · exact .inl (.inl e)
    · exact .inl (.inr (.inl e))
    · have e' : some g = some k := e
      cases e'
      rcases hat with e2 | e2
      · exact .inl (.inr (.inr e2))
      · exact .inr (by omega)
  · rw [hl]
    have e2 : ic (D.loose ++ [m]) = ic D.loose ++ [.int .i64 m] := by simp [ic]
    rw [e2, List.length_append, List.length_singleton]
    exact hown
  · have hs := h.bel.size
    rw [hb k (by omega) (fun e => by have := (h.row.lt k e).1; omega)]
    exact h.bel.block k hk
theorem CS.at_row {w wr : World} {p B f nn g0 : Nat} {D A : DS} {fs ns : Nat → Int} {ov : Value} (h : CS w wr p B f nn g0 D A fs ns ov) : ∃ a c, ov = .slice a D.loose.length c ∧ ∀ j, (hj : j < D.loose.length) → ∃ g, a = some ⟨g, 0, none⟩ ∧ wr.cell? ⟨g, j, none⟩ = some (.int .i64 D.loose[j]) := by
  obtain ⟨a, c, e⟩ := own_form h.row
  refine ⟨a, c, e, fun j hj => ?_⟩
  rcases h.row.2 with ⟨_, e2⟩ | ⟨g', cap', cur, e1, _⟩
  · omega
  · rw [e] at e1
    cases e1
    have h1 := h.row.cells (g := g') (by rw [e]; rfl) j _ (ic_at D.loose j hj)
    rw [add_lit, Nat.zero_add] at h1
    exact ⟨g', rfl, h1⟩

theorem crash_up {D : DS} (h : D.down = false) (mask torn bytes : Int) : (D.crash mask torn bytes).down = true ∧ (D.crash mask torn bytes).calls = D.calls ∧ (D.crash mask torn bytes).blocks = D.blocks := by
  unfold DS.crash
  rw [if_neg (by rw [h]; simp)]
  exact ⟨rfl, rfl, rfl⟩
theorem crash_dn {D : DS} (h : D.down = true) (mask torn bytes : Int) : D.crash mask torn bytes = D := by
  unfold DS.crash
  rw [if_pos h]
theorem tick_dn {D : DS} (h : D.down = true) : D.tick = (D, false) := by
  unfold DS.tick
  rw [if_pos h]
theorem flush_dn {D : DS} (h : D.down = true) : D.flush = (D, 11) := by
  unfold DS.flush
  rw [tick_dn h]
  rfl
theorem write_dn {D : DS} (h : D.down = true) (n : Int) (b : List UInt8) : D.write n b = (D, 11) := by
  unfold DS.write
  rw [tick_dn h]
  rfl
theorem read_up {D : DS} (h : D.down = false) (hb : D.blocks = 8) (i : Int) (h0 : 0 ≤ i) (h1 : i < 8) : D.read i = (D.nw i, 0) := by
  unfold DS.read
  rw [if_neg (by rw [h]; simp), if_neg (by omega)]
theorem crash_nw {D : DS} (h : D.down = false) (mask torn bytes : Int) : (D.crash mask torn bytes).nw = D.settled mask torn bytes := by
  unfold DS.crash
  rw [if_neg (by rw [h]; simp)]
theorem crash_loose {D : DS} (h : D.down = false) (mask torn bytes : Int) : (D.crash mask torn bytes).loose = [] := by
  unfold DS.crash
  rw [if_neg (by rw [h]; simp)]
theorem CS.cell_row {w wr : World} {p B f nn g0 c : Nat} {D A : DS} {fs ns : Nat → Int} {oa : Option Addr} (h : CS w wr p B f nn g0 D A fs ns (.slice oa D.loose.length c)) (j : Nat) (hj : j < D.loose.length) : ∃ g, oa = some ⟨g, 0, none⟩ ∧ wr.cell? ⟨g, j, none⟩ = some (.int .i64 D.loose[j]) := by
  obtain ⟨a, c', e, hr⟩ := h.at_row
  cases e
  exact hr j hj

set_option maxHeartbeats 16000000 in
set_option maxRecDepth 100000 in
theorem crash_walk (w : World) (a : Option Addr) (len cap : Nat) (os : Nat → OD) (mask torn bytes : Int) (hlen : len ≤ maxLen) (hos : OpsIn w a len os) (hm : 0 ≤ mask ∧ mask ≤ 18446744073709551615) :
    Calls Try.prog 4 #[.slice a len cap, .int .u64 mask, .int .i64 torn, .int .i64 bytes] w fun e w' => e = .returned (.bool true) ∧ Below w.heap.size w w' := by
  obtain ⟨i0, hi, hz0, hz1, hz2⟩ := info_parts Try.info_i64
  go_enter Try.func4, Try.ntmps4
  go_wp2_with fail
  refine (shown_calls _).mono ?_
  rintro e w0 ⟨rfl, b0⟩
  go_wp2_with fail
  refine (newQ _ 8 ⟨by omega, by omega⟩).mono ?_
  rintro e w1 ⟨rfl, h1, b1⟩
  generalize hp : w0.heap.size + 2 = p at *
  clear hp
  have hw0 := b0.size
  have B1 : Below w.heap.size w w1 := b0.trans (b1.mono b0.size)
  have hs1 := B1.size
  go_wp2_with fail
  obtain ⟨W2, hW2⟩ : ∃ W2, W2 = (w1.alloc (.cells (arr8 fun _ => 0) 37)).alloc (.cells (arr8 fun _ => 0) 37) := ⟨_, rfl⟩
  have hcs : CS w W2 p w0.heap.size w1.heap.size (w1.heap.size + 1) (w1.heap.size + 2) (DS.new 8) (DS.new 8) (fun _ => 0) (fun _ => 0) (.slice none 0 0) := by
    have hb : Below w1.heap.size w1 W2 := by rw [hW2]; exact ((Below.refl _ _).alloc (Nat.le_refl _) _).alloc (by simp) _
    have hsz : W2.heap.size = w1.heap.size + 2 := by rw [hW2]; simp
    refine ⟨DX.of_dq h1 hb (fun k hk => ?_), ?_, ?_, World.ownsRow_nil _ _ _ _, B1.trans (hb.mono hs1)⟩
    · rcases hk with e | e | e
      · omega
      · omega
      · cases e
    · unfold Arr
      rw [hW2, Below.heap_alloc _ _ _ (by simp)]
      exact heap_alloc_new _ _
    · unfold Arr
      rw [hW2]
      have := heap_alloc_new (w1.alloc (.cells (arr8 fun _ => 0) 37)) (.cells (arr8 fun _ => 0) 37)
      simpa using this
  have hg2 : w1.heap.size + 2 ≤ W2.heap.size := by rw [hW2]; simp
  unfold arr8 at hW2
  rw [← hW2]
  clear hW2 h1 b1 B1
  have hf0 : w.heap.size ≤ w1.heap.size := hs1
  generalize hF : w1.heap.size = f at *
  clear hF hs1
  go_loopw [13, 14] (fun ov i wr => ∃ (k : Nat) (D : DS) (fs ns : Nat → Int), k ≤ len ∧ k ≤ 60 ∧ i = .int .i64 (k : Int) ∧ CS w wr p w0.heap.size f (f + 1) (f + 2) D D fs ns ov ∧ Plain D k ∧ CR D fs ns ∧ f + 2 ≤ wr.heap.size)
    (fun _ i _ => len - (intOf i).toNat)
  case atStart => exact ⟨0, _, _, _, Nat.zero_le _, Nat.zero_le _, rfl, hcs, Plain.first, CR.first, hg2⟩
  case round =>
    obtain ⟨k, D, fs, ns, hk, hk60, rfl, hC, hPl, hR, hgw⟩ := hrel
    clear hcs hg2
    have hkb : (k : Int) < 1000 := by omega
    have hcl := hPl.cl
    have hlc := hPl.ok.lc
    by_cases hk5 : k < len ∧ k < 60
    · obtain ⟨hk5, hk6⟩ := hk5
      have hki : (k : Int) < (len : Int) := by omega
      have hki2 : (k : Int) < 60 := by omega
      obtain ⟨b, off, rfl, hbl, hall⟩ : ∃ b off, a = some ⟨b, off, none⟩ ∧ b < w.heap.size ∧ ∀ i, i < len → OpAt w b (off + i * 7) (os i) ∧ (os i).In := by
        rcases hos with h0 | h0
        · omega
        · exact h0
      obtain ⟨hat, hin⟩ := hall k hk5
      have HS : Hid (∀ w' : World, Below w.heap.size w w' → w'.cell? ⟨b, off + k * 7, none⟩ = some (.int .i64 (os k).kind) ∧ w'.cell? ⟨b, off + k * 7 + 1, none⟩ = some (.int .i64 (os k).n) ∧ w'.cell? ⟨b, off + k * 7 + 2, none⟩ = some (.int .i64 (os k).c)) := fun w' hb => ⟨(hat.below hb hbl).1, (hat.below hb hbl).2.1, (hat.below hb hbl).2.2.1⟩
      clear hat hall hos hin
      generalize (os k).kind = kd at *
      generalize (os k).n = on at *
      generalize (os k).c = oc at *
      have h7n := and7 on
      obtain ⟨kn, hkn⟩ : ∃ kn : Nat, (kn : Int) = on % 8 := ⟨(on % 8).toNat, by omega⟩
      rw [← hkn] at h7n
      have hkn8 : kn < 8 := by omega
      have hkn8i : (kn : Int) < 8 := by omega
      clear hkn
      obtain ⟨z0, z1, z2⟩ := HS.out wr hC.bel
      by_cases ek : kd = 2
      · have tk : (kd == 2) = true := by simp [ek]
        clear ek
        obtain ⟨F1, F2, F3, F4⟩ := hR.flush hPl
        go_wp2_with fail
        refine (flushX _ p _ _ _ hC.dx (by omega)).mono ?_
        rintro e w5 ⟨rfl, h5, b5, x5⟩
        rw [F1]
        have hC5 := hC.did hw0 h5 b5 x5
        have hC6 := hC5.flushed (D' := D.flush.1) (by omega) hf0 F4
        have n0 := hC5.an.cell 0 (by omega)
        have n1 := hC5.an.cell 1 (by omega)
        have n2 := hC5.an.cell 2 (by omega)
        have n3 := hC5.an.cell 3 (by omega)
        have n4 := hC5.an.cell 4 (by omega)
        have n5 := hC5.an.cell 5 (by omega)
        have n6 := hC5.an.cell 6 (by omega)
        have n7 := hC5.an.cell 7 (by omega)
        have m0 := hC5.af.cell 0 (by omega)
        have m1 := hC5.af.cell 1 (by omega)
        have m2 := hC5.af.cell 2 (by omega)
        have m3 := hC5.af.cell 3 (by omega)
        have m4 := hC5.af.cell 4 (by omega)
        have m5 := hC5.af.cell 5 (by omega)
        have m6 := hC5.af.cell 6 (by omega)
        have m7 := hC5.af.cell 7 (by omega)
        have r0 := hC5.af.free 0
        have r1 := hC5.af.free 1
        have r2 := hC5.af.free 2
        have r3 := hC5.af.free 3
        have r4 := hC5.af.free 4
        have r5 := hC5.af.free 5
        have r6 := hC5.af.free 6
        have r7 := hC5.af.free 7
        have hgz : f + 2 ≤ (set8 w5 f ns).heap.size := by rw [set8_size]; have := b5.size; omega
        unfold set8 at hC6 hgz
        clear hC5 hC h5
        go_wp2
        go_roundw
        case rel => exact ⟨k + 1, _, _, _, by omega, by omega, by go_num, hC6, ⟨F3.ok, F3.bl, F3.dn, F3.ar, by have := F3.cl; omega⟩, F2, hgz⟩
        case measure => simp [intOf]; omega
      · have tk : (kd == 2) = false := by simp [ek]
        clear ek
        have h65 := and65535 oc
        obtain ⟨xx, hxx⟩ : ∃ xx, xx = oc % 65536 := ⟨_, rfl⟩
        rw [← hxx] at h65
        have hx0 : 0 ≤ xx := by omega
        have hx1 : xx < 65536 := by omega
        clear hxx
        have HCL : Hid ((cont (1 + xx)).length = 512) := cont_length _
        obtain ⟨F1, F2, F3, F4⟩ := hR.write hPl kn hkn8 (1 + xx) (by omega)
        go_wp2_with fail
        refine (content_calls _ (1 + xx)).mono ?_
        rintro e w5 ⟨rfl, o5, b5⟩
        go_wp2_with fail
        refine (writeX wr w5 p _ _ _ kn _ (cont (1 + xx)) hC.dx b5 (made_fresh o5) (by omega) (by rw [HCL.out]; exact Nat.le_refl _) ⟨by omega, by omega⟩).mono ?_
        rintro e w6 ⟨rfl, h6, b6, x6⟩
        rw [F1]
        have hC5 := hC.later b5
        have hC6 := hC5.did hw0 h6 b6 x6
        have hC7 := hC6.put (by omega) (by omega) (by omega) kn hkn8 (1 + xx)
        have n0 := hC6.an.cell kn hkn8
        have n1 := hC6.an.free kn
        have hgz : f + 2 ≤ (w6.setCell ⟨f + 1, kn, none⟩ (.int .i64 (1 + xx))).heap.size := by rw [set_size]; have := b5.size; have := b6.size; omega
        obtain ⟨oa, oc', rfl, hrow⟩ := hC7.at_row
        clear hC5 hC6 hC h6 x6 o5
        go_wp2_with fail
        generalize hW7 : w6.setCell ⟨f + 1, kn, none⟩ (.int .i64 (1 + xx)) = W7 at *
        clear hW7
        go_loopw [17, 18] (fun v i wz => ∃ (j : Nat), j ≤ D.loose.length ∧ i = .int .i64 (j : Int) ∧ v = .bool (decide ((kn : Int) ∈ D.loose.take j)) ∧ wz = W7)
          (fun _ i _ => D.loose.length - (intOf i).toNat)
        case atStart => exact ⟨0, Nat.zero_le _, rfl, by simp, rfl⟩
        case round =>
          obtain ⟨j, hj, rfl, rfl, rfl⟩ := hrel
          have hjb : (j : Int) < 1000 := by omega
          by_cases hjl : j < D.loose.length
          · have hji : (j : Int) < (D.loose.length : Int) := by omega
            have hmt := mem_take_succ j hjl (kn : Int)
            by_cases hin : (kn : Int) ∈ D.loose.take j
            · have hd : decide ((kn : Int) ∈ D.loose.take j) = true := by simp [hin]
              have hd2 : decide ((kn : Int) ∈ D.loose.take (j + 1)) = true := by simp only [decide_eq_true_eq]; exact hmt.2 (.inl hin)
              have HD2 : Hid (decide ((kn : Int) ∈ D.loose.take (j + 1)) = true) := hd2
              rw [hd]
              clear hmt hin hd hd2
              go_wp2
              go_roundw
              case rel => exact ⟨j + 1, by omega, by go_num, by rw [HD2.out], by first | rfl | trivial⟩
              case measure => simp [intOf]; omega
            · have hd : decide ((kn : Int) ∈ D.loose.take j) = false := by simp [hin]
              have HD2 : Hid (decide ((kn : Int) ∈ D.loose.take (j + 1)) = (D.loose[j] == (kn : Int))) := by
                show _ = _
                by_cases e : D.loose[j] = (kn : Int)
                · rw [e]; simp only [BEq.rfl, decide_eq_true_eq]; exact hmt.2 (.inr e.symm)
                · have e2 : ¬ ((kn : Int) ∈ D.loose.take (j + 1)) := fun hh => by rcases hmt.1 hh with hh | hh; exact hin hh; exact e hh.symm
                  simp [e2, e]
              rw [hd]
              obtain ⟨g, rfl, hcell⟩ := hrow j hjl
              clear hmt hin hd
              go_wp2
              go_roundw
              case rel => exact ⟨j + 1, by omega, by go_num, by rw [HD2.out], by first | rfl | trivial⟩
              case measure => simp [intOf]; omega
          · have ej : j = D.loose.length := by omega
            subst ej
            rw [List.take_length]
            by_cases hin : (kn : Int) ∈ D.loose
            · have hd : decide ((kn : Int) ∈ D.loose) = true := by simp [hin]
              rw [hd]
              rw [if_pos hin] at F4
              go_wp2
              go_roundw
              case rel =>
                refine ⟨k + 1, _, _, _, by omega, by omega, by go_num, ⟨hC7.dx, hC7.af, hC7.an, by rw [F4]; exact hC7.row, hC7.bel⟩, ⟨F3.ok, F3.bl, F3.dn, F3.ar, by have := F3.cl; omega⟩, F2, hgz⟩
              case measure => simp [intOf]; omega
            · have hd : decide ((kn : Int) ∈ D.loose) = false := by simp [hin]
              rw [hd]
              rw [if_neg hin] at F4
              go_wp2_with (at_builtin; refine wpList_append_lies _ rfl _ _ 38 rfl (f + 2) 3 i0 (.int .i64 0) 1 8 Try.underlying38 hi hz0 hz1 hz2 rfl (by omega) _ D.loose.length (ic D.loose) rfl (hC7.row.alloc _) ⟨_, 0, none⟩ 1 1 [.int .i64 (kn : Int)] rfl rfl (World.news_of_block (cs := #[_]) (heap_alloc_new _ _)) (by intro u hu; simp at hu; subst hu; rfl) (by omega) (by unfold maxLen; omega) (by omega) (by simp; omega) _ rfl ?_; intro g5 cap5 w8 hown8 hgrow8 hat8 hlt8)
              have hC8 := hC7.append ⟨by omega, by omega⟩ (by omega) hgz F4 hown8 hgrow8 hat8
              have hg8 : f + 2 ≤ w8.heap.size := by have := hgrow8.size; simp at this; omega
              go_roundw
              case rel => exact ⟨k + 1, _, _, _, by omega, by omega, by go_num, hC8, ⟨F3.ok, F3.bl, F3.dn, F3.ar, by have := F3.cl; omega⟩, F2, hg8⟩
              case measure => simp [intOf]; omega
    · have h15 := and15 torn
      obtain ⟨t, ht⟩ : ∃ t, t = torn % 16 := ⟨_, rfl⟩
      rw [← ht] at h15
      have ht0 : 0 ≤ t := by omega
      have ht1 : t < 16 := by omega
      have h65 := and65535 bytes
      obtain ⟨yy, hyy⟩ : ∃ yy, yy = bytes % 65536 := ⟨_, rfl⟩
      rw [← hyy] at h65
      have hy0 : 0 ≤ yy := by omega
      have hy1 : yy < 65536 := by omega
      clear ht hyy
      by_cases hkl : k < len
      · have hki : (k : Int) < (len : Int) := by omega
        have hkj : ¬ ((k : Int) < 60) := by omega
        go_wp2_with fail
        obtain ⟨y, hy⟩ : ∃ y, y = yy % 513 := ⟨_, rfl⟩
        rw [← hy]
        have hy0' : 0 ≤ y := by omega
        have hy1' : y ≤ 512 := by omega
        clear hy
        have hx := crash_up hPl.dn mask t y
        have hxl := crash_loose hPl.dn mask t y
        refine (crashX _ p _ _ _ mask t y hC.dx (by omega) hm ⟨by omega, by omega⟩ ⟨by omega, by omega⟩).mono ?_
        rintro e w5 ⟨rfl, h5, b5, x5⟩
        have hC5 := hC.did hw0 h5 b5 x5
        go_wp2_with fail
        refine (upQ _ p _ _ h5.dq).mono ?_
        rintro e w5' ⟨rfl, rfl⟩
        rw [hx.1]
        go_wp2_with fail
        refine (looseQ _ p _ _ h5.dq).mono ?_
        rintro e w5' ⟨rfl, rfl⟩
        rw [hxl]
        go_wp2_with fail
        refine (flushX _ p _ _ _ h5 (by rw [hx.2.1]; omega)).mono ?_
        rintro e w6 ⟨rfl, h6, b6, x6⟩
        rw [flush_dn hx.1] at h6
        rw [flush_dn hx.1]
        have hC6 := hC5.did hw0 h6 b6 x6
        go_wp2_with fail
        refine (content_calls _ 1).mono ?_
        rintro e w7 ⟨rfl, o7, b7⟩
        have hC7 := hC6.later b7
        go_wp2_with fail
        refine (writeX w6 w7 p _ _ _ 0 _ (cont 1) h6 b7 (made_fresh o7) (by show (D.crash mask t y).calls ≤ _; rw [hx.2.1]; omega) (by rw [cont_length]; exact Nat.le_refl _) ⟨by omega, by omega⟩).mono ?_
        rintro e w8 ⟨rfl, h8, b8, x8⟩
        rw [write_dn hx.1] at h8
        rw [write_dn hx.1]
        have hC8 := hC7.did hw0 h8 b8 x8
        go_wp2_with fail
        refine (startX _ p _ _ _ h8).mono ?_
        rintro e w9 ⟨rfl, h9, b9, x9⟩
        have hC9 := hC8.did hw0 h9 b9 x9
        have HRD : Hid (∀ i : Int, 0 ≤ i → i < 8 → (D.crash mask t y).start.read i = (D.settled mask t y i, 0)) := fun i h0 h1 => by
          have r1 := read_up (D := (D.crash mask t y).start) rfl (hx.2.2.trans hPl.bl) i h0 h1
          rw [show (D.crash mask t y).start.nw = (D.crash mask t y).nw from rfl, crash_nw hPl.dn] at r1
          exact r1
        have hC9' : CS w w9 p w0.heap.size f (f + 1) (f + 2) D (D.crash mask t y).start fs ns _ := hC9
        clear hC5 hC6 hC7 hC8 hC9 h5 h6 h8 h9 b5 b6 b7 b8 b9 x5 x6 x8 x9 o7 hC hx hxl
        generalize (D.crash mask t y).start = A at *
        obtain ⟨oa, oc', rfl, _⟩ := hC9'.at_row
        go_wp2_with fail
        go_loopw [19] (fun v wz => ∃ i : Nat, i ≤ 8 ∧ v = .int .i64 (i : Int) ∧ CS w wz p w0.heap.size f (f + 1) (f + 2) D A fs ns (.slice oa D.loose.length oc'))
          (fun v _ => 8 - (intOf v).toNat)
        case atStart => exact ⟨0, Nat.zero_le _, rfl, hC9'⟩
        case round =>
          obtain ⟨i, hi8, rfl, hC⟩ := hrel
          clear hC9'
          by_cases hil : i < 8
          · have hii : (i : Int) < 8 := by omega
            have hcf := hC.af.cell i hil
            have hfl := hR.fl i hil
            have hnw := hR.nw i hil
            go_upto_if 134 with (go_at_call 22; refine (content_calls _ (fs i)).mono ?_; rintro e w11 ⟨rfl, o11, b11⟩; have k11 := conv_made o11; have hC11 := hC.later b11; have hcf2 := hC11.af.cell i hil)
            go_cut [20] (fun v wc => v = .string (str (D.fl i)) ∧ CS w wc p w0.heap.size f (f + 1) (f + 2) D A fs ns (.slice oa D.loose.length oc'))
            case first =>
              by_cases ez : fs i = 0
              · have tz : (fs i == 0) = true := by simp [ez]
                have HF : Hid (D.fl i = nought) := by show _ = _; rw [hfl]; unfold blk; rw [if_pos ez]
                clear ez hfl hnw
                go_wp2_with (go_at_call 25; refine (noughts_calls _).mono ?_; rintro e w12 ⟨rfl, b12⟩)
                go_meet
                case rel => exact ⟨by rw [HF.out], hC11.later b12⟩
              · have tz : (fs i == 0) = false := by simp [ez]
                have HF : Hid (D.fl i = cont (fs i)) := by show _ = _; rw [hfl]; unfold blk; rw [if_neg ez]
                clear ez hfl hnw
                go_wp2
                go_meet
                case rel => exact ⟨by rw [HF.out], hC11⟩
            case rest =>
              obtain ⟨rfl, hC12⟩ := hcut
              clear hC
              go_wp2_with fail
              go_loopw [20, 21] (fun v n wz => ∃ j : Nat, j ≤ D.loose.length ∧ n = .int .i64 (j : Int) ∧ v = .string (str (wantAt D mask t y i j)) ∧ CS w wz p w0.heap.size f (f + 1) (f + 2) D A fs ns (.slice oa D.loose.length oc'))
                (fun _ n _ => D.loose.length - (intOf n).toNat)
              case atStart => exact ⟨0, Nat.zero_le _, rfl, by rw [want_0], hC12⟩
              case round =>
                obtain ⟨j, hj, rfl, rfl, hC⟩ := hrel
                clear hC12
                have hjb : (j : Int) < 1000 := by omega
                by_cases hjl : j < D.loose.length
                · have hji : (j : Int) < (D.loose.length : Int) := by omega
                  obtain ⟨g, rfl, hcell⟩ := hC.cell_row j hjl
                  by_cases he : D.loose[j] = (i : Int)
                  · have hns : ns i ≠ 0 := by
                      have := (hR.lo _ (List.getElem_mem hjl)).2.2
                      rw [he] at this
                      exact this
                    have hnwc : D.nw i = cont (ns i) := by rw [hnw]; unfold blk; rw [if_neg hns]
                    obtain ⟨wa, wb⟩ := want_this hPl.ok mask t y i j hjl he hy0' hy1'
                    rw [he] at hcell
                    have hcn := hC.an.cell i hil
                    rw [wa]
                    by_cases ej : (j : Int) = t
                    · have tj : ((j : Int) == t) = true := by simp [ej]
                      rw [if_pos ej] at wb
                      have HW : Hid (wantAt D mask t y i (j + 1) = (D.nw i).take y.toNat ++ (D.fl i).drop y.toNat) := wb
                      have HN : Hid (D.nw i = cont (ns i)) := hnwc
                      have hs1 : (str (cont (ns i))).size = 512 := by rw [str_size, cont_length]
                      have hs2 : (str (D.fl i)).size = 512 := by rw [str_size, hPl.ok.lf]
                      clear wa wb ej hnwc hns hnw hfl he
                      go_wp2_with (go_at_call 22; refine (content_calls _ (ns i)).mono ?_; rintro e w14 ⟨rfl, o14, b14⟩; have k14 := conv_made o14; have hC14 := hC.later b14)
                      go_quiet (fail)
                      go_wp2
                      go_roundw
                      case rel => exact ⟨j + 1, by omega, by go_num, by rw [HW.out, HN.out, str_cut _ _ y.toNat (cont_length _) (hPl.ok.lf _) (by omega)], hC14.later ⟨rfl, rfl, rfl, Nat.le_refl _, fun _ _ => rfl⟩⟩
                      case measure => simp [intOf]; omega
                    · have tj : ((j : Int) == t) = false := by simp [ej]
                      rw [if_neg ej] at wb
                      have h63 : bits .and .i64 (j : Int) 63 = (j : Int) := by rw [and63]; omega
                      have hbi := bit_is mask j hm.1 hm.2
                      rw [Nat.mod_eq_of_lt (by omega : j < 64)] at hbi
                      cases hbt : bitOf mask j with
                      | true =>
                        rw [hbt] at hbi
                        rw [if_pos hbt, hnwc] at wb
                        have HW : Hid (wantAt D mask t y i (j + 1) = cont (ns i)) := wb
                        clear wa wb ej hnwc hns hnw hfl he hbt
                        go_wp2_with (go_at_call 22; refine (content_calls _ (ns i)).mono ?_; rintro e w14 ⟨rfl, o14, b14⟩; have k14 := conv_made o14; have hC14 := hC.later b14)
                        go_roundw
                        case rel => exact ⟨j + 1, by omega, by go_num, by rw [HW.out], hC14⟩
                        case measure => simp [intOf]; omega
                      | false =>
                        rw [hbt] at hbi
                        rw [if_neg (by rw [hbt]; simp)] at wb
                        have HW : Hid (wantAt D mask t y i (j + 1) = D.fl i) := wb
                        clear wa wb ej hnwc hns hnw hfl he hbt
                        go_wp2_with (go_at_call 22; refine (content_calls _ (ns i)).mono ?_; rintro e w14 ⟨rfl, o14, b14⟩; have k14 := conv_made o14; have hC14 := hC.later b14)
                        go_roundw
                        case rel => exact ⟨j + 1, by omega, by go_num, by rw [HW.out], hC14⟩
                        case measure => simp [intOf]; omega
                  · have tne : (D.loose[j] != (i : Int)) = true := by simp [he]
                    have tne2 : (D.loose[j] == (i : Int)) = false := by simp [he]
                    have HW : Hid (wantAt D mask t y i (j + 1) = wantAt D mask t y i j) := want_other mask t y i j hjl he
                    clear he
                    go_wp2
                    go_roundw
                    case rel => exact ⟨j + 1, by omega, by go_num, by rw [HW.out], hC⟩
                    case measure => simp [intOf]; omega
                · have ej : j = D.loose.length := by omega
                  subst ej
                  rw [want_end]
                  have r1 := readQ wr p A w0.heap.size i hC.dx.dq ⟨by omega, by omega⟩
                  rw [HRD.out (i : Int) (by omega) hii] at r1
                  go_wp2_with (go_at_call 26; refine r1.mono ?_; rintro e w15 ⟨sx, rfl, y15, b15⟩; have k15 := conv_got y15; have hC15 := hC.later b15)
                  go_roundw
                  case rel => exact ⟨i + 1, by omega, by go_num, hC15⟩
                  case measure => simp [intOf]; omega
          · have ei : i = 8 := by omega
            subst ei
            have hB := hC.bel
            go_wp2
            go_ret
            exact ⟨rfl, hB⟩
      · have hki : ¬ ((k : Int) < (len : Int)) := by omega
        go_wp2_with fail
        obtain ⟨y, hy⟩ : ∃ y, y = yy % 513 := ⟨_, rfl⟩
        rw [← hy]
        have hy0' : 0 ≤ y := by omega
        have hy1' : y ≤ 512 := by omega
        clear hy
        have hx := crash_up hPl.dn mask t y
        have hxl := crash_loose hPl.dn mask t y
        refine (crashX _ p _ _ _ mask t y hC.dx (by omega) hm ⟨by omega, by omega⟩ ⟨by omega, by omega⟩).mono ?_
        rintro e w5 ⟨rfl, h5, b5, x5⟩
        have hC5 := hC.did hw0 h5 b5 x5
        go_wp2_with fail
        refine (upQ _ p _ _ h5.dq).mono ?_
        rintro e w5' ⟨rfl, rfl⟩
        rw [hx.1]
        go_wp2_with fail
        refine (looseQ _ p _ _ h5.dq).mono ?_
        rintro e w5' ⟨rfl, rfl⟩
        rw [hxl]
        go_wp2_with fail
        refine (flushX _ p _ _ _ h5 (by rw [hx.2.1]; omega)).mono ?_
        rintro e w6 ⟨rfl, h6, b6, x6⟩
        rw [flush_dn hx.1] at h6
        rw [flush_dn hx.1]
        have hC6 := hC5.did hw0 h6 b6 x6
        go_wp2_with fail
        refine (content_calls _ 1).mono ?_
        rintro e w7 ⟨rfl, o7, b7⟩
        have hC7 := hC6.later b7
        go_wp2_with fail
        refine (writeX w6 w7 p _ _ _ 0 _ (cont 1) h6 b7 (made_fresh o7) (by show (D.crash mask t y).calls ≤ _; rw [hx.2.1]; omega) (by rw [cont_length]; exact Nat.le_refl _) ⟨by omega, by omega⟩).mono ?_
        rintro e w8 ⟨rfl, h8, b8, x8⟩
        rw [write_dn hx.1] at h8
        rw [write_dn hx.1]
        have hC8 := hC7.did hw0 h8 b8 x8
        go_wp2_with fail
        refine (startX _ p _ _ _ h8).mono ?_
        rintro e w9 ⟨rfl, h9, b9, x9⟩
        have hC9 := hC8.did hw0 h9 b9 x9
        have HRD : Hid (∀ i : Int, 0 ≤ i → i < 8 → (D.crash mask t y).start.read i = (D.settled mask t y i, 0)) := fun i h0 h1 => by
          have r1 := read_up (D := (D.crash mask t y).start) rfl (hx.2.2.trans hPl.bl) i h0 h1
          rw [show (D.crash mask t y).start.nw = (D.crash mask t y).nw from rfl, crash_nw hPl.dn] at r1
          exact r1
        have hC9' : CS w w9 p w0.heap.size f (f + 1) (f + 2) D (D.crash mask t y).start fs ns _ := hC9
        clear hC5 hC6 hC7 hC8 hC9 h5 h6 h8 h9 b5 b6 b7 b8 b9 x5 x6 x8 x9 o7 hC hx hxl
        generalize (D.crash mask t y).start = A at *
        obtain ⟨oa, oc', rfl, _⟩ := hC9'.at_row
        go_wp2_with fail
        go_loopw [19] (fun v wz => ∃ i : Nat, i ≤ 8 ∧ v = .int .i64 (i : Int) ∧ CS w wz p w0.heap.size f (f + 1) (f + 2) D A fs ns (.slice oa D.loose.length oc'))
          (fun v _ => 8 - (intOf v).toNat)
        case atStart => exact ⟨0, Nat.zero_le _, rfl, hC9'⟩
        case round =>
          obtain ⟨i, hi8, rfl, hC⟩ := hrel
          clear hC9'
          by_cases hil : i < 8
          · have hii : (i : Int) < 8 := by omega
            have hcf := hC.af.cell i hil
            have hfl := hR.fl i hil
            have hnw := hR.nw i hil
            go_upto_if 134 with (go_at_call 22; refine (content_calls _ (fs i)).mono ?_; rintro e w11 ⟨rfl, o11, b11⟩; have k11 := conv_made o11; have hC11 := hC.later b11; have hcf2 := hC11.af.cell i hil)
            go_cut [20] (fun v wc => v = .string (str (D.fl i)) ∧ CS w wc p w0.heap.size f (f + 1) (f + 2) D A fs ns (.slice oa D.loose.length oc'))
            case first =>
              by_cases ez : fs i = 0
              · have tz : (fs i == 0) = true := by simp [ez]
                have HF : Hid (D.fl i = nought) := by show _ = _; rw [hfl]; unfold blk; rw [if_pos ez]
                clear ez hfl hnw
                go_wp2_with (go_at_call 25; refine (noughts_calls _).mono ?_; rintro e w12 ⟨rfl, b12⟩)
                go_meet
                case rel => exact ⟨by rw [HF.out], hC11.later b12⟩
              · have tz : (fs i == 0) = false := by simp [ez]
                have HF : Hid (D.fl i = cont (fs i)) := by show _ = _; rw [hfl]; unfold blk; rw [if_neg ez]
                clear ez hfl hnw
                go_wp2
                go_meet
                case rel => exact ⟨by rw [HF.out], hC11⟩
            case rest =>
              obtain ⟨rfl, hC12⟩ := hcut
              clear hC
              go_wp2_with fail
              go_loopw [20, 21] (fun v n wz => ∃ j : Nat, j ≤ D.loose.length ∧ n = .int .i64 (j : Int) ∧ v = .string (str (wantAt D mask t y i j)) ∧ CS w wz p w0.heap.size f (f + 1) (f + 2) D A fs ns (.slice oa D.loose.length oc'))
                (fun _ n _ => D.loose.length - (intOf n).toNat)
              case atStart => exact ⟨0, Nat.zero_le _, rfl, by rw [want_0], hC12⟩
              case round =>
                obtain ⟨j, hj, rfl, rfl, hC⟩ := hrel
                clear hC12
                have hjb : (j : Int) < 1000 := by omega
                by_cases hjl : j < D.loose.length
                · have hji : (j : Int) < (D.loose.length : Int) := by omega
                  obtain ⟨g, rfl, hcell⟩ := hC.cell_row j hjl
                  by_cases he : D.loose[j] = (i : Int)
                  · have hns : ns i ≠ 0 := by
                      have := (hR.lo _ (List.getElem_mem hjl)).2.2
                      rw [he] at this
                      exact this
                    have hnwc : D.nw i = cont (ns i) := by rw [hnw]; unfold blk; rw [if_neg hns]
                    obtain ⟨wa, wb⟩ := want_this hPl.ok mask t y i j hjl he hy0' hy1'
                    rw [he] at hcell
                    have hcn := hC.an.cell i hil
                    rw [wa]
                    by_cases ej : (j : Int) = t
                    · have tj : ((j : Int) == t) = true := by simp [ej]
                      rw [if_pos ej] at wb
                      have HW : Hid (wantAt D mask t y i (j + 1) = (D.nw i).take y.toNat ++ (D.fl i).drop y.toNat) := wb
                      have HN : Hid (D.nw i = cont (ns i)) := hnwc
                      have hs1 : (str (cont (ns i))).size = 512 := by rw [str_size, cont_length]
                      have hs2 : (str (D.fl i)).size = 512 := by rw [str_size, hPl.ok.lf]
                      clear wa wb ej hnwc hns hnw hfl he
                      go_wp2_with (go_at_call 22; refine (content_calls _ (ns i)).mono ?_; rintro e w14 ⟨rfl, o14, b14⟩; have k14 := conv_made o14; have hC14 := hC.later b14)
                      go_quiet (fail)
                      go_wp2
                      go_roundw
                      case rel => exact ⟨j + 1, by omega, by go_num, by rw [HW.out, HN.out, str_cut _ _ y.toNat (cont_length _) (hPl.ok.lf _) (by omega)], hC14.later ⟨rfl, rfl, rfl, Nat.le_refl _, fun _ _ => rfl⟩⟩
                      case measure => simp [intOf]; omega
                    · have tj : ((j : Int) == t) = false := by simp [ej]
                      rw [if_neg ej] at wb
                      have h63 : bits .and .i64 (j : Int) 63 = (j : Int) := by rw [and63]; omega
                      have hbi := bit_is mask j hm.1 hm.2
                      rw [Nat.mod_eq_of_lt (by omega : j < 64)] at hbi
                      cases hbt : bitOf mask j with
                      | true =>
                        rw [hbt] at hbi
                        rw [if_pos hbt, hnwc] at wb
                        have HW : Hid (wantAt D mask t y i (j + 1) = cont (ns i)) := wb
                        clear wa wb ej hnwc hns hnw hfl he hbt
                        go_wp2_with (go_at_call 22; refine (content_calls _ (ns i)).mono ?_; rintro e w14 ⟨rfl, o14, b14⟩; have k14 := conv_made o14; have hC14 := hC.later b14)
                        go_roundw
                        case rel => exact ⟨j + 1, by omega, by go_num, by rw [HW.out], hC14⟩
                        case measure => simp [intOf]; omega
                      | false =>
                        rw [hbt] at hbi
                        rw [if_neg (by rw [hbt]; simp)] at wb
                        have HW : Hid (wantAt D mask t y i (j + 1) = D.fl i) := wb
                        clear wa wb ej hnwc hns hnw hfl he hbt
                        go_wp2_with (go_at_call 22; refine (content_calls _ (ns i)).mono ?_; rintro e w14 ⟨rfl, o14, b14⟩; have k14 := conv_made o14; have hC14 := hC.later b14)
                        go_roundw
                        case rel => exact ⟨j + 1, by omega, by go_num, by rw [HW.out], hC14⟩
                        case measure => simp [intOf]; omega
                  · have tne : (D.loose[j] != (i : Int)) = true := by simp [he]
                    have tne2 : (D.loose[j] == (i : Int)) = false := by simp [he]
                    have HW : Hid (wantAt D mask t y i (j + 1) = wantAt D mask t y i j) := want_other mask t y i j hjl he
                    clear he
                    go_wp2
                    go_roundw
                    case rel => exact ⟨j + 1, by omega, by go_num, by rw [HW.out], hC⟩
                    case measure => simp [intOf]; omega
                · have ej : j = D.loose.length := by omega
                  subst ej
                  rw [want_end]
                  have r1 := readQ wr p A w0.heap.size i hC.dx.dq ⟨by omega, by omega⟩
                  rw [HRD.out (i : Int) (by omega) hii] at r1
                  go_wp2_with (go_at_call 26; refine r1.mono ?_; rintro e w15 ⟨sx, rfl, y15, b15⟩; have k15 := conv_got y15; have hC15 := hC.later b15)
                  go_roundw
                  case rel => exact ⟨i + 1, by omega, by go_num, hC15⟩
                  case measure => simp [intOf]; omega
          · have ei : i = 8 := by omega
            subst ei
            have hB := hC.bel
            go_wp2
            go_ret
            exact ⟨rfl, hB⟩
end Go.Proofs.Ytmemhckkfhlnmaa
