/- A device in memory, as package device lays it: two maps, the row of the loose blocks' numbers, the crash to come; and what its small calls come to. -/
import Derived.Test.YtmemhckkfhlnmaaDevLib
import Derived.Deep.RegionWith
import Derived.Deep.DrawnRows
import Derived.Deep.RegionHeld3
namespace Go.Proofs.Ytmemhckkfhlnmaa
set_option linter.unusedVariables false
open Go.RowKit
attribute [local go_sem ↓] Go.wp_at_zero Go.wp_at_succ

/-- Numbers as cells. -/
def ic (l : List Int) : List Value := l.map fun n => Value.int .i64 n
theorem ic_length (l : List Int) : (ic l).length = l.length := by simp [ic]
theorem ic_one (l : List Int) : ∀ u ∈ ic l, u.oneCell' = true := by
  intro u hu
  simp only [ic, List.mem_map] at hu
  obtain ⟨b, _, rfl⟩ := hu
  rfl
theorem ic_at (l : List Int) (j : Nat) (h : j < l.length) : (ic l)[j]? = some (.int .i64 l[j]) := by simp [ic, h]

/-- Where a device's parts lie. -/
structure DR where
  fb : Nat
  lb : Nat
  ov : Value
  m : Int
  t : Int
  y : Int
  nf : Nat
  nl : Nat
  F : Int → Option Value
  L : Int → Option Value

def devCells (D : DS) (r : DR) : Array Value := #[.int .i64 D.blocks, .map (some r.fb), .map (some r.lb), r.ov, .int .i64 D.calls, .bool D.down, .int .i64 D.armed, .int .u64 r.m, .int .i64 r.t, .int .i64 r.y]
structure Dev (w : World) (p : Nat) (D : DS) (r : DR) (T : Nat → Prop) : Prop where
  ok : D.Ok
  blk : w.heap[p]? = some (.cells (devCells D r) 60 (0, 0))
  mf : MapV w r.fb r.nf r.F
  ml : MapV w r.lb r.nl r.L
  row : w.ownsRow 0 3 1 r.ov D.loose.length (ic D.loose)
  arm : D.armed ≠ 0 → r.m = D.mask ∧ r.t = D.torn ∧ r.y = D.bytes
  rm : 0 ≤ r.m ∧ r.m ≤ 18446744073709551615
  rt : I64 r.t
  ry : I64 r.y
  ra : D.armed ≤ 9223372036854775807
  cf : (r.nf : Int) + D.loose.length ≤ D.calls
  cl : (r.nl : Int) ≤ D.calls
  inL : ∀ n, (r.L n).isSome = true ↔ n ∈ D.loose
  atL : ∀ n v, r.L n = some v → ∃ g, T g ∧ BytesIn w v (D.nw n) (some g)
  atF : ∀ n v, r.F n = some v → ∃ g, T g ∧ BytesIn w v (D.fl n) (some g)
  noF : ∀ n, r.F n = none → D.fl n = nought
  inB : ∀ n, n ∈ D.loose → 0 ≤ n ∧ n < D.blocks
  pf : p ≠ r.fb
  pl : p ≠ r.lb
  fl : r.fb ≠ r.lb
  po : ∀ k, r.ov.ownBlock = some k → k ≠ p ∧ k ≠ r.fb ∧ k ≠ r.lb
  tt : ∀ k, T k → k < w.heap.size ∧ k ≠ p ∧ k ≠ r.fb ∧ k ≠ r.lb ∧ r.ov.ownBlock ≠ some k

/-- The blocks that a device may write. -/
def Mine (p : Nat) (r : DR) : Nat → Prop := fun k => k = p ∨ k = r.fb ∨ k = r.lb ∨ r.ov.ownBlock = some k
theorem lt_block {w : World} {k : Nat} {o : Obj} (h : w.heap[k]? = some o) : k < w.heap.size := (Array.getElem?_eq_some_iff.1 h).1
theorem lt_same {w w' : World} {k : Nat} (h : k < w.heap.size) (e : w'.heap[k]? = w.heap[k]?) : k < w'.heap.size := by
  have h2 : w'.heap[k]? = some w.heap[k] := e.trans (by simp [h])
  exact lt_block h2
theorem Dev.mine_lt {w : World} {p : Nat} {D : DS} {r : DR} {T : Nat → Prop} (h : Dev w p D r T) {k : Nat} (hk : Mine p r k) : k < w.heap.size := by
  rcases hk with rfl | rfl | rfl | hk
  · exact lt_block h.blk
  · exact h.mf.lt
  · exact h.ml.lt
  · exact (h.row.lt k hk).2
theorem row_kept {w w' : World} {base : Nat} {e : TypeId} {v : Value} {n : Nat} {xs : List Value} (h : w.ownsRow base e 1 v n xs) (hk : ∀ k, v.ownBlock = some k → w'.heap[k]? = w.heap[k]?) : w'.ownsRow base e 1 v n xs := by
  refine ⟨h.1, ?_⟩
  rcases h.2 with h2 | ⟨g, cap, cur, rfl, h3, h4, h5⟩
  · exact .inl h2
  · exact .inr ⟨g, cap, cur, rfl, h3, (hk g rfl).trans h4, h5⟩
theorem Dev.kept {w w' : World} {p : Nat} {D : DS} {r : DR} {T : Nat → Prop} (h : Dev w p D r T) (hk : ∀ k, Mine p r k ∨ T k → w'.heap[k]? = w.heap[k]?) : Dev w' p D r T where
  ok := h.ok
  blk := (hk p (.inl (.inl rfl))).trans h.blk
  mf := h.mf.kept (hk _ (.inl (.inr (.inl rfl))))
  ml := h.ml.kept (hk _ (.inl (.inr (.inr (.inl rfl)))))
  row := row_kept h.row fun k e => hk k (.inl (.inr (.inr (.inr e))))
  arm := h.arm
  rm := h.rm
  rt := h.rt
  ry := h.ry
  ra := h.ra
  cf := h.cf
  cl := h.cl
  inL := h.inL
  atL := fun n v e => by
    obtain ⟨g, h1, h2⟩ := h.atL n v e
    exact ⟨g, h1, h2.kept fun k e => by cases e; exact hk g (.inr h1)⟩
  atF := fun n v e => by
    obtain ⟨g, h1, h2⟩ := h.atF n v e
    exact ⟨g, h1, h2.kept fun k e => by cases e; exact hk g (.inr h1)⟩
  noF := h.noF
  inB := h.inB
  pf := h.pf
  pl := h.pl
  fl := h.fl
  po := h.po
  tt := fun k e => ⟨lt_same (h.tt k e).1 (hk k (.inr e)), (h.tt k e).2⟩
theorem Dev.below {w w' : World} {p : Nat} {D : DS} {r : DR} {T : Nat → Prop} (h : Dev w p D r T) {B : Nat} (hb : Below B w w') (hB : w.heap.size ≤ B) : Dev w' p D r T :=
  h.kept fun k hk => hb.block k (by
    rcases hk with hk | hk
    · have := h.mine_lt hk; omega
    · have := (h.tt k hk).1; omega)

theorem cell10 {w : World} {p : Nat} {D : DS} {r : DR} {t : TypeId} (h : w.heap[p]? = some (.cells (devCells D r) t (0, 0))) :
    w.cell? ⟨p, 0, none⟩ = some (.int .i64 D.blocks) ∧ w.cell? ⟨p, 1, none⟩ = some (.map (some r.fb)) ∧ w.cell? ⟨p, 2, none⟩ = some (.map (some r.lb)) ∧ w.cell? ⟨p, 3, none⟩ = some r.ov ∧ w.cell? ⟨p, 4, none⟩ = some (.int .i64 D.calls) ∧ w.cell? ⟨p, 5, none⟩ = some (.bool D.down) ∧
    w.cell? ⟨p, 6, none⟩ = some (.int .i64 D.armed) ∧ w.cell? ⟨p, 7, none⟩ = some (.int .u64 r.m) ∧ w.cell? ⟨p, 8, none⟩ = some (.int .i64 r.t) ∧ w.cell? ⟨p, 9, none⟩ = some (.int .i64 r.y) := by
  refine ⟨?_, ?_, ?_, ?_, ?_, ?_, ?_, ?_, ?_, ?_⟩ <;> simp [World.cell?, h, devCells]
theorem free10 {w : World} {p : Nat} {D : DS} {r : DR} {t : TypeId} (h : w.heap[p]? = some (.cells (devCells D r) t (0, 0))) (o : Nat) : w.frozen? ⟨p, o, none⟩ = false := by
  simp [World.frozen?, h]

/-! The calls that only look. -/
set_option maxHeartbeats 400000 in
theorem blocks_calls (w : World) (p : Nat) (D : DS) (r : DR) (T : Nat → Prop) (h : Dev w p D r T) : Calls Try.prog 28 #[.pointer (some ⟨p, 0, none⟩)] w fun e w' => e = .returned (.int .i64 D.blocks) ∧ w' = w := by
  obtain ⟨c0, _⟩ := cell10 h.blk
  clear h
  go_enter Try.func28, Try.ntmps28
  go_wp2
  go_ret
  exact ⟨rfl, rfl⟩
set_option maxHeartbeats 400000 in
theorem count_calls (w : World) (p : Nat) (D : DS) (r : DR) (T : Nat → Prop) (h : Dev w p D r T) : Calls Try.prog 29 #[.pointer (some ⟨p, 0, none⟩)] w fun e w' => e = .returned (.int .i64 D.calls) ∧ w' = w := by
  obtain ⟨c0, c1, c2, c3, c4, _⟩ := cell10 h.blk
  clear h
  go_enter Try.func29, Try.ntmps29
  go_wp2
  go_ret
  exact ⟨rfl, rfl⟩
set_option maxHeartbeats 400000 in
theorem up_calls (w : World) (p : Nat) (D : DS) (r : DR) (T : Nat → Prop) (h : Dev w p D r T) : Calls Try.prog 23 #[.pointer (some ⟨p, 0, none⟩)] w fun e w' => e = .returned (.bool (!D.down)) ∧ w' = w := by
  obtain ⟨c0, c1, c2, c3, c4, c5, _⟩ := cell10 h.blk
  clear h
  go_enter Try.func23, Try.ntmps23
  go_wp2
  go_ret
  exact ⟨rfl, rfl⟩
set_option maxHeartbeats 400000 in
theorem loose_calls (w : World) (p : Nat) (D : DS) (r : DR) (T : Nat → Prop) (h : Dev w p D r T) : Calls Try.prog 24 #[.pointer (some ⟨p, 0, none⟩)] w fun e w' => e = .returned (.int .i64 (D.loose.length : Int)) ∧ w' = w := by
  obtain ⟨c0, c1, c2, c3, _⟩ := cell10 h.blk
  obtain ⟨a, c, e⟩ := own_form h.row
  rw [e] at c3
  clear h e
  generalize D.loose.length = n at *
  go_enter Try.func24, Try.ntmps24
  go_wp2
  go_ret
  exact ⟨rfl, rfl⟩
/-- Is there such a block? -/
def DS.hasB (D : DS) (n : Int) : Bool := decide (0 ≤ n ∧ n < D.blocks)
set_option maxHeartbeats 400000 in
theorem has_calls (w : World) (p : Nat) (D : DS) (r : DR) (T : Nat → Prop) (n : Int) (h : Dev w p D r T) : Calls Try.prog 42 #[.pointer (some ⟨p, 0, none⟩), .int .i64 n] w fun e w' => e = .returned (.bool (D.hasB n)) ∧ w' = w := by
  obtain ⟨c0, _⟩ := cell10 h.blk
  clear h
  by_cases h0 : 0 ≤ n
  · have E : Hid (D.hasB n = decide (n < D.blocks)) := by show _ = _; unfold DS.hasB; simp [h0]
    go_enter Try.func42, Try.ntmps42
    go_wp2
    go_ret
    exact ⟨by rw [E.out]; rfl, rfl⟩
  · have E : Hid (D.hasB n = false) := by show _ = _; unfold DS.hasB; simp [h0]
    go_enter Try.func42, Try.ntmps42
    go_wp2
    go_ret
    exact ⟨by rw [E.out]; rfl, rfl⟩
/-! What a block's content is: the flushed one, the newest one. -/
/-- Bytes that have a place in old memory, or in new. -/
def Cont (w : World) (T : Nat → Prop) (L : List UInt8) (e : Ending) (w' : World) : Prop :=
  ∃ g off cap, e = .returned (.slice (some ⟨g, off, none⟩) 512 cap) ∧ 512 ≤ cap ∧ (T g ∨ w.heap.size ≤ g) ∧ g < w'.heap.size ∧ (∀ j u, (bc L)[j]? = some u → w'.cell? ⟨g, off + j, none⟩ = some u) ∧ Below w.heap.size w w'
theorem BytesIn.at512 {w : World} {sv : Value} {L : List UInt8} {g : Nat} (h : BytesIn w sv L (some g)) (hl : L.length = 512) : ∃ off cap, sv = .slice (some ⟨g, off, none⟩) 512 cap ∧ 512 ≤ cap ∧ g < w.heap.size ∧ ∀ j u, (bc L)[j]? = some u → w.cell? ⟨g, off + j, none⟩ = some u := by
  obtain ⟨ad, cap, h1, h2, h3⟩ := h
  rw [hl] at h1 h2
  rcases h3 with ⟨_, h4, _⟩ | ⟨g', off, rfl, h5, h6, h7⟩
  · subst h4; cases hl
  · cases h5
    exact ⟨off, cap, h1, h2, h6, h7⟩
theorem lookM {w : World} {b n : Nat} {f : Int → Option Value} (h : MapV w b n f) {k : Int} (hk : I64 k) {v : Value} (hv : f k = some v) : (Instr.lookup 56 (.map (some b)) (.int .i64 k) true).run Try.prog w = .ok (.tuple #[v, .bool true]) w := by
  rw [h.look hk, hv]
  rfl
theorem lookN {w : World} {b n : Nat} {f : Int → Option Value} (h : MapV w b n f) {k : Int} (hk : I64 k) (hv : f k = none) : (Instr.lookup 56 (.map (some b)) (.int .i64 k) true).run Try.prog w = .ok (.tuple #[.slice none 0 0, .bool false]) w := by
  rw [h.look hk, hv]
  rfl
theorem made_nought {w w1 : World} (hown : w1.ownsRow w.heap.size 5 1 (.slice (some ⟨w.heap.size, 0, none⟩) 512 512) 512 (madeCells (Value.int .u8 0).cells (512 * 1)).toList) :
    w1.ownsRow w.heap.size 5 1 (.slice (some ⟨w.heap.size, 0, none⟩) 512 512) 512 (bc nought) := by
  have hL : nought.length = 512 := fill_length 0
  have e : (madeCells (Value.int .u8 0).cells (512 * 1)).toList = bc nought := by
    refine cells_all nought _ ?_ (fun j hj => ?_)
    · rw [hL]; exact hown.1
    · rw [show (Value.int .u8 0).cells = #[Value.int .u8 0] from rfl, toList_madeCells_one, List.getElem?_replicate, if_pos (by omega)]
      have := fill_at 0 j hj
      unfold nought
      rw [this]
      rfl
  rw [e] at hown
  exact hown
theorem row_cont {w w' : World} {L : List UInt8} {cap g n : Nat} {T : Nat → Prop} (hL : L.length = 512) (hn : n ≤ g) (hw : w.heap.size = n) (ho : w'.ownsRow n 5 1 (.slice (some ⟨g, 0, none⟩) 512 cap) 512 (bc L)) (hb : Below n w w') :
    Cont w T L (.returned (.slice (some ⟨g, 0, none⟩) 512 cap)) w' := by
  subst hw
  rcases ho.2 with ⟨e, _⟩ | ⟨g', cap', cur, e, h1, h2, h3, _⟩
  · cases e
  · cases e
    refine ⟨g, 0, cap, rfl, h3, .inr hn, lt_block h2, fun j u hu => ?_, hb⟩
    have := ho.cells (g := g) rfl j u hu
    rw [add_lit] at this
    exact this
set_option maxHeartbeats 400000 in
theorem lasting_gen (w : World) (p fb nf : Nat) (F : Int → Option Value) (T : Nat → Prop) (n : Int) (X : List UInt8) (hn : I64 n) (c1 : w.cell? ⟨p, 1, none⟩ = some (.map (some fb))) (hm : MapV w fb nf F) (hl : X.length = 512)
    (h0 : F n = none → X = nought) (h1 : ∀ v, F n = some v → ∃ g, T g ∧ BytesIn w v X (some g)) : Calls Try.prog 49 #[.pointer (some ⟨p, 0, none⟩), .int .i64 n] w fun e w' => Cont w T X e w' := by
  obtain ⟨i0, hi, hz0, hz1, hz2⟩ := info_parts Try.info_u8
  cases hF : F n with
  | none =>
    have hk := lookN hm hn hF
    have HN : Hid (X = nought) := h0 hF
    clear hm hl h0 h1
    go_enter Try.func49, Try.ntmps49
    go_wp2_with (at_make; refine wpList_make_full _ rfl (.const (.int .i64 512)) (.const (.int .i64 512)) 42 rfl w.heap.size 5 i0 (.int .u8 0) 1 Try.underlying42 hi hz0 hz1 .i64 .i64 512 512 512 rfl rfl rfl rfl (by rw [hz2]; omega) (by unfold maxLen; omega) (Nat.le_refl _) ?_; intro w1 hown hgrow)
    go_ret
    rw [HN.out]
    exact row_cont nought_length (Nat.le_refl _) rfl (made_nought hown) ((Below.refl _ _).grown hgrow (Nat.le_refl _) (fun k hk => by cases hk))
  | some v =>
    have hk := lookM hm hn hF
    obtain ⟨g, hT, hB⟩ := h1 v hF
    obtain ⟨off, cap, rfl, h2, h3, h4⟩ := hB.at512 hl
    have HC : Hid (∀ j u, (bc X)[j]? = some u → w.cell? ⟨g, off + j, none⟩ = some u) := h4
    clear hm hl hB h4 h0 h1
    go_enter Try.func49, Try.ntmps49
    go_wp2
    go_ret
    exact ⟨g, off, cap, rfl, h2, .inl hT, h3, HC.out, Below.refl _ _⟩
theorem lasting_calls (w : World) (p : Nat) (D : DS) (r : DR) (T : Nat → Prop) (n : Int) (h : Dev w p D r T) (hn : I64 n) : Calls Try.prog 49 #[.pointer (some ⟨p, 0, none⟩), .int .i64 n] w fun e w' => Cont w T (D.fl n) e w' :=
  lasting_gen w p r.fb r.nf r.F T n (D.fl n) hn (cell10 h.blk).2.1 h.mf (h.ok.lf n) (h.noF n) (h.atF n)
theorem DS.still_at {D : DS} (h : D.Ok) {n : Int} (hn : n ∉ D.loose) : D.nw n = D.fl n := h.still n hn
set_option maxHeartbeats 400000 in
theorem newest_calls (w : World) (p : Nat) (D : DS) (r : DR) (T : Nat → Prop) (n : Int) (h : Dev w p D r T) (hn : I64 n) : Calls Try.prog 44 #[.pointer (some ⟨p, 0, none⟩), .int .i64 n] w fun e w' => Cont w T (D.nw n) e w' := by
  obtain ⟨c0, c1, c2, _⟩ := cell10 h.blk
  have hl := h.ok.ln n
  cases hF : r.L n with
  | none =>
    have hk := lookN h.ml hn hF
    have hN := h.ok.still n (fun hm => by have := (h.inL n).2 hm; rw [hF] at this; cases this)
    have hc := lasting_calls w p D r T n h hn
    rw [← hN] at hc
    clear h hl hN
    go_enter Try.func44, Try.ntmps44
    go_wp2_with (go_at_call 49; refine hc.mono ?_; rintro e w1 ⟨g, off, cap, rfl, h2, h3, h4, h5, h6⟩)
    go_ret
    exact ⟨g, off, cap, rfl, h2, h3, h4, h5, h6⟩
  | some v =>
    have hk := lookM h.ml hn hF
    obtain ⟨g, hT, hB⟩ := h.atL n v hF
    obtain ⟨off, cap, rfl, h2, h3, h4⟩ := hB.at512 hl
    have HC : Hid (∀ j u, (bc (D.nw n))[j]? = some u → w.cell? ⟨g, off + j, none⟩ = some u) := h4
    clear h hl hB h4
    go_enter Try.func44, Try.ntmps44
    go_wp2
    go_ret
    exact ⟨g, off, cap, rfl, h2, .inl hT, h3, HC.out, Below.refl _ _⟩
/-- What Read hands out: bytes of its own. -/
def Out (w : World) (L : List UInt8) (sv : Value) (w' : World) : Prop :=
  ∃ g cap, sv = .slice (some ⟨g, 0, none⟩) L.length cap ∧ w.heap.size ≤ g ∧ w'.ownsRow w.heap.size 5 1 sv L.length (bc L)
set_option maxHeartbeats 400000 in
theorem read_calls (w : World) (p : Nat) (D : DS) (r : DR) (T : Nat → Prop) (n : Int) (h : Dev w p D r T) (hn : I64 n) : Calls Try.prog 26 #[.pointer (some ⟨p, 0, none⟩), .int .i64 n] w fun e w' =>
    ∃ sv, e = .returned (.tuple #[sv, .int .i64 (D.read n).2]) ∧ ((sv = .slice none 0 0 ∧ (D.read n).1 = []) ∨ Out w (D.read n).1 sv w') ∧ Below w.heap.size w w' := by
  obtain ⟨c0, c1, c2, c3, c4, c5, _⟩ := cell10 h.blk
  have hl := h.ok.ln n
  have hh := has_calls w p D r T n h
  cases hd : D.down with
  | true =>
    rw [hd] at c5
    have R : Hid (D.read n = ([], 11)) := by show _ = _; unfold DS.read; rw [if_pos hd]
    clear h hl hh hd
    go_enter Try.func26, Try.ntmps26
    go_wp2
    go_ret2
    exact ⟨.slice none 0 0, by rw [R.out]; rfl, .inl ⟨rfl, by rw [R.out]⟩, Below.refl _ _⟩
  | false =>
    rw [hd] at c5
    cases hb : D.hasB n with
    | false =>
      have R : Hid (D.read n = ([], 1)) := by
        show _ = _
        unfold DS.read
        unfold DS.hasB at hb
        simp at hb
        rw [if_neg (by rw [hd]; simp), if_pos (by omega)]
      rw [hb] at hh
      clear h hl hd hb
      go_enter Try.func26, Try.ntmps26
      go_wp2_with (go_at_call 42; refine hh.mono ?_; rintro e w1 ⟨rfl, rfl⟩)
      go_ret2
      exact ⟨.slice none 0 0, by rw [R.out]; rfl, .inl ⟨rfl, by rw [R.out]⟩, Below.refl _ _⟩
    | true =>
      have R : Hid (D.read n = (D.nw n, 0)) := by
        show _ = _
        unfold DS.read
        unfold DS.hasB at hb
        simp at hb
        rw [if_neg (by rw [hd]; simp), if_neg (by omega)]
      rw [hb] at hh
      have hc := newest_calls w p D r T n h hn
      have HL : Hid ((D.nw n).length = 512) := hl
      clear h hl hd hb
      go_enter Try.func26, Try.ntmps26
      go_wp2_with (first | (go_at_call 42; refine hh.mono ?_; rintro e w1 ⟨rfl, rfl⟩) | (go_at_call 44; refine hc.mono ?_; rintro e w1 ⟨g, off, cap, rfl, h2, h3, h4, h5, h6⟩; have hcl := clone_calls w1 g off cap (D.nw n) (by rw [HL.out]; omega) (by rw [HL.out]; omega) h5; rw [HL.out] at hcl) | (go_at_call 43; refine hcl.mono ?_; rintro e w2 ⟨g2, cap2, rfl, k2, k3, k4⟩))
      go_ret2
      have hs := h6.size
      refine ⟨.slice (some ⟨g2, 0, none⟩) (D.nw n).length cap2, by rw [R.out]; rfl, .inr ?_, h6.trans (k4.mono hs)⟩
      rw [R.out]
      refine ⟨g2, cap2, rfl, by omega, ?_⟩
      rcases k3.2 with ⟨e, _⟩ | ⟨g', c', cur, e, x1, x2⟩
      · cases e
      · cases e
        exact ⟨k3.1, .inr ⟨g2, cap2, cur, rfl, by omega, x2⟩⟩
end Go.Proofs.Ytmemhckkfhlnmaa
