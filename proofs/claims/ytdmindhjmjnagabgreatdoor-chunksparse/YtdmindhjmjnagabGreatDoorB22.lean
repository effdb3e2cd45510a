import Derived.Test.YtdmindhjmjnagabGreatDoorSi
import Derived.Test.YtdmindhjmjnagabGreatDoorB21
import Derived.Test.YtdmindhjmjnagabGreatDoorB08
import Derived.Test.YtdmindhjmjnagabGreatDoorB16
import Derived.Deep.LoopGhost
import Derived.Lib.VarintMem
import Derived.Shelf.SlSortCmp.NoneTotal
/- Plain of package view: NewPlain, find, Get, Len. -/
namespace Go.Proofs.YtdmindhjmjnagabGreatDoor
set_option linter.unusedVariables false
set_option maxRecDepth 100000
open Go.RowKit

/-- A plain base in memory: block p holds the slice v of the map's pairs. -/
structure PlIn (w : World) (p : Nat) (v : Value) (L : List Pa) : Prop where
  blk : w.heap[p]? = some (.cells #[v] 66 (0, 0))
  sl : Sl encP w v L
  asc : Asc Pa.n L
theorem PlIn.lt {w : World} {p : Nat} {v : Value} {L : List Pa} (h : PlIn w p v L) : p < w.heap.size := lt_of_block h.blk
theorem PlIn.called {w y : World} {p : Nat} {v : Value} {L : List Pa} (h : PlIn w p v L) (b : Below w.heap.size w y) : PlIn y p v L := ⟨(b.block p h.lt).trans h.blk, h.sl.called b, h.asc⟩
theorem PlIn.cell {w : World} {p : Nat} {v : Value} {L : List Pa} (h : PlIn w p v L) : w.cell? ⟨p, 0, none⟩ = some v := by rw [cell_of_row _ _ 0 _ _ _ h.blk]; rfl
set_option maxHeartbeats 1000000 in
theorem newPlain_calls (w : World) (u : Value) (l : List Pa) (h : Sl encP w u l) (hl : l.length ≤ 10000) :
    Calls Tryz.prog 11 #[u] w fun e w' => ∃ p v m, e = .returned (.pointer (some ⟨p, 0, none⟩)) ∧ PlIn w' p v m ∧ MapIs l m ∧ m.length ≤ l.length ∧ w.heap.size ≤ p ∧ Below w.heap.size w w' := by
  have hM := map_calls w u l h hl
  clear h
  go_enter Tryz.func11, Tryz.ntmps11
  go_wp2_with (first
    | (go_at_call 27; refine hM.mono ?_; clear hM; rintro e w1 ⟨v, m, rfl, h1, i1, l1, b1⟩
       have s1 := h1.slB
       obtain ⟨ad, cap, rfl, hcap, hmax, -, -⟩ := id s1))
  go_ret
  have BX : Below w1.heap.size w1 (w1.alloc (.cells #[.slice ad m.length cap] 66)) := (Below.refl _ w1).alloc (Nat.le_refl _) _
  exact ⟨_, _, m, rfl, ⟨heap_alloc_new _ _, Sl.called s1 BX, i1.1⟩, i1, l1, b1.size, b1.trans (BX.mono b1.size)⟩
/-- What find holds. -/
structure FdS (w y : World) (p : Nat) (v : Value) (L : List Pa) (K : List UInt8) : Prop where
  bel : Below w.heap.size w y
  pl : PlIn y p v L
  box : Has y w.heap.size K
theorem FdS.called {w y z : World} {p : Nat} {v : Value} {L : List Pa} {K : List UInt8} (h : FdS w y p v L K) (b : Below y.heap.size y z) : FdS w z p v L K := ⟨h.bel.trans (b.mono h.bel.size), h.pl.called b, h.box.below b h.box.lt⟩
theorem FdS.drew {w y : World} {p : Nat} {v : Value} {L : List Pa} {K : List UInt8} (h : FdS w y p v L K) : FdS w y.drew p v L K := h.called ⟨rfl, rfl, rfl, Nat.le_refl _, fun _ _ => rfl⟩
theorem FdS.key {w y : World} {p : Nat} {v : Value} {L : List Pa} {K : List UInt8} (h : FdS w y p v L K) : y.rangeAt w.heap.size 0 (bc K) := fun j v hv => by
  rw [Nat.zero_add, cell_of_row _ _ _ _ _ _ h.box.blk]
  simpa using hv
set_option maxHeartbeats 4000000 in
theorem find_calls (w : World) (p : Nat) (v : Value) (L : List Pa) (K : Kz) (h : PlIn w p v L) (hl : L.length ≤ 100000) :
    Calls Tryz.prog 153 #[.pointer (some ⟨p, 0, none⟩), kv K.k] w fun e w' => e = .returned (.tuple #[.int .i64 (posA Pa.n L K.n : Int), .bool (hitA Pa.n L K.n)]) ∧ Below w.heap.size w w' := by
  have b1 : Below w.heap.size w (w.alloc (.cells (bc K.k).toArray 31)) := (Below.refl _ w).alloc (Nat.le_refl _) _
  have HS : Hid (FdS w (w.alloc (.cells (bc K.k).toArray 31)) p v L K.k) := ⟨b1, h.called b1, Has.new w K.k K.h⟩
  have hOR : Hid (∀ y, FdS w y p v L K.k → Calls Tryz.prog 68 #[v, kv K.k, .func (Fn.func 155) #[] #[]] y fun e w' => e = .returned (.tuple #[.int .i64 (posA Pa.n L K.n : Int), .bool (hitA Pa.n L K.n)]) ∧ Below y.heap.size y w') := fun y hy => bsearch_calls y v L K hy.pl.sl hy.pl.asc hl
  have HCK : Hid ((Tryz.prog.info? 31).map (·.size) = some 24) := Tryz.key_info
  have HKL : Hid ((bc K.k).length = 24) := by show _ = _; rw [bc_length, K.h]
  obtain ⟨ad, cap, rfl, -, -, -, -⟩ := id h.sl
  generalize posA Pa.n L K.n = pos at *
  generalize hitA Pa.n L K.n = hit at *
  clear h b1
  go_enter Tryz.func153, Tryz.ntmps153
  go_upto_region 1 with fail
  refine wp_region_noPanic ?_
  refine wp_region_held_drew (S := (fun y => FdS w y p (.slice ad L.length cap) L K.k)) (by kernel_rfl) (HS.out.drew) (fun hHeld => ?_)
  refine wpAnyH_take (i := 0) (v := ?_) rfl (by kernel_rfl) (by kernel_rfl) (by kernel_rfl) (fun _ _ _ h => h) (Or.inl ⟨by rfl, ?_⟩) hHeld ?_
  case refine_2 => (intro w hSw; (try dsimp only at hSw); go_simp; try (with_reducible rfl))
  (try simp only [gs])
  refine wpAnyH_take (i := 1) (v := ?_) rfl (by kernel_rfl) (by kernel_rfl) (by kernel_rfl) (fun _ _ _ h => h) (Or.inl ⟨by rfl, ?_⟩) hHeld ?_
  case refine_2 => (intro w hSw; (try dsimp only at hSw); go_simp; try (with_reducible rfl))
  (try simp only [gs])
  refine wpAnyH_take (i := 2) (v := ?_) rfl (by kernel_rfl) (by kernel_rfl) (by kernel_rfl) (fun _ _ _ h => h) (Or.inl ⟨by rfl, ?_⟩) hHeld ?_
  case refine_2 => (intro w hSw; (try dsimp only at hSw); go_simp; try (with_reducible rfl))
  (try simp only [gs])
  refine wpAnyH_take (i := 3) (v := ?_) rfl (by kernel_rfl) (by kernel_rfl) (by kernel_rfl) (fun _ _ _ h => h) (Or.inl ⟨by rfl, ?_⟩) hHeld ?_
  case refine_2 => (intro w hSw; (try dsimp only at hSw); have hc := hSw.pl.cell; go_simp; try (with_reducible rfl))
  (try simp only [gs])
  refine wpAnyH_take (i := 4) rfl (by kernel_rfl) (by kernel_rfl) (by kernel_rfl) (fun _ _ _ h => h) (yieldsIf_load_mid (by rfl) _ _ rfl _ _ rfl _ _ (fun y h => FdS.key h) Tryz.underlying31 rfl (by rw [HKL.out]; exact HCK.out)) hHeld ?_
  (try simp only [gs])
  generalize (w.alloc (.cells (bc K.k).toArray 31)).drew = y1 at *
  refine wpAnyH_ready (rs := [5]) (by kernel_rfl) (by simp) (AllReadyH.cons rfl (fun K hK => ?_) AllReadyH.nil)
  rw [if_pos (by rfl)]
  (try simp only [gs])
  go_simp
  refine (hOR.out _ hHeld).mono ?_
  rintro e y2 ⟨rfl, b1⟩
  refine hK.out _ _ (hHeld.called b1) (fun g1 => ?_)
  clear hK K
  (try simp only [gs])
  refine wpAnyH_take (i := 6) (v := ?_) rfl (by kernel_rfl) (by kernel_rfl) (by kernel_rfl) (fun _ _ _ h => h) (Or.inl ⟨by rfl, ?_⟩) g1 ?_
  case refine_2 => (intro w hSw; (try dsimp only at hSw); go_simp; try (with_reducible rfl))
  (try simp only [gs])
  refine wpAnyH_take (i := 7) (v := ?_) rfl (by kernel_rfl) (by kernel_rfl) (by kernel_rfl) (fun _ _ _ h => h) (Or.inl ⟨by rfl, ?_⟩) g1 ?_
  case refine_2 => (intro w hSw; (try dsimp only at hSw); go_simp; try (with_reducible rfl))
  (try simp only [gs])
  refine wpAnyH_take (i := 8) (v := ?_) rfl (by kernel_rfl) (by kernel_rfl) (by kernel_rfl) (fun _ _ _ h => h) (Or.inl ⟨by rfl, ?_⟩) g1 ?_
  case refine_2 => (intro w hSw; (try dsimp only at hSw); go_simp; try (with_reducible rfl))
  (try simp only [gs])
  refine wpAnyH_take (i := 9) (v := ?_) rfl (by kernel_rfl) (by kernel_rfl) (by kernel_rfl) (fun _ _ _ h => h) (Or.inl ⟨by rfl, ?_⟩) g1 ?_
  case refine_2 => (intro w hSw; (try dsimp only at hSw); go_simp; try (with_reducible rfl))
  (try simp only [gs])
  refine wpAnyH_done (by kernel_rfl) ?_ _
  refine NoPanic.normal ?_
  have HG1 : Hid (Below w.heap.size w y2) := g1.bel
  clear g1 hHeld b1 hOR HS
  go_wp2_with fail
  go_ret2
  exact ⟨rfl, HG1.out⟩
/-- What Get of a base answers. -/
def gotV : Option Pa → Value
  | none => .tuple #[.string ⟨#[]⟩, .bool false, .int .i64 0]
  | some x => .tuple #[.string (str x.v), .bool true, .int .i64 0]
set_option maxHeartbeats 4000000 in
theorem pget_calls (w : World) (p : Nat) (v : Value) (L : List Pa) (K : Kz) (h : PlIn w p v L) (hl : L.length ≤ 100000) :
    Calls Tryz.prog 150 #[.pointer (some ⟨p, 0, none⟩), kv K.k] w fun e w' => e = .returned (gotV (look Pa.n L K.n)) ∧ Below w.heap.size w w' := by
  have b1 : Below w.heap.size w (w.alloc (.cells (bc K.k).toArray 31)) := (Below.refl _ w).alloc (Nat.le_refl _) _
  have hk1 : Has (w.alloc (.cells (bc K.k).toArray 31)) w.heap.size K.k := Has.new w K.k K.h
  have h1 := h.called b1
  have hF := find_calls _ p v L K h1 hl
  have HB : Hid (Below w.heap.size w (w.alloc (.cells (bc K.k).toArray 31))) := b1
  have H1 : Hid (PlIn (w.alloc (.cells (bc K.k).toArray 31)) p v L) := h1
  have HLK := hitA_look Pa.n K.n h.asc
  cases hh : hitA Pa.n L K.n with
  | false =>
    rw [hh] at hF HLK
    have HL : Hid (look Pa.n L K.n = none) := (show _ = _ by simpa using HLK)
    generalize posA Pa.n L K.n = pos at *
    clear h h1 b1 HLK hh
    go_enter Tryz.func150, Tryz.ntmps150
    go_wp2_with (first
      | (refine load_key _ rfl w.heap.size rfl rfl K.k hk1 ?_)
      | (go_at_call 153; refine hF.mono ?_; clear hF; rintro e w1 ⟨rfl, b2⟩))
    go_ret3
    exact ⟨by rw [HL.out]; rfl, HB.out.trans (b2.mono HB.out.size)⟩
  | true =>
    rw [hh] at hF HLK
    simp only [if_true] at HLK
    have hpos : posA Pa.n L K.n < L.length := by
      unfold hitA at hh
      have := of_decide_eq_true hh
      cases hq : L[posA Pa.n L K.n]? with
      | none => rw [hq] at this; cases this
      | some x => exact (List.getElem?_eq_some_iff.1 hq).1
    rw [List.getElem?_eq_getElem hpos] at HLK
    have hs1 := h1.sl
    have hcl := h1.cell
    obtain ⟨ad, cap, rfl, hcap, hmax, -, -⟩ := id hs1
    obtain ⟨g0, off, rfl, hg0, hat⟩ := SlB.at hs1 _ hpos
    have hv := (range_vP hat)
    generalize L[posA Pa.n L K.n] = x at *
    have HL : Hid (look Pa.n L K.n = some x) := HLK
    generalize posA Pa.n L K.n = pos at *
    have hpI : (pos : Int) < (L.length : Int) := by omega
    have hp0 : (0 : Int) ≤ (pos : Int) := by omega
    have HC1 : Hid (∀ y, Below (w.alloc (.cells (bc K.k).toArray 31)).heap.size (w.alloc (.cells (bc K.k).toArray 31)) y → y.cell? ⟨p, 0, none⟩ = some (.slice (some ⟨g0, off, none⟩) L.length cap) ∧ y.cell? ⟨g0, off + pos * 25 + 24, none⟩ = some (.string (str x.v))) := fun y hy => ⟨(hy.cell (p := ⟨p, 0, none⟩) h1.lt).trans hcl, (hy.cell (p := ⟨g0, off + pos * 25 + 24, none⟩) hg0).trans hv⟩
    clear h h1 b1 HLK hh hs1 hcl hat hv hpos
    go_enter Tryz.func150, Tryz.ntmps150
    go_wp2_with (first
      | (refine load_key _ rfl w.heap.size rfl rfl K.k hk1 ?_)
      | (go_at_call 153; refine hF.mono ?_; clear hF; rintro e w1 ⟨rfl, b2⟩
         obtain ⟨c1, c2⟩ := HC1.out w1 b2
         clear HC1))
    go_ret3
    exact ⟨by rw [HL.out]; rfl, HB.out.trans (b2.mono HB.out.size)⟩
end Go.Proofs.YtdmindhjmjnagabGreatDoor
/- What a plain base's Scan takes out of a rising list (mathematics). -/
namespace Go.Proofs.YtdmindhjmjnagabGreatDoor
set_option linter.unusedVariables false
set_option maxRecDepth 100000

theorem posA_from {α : Type} (key : α → Int) : ∀ (l : List α) (x : Int), Asc key l → ∀ j (hj : j < l.length), posA key l x ≤ j → x ≤ key l[j]
  | [], _, _, j, hj, _ => by cases hj
  | a :: r, x, h, j, hj, hp => by
    by_cases ha : key a < x
    · rw [posA_lt key ha] at hp
      cases j with
      | zero => omega
      | succ j =>
        have := posA_from key r x (List.pairwise_cons.1 h).2 j (by simpa using hj) (by omega)
        simpa using this
    · cases j with
      | zero => simp; omega
      | succ j =>
        have := (List.pairwise_cons.1 h).1 (r[j]'(by simpa using hj)) (List.getElem_mem _)
        simp only [List.getElem_cons_succ]
        omega
theorem posA_ahead {α : Type} (key : α → Int) (l : List α) (x : Int) : ∀ a ∈ l.take (posA key l x), key a < x := by
  intro a ha
  have e : l.take (posA key l x) = l.takeWhile (fun a => decide (key a < x)) := ((List.prefix_iff_eq_take).1 (List.takeWhile_prefix _)).symm
  rw [e] at ha
  have : ∀ (l : List α), a ∈ l.takeWhile (fun a => decide (key a < x)) → key a < x := by
    intro l
    induction l with
    | nil => intro h; cases h
    | cons b r ih =>
      intro h
      by_cases hb : key b < x
      · rw [List.takeWhile_cons_of_pos (by simpa using hb)] at h
        rcases List.mem_cons.1 h with rfl | h
        · exact hb
        · exact ih h
      · rw [List.takeWhile_cons_of_neg (by simpa using hb)] at h
        cases h
  exact this l ha
/-- The pairs of a span. -/
def scanL (s : Sp) (L : List Pa) : List Pa := L.filter fun x => s.inb x.n
theorem scan_filter {L : List Pa} (ha : Asc Pa.n L) (s : Sp) (b : Nat) (hab : posA Pa.n L (num s.F) ≤ b) (hb : b ≤ L.length)
    (hin : ∀ j (hj : j < L.length), posA Pa.n L (num s.F) ≤ j → j < b → s.inb (L[j]).n = true) (hout : ∀ h : b < L.length, s.inb (L[b]).n = false) :
    (L.take b).drop (posA Pa.n L (num s.F)) = scanL s L := by
  generalize hA : posA Pa.n L (num s.F) = a at *
  have e1 : L = L.take a ++ ((L.take b).drop a ++ L.drop b) := by
    have h1 : L.take a = (L.take b).take a := by rw [List.take_take, Nat.min_eq_left hab]
    rw [← List.append_assoc, h1, List.take_append_drop, List.take_append_drop]
  have f1 : (L.take a).filter (fun x => s.inb x.n) = [] := by
    rw [List.filter_eq_nil_iff]
    intro x hx
    have := posA_ahead Pa.n L (num s.F) x (by rw [hA]; exact hx)
    unfold Sp.inb
    rw [decide_eq_false (by omega)]
    simp
  have f2 : ((L.take b).drop a).filter (fun x => s.inb x.n) = (L.take b).drop a := by
    rw [List.filter_eq_self]
    intro x hx
    obtain ⟨i, hi, rfl⟩ := List.mem_iff_getElem.1 hx
    rw [List.length_drop, List.length_take] at hi
    rw [List.getElem_drop, List.getElem_take]
    exact hin (a + i) (by omega) (by omega) (by omega)
  have f3 : (L.drop b).filter (fun x => s.inb x.n) = [] := by
    rw [List.filter_eq_nil_iff]
    intro x hx
    obtain ⟨i, hi, rfl⟩ := List.mem_iff_getElem.1 hx
    rw [List.length_drop] at hi
    rw [List.getElem_drop]
    have h1 := hout (by omega)
    have h2 := posA_from Pa.n L (num s.F) ha b (by omega) (by omega)
    have h3 : (L[b]'(by omega)).n ≤ (L[b + i]'(by omega)).n := by
      rcases Nat.eq_zero_or_pos i with rfl | hp
      · exact Int.le_refl _
      · exact Int.le_of_lt (List.pairwise_iff_getElem.1 ha b (b + i) (by omega) (by omega) (by omega))
    unfold Sp.inb at h1 ⊢
    rw [decide_eq_true h2, Bool.true_and, Bool.or_eq_false_iff] at h1
    have h4 := of_decide_eq_false h1.2
    rw [decide_eq_true (by omega), h1.1, Bool.false_or, decide_eq_false (by omega)]
    simp
  unfold scanL
  conv => rhs; rw [e1]
  rw [List.filter_append, List.filter_append, f1, f2, f3]
  simp
theorem scan_look {L : List Pa} (ha : Asc Pa.n L) (s : Sp) : Asc Pa.n (scanL s L) ∧ ∀ x, look Pa.n (scanL s L) x = if s.inb x then look Pa.n L x else none := by
  refine ⟨List.Pairwise.sublist List.filter_sublist ha, fun x => ?_⟩
  unfold scanL
  induction L with
  | nil => simp [look]
  | cons a r ih =>
    have ih' := ih (List.pairwise_cons.1 ha).2
    by_cases hi : s.inb a.n
    · rw [List.filter_cons_of_pos (p := fun x : Pa => s.inb x.n) hi]
      simp only [look]
      rw [ih']
      by_cases hx : a.n = x
      · subst hx; simp [hi]
      · simp [hx]
    · rw [List.filter_cons_of_neg (p := fun x : Pa => s.inb x.n) hi, ih']
      simp only [look]
      by_cases hx : a.n = x
      · subst hx; simp [hi]
      · simp [hx]
end Go.Proofs.YtdmindhjmjnagabGreatDoor
/- What is told of edges: the closures that append them, look. -/
namespace Go.Proofs.YtdmindhjmjnagabGreatDoor
set_option linter.unusedVariables false
set_option maxRecDepth 100000
open Go.RowKit

theorem build_to {ops : Array Oper} {rest : List Oper} {o : Oper} {a : Act} {w : World} {Q : Exit → Act → World → Prop} (hg : o.guard = none) (ty : TypeId) (parts : Array (Nat × Operand)) (ho : o.op = .build ty parts) (vs : List (Nat × Value)) (hv : (parts.map fun x => (x.1, a.eval x.2)).toList = vs) (C : Array Value) (hb : Tryz.prog.built ty vs = some C)
    (h : wpList Tryz.prog ops Q rest (a.put o.dst (.agg C)) w) : wpList Tryz.prog ops Q (o :: rest) a w := by
  subst hv
  refine wpList_plain hg fun K hK => ?_
  refine wp_build ty parts ho (by rw [show (fun x : Nat × Operand => match x with | (i, x) => (i, a.eval x)) = (fun x => (x.1, a.eval x.2)) from rfl, hb]; rfl) ?_
  rw [show (fun x : Nat × Operand => match x with | (i, x) => (i, a.eval x)) = (fun x => (x.1, a.eval x.2)) from rfl, hb]
  exact hK _ _ h
theorem build_two {ops : Array Oper} {rest : List Oper} {o : Oper} {a : Act} {w : World} {Q : Exit → Act → World → Prop} (hg : o.guard = none) (ty : TypeId) (i j : Nat) (x y : Operand) (ho : o.op = .build ty #[(i, x), (j, y)]) (vx vy : Value) (hx : a.eval x = vx) (hy : a.eval y = vy) (C : Array Value) (hb : Tryz.prog.built ty [(i, vx), (j, vy)] = some C)
    (h : wpList Tryz.prog ops Q rest (a.put o.dst (.agg C)) w) : wpList Tryz.prog ops Q (o :: rest) a w := build_to hg ty _ ho [(i, vx), (j, vy)] (by simp [hx, hy]) C hb h
def ed0 : Ed := ⟨zs 24, 0, 0, rfl⟩
theorem ecd_put (K : List UInt8) (hK : K.length = 24) (a b : Int) : ((ecd ed0).toArray.toList.take 0 ++ (kv K).cells.toList ++ (ecd ed0).toArray.toList.drop (0 + 24)).toArray = (ecd ⟨K, 0, 0, hK⟩).toArray := by
  simp only [ecd, Value.cells, List.take_zero, List.nil_append, Nat.zero_add]
  rfl
theorem Touch.grown' {p : Nat} {r : Option Nat} {w w' w2 w3 : World} (h : Touch p r w w') (b : Below w'.heap.size w' w2) (g : w2.grownBy w3 r) : Touch p r w w3 :=
  Touch.grown ⟨b.os.trans h.os, b.tape.trans h.tape, b.output.trans h.output, Nat.le_trans h.size b.size, fun k hk hp hr => (b.block k (by have := h.size; omega)).trans (h.block k hk hp hr)⟩ g
end Go.Proofs.YtdmindhjmjnagabGreatDoor
/- look: the edges of all spans of a list are told. -/
namespace Go.Proofs.YtdmindhjmjnagabGreatDoor
set_option linter.unusedVariables false
set_option maxRecDepth 100000
open Go.RowKit

def sp0 : Sp := ⟨zs 24, zs 24, false, rfl, rfl⟩
theorem wrap_next {k N : Nat} (h : k < N) (hN : N ≤ maxLen) : wrap64 ((k : Int) + 1) = ((k + 1 : Nat) : Int) := by unfold maxLen at hN; unfold wrap64; omega
theorem looks_take (mk : (K : List UInt8) → K.length = 24 → Int → Ed) (l : List Sp) (k : Nat) (h : k < l.length) : looks mk (l.take (k + 1)) = looks mk (l.take k) ++ tells mk l[k] := by
  rw [List.take_succ_eq_append_getElem h, looks_snoc]
end Go.Proofs.YtdmindhjmjnagabGreatDoor
/- turn: the set is turned on or off at a key. -/
namespace Go.Proofs.YtdmindhjmjnagabGreatDoor
set_option linter.unusedVariables false
set_option maxRecDepth 100000
open Go.RowKit

theorem ownsRow_setCells {base size n cap g : Nat} {e : TypeId} : ∀ (vs : List Value) (o : Nat) (w : World) (xs : List Value), w.ownsRow base e size (.slice (some ⟨g, 0, none⟩) n cap) n xs → o + vs.length ≤ xs.length →
    (w.setCells g o vs).ownsRow base e size (.slice (some ⟨g, 0, none⟩) n cap) n (xs.take o ++ vs ++ xs.drop (o + vs.length)) ∧ w.grownBy (w.setCells g o vs) (some g)
  | [], o, w, xs, h, _ => ⟨by rw [World.setCells]; simpa using h, ⟨rfl, rfl, rfl, Nat.le_refl _, fun _ _ _ => rfl⟩⟩
  | v :: vs, o, w, xs, h, hl => by
    obtain ⟨h1, h2⟩ := h.stored o v
    obtain ⟨h3, h4⟩ := ownsRow_setCells vs (o + 1) _ (xs.set o v) h1 (by simp at hl ⊢; omega)
    refine ⟨?_, h2.trans h4⟩
    have e := list_seg_step xs o v vs (by simpa using hl)
    rw [World.setCells]
    rw [e] at h3
    exact h3
theorem Own.of {α : Type} {k : Nat} {E : Enc α k} {ty : TypeId} {w : World} {base n : Nat} {v : Value} {l : List α} {xs : List Value} (hn : n = l.length) (hx : xs = E.flat l) (h : w.ownsRow base ty k v n xs) : Own E ty w base v l := by
  subst hn hx
  exact h
theorem Own.to {α : Type} {k : Nat} {E : Enc α k} {ty : TypeId} {w : World} {base n : Nat} {v : Value} {l : List α} (h : Own E ty w base v l) (hn : n = l.length) : w.ownsRow base ty k v n (E.flat l) := by
  subst hn
  exact h
theorem own_last {w : World} {base : Nat} {g cap : Nat} {I : List Sp} {s : Sp} (h : Own encS 33 w base (.slice (some ⟨g, 0, none⟩) (I.length + 1) cap) (I ++ [s])) (K : List UInt8) (hK : K.length = 24) :
    Own encS 33 (w.setCells g (I.length * 49 + 24) (bc K ++ [.bool false])) base (.slice (some ⟨g, 0, none⟩) (I.length + 1) cap) (I ++ [⟨s.F, K, false, s.hF, hK⟩]) ∧ w.grownBy (w.setCells g (I.length * 49 + 24) (bc K ++ [.bool false])) (some g) := by
  have hl : (I ++ [s]).length = I.length + 1 := by simp
  have hfl : (encS.flat (I ++ [s])).length = I.length * 49 + 49 := by rw [encS.flat_length, hl, Nat.add_mul, Nat.one_mul]
  have hbl : (bc K ++ [Value.bool false]).length = 25 := by rw [List.length_append, bc_length, hK]; rfl
  obtain ⟨h1, h2⟩ := ownsRow_setCells (bc K ++ [.bool false]) (I.length * 49 + 24) w _ (h.to hl.symm) (by rw [hfl, hbl]; omega)
  have hF : (bc s.F).length = 24 := by rw [bc_length, s.hF]
  have hfI : (encS.flat I).length = I.length * 49 := encS.flat_length I
  refine ⟨Own.of (by simp) ?_ h1, h2⟩
  rw [List.drop_of_length_le (by rw [hfl, hbl]; omega), List.append_nil, encS.flat_append, encS.flat_append, encS.flat_one, encS.flat_one, List.take_append, hfI, List.take_of_length_le (by omega), Nat.add_sub_cancel_left]
  have e1 : (encS.c s).take 24 = bc s.F := by
    show (sc s.F s.T s.e).take 24 = bc s.F
    rw [sc, List.append_assoc (bc s.F), List.take_append_of_le_length (by omega), List.take_of_length_le (by omega)]
  have e2 : encS.c (⟨s.F, K, false, s.hF, hK⟩ : Sp) = bc s.F ++ (bc K ++ [.bool false]) := by
    show sc s.F K false = _
    rw [sc, List.append_assoc]
  rw [e1, e2, List.append_assoc]
theorem Own.frozenAt' {α : Type} {k : Nat} {E : Enc α k} {ty : TypeId} {w : World} {base g n cap : Nat} {l : List α} (h : Own E ty w base (.slice (some ⟨g, 0, none⟩) n cap) l) (j : Nat) : w.frozen? ⟨g, j, none⟩ = false := by
  rcases h.2 with ⟨h', _⟩ | ⟨g', cap', cur, h', _, hg, _⟩
  · cases h'
  · cases h'
    simp [World.frozen?, hg]
/-- What turn comes to. -/
def TurnTo (w : World) (base : Nat) (v : Value) (R : List Sp) (e : Ending) (w' : World) : Prop :=
  ∃ v', e = .returned v' ∧ Own encS 33 w' base v' R ∧ w.grownBy w' v.ownBlock ∧ Near v.ownBlock v'.ownBlock w.heap.size
theorem grown_called {w x y : World} {r : Option Nat} (b : Below w.heap.size w x) (h : x.grownBy y r) : w.grownBy y r :=
  ⟨h.os.trans b.os, h.tape.trans b.tape, h.output.trans b.output, Nat.le_trans b.size h.size, fun k hk hr => (h.block k (by have := b.size; omega) hr).trans (b.block k hk)⟩
theorem grown_self {w x : World} {r : Option Nat} (b : Below w.heap.size w x) : w.grownBy x r := ⟨b.os, b.tape, b.output, b.size, fun k hk _ => b.block k hk⟩
theorem builtOn (K : List UInt8) (hK : K.length = 24) : Tryz.prog.built 33 [(0, kv K), (2, .bool true)] = some (encS.c ⟨K, zs 24, true, hK, rfl⟩).toArray := builtE K true hK
end Go.Proofs.YtdmindhjmjnagabGreatDoor
/- The edges are sorted. -/
namespace Go.Proofs.YtdmindhjmjnagabGreatDoor
set_option linter.unusedVariables false
set_option maxRecDepth 100000
open Go.RowKit Go.Sort

section
variable {α : Type} [Inhabited α] {k : Nat} (E : Enc α k)
theorem flatK_eq (d : Array α) : flatK E.c k d = (E.flat d.toList).toArray := by
  refine ext_get! (by simp [E.flat_length]) fun t ht => ?_
  have ht' : t < d.size * k := by simpa using ht
  have k0 : 0 < k := by
    rcases Nat.eq_zero_or_pos k with h | h
    · subst h; simp at ht'
    · exact h
  have hd : t / k < d.toList.length := by
    rw [Array.length_toList]
    exact Nat.div_lt_of_lt_mul (by rwa [Nat.mul_comm] at ht')
  have hm : t % k < (E.c d.toList[t / k]).length := by rw [E.len]; exact Nat.mod_lt _ k0
  have h1 := E.flat_get d.toList (t / k) (t % k) hd _ (List.getElem?_eq_getElem hm)
  rw [show t / k * k + t % k = t by rw [Nat.mul_comm]; exact Nat.div_add_mod t k] at h1
  rw [get_flatK _ _ _ t ht']
  have h2 : d[t / k]! = d.toList[t / k] := by
    have : t / k < d.size := by simpa using hd
    rw [getElem!_pos d _ this]; rfl
  rw [h2]
  have h3 : (E.c d.toList[t / k])[t % k]! = (E.c d.toList[t / k])[t % k] := getElem!_pos (E.c d.toList[t / k]) (t % k) hm
  rw [h3]
  have h4 := List.getElem?_eq_some_iff.1 h1
  obtain ⟨h5, h6⟩ := h4
  rw [getElem!_pos (E.flat d.toList).toArray t (by simpa using h5)]
  simpa using h6.symm
theorem holds_own {ty : TypeId} {w : World} {base g cap : Nat} {l : List α} (h : Own E ty w base (.slice (some ⟨g, 0, none⟩) l.length cap) l) : HoldsK E.c k w g 0 l.toArray := by
  intro j hj
  rw [flatK_eq] at hj ⊢
  have hj' : j < (E.flat l).length := by simpa using hj
  have h1 := h.cells (g := g) rfl j _ (List.getElem?_eq_getElem hj')
  rw [Addr.add_mid] at h1
  refine ⟨?_, by simpa using h.frozenAt' (0 + j)⟩
  rw [h1, getElem!_pos (E.flat l).toArray j (by simpa using hj')]
  simp
theorem take_put (cur : Array Value) (F : List Value) (h : F.length ≤ cur.size) : (putCells id 0 F.toArray cur).toList.take F.length = F := by
  apply List.ext_getElem?
  intro j
  by_cases hj : j < F.length
  · rw [List.getElem?_take_of_lt hj, Array.getElem?_toList]
    simp [putCells, hj, show j < cur.size by omega]
  · rw [List.getElem?_take_eq_none (by omega), List.getElem?_eq_none (by omega)]
theorem own_sorted {ty : TypeId} {w : World} {base g cap n : Nat} {l : List α} {os : Array Obj} (h : Own E ty w base (.slice (some ⟨g, 0, none⟩) l.length cap) l) (d : Array α) (hd : d.size = l.length) :
    Own E ty (sortWorldK E.c k w g 0 n d os) base (.slice (some ⟨g, 0, none⟩) l.length cap) d.toList ∧ w.grownBy (sortWorldK E.c k w g 0 n d os) (some g) := by
  rcases h.2 with ⟨h0, _⟩ | ⟨g', cap', cur, hv, h2, h3, h4, h5, h6, h7⟩
  · cases h0
  · cases hv
    have hg : g < w.heap.size := lt_of_block h3
    have hlen : (E.flat d.toList).length = l.length * k := by rw [E.flat_length, Array.length_toList, hd]
    have hb : (sortWorldK E.c k w g 0 n d os).heap[g]? = some (.cells (putCells id 0 (E.flat d.toList).toArray cur) ty (0, 0)) := by
      unfold sortWorldK putRowK
      rw [flatK_eq, heap_grow_old _ _ (by simpa using hg)]
      simp [putRow, mapBlock, Array.getElem?_modify, h3, onCells]
    refine ⟨⟨by rw [E.flat_length], .inr ⟨g, cap, _, by rw [show d.toList.length = l.length by simpa using hd], h2, hb, by rw [Array.length_toList, hd]; exact h4, h5, by simp [putCells, h6], ?_⟩⟩, ?_⟩
    · rw [Array.length_toList, hd, ← hlen]
      refine take_put cur _ ?_
      rw [hlen, h6]
      exact Nat.mul_le_mul_right k h4
    · unfold sortWorldK putRowK
      refine ⟨rfl, rfl, rfl, by simp, fun j hj hne => ?_⟩
      rw [heap_grow_old _ _ (by simpa using hj)]
      have : g ≠ j := fun e => hne (by rw [e])
      simp [putRow, mapBlock, Array.getElem?_modify, this]
end
def cfE (x y : Ed) : Int := Lib.compareBytes x.k y.k
theorem ltE (x y : Ed) : ltOf cfE x y = decide (num x.k < num y.k) := by
  unfold ltOf cfE
  rw [← less_num x.k y.k (by rw [x.hk, y.hk]), ← compare_less]
theorem swoE : SWO (ltOf cfE) where
  irrefl x := by rw [ltE]; simp
  trans x y z h1 h2 := by rw [ltE] at *; simp at *; omega
  ntrans x y z h1 h2 := by rw [ltE] at *; simp at *; omega
theorem perm_of {d d' : Array Ed} (h : PermIn 0 d.size d d') : d'.toList.Perm d.toList := by
  obtain ⟨h1, _, h3⟩ := h
  have e1 : (d'.extract 0 d.size).toList = d'.toList := by rw [← h1]; simp
  have e2 : (d.extract 0 d.size).toList = d.toList := by simp
  rwa [e1, e2] at h3
theorem sorted_of {d : Array Ed} (h : SortedIn (ltOf cfE) 0 d.size d) : d.toList.Pairwise (fun e f => num e.k ≤ num f.k) := by
  rw [List.pairwise_iff_getElem]
  intro i j hi hj hij
  have h1 := h i j (Nat.zero_le _) hij (by simpa using hj)
  have e1 : d[i]! = d.toList[i] := by rw [getElem!_pos d i (by simpa using hi)]; rfl
  have e2 : d[j]! = d.toList[j] := by rw [getElem!_pos d j (by simpa using hj)]; rfl
  rw [e1, e2, ltE] at h1
  simp at h1
  simpa using h1
end Go.Proofs.YtdmindhjmjnagabGreatDoor
/- sweep: the set of the keys that keep takes. -/
namespace Go.Proofs.YtdmindhjmjnagabGreatDoor
set_option linter.unusedVariables false
set_option maxRecDepth 100000
open Go.RowKit

theorem exec_ne_key {f : Operand → Value} {o : Oper} (x y : Operand) (t' : TypeId) (ho : o.op = .binOp .neq 31 x y t') (K L : List UInt8) (hx : f x = kv K) (hy : f y = kv L) (hK : K.length = 24) (hL : L.length = 24) (w : World) : (execOp f o).run Tryz.prog w = .ok (.value (.bool (!(K == L)))) w := by
  unfold execOp
  rw [ho]
  have hm : Tryz.prog.eqGuardType Tryz.prog.depth 31 = false := by kernel_rfl
  simp only [hx, hy, Sem.run_bind, run_eqGuard_agg w .neq 31 x y _ _ hm, run_neq_struct, eq_key w K L hK hL, Result.andThen_ok, Sem.run_pure]
/-- What the loop over the edges carries. -/
structure Lp (w4 : World) (es : List Ed) (keep : Bool → Bool → Bool) (R : List Sp) (k : Nat) (A B : Int) (S : List Sp) (v : Value) (wr : World) : Prop where
  bel : Below w4.heap.size w4 wr
  own : Own encS 33 wr w4.heap.size v S
  res : goS keep (es.drop k) A B S = R
  a : -(k : Int) ≤ A ∧ A ≤ k
  b : -(k : Int) ≤ B ∧ B ≤ k
  len : S.length ≤ k
def SmallE (e : Ed) : Prop := (-1 ≤ e.a ∧ e.a ≤ 1) ∧ (-1 ≤ e.b ∧ e.b ≤ 1)
theorem looks_small (a b : List Sp) : ∀ e ∈ looks edA a ++ looks edB b, SmallE e := by
  intro e he
  have hh : ∀ (mk : (K : List UInt8) → K.length = 24 → Int → Ed) (l : List Sp), (∀ K hK, SmallE (mk K hK 1)) → (∀ K hK, SmallE (mk K hK (-1))) → ∀ e ∈ looks mk l, SmallE e := fun mk l h1 h2 e he => by
    simp only [looks, List.mem_flatMap] at he
    obtain ⟨s, _, hs⟩ := he
    unfold tells at hs
    split at hs
    · cases hs
    · rcases List.mem_cons.1 hs with rfl | hs
      · exact h1 _ _
      · split at hs
        · cases hs
        · rw [List.mem_singleton] at hs
          subst hs
          exact h2 _ _
  rcases List.mem_append.1 he with he | he
  · exact hh edA a (fun K hK => by simp [SmallE, edA]) (fun K hK => by simp [SmallE, edA]) e he
  · exact hh edB b (fun K hK => by simp [SmallE, edB]) (fun K hK => by simp [SmallE, edB]) e he
theorem closes_last (es : List Ed) (k : Nat) (h : k + 1 = es.length) (e : Ed) : closes (es.drop (k + 1)) e = true := by rw [List.drop_of_length_le (by omega)]; rfl
theorem closes_next (es : List Ed) (k : Nat) (h : k + 1 < es.length) (e : Ed) : closes (es.drop (k + 1)) e = !((es[k + 1]).k == e.k) := by
  rw [List.drop_eq_getElem_cons h, closes]
  by_cases q : (es[k + 1]).k = e.k <;> simp [q]
theorem Lp.step {w4 : World} {es : List Ed} {keep : Bool → Bool → Bool} {R : List Sp} {k : Nat} {A B : Int} {S : List Sp} {v : Value} {wr : World} (h : Lp w4 es keep R k A B S v wr) (hk : k < es.length) (hs : SmallE es[k]) {y : World} {v' : Value} {S' : List Sp} (hb : Below w4.heap.size w4 y) (ho : Own encS 33 y w4.heap.size v' S') (hl : S'.length ≤ S.length + 1)
    (hS : (if closes (es.drop (k + 1)) es[k] then turnP S (es[k]).k (es[k]).hk (keep (decide (0 < A + (es[k]).a)) (decide (0 < B + (es[k]).b))) else S) = S') : Lp w4 es keep R (k + 1) (A + (es[k]).a) (B + (es[k]).b) S' v' y := by
  refine ⟨hb, ho, ?_, ?_, ?_, ?_⟩
  · have := h.res
    rw [List.drop_eq_getElem_cons hk, goS, hS] at this
    exact this
  · have := h.a; have := hs.1; omega
  · have := h.b; have := hs.2; omega
  · have := h.len; omega
theorem Own.grownFar {α : Type} {k : Nat} {E : Enc α k} {ty : TypeId} {w w' : World} {base : Nat} {v : Value} {l : List α} (h : Own E ty w base v l) (b : Below w.heap.size w w') : Own E ty w' base v l := h.below b
end Go.Proofs.YtdmindhjmjnagabGreatDoor
