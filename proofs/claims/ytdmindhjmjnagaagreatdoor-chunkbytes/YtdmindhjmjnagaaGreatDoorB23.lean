import Derived.Test.YtdmindhjmjnagaaGreatDoorSi
import Derived.Test.YtdmindhjmjnagaaGreatDoorB22
import Derived.Test.YtdmindhjmjnagaaGreatDoorB08
import Derived.Test.YtdmindhjmjnagaaGreatDoorB17
/- Plain of package view: NewPlain, find, Get, Len. -/
namespace Go.Proofs.YtdmindhjmjnagaaGreatDoor
set_option linter.unusedVariables false
set_option maxRecDepth 100000
open Go.RowKit

/-- A plain base in memory: block p holds the slice v of the map's pairs. -/
structure PlIn (w : World) (p : Nat) (v : Value) (L : List Pa) : Prop where
  blk : w.heap[p]? = some (.cells #[v] 116 (0, 0))
  sl : Sl encP w v L
  asc : Asc Pa.n L
theorem PlIn.lt {w : World} {p : Nat} {v : Value} {L : List Pa} (h : PlIn w p v L) : p < w.heap.size := lt_of_block h.blk
theorem PlIn.called {w y : World} {p : Nat} {v : Value} {L : List Pa} (h : PlIn w p v L) (b : Below w.heap.size w y) : PlIn y p v L := ⟨(b.block p h.lt).trans h.blk, h.sl.called b, h.asc⟩
theorem PlIn.cell {w : World} {p : Nat} {v : Value} {L : List Pa} (h : PlIn w p v L) : w.cell? ⟨p, 0, none⟩ = some v := by rw [cell_of_row _ _ 0 _ _ _ h.blk]; rfl
set_option maxHeartbeats 1000000 in
theorem newPlain_calls (w : World) (u : Value) (l : List Pa) (h : Sl encP w u l) (hl : l.length ≤ 10000) :
    Calls Tryz.prog 26 #[u] w fun e w' => ∃ p v m, e = .returned (.pointer (some ⟨p, 0, none⟩)) ∧ PlIn w' p v m ∧ MapIs l m ∧ m.length ≤ l.length ∧ w.heap.size ≤ p ∧ Below w.heap.size w w' := by
  have hM := map_calls w u l h hl
  clear h
  go_enter Tryz.func26, Tryz.ntmps26
  go_wp2_with (first
    | (go_at_call 63; refine hM.mono ?_; clear hM; rintro e w1 ⟨v, m, rfl, h1, i1, l1, b1⟩
       have s1 := h1.slB
       obtain ⟨ad, cap, rfl, hcap, hmax, -, -⟩ := id s1))
  go_ret
  have BX : Below w1.heap.size w1 (w1.alloc (.cells #[.slice ad m.length cap] 116)) := (Below.refl _ w1).alloc (Nat.le_refl _) _
  exact ⟨_, _, m, rfl, ⟨heap_alloc_new _ _, Sl.called s1 BX, i1.1⟩, i1, l1, b1.size, b1.trans (BX.mono b1.size)⟩
/-- What find holds. -/
structure FdS (w y : World) (p : Nat) (v : Value) (L : List Pa) (K : List UInt8) : Prop where
  bel : Below w.heap.size w y
  pl : PlIn y p v L
  box : Has y w.heap.size K
theorem FdS.called {w y z : World} {p : Nat} {v : Value} {L : List Pa} {K : List UInt8} (h : FdS w y p v L K) (b : Below y.heap.size y z) : FdS w z p v L K := ⟨h.bel.trans (b.mono h.bel.size), h.pl.called b, h.box.below b h.box.lt⟩
theorem FdS.drew {w y : World} {p : Nat} {v : Value} {L : List Pa} {K : List UInt8} (h : FdS w y p v L K) : FdS w y.drew p v L K := h.called ⟨rfl, rfl, rfl, Nat.le_refl _, fun _ _ => rfl⟩
theorem FdS.key {w y : World} {p : Nat} {v : Value} {L : List Pa} {K : List UInt8} (h : FdS w y p v L K) : y.rangeAt w.heap.size 0 (bc K) := fun j v hv => by
  rw [Nat.zero_add, cell_of_row _ _ _ _ _ _ h.box.blk]
  simpa using hv
set_option maxHeartbeats 4000000 in
theorem find_calls (w : World) (p : Nat) (v : Value) (L : List Pa) (K : Kz) (h : PlIn w p v L) (hl : L.length ≤ 100000) :
    Calls Tryz.prog 232 #[.pointer (some ⟨p, 0, none⟩), kv K.k] w fun e w' => e = .returned (.tuple #[.int .i64 (posA Pa.n L K.n : Int), .bool (hitA Pa.n L K.n)]) ∧ Below w.heap.size w w' := by
  have b1 : Below w.heap.size w (w.alloc (.cells (bc K.k).toArray 54)) := (Below.refl _ w).alloc (Nat.le_refl _) _
  have HS : Hid (FdS w (w.alloc (.cells (bc K.k).toArray 54)) p v L K.k) := ⟨b1, h.called b1, Has.new w K.k K.h⟩
  have hOR : Hid (∀ y, FdS w y p v L K.k → Calls Tryz.prog 124 #[v, kv K.k, .func (Fn.func 234) #[] #[]] y fun e w' => e = .returned (.tuple #[.int .i64 (posA Pa.n L K.n : Int), .bool (hitA Pa.n L K.n)]) ∧ Below y.heap.size y w') := fun y hy => bsearch_calls y v L K hy.pl.sl hy.pl.asc hl
  have HCK : Hid ((Tryz.prog.info? 54).map (·.size) = some 24) := Tryz.key_info
  have HKL : Hid ((bc K.k).length = 24) := by show _ = _; rw [bc_length, K.h]
  obtain ⟨ad, cap, rfl, -, -, -, -⟩ := id h.sl
  generalize posA Pa.n L K.n = pos at *
  generalize hitA Pa.n L K.n = hit at *
  clear h b1
  go_enter Tryz.func232, Tryz.ntmps232
  go_upto_region 1 with fail
  refine wp_region_noPanic ?_
  refine wp_region_held_drew (S := (fun y => FdS w y p (.slice ad L.length cap) L K.k)) (by kernel_rfl) (HS.out.drew) (fun hHeld => ?_)
  refine wpAnyH_take (i := 0) (v := ?_) rfl (by kernel_rfl) (by kernel_rfl) (by kernel_rfl) (fun _ _ _ h => h) (Or.inl ⟨by rfl, ?_⟩) hHeld ?_
  case refine_2 => (intro w hSw; (try dsimp only at hSw); go_simp; try (with_reducible rfl))
  (try simp only [gs])
  refine wpAnyH_take (i := 1) (v := ?_) rfl (by kernel_rfl) (by kernel_rfl) (by kernel_rfl) (fun _ _ _ h => h) (Or.inl ⟨by rfl, ?_⟩) hHeld ?_
  case refine_2 => (intro w hSw; (try dsimp only at hSw); go_simp; try (with_reducible rfl))
  (try simp only [gs])
  refine wpAnyH_take (i := 2) (v := ?_) rfl (by kernel_rfl) (by kernel_rfl) (by kernel_rfl) (fun _ _ _ h => h) (Or.inl ⟨by rfl, ?_⟩) hHeld ?_
  case refine_2 => (intro w hSw; (try dsimp only at hSw); go_simp; try (with_reducible rfl))
  (try simp only [gs])
  refine wpAnyH_take (i := 3) (v := ?_) rfl (by kernel_rfl) (by kernel_rfl) (by kernel_rfl) (fun _ _ _ h => h) (Or.inl ⟨by rfl, ?_⟩) hHeld ?_
  case refine_2 => (intro w hSw; (try dsimp only at hSw); have hc := hSw.pl.cell; go_simp; try (with_reducible rfl))
  (try simp only [gs])
  refine wpAnyH_take (i := 4) rfl (by kernel_rfl) (by kernel_rfl) (by kernel_rfl) (fun _ _ _ h => h) (yieldsIf_load_mid (by rfl) _ _ rfl _ _ rfl _ _ (fun y h => FdS.key h) Tryz.underlying54 rfl (by rw [HKL.out]; exact HCK.out)) hHeld ?_
  (try simp only [gs])
  generalize (w.alloc (.cells (bc K.k).toArray 54)).drew = y1 at *
  refine wpAnyH_ready (rs := [5]) (by kernel_rfl) (by simp) (AllReadyH.cons rfl (fun K hK => ?_) AllReadyH.nil)
  rw [if_pos (by rfl)]
  (try simp only [gs])
  go_simp
  refine (hOR.out _ hHeld).mono ?_
  rintro e y2 ⟨rfl, b1⟩
  refine hK.out _ _ (hHeld.called b1) (fun g1 => ?_)
  clear hK K
  (try simp only [gs])
  refine wpAnyH_take (i := 6) (v := ?_) rfl (by kernel_rfl) (by kernel_rfl) (by kernel_rfl) (fun _ _ _ h => h) (Or.inl ⟨by rfl, ?_⟩) g1 ?_
  case refine_2 => (intro w hSw; (try dsimp only at hSw); go_simp; try (with_reducible rfl))
  (try simp only [gs])
  refine wpAnyH_take (i := 7) (v := ?_) rfl (by kernel_rfl) (by kernel_rfl) (by kernel_rfl) (fun _ _ _ h => h) (Or.inl ⟨by rfl, ?_⟩) g1 ?_
  case refine_2 => (intro w hSw; (try dsimp only at hSw); go_simp; try (with_reducible rfl))
  (try simp only [gs])
  refine wpAnyH_take (i := 8) (v := ?_) rfl (by kernel_rfl) (by kernel_rfl) (by kernel_rfl) (fun _ _ _ h => h) (Or.inl ⟨by rfl, ?_⟩) g1 ?_
  case refine_2 => (intro w hSw; (try dsimp only at hSw); go_simp; try (with_reducible rfl))
  (try simp only [gs])
  refine wpAnyH_take (i := 9) (v := ?_) rfl (by kernel_rfl) (by kernel_rfl) (by kernel_rfl) (fun _ _ _ h => h) (Or.inl ⟨by rfl, ?_⟩) g1 ?_
  case refine_2 => (intro w hSw; (try dsimp only at hSw); go_simp; try (with_reducible rfl))
  (try simp only [gs])
  refine wpAnyH_done (by kernel_rfl) ?_ _
  refine NoPanic.normal ?_
  have HG1 : Hid (Below w.heap.size w y2) := g1.bel
  clear g1 hHeld b1 hOR HS
  go_wp2_with fail
  go_ret2
  exact ⟨rfl, HG1.out⟩
/-- What Get of a base answers. -/
def gotV : Option Pa → Value
  | none => .tuple #[.string ⟨#[]⟩, .bool false, .int .i64 0]
  | some x => .tuple #[.string (str x.v), .bool true, .int .i64 0]
set_option maxHeartbeats 4000000 in
theorem pget_calls (w : World) (p : Nat) (v : Value) (L : List Pa) (K : Kz) (h : PlIn w p v L) (hl : L.length ≤ 100000) :
    Calls Tryz.prog 229 #[.pointer (some ⟨p, 0, none⟩), kv K.k] w fun e w' => e = .returned (gotV (look Pa.n L K.n)) ∧ Below w.heap.size w w' := by
  have b1 : Below w.heap.size w (w.alloc (.cells (bc K.k).toArray 54)) := (Below.refl _ w).alloc (Nat.le_refl _) _
  have hk1 : Has (w.alloc (.cells (bc K.k).toArray 54)) w.heap.size K.k := Has.new w K.k K.h
  have h1 := h.called b1
  have hF := find_calls _ p v L K h1 hl
  have HB : Hid (Below w.heap.size w (w.alloc (.cells (bc K.k).toArray 54))) := b1
  have H1 : Hid (PlIn (w.alloc (.cells (bc K.k).toArray 54)) p v L) := h1
  have HLK := hitA_look Pa.n K.n h.asc
  cases hh : hitA Pa.n L K.n with
  | false =>
    rw [hh] at hF HLK
    have HL : Hid (look Pa.n L K.n = none) := (show _ = _ by simpa using HLK)
    generalize posA Pa.n L K.n = pos at *
    clear h h1 b1 HLK hh
    go_enter Tryz.func229, Tryz.ntmps229
    go_wp2_with (first
      | (refine load_key _ rfl w.heap.size rfl rfl K.k hk1 ?_)
      | (go_at_call 232; refine hF.mono ?_; clear hF; rintro e w1 ⟨rfl, b2⟩))
    go_ret3
    exact ⟨by rw [HL.out]; rfl, HB.out.trans (b2.mono HB.out.size)⟩
  | true =>
    rw [hh] at hF HLK
    simp only [if_true] at HLK
    have hpos : posA Pa.n L K.n < L.length := by
      unfold hitA at hh
      have := of_decide_eq_true hh
      cases hq : L[posA Pa.n L K.n]? with
      | none => rw [hq] at this; cases this
      | some x => exact (List.getElem?_eq_some_iff.1 hq).1
    rw [List.getElem?_eq_getElem hpos] at HLK
    have hs1 := h1.sl
    have hcl := h1.cell
    obtain ⟨ad, cap, rfl, hcap, hmax, -, -⟩ := id hs1
    obtain ⟨g0, off, rfl, hg0, hat⟩ := SlB.at hs1 _ hpos
    have hv := (range_vP hat)
    generalize L[posA Pa.n L K.n] = x at *
    have HL : Hid (look Pa.n L K.n = some x) := HLK
    generalize posA Pa.n L K.n = pos at *
    have hpI : (pos : Int) < (L.length : Int) := by omega
    have hp0 : (0 : Int) ≤ (pos : Int) := by omega
    have HC1 : Hid (∀ y, Below (w.alloc (.cells (bc K.k).toArray 54)).heap.size (w.alloc (.cells (bc K.k).toArray 54)) y → y.cell? ⟨p, 0, none⟩ = some (.slice (some ⟨g0, off, none⟩) L.length cap) ∧ y.cell? ⟨g0, off + pos * 25 + 24, none⟩ = some (.string (str x.v))) := fun y hy => ⟨(hy.cell (p := ⟨p, 0, none⟩) h1.lt).trans hcl, (hy.cell (p := ⟨g0, off + pos * 25 + 24, none⟩) hg0).trans hv⟩
    clear h h1 b1 HLK hh hs1 hcl hat hv hpos
    go_enter Tryz.func229, Tryz.ntmps229
    go_wp2_with (first
      | (refine load_key _ rfl w.heap.size rfl rfl K.k hk1 ?_)
      | (go_at_call 232; refine hF.mono ?_; clear hF; rintro e w1 ⟨rfl, b2⟩
         obtain ⟨c1, c2⟩ := HC1.out w1 b2
         clear HC1))
    go_ret3
    exact ⟨by rw [HL.out]; rfl, HB.out.trans (b2.mono HB.out.size)⟩
end Go.Proofs.YtdmindhjmjnagaaGreatDoor
/- What a plain base's Scan takes out of a rising list (mathematics). -/
namespace Go.Proofs.YtdmindhjmjnagaaGreatDoor
set_option linter.unusedVariables false
set_option maxRecDepth 100000

theorem posA_from {α : Type} (key : α → Int) : ∀ (l : List α) (x : Int), Asc key l → ∀ j (hj : j < l.length), posA key l x ≤ j → x ≤ key l[j]
  | [], _, _, j, hj, _ => by cases hj
  | a :: r, x, h, j, hj, hp => by
    by_cases ha : key a < x
    · rw [posA_lt key ha] at hp
      cases j with
      | zero => omega
      | succ j =>
        have := posA_from key r x (List.pairwise_cons.1 h).2 j (by simpa using hj) (by omega)
        simpa using this
    · cases j with
      | zero => simp; omega
      | succ j =>
        have := (List.pairwise_cons.1 h).1 (r[j]'(by simpa using hj)) (List.getElem_mem _)
        simp only [List.getElem_cons_succ]
        omega
theorem posA_ahead {α : Type} (key : α → Int) (l : List α) (x : Int) : ∀ a ∈ l.take (posA key l x), key a < x := by
  intro a ha
  have e : l.take (posA key l x) = l.takeWhile (fun a => decide (key a < x)) := ((List.prefix_iff_eq_take).1 (List.takeWhile_prefix _)).symm
  rw [e] at ha
  have : ∀ (l : List α), a ∈ l.takeWhile (fun a => decide (key a < x)) → key a < x := by
    intro l
    induction l with
    | nil => intro h; cases h
    | cons b r ih =>
      intro h
      by_cases hb : key b < x
      · rw [List.takeWhile_cons_of_pos (by simpa using hb)] at h
        rcases List.mem_cons.1 h with rfl | h
        · exact hb
        · exact ih h
      · rw [List.takeWhile_cons_of_neg (by simpa using hb)] at h
        cases h
  exact this l ha
/-- The pairs of a span. -/
def scanL (s : Sp) (L : List Pa) : List Pa := L.filter fun x => s.inb x.n
theorem scan_filter {L : List Pa} (ha : Asc Pa.n L) (s : Sp) (b : Nat) (hab : posA Pa.n L (num s.F) ≤ b) (hb : b ≤ L.length)
    (hin : ∀ j (hj : j < L.length), posA Pa.n L (num s.F) ≤ j → j < b → s.inb (L[j]).n = true) (hout : ∀ h : b < L.length, s.inb (L[b]).n = false) :
    (L.take b).drop (posA Pa.n L (num s.F)) = scanL s L := by
  generalize hA : posA Pa.n L (num s.F) = a at *
  have e1 : L = L.take a ++ ((L.take b).drop a ++ L.drop b) := by
    have h1 : L.take a = (L.take b).take a := by rw [List.take_take, Nat.min_eq_left hab]
    rw [← List.append_assoc, h1, List.take_append_drop, List.take_append_drop]
  have f1 : (L.take a).filter (fun x => s.inb x.n) = [] := by
    rw [List.filter_eq_nil_iff]
    intro x hx
    have := posA_ahead Pa.n L (num s.F) x (by rw [hA]; exact hx)
    unfold Sp.inb
    rw [decide_eq_false (by omega)]
    simp
  have f2 : ((L.take b).drop a).filter (fun x => s.inb x.n) = (L.take b).drop a := by
    rw [List.filter_eq_self]
    intro x hx
    obtain ⟨i, hi, rfl⟩ := List.mem_iff_getElem.1 hx
    rw [List.length_drop, List.length_take] at hi
    rw [List.getElem_drop, List.getElem_take]
    exact hin (a + i) (by omega) (by omega) (by omega)
  have f3 : (L.drop b).filter (fun x => s.inb x.n) = [] := by
    rw [List.filter_eq_nil_iff]
    intro x hx
    obtain ⟨i, hi, rfl⟩ := List.mem_iff_getElem.1 hx
    rw [List.length_drop] at hi
    rw [List.getElem_drop]
    have h1 := hout (by omega)
    have h2 := posA_from Pa.n L (num s.F) ha b (by omega) (by omega)
    have h3 : (L[b]'(by omega)).n ≤ (L[b + i]'(by omega)).n := by
      rcases Nat.eq_zero_or_pos i with rfl | hp
      · exact Int.le_refl _
      · exact Int.le_of_lt (List.pairwise_iff_getElem.1 ha b (b + i) (by omega) (by omega) (by omega))
    unfold Sp.inb at h1 ⊢
    rw [decide_eq_true h2, Bool.true_and, Bool.or_eq_false_iff] at h1
    have h4 := of_decide_eq_false h1.2
    rw [decide_eq_true (by omega), h1.1, Bool.false_or, decide_eq_false (by omega)]
    simp
  unfold scanL
  conv => rhs; rw [e1]
  rw [List.filter_append, List.filter_append, f1, f2, f3]
  simp
theorem scan_look {L : List Pa} (ha : Asc Pa.n L) (s : Sp) : Asc Pa.n (scanL s L) ∧ ∀ x, look Pa.n (scanL s L) x = if s.inb x then look Pa.n L x else none := by
  refine ⟨List.Pairwise.sublist List.filter_sublist ha, fun x => ?_⟩
  unfold scanL
  induction L with
  | nil => simp [look]
  | cons a r ih =>
    have ih' := ih (List.pairwise_cons.1 ha).2
    by_cases hi : s.inb a.n
    · rw [List.filter_cons_of_pos (p := fun x : Pa => s.inb x.n) hi]
      simp only [look]
      rw [ih']
      by_cases hx : a.n = x
      · subst hx; simp [hi]
      · simp [hx]
    · rw [List.filter_cons_of_neg (p := fun x : Pa => s.inb x.n) hi, ih']
      simp only [look]
      by_cases hx : a.n = x
      · subst hx; simp [hi]
      · simp [hx]
end Go.Proofs.YtdmindhjmjnagaaGreatDoor
/- What is told of edges: the closures that append them, look. -/
namespace Go.Proofs.YtdmindhjmjnagaaGreatDoor
set_option linter.unusedVariables false
set_option maxRecDepth 100000
open Go.RowKit

theorem build_to {ops : Array Oper} {rest : List Oper} {o : Oper} {a : Act} {w : World} {Q : Exit → Act → World → Prop} (hg : o.guard = none) (ty : TypeId) (parts : Array (Nat × Operand)) (ho : o.op = .build ty parts) (vs : List (Nat × Value)) (hv : (parts.map fun x => (x.1, a.eval x.2)).toList = vs) (C : Array Value) (hb : Tryz.prog.built ty vs = some C)
    (h : wpList Tryz.prog ops Q rest (a.put o.dst (.agg C)) w) : wpList Tryz.prog ops Q (o :: rest) a w := by
  subst hv
  refine wpList_plain hg fun K hK => ?_
  refine wp_build ty parts ho (by rw [show (fun x : Nat × Operand => match x with | (i, x) => (i, a.eval x)) = (fun x => (x.1, a.eval x.2)) from rfl, hb]; rfl) ?_
  rw [show (fun x : Nat × Operand => match x with | (i, x) => (i, a.eval x)) = (fun x => (x.1, a.eval x.2)) from rfl, hb]
  exact hK _ _ h
theorem build_two {ops : Array Oper} {rest : List Oper} {o : Oper} {a : Act} {w : World} {Q : Exit → Act → World → Prop} (hg : o.guard = none) (ty : TypeId) (i j : Nat) (x y : Operand) (ho : o.op = .build ty #[(i, x), (j, y)]) (vx vy : Value) (hx : a.eval x = vx) (hy : a.eval y = vy) (C : Array Value) (hb : Tryz.prog.built ty [(i, vx), (j, vy)] = some C)
    (h : wpList Tryz.prog ops Q rest (a.put o.dst (.agg C)) w) : wpList Tryz.prog ops Q (o :: rest) a w := build_to hg ty _ ho [(i, vx), (j, vy)] (by simp [hx, hy]) C hb h
def ed0 : Ed := ⟨zs 24, 0, 0, rfl⟩
theorem Tryz.edge_built (parts : List (Nat × Value)) : Tryz.prog.built 189 parts = Instr.fill (#[(0, 24), (24, 1), (25, 1)][·]?) (ecd ed0).toArray parts := by
  have h1 : (Tryz.prog.info? 189).map (·.zero) = some (some (.agg (ecd ed0).toArray)) := by kernel_rfl
  have h2 : (Tryz.prog.underlying 189).map (fun d => match d with | .struct fs => fs.toList.mapM (fun f => (Tryz.prog.info? f.type).map fun i => (f.offset, i.size)) | _ => none) = some (some [(0, 24), (24, 1), (25, 1)]) := by kernel_rfl
  unfold Program.built
  cases hi : Tryz.prog.info? 189 with
  | none => rw [hi] at h1; cases h1
  | some i =>
    rw [hi] at h1
    have hz : i.zero = some (.agg (ecd ed0).toArray) := by simpa using h1
    cases hu : Tryz.prog.underlying 189 with
    | none => rw [hu] at h2; cases h2
    | some d =>
      rw [hu] at h2
      cases d with
      | struct fs =>
        have hp : fs.toList.mapM (fun f => (Tryz.prog.info? f.type).map fun i => (f.offset, i.size)) = some [(0, 24), (24, 1), (25, 1)] := by simpa using h2
        simp only [hz, hp]
        rfl
      | _ => simp at h2
theorem ecd_put (K : List UInt8) (hK : K.length = 24) (a b : Int) : ((ecd ed0).toArray.toList.take 0 ++ (kv K).cells.toList ++ (ecd ed0).toArray.toList.drop (0 + 24)).toArray = (ecd ⟨K, 0, 0, hK⟩).toArray := by
  simp only [ecd, Value.cells, List.take_zero, List.nil_append, Nat.zero_add]
  rfl
theorem builtA (K : List UInt8) (hK : K.length = 24) (m : Int) : Tryz.prog.built 189 [(0, kv K), (1, .int .i64 m)] = some (ecd (edA K hK m)).toArray := by
  have hl : (bc K).length = 24 := by rw [bc_length, hK]
  rw [Tryz.edge_built, fill_put (off := 0) (size := 24) rfl (by simp [Value.cells, hl]) (by simp [ecd, bc_length, ed0, zs_length]), ecd_put K hK 0 0,
    fill_put (off := 24) (size := 1) rfl rfl (by simp [ecd, bc_length, hK])]
  simp only [Instr.fill, ecd, edA, Value.cells, List.toList_toArray]
  rw [List.take_append_of_le_length (by omega), List.take_of_length_le (by omega), List.drop_append, List.drop_of_length_le (by omega), hl]
  simp
theorem builtB (K : List UInt8) (hK : K.length = 24) (m : Int) : Tryz.prog.built 189 [(0, kv K), (2, .int .i64 m)] = some (ecd (edB K hK m)).toArray := by
  have hl : (bc K).length = 24 := by rw [bc_length, hK]
  rw [Tryz.edge_built, fill_put (off := 0) (size := 24) rfl (by simp [Value.cells, hl]) (by simp [ecd, bc_length, ed0, zs_length]), ecd_put K hK 0 0,
    fill_put (off := 25) (size := 1) rfl rfl (by simp [ecd, bc_length, hK])]
  simp only [Instr.fill, ecd, edB, Value.cells, List.toList_toArray]
  rw [List.take_append, List.take_of_length_le (by omega), hl, List.drop_of_length_le (by simp [hl])]
  simp

/-- The variable that holds the edges. -/
structure EV (w : World) (p : Nat) (v : Value) (es : List Ed) : Prop where
  var : w.heap[p]? = some (.cells #[v] 186 (0, 0))
  own : Own encE 189 w (p + 1) v es
theorem EV.lt {w : World} {p : Nat} {v : Value} {es : List Ed} (h : EV w p v es) : p < w.heap.size := lt_of_block h.var
theorem EV.row {w : World} {p : Nat} {v : Value} {es : List Ed} (h : EV w p v es) : ∀ k, v.ownBlock = some k → p + 1 ≤ k ∧ k < w.heap.size := h.own.lt
theorem EV.below {w w' : World} {p : Nat} {v : Value} {es : List Ed} (h : EV w p v es) (hb : Below w.heap.size w w') : EV w' p v es := ⟨(hb.block p h.lt).trans h.var, h.own.below hb⟩
/-- What a closure that tells an edge does. -/
def Tell (g : Nat) (mk : (K : List UInt8) → K.length = 24 → Int → Ed) (p : Nat) : Prop :=
  ∀ (w : World) (v : Value) (es : List Ed) (K : List UInt8) (hK : K.length = 24) (m : Int), EV w p v es → es.length + 1 ≤ 1000000 →
    Calls Tryz.prog g #[kv K, .int .i64 m, .pointer (some ⟨p, 0, none⟩)] w fun e w' => e = .returned (.tuple #[]) ∧ ∃ v', EV w' p v' (es ++ [mk K hK m]) ∧ Touch p v.ownBlock w w' ∧ Near v.ownBlock v'.ownBlock w.heap.size
theorem Touch.grown' {p : Nat} {r : Option Nat} {w w' w2 w3 : World} (h : Touch p r w w') (b : Below w'.heap.size w' w2) (g : w2.grownBy w3 r) : Touch p r w w3 :=
  Touch.grown ⟨b.os.trans h.os, b.tape.trans h.tape, b.output.trans h.output, Nat.le_trans h.size b.size, fun k hk hp hr => (b.block k (by have := h.size; omega)).trans (h.block k hk hp hr)⟩ g
set_option maxRecDepth 100000 in
set_option maxHeartbeats 2000000 in
theorem tellA (p : Nat) : Tell 131 edA p := by
  intro w v es K hK m h hlen
  have hq : Has (w.alloc (.cells (bc K).toArray 54)) w.heap.size K := Has.new w K hK
  have hplt := h.lt
  have h0 : EV (w.alloc (.cells (bc K).toArray 54)) p v es := h.below ((Below.refl _ w).alloc (Nat.le_refl _) _)
  have cV : (w.alloc (.cells (bc K).toArray 54)).cell? ⟨p, 0, none⟩ = some v := by rw [cell_of_row _ p 0 _ _ _ h0.var]; rfl
  have hone : v.oneCell' = true := by
    rcases h.own.2 with ⟨rfl, _⟩ | ⟨g, cap, cur, rfl, _⟩ <;> rfl
  have HH : Hid (EV w p v es) := h
  have H0 : Hid (EV (w.alloc (.cells (bc K).toArray 54)) p v es) := h0
  have HB : Hid (Tryz.prog.built 189 [(0, kv K), (1, .int .i64 m)] = some (ecd (edA K hK m)).toArray) := builtA K hK m
  obtain ⟨E, hE⟩ : ∃ E, E = edA K hK m := ⟨_, rfl⟩
  rw [← hE] at HB ⊢
  have HE : Hid (E = edA K hK m) := hE
  clear h h0 hE
  go_enter Tryz.func131, Tryz.ntmps131
  go_wp2_with (first
    | (refine load_key _ rfl w.heap.size rfl rfl _ hq ?_)
    | (refine build_two rfl 189 0 1 _ _ rfl _ _ rfl rfl _ HB.out ?_)
    | (refine build_el1 rowE rfl _ rfl E rfl (by decide) ?_; intro w2 o2 b2 s2 k2; have hs2 : w2.heap.size = w.heap.size + 1 + 1 := by (rw [s2]; simp))
    | (at_builtin; refine append_one rowE rfl _ _ rfl (p + 1) v es rfl (H0.out.own.below b2) _ E rfl (0, 0) _ k2 hlen (by decide) (by omega) ?_; intro g cap w3 o3 gr3 at3 lt3; have cV3 : w3.heap[p]? = some (.cells #[v] 186 (0, 0)) := ((gr3.block p (by omega) (fun q => by have := (HH.out.row p q.symm).1; omega)).trans ((b2.block p (by simp; omega)).trans H0.out.var)); have c3 := cell_of_row w3 p 0 _ _ _ cV3; have f3 : w3.frozen? ⟨p, 0, none⟩ = false := (by simp [World.frozen?, cV3])))
  go_end0
  have hg : p + 1 ≤ g := by
    rcases at3 with q | q
    · exact (HH.out.row g q).1
    · omega
  refine ⟨rfl, _, ⟨?_, o3.same fun k hk => ?_⟩, ?_, ?_⟩
  · rw [setCell_eq_setRow w3 p 0 _ _ _ _ cV3, setRow_heap w3 p _ _ _ _ cV3]
    rfl
  · simp only [Value.ownBlock, Option.some.injEq] at hk
    exact Below.heap_setCell _ _ _ _ (by show k ≠ p; omega)
  · refine Touch.setCell ?_ 0 _
    exact ((Touch.refl p _ w).alloc _).grown' b2 gr3
  · intro k hk
    simp only [Value.ownBlock, Option.some.injEq] at hk
    subst hk
    rcases at3 with q | q
    · exact .inl q
    · exact .inr (by omega)
set_option maxRecDepth 100000 in
set_option maxHeartbeats 2000000 in
theorem tellB (p : Nat) : Tell 132 edB p := by
  intro w v es K hK m h hlen
  have hq : Has (w.alloc (.cells (bc K).toArray 54)) w.heap.size K := Has.new w K hK
  have hplt := h.lt
  have h0 : EV (w.alloc (.cells (bc K).toArray 54)) p v es := h.below ((Below.refl _ w).alloc (Nat.le_refl _) _)
  have cV : (w.alloc (.cells (bc K).toArray 54)).cell? ⟨p, 0, none⟩ = some v := by rw [cell_of_row _ p 0 _ _ _ h0.var]; rfl
  have hone : v.oneCell' = true := by
    rcases h.own.2 with ⟨rfl, _⟩ | ⟨g, cap, cur, rfl, _⟩ <;> rfl
  have HH : Hid (EV w p v es) := h
  have H0 : Hid (EV (w.alloc (.cells (bc K).toArray 54)) p v es) := h0
  have HB : Hid (Tryz.prog.built 189 [(0, kv K), (2, .int .i64 m)] = some (ecd (edB K hK m)).toArray) := builtB K hK m
  obtain ⟨E, hE⟩ : ∃ E, E = edB K hK m := ⟨_, rfl⟩
  rw [← hE] at HB ⊢
  have HE : Hid (E = edB K hK m) := hE
  clear h h0 hE
  go_enter Tryz.func132, Tryz.ntmps132
  go_wp2_with (first
    | (refine load_key _ rfl w.heap.size rfl rfl _ hq ?_)
    | (refine build_two rfl 189 0 2 _ _ rfl _ _ rfl rfl _ HB.out ?_)
    | (refine build_el1 rowE rfl _ rfl E rfl (by decide) ?_; intro w2 o2 b2 s2 k2; have hs2 : w2.heap.size = w.heap.size + 1 + 1 := by (rw [s2]; simp))
    | (at_builtin; refine append_one rowE rfl _ _ rfl (p + 1) v es rfl (H0.out.own.below b2) _ E rfl (0, 0) _ k2 hlen (by decide) (by omega) ?_; intro g cap w3 o3 gr3 at3 lt3; have cV3 : w3.heap[p]? = some (.cells #[v] 186 (0, 0)) := ((gr3.block p (by omega) (fun q => by have := (HH.out.row p q.symm).1; omega)).trans ((b2.block p (by simp; omega)).trans H0.out.var)); have c3 := cell_of_row w3 p 0 _ _ _ cV3; have f3 : w3.frozen? ⟨p, 0, none⟩ = false := (by simp [World.frozen?, cV3])))
  go_end0
  have hg : p + 1 ≤ g := by
    rcases at3 with q | q
    · exact (HH.out.row g q).1
    · omega
  refine ⟨rfl, _, ⟨?_, o3.same fun k hk => ?_⟩, ?_, ?_⟩
  · rw [setCell_eq_setRow w3 p 0 _ _ _ _ cV3, setRow_heap w3 p _ _ _ _ cV3]
    rfl
  · simp only [Value.ownBlock, Option.some.injEq] at hk
    exact Below.heap_setCell _ _ _ _ (by show k ≠ p; omega)
  · refine Touch.setCell ?_ 0 _
    exact ((Touch.refl p _ w).alloc _).grown' b2 gr3
  · intro k hk
    simp only [Value.ownBlock, Option.some.injEq] at hk
    subst hk
    rcases at3 with q | q
    · exact .inl q
    · exact .inr (by omega)
end Go.Proofs.YtdmindhjmjnagaaGreatDoor
