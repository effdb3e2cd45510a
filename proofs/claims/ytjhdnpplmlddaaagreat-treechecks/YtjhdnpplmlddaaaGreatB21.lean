import Derived.Test.YtjhdnpplmlddaaaGreatB20
import Derived.Deep.AppendLies
/- Frames with a row of the caller's; what scan tells and holds. -/
namespace Go.Proofs.YtjhdnpplmlddaaaGreat
set_option linter.unusedVariables false
open Go.RowKit

theorem wp_buildSliceTo {o : Oper} {a : Act} {w : World} {K : Act → World → Prop} {Q : Exit → Act → World → Prop} (t e : TypeId) (len : Nat) (parts : Array (Nat × Operand)) (ho : o.op = .buildSlice t len parts) (hu : Tryz.prog.underlying t = some (.slice e)) (cells : Array Value)
    (hf : Tryz.prog.builtSlice e len (parts.map fun (i, x) => (i, a.eval x)).toList = some cells)
    (h : K (a.put o.dst (.slice (some ⟨w.heap.size, 0, none⟩) len len)) (w.alloc (.cells cells e))) : o.wp Tryz.prog a w K Q := by
  unfold Program.builtSlice at hf
  cases hie : Tryz.prog.info? e with
  | none => simp [hie] at hf
  | some ie =>
    simp only [hie] at hf
    cases hz : ie.zero with
    | none => simp [hz] at hf
    | some z =>
      simp only [hz] at hf
      by_cases hc : len * ie.size > 2 ^ 24 ∨ len * ie.size = 0
      · simp [hc] at hf
      · rw [if_neg hc] at hf
        exact wp_buildSlice t e len parts ho cells ie z hu hie hz (fun h' => hc (Or.inl h')) (fun h' => hc (Or.inr h')) hf h
theorem slice_one (z : Value) (e : TypeId) (b : Nat) (hi : (Tryz.prog.info? e).map (fun i => (i.zero, i.size, i.bytes)) = some (some z, 25, b)) (hz : z.cells.size = 25) (x : El) (h : x.Ok) : Tryz.prog.builtSlice e 1 [(0, ev x)] = some (ec x).toArray := by
  obtain ⟨i0, h0, hz0, hz1, hz2⟩ := info_parts hi
  unfold Program.builtSlice
  simp only [h0, hz0, hz1]
  rw [if_neg (by decide), fill_put (off := 0) (size := 25) rfl (by simp [Value.cells, ec_length h]) (by simp)]
  simp [Instr.fill, Value.cells]
section
variable {y z : World} {base n size : Nat} {e : TypeId} {v : Value} {xs : List Value}
theorem own_same (h : y.ownsRow base e size v n xs) (hb : ∀ k, v.ownBlock = some k → z.heap[k]? = y.heap[k]?) : z.ownsRow base e size v n xs := by
  refine ⟨h.1, ?_⟩
  rcases h.2 with hn | ⟨g, cap, cur, rfl, hg, hgg, rest⟩
  · exact .inl hn
  · exact .inr ⟨g, cap, cur, rfl, hg, (hb g rfl).trans hgg, rest⟩
theorem own_kept (h : y.ownsRow base e size v n xs) (bl : Below y.heap.size y z) : z.ownsRow base e size v n xs := own_same h fun k hk => bl.block k (h.lt k hk).2
theorem own_one (h : y.ownsRow base e size v n xs) : v.oneCell' = true := by
  rcases h.2 with ⟨rfl, _⟩ | ⟨g, cap, cur, rfl, _⟩ <;> rfl
theorem own_set {b j : Nat} {u : Value} (h : y.ownsRow base e size v n xs) (hb : b < base) : (y.setCell ⟨b, j, none⟩ u).ownsRow base e size v n xs := own_same h fun k hk => by
  have q := h.lt k hk
  exact (touch_set y b j u).block k q.2 (by omega) (by simp)
theorem own_slice (h : y.ownsRow base e size v n xs) : ∃ a c, v = .slice a n c := by
  rcases h.2 with ⟨rfl, rfl⟩ | ⟨g, cap, cur, rfl, _⟩ <;> exact ⟨_, _, rfl⟩
theorem grown_below {B : Nat} {row : Option Nat} (g : y.grownBy z row) (hB : B ≤ y.heap.size) (hr : ∀ k, row = some k → B ≤ k) : Below B y z := (Below.refl _ _).grown g hB hr
end
theorem flat_app (a b : List El) : flat (a ++ b) = flat a ++ flat b := by simp [flat]
theorem flat_Pr (l : List Pr) (p : Pr) : flat ((l ++ [p]).map Pr.el) = flat (l.map Pr.el) ++ ec p.el := by
  rw [List.map_append, flat_app]; simp [flat]
/-- Of the blocks that were there all but the row r are as they were. -/
structure Fr (r : Option Nat) (w w' : World) : Prop where
  os : w'.os = w.os
  tape : w'.tape = w.tape
  output : w'.output = w.output
  size : w.heap.size ≤ w'.heap.size
  block : ∀ k, k < w.heap.size → r ≠ some k → w'.heap[k]? = w.heap[k]?
theorem Fr.refl (r : Option Nat) (w : World) : Fr r w w := ⟨rfl, rfl, rfl, Nat.le_refl _, fun _ _ _ => rfl⟩
theorem Fr.of_below {w w' : World} (r : Option Nat) (b : Below w.heap.size w w') : Fr r w w' := ⟨b.os, b.tape, b.output, b.size, fun k hk _ => b.block k hk⟩
theorem Fr.of_grown {w w' : World} {r : Option Nat} (g : w.grownBy w' r) : Fr r w w' := ⟨g.os, g.tape, g.output, g.size, fun k hk hr => g.block k hk (fun e => hr e.symm)⟩
theorem Fr.trans {r r' : Option Nat} {a b c : World} (h : Fr r a b) (k : Fr r' b c) (hn : Near r r' a.heap.size) : Fr r a c :=
  ⟨k.os.trans h.os, k.tape.trans h.tape, k.output.trans h.output, Nat.le_trans h.size k.size, fun i hi hr => (k.block i (by have := h.size; omega) (fun e => by rcases hn i e with q | q; exact hr q; omega)).trans (h.block i hi hr)⟩
theorem Fr.below {r : Option Nat} {w w' : World} {B : Nat} (h : Fr r w w') (hB : B ≤ w.heap.size) (hr : ∀ k, r = some k → B ≤ k) : Below B w w' :=
  ⟨h.os, h.tape, h.output, h.size, fun k hk => h.block k (by omega) (fun e => by have := hr k e; omega)⟩
/-- The rows of a slice's elements. -/
theorem Els.lim {y : World} {sv : Value} {l : List El} (h : Els y sv l) : Lim (fun k => k < y.heap.size) sv := fun a n c e h0 => by
  obtain ⟨r, ⟨ad, cap, e1, _, _, _, hc⟩, h2⟩ := h
  rw [e] at e1
  cases e1
  rcases hc with hc | ⟨g, off, q1, q2, q3, _⟩
  · rw [hc] at h0; simp at h0
  · cases q1; exact q3
theorem Els.keptL {y z : World} {sv : Value} {l : List El} (h : Els y sv l) (hL : Lim (fun k => z.heap[k]? = y.heap[k]?) sv) (hs : y.heap.size ≤ z.heap.size) : Els z sv l := by
  have hlim := h.lim
  obtain ⟨r, ⟨ad, cap, e1, h2, h3, ho, hc⟩, h4⟩ := h
  subst e1
  rcases hc with hc | ⟨g, off, q1, q2, q3, q4⟩
  · exact ⟨none, ⟨ad, cap, rfl, h2, h3, ho, .inl hc⟩, fun k hk => by cases hk⟩
  · by_cases hl : l = []
    · exact ⟨none, ⟨ad, cap, rfl, h2, h3, ho, .inl hl⟩, fun k hk => by cases hk⟩
    · have h0 : 0 < l.length := List.length_pos_iff.2 hl
      subst q1
      have e := hL ⟨g, off, none⟩ _ _ rfl h0
      exact ⟨some g, ⟨_, cap, rfl, h2, h3, ho, .inr ⟨g, off, rfl, rfl, by omega, fun i hi => range_same (q4 i hi) e⟩⟩, fun k hk => by cases hk; omega⟩
/-- What scan appends: the code that it tells, and the pairs that it has found. -/
def inP (s : Sp) (p : Pr) : Bool := inS s.F s.T s.e p.k
def scanGo (rec : Int → Int → Sp → Int × List Pr) (x : Nod) (s : Sp) : Nat → Int × List Pr
  | 0 => (0, [])
  | m + 1 =>
    if emptyS (narS s x.ks (x.ks.length - (m + 1))).F (narS s x.ks (x.ks.length - (m + 1))).T (narS s x.ks (x.ks.length - (m + 1))).e then scanGo rec x s m
    else if (rec (nAt x.ks (x.ks.length - (m + 1))) (x.lv - 1) (narS s x.ks (x.ks.length - (m + 1)))).1 = 0 then
      ((scanGo rec x s m).1, (rec (nAt x.ks (x.ks.length - (m + 1))) (x.lv - 1) (narS s x.ks (x.ks.length - (m + 1)))).2 ++ (scanGo rec x s m).2)
    else rec (nAt x.ks (x.ks.length - (m + 1))) (x.lv - 1) (narS s x.ks (x.ks.length - (m + 1)))
def scanStep (g : Int → Nod × Int) (rec : Int → Int → Sp → Int × List Pr) (n lvl : Int) (s : Sp) : Int × List Pr :=
  if (readP g n lvl).2 = 0 then
    ((scanGo rec (readP g n lvl).1 s (readP g n lvl).1.ks.length).1, (readP g n lvl).1.ps.filter (inP s) ++ (scanGo rec (readP g n lvl).1 s (readP g n lvl).1.ks.length).2)
  else ((readP g n lvl).2, [])
def scanP (g : Int → Nod × Int) : Nat → Int → Int → Sp → Int × List Pr
  | 0 => scanStep g fun _ _ _ => (0, [])
  | k + 1 => scanStep g (scanP g k)
abbrev OwnP (B : Nat) (y : World) (fv : Value) (l : List Pr) : Prop := y.ownsRow B 89 25 fv l.length (flat (l.map Pr.el))
/-- What scan comes to. -/
def ScanTo (w0 w : World) (fv : Value) (l : List Pr) (res : Int × List Pr) (e : Ending) (w' : World) : Prop :=
  Below w0.heap.size w0 w' ∧ Fr fv.ownBlock w w' ∧
    ((¬ res.1 = 0 ∧ e = .returned (.tuple #[.slice none 0 0, .int .i64 res.1])) ∨ (res.1 = 0 ∧ ∃ fv', e = .returned (.tuple #[fv', .int .i64 0]) ∧ OwnP w0.heap.size w' fv' (l ++ res.2) ∧ Near fv.ownBlock fv'.ownBlock w.heap.size))
/-- What scan holds in memory. -/
structure SC (w0 w y : World) (s : Sp) (d : Nat) (X : Nod) (px qx : Value) (r0 : Option Nat) (fv : Value) (l : List Pr) : Prop where
  s : SpIn y w.heap.size s.F s.T s.e
  m : HasN y d X px qx
  q : Parts y X px qx
  bel : Below w0.heap.size w0 y
  own : OwnP w0.heap.size y fv l
  ap : ∀ k, fv.ownBlock = some k → k ≠ w.heap.size ∧ k ≠ d ∧ Lim (fun j => j ≠ k) px ∧ Lim (fun j => j ≠ k) qx
  fr : Fr r0 w y
  near : Near r0 fv.ownBlock w.heap.size
section
variable {w0 w y z : World} {s : Sp} {d : Nat} {X : Nod} {px qx : Value} {r0 : Option Nat} {fv : Value} {l : List Pr}
theorem SC.called (h : SC w0 w y s d X px qx r0 fv l) (b : Below y.heap.size y z) : SC w0 w z s d X px qx r0 fv l :=
  ⟨h.s.below b h.s.lt, h.m.below b h.m.lt, h.q.below b, h.bel.trans (b.mono h.bel.size), own_same h.own (fun k hk => b.block k (h.own.lt k hk).2), h.ap, h.fr.trans (Fr.of_below none b) (Near.none _ _), h.near⟩
/-- Behind a call, or an append, that may write into the row. -/
theorem SC.moved {fv' : Value} {l' : List Pr} (h : SC w0 w y s d X px qx r0 fv l) (f : Fr fv.ownBlock y z) (bl : Below w0.heap.size w0 z) (ow : OwnP w0.heap.size z fv' l') (nr : Near fv.ownBlock fv'.ownBlock y.heap.size) : SC w0 w z s d X px qx r0 fv' l' := by
  have keep : ∀ k, k < y.heap.size → (∀ j, fv.ownBlock = some j → k ≠ j) → z.heap[k]? = y.heap[k]? := fun k hk hj => f.block k hk (fun e => hj k e rfl)
  have kl : ∀ {sv : Value} {e : List El}, Els y sv e → (∀ k, fv.ownBlock = some k → Lim (fun j => j ≠ k) sv) → Lim (fun k => z.heap[k]? = y.heap[k]?) sv := fun hE hk a n c e h0 => keep _ (hE.lim a n c e h0) (fun j hj => (hk j hj) a n c e h0)
  refine ⟨h.s.same (keep _ h.s.lt (fun j hj => (h.ap j hj).1.symm)), h.m.same (keep _ h.m.lt (fun j hj => (h.ap j hj).2.1.symm)), ⟨h.q.p.keptL (kl h.q.p (fun k hk => (h.ap k hk).2.2.1)) f.size, h.q.q.keptL (kl h.q.q (fun k hk => (h.ap k hk).2.2.2)) f.size⟩, bl, ow, fun k hk => ?_, h.fr.trans f h.near, h.near.trans nr h.fr.size⟩
  rcases nr k hk with q | q
  · exact h.ap k q
  · have h1 := h.s.lt
    have h2 := h.m.lt
    exact ⟨by omega, by omega, h.q.p.lim.mono (fun j hj => by omega), h.q.q.lim.mono (fun j hj => by omega)⟩
end
end Go.Proofs.YtjhdnpplmlddaaaGreat
