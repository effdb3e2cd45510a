import Derived.Test.YtgicanpggndbeaaGreatB39
/- A view over a base, as a statement's walk holds it: one contract a call. -/
namespace Go.Proofs.YtgicanpggndbeaaGreat
set_option linter.unusedVariables false
set_option maxRecDepth 100000
open Go.RowKit

/-- A view over a base, behind w0; blocks from lim on are the view's. -/
structure VAt (w0 : World) (lim : Nat) (I : Nat → World → Prop) (k : Nat) (iv : Value) (q : Nat) (x : VR) (V : VS) (y : World) : Prop where
  vw : VwIn y q iv x V
  base : I k y
  own : ∀ i, x.own q i → lim ≤ i
  bel : Below w0.heap.size w0 y
  le : w0.heap.size ≤ lim
  limy : lim ≤ y.heap.size
/-- Behind a call. -/
structure VTo (S : Nat → Prop) (w0 : World) (lim : Nat) (I : Nat → World → Prop) (k : Nat) (iv : Value) (q : Nat) (x : VR) (V : VS) (y : World) (x' : VR) (y' : World) : Prop where
  at_ : VAt w0 lim I k iv q x' V y'
  fr : FrV (fun i => x.own q i ∨ S i) y y'
  own : ∀ i, x'.own q i → x.own q i ∨ y.heap.size ≤ i
  n : x'.n ≤ x.n + 4
section
variable {lim : Nat} {S : Nat → Prop} {I : Nat → World → Prop} {iv : Value} {ge : Kz → List UInt8 × Bool × Int} {sn : Sp → List Pa × Int} {w0 y : World} {k q : Nat} {x : VR} {V : VS}
theorem VAt.step (h : VAt w0 lim I k iv q x V y) (hS : ∀ i, S i → w0.heap.size ≤ i) {k' : Nat} {V' : VS} {y' : World} {x' : VR} (g : VGo S y q iv x V' y' x') (hI : I k' y') : VTo S w0 lim I k' iv q x V' y x' y' :=
  ⟨⟨g.vw, hI, fun i hi => (g.own i hi).elim (h.own i) (fun e => Nat.le_trans h.limy e), h.bel.trans (g.fr.below (fun i hi => hi.elim (fun e => Nat.le_trans h.le (h.own i e)) (hS i)) (Nat.le_trans h.le h.limy)), h.le, Nat.le_trans h.limy g.fr.size⟩, g.fr, g.own, g.more⟩
/-- What lies below lim stands. -/
theorem VTo.old {k' : Nat} {V' : VS} {x' : VR} {y' : World} (t : VTo S w0 lim I k' iv q x V' y x' y') (h : VAt w0 lim I k iv q x V y) {b : Nat} (hb : b < lim) (hS : ¬ S b) : y'.heap[b]? = y.heap[b]? :=
  t.fr.block b (Nat.lt_of_lt_of_le hb h.limy) (fun e => e.elim (fun q => by have := h.own b q; omega) hS)
theorem VAt.left (D : Baser lim S I iv ge sn) (h : VAt w0 lim I k iv q x V y) (hS : ∀ i, S i → w0.heap.size ≤ i) {V' : VS} {y' : World} {x' : VR} (g : VLeft y q iv x V' y' x') : VTo S w0 lim I k iv q x V' y x' y' :=
  h.step hS (g.go S) (D.mono _ _ _ h.base (g.above h.own h.limy))
theorem VAt.tight (h : VAt w0 lim I k iv q x V y) (n : Nat) (hn : V.most n) : VAt w0 lim I k iv q { x with n := n } V y := ⟨h.vw.tight n hn, h.base, h.own, h.bel, h.le, h.limy⟩
theorem VAt.called (D : Baser lim S I iv ge sn) (h : VAt w0 lim I k iv q x V y) {y' : World} (b : Below y.heap.size y y') : VAt w0 lim I k iv q x V y' :=
  ⟨h.vw.called b, D.mono _ _ _ h.base (b.mono h.limy), h.own, h.bel.trans (b.mono (Nat.le_trans h.le h.limy)), h.le, Nat.le_trans h.limy b.size⟩
theorem VAt.put (D : Baser lim S I iv ge sn) (h : VAt w0 lim I k iv q x V y) (hS : ∀ i, S i → w0.heap.size ≤ i) (hn : x.n ≤ 100000) (c : Ch) (hg : c.g = false) (hv : okV c.v = true) :
    Calls Tryz.prog 19 #[.pointer (some ⟨q, 0, none⟩), kv c.k, .string (str c.v)] y fun e y' => e = .returned (.int .i64 0) ∧ ∃ x', VTo S w0 lim I k iv q x (V.change c) y x' y' :=
  (vput_calls y q iv x V c hg h.vw hn hv).mono fun e y' r => by
    obtain ⟨r1, x', r2⟩ := r
    exact ⟨r1, x', h.left D hS r2⟩
theorem VAt.delete (D : Baser lim S I iv ge sn) (h : VAt w0 lim I k iv q x V y) (hS : ∀ i, S i → w0.heap.size ≤ i) (hn : x.n ≤ 100000) (K : Kz) :
    Calls Tryz.prog 38 #[.pointer (some ⟨q, 0, none⟩), kv K.k] y fun e y' => e = .returned (.int .i64 0) ∧ ∃ x', VTo S w0 lim I k iv q x (V.change (goneC K)) y x' y' :=
  (vdelete_calls y q iv x V K h.vw hn).mono fun e y' r => by
    obtain ⟨r1, x', r2⟩ := r
    exact ⟨r1, x', h.left D hS r2⟩
theorem VAt.get (D : Baser lim S I iv ge sn) (h : VAt w0 lim I (k + 1) iv q x V y) (hS : ∀ i, S i → w0.heap.size ≤ i) (hn : x.n ≤ 100000) (J : Kz) :
    Calls Tryz.prog 87 #[.pointer (some ⟨q, 0, none⟩), kv J.k] y fun e y' => e = .returned (gv (getV V.C ge J)) ∧ VTo S w0 lim I k iv q x (getW V J) y { x with n := x.n + 1 } y' :=
  (vget_calls D k y q x V J h.vw h.base h.own hn).mono fun e y' r => by
    obtain ⟨r1, r2, r3⟩ := r
    exact ⟨r1, h.step hS r3 r2⟩
theorem VAt.scan (D : Baser lim S I iv ge sn) (h : VAt w0 lim I (k + 1) iv q x V y) (hS : ∀ i, S i → w0.heap.size ≤ i) (hn : x.n ≤ 5000) (s : Sp) :
    Calls Tryz.prog 75 #[.pointer (some ⟨q, 0, none⟩), spv s] y fun e y' => ∃ ad cap, e = .returned (.tuple #[.slice ad (scanV V.C sn s).1.length cap, .int .i64 (scanV V.C sn s).2]) ∧ Own encP 88 y' y.heap.size (.slice ad (scanV V.C sn s).1.length cap) (scanV V.C sn s).1 ∧ VTo S w0 lim I k iv q x { V with R := V.R ++ [s] } y { x with n := x.n + 1 } y' :=
  (vscan_calls D k y q x V s h.vw h.base h.own hn).mono fun e y' r => by
    obtain ⟨v, r1, r2, r3, r4⟩ := r
    obtain ⟨ad, cap, rfl, -, -, -, -⟩ := id r2.slB
    exact ⟨ad, cap, r1, r2, h.step hS r4 r3⟩
/-- A number that is no mark's. -/
theorem vreads_at (h : VAt w0 lim I k iv q x V y) (hn : x.n ≤ 50000) : Calls Tryz.prog 26 #[.pointer (some ⟨q, 0, none⟩)] y (SetTo y (mem V.R) (2 * x.n)) := vreads_calls y q iv x V h.vw hn
end
/-- A new view over a base that is there. -/
theorem VAt.new {lim : Nat} {S : Nat → Prop} {I : Nat → World → Prop} {ge : Kz → List UInt8 × Bool × Int} {sn : Sp → List Pa × Int} {T : TypeId} {r : Value} (D : Baser lim S I (.iface T r) ge sn) (w0 y : World) (k : Nat) (hI : I k y) (hle : w0.heap.size ≤ lim) (hb : Below w0.heap.size w0 y) :
    Calls Tryz.prog 8 #[.iface T r] y fun e y' => ∃ q x, e = .returned (.pointer (some ⟨q, 0, none⟩)) ∧ VAt w0 lim I k (.iface T r) q x vs0 y' ∧ x.n = 0 ∧ (∀ i, x.own q i → y.heap.size ≤ i) ∧ Below y.heap.size y y' :=
  (vnew_calls y T r).mono fun e y' h => by
    obtain ⟨q, x, h1, h2, h3, h4, h5⟩ := h
    have hl := D.size _ _ hI
    exact ⟨q, x, h1, ⟨h2, D.mono _ _ _ hI (h5.mono hl), fun i hi => Nat.le_trans hl (h4 i hi), hb.trans (h5.mono (Nat.le_trans hle hl)), hle, Nat.le_trans hl h5.size⟩, h3, h4, h5⟩
end Go.Proofs.YtgicanpggndbeaaGreat
