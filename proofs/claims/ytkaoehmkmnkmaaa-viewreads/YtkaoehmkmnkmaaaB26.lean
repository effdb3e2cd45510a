import Derived.Test.YtkaoehmkmnkmaaaB25
import Derived.Stop.Asserts
import Derived.WalkKit
/- Size of a base, and As. -/
namespace Go.Proofs.Ytkaoehmkmnkmaaa
set_option linter.unusedVariables false
set_option maxRecDepth 100000
open Go.RowKit

theorem invoke_op0 {ops : Array Oper} {rest : List Oper} {o : Oper} {a : Act} {w : World} {Q : Exit → Act → World → Prop} (r : Operand) (name : String) (ho : o.op = .call { callee := .invoke r name, args := #[], argTypes := #[] }) (hg : o.guard = none)
    (iv : Value) (G : FuncId) (recv : Value) (hr : a.eval r = iv) (hm : Meth iv name G recv) {R : Ending → World → Prop} (hc : Calls Try.prog G #[recv] w R)
    (h : ∀ e w', R e w' → ∃ v, e = .returned v ∧ wpList Try.prog ops Q rest (a.put o.dst v) w') : wpList Try.prog ops Q (o :: rest) a w :=
  wpList_plain hg fun _ hK => wp_invoke r name #[] #[] ho iv G recv hr hm #[] (by simp) (by simpa using hc) fun e w' he => by
    obtain ⟨v, h1, h2⟩ := h e w' he
    exact ⟨v, h1, hK _ _ h2⟩
theorem sized_yes (W : World) (v : Value) : (Instr.typeAssert (.iface 40 v) 45 96 true).run Try.prog W = .ok (.tuple #[.iface 40 v, .bool true]) W := by kernel_rfl
set_option maxHeartbeats 4000000 in
theorem size_plain (w : World) (p : Nat) (v : Value) (L : List Pa) (h : PlIn w p v L) :
    Calls Try.prog 13 #[.iface 40 (.pointer (some ⟨p, 0, none⟩))] w fun e w' => e = .returned (.tuple #[.int .i64 (L.length : Int), .bool true]) ∧ w' = w := by
  have hs : Calls Try.prog 27 #[.iface 40 (.pointer (some ⟨p, 0, none⟩))] w fun e w' => e = .returned (.tuple #[.int .i64 (L.length : Int), .bool true]) ∧ w' = w := by
    have hl := plen_calls w p v L h
    have hm := plain_methL p
    have ht := sized_yes w (.pointer (some ⟨p, 0, none⟩))
    clear h
    go_enter Try.func27, Try.ntmps27
    go_wp2_with (refine invoke_op0 (.tmp 12) "Len" rfl rfl (.iface 40 (.pointer (some ⟨p, 0, none⟩))) 114 _ rfl hm hl ?_; clear hl; rintro e w1 ⟨rfl, hw1⟩; refine ⟨_, rfl, ?_⟩; rw [hw1]; clear hw1)
    go_ret2
    exact ⟨rfl, rfl⟩
  clear h
  go_enter Try.func13, Try.ntmps13
  go_wp2_with (go_at_call 27; refine hs.mono ?_; clear hs; rintro e w1 ⟨rfl, hw1⟩; rw [hw1]; clear hw1)
  go_ret2
  exact ⟨rfl, rfl⟩
set_option maxHeartbeats 4000000 in
theorem size_no (w : World) (iv : Value) (hiv : (Instr.typeAssert iv 45 96 true).run Try.prog w = .ok (.tuple #[.nilIface, .bool false]) w) :
    Calls Try.prog 13 #[iv] w fun e w' => e = .returned (.tuple #[.int .i64 0, .bool false]) ∧ w' = w := by
  have hs : Calls Try.prog 27 #[iv] w fun e w' => e = .returned (.tuple #[.int .i64 0, .bool false]) ∧ w' = w := by
    go_enter Try.func27, Try.ntmps27
    go_wp2_with fail
    go_ret2
    exact ⟨rfl, rfl⟩
  clear hiv
  go_enter Try.func13, Try.ntmps13
  go_wp2_with (go_at_call 27; refine hs.mono ?_; clear hs; rintro e w1 ⟨rfl, hw1⟩; rw [hw1]; clear hw1)
  go_ret2
  exact ⟨rfl, rfl⟩
theorem size_failing (w : World) (v : Value) : Calls Try.prog 13 #[.iface 31 v] w fun e w' => e = .returned (.tuple #[.int .i64 0, .bool false]) ∧ w' = w := size_no w _ (run_typeAssert_lacksB Try.underlying96 (by kernel_rfl) (by kernel_rfl) _ _ _)
theorem size_nil (w : World) : Calls Try.prog 13 #[.nilIface] w fun e w' => e = .returned (.tuple #[.int .i64 0, .bool false]) ∧ w' = w := size_no w _ (by kernel_rfl)
set_option maxHeartbeats 4000000 in
theorem as_any (w : World) (iv r : Value) (b : Bool) (hiv : (Instr.typeAssert iv 20 45 true).run Try.prog w = .ok (.tuple #[r, .bool b]) w) (hr : b = false → r = .nilIface) :
    Calls Try.prog 14 #[iv] w fun e w' => e = .returned (.tuple #[r, .bool b]) ∧ w' = w := by
  have hs : Calls Try.prog 28 #[iv] w fun e w' => e = .returned (.tuple #[r, .bool b]) ∧ w' = w := by
    cases b with
    | true =>
      clear hr
      go_enter Try.func28, Try.ntmps28
      go_wp2_with fail
      go_ret2
      exact ⟨rfl, rfl⟩
    | false =>
      obtain rfl := hr rfl
      clear hr
      go_enter Try.func28, Try.ntmps28
      go_wp2_with fail
      go_ret2
      exact ⟨rfl, rfl⟩
  clear hiv hr
  go_enter Try.func14, Try.ntmps14
  go_wp2_with (go_at_call 28; refine hs.mono ?_; clear hs; rintro e w1 ⟨rfl, hw1⟩; rw [hw1]; clear hw1)
  go_ret2
  exact ⟨rfl, rfl⟩
theorem as_plain (w : World) (v : Value) : Calls Try.prog 14 #[.iface 40 v] w fun e w' => e = .returned (.tuple #[.iface 40 v, .bool true]) ∧ w' = w := as_any w _ _ true (by kernel_rfl) (fun h => by cases h)
theorem as_view (w : World) (v : Value) : Calls Try.prog 14 #[.iface 28 v] w fun e w' => e = .returned (.tuple #[.iface 28 v, .bool true]) ∧ w' = w := as_any w _ _ true (by kernel_rfl) (fun h => by cases h)
theorem as_string (w : World) (v : Value) : Calls Try.prog 14 #[.iface 9 v] w fun e w' => e = .returned (.tuple #[.nilIface, .bool false]) ∧ w' = w := as_any w _ _ false (run_typeAssert_lacksB Try.underlying45 (by kernel_rfl) (by kernel_rfl) _ _ _) (fun _ => rfl)
theorem as_int (w : World) (v : Value) : Calls Try.prog 14 #[.iface 3 v] w fun e w' => e = .returned (.tuple #[.nilIface, .bool false]) ∧ w' = w := as_any w _ _ false (run_typeAssert_lacksB Try.underlying45 (by kernel_rfl) (by kernel_rfl) _ _ _) (fun _ => rfl)
theorem as_nil (w : World) : Calls Try.prog 14 #[.nilIface] w fun e w' => e = .returned (.tuple #[.nilIface, .bool false]) ∧ w' = w := as_any w _ _ false (by kernel_rfl) (fun _ => rfl)
end Go.Proofs.Ytkaoehmkmnkmaaa
/- A view over a base, as a statement's walk holds it: one contract a call. -/
namespace Go.Proofs.Ytkaoehmkmnkmaaa
set_option linter.unusedVariables false
set_option maxRecDepth 100000
open Go.RowKit

/-- A view over a base, behind w0; blocks from lim on are the view's. -/
structure VAt (w0 : World) (lim : Nat) (I : Nat → World → Prop) (k : Nat) (iv : Value) (q : Nat) (x : VR) (V : VS) (y : World) : Prop where
  vw : VwIn y q iv x V
  base : I k y
  own : ∀ i, x.own q i → lim ≤ i
  bel : Below w0.heap.size w0 y
  le : w0.heap.size ≤ lim
  limy : lim ≤ y.heap.size
/-- Behind a call. -/
structure VTo (S : Nat → Prop) (w0 : World) (lim : Nat) (I : Nat → World → Prop) (k : Nat) (iv : Value) (q : Nat) (x : VR) (V : VS) (y : World) (x' : VR) (y' : World) : Prop where
  at_ : VAt w0 lim I k iv q x' V y'
  fr : FrV (fun i => x.own q i ∨ S i) y y'
  own : ∀ i, x'.own q i → x.own q i ∨ y.heap.size ≤ i
  n : x'.n ≤ x.n + 4
section
variable {lim : Nat} {S : Nat → Prop} {I : Nat → World → Prop} {iv : Value} {ge : Kz → List UInt8 × Bool × Int} {sn : Sp → List Pa × Int} {w0 y : World} {k q : Nat} {x : VR} {V : VS}
theorem VAt.step (h : VAt w0 lim I k iv q x V y) (hS : ∀ i, S i → w0.heap.size ≤ i) {k' : Nat} {V' : VS} {y' : World} {x' : VR} (g : VGo S y q iv x V' y' x') (hI : I k' y') : VTo S w0 lim I k' iv q x V' y x' y' :=
  ⟨⟨g.vw, hI, fun i hi => (g.own i hi).elim (h.own i) (fun e => Nat.le_trans h.limy e), h.bel.trans (g.fr.below (fun i hi => hi.elim (fun e => Nat.le_trans h.le (h.own i e)) (hS i)) (Nat.le_trans h.le h.limy)), h.le, Nat.le_trans h.limy g.fr.size⟩, g.fr, g.own, g.more⟩
/-- What lies below lim stands. -/
theorem VTo.old {k' : Nat} {V' : VS} {x' : VR} {y' : World} (t : VTo S w0 lim I k' iv q x V' y x' y') (h : VAt w0 lim I k iv q x V y) {b : Nat} (hb : b < lim) (hS : ¬ S b) : y'.heap[b]? = y.heap[b]? :=
  t.fr.block b (Nat.lt_of_lt_of_le hb h.limy) (fun e => e.elim (fun q => by have := h.own b q; omega) hS)
theorem VAt.left (D : Baser lim S I iv ge sn) (h : VAt w0 lim I k iv q x V y) (hS : ∀ i, S i → w0.heap.size ≤ i) {V' : VS} {y' : World} {x' : VR} (g : VLeft y q iv x V' y' x') : VTo S w0 lim I k iv q x V' y x' y' :=
  h.step hS (g.go S) (D.mono _ _ _ h.base (g.above h.own h.limy))
theorem VAt.tight (h : VAt w0 lim I k iv q x V y) (n : Nat) (hn : V.most n) : VAt w0 lim I k iv q { x with n := n } V y := ⟨h.vw.tight n hn, h.base, h.own, h.bel, h.le, h.limy⟩
theorem VAt.called (D : Baser lim S I iv ge sn) (h : VAt w0 lim I k iv q x V y) {y' : World} (b : Below y.heap.size y y') : VAt w0 lim I k iv q x V y' :=
  ⟨h.vw.called b, D.mono _ _ _ h.base (b.mono h.limy), h.own, h.bel.trans (b.mono (Nat.le_trans h.le h.limy)), h.le, Nat.le_trans h.limy b.size⟩
theorem VAt.mark (D : Baser lim S I iv ge sn) (h : VAt w0 lim I k iv q x V y) (hS : ∀ i, S i → w0.heap.size ≤ i) (hn : x.n ≤ 100000) :
    Calls Try.prog 19 #[.pointer (some ⟨q, 0, none⟩)] y fun e y' => e = .returned (.int .i64 (V.U.length : Int)) ∧ ∃ x', VTo S w0 lim I k iv q x V.mark y x' y' :=
  (vmark_calls y q iv x V h.vw (Nat.le_trans h.vw.most hn)).mono fun e y' r => by
    obtain ⟨r1, x', r2⟩ := r
    exact ⟨r1, x', h.left D hS r2⟩
theorem VAt.put (D : Baser lim S I iv ge sn) (h : VAt w0 lim I k iv q x V y) (hS : ∀ i, S i → w0.heap.size ≤ i) (hn : x.n ≤ 100000) (c : Ch) (hg : c.g = false) (hv : okV c.v = true) :
    Calls Try.prog 10 #[.pointer (some ⟨q, 0, none⟩), kv c.k, .string (str c.v)] y fun e y' => e = .returned (.int .i64 0) ∧ ∃ x', VTo S w0 lim I k iv q x (V.change c) y x' y' :=
  (vput_calls y q iv x V c hg h.vw hn hv).mono fun e y' r => by
    obtain ⟨r1, x', r2⟩ := r
    exact ⟨r1, x', h.left D hS r2⟩
theorem VAt.delete (D : Baser lim S I iv ge sn) (h : VAt w0 lim I k iv q x V y) (hS : ∀ i, S i → w0.heap.size ≤ i) (hn : x.n ≤ 100000) (K : Kz) :
    Calls Try.prog 20 #[.pointer (some ⟨q, 0, none⟩), kv K.k] y fun e y' => e = .returned (.int .i64 0) ∧ ∃ x', VTo S w0 lim I k iv q x (V.change (goneC K)) y x' y' :=
  (vdelete_calls y q iv x V K h.vw hn).mono fun e y' r => by
    obtain ⟨r1, x', r2⟩ := r
    exact ⟨r1, x', h.left D hS r2⟩
theorem VAt.get (D : Baser lim S I iv ge sn) (h : VAt w0 lim I (k + 1) iv q x V y) (hS : ∀ i, S i → w0.heap.size ≤ i) (hn : x.n ≤ 100000) (J : Kz) :
    Calls Try.prog 8 #[.pointer (some ⟨q, 0, none⟩), kv J.k] y fun e y' => e = .returned (gv (getV V.C ge J)) ∧ VTo S w0 lim I k iv q x (getW V J) y { x with n := x.n + 1 } y' :=
  (vget_calls D k y q x V J h.vw h.base h.own hn).mono fun e y' r => by
    obtain ⟨r1, r2, r3⟩ := r
    exact ⟨r1, h.step hS r3 r2⟩
theorem VAt.scan (D : Baser lim S I iv ge sn) (h : VAt w0 lim I (k + 1) iv q x V y) (hS : ∀ i, S i → w0.heap.size ≤ i) (hn : x.n ≤ 5000) (s : Sp) :
    Calls Try.prog 9 #[.pointer (some ⟨q, 0, none⟩), spv s] y fun e y' => ∃ ad cap, e = .returned (.tuple #[.slice ad (scanV V.C sn s).1.length cap, .int .i64 (scanV V.C sn s).2]) ∧ Own encP 55 y' y.heap.size (.slice ad (scanV V.C sn s).1.length cap) (scanV V.C sn s).1 ∧ VTo S w0 lim I k iv q x { V with R := V.R ++ [s] } y { x with n := x.n + 1 } y' :=
  (vscan_calls D k y q x V s h.vw h.base h.own hn).mono fun e y' r => by
    obtain ⟨v, r1, r2, r3, r4⟩ := r
    obtain ⟨ad, cap, rfl, -, -, -, -⟩ := id r2.slB
    exact ⟨ad, cap, r1, r2, h.step hS r4 r3⟩
theorem VAt.back (D : Baser lim S I iv ge sn) (h : VAt w0 lim I k iv q x V y) (hn : x.n ≤ 1000) (m : Nat) (hm : m < V.U.length) (hok : ∀ L ∈ V.U, FoOk L) (n : Nat) (hmo : (V.back m).most n) (hnn : n ≤ x.n + 4) :
    Calls Try.prog 21 #[.pointer (some ⟨q, 0, none⟩), .int .i64 (m : Int)] y fun e y' => e = .returned (.int .i64 0) ∧ ∃ x', VTo S w0 lim I k iv q x (V.back m) y x' y' :=
  (vback_calls y q iv x V m h.vw hok hm hn).mono fun e y' r => by
    obtain ⟨r1, x', r2, r3, r4, r5⟩ := r
    have hfr : FrV (fun i => x.own q i ∨ S i) y y' := ⟨r4.bel, fun i hi hn => r4.block i hi (fun e => hn (.inl e))⟩
    exact ⟨r1, { x' with n := n }, ⟨r2.tight n hmo, D.mono _ _ _ h.base (r4.below h.own h.limy), fun i hi => (r5 i hi).elim (h.own i) (fun e => Nat.le_trans h.limy e), h.bel.trans (r4.below (fun i hi => Nat.le_trans h.le (h.own i hi)) (Nat.le_trans h.le h.limy)), h.le, Nat.le_trans h.limy r4.size⟩, hfr, r5, hnn⟩
/-- A number that is no mark's. -/
theorem vreads_at (h : VAt w0 lim I k iv q x V y) (hn : x.n ≤ 50000) : Calls Try.prog 17 #[.pointer (some ⟨q, 0, none⟩)] y (SetTo y (mem V.R) (2 * x.n)) := vreads_calls y q iv x V h.vw hn
end
/-- A new view over a base that is there. -/
theorem VAt.new {lim : Nat} {S : Nat → Prop} {I : Nat → World → Prop} {ge : Kz → List UInt8 × Bool × Int} {sn : Sp → List Pa × Int} {T : TypeId} {r : Value} (D : Baser lim S I (.iface T r) ge sn) (w0 y : World) (k : Nat) (hI : I k y) (hle : w0.heap.size ≤ lim) (hb : Below w0.heap.size w0 y) :
    Calls Try.prog 7 #[.iface T r] y fun e y' => ∃ q x, e = .returned (.pointer (some ⟨q, 0, none⟩)) ∧ VAt w0 lim I k (.iface T r) q x vs0 y' ∧ x.n = 0 ∧ (∀ i, x.own q i → y.heap.size ≤ i) ∧ Below y.heap.size y y' :=
  (vnew_calls y T r).mono fun e y' h => by
    obtain ⟨q, x, h1, h2, h3, h4, h5⟩ := h
    have hl := D.size _ _ hI
    exact ⟨q, x, h1, ⟨h2, D.mono _ _ _ hI (h5.mono hl), fun i hi => Nat.le_trans hl (h4 i hi), hb.trans (h5.mono (Nat.le_trans hle hl)), hle, Nat.le_trans hl h5.size⟩, h3, h4, h5⟩
end Go.Proofs.Ytkaoehmkmnkmaaa
/- What must be in any case: shown. -/
namespace Go.Proofs.Ytkaoehmkmnkmaaa
set_option linter.unusedVariables false
set_option maxRecDepth 100000
open Go.RowKit

/-- The key of a number. -/
def vk (n : UInt8) : Kz := ⟨n :: zs 23, rfl⟩
def vp (n : UInt8) (v : List UInt8) : Pa := ⟨(vk n).k, (vk n).h, v⟩
def vc (n : UInt8) (v : List UInt8) : Ch := ⟨(vk n).k, (vk n).h, v, false⟩
def allV : Sp := ⟨zs 24, zs 24, true, rfl, rfl⟩
theorem vk1 : Try.prog.built 23 [(0, .int .u8 1)] = some (bc (1 :: zs 23)).toArray := by kernel_rfl
theorem vk2 : Try.prog.built 23 [(0, .int .u8 2)] = some (bc (2 :: zs 23)).toArray := by kernel_rfl
theorem vall : Try.prog.built 25 [(2, .bool true)] = some (sc (zs 24) (zs 24) true).toArray := by kernel_rfl
theorem vn12 : (vk 1).n < (vk 2).n := by decide
theorem vmap1 {m : List Pa} (h : MapIs [vp 1 [97]] m) : m = [vp 1 [97]] := h.unique (map_is _)
/-- The states that shown goes through. -/
def sv1 : VS := ⟨[], [], [[]]⟩
def sv2 : VS := ⟨[vc 2 [98]], [], [ [⟨vk 2, ch0, false⟩] ]⟩
def sv3 : VS := ⟨[goneC (vk 1), vc 2 [98]], [], [ [⟨vk 1, ch0, false⟩, ⟨vk 2, ch0, false⟩] ]⟩
def sv4 : VS := ⟨[goneC (vk 1), vc 2 [98]], [allV], [ [⟨vk 1, ch0, false⟩, ⟨vk 2, ch0, false⟩] ]⟩
def sv5 : VS := ⟨[], [allV], [[]]⟩
def sv6 : VS := ⟨[], [allV, oneSp (vk 1)], [[]]⟩
theorem st1 : vs0.mark = sv1 := rfl
theorem st2 : sv1.change (vc 2 [98]) = sv2 := by kernel_rfl
theorem st3 : sv2.change (goneC (vk 1)) = sv3 := by kernel_rfl
theorem st5 : sv4.back 0 = sv5 := by kernel_rfl
theorem st6 : getW sv5 (vk 1) = sv6 := by kernel_rfl
theorem sc4 : scanV sv3.C (fun s => (scanL s [vp 1 [97]], 0)) allV = ([vp 2 [98]], 0) := by kernel_rfl
theorem gt6 : getV sv5.C (plGe [vp 1 [97]]) (vk 1) = ([97], true, 0) := by kernel_rfl
theorem ok4 : ∀ L ∈ sv4.U, FoOk L := by
  intro L hL
  simp only [sv4, List.mem_singleton] at hL
  subst hL
  intro f hf hw
  simp only [List.mem_cons, List.not_mem_nil, or_false] at hf
  rcases hf with rfl | rfl <;> cases hw
theorem mo5 : sv5.most 4 := ⟨by decide, by decide, by decide, by intro L hL; simp only [sv5, List.mem_singleton] at hL; subst hL; decide⟩
theorem rd6 {R : List Sp} (h : Is R (mem sv6.R)) : R.length = 1 := by
  have e : R = [allV] := Is.unique h (h := mem [allV]) ⟨⟨by decide, .inl ⟨rfl, rfl, rfl⟩⟩, fun _ _ => rfl⟩ (fun K _ => by
    have h1 : allV.inb (num K) = true := by
      unfold Sp.inb
      have h2 : num allV.F = 0 := by decide
      have h3 : allV.e = true := rfl
      rw [h2, h3]
      simp
    simp [sv6, mem_cons, h1])
  rw [e]
  rfl
/-- Where the one pair of a row lies. -/
theorem own_one {w : World} {base : Nat} {ad : Option Addr} {cap : Nat} {a : Pa} (h : Own encP 55 w base (.slice ad 1 cap) [a]) : ∃ g, ad = some ⟨g, 0, none⟩ ∧ base ≤ g ∧ g < w.heap.size ∧ w.cell? ⟨g, 24, none⟩ = some (.string (str a.v)) := by
  have hl := h.lt
  have hs := h.slB
  rcases h.2 with ⟨e, _⟩ | ⟨g, cap', cur, e, q⟩
  · cases e
  · cases e
    obtain ⟨g', off, e2, _, hr⟩ := SlB.at hs 0 (show 0 < [a].length from Nat.zero_lt_succ _)
    cases e2
    refine ⟨g, rfl, (hl g rfl).1, (hl g rfl).2, ?_⟩
    have := range_vP hr
    simpa using this
set_option maxRecDepth 100000 in
set_option maxHeartbeats 8000000 in
theorem shown12_calls (w : World) : Calls Try.prog 6 #[] w fun e w' => e = .returned (.bool true) ∧ Below w.heap.size w w' := by
  go_enter Try.func6, Try.ntmps6
  go_wp2_with (first
    | (refine build_at rfl rfl (cells := (bc (1 :: zs 23)).toArray) (by simp only [List.map_toArray, List.map_cons, List.map_nil]; exact vk1) ?_)
    | (refine build_p rfl _ _ rfl (vp 1 [97]) rfl rfl ?_)
    | (refine build_el1 rowP rfl _ rfl (vp 1 [97]) rfl (by decide) ?_; intro x0 o0 b0 s0 hb0
       have hN := newPlain_calls x0 _ [vp 1 [97]] o0.slB (by decide)
       have HB0 : Hid (Below w.heap.size w x0) := b0
       clear o0 b0 s0 hb0)
    | (go_at_call 12; refine hN.mono ?_; clear hN; rintro e x1 ⟨p, pv, m, rfl, hp, hm, -, hpl, b1⟩
       obtain rfl := vmap1 hm
       have HP : Hid (PlIn x1 p pv [vp 1 [97]] ∧ Below w.heap.size w x1) := ⟨hp, HB0.out.trans (b1.mono HB0.out.size)⟩
       have HD : Hid (Baser x1.heap.size noB (fun _ w => PlB x1.heap.size w p pv [vp 1 [97]]) (.iface 40 (.pointer (some ⟨p, 0, none⟩))) (plGe [vp 1 [97]]) (fun s => (scanL s [vp 1 [97]], 0))) := plain_base _ p pv _ (by decide)
       clear hm hp hpl b1 HB0
       have hV := VAt.new HD.out w x1 2 (PlB.of HP.out.1) HP.out.2.size HP.out.2)
    | (go_at_call 7; refine hV.mono ?_; clear hV; rintro e x2 ⟨q, x, rfl, A, hn, -, -⟩
       have hn0 : x.n = 0 := hn
       have HN : Hid (x.n ≤ 0) := Nat.le_of_eq hn
       clear hn hn0
       have HA : Hid (VAt w x1.heap.size (fun _ w => PlB x1.heap.size w p pv [vp 1 [97]]) 2 (.iface 40 (.pointer (some ⟨p, 0, none⟩))) q x vs0 x2) := A
       clear A
       have hM := HA.out.mark HD.out (fun i h => h.elim) (by have := HN.out; omega)
       rw [show ((vs0.U.length : Nat) : Int) = 0 from rfl] at hM)
    | (go_at_call 19; refine hM.mono ?_; clear hM; rintro e x3 ⟨rfl, r3, T3⟩
       have HA3 : Hid (VAt w x1.heap.size (fun _ w => PlB x1.heap.size w p pv [vp 1 [97]]) 2 (.iface 40 (.pointer (some ⟨p, 0, none⟩))) q r3 sv1 x3 ∧ r3.n ≤ 4) := ⟨T3.at_, by have := T3.n; have := HN.out; omega⟩
       clear T3 HA HN)
    | (refine build_at rfl rfl (cells := (bc (2 :: zs 23)).toArray) (by simp only [List.map_toArray, List.map_cons, List.map_nil]; exact vk2) ?_
       have hPu := HA3.out.1.put HD.out (fun i h => h.elim) (by have := HA3.out.2; omega) (vc 2 [98]) rfl (by decide))
    | (go_at_call 10; refine hPu.mono ?_; clear hPu; rintro e x4 ⟨rfl, r4, T4⟩
       have HA4 : Hid (VAt w x1.heap.size (fun _ w => PlB x1.heap.size w p pv [vp 1 [97]]) 2 (.iface 40 (.pointer (some ⟨p, 0, none⟩))) q r4 sv2 x4 ∧ r4.n ≤ 8) := ⟨by rw [← st2]; exact T4.at_, by have := T4.n; have := HA3.out.2; omega⟩
       clear T4 HA3
       have hDe := HA4.out.1.delete HD.out (fun i h => h.elim) (by have := HA4.out.2; omega) (vk 1))
    | (go_at_call 20; refine hDe.mono ?_; clear hDe; rintro e x5 ⟨rfl, r5, T5⟩
       have HA5 : Hid (VAt w x1.heap.size (fun _ w => PlB x1.heap.size w p pv [vp 1 [97]]) 2 (.iface 40 (.pointer (some ⟨p, 0, none⟩))) q r5 sv3 x5 ∧ r5.n ≤ 12) := ⟨by rw [← st3]; exact T5.at_, by have := T5.n; have := HA4.out.2; omega⟩
       clear T5 HA4
       have hSc := HA5.out.1.scan HD.out (fun i h => h.elim) (by have := HA5.out.2; omega) allV
       rw [sc4] at hSc)
    | (refine build_at rfl rfl (cells := (sc (zs 24) (zs 24) true).toArray) (by simp only [List.map_toArray, List.map_cons, List.map_nil]; exact vall) ?_)
    | (go_at_call 9; refine hSc.mono ?_; clear hSc; rintro e x6 ⟨ad, cap, rfl, o6, T6⟩
       obtain ⟨g, rfl, hg1, hg2, hg3⟩ := own_one o6
       have HA6 : Hid (VAt w x1.heap.size (fun _ w => PlB x1.heap.size w p pv [vp 1 [97]]) 1 (.iface 40 (.pointer (some ⟨p, 0, none⟩))) q { r5 with n := r5.n + 1 } sv4 x6 ∧ r5.n + 1 ≤ 13 ∧ g < x6.heap.size ∧ x6.cell? ⟨g, 24, none⟩ = some (.string (str [98])) ∧ ¬ r5.own q g) := ⟨T6.at_, by have := HA5.out.2; omega, hg2, hg3, fun e => by have := HA5.out.1.vw.lt e; omega⟩
       have hBa := HA6.out.1.back HD.out (show r5.n + 1 ≤ 1000 by have := HA6.out.2.1; omega) 0 (by decide) ok4 4 (by rw [st5]; exact mo5) (Nat.le_add_left _ _)
       rw [st5, show ((0 : Nat) : Int) = 0 from rfl] at hBa
       clear T6 HA5 o6 hg1 hg2 hg3)
    | (go_at_call 21; refine hBa.mono ?_; clear hBa; rintro e x7 ⟨rfl, r7, T7⟩
       have HA7 : Hid (VAt w x1.heap.size (fun _ w => PlB x1.heap.size w p pv [vp 1 [97]]) 1 (.iface 40 (.pointer (some ⟨p, 0, none⟩))) q r7 sv5 x7 ∧ r7.n ≤ 18 ∧ g < x7.heap.size ∧ x7.cell? ⟨g, 24, none⟩ = some (.string (str [98])) ∧ ¬ r7.own q g) := by
         have h6 := HA6.out
         refine ⟨T7.at_, by have h : r7.n ≤ r5.n + 1 + 4 := T7.n; omega, Nat.lt_of_lt_of_le h6.2.2.1 T7.fr.size, (World.cell?_of_block (T7.fr.block g h6.2.2.1 (fun e => e.elim h6.2.2.2.2 (fun q => q.elim)))).trans h6.2.2.2.1, fun e => (T7.own g e).elim h6.2.2.2.2 (fun q => by have := h6.2.2.1; omega)⟩
       clear T7 HA6
       have hGe := HA7.out.1.get HD.out (fun i h => h.elim) (by have := HA7.out.2.1; omega) (vk 1)
       rw [gt6, st6] at hGe
       simp only [gv] at hGe
       rw [show str [97] = (⟨#[97]⟩ : ByteArray) from rfl] at hGe)
    | (go_at_call 8; refine hGe.mono ?_; clear hGe; rintro e x8 ⟨rfl, T8⟩
       have HA8 : Hid (VAt w x1.heap.size (fun _ w => PlB x1.heap.size w p pv [vp 1 [97]]) 0 (.iface 40 (.pointer (some ⟨p, 0, none⟩))) q { r7 with n := r7.n + 1 } sv6 x8 ∧ r7.n + 1 ≤ 19) := ⟨T8.at_, by have := HA7.out.2.1; omega⟩
       have hg8 : x8.cell? ⟨g, 24, none⟩ = some (.string (str [98])) := by
         have h7 := HA7.out
         exact (World.cell?_of_block (T8.fr.block g h7.2.2.1 (fun e => e.elim h7.2.2.2.2 (fun q => q.elim)))).trans h7.2.2.2.1
       rw [show str [98] = (⟨#[98]⟩ : ByteArray) from rfl] at hg8
       clear T8 HA7
       have hSi := size_plain x8 p pv [vp 1 [97]] HA8.out.1.base.inn
       rw [show (([vp 1 [97]].length : Nat) : Int) = 1 from rfl] at hSi
       have hRe := vreads_at HA8.out.1 (show r7.n + 1 ≤ 50000 by have := HA8.out.2; omega))
    | (go_at_call 13; refine hSi.mono ?_; clear hSi; rintro e x9 ⟨rfl, hw9⟩; rw [hw9]; clear hw9)
    | (go_at_call 17; refine hRe.mono ?_; clear hRe; rintro e x10 ⟨vr, RR, rfl, o10, b10, i10, -⟩
       have hlR := rd6 i10
       obtain ⟨ad, cap2, rfl, -, -, -, -⟩ := id o10.slB
       rw [hlR]
       clear hlR o10 i10))
  go_ret
  exact ⟨rfl, HA8.out.1.bel.trans (b10.mono HA8.out.1.bel.size)⟩
end Go.Proofs.Ytkaoehmkmnkmaaa
/- 'n & mask' on an int, for masks of ones: what is left of n by 2 to the number of ones. -/
namespace Go.Proofs.Ytkaoehmkmnkmaaa
set_option linter.unusedVariables false
set_option maxRecDepth 100000
theorem and_ones (n : Int) (m j : Nat) (hm : (BitVec.ofInt 64 (m : Int)).toNat = 2 ^ j - 1) : (BitVec.ofInt 64 n &&& BitVec.ofInt 64 (m : Int)).toNat = (n % ((2 ^ 64 : Nat) : Int)).toNat % 2 ^ j := by
  rw [BitVec.toNat_and, BitVec.toNat_ofInt, hm, Nat.and_two_pow_sub_one_eq_mod]
theorem and3 (n : Int) : bits .and .i64 n 3 = n % 4 := by
  show IntKind.i64.wrap ((BitVec.ofInt 64 n &&& BitVec.ofInt 64 ((3 : Nat) : Int)).toNat : Nat) = n % 4
  rw [and_ones n 3 2 (by decide), IntKind.wrap_i64]
  omega
theorem and255 (n : Int) : bits .and .i64 n 255 = n % 256 := by
  show IntKind.i64.wrap ((BitVec.ofInt 64 n &&& BitVec.ofInt 64 ((255 : Nat) : Int)).toNat : Nat) = n % 256
  rw [and_ones n 255 8 (by decide), IntKind.wrap_i64]
  omega
theorem and1023 (n : Int) : bits .and .i64 n 1023 = n % 1024 := by
  show IntKind.i64.wrap ((BitVec.ofInt 64 n &&& BitVec.ofInt 64 ((1023 : Nat) : Int)).toNat : Nat) = n % 1024
  rw [and_ones n 1023 10 (by decide), IntKind.wrap_i64]
  omega
theorem and4095 (n : Int) : bits .and .i64 n 4095 = n % 4096 := by
  show IntKind.i64.wrap ((BitVec.ofInt 64 n &&& BitVec.ofInt 64 ((4095 : Nat) : Int)).toNat : Nat) = n % 4096
  rw [and_ones n 4095 12 (by decide), IntKind.wrap_i64]
  omega
theorem and32 (n : Int) : bits .and .i64 n 4294967295 = n % 4294967296 := by
  show IntKind.i64.wrap ((BitVec.ofInt 64 n &&& BitVec.ofInt 64 ((4294967295 : Nat) : Int)).toNat : Nat) = n % 4294967296
  rw [and_ones n 4294967295 32 (by decide), IntKind.wrap_i64]
  omega
end Go.Proofs.Ytkaoehmkmnkmaaa
