import Derived.Test.YtjhdnpplmlddaaaGreatB43
import Derived.Test.YtjhdnpplmlddaaaGreatB09
import Derived.Lib.SmallJoins
import Derived.Test.YtjhdnpplmlddaaaGreatB44
import Derived.Test.YtjhdnpplmlddaaaGreatB10
import Derived.Test.YtjhdnpplmlddaaaGreatB21
import Derived.ChangeSame
/- A slice of elements of k cells that came in: what the walk is told of it. -/
namespace Go.Proofs.YtjhdnpplmlddaaaGreat
set_option linter.unusedVariables false
open Go.ChangeShapes Go.WideShapes Go.ChangeAt Go.RowKit

set_option maxRecDepth 100000 in
theorem open_els {α : Type} {k : Nat} (E : Enc α k) (ts te : TypeId) (hu : Tryz.prog.underlying ts = some (.slice te)) (hk : Tryz.prog.cellsOf te = k) (hpos : 0 < k) {H : Type} {enc : TypeId × Value → H} {W : World} {base : Nat} {held : Bool} {a : Option Addr} {len cap : Nat} {d : DataW H} {p : List MemPlace}
    (hel : ∀ (fuel : Nat) (z : DataW H × List MemPlace) (cs : List Value), DataW.trod enc Tryz.prog W base (fun _ => true) held fuel te cs = some z → cs.length = k → ∃ x : α, cs = E.c x)
    (h : DataW.Trod enc Tryz.prog W base (fun _ => true) held ts (.slice a len cap) d p) : ∃ l : List α, Sl E W (.slice a len cap) l := by
  obtain ⟨fuel, hf⟩ := h
  rcases Go.Deep.open_slice hu hf with ⟨hcs, _⟩ | ⟨x, l, c, m, n, D, Pl, hcs, _, hl, hm, hmm, _, hx⟩
  · simp [Value.cells] at hcs
    obtain ⟨rfl, rfl, rfl⟩ := hcs
    exact ⟨[], SlB.nil _ _ _⟩
  · simp [Value.cells] at hcs
    obtain ⟨rfl, rfl, rfl⟩ := hcs
    have hm' : m = cap := by simpa using hmm
    subst hm'
    by_cases hl0 : len = 0
    · subst hl0
      exact ⟨[], ⟨_, _, rfl, Nat.zero_le _, Nat.zero_le _, (fun e => by cases e), .inl rfl⟩⟩
    have spotless : x.spot = none := by
      obtain ⟨cs0, h0, _⟩ := hx 0 (by omega)
      rw [hk] at h0
      obtain ⟨_, hl0, hc0⟩ := World.cells?_some h0
      have hc := hc0 0 (by omega)
      rw [List.getElem?_eq_getElem (by omega)] at hc
      simpa [Addr.add] using World.cell?_spot hc
    obtain ⟨b, off, spot⟩ := x
    simp only at spotless
    subst spotless
    have each : ∀ i, i < len → ∃ s : α, W.rangeAt b (off + i * k) (E.c s) ∧ b < W.heap.size := by
      intro i hi
      obtain ⟨cs', h1, h2⟩ := hx i (by omega)
      rw [hk, Addr.add_mid] at h1
      obtain ⟨_, hl1, hc1⟩ := World.cells?_some h1
      obtain ⟨s, hs⟩ := hel _ _ _ h2 hl1
      subst hs
      refine ⟨s, fun j v hv => ?_, ?_⟩
      · have hj := (List.getElem?_eq_some_iff.1 hv).1
        have := hc1 j (by rw [E.len] at hj; omega)
        rw [Addr.add_mid] at this
        rw [this]
        exact hv
      · have := hc1 0 (by omega)
        rw [List.getElem?_eq_getElem (by omega)] at this
        have := World.block_lt_of_cell? W _ this
        rw [Addr.add_mid] at this
        exact this
    have hL : (List.ofFn fun i : Fin len => (each i.1 i.2).choose).length = len := by simp
    refine ⟨List.ofFn fun i : Fin len => (each i.1 i.2).choose, ⟨_, m, by rw [hL], by rw [hL]; omega, by rw [hL]; omega, (fun e => by cases e), .inr ⟨b, off, rfl, (each 0 (by omega)).choose_spec.2, fun i hi => ?_⟩⟩⟩
    rw [List.getElem_ofFn]
    exact (each i (by simpa using hi)).choose_spec.1
set_option maxRecDepth 100000 in
theorem bytes_list (l : List Value) (h : ∀ v ∈ l, ∃ b : UInt8, v = .int .u8 (b.toNat : Int)) : ∃ K : List UInt8, l = bc K := by
  induction l with
  | nil => exact ⟨[], rfl⟩
  | cons v l ih =>
    obtain ⟨b, rfl⟩ := h v (by simp)
    obtain ⟨K, rfl⟩ := ih fun x hx => h x (by simp [hx])
    exact ⟨b :: K, rfl⟩
set_option maxRecDepth 100000 in
theorem trod_key {H : Type} {enc : TypeId × Value → H} {W : World} {base : Nat} {held : Bool} {fuel : Nat} {z : DataW H × List MemPlace} {cs : List Value} (hf : DataW.trod enc Tryz.prog W base (fun _ => true) held fuel 25 cs = some z) : ∃ K : List UInt8, K.length = 24 ∧ cs = bc K := by
  have k1 : Tryz.prog.cellsOf 5 = 1 := by kernel_rfl
  have k24 : Tryz.prog.cellsOf 25 = 24 := by kernel_rfl
  obtain ⟨xs, m, _, _, hl, hx, he⟩ := DataW.trod_array Tryz.underlying25 hf
  rw [k24] at hl
  rw [k1] at he
  obtain ⟨K, hK⟩ := bytes_list cs (fun v hv => by
    obtain ⟨i, hi, rfl⟩ := List.mem_iff_getElem.1 hv
    have h1 := he i (by omega)
    rw [Nat.mul_one, List.getElem?_eq_getElem (by omega)] at h1
    obtain ⟨n, e, _, wf⟩ := DataW.trod_int Tryz.underlying5 h1
    have e2 : cs[i] = .int .u8 n := by
      have := congrArg (fun l => l[0]?) e
      simpa [List.getElem?_take, List.getElem?_drop, hi] using this
    have hb := bounds_u8 wf
    refine ⟨UInt8.ofNat n.toNat, ?_⟩
    rw [e2, UInt8.toNat_ofNat']
    congr 1
    omega)
  exact ⟨K, by rw [hK, bc_length] at hl; exact hl, hK⟩
end Go.Proofs.YtjhdnpplmlddaaaGreat
/- A slice of blocks and their nodes that came in: what the walk is told of it. -/
namespace Go.Proofs.YtjhdnpplmlddaaaGreat
set_option linter.unusedVariables false
open Go.ChangeShapes Go.WideShapes Go.ChangeAt Go.RowKit

set_option maxRecDepth 100000 in
theorem slice_formP {H : Type} {enc : TypeId × Value → H} {W : World} {base : Nat} {held : Bool} {fuel : Nat} {z : DataW H × List MemPlace} {cs : List Value} (hf : DataW.trod enc Tryz.prog W base (fun _ => true) held fuel 39 cs = some z) : ∃ a len cap, cs = [.slice a len cap] := by
  rcases Go.Deep.open_slice Tryz.underlying39 hf with ⟨hcs, _⟩ | ⟨x, l, c, m, n, D, Pl, hcs, _⟩
  · exact ⟨_, _, _, hcs⟩
  · exact ⟨_, _, _, hcs⟩
set_option maxRecDepth 100000 in
theorem slice_formK {H : Type} {enc : TypeId × Value → H} {W : World} {base : Nat} {held : Bool} {fuel : Nat} {z : DataW H × List MemPlace} {cs : List Value} (hf : DataW.trod enc Tryz.prog W base (fun _ => true) held fuel 58 cs = some z) : ∃ a len cap, cs = [.slice a len cap] := by
  rcases Go.Deep.open_slice Tryz.underlying58 hf with ⟨hcs, _⟩ | ⟨x, l, c, m, n, D, Pl, hcs, _⟩
  · exact ⟨_, _, _, hcs⟩
  · exact ⟨_, _, _, hcs⟩
set_option maxRecDepth 100000 in
theorem cut_four {cs : List Value} (h : cs.length = 4) : ∃ a b c d, cs = [a, b, c, d] := by
  match cs, h with
  | [a, b, c, d], _ => exact ⟨a, b, c, d, rfl⟩
def EntOk (W : World) (e : Ent) : Prop := Parts W e.x e.pv e.qv
def encTs (W : World) : Enc {e : Ent // EntOk W e} 4 := ⟨fun e => encT.c e.1, fun e => encT.len e.1, fun e => encT.one e.1⟩
set_option maxRecDepth 100000 in
theorem open_ent {H : Type} {enc : TypeId × Value → H} {W : World} {base : Nat} {held : Bool} (fuel : Nat) (z : DataW H × List MemPlace) (cs : List Value) (h : DataW.trod enc Tryz.prog W base (fun _ => true) held fuel 62 cs = some z) (hl : cs.length = 4) : ∃ x : {e : Ent // EntOk W e}, cs = (encTs W).c x := by
  obtain ⟨v0, v1, v2, v3, rfl⟩ := cut_four hl
  obtain ⟨y0, y1, n, _, _, f0, f1⟩ := trod_struct2 Tryz.underlying62 h
  have k1 : Tryz.prog.cellsOf 3 = 1 := by kernel_rfl
  have k3 : Tryz.prog.cellsOf 60 = 3 := by kernel_rfl
  have kp : Tryz.prog.cellsOf 39 = 1 := by kernel_rfl
  have kk : Tryz.prog.cellsOf 58 = 1 := by kernel_rfl
  simp only [k1, k3] at f0 f1
  simp at f0 f1
  obtain ⟨n0, e0, _, _⟩ := DataW.trod_int Tryz.underlying3 f0
  obtain ⟨xs, n', _, _, _, hlen, hf'⟩ := DataW.trod_struct Tryz.underlying60 f1
  match xs, hlen with
  | [z0, z1, z2], _ =>
    have g0 := hf' 0 _ rfl
    have g1 := hf' 1 _ rfl
    have g2 := hf' 2 _ rfl
    simp at g0 g1 g2
    rw [k1] at g0
    rw [kp] at g1
    rw [kk] at g2
    simp at g0 g1 g2
    obtain ⟨lv, e1, _, _⟩ := DataW.trod_int Tryz.underlying3 g0
    obtain ⟨ap, lp, cp, e2⟩ := slice_formP g1
    obtain ⟨aq, lq, cq, e3⟩ := slice_formK g2
    obtain ⟨ps, rfl, hp, _⟩ := open_rowP e2 g1
    obtain ⟨ks, rfl, hk, _⟩ := open_rowK e3 g2
    refine ⟨⟨⟨n0, ⟨lv, ps, ks⟩, ap, cp, aq, cq⟩, ⟨hp, hk⟩⟩, ?_⟩
    simp at e0 e1 e2 e3
    subst e0 e1 e2 e3
    rfl
set_option maxRecDepth 100000 in
theorem open_ents {H : Type} {enc : TypeId × Value → H} {W : World} {base : Nat} {held : Bool} {a : Option Addr} {len cap : Nat} {d : DataW H} {p : List MemPlace}
    (h : DataW.Trod enc Tryz.prog W base (fun _ => true) held 55 (.slice a len cap) d p) : ∃ l : List Ent, BagIn W W.heap.size (.slice a len cap) l := by
  obtain ⟨l, hl⟩ := open_els (encTs W) 55 62 Tryz.underlying55 (by kernel_rfl) (by decide) open_ent h
  refine ⟨l.map (·.1), Nat.le_refl _, ?_, fun e he => ?_⟩
  · obtain ⟨ad, cap', r1, r2, r3, r4, r5⟩ := hl
    refine ⟨ad, cap', by rw [List.length_map]; exact r1, by rw [List.length_map]; exact r2, by rw [List.length_map]; exact r3, r4, ?_⟩
    rcases r5 with rfl | ⟨g, off, t1, t2, t3⟩
    · exact .inl rfl
    · refine .inr ⟨g, off, t1, t2, fun i hi => ?_⟩
      rw [List.length_map] at hi
      rw [List.getElem_map]
      exact t3 i hi
  · obtain ⟨x, _, rfl⟩ := List.mem_map.1 he
    exact ⟨x.2, x.2.p.lim, x.2.q.lim⟩
end Go.Proofs.YtjhdnpplmlddaaaGreat
