import Derived.Test.YtjhdnpplmlddaaaGreatB43
import Derived.Test.YtjhdnpplmlddaaaGreatB06
import Derived.Lib.SmallJoins
/- A node that came in: what the walk is told of it. -/
namespace Go.Proofs.YtjhdnpplmlddaaaGreat
set_option linter.unusedVariables false
open Go.ChangeShapes Go.WideShapes Go.ChangeAt Go.RowKit

set_option maxRecDepth 100000 in
theorem cell_int {W : World} {base : Nat} {v : Value} (h : Cell.okWide Tryz.prog W .any base 3 v) : ∃ n : Int, v = .int .i64 n := by
  unfold Cell.okWide at h
  rw [Tryz.underlying3] at h
  cases v <;> simp only [Cell.ok, Tryz.underlying3] at h
  rename_i k n
  obtain ⟨rfl, h⟩ := h
  exact ⟨n, rfl⟩
set_option maxRecDepth 100000 in
theorem bytes_of (l : List Value) (h : ∀ v ∈ l, ∃ b : UInt8, v = .int .u8 (b.toNat : Int)) : ∃ K : List UInt8, l = bc K := by
  induction l with
  | nil => exact ⟨[], rfl⟩
  | cons v l ih =>
    obtain ⟨b, rfl⟩ := h v (by simp)
    obtain ⟨K, rfl⟩ := ih fun x hx => h x (by simp [hx])
    exact ⟨b :: K, rfl⟩
set_option maxRecDepth 100000 in
theorem open_key {H : Type} {enc : TypeId × Value → H} {W : World} {base : Nat} {held : Bool} {fuel : Nat} {z : DataW H × List MemPlace} {cs : List Value} (hf : DataW.trod enc Tryz.prog W base (fun _ => true) held fuel 25 cs = some z) : ∃ K : List UInt8, K.length = 24 ∧ cs = bc K := by
  have k1 : Tryz.prog.cellsOf 5 = 1 := by kernel_rfl
  have k24 : Tryz.prog.cellsOf 25 = 24 := by kernel_rfl
  obtain ⟨xs, m, _, _, hl, hx, he⟩ := DataW.trod_array Tryz.underlying25 hf
  rw [k24] at hl
  rw [k1] at he
  obtain ⟨K, hK⟩ := bytes_of cs (fun v hv => by
    obtain ⟨i, hi, rfl⟩ := List.mem_iff_getElem.1 hv
    have h1 := he i (by omega)
    rw [Nat.mul_one, List.getElem?_eq_getElem (by omega)] at h1
    obtain ⟨n, e, _, wf⟩ := DataW.trod_int Tryz.underlying5 h1
    have e2 : cs[i] = .int .u8 n := by
      have := congrArg (fun l => l[0]?) e
      simpa [List.getElem?_take, List.getElem?_drop, hi] using this
    have hb := bounds_u8 wf
    refine ⟨UInt8.ofNat n.toNat, ?_⟩
    rw [e2, UInt8.toNat_ofNat']
    congr 1
    omega)
  exact ⟨K, by rw [hK, bc_length] at hl; exact hl, hK⟩

set_option maxRecDepth 100000 in
theorem cell_rowP {W : World} {base : Nat} {v : Value} (h : Cell.okWide Tryz.prog W .any base 39 v) : ∃ a len cap, v = .slice a len cap := by
  unfold Cell.okWide at h
  rw [Tryz.underlying39] at h
  cases v <;> simp only [Cell.ok, Tryz.underlying39] at h
  exact ⟨_, _, _, rfl⟩
set_option maxRecDepth 100000 in
theorem open_rowP {H : Type} {enc : TypeId × Value → H} {W : World} {base : Nat} {held : Bool} {a : Option Addr} {len cap fuel : Nat} {z : DataW H × List MemPlace} {cs : List Value} (hcs0 : cs = [.slice a len cap])
    (hf : DataW.trod enc Tryz.prog W base (fun _ => true) held fuel 39 cs = some z) : ∃ l : List Pr, len = l.length ∧ Els W (.slice a l.length cap) (l.map Pr.el) ∧ (a = none → cap = 0) := by
  subst hcs0
  have h3 : Tryz.prog.cellsOf 89 = 25 := by kernel_rfl
  rcases Go.Deep.open_slice Tryz.underlying39 hf with ⟨hcs, _⟩ | ⟨x, l, c, m, n, D, Pl, hcs, _, hl, hm, hmm, _, hx⟩
  · simp at hcs
    obtain ⟨rfl, rfl, rfl⟩ := hcs
    exact ⟨[], rfl, Els.nil W, fun _ => rfl⟩
  · simp at hcs
    obtain ⟨rfl, rfl, rfl⟩ := hcs
    have hm' : m = cap := by simpa using hmm
    subst hm'
    by_cases hl0 : len = 0
    · subst hl0
      exact ⟨[], rfl, ⟨none, ⟨some x, m, rfl, Nat.zero_le _, by simp, (fun i hi => by cases hi), .inl rfl⟩, (fun k hk => by cases hk)⟩, fun e => by cases e⟩
    have spotless : x.spot = none := by
      obtain ⟨cs0, h0, _⟩ := hx 0 (by omega)
      rw [h3] at h0
      obtain ⟨_, hl0, hc0⟩ := World.cells?_some h0
      have hc := hc0 0 (by omega)
      rw [List.getElem?_eq_getElem (by omega)] at hc
      simpa [Addr.add] using World.cell?_spot hc
    obtain ⟨b, off, spot⟩ := x
    simp only at spotless
    subst spotless
    have each : ∀ i, i < len → ∃ s : Pr, W.rangeAt b (off + i * 25) (ec s.el) ∧ s.k.length = 24 ∧ b < W.heap.size := by
      intro i hi
      obtain ⟨cs', h1, h2⟩ := hx i (by omega)
      rw [h3, add_lit] at h1
      obtain ⟨_, hl1, hc1⟩ := World.cells?_some h1
      obtain ⟨xs, n', _, _, _, hlen, hf'⟩ := DataW.trod_struct Tryz.underlying89 h2
      match xs, hlen with
      | [y0, y1], _ =>
        have k24 : Tryz.prog.cellsOf 25 = 24 := by kernel_rfl
        have k1 : Tryz.prog.cellsOf 9 = 1 := by kernel_rfl
        have f0 := hf' 0 _ rfl
        have f1 := hf' 1 _ rfl
        simp at f0 f1
        rw [k24] at f0
        rw [k1] at f1
        obtain ⟨K, lK, eK⟩ := open_key f0
        obtain ⟨s0, e0, _, w0⟩ := DataW.trod_string Tryz.underlying9 f1
        have ecs : cs' = ec (⟨K, s0⟩ : Pr).el := by
          show cs' = bc K ++ [.string s0]
          rw [← eK, ← e0, List.take_of_length_le (l := cs'.drop 24) (by simp; omega), List.take_append_drop]
        refine ⟨⟨K, s0⟩, fun j v hv => ?_, lK, ?_⟩
        · have hj : j < 25 := by
            have := (List.getElem?_eq_some_iff.1 hv).1
            rw [← ecs] at this
            omega
          have := hc1 j (by omega)
          rw [add_lit, ecs] at this
          rw [this]
          exact hv
        · have := hc1 0 (by omega)
          rw [List.getElem?_eq_getElem (by omega)] at this
          have := World.block_lt_of_cell? W _ this
          rw [add_lit] at this
          exact this
    have hL : (List.ofFn fun i : Fin len => (each i.1 i.2).choose).length = len := by simp
    refine ⟨List.ofFn fun i : Fin len => (each i.1 i.2).choose, hL.symm, ⟨some b, ⟨_, m, by rw [List.length_map], by rw [List.length_map, hL]; omega, by rw [List.length_map, hL]; omega, fun i hi => ?_, .inr ⟨b, off, rfl, rfl, (each 0 (by omega)).choose_spec.2.2, fun i hi => ?_⟩⟩, fun k hk => by cases hk; exact (each 0 (by omega)).choose_spec.2.2⟩, fun e => by cases e⟩
    · rw [List.getElem_map, List.getElem_ofFn]
      exact Pr.ok_el (each i (by simpa using hi)).choose_spec.2.1
    · rw [List.getElem_map, List.getElem_ofFn]
      exact (each i (by simpa using hi)).choose_spec.1

set_option maxRecDepth 100000 in
theorem cell_rowK {W : World} {base : Nat} {v : Value} (h : Cell.okWide Tryz.prog W .any base 58 v) : ∃ a len cap, v = .slice a len cap := by
  unfold Cell.okWide at h
  rw [Tryz.underlying58] at h
  cases v <;> simp only [Cell.ok, Tryz.underlying58] at h
  exact ⟨_, _, _, rfl⟩
set_option maxRecDepth 100000 in
theorem open_rowK {H : Type} {enc : TypeId × Value → H} {W : World} {base : Nat} {held : Bool} {a : Option Addr} {len cap fuel : Nat} {z : DataW H × List MemPlace} {cs : List Value} (hcs0 : cs = [.slice a len cap])
    (hf : DataW.trod enc Tryz.prog W base (fun _ => true) held fuel 58 cs = some z) : ∃ l : List Kd, len = l.length ∧ Els W (.slice a l.length cap) (l.map Kd.el) ∧ (a = none → cap = 0) := by
  subst hcs0
  have h3 : Tryz.prog.cellsOf 93 = 25 := by kernel_rfl
  rcases Go.Deep.open_slice Tryz.underlying58 hf with ⟨hcs, _⟩ | ⟨x, l, c, m, n, D, Pl, hcs, _, hl, hm, hmm, _, hx⟩
  · simp at hcs
    obtain ⟨rfl, rfl, rfl⟩ := hcs
    exact ⟨[], rfl, Els.nil W, fun _ => rfl⟩
  · simp at hcs
    obtain ⟨rfl, rfl, rfl⟩ := hcs
    have hm' : m = cap := by simpa using hmm
    subst hm'
    by_cases hl0 : len = 0
    · subst hl0
      exact ⟨[], rfl, ⟨none, ⟨some x, m, rfl, Nat.zero_le _, by simp, (fun i hi => by cases hi), .inl rfl⟩, (fun k hk => by cases hk)⟩, fun e => by cases e⟩
    have spotless : x.spot = none := by
      obtain ⟨cs0, h0, _⟩ := hx 0 (by omega)
      rw [h3] at h0
      obtain ⟨_, hl0, hc0⟩ := World.cells?_some h0
      have hc := hc0 0 (by omega)
      rw [List.getElem?_eq_getElem (by omega)] at hc
      simpa [Addr.add] using World.cell?_spot hc
    obtain ⟨b, off, spot⟩ := x
    simp only at spotless
    subst spotless
    have each : ∀ i, i < len → ∃ s : Kd, W.rangeAt b (off + i * 25) (ec s.el) ∧ s.k.length = 24 ∧ b < W.heap.size := by
      intro i hi
      obtain ⟨cs', h1, h2⟩ := hx i (by omega)
      rw [h3, add_lit] at h1
      obtain ⟨_, hl1, hc1⟩ := World.cells?_some h1
      obtain ⟨xs, n', _, _, _, hlen, hf'⟩ := DataW.trod_struct Tryz.underlying93 h2
      match xs, hlen with
      | [y0, y1], _ =>
        have k24 : Tryz.prog.cellsOf 25 = 24 := by kernel_rfl
        have k1 : Tryz.prog.cellsOf 3 = 1 := by kernel_rfl
        have f0 := hf' 0 _ rfl
        have f1 := hf' 1 _ rfl
        simp at f0 f1
        rw [k24] at f0
        rw [k1] at f1
        obtain ⟨K, lK, eK⟩ := open_key f0
        obtain ⟨s0, e0, _, w0⟩ := DataW.trod_int Tryz.underlying3 f1
        have ecs : cs' = ec (⟨K, s0⟩ : Kd).el := by
          show cs' = bc K ++ [.int .i64 s0]
          rw [← eK, ← e0, List.take_of_length_le (l := cs'.drop 24) (by simp; omega), List.take_append_drop]
        refine ⟨⟨K, s0⟩, fun j v hv => ?_, lK, ?_⟩
        · have hj : j < 25 := by
            have := (List.getElem?_eq_some_iff.1 hv).1
            rw [← ecs] at this
            omega
          have := hc1 j (by omega)
          rw [add_lit, ecs] at this
          rw [this]
          exact hv
        · have := hc1 0 (by omega)
          rw [List.getElem?_eq_getElem (by omega)] at this
          have := World.block_lt_of_cell? W _ this
          rw [add_lit] at this
          exact this
    have hL : (List.ofFn fun i : Fin len => (each i.1 i.2).choose).length = len := by simp
    refine ⟨List.ofFn fun i : Fin len => (each i.1 i.2).choose, hL.symm, ⟨some b, ⟨_, m, by rw [List.length_map], by rw [List.length_map, hL]; omega, by rw [List.length_map, hL]; omega, fun i hi => ?_, .inr ⟨b, off, rfl, rfl, (each 0 (by omega)).choose_spec.2.2, fun i hi => ?_⟩⟩, fun k hk => by cases hk; exact (each 0 (by omega)).choose_spec.2.2⟩, fun e => by cases e⟩
    · rw [List.getElem_map, List.getElem_ofFn]
      exact Kd.ok_el (each i (by simpa using hi)).choose_spec.2.1
    · rw [List.getElem_map, List.getElem_ofFn]
      exact (each i (by simpa using hi)).choose_spec.1

set_option maxRecDepth 100000 in
theorem open_node {H : Type} {enc : TypeId × Value → H} {W : World} {b0 base : Nat} {held : Bool} {v : Value} {d : DataW H} {p : List MemPlace} (hok : Value.okWide Tryz.prog W .any b0 60 v)
    (h : DataW.Trod enc Tryz.prog W base (fun _ => true) held 60 v d p) : ∃ (X : Nod) (pv qv : Value), v = nv X pv qv ∧ Parts W X pv qv ∧ NilOk pv ∧ NilOk qv := by
  obtain ⟨fuel, hf⟩ := h
  unfold Value.okWide at hok
  rw [Tryz.underlying60] at hok
  obtain ⟨cs, rfl, hsz, ts, hts, _, hc⟩ := hok
  have h1 : Tryz.prog.cellTypes Tryz.prog.depth 60 = some [3, 39, 58] := by kernel_rfl
  have h2 : Tryz.prog.cellsOf 60 = 3 := by kernel_rfl
  rw [h1] at hts
  cases hts
  rw [h2] at hsz
  obtain ⟨l⟩ := cs
  match l, hsz with
  | [c0, c1, c2], _ =>
    obtain ⟨t0, e0, k0⟩ := hc 0 c0 rfl
    obtain ⟨t1, e1, k1⟩ := hc 1 c1 rfl
    obtain ⟨t2, e2, k2⟩ := hc 2 c2 rfl
    simp at e0 e1 e2
    subst e0 e1 e2
    obtain ⟨g, rfl⟩ := cell_int k0
    obtain ⟨a1, len1, cap1, rfl⟩ := cell_rowP k1
    obtain ⟨a2, len2, cap2, rfl⟩ := cell_rowK k2
    obtain ⟨xs, n', _, _, _, hlen, hf'⟩ := DataW.trod_struct Tryz.underlying60 hf
    match xs, hlen with
    | [y0, y1, y2], _ =>
      have f1 := hf' 1 _ rfl
      have f2 := hf' 2 _ rfl
      simp [Value.cells] at f1 f2
      have ks : Tryz.prog.cellsOf 39 = 1 := by kernel_rfl
      have ks' : Tryz.prog.cellsOf 58 = 1 := by kernel_rfl
      rw [ks] at f1
      rw [ks'] at f2
      obtain ⟨l1, hl1, hs1, hn1⟩ := open_rowP (a := a1) (len := len1) (cap := cap1) rfl f1
      obtain ⟨l2, hl2, hs2, hn2⟩ := open_rowK (a := a2) (len := len2) (cap := cap2) rfl f2
      subst hl1 hl2
      exact ⟨⟨g, l1, l2⟩, _, _, rfl, ⟨hs1, hs2⟩, (fun n cc e => by cases e; exact hn1 rfl), (fun n cc e => by cases e; exact hn2 rfl)⟩
end Go.Proofs.YtjhdnpplmlddaaaGreat
