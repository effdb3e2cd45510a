/- A superblock that came in: what the walk is told of it. -/
import Derived.Test.YtnpohjbhfoebcaaRowKit
import Derived.Test.YtnpohjbhfoebcaaSupU
import Derived.Lib.SmallJoins
namespace Go.Proofs.Ytnpohjbhfoebcaa
set_option linter.unusedVariables false
open Go.ChangeShapes Go.WideShapes Go.ChangeAt Go.RowKit

theorem cell_int {W : World} {base : Nat} {v : Value} (h : Cell.okWide Try.prog W .any base 3 v) : ∃ n : Int, v = .int .i64 n := by
  unfold Cell.okWide at h
  rw [Try.underlying3] at h
  cases v <;> simp only [Cell.ok, Try.underlying3] at h
  rename_i k n
  obtain ⟨rfl, h⟩ := h
  exact ⟨n, rfl⟩
theorem cell_snaps {W : World} {base : Nat} {v : Value} (h : Cell.okWide Try.prog W .any base 22 v) : ∃ a len cap, v = .slice a len cap := by
  unfold Cell.okWide at h
  rw [Try.underlying22] at h
  cases v <;> simp only [Cell.ok, Try.underlying22] at h
  exact ⟨_, _, _, rfl⟩
theorem open_snaps {H : Type} {enc : TypeId × Value → H} {W : World} {base : Nat} {held : Bool} {a : Option Addr} {len cap fuel : Nat} {z : DataW H × List MemPlace} {cs : List Value} (hcs0 : cs = [.slice a len cap])
    (hf : DataW.trod enc Try.prog W base (fun _ => true) held fuel 22 cs = some z) : ∃ l : List Snp, len = l.length ∧ Sna W (.slice a l.length cap) l ∧ (a = none → cap = 0) := by
  subst hcs0
  have h3 : Try.prog.cellsOf 40 = 3 := by kernel_rfl
  rcases Go.Deep.open_slice Try.underlying22 hf with ⟨hcs, _⟩ | ⟨x, l, c, m, n, D, Pl, hcs, _, hl, hm, hmm, _, hx⟩
  · simp at hcs
    obtain ⟨rfl, rfl, rfl⟩ := hcs
    exact ⟨[], rfl, ⟨none, ⟨none, 0, rfl, Nat.le_refl _, by simp, .inl rfl⟩, (fun k hk => by cases hk)⟩, fun _ => rfl⟩
  · simp at hcs
    obtain ⟨rfl, rfl, rfl⟩ := hcs
    have hm' : m = cap := by simpa using hmm
    subst hm'
    by_cases hl0 : len = 0
    · subst hl0
      exact ⟨[], rfl, ⟨none, ⟨some x, m, rfl, Nat.zero_le _, by simp, .inl rfl⟩, (fun k hk => by cases hk)⟩, fun e => by cases e⟩
    have spotless : x.spot = none := by
      obtain ⟨cs0, h0, _⟩ := hx 0 (by omega)
      rw [h3] at h0
      obtain ⟨_, hl0, hc0⟩ := World.cells?_some h0
      have hc := hc0 0 (by omega)
      rw [List.getElem?_eq_getElem (by omega)] at hc
      simpa [Addr.add] using World.cell?_spot hc
    obtain ⟨b, off, spot⟩ := x
    simp only at spotless
    subst spotless
    have each : ∀ i, i < len → ∃ s : Snp, SnpAt W b (off + i * 3) s ∧ b < W.heap.size := by
      intro i hi
      obtain ⟨cs', h1, h2⟩ := hx i (by omega)
      rw [h3, add_lit] at h1
      obtain ⟨_, hl1, hc1⟩ := World.cells?_some h1
      obtain ⟨xs, n', _, _, _, hlen, hf'⟩ := DataW.trod_struct Try.underlying40 h2
      match xs, hlen with
      | [y0, y1, y2], _ =>
      match cs', hl1 with
      | [z0, z1, z2], _ =>
        have k3 : Try.prog.cellsOf 3 = 1 := by kernel_rfl
        have k9 : Try.prog.cellsOf 9 = 1 := by kernel_rfl
        have f0 := hf' 0 _ rfl
        have f1 := hf' 1 _ rfl
        have f2 := hf' 2 _ rfl
        simp at f0 f1 f2
        obtain ⟨s0, e0, _, w0⟩ := DataW.trod_string Try.underlying9 f0
        obtain ⟨a1, e1, _, w1⟩ := DataW.trod_int Try.underlying3 f1
        obtain ⟨a2, e2, _, w2⟩ := DataW.trod_int Try.underlying3 f2
        simp [k9] at e0
        simp [k3] at e1 e2
        subst e0 e1 e2
        have c0 := hc1 0 (by omega)
        have c1 := hc1 1 (by omega)
        have c2 := hc1 2 (by omega)
        rw [add_lit] at c0 c1 c2
        exact ⟨⟨s0, a1, a2⟩, ⟨c0, c1, c2⟩, World.block_lt_of_cell? W _ c0⟩
    have hL : (List.ofFn fun i : Fin len => (each i.1 i.2).choose).length = len := by simp
    refine ⟨List.ofFn fun i : Fin len => (each i.1 i.2).choose, hL.symm, ⟨some b, ⟨_, m, rfl, by rw [hL]; omega, by rw [hL]; omega, .inr ⟨b, off, rfl, rfl, (each 0 (by omega)).choose_spec.2, fun i hi => ?_⟩⟩, fun k hk => by cases hk; exact (each 0 (by omega)).choose_spec.2⟩, fun e => by cases e⟩
    rw [List.getElem_ofFn]
    exact (each i (by rw [hL] at hi; exact hi)).choose_spec.1
theorem open_sup {H : Type} {enc : TypeId × Value → H} {W : World} {b0 base : Nat} {held : Bool} {v : Value} {d : DataW H} {p : List MemPlace} (hok : Value.okWide Try.prog W .any b0 24 v)
    (h : DataW.Trod enc Try.prog W base (fun _ => true) held 24 v d p) : ∃ (S : Sup) (sv : Value), v = uv S sv ∧ Sna W sv S.l ∧ ∀ n c, sv = .slice none n c → c = 0 := by
  obtain ⟨fuel, hf⟩ := h
  unfold Value.okWide at hok
  rw [Try.underlying24] at hok
  obtain ⟨cs, rfl, hsz, ts, hts, _, hc⟩ := hok
  have h1 : Try.prog.cellTypes Try.prog.depth 24 = some [3, 3, 3, 3, 22] := by kernel_rfl
  have h2 : Try.prog.cellsOf 24 = 5 := by kernel_rfl
  rw [h1] at hts
  cases hts
  rw [h2] at hsz
  obtain ⟨l⟩ := cs
  match l, hsz with
  | [c0, c1, c2, c3, c4], _ =>
    obtain ⟨t0, e0, k0⟩ := hc 0 c0 rfl
    obtain ⟨t1, e1, k1⟩ := hc 1 c1 rfl
    obtain ⟨t2, e2, k2⟩ := hc 2 c2 rfl
    obtain ⟨t3, e3, k3⟩ := hc 3 c3 rfl
    obtain ⟨t4, e4, k4⟩ := hc 4 c4 rfl
    simp at e0 e1 e2 e3 e4
    subst e0 e1 e2 e3 e4
    obtain ⟨g, rfl⟩ := cell_int k0
    obtain ⟨r, rfl⟩ := cell_int k1
    obtain ⟨x, rfl⟩ := cell_int k2
    obtain ⟨c, rfl⟩ := cell_int k3
    obtain ⟨a, len, cap, rfl⟩ := cell_snaps k4
    obtain ⟨xs, n', _, _, _, hlen, hf'⟩ := DataW.trod_struct Try.underlying24 hf
    match xs, hlen with
    | [y0, y1, y2, y3, y4], _ =>
      have f4 := hf' 4 _ rfl
      simp [Value.cells] at f4
      have ks : Try.prog.cellsOf 22 = 1 := by kernel_rfl
      rw [ks] at f4
      obtain ⟨l, hl, hs, hn⟩ := open_snaps (a := a) (len := len) (cap := cap) rfl f4
      subst hl
      exact ⟨⟨g, r, x, c, l⟩, _, rfl, hs, fun n cc e => by cases e; exact hn rfl⟩
end Go.Proofs.Ytnpohjbhfoebcaa
