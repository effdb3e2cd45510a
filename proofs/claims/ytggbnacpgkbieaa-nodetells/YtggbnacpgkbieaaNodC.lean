/- Have no two kids one block? When is a node right? -/
import Derived.Test.YtggbnacpgkbieaaNodR
namespace Go.Proofs.Ytggbnacpgkbieaa
set_option linter.unusedVariables false
open Go.RowKit

def nAt (l : List Kd) (i : Nat) : Int := (l[i]?.map Kd.n).getD 0
def apartAt (l : List Kd) (i : Nat) : Bool := (l.take i).all fun p => p.n != nAt l i
def apart (l : List Kd) : Bool := (List.range l.length).all (apartAt l)
theorem nAt_eq (l : List Kd) (i : Nat) (h : i < l.length) : nAt l i = (l[i]).n := by simp [nAt, h]
theorem apart_step (l : List Kd) (k : Nat) (h : (List.range k).all (apartAt l) = true) (h2 : apartAt l k = true) : (List.range (k + 1)).all (apartAt l) = true := by
  rw [List.range_succ, List.all_append, h]
  simpa using h2
theorem apart_no (l : List Kd) (k : Nat) (hk : k < l.length) (h : apartAt l k = false) : apart l = false := by
  cases e : apart l with
  | false => rfl
  | true =>
    rw [apart, List.all_eq_true] at e
    rw [e k (List.mem_range.2 hk)] at h
    cases h
theorem apartAt_step (l : List Kd) (k j : Nat) (hj : j < k) (hk : k < l.length) (h : ((l.take j).all fun p => p.n != nAt l k) = true) (h2 : nAt l j ≠ nAt l k) : ((l.take (j + 1)).all fun p => p.n != nAt l k) = true := by
  rw [List.take_succ_eq_append_getElem (show j < l.length by omega), List.all_append, h]
  rw [nAt_eq l j (by omega)] at h2
  simpa using h2
theorem apartAt_no (l : List Kd) (k j : Nat) (hj : j < k) (hk : k < l.length) (h : nAt l j = nAt l k) : apartAt l k = false := by
  cases e : apartAt l k with
  | false => rfl
  | true =>
    rw [apartAt, List.all_eq_true] at e
    have hm : l[j] ∈ l.take k := by
      rw [List.mem_take_iff_getElem]
      exact ⟨j, by omega, rfl⟩
    have := e _ hm
    rw [← nAt_eq l j (by omega), h] at this
    simp at this
/-- A slice of them that lies below the heap's end. -/
def Els (w : World) (sv : Value) (l : List El) : Prop := ∃ r, ElsIn w sv l r ∧ ∀ k, r = some k → k < w.heap.size
theorem Els.below {x y : World} {sv : Value} {l : List El} (h : Els x sv l) (b : Below x.heap.size x y) : Els y sv l := by
  obtain ⟨r, h1, h2⟩ := h
  exact ⟨r, h1.below b h2, fun k hk => by have := h2 k hk; have := b.size; omega⟩
theorem Els.nil (x : World) : Els x (.slice none 0 0) [] := ⟨none, ⟨none, 0, rfl, Nat.le_refl _, Nat.zero_le _, (fun i hi => by cases hi), .inl rfl⟩, fun k hk => by cases hk⟩
theorem Els.one {x : World} {sv : Value} {l : List El} (h : Els x sv l) : sv.oneCell' = true := by
  obtain ⟨r, h1, _⟩ := h
  exact h1.one

set_option maxHeartbeats 8000000 in
set_option maxRecDepth 100000 in
theorem apart_calls (w : World) (sv : Value) (l : List Kd) (h : Els w sv (l.map Kd.el)) :
    Calls Try.prog 61 #[sv] w fun e w' => e = .returned (.bool (apart l)) ∧ Below w.heap.size w w' := by
  obtain ⟨r, ⟨ad, cap, rfl, hcap, hmax, hok, hin⟩, hr⟩ := h
  simp only [List.length_map] at hcap hmax hok hin ⊢
  obtain ⟨N, hN⟩ : ∃ N : Nat, N = l.length := ⟨_, rfl⟩
  rw [← hN] at hcap hmax ⊢
  have HN : Hid (N = l.length) := hN
  have HM : Hid (∀ k : Nat, k < N → wrap64 ((k : Int) + 1) = ((k + 1 : Nat) : Int)) := fun k hk => wrap_succ hk hmax
  have HI : Hid (∀ i (hi : i < l.length), ∃ g off, ad = some ⟨g, off, none⟩ ∧ g < w.heap.size ∧ w.rangeAt g (off + i * 25) (ec (l[i]).el) ∧ (l[i]).el.Ok) := fun i hi => by
    rcases hin with e | ⟨g, off, h1, _, h2, h3⟩
    · simp at e; subst e; simp at hi
    · exact ⟨g, off, h1, h2, by have := h3 i hi; simpa using this, by have := hok i hi; simpa using this⟩
  clear hN hin hok hmax
  go_enter Try.func61, Try.ntmps61
  go_wp2
  go_loopg [9] N (fun g i wr => ∃ k : Nat, k + g = N ∧ i = .int .i64 (k : Int) ∧ Below w.heap.size w wr ∧ Hid ((List.range k).all (apartAt l) = true))
  case atStart => exact ⟨0, by omega, rfl, Below.refl _ _, (show (List.range 0).all (apartAt l) = true from rfl)⟩
  case round =>
    obtain ⟨k, hkg, rfl, hbel, HE⟩ := hrel
    cases gk with
    | zero =>
      have hkN : k = N := by omega
      subst hkN
      go_wp2_with fail
      go_ret
      exact ⟨by rw [apart, ← HN.out, HE.out]; rfl, hbel⟩
    | succ g =>
      have hlt : k < N := by omega
      have hltI : (k : Int) < (N : Int) := by omega
      have hkl : k < l.length := by rw [← HN.out]; exact hlt
      obtain ⟨g0, off, rfl, hg, hat, okA⟩ := HI.out k hkl
      have HR : Hid (wr.rangeAt g0 (off + k * 25) (ec (l[k]).el)) := range_same hat (hbel.block g0 hg)
      have HV : Hid ((l[k]).n = nAt l k) := (nAt_eq l k hkl).symm
      have hbs := hbel.size
      clear hat
      generalize l[k] = pk at *
      go_upto_region 4 with (first
        | (refine load_K _ rfl g0 (off + k * 25) rfl rfl pk.el okA HR.out ?_)
        | (refine store_K rfl _ _ rfl wr.heap.size rfl pk.el rfl okA nilK (zero_K wr _ rfl) ?_; intro x1 hu1 tx1 sx1))
      have B1 : Below w.heap.size w x1 := below_touched (hbel.alloc hbs _) tx1 hbs (Nat.le_refl _)
      have HU : Hid (HasK x1 wr.heap.size pk.el) := hu1
      have s1 : x1.heap.size = wr.heap.size + 1 := by rw [sx1]; simp
      clear hu1 tx1 sx1 HR hbel
      generalize wr.heap.size = p1 at *
      have hkc : (k : Int) ≤ (cap : Int) := by omega
      go_wp2_with fail
      go_loopg [18] k (fun g2 i wy => ∃ j : Nat, j + g2 = k ∧ i = .int .i64 (j : Int) ∧ Below w.heap.size w wy ∧ Hid (HasK wy p1 pk.el ∧ p1 < wy.heap.size) ∧ Hid (((l.take j).all fun p => p.n != nAt l k) = true))
      case atStart => exact ⟨0, by omega, rfl, B1, ⟨HU.out, by omega⟩, (show ((l.take 0).all fun p => p.n != nAt l k) = true from rfl)⟩
      case round =>
        obtain ⟨j, hjg, rfl, hby, HU2, HJ⟩ := hrel
        cases gk with
        | zero =>
          have hj : j = k := by omega
          subst hj
          have HKS := HM.out j hlt
          go_wp2_with fail
          go_roundg g
          case measure => omega
          case rel => exact ⟨j + 1, by omega, congrArg (Value.int .i64) HKS, hby, apart_step l j HE.out HJ.out⟩
        | succ g2 =>
          have hjk : j < k := by omega
          have hjI : (j : Int) < (k : Int) := by omega
          have hjl : j < l.length := by omega
          obtain ⟨g', off', e', hg', hat', okJ⟩ := HI.out j hjl
          cases e'
          have HR : Hid (wr.rangeAt g0 (off + j * 25) (ec (l[j]).el)) := range_same hat' (hby.block g0 hg)
          have HVJ : Hid ((l[j]).n = nAt l j) := (nAt_eq l j hjl).symm
          have hbs := hby.size
          clear hat'
          generalize l[j] = pj at *
          go_upto_region 7 with (first
            | (refine load_K _ rfl g0 (off + j * 25) rfl rfl pj.el okJ HR.out ?_)
            | (refine store_K rfl _ _ rfl wr.heap.size rfl pj.el rfl okJ nilK (zero_K wr _ rfl) ?_; intro x2 hu2 tx2 sx2))
          have B2 : Below w.heap.size w x2 := below_touched (hby.alloc hbs _) tx2 hbs (Nat.le_refl _)
          have s2 : x2.heap.size = wr.heap.size + 1 := by rw [sx2]; simp
          have HU3 : HasK x2 p1 pk.el := (HU2.out.1.alloc _).touch tx2 (by have := HU2.out.2; omega)
          have cA : x2.cell? ⟨p1, 24, none⟩ = some (.int .i64 pk.n) := HU3.val
          have cB : x2.cell? ⟨wr.heap.size, 24, none⟩ = some (.int .i64 pj.n) := hu2.val
          have HX : Hid (HasK x2 p1 pk.el ∧ p1 < x2.heap.size) := ⟨HU3, by have := HU2.out.2; omega⟩
          clear HU2 HU3 hu2 tx2 sx2 hby HR
          by_cases hn : pk.n = pj.n
          · have hb : (pk.n == pj.n) = true := by simpa using hn
            have HNE : Hid (nAt l j = nAt l k) := (show _ = _ by rw [← HVJ.out, ← HV.out, hn])
            clear hn
            go_wp2_with fail
            go_ret
            exact ⟨by rw [apart_no l k hkl (apartAt_no l k j hjk hkl HNE.out)]; rfl, B2⟩
          · have hb : (pk.n == pj.n) = false := by simpa using hn
            have HNE : Hid (nAt l j ≠ nAt l k) := (fun e => hn (by rw [HV.out, HVJ.out, e]))
            have HJS : Hid (wrap64 ((j : Int) + 1) = ((j + 1 : Nat) : Int)) := HM.out j (by omega)
            clear hn
            go_wp2_with fail
            go_roundg g2
            case measure => omega
            case rel => exact ⟨j + 1, by omega, congrArg (Value.int .i64) HJS.out, B2, HX, apartAt_step l k j hjk hkl HJ.out HNE.out⟩
end Go.Proofs.Ytggbnacpgkbieaa
