import Derived.Test.YtjhdnpplmlddaaaGreatB03
/- Have no two kids one block? When is a node right? -/
namespace Go.Proofs.YtjhdnpplmlddaaaGreat
set_option linter.unusedVariables false
open Go.RowKit

def nAt (l : List Kd) (i : Nat) : Int := (l[i]?.map Kd.n).getD 0
def apartAt (l : List Kd) (i : Nat) : Bool := (l.take i).all fun p => p.n != nAt l i
def apart (l : List Kd) : Bool := (List.range l.length).all (apartAt l)
theorem nAt_eq (l : List Kd) (i : Nat) (h : i < l.length) : nAt l i = (l[i]).n := by simp [nAt, h]
theorem apart_step (l : List Kd) (k : Nat) (h : (List.range k).all (apartAt l) = true) (h2 : apartAt l k = true) : (List.range (k + 1)).all (apartAt l) = true := by
  rw [List.range_succ, List.all_append, h]
  simpa using h2
theorem apart_no (l : List Kd) (k : Nat) (hk : k < l.length) (h : apartAt l k = false) : apart l = false := by
  cases e : apart l with
  | false => rfl
  | true =>
    rw [apart, List.all_eq_true] at e
    rw [e k (List.mem_range.2 hk)] at h
    cases h
theorem apartAt_step (l : List Kd) (k j : Nat) (hj : j < k) (hk : k < l.length) (h : ((l.take j).all fun p => p.n != nAt l k) = true) (h2 : nAt l j ≠ nAt l k) : ((l.take (j + 1)).all fun p => p.n != nAt l k) = true := by
  rw [List.take_succ_eq_append_getElem (show j < l.length by omega), List.all_append, h]
  rw [nAt_eq l j (by omega)] at h2
  simpa using h2
theorem apartAt_no (l : List Kd) (k j : Nat) (hj : j < k) (hk : k < l.length) (h : nAt l j = nAt l k) : apartAt l k = false := by
  cases e : apartAt l k with
  | false => rfl
  | true =>
    rw [apartAt, List.all_eq_true] at e
    have hm : l[j] ∈ l.take k := by
      rw [List.mem_take_iff_getElem]
      exact ⟨j, by omega, rfl⟩
    have := e _ hm
    rw [← nAt_eq l j (by omega), h] at this
    simp at this
/-- A slice of them that lies below the heap's end. -/
def Els (w : World) (sv : Value) (l : List El) : Prop := ∃ r, ElsIn w sv l r ∧ ∀ k, r = some k → k < w.heap.size
theorem Els.below {x y : World} {sv : Value} {l : List El} (h : Els x sv l) (b : Below x.heap.size x y) : Els y sv l := by
  obtain ⟨r, h1, h2⟩ := h
  exact ⟨r, h1.below b h2, fun k hk => by have := h2 k hk; have := b.size; omega⟩
theorem Els.nil (x : World) : Els x (.slice none 0 0) [] := ⟨none, ⟨none, 0, rfl, Nat.le_refl _, Nat.zero_le _, (fun i hi => by cases hi), .inl rfl⟩, fun k hk => by cases hk⟩
theorem Els.one {x : World} {sv : Value} {l : List El} (h : Els x sv l) : sv.oneCell' = true := by
  obtain ⟨r, h1, _⟩ := h
  exact h1.one

set_option maxHeartbeats 8000000 in
set_option maxRecDepth 100000 in
theorem apart_calls (w : World) (sv : Value) (l : List Kd) (h : Els w sv (l.map Kd.el)) :
    Calls Tryz.prog 92 #[sv] w fun e w' => e = .returned (.bool (apart l)) ∧ Below w.heap.size w w' := by
  obtain ⟨r, ⟨ad, cap, rfl, hcap, hmax, hok, hin⟩, hr⟩ := h
  simp only [List.length_map] at hcap hmax hok hin ⊢
  obtain ⟨N, hN⟩ : ∃ N : Nat, N = l.length := ⟨_, rfl⟩
  rw [← hN] at hcap hmax ⊢
  have HN : Hid (N = l.length) := hN
  have HM : Hid (∀ k : Nat, k < N → wrap64 ((k : Int) + 1) = ((k + 1 : Nat) : Int)) := fun k hk => wrap_succ hk hmax
  have HI : Hid (∀ i (hi : i < l.length), ∃ g off, ad = some ⟨g, off, none⟩ ∧ g < w.heap.size ∧ w.rangeAt g (off + i * 25) (ec (l[i]).el) ∧ (l[i]).el.Ok) := fun i hi => by
    rcases hin with e | ⟨g, off, h1, _, h2, h3⟩
    · simp at e; subst e; simp at hi
    · exact ⟨g, off, h1, h2, by have := h3 i hi; simpa using this, by have := hok i hi; simpa using this⟩
  clear hN hin hok hmax
  go_enter Tryz.func92, Tryz.ntmps92
  go_wp2
  go_loopg [9] N (fun g i wr => ∃ k : Nat, k + g = N ∧ i = .int .i64 (k : Int) ∧ Below w.heap.size w wr ∧ Hid ((List.range k).all (apartAt l) = true))
  case atStart => exact ⟨0, by omega, rfl, Below.refl _ _, (show (List.range 0).all (apartAt l) = true from rfl)⟩
  case round =>
    obtain ⟨k, hkg, rfl, hbel, HE⟩ := hrel
    cases gk with
    | zero =>
      have hkN : k = N := by omega
      subst hkN
      go_wp2_with fail
      go_ret
      exact ⟨by rw [apart, ← HN.out, HE.out]; rfl, hbel⟩
    | succ g =>
      have hlt : k < N := by omega
      have hltI : (k : Int) < (N : Int) := by omega
      have hkl : k < l.length := by rw [← HN.out]; exact hlt
      obtain ⟨g0, off, rfl, hg, hat, okA⟩ := HI.out k hkl
      have HR : Hid (wr.rangeAt g0 (off + k * 25) (ec (l[k]).el)) := range_same hat (hbel.block g0 hg)
      have HV : Hid ((l[k]).n = nAt l k) := (nAt_eq l k hkl).symm
      have hbs := hbel.size
      clear hat
      generalize l[k] = pk at *
      go_upto_region 4 with (first
        | (refine load_K _ rfl g0 (off + k * 25) rfl rfl pk.el okA HR.out ?_)
        | (refine store_K rfl _ _ rfl wr.heap.size rfl pk.el rfl okA nilK (zero_K wr _ rfl) ?_; intro x1 hu1 tx1 sx1))
      have B1 : Below w.heap.size w x1 := below_touched (hbel.alloc hbs _) tx1 hbs (Nat.le_refl _)
      have HU : Hid (HasK x1 wr.heap.size pk.el) := hu1
      have s1 : x1.heap.size = wr.heap.size + 1 := by rw [sx1]; simp
      clear hu1 tx1 sx1 HR hbel
      generalize wr.heap.size = p1 at *
      have hkc : (k : Int) ≤ (cap : Int) := by omega
      go_wp2_with fail
      go_loopg [18] k (fun g2 i wy => ∃ j : Nat, j + g2 = k ∧ i = .int .i64 (j : Int) ∧ Below w.heap.size w wy ∧ Hid (HasK wy p1 pk.el ∧ p1 < wy.heap.size) ∧ Hid (((l.take j).all fun p => p.n != nAt l k) = true))
      case atStart => exact ⟨0, by omega, rfl, B1, ⟨HU.out, by omega⟩, (show ((l.take 0).all fun p => p.n != nAt l k) = true from rfl)⟩
      case round =>
        obtain ⟨j, hjg, rfl, hby, HU2, HJ⟩ := hrel
        cases gk with
        | zero =>
          have hj : j = k := by omega
          subst hj
          have HKS := HM.out j hlt
          go_wp2_with fail
          go_roundg g
          case measure => omega
          case rel => exact ⟨j + 1, by omega, congrArg (Value.int .i64) HKS, hby, apart_step l j HE.out HJ.out⟩
        | succ g2 =>
          have hjk : j < k := by omega
          have hjI : (j : Int) < (k : Int) := by omega
          have hjl : j < l.length := by omega
          obtain ⟨g', off', e', hg', hat', okJ⟩ := HI.out j hjl
          cases e'
          have HR : Hid (wr.rangeAt g0 (off + j * 25) (ec (l[j]).el)) := range_same hat' (hby.block g0 hg)
          have HVJ : Hid ((l[j]).n = nAt l j) := (nAt_eq l j hjl).symm
          have hbs := hby.size
          clear hat'
          generalize l[j] = pj at *
          go_upto_region 7 with (first
            | (refine load_K _ rfl g0 (off + j * 25) rfl rfl pj.el okJ HR.out ?_)
            | (refine store_K rfl _ _ rfl wr.heap.size rfl pj.el rfl okJ nilK (zero_K wr _ rfl) ?_; intro x2 hu2 tx2 sx2))
          have B2 : Below w.heap.size w x2 := below_touched (hby.alloc hbs _) tx2 hbs (Nat.le_refl _)
          have s2 : x2.heap.size = wr.heap.size + 1 := by rw [sx2]; simp
          have HU3 : HasK x2 p1 pk.el := (HU2.out.1.alloc _).touch tx2 (by have := HU2.out.2; omega)
          have cA : x2.cell? ⟨p1, 24, none⟩ = some (.int .i64 pk.n) := HU3.val
          have cB : x2.cell? ⟨wr.heap.size, 24, none⟩ = some (.int .i64 pj.n) := hu2.val
          have HX : Hid (HasK x2 p1 pk.el ∧ p1 < x2.heap.size) := ⟨HU3, by have := HU2.out.2; omega⟩
          clear HU2 HU3 hu2 tx2 sx2 hby HR
          by_cases hn : pk.n = pj.n
          · have hb : (pk.n == pj.n) = true := by simpa using hn
            have HNE : Hid (nAt l j = nAt l k) := (show _ = _ by rw [← HVJ.out, ← HV.out, hn])
            clear hn
            go_wp2_with fail
            go_ret
            exact ⟨by rw [apart_no l k hkl (apartAt_no l k j hjk hkl HNE.out)]; rfl, B2⟩
          · have hb : (pk.n == pj.n) = false := by simpa using hn
            have HNE : Hid (nAt l j ≠ nAt l k) := (fun e => hn (by rw [HV.out, HVJ.out, e]))
            have HJS : Hid (wrap64 ((j : Int) + 1) = ((j + 1 : Nat) : Int)) := HM.out j (by omega)
            clear hn
            go_wp2_with fail
            go_roundg g2
            case measure => omega
            case rel => exact ⟨j + 1, by omega, congrArg (Value.int .i64) HJS.out, B2, HX, apartAt_step l k j hjk hkl HJ.out HNE.out⟩
end Go.Proofs.YtjhdnpplmlddaaaGreat
/- When is a node right? -/
namespace Go.Proofs.YtjhdnpplmlddaaaGreat
set_option linter.unusedVariables false
open Go.RowKit

def okPairs (l : List Pr) : Bool := decide (1 ≤ l.length) && decide (l.length ≤ 7) && !anyP l && rises (l.map Pr.k)
def okKids (l : List Kd) : Bool := decide (2 ≤ l.length) && decide (l.length ≤ 18) && !anyK l && rises (l.map Kd.k) && apart l
def rightN (x : Nod) : Bool := if x.lv < 0 ∨ 12 ≤ x.lv then false else if x.lv = 0 then decide (x.ks.length = 0) && okPairs x.ps else decide (x.ps.length = 0) && okKids x.ks
theorem map_keyP (l : List Pr) : (l.map Pr.el).map El.k = l.map Pr.k := by simp [Pr.el]
theorem map_keyK (l : List Kd) : (l.map Kd.el).map El.k = l.map Kd.k := by simp [Kd.el]

set_option maxHeartbeats 4000000 in
set_option maxRecDepth 100000 in
theorem arePairs_calls (w : World) (sv : Value) (l : List Pr) (h : Els w sv (l.map Pr.el)) :
    Calls Tryz.prog 77 #[sv] w fun e w' => e = .returned (.bool (okPairs l)) ∧ Below w.heap.size w w' := by
  have hsl : ∃ ad cap, sv = .slice ad l.length cap := by obtain ⟨r, ⟨ad, cap, e, _⟩, _⟩ := h; exact ⟨ad, cap, by simpa using e⟩
  have hA : Calls Tryz.prog 87 #[sv, .func (Fn.func 86) #[] #[]] w fun e w' => e = .returned (.bool (anyP l)) ∧ Below w.heap.size w w' := by obtain ⟨r, h1, _⟩ := h; exact containsP_calls w sv l r h1
  have hB : ∀ y, Below w.heap.size w y → Calls Tryz.prog 88 #[sv, .func (Fn.func 64) #[] #[]] y fun e w' => e = .returned (.bool (rises (l.map Pr.k))) ∧ Below y.heap.size y w' := fun y hy => by
    obtain ⟨r, h1, _⟩ := h.below hy
    have := riseP_calls y sv _ r h1
    rwa [map_keyP] at this
  have HB : Hid (∀ y, Below w.heap.size w y → Calls Tryz.prog 88 #[sv, .func (Fn.func 64) #[] #[]] y fun e w' => e = .returned (.bool (rises (l.map Pr.k))) ∧ Below y.heap.size y w') := hB
  have HO : Hid (okPairs l = (decide (1 ≤ l.length) && decide (l.length ≤ 7) && !anyP l && rises (l.map Pr.k))) := rfl
  obtain ⟨ad, cap, rfl⟩ := hsl
  clear h hB
  generalize hN : l.length = N at *
  have HN : Hid (l.length = N) := hN
  clear hN
  by_cases h1 : 1 ≤ N
  rotate_left
  · have q1 : ¬ (1 : Int) ≤ (N : Int) := by omega
    go_enter Tryz.func77, Tryz.ntmps77
    go_wp2_with fail
    go_ret
    exact ⟨by rw [HO.out, decide_eq_false h1]; rfl, Below.refl _ _⟩
  have q1 : (1 : Int) ≤ (N : Int) := by omega
  by_cases h2 : N ≤ 7
  rotate_left
  · have q2 : ¬ (N : Int) ≤ 7 := by omega
    go_enter Tryz.func77, Tryz.ntmps77
    go_wp2_with fail
    go_ret
    exact ⟨by rw [HO.out, decide_eq_false h2]; simp <;> rfl, Below.refl _ _⟩
  have q2 : (N : Int) ≤ 7 := by omega
  cases h3 : anyP l with
  | true =>
    rw [h3] at hA
    go_enter Tryz.func77, Tryz.ntmps77
    go_wp2_with (go_at_call 87; refine hA.mono ?_; rintro e w1 ⟨rfl, b1⟩)
    go_ret
    exact ⟨by rw [HO.out, h3]; simp <;> rfl, b1⟩
  | false =>
    rw [h3] at hA
    go_enter Tryz.func77, Tryz.ntmps77
    go_wp2_with (first
      | (go_at_call 87; refine hA.mono ?_; rintro e w1 ⟨rfl, b1⟩)
      | (go_at_call 88; refine (HB.out _ b1).mono ?_; rintro e w2 ⟨rfl, b2⟩))
    go_ret
    exact ⟨by rw [HO.out, h3, decide_eq_true h1, decide_eq_true h2]; simp <;> rfl, b1.trans (b2.mono b1.size)⟩

set_option maxHeartbeats 4000000 in
set_option maxRecDepth 100000 in
theorem areKids_calls (w : World) (sv : Value) (l : List Kd) (h : Els w sv (l.map Kd.el)) :
    Calls Tryz.prog 78 #[sv] w fun e w' => e = .returned (.bool (okKids l)) ∧ Below w.heap.size w w' := by
  have hsl : ∃ ad cap, sv = .slice ad l.length cap := by obtain ⟨r, ⟨ad, cap, e, _⟩, _⟩ := h; exact ⟨ad, cap, by simpa using e⟩
  have hA : Calls Tryz.prog 90 #[sv, .func (Fn.func 89) #[] #[]] w fun e w' => e = .returned (.bool (anyK l)) ∧ Below w.heap.size w w' := by obtain ⟨r, h1, _⟩ := h; exact containsK_calls w sv l r h1
  have hB : ∀ y, Below w.heap.size w y → Calls Tryz.prog 91 #[sv, .func (Fn.func 65) #[] #[]] y fun e w' => e = .returned (.bool (rises (l.map Kd.k))) ∧ Below y.heap.size y w' := fun y hy => by
    obtain ⟨r, h1, _⟩ := h.below hy
    have := riseK_calls y sv _ r h1
    rwa [map_keyK] at this
  have hC : ∀ y, Below w.heap.size w y → Calls Tryz.prog 92 #[sv] y fun e w' => e = .returned (.bool (apart l)) ∧ Below y.heap.size y w' := fun y hy => apart_calls y sv l (h.below hy)
  have HB : Hid (∀ y, Below w.heap.size w y → Calls Tryz.prog 91 #[sv, .func (Fn.func 65) #[] #[]] y fun e w' => e = .returned (.bool (rises (l.map Kd.k))) ∧ Below y.heap.size y w') := hB
  have HC : Hid (∀ y, Below w.heap.size w y → Calls Tryz.prog 92 #[sv] y fun e w' => e = .returned (.bool (apart l)) ∧ Below y.heap.size y w') := hC
  have HO : Hid (okKids l = (decide (2 ≤ l.length) && decide (l.length ≤ 18) && !anyK l && rises (l.map Kd.k) && apart l)) := rfl
  obtain ⟨ad, cap, rfl⟩ := hsl
  clear h hB hC
  generalize hN : l.length = N at *
  have HN : Hid (l.length = N) := hN
  clear hN
  by_cases h1 : 2 ≤ N
  rotate_left
  · have q1 : ¬ (2 : Int) ≤ (N : Int) := by omega
    go_enter Tryz.func78, Tryz.ntmps78
    go_wp2_with fail
    go_ret
    exact ⟨by rw [HO.out, decide_eq_false h1]; rfl, Below.refl _ _⟩
  have q1 : (2 : Int) ≤ (N : Int) := by omega
  by_cases h2 : N ≤ 18
  rotate_left
  · have q2 : ¬ (N : Int) ≤ 18 := by omega
    go_enter Tryz.func78, Tryz.ntmps78
    go_wp2_with fail
    go_ret
    exact ⟨by rw [HO.out, decide_eq_false h2]; simp <;> rfl, Below.refl _ _⟩
  have q2 : (N : Int) ≤ 18 := by omega
  cases h3 : anyK l with
  | true =>
    rw [h3] at hA
    go_enter Tryz.func78, Tryz.ntmps78
    go_wp2_with (go_at_call 90; refine hA.mono ?_; rintro e w1 ⟨rfl, b1⟩)
    go_ret
    exact ⟨by rw [HO.out, h3]; simp <;> rfl, b1⟩
  | false =>
    rw [h3] at hA
    cases h4 : rises (l.map Kd.k) with
    | false =>
      go_enter Tryz.func78, Tryz.ntmps78
      go_wp2_with (first
        | (go_at_call 90; refine hA.mono ?_; rintro e w1 ⟨rfl, b1⟩)
        | (go_at_call 91; refine (HB.out _ b1).mono ?_; rintro e w2 ⟨rfl, b2⟩; rw [h4]))
      go_ret
      exact ⟨by rw [HO.out, h3, h4]; simp <;> rfl, b1.trans (b2.mono b1.size)⟩
    | true =>
      go_enter Tryz.func78, Tryz.ntmps78
      go_wp2_with (first
        | (go_at_call 90; refine hA.mono ?_; rintro e w1 ⟨rfl, b1⟩)
        | (go_at_call 91; refine (HB.out _ b1).mono ?_; rintro e w2 ⟨rfl, b2⟩; rw [h4]; have b12 := Below.trans b1 (b2.mono b1.size))
        | (go_at_call 92; refine (HC.out _ b12).mono ?_; rintro e w3 ⟨rfl, b3⟩))
      go_ret
      exact ⟨by rw [HO.out, h3, h4, decide_eq_true h1, decide_eq_true h2]; simp <;> rfl, b12.trans (b3.mono b12.size)⟩

/-- A node in block b; its slices are pv and qv. -/
abbrev nc (x : Nod) (pv qv : Value) : Array Value := #[.int .i64 x.lv, pv, qv]
abbrev nv (x : Nod) (pv qv : Value) : Value := .agg (nc x pv qv)
def HasN (w : World) (b : Nat) (x : Nod) (pv qv : Value) : Prop := w.heap[b]? = some (.cells (nc x pv qv) 60 (0, 0)) ∧ pv.oneCell' = true ∧ qv.oneCell' = true
theorem Tryz.node_info : (Tryz.prog.info? 60).map (·.size) = some 3 := by kernel_rfl
def nilN : Nod := ⟨0, [], []⟩
section
variable {w w' : World} {b : Nat} {x : Nod} {pv qv : Value}
theorem HasN.lt (h : HasN w b x pv qv) : b < w.heap.size := lt_of_block h.1
theorem HasN.same (h : HasN w b x pv qv) (e : w'.heap[b]? = w.heap[b]?) : HasN w' b x pv qv := ⟨e.trans h.1, h.2⟩
theorem HasN.below {B : Nat} (h : HasN w b x pv qv) (hb : Below B w w') (hB : b < B) : HasN w' b x pv qv := h.same (hb.block b hB)
theorem HasN.touch {p : Nat} (h : HasN w b x pv qv) (ht : Touch p none w w') (hp : b ≠ p) : HasN w' b x pv qv := h.same (ht.block b h.lt hp (by simp))
theorem HasN.alloc (h : HasN w b x pv qv) (o : Obj) : HasN (w.alloc o) b x pv qv := h.same (Below.heap_alloc _ _ _ h.lt)
theorem HasN.new (w : World) (x : Nod) (pv qv : Value) (b : Nat) (hb : b = w.heap.size) (h1 : pv.oneCell' = true) (h2 : qv.oneCell' = true) : HasN (w.alloc (.cells (nc x pv qv) 60)) b x pv qv := by
  subst hb
  exact ⟨heap_alloc_new _ _, h1, h2⟩
theorem HasN.cells (h : HasN w b x pv qv) : w.cell? ⟨b, 0, none⟩ = some (.int .i64 x.lv) ∧ w.cell? ⟨b, 1, none⟩ = some pv ∧ w.cell? ⟨b, 2, none⟩ = some qv := by
  refine ⟨?_, ?_, ?_⟩ <;> rw [cell_of_row w b _ _ _ _ h.1] <;> rfl
theorem HasN.free (h : HasN w b x pv qv) (j : Nat) : w.frozen? ⟨b, j, none⟩ = false := by simp [World.frozen?, h.1]
theorem HasN.range (h : HasN w b x pv qv) : w.rangeAt b 0 [.int .i64 x.lv, pv, qv] := fun j v hj => by
  rw [Nat.zero_add, cell_of_row w b _ _ _ _ h.1]
  simpa using hj
end
theorem nc_all (x : Nod) (pv qv : Value) (h1 : pv.oneCell' = true) (h2 : qv.oneCell' = true) : (nc x pv qv).all (·.oneCell') = true := by
  refine all_oneCell_toArray (cs := [_, pv, qv]) ?_
  intro u hu
  simp only [List.mem_cons, List.not_mem_nil, or_false] at hu
  rcases hu with rfl | rfl | rfl
  · rfl
  · exact h1
  · exact h2
section
variable {ops : Array Oper} {rest : List Oper} {o : Oper} {a : Act} {w : World} {Q : Exit → Act → World → Prop}
theorem load_node (x : Operand) (ho : o.op = .load 60 x) (b : Nat) (hx : a.eval x = .pointer (some ⟨b, 0, none⟩)) (hgd : Region.wanted o (yielded ops a.tmps) = true) (X : Nod) (pv qv : Value) (hF : HasN w b X pv qv)
    (h : wpList Tryz.prog ops Q rest (a.put o.dst (nv X pv qv)) w) : wpList Tryz.prog ops Q (o :: rest) a w :=
  BigFrame.wpList_want hgd fun _ hK' => wp_load_row _ x ho b hx _ _ _ _ hF.1 Tryz.underlying60 rfl Tryz.node_info (hK' _ _ h)
theorem store_node (hgd : o.guard = none) (x y : Operand) (ho : o.op = .store 60 x y) (b : Nat) (hx : a.eval x = .pointer (some ⟨b, 0, none⟩)) (T : Nod) (tp tq : Value) (hy : a.eval y = nv T tp tq) (h1 : tp.oneCell' = true) (h2 : tq.oneCell' = true) (X : Nod) (pv qv : Value) (hF : HasN w b X pv qv)
    (h : ∀ w', HasN w' b T tp tq → Touch b none w w' → w'.heap.size = w.heap.size → wpList Tryz.prog ops Q rest (a.put o.dst undef) w') : wpList Tryz.prog ops Q (o :: rest) a w :=
  wpList_store_row hgd _ x y ho b _ hx hy _ _ hF.1 Tryz.node_info rfl (nc_all _ _ _ h1 h2) (h _ ⟨setRow_heap w b _ _ _ _ hF.1, h1, h2⟩ (touch_setRow _ _ _) (by simp))
end
theorem ret_node_ok {fn : Func} {R : Ending → World → Prop} {a : Act} {w : World} {p u : Tmp} (hr : fn.results = #[.cell p 60, .tmp u]) (b : Nat) (X : Nod) (pv qv : Value) (v : Value) (hp : a.tmps.getD p undef = .pointer (some ⟨b, 0, none⟩)) (hv : a.tmps.getD u undef = v) (hF : HasN w b X pv qv)
    (hd : a.defers = []) (hR : R (.returned (.tuple #[nv X pv qv, v])) w) : bodyPost Tryz.prog fn R .ret a w := by
  refine bodyPost_ret (v := .tuple #[nv X pv qv, v]) ?_ hd hR
  have hl := run_loadVar_row (P := Tryz.prog) w b 60 60 _ _ _ hF.1 Tryz.underlying60 rfl Tryz.node_info
  rw [results_cell_tmp hr, hp, hv]
  simp [asAddr, Result.andThen, hl]
theorem ret_node {fn : Func} {R : Ending → World → Prop} {a : Act} {w : World} {p : Tmp} (hr : fn.results = #[.cell p 60]) (b : Nat) (X : Nod) (pv qv : Value) (hp : a.tmps.getD p undef = .pointer (some ⟨b, 0, none⟩)) (hF : HasN w b X pv qv)
    (hd : a.defers = []) (hR : R (.returned (nv X pv qv)) w) : bodyPost Tryz.prog fn R .ret a w :=
  bodyPost_ret (results_cell_row hr _ w b _ _ _ _ hp hF.1 Tryz.underlying60 rfl Tryz.node_info) hd hR
/-- What a node's slices are. -/
structure Parts (w : World) (x : Nod) (pv qv : Value) : Prop where
  p : Els w pv (x.ps.map Pr.el)
  q : Els w qv (x.ks.map Kd.el)
theorem Parts.below {w y : World} {x : Nod} {pv qv : Value} (h : Parts w x pv qv) (b : Below w.heap.size w y) : Parts y x pv qv := ⟨h.p.below b, h.q.below b⟩
theorem Parts.lenP {w : World} {x : Nod} {pv qv : Value} (h : Parts w x pv qv) : ∃ a c, pv = .slice a x.ps.length c := by
  obtain ⟨r, ⟨ad, cap, e, _⟩, _⟩ := h.p
  exact ⟨ad, cap, by simpa using e⟩
theorem Parts.lenQ {w : World} {x : Nod} {pv qv : Value} (h : Parts w x pv qv) : ∃ a c, qv = .slice a x.ks.length c := by
  obtain ⟨r, ⟨ad, cap, e, _⟩, _⟩ := h.q
  exact ⟨ad, cap, by simpa using e⟩

set_option maxHeartbeats 4000000 in
set_option maxRecDepth 100000 in
theorem right_calls (w : World) (x : Nod) (pv qv : Value) (h : Parts w x pv qv) :
    Calls Tryz.prog 61 #[nv x pv qv] w fun e w' => e = .returned (.bool (rightN x)) ∧ Below w.heap.size w w' := by
  have B1 : Below w.heap.size w (w.alloc (.cells (nc x pv qv) 60)) := (Below.refl _ w).alloc (Nat.le_refl _) _
  have hp1 := arePairs_calls _ pv x.ps (h.p.below B1)
  have hq1 := areKids_calls _ qv x.ks (h.q.below B1)
  have H1 := (HasN.new w x pv qv _ rfl h.p.one h.q.one).cells
  obtain ⟨ap, cp, rfl⟩ := h.lenP
  obtain ⟨aq, cq, rfl⟩ := h.lenQ
  obtain ⟨c0, c1, c2⟩ := H1
  have HO : Hid (rightN x = if x.lv < 0 ∨ 12 ≤ x.lv then false else if x.lv = 0 then decide (x.ks.length = 0) && okPairs x.ps else decide (x.ps.length = 0) && okKids x.ks) := rfl
  clear h
  obtain ⟨lv, ps, ks⟩ := x
  simp only at c0 c1 c2 hp1 hq1 HO ⊢
  generalize okPairs ps = OP at *
  generalize okKids ks = OK at *
  generalize hP : ps.length = P at *
  generalize hQ : ks.length = Q at *
  have HP : Hid (ps.length = P ∧ ks.length = Q) := ⟨hP, hQ⟩
  clear hP hQ
  by_cases h0 : lv < 0
  · go_enter Tryz.func61, Tryz.ntmps61
    go_wp2_with fail
    go_ret
    exact ⟨by rw [HO.out, if_pos (.inl h0)]; rfl, B1⟩
  by_cases h12 : 12 ≤ lv
  · go_enter Tryz.func61, Tryz.ntmps61
    go_wp2_with fail
    go_ret
    exact ⟨by rw [HO.out, if_pos (.inr h12)]; rfl, B1⟩
  by_cases hz : lv = 0
  · subst hz
    by_cases hl : Q = 0
    · subst hl
      go_enter Tryz.func61, Tryz.ntmps61
      go_wp2_with (go_at_call 77; refine hp1.mono ?_; rintro e w1 ⟨rfl, b1⟩)
      go_ret
      exact ⟨by rw [HO.out]; simp <;> rfl, B1.trans (b1.mono B1.size)⟩
    · have hl2 : ((Q : Int) == 0) = false := by simp; omega
      go_enter Tryz.func61, Tryz.ntmps61
      go_wp2_with fail
      go_ret
      exact ⟨by rw [HO.out, decide_eq_false hl]; simp <;> rfl, B1⟩
  · have hz2 : (lv == 0) = false := by simpa using hz
    by_cases hl : P = 0
    · subst hl
      go_enter Tryz.func61, Tryz.ntmps61
      go_wp2_with (go_at_call 78; refine hq1.mono ?_; rintro e w1 ⟨rfl, b1⟩)
      go_ret
      exact ⟨by rw [HO.out, if_neg (by omega), if_neg hz]; simp <;> rfl, B1.trans (b1.mono B1.size)⟩
    · have hl2 : ((P : Int) == 0) = false := by simp; omega
      go_enter Tryz.func61, Tryz.ntmps61
      go_wp2_with fail
      go_ret
      exact ⟨by rw [HO.out, if_neg (by omega), if_neg hz, decide_eq_false hl]; simp <;> rfl, B1⟩
end Go.Proofs.YtjhdnpplmlddaaaGreat
/- The block of a node, as bytes; write. -/
namespace Go.Proofs.YtjhdnpplmlddaaaGreat
set_option linter.unusedVariables false
open Go.RowKit

def cat (a b : List UInt8) : List UInt8 := a ++ b
theorem cat_length (a b : List UInt8) : (cat a b).length = a.length + b.length := by simp [cat]
def WS.pair (s : WS) (p : Pr) : WS := (s.put p.k).text p.s
def WS.kid (s : WS) (p : Kd) : WS := (s.put p.k).word p.n
theorem put_fits (L x : List UInt8) (h : L.length + x.length ≤ 512) : (⟨512, L, false⟩ : WS).put x = ⟨512, cat L x, false⟩ := by
  unfold WS.put
  simp only
  rw [if_neg (by simp), if_pos (by omega)]
  rfl
theorem step_below {x w' y : World} (b : Below x.heap.size x w') (o : Obj) (t : Touch w'.heap.size none (w'.alloc o) y) : Below x.heap.size x y :=
  below_touched (b.alloc b.size o) t b.size (Nat.le_refl _)
theorem touch_below {w w' : World} (p : Nat) (r : Option Nat) (b : Below w.heap.size w w') : Touch p r w w' := ⟨b.os, b.tape, b.output, b.size, fun k hk _ _ => b.block k hk⟩
theorem conv_part {w : World} {b o : Nat} {K : List UInt8} (hr : w.rangeAt b o (bc K)) (hl : K.length = 24) (cap : Nat) : (convert 119 9 (.slice (some ⟨b, o, none⟩) 24 cap)).run Tryz.prog w = .ok (.string (str K)) w := by
  have := run_convert_bytes_arg (P := Tryz.prog) w 119 5 Tryz.underlying119 Tryz.underlying5 b o 24 cap (K.map fun b => (b.toNat : Int)) (by simp [hl]) (fun i hi => by
    have hi' : i < K.length := by omega
    rw [hr i (.int .u8 ((K[i]).toNat : Int)) (by simp [bc, hi'])]
    simp [hi']) 9 Tryz.underlying9
  rw [str_of] at this
  exact this
theorem Has.range {w : World} {b : Nat} {K : List UInt8} (h : Has w b K) : w.rangeAt b 0 (bc K) := fun j v hv => by
  rw [Nat.zero_add, cell_of_row w b _ _ _ _ h.blk]
  simpa using hv
/-- The writer's pointer in block c. -/
def ptrAt (w : World) (c p : Nat) (t : TypeId) : Prop := w.heap[c]? = some (.cells #[.pointer (some ⟨p, 0, none⟩)] t (0, 0))

end Go.Proofs.YtjhdnpplmlddaaaGreat
/- The bytes of a node; Bytes. -/
namespace Go.Proofs.YtjhdnpplmlddaaaGreat
set_option linter.unusedVariables false
open Go.RowKit

def encP (l : List Pr) : List UInt8 := l.flatMap fun p => p.k ++ (be p.s.size 1 ++ p.s.data.toList)
def encK (l : List Kd) : List UInt8 := l.flatMap fun p => p.k ++ be p.n.toNat 4
def encH (x : Nod) : List UInt8 := [87, 84] ++ (be x.lv.toNat 1 ++ be (x.ps.length + x.ks.length) 1)
def encB (x : Nod) : List UInt8 := encH x ++ (encP x.ps ++ encK x.ks)
def enc (x : Nod) : List UInt8 := encB x ++ List.replicate (512 - (encB x).length) 0
/-- A node whose keys have 24 bytes each. -/
def Keyed (x : Nod) : Prop := (∀ p ∈ x.ps, p.k.length = 24) ∧ ∀ p ∈ x.ks, p.k.length = 24
theorem encP_cons (p : Pr) (l : List Pr) : encP (p :: l) = p.k ++ (be p.s.size 1 ++ p.s.data.toList) ++ encP l := by simp [encP]
theorem encK_cons (p : Kd) (l : List Kd) : encK (p :: l) = p.k ++ be p.n.toNat 4 ++ encK l := by simp [encK]
theorem encP_length (l : List Pr) (hk : ∀ p ∈ l, p.k.length = 24) (hs : ∀ p ∈ l, p.s.size ≤ 40) : (encP l).length ≤ 65 * l.length := by
  induction l with
  | nil => simp [encP]
  | cons p l ih =>
    have h1 := ih (fun q hq => hk q (by simp [hq])) (fun q hq => hs q (by simp [hq]))
    have h2 := hk p (by simp)
    have h3 := hs p (by simp)
    rw [encP_cons]
    simp only [List.length_append, be_length, List.length_cons, Array.length_toList, ByteArray.size_data]
    omega
theorem encK_length (l : List Kd) (hk : ∀ p ∈ l, p.k.length = 24) : (encK l).length = 28 * l.length := by
  induction l with
  | nil => simp [encK]
  | cons p l ih =>
    have h1 := ih (fun q hq => hk q (by simp [hq]))
    have h2 := hk p (by simp)
    rw [encK_cons]
    simp only [List.length_append, be_length, List.length_cons]
    omega
/-- A right node, in numbers. -/
structure Fits (x : Nod) : Prop where
  l0 : 0 ≤ x.lv
  l1 : x.lv ≤ 11
  np : x.ps.length ≤ 7
  nk : x.ks.length ≤ 18
  one : (x.lv = 0 ∧ x.ks = [] ∧ 1 ≤ x.ps.length) ∨ (x.lv ≠ 0 ∧ x.ps = [] ∧ 2 ≤ x.ks.length)
  vs : ∀ p ∈ x.ps, p.s.size ≤ 40
  bs : ∀ p ∈ x.ks, 2 ≤ p.n ∧ p.n ≤ 4294967295
theorem anyP_no {l : List Pr} (h : anyP l = false) : ∀ p ∈ l, p.s.size ≤ 40 := fun p hp => by
  rw [anyP, List.any_eq_false] at h
  have := h p hp
  simp [badP] at this
  omega
theorem anyK_no {l : List Kd} (h : anyK l = false) : ∀ p ∈ l, 2 ≤ p.n ∧ p.n ≤ 4294967295 := fun p hp => by
  rw [anyK, List.any_eq_false] at h
  have := h p hp
  simp [badK] at this
  omega
theorem fits {x : Nod} (h : rightN x = true) : Fits x := by
  rw [rightN] at h
  by_cases h1 : x.lv < 0 ∨ 12 ≤ x.lv
  · rw [if_pos h1] at h; cases h
  rw [if_neg h1] at h
  by_cases h2 : x.lv = 0
  · rw [if_pos h2] at h
    simp only [okPairs, Bool.and_eq_true, decide_eq_true_eq, Bool.not_eq_true'] at h
    obtain ⟨k0, ⟨⟨a, b⟩, c⟩, d⟩ := h
    have e := List.eq_nil_of_length_eq_zero k0
    exact ⟨by omega, by omega, b, by omega, .inl ⟨h2, e, a⟩, anyP_no c, by rw [e]; simp⟩
  · rw [if_neg h2] at h
    simp only [okKids, Bool.and_eq_true, decide_eq_true_eq, Bool.not_eq_true'] at h
    obtain ⟨k0, ⟨⟨⟨a, b⟩, c⟩, d⟩, _⟩ := h
    have e := List.eq_nil_of_length_eq_zero k0
    exact ⟨by omega, by omega, by omega, b, .inr ⟨h2, e, a⟩, by rw [e]; simp, anyK_no c⟩
theorem encH_length (x : Nod) : (encH x).length = 4 := by simp [encH, be_length]
theorem Fits.encB {x : Nod} (h : Fits x) (hk : Keyed x) : (encB x).length ≤ 508 := by
  rw [Go.Proofs.YtjhdnpplmlddaaaGreat.encB, List.length_append, List.length_append, encH_length, encK_length _ hk.2]
  have h1 := encP_length _ hk.1 h.vs
  have := h.np
  have := h.nk
  rcases h.one with ⟨_, e, _⟩ | ⟨_, e, _⟩
  · rw [e]; simp; omega
  · rw [e]
    have z : (encP ([] : List Pr)).length = 0 := rfl
    rw [z]
    omega
theorem Fits.enc {x : Nod} (h : Fits x) (hk : Keyed x) : (enc x).length = 512 := by
  have := h.encB hk
  simp [Go.Proofs.YtjhdnpplmlddaaaGreat.enc]
  omega
theorem pair_fits (L : List UInt8) (p : Pr) (hk : p.k.length = 24) (hs : p.s.size ≤ 40) (hL : L.length + 65 ≤ 512) : (⟨512, L, false⟩ : WS).pair p = ⟨512, L ++ (p.k ++ (be p.s.size 1 ++ p.s.data.toList)), false⟩ := by
  have hd : p.s.data.toList.length = p.s.size := by simp
  rw [WS.pair, put_fits _ _ (by omega), WS.text, WS.byte, if_neg (by omega), put_fits _ _ (by rw [cat_length, be_length]; omega), put_fits _ _ (by rw [cat_length, cat_length, be_length, hd]; omega)]
  simp [cat]
theorem kid_fits (L : List UInt8) (p : Kd) (hk : p.k.length = 24) (hs : 0 ≤ p.n ∧ p.n ≤ 4294967295) (hL : L.length + 28 ≤ 512) : (⟨512, L, false⟩ : WS).kid p = ⟨512, L ++ (p.k ++ be p.n.toNat 4), false⟩ := by
  rw [WS.kid, put_fits _ _ (by omega), WS.word, if_neg (by omega), put_fits _ _ (by rw [cat_length, be_length]; omega)]
  simp [cat]
theorem pairs_fit : ∀ (l : List Pr) (L : List UInt8), (∀ p ∈ l, p.k.length = 24) → (∀ p ∈ l, p.s.size ≤ 40) → L.length + 65 * l.length ≤ 512 → l.foldl WS.pair ⟨512, L, false⟩ = ⟨512, L ++ encP l, false⟩
  | [], L, _, _, _ => by simp [encP]
  | p :: l, L, hk, hs, hL => by
    have h1 := hk p (by simp)
    have h2 := hs p (by simp)
    simp only [List.length_cons] at hL
    have hd : p.s.data.toList.length = p.s.size := by simp
    rw [List.foldl_cons, pair_fits L p h1 h2 (by omega), pairs_fit l _ (fun q hq => hk q (by simp [hq])) (fun q hq => hs q (by simp [hq])) (by simp only [List.length_append, be_length, h1, hd]; omega), encP_cons]
    simp
theorem kids_fit : ∀ (l : List Kd) (L : List UInt8), (∀ p ∈ l, p.k.length = 24) → (∀ p ∈ l, 0 ≤ p.n ∧ p.n ≤ 4294967295) → L.length + 28 * l.length ≤ 512 → l.foldl WS.kid ⟨512, L, false⟩ = ⟨512, L ++ encK l, false⟩
  | [], L, _, _, _ => by simp [encK]
  | p :: l, L, hk, hs, hL => by
    have h1 := hk p (by simp)
    have h2 := hs p (by simp)
    simp only [List.length_cons] at hL
    rw [List.foldl_cons, kid_fits L p h1 h2 (by omega), kids_fit l _ (fun q hq => hk q (by simp [hq])) (fun q hq => hs q (by simp [hq])) (by simp only [List.length_append, be_length, h1]; omega), encK_cons]
    simp
theorem fill_fits (L : List UInt8) (h : L.length ≤ 512) : (⟨512, L, false⟩ : WS).fill 512 = ⟨512, L ++ List.replicate (512 - L.length) 0, false⟩ := by
  rw [WS.fill, if_neg (by simp only; omega), put_fits _ _ (by simp; omega)]
  simp only [cat]
  congr 3
  omega
theorem Parts.keyed {w : World} {x : Nod} {pv qv : Value} (h : Parts w x pv qv) : Keyed x := by
  constructor
  · intro p hp
    obtain ⟨r, ⟨ad, cap, _, _, _, ho, _⟩, _⟩ := h.p
    obtain ⟨i, hi, rfl⟩ := List.getElem_of_mem hp
    have := (ho i (by simpa using hi)).len
    simpa [Pr.el] using this
  · intro p hp
    obtain ⟨r, ⟨ad, cap, _, _, _, ho, _⟩, _⟩ := h.q
    obtain ⟨i, hi, rfl⟩ := List.getElem_of_mem hp
    have := (ho i (by simpa using hi)).len
    simpa [Kd.el] using this

/-- What Bytes comes to. -/
def BytesTo (w : World) (x : Nod) (e : Ending) (w' : World) : Prop :=
  Below w.heap.size w w' ∧ ((rightN x = false ∧ e = .returned (.tuple #[.slice none 0 0, .int .i64 1])) ∨ (rightN x = true ∧ ∃ a c, e = .returned (.tuple #[.slice a 512 c, .int .i64 0]) ∧ w'.ownsRow w.heap.size 5 1 (.slice a 512 c) 512 (bc (enc x))))
theorem own_lower {w : World} {base base' : Nat} {e : TypeId} {size n : Nat} {v : Value} {xs : List Value} (h : w.ownsRow base e size v n xs) (hb : base' ≤ base) : w.ownsRow base' e size v n xs := by
  refine ⟨h.1, ?_⟩
  rcases h.2 with h2 | ⟨g, cap, cur, h3, h4, h5⟩
  · exact .inl h2
  · exact .inr ⟨g, cap, cur, h3, by omega, h5⟩
theorem els_at {w y : World} {sv : Value} {l : List El} (h : Els w sv l) (b : Below w.heap.size w y) : ∃ r, ElsIn y sv l r ∧ ∀ k, r = some k → k < w.heap.size := by
  obtain ⟨r, h1, h2⟩ := h
  exact ⟨r, h1.below b h2, h2⟩
end Go.Proofs.YtjhdnpplmlddaaaGreat
