import Derived.Test.YtbbelhkdpmcoeaaGreatB01
import Derived.Deep.RegionHeld
import Derived.Test.YtbbelhkdpmcoeaaGreatB29
import Derived.Test.YtbbelhkdpmcoeaaGreatB39
/- A drawn region whose last writer (number z) writes what its loads have read: the held condition is asked for until z has come up. -/
namespace Go.Proofs.YtbbelhkdpmcoeaaGreat
set_option linter.unusedVariables false
set_option maxRecDepth 100000
open Go

section
variable {P : Program} {ops : Array Oper} {Q : Exit → Act → World → Prop} {md : Region.Mode} {S : World → Prop} {z : Nat}

/-- Whatever order is picked from here on, and S holds behind every operation that is carried out before number z. -/
def wpAnyZ (P : Program) (md : Region.Mode) (ops : Array Oper) (Q : Exit → Act → World → Prop) (S : World → Prop) (z : Nat) : Nat → Array Bool → Act → World → Prop
  | 0, listed, a, w => Region.ready md ops listed = [] ∧ Q .normal a w
  | fuel + 1, listed, a, w =>
    (Region.ready md ops listed = [] → Q .normal a w) ∧
    ∀ i ∈ Region.ready md ops listed, wpOp P ops Q i (fun a' w' => ((listed.setIfInBounds i true).getD z false = false → S w') ∧ wpAnyZ P md ops Q S z fuel (listed.setIfInBounds i true) a' w') a w
theorem wpAny_of_Z : ∀ (fuel : Nat) (listed : Array Bool) (a : Act) (w : World), wpAnyZ P md ops Q S z fuel listed a w → wpAny P md ops Q fuel listed a w
  | 0, _, _, _, h => h
  | fuel + 1, _, _, _, h => ⟨fun e => h.1 e, fun i hi => wpOp_mono (fun a' w' h' => wpAny_of_Z fuel _ a' w' h'.2) (h.2 i hi)⟩
/-- Those in D wait for number i, one behind the other; z is one of them. -/
def waits (md : Region.Mode) (ops : Array Oper) (listed : Array Bool) (i z : Nat) (D : List Nat) : Bool :=
  D.contains z && !D.contains i && D.all fun d => !listed.getD d false && match ops[d]? with
    | none => false
    | some o => o.after.any fun e => Region.binds md e && (e.on == i || D.contains e.on)
/-- The same, as a proposition that each step keeps. -/
structure Waits (md : Region.Mode) (ops : Array Oper) (listed : Array Bool) (i z : Nat) (D : List Nat) : Prop where
  hz : z ∈ D
  hi : i ∉ D
  un : ∀ d ∈ D, listed.getD d false = false
  on : ∀ d ∈ D, ∀ o, ops[d]? = some o → ∃ e ∈ o.after, Region.binds md e = true ∧ (e.on = i ∨ e.on ∈ D)
theorem waits_spec {listed : Array Bool} {i : Nat} {D : List Nat} (h : waits md ops listed i z D = true) : Waits md ops listed i z D := by
  simp only [waits, Bool.and_eq_true, List.contains_iff_mem, Bool.not_eq_true', List.all_eq_true] at h
  obtain ⟨⟨h1, h2⟩, h3⟩ := h
  refine ⟨h1, fun q => ?_, fun d hd => (h3 d hd).1, fun d hd o ho => ?_⟩
  · have := List.contains_iff_mem.2 q
    rw [this] at h2
    cases h2
  · have h4 := (h3 d hd).2
    rw [ho] at h4
    obtain ⟨e, he, hb⟩ := Array.any_eq_true'.1 h4
    simp only [Bool.and_eq_true, Bool.or_eq_true, beq_iff_eq, List.contains_iff_mem] at hb
    exact ⟨e, he, hb.1, hb.2⟩
theorem Waits.notReady {listed : Array Bool} {i j : Nat} {D : List Nat} (h : Waits md ops listed i z D) (hi : listed.getD i false = false) (hj : j ∈ Region.ready md ops listed) : j ∉ D := fun hd => by
  obtain ⟨-, o, ho, hall⟩ := mem_ready.1 hj
  obtain ⟨e, he, hb, q⟩ := h.on j hd o ho
  have h1 := hall e he hb
  rcases q with q | q
  · rw [q, hi] at h1
    cases h1
  · rw [h.un _ q] at h1
    cases h1
theorem getD_ff {listed : Array Bool} {i : Nat} (h : listed.getD i true = false) : listed.getD i false = false := by
  rcases Nat.lt_or_ge i listed.size with h' | h'
  · simpa [h'] using h
  · simp [h']
theorem Waits.step {listed : Array Bool} {i j : Nat} {D : List Nat} (h : Waits md ops listed i z D) (hj : j ∉ D) : Waits md ops (listed.setIfInBounds j true) i z D :=
  ⟨h.hz, h.hi, fun d hd => by
    have hne : j ≠ d := by rintro rfl; exact hj hd
    rw [getD_set_ne false hne]; exact h.un d hd, h.on⟩
/-- An operation that may come up now, and yields its value in every world that meets S, may be taken first, if z waits for it. -/
theorem wpAnyZ_first {i : Nat} {oi : Oper} {v : Value} {D : List Nat} (hi : ops[i]? = some oi) (hsel : ∀ (j : Nat) (o : Oper) cs b, ops[j]? = some o → o.op ≠ .select cs b)
    (hQ : ∀ c a w, Q (.panic c) (a.put oi.dst v) w → Q (.panic c) a w) :
    ∀ (fuel : Nat) (listed : Array Bool) (a : Act) (w : World),
      (∀ j oj, ops[j]? = some oj → j ≠ i → listed.getD j true = false → (∀ e ∈ oj.after, Region.binds md e = true → e.on ≠ i) → oi.apart ops oj = true) →
      i ∈ Region.ready md ops listed → Waits md ops listed i z D → YieldsIf P ops S oi v a → S w →
      wpAnyZ P md ops Q S z fuel (listed.setIfInBounds i true) (a.put oi.dst v) w → wpAnyZ P md ops Q S z (fuel + 1) listed a w := by
  intro fuel
  induction fuel with
  | zero =>
    intro listed a w _ hr hd hy hS H
    refine ⟨fun h => (by rw [h] at hr; cases hr), fun j hj => ?_⟩
    by_cases hji : j = i
    · subst hji; exact hy.wpOp hi hS ⟨fun _ => hS, H⟩
    · have := ready_mono hj hji
      rw [H.1] at this
      cases this
  | succ fuel ih =>
    intro listed a w hfree hr hd hy hS H
    refine ⟨fun h => (by rw [h] at hr; cases hr), fun j hj => ?_⟩
    by_cases hji : j = i
    · subst hji; exact hy.wpOp hi hS ⟨fun _ => hS, H⟩
    · have h1 := H.2 j (ready_mono hj hji)
      obtain ⟨hjun, oj, hoj, hall⟩ := mem_ready.1 hj
      have hjD : j ∉ D := hd.notReady (getD_ff (mem_ready.1 hr).1) hj
      have hnot : ∀ e ∈ oj.after, Region.binds md e = true → e.on ≠ i := fun e he hb heq => by
        have h1 := hall e he hb
        have h0 := (mem_ready.1 hr).1
        rw [heq] at h1
        rcases Nat.lt_or_ge i listed.size with h' | h'
        · simp [h'] at h0 h1; rw [h0] at h1; cases h1
        · simp [Array.getElem?_eq_none h'] at h1
      have h2 := wpOp_putIf hoj (hfree j oj hoj hji hjun hnot) (fun cs b => hsel i oi cs b hi) (fun cs b => hsel j oj cs b hoj) hQ hy h1
      have hfree' : ∀ k ok, ops[k]? = some ok → k ≠ i → (listed.setIfInBounds j true).getD k true = false →
          (∀ e ∈ ok.after, Region.binds md e = true → e.on ≠ i) → oi.apart ops ok = true := fun k ok hk hki hun hno => by
        refine hfree k ok hk hki ?_ hno
        by_cases hjk : j = k
        · subst hjk; exact hjun
        · rw [getD_set_ne true hjk] at hun; exact hun
      have hdj := hd.step (j := j) hjD
      have hzz : ((listed.setIfInBounds i true).setIfInBounds j true).getD z false = false := by
        have n1 : j ≠ z := by rintro rfl; exact hjD hd.hz
        have n2 : i ≠ z := by rintro rfl; exact hd.hi hd.hz
        rw [getD_set_ne false n1, getD_set_ne false n2]
        exact hd.un z hd.hz
      refine wpOp_mono (fun a' w' h3 => ⟨fun _ => h3.2.1 hzz, ih (listed.setIfInBounds j true) a' w' hfree' (ready_mono hr (Ne.symm hji)) hdj h3.1 (h3.2.1 hzz) ?_⟩) h2
      rw [Array.setIfInBounds_comm _ _ hji]
      exact h3.2.2
/-- Take number i first. -/
theorem wpAnyZ_take {i : Nat} {oi : Oper} {v : Value} {fuel : Nat} {listed : Array Bool} {a : Act} {w : World} (D : List Nat) (hi : ops[i]? = some oi)
    (hs : Region.noSelect ops = true) (hf : Region.free md ops listed i = true) (hr : (Region.ready md ops listed).contains i = true) (hd : waits md ops listed i z D = true)
    (hQ : ∀ c a w, Q (.panic c) (a.put oi.dst v) w → Q (.panic c) a w) (hy : YieldsIf P ops S oi v a) (hS : S w)
    (h : wpAnyZ P md ops Q S z fuel (listed.setIfInBounds i true) (a.put oi.dst v) w) : wpAnyZ P md ops Q S z (fuel + 1) listed a w :=
  wpAnyZ_first hi (Region.noSelect_spec hs) hQ fuel listed a w (Region.free_spec hi hf) (by simpa using hr) (waits_spec hd) hy hS h
/-- All have come up. -/
theorem wpAnyZ_done {listed : Array Bool} {a : Act} {w : World} (hr : Region.ready md ops listed = []) (h : Q .normal a w) : ∀ fuel, wpAnyZ P md ops Q S z fuel listed a w
  | 0 => ⟨hr, h⟩
  | _ + 1 => ⟨fun _ => h, by rw [hr]; simp⟩
/-- Each of the operations rs comes up next. -/
def AllReadyZ (P : Program) (md : Region.Mode) (ops : Array Oper) (Q : Exit → Act → World → Prop) (S : World → Prop) (z fuel : Nat) (listed : Array Bool) (a : Act) (w : World) (rs : List Nat) : Prop :=
  ∀ i ∈ rs, wpOp P ops Q i (fun a' w' => ((listed.setIfInBounds i true).getD z false = false → S w') ∧ wpAnyZ P md ops Q S z fuel (listed.setIfInBounds i true) a' w') a w
theorem AllReadyZ.nil {fuel : Nat} {listed : Array Bool} {a : Act} {w : World} : AllReadyZ P md ops Q S z fuel listed a w [] := fun _ h => by cases h
theorem AllReadyZ.cons {fuel : Nat} {listed : Array Bool} {a : Act} {w : World} {i : Nat} {o : Oper} {rs : List Nat} (ho : ops[i]? = some o)
    (h : ∀ K' : Act → World → Prop, Shut (∀ a w, ((listed.setIfInBounds i true).getD z false = false → S w) → wpAnyZ P md ops Q S z fuel (listed.setIfInBounds i true) a w → K' a w) → if Region.wanted o (yielded ops a.tmps) = true then Oper.wp P o a w K' Q else K' (a.put o.dst undef) w)
    (hs : AllReadyZ P md ops Q S z fuel listed a w rs) : AllReadyZ P md ops Q S z fuel listed a w (i :: rs) := fun j hj => by
  rcases List.mem_cons.1 hj with rfl | hj
  · exact wpOp_step ho (fun K' hK => h K' (fun a w hS hW => hK a w ⟨hS, hW⟩))
  · exact hs j hj
theorem wpAnyZ_ready {rs : List Nat} {fuel : Nat} {listed : Array Bool} {a : Act} {w : World} (hr : Region.ready md ops listed = rs) (hne : rs ≠ [])
    (h : AllReadyZ P md ops Q S z fuel listed a w rs) : wpAnyZ P md ops Q S z (fuel + 1) listed a w := ⟨fun h0 => absurd (hr ▸ h0) hne, hr ▸ h⟩
/-- The beginning. -/
theorem wp_region_Z {id : Nat} {a : Act} {w : World} (z : Nat) (S : World → Prop) (hm : P.follows .mixedOrders = true) (hS : S w.drew)
    (h : S w.drew → wpAnyZ P .any ops Q S z ops.size (Array.replicate ops.size false) a w.drew) : (Code.region id ops true).wp P Q a w :=
  wp_region_any hm (wpAny_of_Z _ _ _ _ (h hS))
end
end Go.Proofs.YtbbelhkdpmcoeaaGreat
/- Two views side by side, a view over a view: a base of pairs that is held block by block; a view as a base; what a view over a view tells (mathematics). -/
namespace Go.Proofs.YtbbelhkdpmcoeaaGreat
set_option linter.unusedVariables false
set_option maxRecDepth 100000
open Go.RowKit

set_option maxHeartbeats 1000000 in
/-- NewPlain, with its row its own. -/
theorem newPlainO_calls (w : World) (u : Value) (l : List Pa) (h : Sl encP w u l) (hl : l.length ≤ 10000) :
    Calls Tryz.prog 6 #[u] w fun e w' => ∃ p v m, e = .returned (.pointer (some ⟨p, 0, none⟩)) ∧ w'.heap[p]? = some (.cells #[v] 65 (0, 0)) ∧ Own encP 31 w' w.heap.size v m ∧ MapIs l m ∧ m.length ≤ l.length ∧ w.heap.size ≤ p ∧ Below w.heap.size w w' := by
  have hM := map_calls w u l h hl
  clear h
  go_enter Tryz.func6, Tryz.ntmps6
  go_wp2_with (first
    | (go_at_call 22; refine hM.mono ?_; clear hM; rintro e w1 ⟨v, m, rfl, h1, i1, l1, b1⟩
       have s1 := h1.slB
       obtain ⟨ad, cap, rfl, hcap, hmax, -, -⟩ := id s1))
  go_ret
  have BX : Below w1.heap.size w1 (w1.alloc (.cells #[.slice ad m.length cap] 65)) := (Below.refl _ w1).alloc (Nat.le_refl _) _
  exact ⟨_, _, m, rfl, heap_alloc_new _ _, h1.below BX, i1, l1, b1.size, b1.trans (BX.mono b1.size)⟩
/-- A base of pairs, block by block. -/
structure PlC (lim : Nat) (w : World) (p : Nat) (v : Value) (L : List Pa) (base : Nat) : Prop where
  blk : w.heap[p]? = some (.cells #[v] 65 (0, 0))
  own : Own encP 31 w base v L
  asc : Asc Pa.n L
  lo : p < lim
  lov : ∀ g, v.ownBlock = some g → g < lim
  le : lim ≤ w.heap.size
theorem PlC.kept {lim : Nat} {w w' : World} {p : Nat} {v : Value} {L : List Pa} {base : Nat} (h : PlC lim w p v L base) (hs : w.heap.size ≤ w'.heap.size) (hk : ∀ i, i = p ∨ v.ownBlock = some i → w'.heap[i]? = w.heap[i]?) : PlC lim w' p v L base :=
  ⟨(hk p (.inl rfl)).trans h.blk, h.own.same fun g hg => hk g (.inr hg), h.asc, h.lo, h.lov, Nat.le_trans h.le hs⟩
theorem PlC.mono {lim : Nat} {w w' : World} {p : Nat} {v : Value} {L : List Pa} {base : Nat} (h : PlC lim w p v L base) (b : Below lim w w') : PlC lim w' p v L base :=
  h.kept b.size fun i hi => b.block i (hi.elim (fun e => e ▸ h.lo) (h.lov i))
theorem PlC.inn {lim : Nat} {w : World} {p : Nat} {v : Value} {L : List Pa} {base : Nat} (h : PlC lim w p v L base) : PlIn w p v L := ⟨h.blk, h.own.slB, h.asc⟩
theorem PlC.of {w : World} {p : Nat} {v : Value} {L : List Pa} {base : Nat} (h1 : w.heap[p]? = some (.cells #[v] 65 (0, 0))) (h2 : Own encP 31 w base v L) (h3 : Asc Pa.n L) : PlC w.heap.size w p v L base :=
  ⟨h1, h2, h3, lt_of_block h1, fun g hg => (h2.lt g hg).2, Nat.le_refl _⟩
theorem plainC_base (lim p : Nat) (v : Value) (L : List Pa) (base : Nat) (hl : L.length ≤ 5000) : Baser lim noB (fun _ w => PlC lim w p v L base) (.iface 26 (.pointer (some ⟨p, 0, none⟩))) (plGe L) (fun s => (scanL s L, 0)) where
  get := ⟨147, _, plain_methG p, fun k w K h => (pget_calls w p v L K h.inn (by omega)).mono fun e w' q => ⟨by rw [plGe_v]; exact q.1, h.mono (q.2.mono h.le), frv_no q.2⟩⟩
  scan := ⟨148, _, plain_methS p, fun k w s h => (pscan_calls w p v L s h.inn (by omega)).mono fun e w' q => by
    obtain ⟨u, e1, o1, b1⟩ := q
    exact ⟨u, e1, o1.slB, h.mono (b1.mono h.le), frv_no b1⟩⟩
  mono := fun k w w' h b => h.mono b
  down := fun k w h => h
  low := fun i h => h.elim
  size := fun k w h => h.le
  len := fun s => Nat.le_trans (scanL_len s L) hl
  ifc := ⟨_, _, rfl⟩

/-! A view as a base. -/
theorem view_methG (p : Nat) : Meth (.iface 32 (.pointer (some ⟨p, 0, none⟩))) "Get" 20 (.pointer (some ⟨p, 0, none⟩)) := fun w args => by
  exact meth_of (P := Tryz.prog) (fun w => by kernel_rfl) (fun args w => callFunc_go Tryz.func20 (by kernel_rfl) (by rfl) args w) w args
theorem view_methS (p : Nat) : Meth (.iface 32 (.pointer (some ⟨p, 0, none⟩))) "Scan" 18 (.pointer (some ⟨p, 0, none⟩)) := fun w args => by
  exact meth_of (P := Tryz.prog) (fun w => by kernel_rfl) (fun args w => callFunc_go Tryz.func18 (by kernel_rfl) (by rfl) args w) w args
section
variable {lim : Nat} {S : Nat → Prop} {I : Nat → World → Prop} {iv : Value} {ge : Kz → List UInt8 × Bool × Int} {sn : Sp → List Pa × Int}
/-- A view that may be asked K times, and has been asked some: what was read has grown. -/
def ViI (w0 : World) (lim : Nat) (I : Nat → World → Prop) (iv : Value) (q : Nat) (x : VR) (V : VS) (K lim' k : Nat) (w : World) : Prop :=
  k ≤ K ∧ lim' ≤ w.heap.size ∧ ∃ R, VAt w0 lim I k iv q { x with n := x.n + (K - k) } { V with R := R } w
theorem getW_R (V : VS) (R : List Sp) (J : Kz) : ∃ R', getW { V with R := R } J = { V with R := R' } := by
  unfold getW
  split
  · exact ⟨R, rfl⟩
  · exact ⟨_, rfl⟩
theorem view_base (D : Baser lim S I iv ge sn) (w0 : World) (q : Nat) (x : VR) (V : VS) (K lim' : Nat) (hK : x.n + K ≤ 5000) (hS : ∀ i, S i → w0.heap.size ≤ i) (hl : lim ≤ lim') (hx : ∀ i, x.own q i → i < lim') (hlen : ∀ s, (scanV V.C sn s).1.length ≤ 5000) :
    Baser lim' (fun i => x.own q i ∨ S i) (ViI w0 lim I iv q x V K lim') (.iface 32 (.pointer (some ⟨q, 0, none⟩))) (getV V.C ge) (scanV V.C sn) where
  get := ⟨20, _, view_methG q, fun k w J h => by
    obtain ⟨hk, hle, R, A⟩ := h
    refine (VAt.get D A hS (show x.n + (K - (k + 1)) ≤ 100000 by omega) J).mono fun e w' t => ?_
    obtain ⟨e1, t⟩ := t
    obtain ⟨R', hR'⟩ := getW_R V R J
    have ha := t.at_
    rw [hR'] at ha
    have en : x.n + (K - (k + 1)) + 1 = x.n + (K - k) := by omega
    have ha' : VAt w0 lim I k iv q { x with n := x.n + (K - (k + 1)) + 1 } { V with R := R' } w' := ha
    rw [en] at ha'
    exact ⟨e1, ⟨by omega, Nat.le_trans hle t.fr.size, R', ha'⟩, t.fr⟩⟩
  scan := ⟨18, _, view_methS q, fun k w s h => by
    obtain ⟨hk, hle, R, A⟩ := h
    refine (VAt.scan D A hS (show x.n + (K - (k + 1)) ≤ 5000 by omega) s).mono fun e w' t => ?_
    obtain ⟨ad, cap, e1, o1, t⟩ := t
    have ha := t.at_
    have en : x.n + (K - (k + 1)) + 1 = x.n + (K - k) := by omega
    have ha' : VAt w0 lim I k iv q { x with n := x.n + (K - (k + 1)) + 1 } { V with R := R ++ [s] } w' := ha
    rw [en] at ha'
    exact ⟨_, e1, o1.slB, ⟨by omega, Nat.le_trans hle t.fr.size, _, ha'⟩, t.fr⟩⟩
  mono := fun k w w' h b => by
    obtain ⟨hk, hle, R, A⟩ := h
    exact ⟨hk, Nat.le_trans hle b.size, R, A.vw.kept (fun i hi => b.block i (hx i hi)), D.mono _ _ _ A.base (b.mono hl), A.own, A.bel.trans (b.mono (Nat.le_trans A.le hl)), A.le, Nat.le_trans A.limy b.size⟩
  down := fun k w h => by
    obtain ⟨hk, hle, R, A⟩ := h
    exact ⟨by omega, hle, R, A.vw.up (x.n + (K - k)) (show x.n + (K - (k + 1)) ≤ x.n + (K - k) by omega), D.down _ _ A.base, A.own, A.bel, A.le, A.limy⟩
  low := fun i h => h.elim (hx i) (fun e => Nat.lt_of_lt_of_le (D.low i e) hl)
  size := fun k w h => h.2.1
  len := hlen
  ifc := ⟨_, _, rfl⟩
theorem ViI.start {w0 : World} {q : Nat} {x : VR} {V : VS} {K lim' : Nat} {w : World} (h : VAt w0 lim I K iv q x V w) (hl : lim' ≤ w.heap.size) : ViI w0 lim I iv q x V K lim' K w := by
  refine ⟨Nat.le_refl _, hl, V.R, ?_⟩
  rw [Nat.sub_self]
  exact h
/-- A view beside what was changed. -/
theorem VAt.aside {w0 y y' : World} {k q : Nat} {x : VR} {V : VS} {T : Nat → Prop} (h : VAt w0 lim I k iv q x V y) (f : FrV T y y') (hT : ∀ i, T i → w0.heap.size ≤ i ∧ ¬ x.own q i) (hI : I k y') : VAt w0 lim I k iv q x V y' :=
  ⟨h.vw.kept (fun i hi => f.block i (h.vw.lt hi) (fun e => (hT i e).2 hi)), hI, h.own, h.bel.trans (f.below (fun i e => (hT i e).1) (Nat.le_trans h.le h.limy)), h.le, Nat.le_trans h.limy f.size⟩
theorem ViI.aside {w0 y y' : World} {K lim' k q : Nat} {x : VR} {V : VS} {T : Nat → Prop} (h : ViI w0 lim I iv q x V K lim' k y) (f : FrV T y y') (hT : ∀ i, T i → w0.heap.size ≤ i ∧ ¬ x.own q i) (hI : I k y → I k y') : ViI w0 lim I iv q x V K lim' k y' := by
  obtain ⟨hk, hle, R, A⟩ := h
  exact ⟨hk, Nat.le_trans hle f.size, R, A.aside f hT (hI A.base)⟩
end

/-! What a view over a view tells. -/
/-- C3 is C1 with C2 over it. -/
structure OverIs (C1 C2 C3 : List Ch) : Prop where
  a1 : Asc Ch.n C1
  a2 : Asc Ch.n C2
  a3 : Asc Ch.n C3
  is : ∀ x, look Ch.n C3 x = (look Ch.n C2 x).or (look Ch.n C1 x)
theorem OverIs.start {C : List Ch} (h : Asc Ch.n C) : OverIs C [] C := ⟨h, List.Pairwise.nil, h, fun _ => rfl⟩
theorem OverIs.change {C1 C2 C3 : List Ch} (h : OverIs C1 C2 C3) (c : Ch) : OverIs C1 (putA Ch.n C2 c) (putA Ch.n C3 c) :=
  ⟨h.a1, putA_asc Ch.n c h.a2, putA_asc Ch.n c h.a3, fun x => by
    rw [putA_look Ch.n c x h.a2, putA_look Ch.n c x h.a3, h.is x]
    split <;> rfl⟩
theorem OverIs.doV {C1 : List Ch} {V2 V3 : VS} (h : OverIs C1 V2.C V3.C) (o : Vo) : OverIs C1 (doV V2 o).C (doV V3 o).C := by
  unfold Go.Proofs.YtbbelhkdpmcoeaaGreat.doV
  split
  · split
    · exact h.change _
    · exact h
  · exact h.change _
theorem OverIs.steps {C1 : List Ch} (ops : List Vo) {V2 V3 : VS} (h : OverIs C1 V2.C V3.C) : OverIs C1 (ops.foldl Go.Proofs.YtbbelhkdpmcoeaaGreat.doV V2).C (ops.foldl Go.Proofs.YtbbelhkdpmcoeaaGreat.doV V3).C := by
  induction ops generalizing V2 V3 with
  | nil => exact h
  | cons o r ih => exact ih (h.doV o)
theorem scan_over {C1 C2 C3 : List Ch} (h : OverIs C1 C2 C3) (m : List Pa) (s : Sp) : scanV C2 (scanV C1 (fun s => (scanL s m, 0))) s = scanV C3 (fun s => (scanL s m, 0)) s := by
  have e1 : scanV C1 (fun s => (scanL s m, 0)) s = (applyL (scanL s m) (inL C1 s), 0) := rfl
  have e3 : scanV C3 (fun s => (scanL s m, 0)) s = (applyL (scanL s m) (inL C3 s), 0) := rfl
  have e2 : scanV C2 (scanV C1 (fun s => (scanL s m, 0))) s = (applyL (scanV C1 (fun s => (scanL s m, 0)) s).1 (inL C2 s), 0) := rfl
  rw [e2, e3, e1]
  refine congrArg (·, (0 : Int)) (asc_ext Pa.n (applyL_is _ _).1 (applyL_is _ _).1 fun x => ?_)
  rw [(applyL_is _ _).2, (applyL_is _ _).2, (applyL_is _ _).last, lastA_asc Ch.n (inL_asc h.a2 s), lastA_asc Ch.n (inL_asc h.a3 s), lastA_asc Ch.n (inL_asc h.a1 s), look_filter, look_filter, look_filter, h.is x]
  by_cases hb : s.inb x = true
  · rw [if_pos hb, if_pos hb, if_pos hb]
    cases look Ch.n C2 x <;> rfl
  · rw [if_neg hb, if_neg hb, if_neg hb]
    rfl
theorem applyL_len (l : List Pa) (c : List Ch) : (applyL l c).length ≤ l.length + c.length := by
  have h1 : ∀ (l m : List Pa), (l.foldl (putA Pa.n) m).length ≤ m.length + l.length := by
    intro l
    induction l with
    | nil => intro m; exact Nat.le_refl _
    | cons a r ih =>
      intro m
      rw [List.foldl_cons, List.length_cons]
      have := ih (putA Pa.n m a)
      have := putA_len Pa.n m a
      omega
  have h2 : ∀ (c : List Ch) (m : List Pa), (c.foldl stepA m).length ≤ m.length + c.length := by
    intro c
    induction c with
    | nil => intro m; exact Nat.le_refl _
    | cons a r ih =>
      intro m
      rw [List.foldl_cons, List.length_cons]
      have := ih (stepA m a)
      have : (stepA m a).length ≤ m.length + 1 := by
        unfold stepA
        split
        · have := delA_len Pa.n m a.n
          omega
        · exact putA_len Pa.n m a.pa
      omega
  have := h2 c (l.foldl (putA Pa.n) [])
  have := h1 l []
  simp only [List.length_nil] at this
  unfold applyL
  omega
theorem scanV_len (C : List Ch) (m : List Pa) (hm : m.length ≤ 100) (hC : C.length ≤ 100) (s : Sp) : (scanV C (fun s => (scanL s m, 0)) s).1.length ≤ 5000 := by
  have e1 : scanV C (fun s => (scanL s m, 0)) s = (applyL (scanL s m) (inL C s), 0) := rfl
  rw [e1]
  have := applyL_len (scanL s m) (inL C s)
  have := scanL_len s m
  have : (inL C s).length ≤ C.length := List.length_filter_le _ _
  show (applyL (scanL s m) (inL C s)).length ≤ 5000
  omega
end Go.Proofs.YtbbelhkdpmcoeaaGreat
/- The marks of the document's View as a row of slices; an empty slice literal; the document's View beside what is written elsewhere. -/
namespace Go.Proofs.YtbbelhkdpmcoeaaGreat
set_option linter.unusedVariables false
set_option maxRecDepth 100000
open Go.RowKit

/-- A slice as an element. -/
abbrev SV := Option Addr × Nat × Nat
def SV.v (x : SV) : Value := .slice x.1 x.2.1 x.2.2
def encY : Enc SV 1 := ⟨fun x => [x.v], fun _ => rfl, fun x v hv => by rw [List.mem_singleton] at hv; subst hv; rfl⟩
theorem rowY : RowTy Tryz.prog encY 39 37 24 := ⟨Tryz.underlying39, ⟨.slice none 0 0, by kernel_rfl, by rfl⟩, by decide⟩
theorem sv_of {α : Type} {k : Nat} {E : Enc α k} {w : World} {B : Nat} {v : Value} {l : List α} (h : SlB E w B v l) : ∃ x : SV, x.v = v := by
  obtain ⟨ad, cap, rfl, -⟩ := h
  exact ⟨(ad, l.length, cap), rfl⟩
/-- The marks: a slice of slices of changes. -/
structure MvIn (w : World) (mv : Value) (l : List SV) (M : List (Value × List Ch)) : Prop where
  sl : Sl encY w mv l
  eq : l.map SV.v = M.map (·.1)
  each : ∀ e ∈ M, Sl encC w e.1 e.2
theorem MvIn.slS {w : World} {mv : Value} {l : List SV} {M : List (Value × List Ch)} (h : MvIn w mv l M) : SlS w w.heap.size mv M := by
  have hl : l.length = M.length := by have := congrArg List.length h.eq; simpa using this
  obtain ⟨ad, cap, e1, e2, e3, -, e5⟩ := h.sl
  refine ⟨⟨ad, cap, by rw [e1, hl], by omega, by omega, ?_⟩, h.each⟩
  rcases e5 with e5 | ⟨g, off, a1, a2, a3⟩
  · subst e5
    exact .inl (List.eq_nil_of_length_eq_zero (by simpa using hl.symm))
  · refine .inr ⟨g, off, a1, a2, fun i hi => ?_⟩
    have hi' : i < l.length := by omega
    have h0 := a3 i hi' 0 (l[i]).v rfl
    have he : (l[i]).v = (M[i]).1 := by
      have := congrArg (fun z => z[i]?) h.eq
      simp only [List.getElem?_map, List.getElem?_eq_getElem hi', List.getElem?_eq_getElem hi, Option.map_some, Option.some.injEq] at this
      exact this
    rw [← he]
    simpa using h0
theorem MvIn.called {w w' : World} {mv : Value} {l : List SV} {M : List (Value × List Ch)} (h : MvIn w mv l M) (b : Below w.heap.size w w') : MvIn w' mv l M := ⟨h.sl.called b, h.eq, fun e he => (h.each e he).called b⟩
theorem MvIn.nil (w : World) : MvIn w (.slice none 0 0) [] [] := ⟨SlB.nil _ _ _, rfl, fun e he => by cases he⟩

section
variable {α : Type} {k : Nat} {E : Enc α k} {P : Program} {ts te : TypeId} {bytes : Nat} {o : Oper} {a : Act} {w : World} {K : Act → World → Prop} {Q : Exit → Act → World → Prop}
/-- []T{}. -/
theorem wp_build_none (R : RowTy P E ts te bytes) (ho : o.op = .buildSlice ts 0 #[])
    (h : ∀ w', Own E te w' w.heap.size (.slice (some ⟨w.heap.size, 0, none⟩) 0 0) [] → Below w.heap.size w w' → w'.heap.size = w.heap.size + 1 → K (a.put o.dst (.slice (some ⟨w.heap.size, 0, none⟩) 0 0)) w') : o.wp P a w K Q := by
  obtain ⟨i, z, hi, hz, hsz, hby, hzc⟩ := R.parts
  have hr : (Instr.buildSlice ts 0 #[]).run P w = .ok (.slice (some ⟨w.heap.size, 0, none⟩) 0 0) (w.alloc (.cells #[] te)) := by
    simp [Instr.buildSlice, run_underlying R.under, sizeOf, typeInfo, hi, newRow, Instr.fill]
    exact congrArg (fun c => w.alloc (Obj.cells c te)) (Array.eq_empty_of_size_eq_zero (by simp))
  unfold Oper.wp execOp
  simp only [ho, Sem.run_bind, Result.andThen_ok, List.map_toArray, List.map_nil, hr]
  exact h _ (World.ownsRow_made (base := w.heap.size) (e := te) (size := k) w #[] 0 (Nat.le_refl _) (by unfold maxLen; omega) (by simp)) ((Below.refl _ w).alloc (Nat.le_refl _) _) (by simp)
end

/-! Beside what is written elsewhere. -/
theorem own_of {ad : Option Addr} {g off n cap : Nat} {q} (h : ad = some ⟨g, off, q⟩) : Value.ownBlock (.slice ad n cap) = some g := by subst h; rfl
theorem SlB.aside {α : Type} {k : Nat} {E : Enc α k} {w w' : World} {S : Nat → Prop} {v : Value} {l : List α} (h : Sl E w v l) (f : FrV S w w') (hv : l ≠ [] → ∀ g, v.ownBlock = some g → ¬ S g) : Sl E w' v l := by
  obtain ⟨ad, cap, rfl, h2, h3, h4, h5⟩ := h
  refine ⟨ad, cap, rfl, h2, h3, h4, ?_⟩
  rcases h5 with h5 | ⟨g, off, e, hg, hr⟩
  · exact .inl h5
  · by_cases hl : l = []
    · exact .inl hl
    · exact .inr ⟨g, off, e, Nat.lt_of_lt_of_le hg f.size, fun i hi => range_same' (hr i hi) (f.block g hg (hv hl g (own_of e)))⟩
theorem SlB.ltB {α : Type} {k : Nat} {E : Enc α k} {w : World} {B : Nat} {v : Value} {l : List α} (h : SlB E w B v l) (hl : l ≠ []) : ∀ g, v.ownBlock = some g → g < B := fun g hg => by
  obtain ⟨ad, cap, rfl, h2, h3, h4, h5⟩ := h
  rcases h5 with h5 | ⟨g', off, e, hg', hr⟩
  · exact absurd h5 hl
  · rw [own_of e] at hg
    cases hg
    exact hg'
/-- None of the document's View's blocks is in S. -/
structure RvOff (S : Nat → Prop) (p : Nat) (bv cv rv mv : Value) (B : List Pa) (C : List Ch) (R : List Sp) (M : List (Value × List Ch)) : Prop where
  p : ¬ S p
  b : B ≠ [] → ∀ g, bv.ownBlock = some g → ¬ S g
  c : C ≠ [] → ∀ g, cv.ownBlock = some g → ¬ S g
  r : R ≠ [] → ∀ g, rv.ownBlock = some g → ¬ S g
  m : M ≠ [] → ∀ g, mv.ownBlock = some g → ¬ S g
  e : ∀ e ∈ M, e.2 ≠ [] → ∀ g, e.1.ownBlock = some g → ¬ S g
theorem RvIn.aside {w w' : World} {p : Nat} {bv cv rv mv : Value} {B : List Pa} {C : List Ch} {R : List Sp} {M : List (Value × List Ch)} {S : Nat → Prop} (h : RvIn w p bv cv rv mv B C R M) (f : FrV S w w') (o : RvOff S p bv cv rv mv B C R M) : RvIn w' p bv cv rv mv B C R M := by
  refine ⟨(f.block p h.lt o.p).trans h.blk, SlB.aside h.b f o.b, SlB.aside h.c f o.c, SlB.aside h.r f o.r, ?_⟩
  obtain ⟨ad, cap, e1, e2, e3, e4⟩ := h.m.out
  refine ⟨⟨ad, cap, e1, e2, e3, ?_⟩, fun e he => SlB.aside (h.m.each e he) f (o.e e he)⟩
  by_cases hM : M = []
  · exact .inl hM
  · rcases e4 with q | q
    · exact absurd q hM
    · obtain ⟨g, off, a1, a2, a3⟩ := q
      exact .inr ⟨g, off, a1, Nat.lt_of_lt_of_le a2 f.size, fun i hi => (World.cell?_of_block (f.block g a2 (o.m hM g (by rw [e1]; exact own_of a1)))).trans (a3 i hi)⟩
theorem MvIn.nils {w : World} {mv : Value} {l : List SV} {M : List (Value × List Ch)} (h : MvIn w mv l M) : l ≠ [] → M ≠ [] := fun hl e => hl (by
  have := congrArg List.length h.eq
  rw [e] at this
  exact List.eq_nil_of_length_eq_zero (by simpa using this))
theorem MvIn.aside {w w' : World} {mv : Value} {l : List SV} {M : List (Value × List Ch)} {S : Nat → Prop} (h : MvIn w mv l M) (f : FrV S w w') (hm : M ≠ [] → ∀ g, mv.ownBlock = some g → ¬ S g) (he : ∀ e ∈ M, e.2 ≠ [] → ∀ g, e.1.ownBlock = some g → ¬ S g) : MvIn w' mv l M :=
  ⟨SlB.aside h.sl f (fun hl => hm (h.nils hl)), h.eq, fun e hM => SlB.aside (h.each e hM) f (he e hM)⟩
/-- They lie below the heap's size. -/
theorem RvIn.lts {w : World} {p : Nat} {bv cv rv mv : Value} {B : List Pa} {C : List Ch} {R : List Sp} {M : List (Value × List Ch)} {l : List SV} (h : RvIn w p bv cv rv mv B C R M) (hm : MvIn w mv l M) : RvOff (fun i => w.heap.size ≤ i) p bv cv rv mv B C R M :=
  ⟨Nat.not_le_of_lt h.lt, fun q g hg => Nat.not_le_of_lt (SlB.ltB h.b q g hg), fun q g hg => Nat.not_le_of_lt (SlB.ltB h.c q g hg), fun q g hg => Nat.not_le_of_lt (SlB.ltB h.r q g hg), fun q g hg => Nat.not_le_of_lt (SlB.ltB hm.sl (fun e => q (by
    have := congrArg List.length hm.eq
    rw [e] at this
    exact List.eq_nil_of_length_eq_zero (by simpa using this.symm))) g hg), fun e he q g hg => Nat.not_le_of_lt (SlB.ltB (hm.each e he) q g hg)⟩
theorem RvOff.both {S T U : Nat → Prop} {p : Nat} {bv cv rv mv : Value} {B : List Pa} {C : List Ch} {R : List Sp} {M : List (Value × List Ch)} (h : RvOff S p bv cv rv mv B C R M) (k : RvOff T p bv cv rv mv B C R M) (hU : ∀ i, U i → S i ∨ T i) : RvOff U p bv cv rv mv B C R M :=
  ⟨fun e => (hU _ e).elim h.p k.p, fun q g hg e => (hU _ e).elim (h.b q g hg) (k.b q g hg), fun q g hg e => (hU _ e).elim (h.c q g hg) (k.c q g hg), fun q g hg e => (hU _ e).elim (h.r q g hg) (k.r q g hg), fun q g hg e => (hU _ e).elim (h.m q g hg) (k.m q g hg), fun x hx q g hg e => (hU _ e).elim (h.e x hx q g hg) (k.e x hx q g hg)⟩
end Go.Proofs.YtbbelhkdpmcoeaaGreat
