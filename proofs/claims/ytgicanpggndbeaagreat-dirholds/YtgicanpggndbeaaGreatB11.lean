import Derived.Test.YtgicanpggndbeaaGreatSi
import Derived.Test.YtgicanpggndbeaaGreatB01
import Derived.Deep.RegionHeld
import Derived.Test.YtgicanpggndbeaaGreatB04
import Derived.Test.YtgicanpggndbeaaGreatB06
import Derived.Test.YtgicanpggndbeaaGreatB10
import Derived.Test.YtgicanpggndbeaaGreatSi
import Derived.Test.YtgicanpggndbeaaGreatChecked
import Derived.Defers
import Derived.Recover
/- A drawn region whose last writer (number z) writes what its loads have read: the held condition is asked for until z has come up. -/
namespace Go.Proofs.YtgicanpggndbeaaGreat
set_option linter.unusedVariables false
set_option maxRecDepth 100000
open Go

section
variable {P : Program} {ops : Array Oper} {Q : Exit → Act → World → Prop} {md : Region.Mode} {S : World → Prop} {z : Nat}

/-- Whatever order is picked from here on, and S holds behind every operation that is carried out before number z. -/
def wpAnyZ (P : Program) (md : Region.Mode) (ops : Array Oper) (Q : Exit → Act → World → Prop) (S : World → Prop) (z : Nat) : Nat → Array Bool → Act → World → Prop
  | 0, listed, a, w => Region.ready md ops listed = [] ∧ Q .normal a w
  | fuel + 1, listed, a, w =>
    (Region.ready md ops listed = [] → Q .normal a w) ∧
    ∀ i ∈ Region.ready md ops listed, wpOp P ops Q i (fun a' w' => ((listed.setIfInBounds i true).getD z false = false → S w') ∧ wpAnyZ P md ops Q S z fuel (listed.setIfInBounds i true) a' w') a w
theorem wpAny_of_Z : ∀ (fuel : Nat) (listed : Array Bool) (a : Act) (w : World), wpAnyZ P md ops Q S z fuel listed a w → wpAny P md ops Q fuel listed a w
  | 0, _, _, _, h => h
  | fuel + 1, _, _, _, h => ⟨fun e => h.1 e, fun i hi => wpOp_mono (fun a' w' h' => wpAny_of_Z fuel _ a' w' h'.2) (h.2 i hi)⟩
/-- Those in D wait for number i, one behind the other; z is one of them. -/
def waits (md : Region.Mode) (ops : Array Oper) (listed : Array Bool) (i z : Nat) (D : List Nat) : Bool :=
  D.contains z && !D.contains i && D.all fun d => !listed.getD d false && match ops[d]? with
    | none => false
    | some o => o.after.any fun e => Region.binds md e && (e.on == i || D.contains e.on)
/-- The same, as a proposition that each step keeps. -/
structure Waits (md : Region.Mode) (ops : Array Oper) (listed : Array Bool) (i z : Nat) (D : List Nat) : Prop where
  hz : z ∈ D
  hi : i ∉ D
  un : ∀ d ∈ D, listed.getD d false = false
  on : ∀ d ∈ D, ∀ o, ops[d]? = some o → ∃ e ∈ o.after, Region.binds md e = true ∧ (e.on = i ∨ e.on ∈ D)
theorem waits_spec {listed : Array Bool} {i : Nat} {D : List Nat} (h : waits md ops listed i z D = true) : Waits md ops listed i z D := by
  simp only [waits, Bool.and_eq_true, List.contains_iff_mem, Bool.not_eq_true', List.all_eq_true] at h
  obtain ⟨⟨h1, h2⟩, h3⟩ := h
  refine ⟨h1, fun q => ?_, fun d hd => (h3 d hd).1, fun d hd o ho => ?_⟩
  · have := List.contains_iff_mem.2 q
    rw [this] at h2
    cases h2
  · have h4 := (h3 d hd).2
    rw [ho] at h4
    obtain ⟨e, he, hb⟩ := Array.any_eq_true'.1 h4
    simp only [Bool.and_eq_true, Bool.or_eq_true, beq_iff_eq, List.contains_iff_mem] at hb
    exact ⟨e, he, hb.1, hb.2⟩
theorem Waits.notReady {listed : Array Bool} {i j : Nat} {D : List Nat} (h : Waits md ops listed i z D) (hi : listed.getD i false = false) (hj : j ∈ Region.ready md ops listed) : j ∉ D := fun hd => by
  obtain ⟨-, o, ho, hall⟩ := mem_ready.1 hj
  obtain ⟨e, he, hb, q⟩ := h.on j hd o ho
  have h1 := hall e he hb
  rcases q with q | q
  · rw [q, hi] at h1
    cases h1
  · rw [h.un _ q] at h1
    cases h1
theorem getD_ff {listed : Array Bool} {i : Nat} (h : listed.getD i true = false) : listed.getD i false = false := by
  rcases Nat.lt_or_ge i listed.size with h' | h'
  · simpa [h'] using h
  · simp [h']
theorem Waits.step {listed : Array Bool} {i j : Nat} {D : List Nat} (h : Waits md ops listed i z D) (hj : j ∉ D) : Waits md ops (listed.setIfInBounds j true) i z D :=
  ⟨h.hz, h.hi, fun d hd => by
    have hne : j ≠ d := by rintro rfl; exact hj hd
    rw [getD_set_ne false hne]; exact h.un d hd, h.on⟩
/-- An operation that may come up now, and yields its value in every world that meets S, may be taken first, if z waits for it. -/
theorem wpAnyZ_first {i : Nat} {oi : Oper} {v : Value} {D : List Nat} (hi : ops[i]? = some oi) (hsel : ∀ (j : Nat) (o : Oper) cs b, ops[j]? = some o → o.op ≠ .select cs b)
    (hQ : ∀ c a w, Q (.panic c) (a.put oi.dst v) w → Q (.panic c) a w) :
    ∀ (fuel : Nat) (listed : Array Bool) (a : Act) (w : World),
      (∀ j oj, ops[j]? = some oj → j ≠ i → listed.getD j true = false → (∀ e ∈ oj.after, Region.binds md e = true → e.on ≠ i) → oi.apart ops oj = true) →
      i ∈ Region.ready md ops listed → Waits md ops listed i z D → YieldsIf P ops S oi v a → S w →
      wpAnyZ P md ops Q S z fuel (listed.setIfInBounds i true) (a.put oi.dst v) w → wpAnyZ P md ops Q S z (fuel + 1) listed a w := by
  intro fuel
  induction fuel with
  | zero =>
    intro listed a w _ hr hd hy hS H
    refine ⟨fun h => (by rw [h] at hr; cases hr), fun j hj => ?_⟩
    by_cases hji : j = i
    · subst hji; exact hy.wpOp hi hS ⟨fun _ => hS, H⟩
    · have := ready_mono hj hji
      rw [H.1] at this
      cases this
  | succ fuel ih =>
    intro listed a w hfree hr hd hy hS H
    refine ⟨fun h => (by rw [h] at hr; cases hr), fun j hj => ?_⟩
    by_cases hji : j = i
    · subst hji; exact hy.wpOp hi hS ⟨fun _ => hS, H⟩
    · have h1 := H.2 j (ready_mono hj hji)
      obtain ⟨hjun, oj, hoj, hall⟩ := mem_ready.1 hj
      have hjD : j ∉ D := hd.notReady (getD_ff (mem_ready.1 hr).1) hj
      have hnot : ∀ e ∈ oj.after, Region.binds md e = true → e.on ≠ i := fun e he hb heq => by
        have h1 := hall e he hb
        have h0 := (mem_ready.1 hr).1
        rw [heq] at h1
        rcases Nat.lt_or_ge i listed.size with h' | h'
        · simp [h'] at h0 h1; rw [h0] at h1; cases h1
        · simp [Array.getElem?_eq_none h'] at h1
      have h2 := wpOp_putIf hoj (hfree j oj hoj hji hjun hnot) (fun cs b => hsel i oi cs b hi) (fun cs b => hsel j oj cs b hoj) hQ hy h1
      have hfree' : ∀ k ok, ops[k]? = some ok → k ≠ i → (listed.setIfInBounds j true).getD k true = false →
          (∀ e ∈ ok.after, Region.binds md e = true → e.on ≠ i) → oi.apart ops ok = true := fun k ok hk hki hun hno => by
        refine hfree k ok hk hki ?_ hno
        by_cases hjk : j = k
        · subst hjk; exact hjun
        · rw [getD_set_ne true hjk] at hun; exact hun
      have hdj := hd.step (j := j) hjD
      have hzz : ((listed.setIfInBounds i true).setIfInBounds j true).getD z false = false := by
        have n1 : j ≠ z := by rintro rfl; exact hjD hd.hz
        have n2 : i ≠ z := by rintro rfl; exact hd.hi hd.hz
        rw [getD_set_ne false n1, getD_set_ne false n2]
        exact hd.un z hd.hz
      refine wpOp_mono (fun a' w' h3 => ⟨fun _ => h3.2.1 hzz, ih (listed.setIfInBounds j true) a' w' hfree' (ready_mono hr (Ne.symm hji)) hdj h3.1 (h3.2.1 hzz) ?_⟩) h2
      rw [Array.setIfInBounds_comm _ _ hji]
      exact h3.2.2
/-- Take number i first. -/
theorem wpAnyZ_take {i : Nat} {oi : Oper} {v : Value} {fuel : Nat} {listed : Array Bool} {a : Act} {w : World} (D : List Nat) (hi : ops[i]? = some oi)
    (hs : Region.noSelect ops = true) (hf : Region.free md ops listed i = true) (hr : (Region.ready md ops listed).contains i = true) (hd : waits md ops listed i z D = true)
    (hQ : ∀ c a w, Q (.panic c) (a.put oi.dst v) w → Q (.panic c) a w) (hy : YieldsIf P ops S oi v a) (hS : S w)
    (h : wpAnyZ P md ops Q S z fuel (listed.setIfInBounds i true) (a.put oi.dst v) w) : wpAnyZ P md ops Q S z (fuel + 1) listed a w :=
  wpAnyZ_first hi (Region.noSelect_spec hs) hQ fuel listed a w (Region.free_spec hi hf) (by simpa using hr) (waits_spec hd) hy hS h
/-- All have come up. -/
theorem wpAnyZ_done {listed : Array Bool} {a : Act} {w : World} (hr : Region.ready md ops listed = []) (h : Q .normal a w) : ∀ fuel, wpAnyZ P md ops Q S z fuel listed a w
  | 0 => ⟨hr, h⟩
  | _ + 1 => ⟨fun _ => h, by rw [hr]; simp⟩
/-- Each of the operations rs comes up next. -/
def AllReadyZ (P : Program) (md : Region.Mode) (ops : Array Oper) (Q : Exit → Act → World → Prop) (S : World → Prop) (z fuel : Nat) (listed : Array Bool) (a : Act) (w : World) (rs : List Nat) : Prop :=
  ∀ i ∈ rs, wpOp P ops Q i (fun a' w' => ((listed.setIfInBounds i true).getD z false = false → S w') ∧ wpAnyZ P md ops Q S z fuel (listed.setIfInBounds i true) a' w') a w
theorem AllReadyZ.nil {fuel : Nat} {listed : Array Bool} {a : Act} {w : World} : AllReadyZ P md ops Q S z fuel listed a w [] := fun _ h => by cases h
theorem AllReadyZ.cons {fuel : Nat} {listed : Array Bool} {a : Act} {w : World} {i : Nat} {o : Oper} {rs : List Nat} (ho : ops[i]? = some o)
    (h : ∀ K' : Act → World → Prop, Shut (∀ a w, ((listed.setIfInBounds i true).getD z false = false → S w) → wpAnyZ P md ops Q S z fuel (listed.setIfInBounds i true) a w → K' a w) → if Region.wanted o (yielded ops a.tmps) = true then Oper.wp P o a w K' Q else K' (a.put o.dst undef) w)
    (hs : AllReadyZ P md ops Q S z fuel listed a w rs) : AllReadyZ P md ops Q S z fuel listed a w (i :: rs) := fun j hj => by
  rcases List.mem_cons.1 hj with rfl | hj
  · exact wpOp_step ho (fun K' hK => h K' (fun a w hS hW => hK a w ⟨hS, hW⟩))
  · exact hs j hj
theorem wpAnyZ_ready {rs : List Nat} {fuel : Nat} {listed : Array Bool} {a : Act} {w : World} (hr : Region.ready md ops listed = rs) (hne : rs ≠ [])
    (h : AllReadyZ P md ops Q S z fuel listed a w rs) : wpAnyZ P md ops Q S z (fuel + 1) listed a w := ⟨fun h0 => absurd (hr ▸ h0) hne, hr ▸ h⟩
/-- The beginning. -/
theorem wp_region_Z {id : Nat} {a : Act} {w : World} (z : Nat) (S : World → Prop) (hm : P.follows .mixedOrders = true) (hS : S w.drew)
    (h : S w.drew → wpAnyZ P .any ops Q S z ops.size (Array.replicate ops.size false) a w.drew) : (Code.region id ops true).wp P Q a w :=
  wp_region_any hm (wpAny_of_Z _ _ _ _ (h hS))
end
end Go.Proofs.YtgicanpggndbeaaGreat
/- dir: the key of an entry. -/
namespace Go.Proofs.YtgicanpggndbeaaGreat
set_option linter.unusedVariables false
set_option maxRecDepth 100000
open Go.RowKit

/-- May there be such an entry? -/
def okE (n : Int) (s : List UInt8) : Bool := okN n && okS s && rightP s
theorem range_hasE {w : World} {b : Nat} {K : List UInt8} (h : Has w b K) : w.rangeAt b 0 (bc K) := fun j v hv => by
  rw [Nat.zero_add, cell_of_row w b j _ _ _ h.blk]
  simpa using hv
def ekz (n : Int) (s : List UInt8) : Kz := ⟨entryR n s, entryR_length n s⟩
set_option maxHeartbeats 4000000 in
theorem dentry_calls (n : Int) (s : List UInt8) (w : World) :
    Calls Tryz.prog 31 #[.int .i64 n, .string (str s)] w fun e w' => e = .returned (.tuple #[kv (entryR n s), .bool (okE n s)]) ∧ Below w.heap.size w w' := by
  have hE := fun y => entry_calls n (str s) y
  rw [str_list] at hE
  have hR := fun y => right_calls (str s) y
  rw [str_list] at hR
  have hKl := entryR_length n s
  have HOK : Hid (okE n s = (okN n && okS s && rightP s)) := rfl
  have hInfo : (Tryz.prog.info? 29).map (·.size) = some (bc (entryR n s)).length := by rw [bc_length, hKl]; exact Tryz.key_info
  have HZ : Hid (Has (w.alloc (.cells (bc (zs 24)).toArray 29)) w.heap.size (zs 24) ∧ Below w.heap.size w (w.alloc (.cells (bc (zs 24)).toArray 29))) := ⟨Has.new w (zs 24) rfl, (Below.refl _ w).alloc (Nat.le_refl _) _⟩
  generalize entryR n s = K at *
  go_enter Tryz.func31, Tryz.ntmps31
  go_upto_region 1 with fail
  change Code.wp _ _ _ _ (w.alloc (.cells (bc (zs 24)).toArray 29))
  generalize hW0 : w.alloc (.cells (bc (zs 24)).toArray 29) = w0 at *
  clear hW0
  go_upto_region 2 with (first
    | (go_at_call 63; refine (hE _).mono ?_; rintro e w1 ⟨rfl, b1⟩)
    | (refine store_key rfl _ _ rfl _ rfl _ rfl hKl (zs 24) (zero_has w1 w1.heap.size rfl) ?_; intro w2 h2 t2 s2))
  have s2' : w2.heap.size = w1.heap.size + 1 := by rw [s2]; simp
  have hb0 : w.heap.size < w0.heap.size := HZ.out.1.lt
  have HW : Hid (w.heap.size < w1.heap.size ∧ w1.heap.size < w2.heap.size) := ⟨Nat.lt_of_lt_of_le hb0 b1.size, by omega⟩
  have B2 : Below w0.heap.size w0 w2 := b1.trans (((Below.refl _ w1).alloc (Nat.le_refl _) _).trans (t2.below (by simp) (Nat.le_refl _) (by simp)) |>.mono b1.size)
  have HH : Hid (Has w2.drew w1.heap.size K ∧ Has w2.drew w.heap.size (zs 24) ∧ Below w.heap.size w w2.drew) := ⟨⟨h2.len, h2.blk⟩, (HZ.out.1.below B2 hb0).below (B := w2.heap.size) ⟨rfl, rfl, rfl, Nat.le_refl _, fun _ _ => rfl⟩ (Nat.lt_of_lt_of_le hb0 B2.size), (HZ.out.2.trans (B2.mono (Nat.le_of_lt hb0))).trans ⟨rfl, rfl, rfl, Nat.le_refl _, fun _ _ => rfl⟩⟩
  have HWD : Hid (w1.heap.size < w2.drew.heap.size) := HW.out.2
  clear h2 t2 s2 s2' b1 B2 hb0 HZ
  cases hq : (okN n && okS s) with
  | true =>
    have HQ : Hid (okE n s = rightP s) := (show _ = _ by rw [HOK.out, hq]; rfl)
    clear hq HOK
    refine wp_region_noPanic ?_
    refine wp_region_held_drew (S := (fun yy => Has yy w1.heap.size K)) (by kernel_rfl) (HH.out.1) (fun hHeld => ?_)
    refine wpAnyH_take (i := 0) rfl (by kernel_rfl) (by kernel_rfl) (by kernel_rfl) (fun _ _ _ h => h) (yieldsIf_load_mid (by rfl) _ _ rfl _ _ rfl _ _ (fun _ h => range_hasE h) Tryz.underlying29 rfl hInfo) hHeld ?_
    (try simp only [gs])
    refine wpAnyH_take (i := 1) (v := ?_) rfl (by kernel_rfl) (by kernel_rfl) (by kernel_rfl) (fun _ _ _ h => h) (Or.inl ⟨by rfl, ?_⟩) hHeld ?_
    case refine_2 => (intro w hSw; (try dsimp only at hSw); go_simp; try (with_reducible rfl))
    (try simp only [gs])
    refine wpAnyH_take (i := 2) (v := ?_) rfl (by kernel_rfl) (by kernel_rfl) (by kernel_rfl) (fun _ _ _ h => h) (Or.inl ⟨by rfl, ?_⟩) hHeld ?_
    case refine_2 => (intro w hSw; (try dsimp only at hSw); go_simp; try (with_reducible rfl))
    (try simp only [gs])
    refine wpAnyH_take (i := 3) (v := ?_) rfl (by kernel_rfl) (by kernel_rfl) (by kernel_rfl) (fun _ _ _ h => h) (Or.inl ⟨by rfl, ?_⟩) hHeld ?_
    case refine_2 => (intro w hSw; (try dsimp only at hSw); go_simp; try (with_reducible rfl))
    (try simp only [gs])
    generalize w2.drew = y0 at *
    refine wpAnyH_ready (rs := [4]) (by kernel_rfl) (by simp) (AllReadyH.cons rfl (fun K0 hK => ?_) AllReadyH.nil)
    rw [if_pos (by rfl)]
    (try simp only [gs])
    go_simp
    refine (hR y0).mono ?_
    rintro e y1 ⟨rfl, b1⟩
    have hz : Has y1 w.heap.size (zs 24) := HH.out.2.1.below b1 HH.out.2.1.lt
    have HB : Hid (Below w.heap.size w y1) := HH.out.2.2.trans (b1.mono HH.out.2.2.size)
    refine hK.out _ _ (HH.out.1.below b1 HH.out.1.lt) (fun hHeld => ?_)
    clear hK K0 b1
    (try simp only [gs])
    refine wpAnyH_take (i := 5) (v := ?_) rfl (by kernel_rfl) (by kernel_rfl) (by kernel_rfl) (fun _ _ _ h => h) (Or.inl ⟨by rfl, ?_⟩) hHeld ?_
    case refine_2 => (intro w hSw; (try dsimp only at hSw); go_simp; try (with_reducible rfl))
    (try simp only [gs])
    refine wpAnyH_ready (rs := [6]) (by kernel_rfl) (by simp) (AllReadyH.cons rfl (fun K0 hK => ?_) AllReadyH.nil)
    rw [if_pos (by rfl)]
    (try simp only [gs])
    refine wp_store_row 29 _ _ rfl w.heap.size (bc K).toArray rfl rfl _ _ hz.blk (by rw [bc_size, hKl]; exact Tryz.key_info) (by rw [bc_size, bc_size, hKl, hz.len]) (bc_all _) ?_
    have hne : w1.heap.size ≠ w.heap.size := Nat.ne_of_gt HW.out.1
    have hg := hz.setRow K hKl
    have t9 := touch_setRow y1 w.heap.size (bc K).toArray
    have s9 := setRow_size y1 w.heap.size (bc K).toArray
    refine hK.out _ _ (hHeld.touch t9 hne) (fun hHeld => ?_)
    clear hK K0
    (try simp only [gs])
    refine wpAnyH_take (i := 7) (v := ?_) rfl (by kernel_rfl) (by kernel_rfl) (by kernel_rfl) (fun _ _ _ h => h) (Or.inl ⟨by rfl, ?_⟩) hHeld ?_
    case refine_2 => (intro w hSw; (try dsimp only at hSw); go_simp; try (with_reducible rfl))
    (try simp only [gs])
    refine wpAnyH_done (by kernel_rfl) ?_ _
    refine NoPanic.normal ?_
    have HF : Hid (Has (y1.setRow w.heap.size (bc K).toArray) w.heap.size K ∧ Below w.heap.size w (y1.setRow w.heap.size (bc K).toArray)) := ⟨hg, HB.out.trans ⟨t9.os, t9.tape, t9.output, Nat.le_of_eq s9.symm, fun k hk => t9.block k (Nat.lt_of_lt_of_le hk HB.out.size) (Nat.ne_of_lt hk) (by simp)⟩⟩
    clear hHeld hg t9 s9 hz
    generalize y1.setRow w.heap.size (bc K).toArray = y9 at *
    go_wp2_with fail
    refine ret_key_ok rfl _ _ _ rfl rfl HF.out.1 rfl ?_
    exact ⟨by rw [HQ.out]; rfl, HF.out.2⟩
  | false =>
    have HQ : Hid (okE n s = false) := (show _ = _ by rw [HOK.out, hq]; rfl)
    clear hq HOK
    refine wp_region_noPanic ?_
    refine wp_region_held_drew (S := (fun yy => Has yy w1.heap.size K)) (by kernel_rfl) (HH.out.1) (fun hHeld => ?_)
    refine wpAnyH_take (i := 0) rfl (by kernel_rfl) (by kernel_rfl) (by kernel_rfl) (fun _ _ _ h => h) (yieldsIf_load_mid (by rfl) _ _ rfl _ _ rfl _ _ (fun _ h => range_hasE h) Tryz.underlying29 rfl hInfo) hHeld ?_
    (try simp only [gs])
    refine wpAnyH_take (i := 1) (v := ?_) rfl (by kernel_rfl) (by kernel_rfl) (by kernel_rfl) (fun _ _ _ h => h) (Or.inl ⟨by rfl, ?_⟩) hHeld ?_
    case refine_2 => (intro w hSw; (try dsimp only at hSw); go_simp; try (with_reducible rfl))
    (try simp only [gs])
    refine wpAnyH_take (i := 2) (v := ?_) rfl (by kernel_rfl) (by kernel_rfl) (by kernel_rfl) (fun _ _ _ h => h) (Or.inl ⟨by rfl, ?_⟩) hHeld ?_
    case refine_2 => (intro w hSw; (try dsimp only at hSw); go_simp; try (with_reducible rfl))
    (try simp only [gs])
    refine wpAnyH_take (i := 3) (v := undef) rfl (by kernel_rfl) (by kernel_rfl) (by kernel_rfl) (fun _ _ _ h => h) (Or.inr ⟨by rfl, rfl⟩) hHeld ?_
    (try simp only [gs])
    refine wpAnyH_take (i := 4) (v := undef) rfl (by kernel_rfl) (by kernel_rfl) (by kernel_rfl) (fun _ _ _ h => h) (Or.inr ⟨by rfl, rfl⟩) hHeld ?_
    (try simp only [gs])
    refine wpAnyH_take (i := 5) (v := ?_) rfl (by kernel_rfl) (by kernel_rfl) (by kernel_rfl) (fun _ _ _ h => h) (Or.inl ⟨by rfl, ?_⟩) hHeld ?_
    case refine_2 => (intro w hSw; (try dsimp only at hSw); go_simp; try (with_reducible rfl))
    (try simp only [gs])
    have hz : Has w2.drew w.heap.size (zs 24) := HH.out.2.1
    have HB : Hid (Below w.heap.size w w2.drew) := HH.out.2.2
    generalize w2.drew = y1 at *
    refine wpAnyH_ready (rs := [6]) (by kernel_rfl) (by simp) (AllReadyH.cons rfl (fun K0 hK => ?_) AllReadyH.nil)
    rw [if_pos (by rfl)]
    (try simp only [gs])
    refine wp_store_row 29 _ _ rfl w.heap.size (bc K).toArray rfl rfl _ _ hz.blk (by rw [bc_size, hKl]; exact Tryz.key_info) (by rw [bc_size, bc_size, hKl, hz.len]) (bc_all _) ?_
    have hne : w1.heap.size ≠ w.heap.size := Nat.ne_of_gt HW.out.1
    have hg := hz.setRow K hKl
    have t9 := touch_setRow y1 w.heap.size (bc K).toArray
    have s9 := setRow_size y1 w.heap.size (bc K).toArray
    refine hK.out _ _ (hHeld.touch t9 hne) (fun hHeld => ?_)
    clear hK K0
    (try simp only [gs])
    refine wpAnyH_take (i := 7) (v := ?_) rfl (by kernel_rfl) (by kernel_rfl) (by kernel_rfl) (fun _ _ _ h => h) (Or.inl ⟨by rfl, ?_⟩) hHeld ?_
    case refine_2 => (intro w hSw; (try dsimp only at hSw); go_simp; try (with_reducible rfl))
    (try simp only [gs])
    refine wpAnyH_done (by kernel_rfl) ?_ _
    refine NoPanic.normal ?_
    have HF : Hid (Has (y1.setRow w.heap.size (bc K).toArray) w.heap.size K ∧ Below w.heap.size w (y1.setRow w.heap.size (bc K).toArray)) := ⟨hg, HB.out.trans ⟨t9.os, t9.tape, t9.output, Nat.le_of_eq s9.symm, fun k hk => t9.block k (Nat.lt_of_lt_of_le hk HB.out.size) (Nat.ne_of_lt hk) (by simp)⟩⟩
    clear hHeld hg t9 s9 hz
    generalize y1.setRow w.heap.size (bc K).toArray = y9 at *
    go_wp2_with fail
    refine ret_key_ok rfl _ _ _ rfl rfl HF.out.1 rfl ?_
    exact ⟨by rw [HQ.out]; rfl, HF.out.2⟩
end Go.Proofs.YtgicanpggndbeaaGreat
/- dir's caught: a step that does not panic is done, and its answer is the answer. -/
namespace Go.Proofs.YtgicanpggndbeaaGreat
set_option linter.unusedVariables false
set_option maxRecDepth 100000
open Go.RowKit

theorem catch_idle (p : Addr) (w : World) :
    CallsD Tryz.prog 67 #[.pointer (some p)] .returning w fun e u' w' => e = .returned (.tuple #[]) ∧ u' = .returning ∧ w' = w := by
  refine callsD_of_wpS Tryz.func67 rfl fun c₀ cs hu => ?_
  apply wpS_seq
  apply wpS_region
  simp [wpOpsS, go_sem, recoverD, hu, Tryz.ntmps67, Exit.thenS]
  refine wpS_cond (t := false) (by simp [Act.eval, Array.replicate]) ?_
  simp only [Bool.false_eq_true, if_false]
  refine wpS_of_wp (wp_skip ?_)
  cases c₀
  simp_all [bodyPostS, results, Tryz.results67]
set_option maxHeartbeats 2000000 in
theorem caughtPut_calls (w : World) (a b c : Addr) (P : Int → World → Prop)
    (h : Calls Tryz.prog 34 #[.pointer (some a), .pointer (some b), .pointer (some c)] (w.alloc (.cells #[.int .i64 0] 32)) fun e y => ∃ n, e = .returned (.int .i64 n) ∧ y.heap[w.heap.size]? = some (.cells #[.int .i64 0] 32 (0, 0)) ∧ P n y) :
    Calls Tryz.prog 33 #[.func (.func 34) #[] #[.pointer (some a), .pointer (some b), .pointer (some c)]] w fun e w' => ∃ n y, e = .returned (.int .i64 n) ∧ P n y ∧ w' = y.setCell ⟨w.heap.size, 0, none⟩ (.int .i64 n) := by
  have hmf : ∀ (fn : Fn) (first cap : Array Value) (w : World), (Instr.makeFunc fn first cap).run Tryz.prog w = .ok (.func fn first cap) w := fun _ _ _ _ => rfl
  go_enter_defers Tryz.func33, Tryz.ntmps33
  go_wp2_with (go_at_call 34; refine h.mono ?_; clear h; rintro e y ⟨n, rfl, hb, hP⟩
               have hc : y.cell? ⟨w.heap.size, 0, none⟩ = some (.int .i64 0) := by rw [cell_of_row _ _ _ _ _ _ hb]; rfl
               have hf := frozen_of_row y w.heap.size 0 _ _ hb)
  have hcs : (y.setCell ⟨w.heap.size, 0, none⟩ (.int .i64 n)).cell? ⟨w.heap.size, 0, none⟩ = some (.int .i64 n) := World.cell?_setCell_same y _ _ hc
  refine leaves_cons (f := 67) (args := #[.pointer (some ⟨w.heap.size, 0, none⟩)]) (by simp) (by simp [go_sem]) ?_
  refine (catch_idle ⟨w.heap.size, 0, none⟩ _).mono ?_
  rintro e u' w'' ⟨rfl, rfl, rfl⟩
  simp [Leaves, settle, results, Tryz.results33, go_sem, hcs]
  exact ⟨y, hP, rfl⟩
set_option maxHeartbeats 2000000 in
theorem caughtDrop_calls (w : World) (a b : Addr) (P : Int → World → Prop)
    (h : Calls Tryz.prog 37 #[.pointer (some a), .pointer (some b)] (w.alloc (.cells #[.int .i64 0] 32)) fun e y => ∃ n, e = .returned (.int .i64 n) ∧ y.heap[w.heap.size]? = some (.cells #[.int .i64 0] 32 (0, 0)) ∧ P n y) :
    Calls Tryz.prog 33 #[.func (.func 37) #[] #[.pointer (some a), .pointer (some b)]] w fun e w' => ∃ n y, e = .returned (.int .i64 n) ∧ P n y ∧ w' = y.setCell ⟨w.heap.size, 0, none⟩ (.int .i64 n) := by
  have hmf : ∀ (fn : Fn) (first cap : Array Value) (w : World), (Instr.makeFunc fn first cap).run Tryz.prog w = .ok (.func fn first cap) w := fun _ _ _ _ => rfl
  go_enter_defers Tryz.func33, Tryz.ntmps33
  go_wp2_with (go_at_call 37; refine h.mono ?_; clear h; rintro e y ⟨n, rfl, hb, hP⟩
               have hc : y.cell? ⟨w.heap.size, 0, none⟩ = some (.int .i64 0) := by rw [cell_of_row _ _ _ _ _ _ hb]; rfl
               have hf := frozen_of_row y w.heap.size 0 _ _ hb)
  have hcs : (y.setCell ⟨w.heap.size, 0, none⟩ (.int .i64 n)).cell? ⟨w.heap.size, 0, none⟩ = some (.int .i64 n) := World.cell?_setCell_same y _ _ hc
  refine leaves_cons (f := 67) (args := #[.pointer (some ⟨w.heap.size, 0, none⟩)]) (by simp) (by simp [go_sem]) ?_
  refine (catch_idle ⟨w.heap.size, 0, none⟩ _).mono ?_
  rintro e u' w'' ⟨rfl, rfl, rfl⟩
  simp [Leaves, settle, results, Tryz.results33, go_sem, hcs]
  exact ⟨y, hP, rfl⟩
set_option maxHeartbeats 2000000 in
theorem caughtScan_calls (w : World) (a b c : Addr) (P : Int → World → Prop)
    (h : Calls Tryz.prog 74 #[.pointer (some a), .pointer (some b), .pointer (some c)] (w.alloc (.cells #[.int .i64 0] 32)) fun e y => ∃ n, e = .returned (.int .i64 n) ∧ y.heap[w.heap.size]? = some (.cells #[.int .i64 0] 32 (0, 0)) ∧ P n y) :
    Calls Tryz.prog 33 #[.func (.func 74) #[] #[.pointer (some a), .pointer (some b), .pointer (some c)]] w fun e w' => ∃ n y, e = .returned (.int .i64 n) ∧ P n y ∧ w' = y.setCell ⟨w.heap.size, 0, none⟩ (.int .i64 n) := by
  have hmf : ∀ (fn : Fn) (first cap : Array Value) (w : World), (Instr.makeFunc fn first cap).run Tryz.prog w = .ok (.func fn first cap) w := fun _ _ _ _ => rfl
  go_enter_defers Tryz.func33, Tryz.ntmps33
  go_wp2_with (go_at_call 74; refine h.mono ?_; clear h; rintro e y ⟨n, rfl, hb, hP⟩
               have hc : y.cell? ⟨w.heap.size, 0, none⟩ = some (.int .i64 0) := by rw [cell_of_row _ _ _ _ _ _ hb]; rfl
               have hf := frozen_of_row y w.heap.size 0 _ _ hb)
  have hcs : (y.setCell ⟨w.heap.size, 0, none⟩ (.int .i64 n)).cell? ⟨w.heap.size, 0, none⟩ = some (.int .i64 n) := World.cell?_setCell_same y _ _ hc
  refine leaves_cons (f := 67) (args := #[.pointer (some ⟨w.heap.size, 0, none⟩)]) (by simp) (by simp [go_sem]) ?_
  refine (catch_idle ⟨w.heap.size, 0, none⟩ _).mono ?_
  rintro e u' w'' ⟨rfl, rfl, rfl⟩
  simp [Leaves, settle, results, Tryz.results33, go_sem, hcs]
  exact ⟨y, hP, rfl⟩
set_option maxHeartbeats 2000000 in
theorem caughtGet_calls (w : World) (a b c d : Addr) (P : Int → World → Prop)
    (h : Calls Tryz.prog 86 #[.pointer (some a), .pointer (some b), .pointer (some c), .pointer (some d)] (w.alloc (.cells #[.int .i64 0] 32)) fun e y => ∃ n, e = .returned (.int .i64 n) ∧ y.heap[w.heap.size]? = some (.cells #[.int .i64 0] 32 (0, 0)) ∧ P n y) :
    Calls Tryz.prog 33 #[.func (.func 86) #[] #[.pointer (some a), .pointer (some b), .pointer (some c), .pointer (some d)]] w fun e w' => ∃ n y, e = .returned (.int .i64 n) ∧ P n y ∧ w' = y.setCell ⟨w.heap.size, 0, none⟩ (.int .i64 n) := by
  have hmf : ∀ (fn : Fn) (first cap : Array Value) (w : World), (Instr.makeFunc fn first cap).run Tryz.prog w = .ok (.func fn first cap) w := fun _ _ _ _ => rfl
  go_enter_defers Tryz.func33, Tryz.ntmps33
  go_wp2_with (go_at_call 86; refine h.mono ?_; clear h; rintro e y ⟨n, rfl, hb, hP⟩
               have hc : y.cell? ⟨w.heap.size, 0, none⟩ = some (.int .i64 0) := by rw [cell_of_row _ _ _ _ _ _ hb]; rfl
               have hf := frozen_of_row y w.heap.size 0 _ _ hb)
  have hcs : (y.setCell ⟨w.heap.size, 0, none⟩ (.int .i64 n)).cell? ⟨w.heap.size, 0, none⟩ = some (.int .i64 n) := World.cell?_setCell_same y _ _ hc
  refine leaves_cons (f := 67) (args := #[.pointer (some ⟨w.heap.size, 0, none⟩)]) (by simp) (by simp [go_sem]) ?_
  refine (catch_idle ⟨w.heap.size, 0, none⟩ _).mono ?_
  rintro e u' w'' ⟨rfl, rfl, rfl⟩
  simp [Leaves, settle, results, Tryz.results33, go_sem, hcs]
  exact ⟨y, hP, rfl⟩
end Go.Proofs.YtgicanpggndbeaaGreat
