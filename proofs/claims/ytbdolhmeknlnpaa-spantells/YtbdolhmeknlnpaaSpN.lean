/- Any: does a list mean one of these keys? -/
import Derived.Test.YtbdolhmeknlnpaaSpK
namespace Go.Proofs.Ytbdolhmeknlnpaa
set_option linter.unusedVariables false
open Go.RowKit

theorem cmp_pos : ∀ (K L : List UInt8), decide (0 < Lib.compareBytes K L) = Op.bytesLess L K
  | [], [] => rfl
  | [], _ :: _ => rfl
  | _ :: _, [] => rfl
  | a :: xs, b :: ys => by
    have ih := cmp_pos xs ys
    rw [Lib.compareBytes, Op.bytesLess]
    by_cases h1 : a < b
    · have h2 : ¬ b < a := fun h => by simp only [UInt8.lt_iff_toNat_lt] at h h1; omega
      have h3 : ¬ b = a := fun e => by subst e; exact h2 h1
      simp [h1, h2, h3]
    · by_cases h2 : b < a
      · simp [h1, h2]
      · have : a = b := by
          apply UInt8.toNat_inj.1
          simp only [UInt8.lt_iff_toNat_lt] at h1 h2
          omega
        subst this
        simp [ih]
theorem drew_more (W : World) (q : Nat) : W.drew.drewN q = W.drewN (1 + q) := by unfold World.drew World.drewN; simp only [Nat.add_assoc]
theorem rowK : RowTy Try.prog encK 23 30 24 := ⟨Try.underlying23, ⟨.agg (bc (zs 24)).toArray, by kernel_rfl, by simp [Value.cells, bc_length, zs_length]⟩, by decide⟩
/-- How many of them begin at x, or ahead of it. -/
def cnt (R : List Sp) (x : Int) : Nat := R.countP fun s => !decide (x < (num s.F : Int))
theorem set_low : ∀ {lo : Int} {R : List Sp} {x : Int}, SetFrom lo R → x ≤ lo → cnt R x = 0
  | _, [], _, _, _ => rfl
  | lo, s :: r, x, ⟨h1, h2⟩, hx => by
    have hlt : x < (num s.F : Int) := by omega
    rw [cnt, List.countP_cons]
    simp only [hlt, decide_true, Bool.not_true, Bool.false_eq_true, if_false, Nat.add_zero]
    rcases h2 with ⟨_, rfl, _⟩ | ⟨_, h3, h4⟩
    · rfl
    · exact set_low h4 (by omega)
theorem set_any : ∀ {lo : Int} {R : List Sp} (x : Int), SetFrom lo R → (cnt R x = 0 → mem R x = false) ∧ (∀ c, cnt R x = c + 1 → ∃ h : c < R.length, mem R x = (R[c]).inb x)
  | _, [], x, _ => ⟨fun _ => rfl, fun c h => by simp [cnt] at h⟩
  | lo, s :: r, x, h => by
    by_cases hx : x < (num s.F : Int)
    · have h0 : cnt (s :: r) x = 0 := by
        have h1 : SetFrom ((num s.F : Int) - 1) (s :: r) := ⟨by omega, h.2⟩
        exact set_low h1 (by omega)
      refine ⟨fun _ => ?_, fun c hc => by omega⟩
      cases hm : mem (s :: r) x with
      | false => rfl
      | true =>
        have h1 : SetFrom ((num s.F : Int) - 1) (s :: r) := ⟨by omega, h.2⟩
        have := h1.lt hm
        omega
    · have hc : cnt (s :: r) x = cnt r x + 1 := by
        rw [cnt, List.countP_cons]
        simp only [hx, decide_false, Bool.not_false, if_true]
        rfl
      refine ⟨fun h0 => by omega, fun c hc' => ?_⟩
      have hcr : cnt r x = c := by omega
      rcases h.2 with ⟨he, rfl, _⟩ | ⟨he, hlt, hr⟩
      · have : c = 0 := by rw [← hcr]; rfl
        subst this
        exact ⟨by simp, by simp [mem_cons, mem_nil]⟩
      · obtain ⟨i1, i2⟩ := set_any x hr
        cases c with
        | zero =>
          refine ⟨by simp, ?_⟩
          rw [mem_cons, i1 hcr]
          simp
        | succ c =>
          obtain ⟨q1, q2⟩ := i2 c hcr
          refine ⟨by simpa using q1, ?_⟩
          have hT : ¬ x ≤ (num s.T : Int) := fun q => by
            have := set_low hr q
            omega
          have hs : s.inb x = false := by
            simp [Sp.inb, he]
            omega
          rw [mem_cons, hs, q2]
          simp
theorem set_rise : ∀ {lo : Int} {R : List Sp}, SetFrom lo R → R.Pairwise fun s u => (num s.F : Int) ≤ (num u.F : Int)
  | _, [], _ => List.Pairwise.nil
  | lo, s :: r, h => by
    rcases h.2 with ⟨he, rfl, _⟩ | ⟨he, hlt, hr⟩
    · simp
    · refine List.pairwise_cons.2 ⟨fun u hu => ?_, set_rise hr⟩
      have : (num s.T : Int) < (num u.F : Int) := by
        have hm : ∀ {lo : Int} {l : List Sp}, SetFrom lo l → ∀ u ∈ l, lo < (num u.F : Int) := by
          intro lo l
          induction l generalizing lo with
          | nil => intro _ u hu; cases hu
          | cons t q ih =>
            intro h u hu
            rcases List.mem_cons.1 hu with rfl | hu
            · exact h.1
            · rcases h.2 with ⟨_, rfl, _⟩ | ⟨_, h3, h4⟩
              · cases hu
              · have := ih h4 u hu
                have := h.1
                omega
        exact hm hr u hu
      omega
theorem len_cnt (R : List Sp) (x : Int) : cnt R x ≤ R.length := List.countP_le_length
/-- What the closures of Any stand on: the set's variable, the set, a key. -/
structure Aw (W : World) (bs : Nat) (ad : Option Addr) (cap : Nat) (R : List Sp) : Prop where
  var : W.heap[bs]? = some (.cells #[.slice ad R.length cap] 22 (0, 0))
  sl : Sl encS W (.slice ad R.length cap) R
theorem Aw.lt {W : World} {bs : Nat} {ad : Option Addr} {cap : Nat} {R : List Sp} (h : Aw W bs ad cap R) : bs < W.heap.size := lt_of_block h.var
theorem Aw.below {W W' : World} {bs : Nat} {ad : Option Addr} {cap : Nat} {R : List Sp} (h : Aw W bs ad cap R) (b : Below W.heap.size W W') : Aw W' bs ad cap R := ⟨(b.block bs h.lt).trans h.var, Sl.called h.sl b⟩
theorem Aw.cell {W : World} {bs : Nat} {ad : Option Addr} {cap : Nat} {R : List Sp} (h : Aw W bs ad cap R) : W.cell? ⟨bs, 0, none⟩ = some (.slice ad R.length cap) := by rw [cell_of_row W bs 0 _ _ _ h.var]; rfl
set_option maxRecDepth 100000 in
set_option maxHeartbeats 4000000 in
theorem asker11_calls (W : World) (bs bk : Nat) (ad : Option Addr) (cap : Nat) (R : List Sp) (K : List UInt8) (h : Aw W bs ad cap R) (hk : Has W bk K) (i : Nat) (hi : i < R.length) :
    Calls Try.prog 54 (#[.int .i64 (i : Int)] ++ #[.pointer (some ⟨bs, 0, none⟩), .pointer (some ⟨bk, 0, none⟩)]) W fun e w' => e = .returned (.bool (decide ((num K : Int) < (num (R[i]).F : Int)))) ∧ ∃ q os, w' = Go.Sort.grow (W.drewN q) os := by
  obtain ⟨g, off, e1, hg, hr⟩ := SlB.at h.sl i hi
  obtain ⟨_, _, _, hcap, hmax, _⟩ := h.sl
  subst e1
  have hlt : (i : Int) < (R.length : Int) := by omega
  have hi0 : (0 : Int) ≤ (i : Int) := by omega
  have cV := h.cell
  have HR : Hid ((decide ((num K : Int) < (num (R[i]).F : Int))) = decide (0 < Lib.compareBytes (R[i]).F K)) := (show _ = _ by rw [cmp_pos, less_num K _ (by rw [hk.len, (R[i]).hF])]; rw [Bool.eq_iff_iff]; simp)
  have hF := (R[i]).hF
  have rF := range_F hr
  have rK : W.rangeAt bk 0 (bc K) := hk.range
  have hKl := hk.len
  generalize decide ((num K : Int) < (num (R[i]).F : Int)) = RS at *
  generalize (R[i]).F = F at *
  have HC : Hid (∀ y, Calls Try.prog 44 #[kv F, kv K] y fun e w' => e = .returned (.int .i64 (Lib.compareBytes F K)) ∧ ∃ q os, w' = Go.Sort.grow (y.drewN q) os) := fun y => cmp_calls y F K hF hKl
  generalize Lib.compareBytes F K = cf at *
  have hiF : (Try.prog.info? 30).map (·.size) = some (bc F).length := by rw [bc_length, hF]; exact Try.key_info
  have hiK : (Try.prog.info? 30).map (·.size) = some (bc K).length := by rw [bc_length, hKl]; exact Try.key_info
  have hgW : g < W.heap.size := hg
  have hbk := hk.lt
  have hbs := h.lt
  clear hr h hk hg
  show Calls Try.prog 54 #[.int .i64 (i : Int), .pointer (some ⟨bs, 0, none⟩), .pointer (some ⟨bk, 0, none⟩)] W _
  go_enter Try.func54, Try.ntmps54
  go_upto_region 1 with fail
  refine wp_region_noPanic ?_
  refine wp_region_held_drew (S := (fun yy => yy.cell? ⟨bs, 0, none⟩ = some (.slice (some ⟨g, off, none⟩) R.length cap) ∧ yy.rangeAt g (off + i * 49) (bc F) ∧ yy.rangeAt bk 0 (bc K))) (by kernel_rfl) ⟨cV, rF, rK⟩ (fun hHeld => ?_)
  refine wpAnyH_take (i := 0) (v := ?_) rfl (by kernel_rfl) (by kernel_rfl) (by kernel_rfl) (fun _ _ _ h => h) (Or.inl ⟨by rfl, ?_⟩) hHeld ?_
  case refine_2 => (intro w hSw; (try dsimp only at hSw); obtain ⟨z1, z2, z3⟩ := hSw; go_simp; try (with_reducible rfl))
  ((try simp only); (try simp only [List.getElem_toArray]); (try simp only [List.getElem_cons_succ]); (try simp only [List.getElem_cons_zero]); (try simp only [Act.put]); (try simp only [List.setIfInBounds_toArray]); (try simp only [List.set_cons_succ]); (try simp only [List.set_cons_zero]))
  refine wpAnyH_take (i := 1) (v := ?_) rfl (by kernel_rfl) (by kernel_rfl) (by kernel_rfl) (fun _ _ _ h => h) (Or.inl ⟨by rfl, ?_⟩) hHeld ?_
  case refine_2 => (intro w hSw; (try dsimp only at hSw); obtain ⟨z1, z2, z3⟩ := hSw; go_simp; try (with_reducible rfl))
  ((try simp only); (try simp only [List.getElem_toArray]); (try simp only [List.getElem_cons_succ]); (try simp only [List.getElem_cons_zero]); (try simp only [Act.put]); (try simp only [List.setIfInBounds_toArray]); (try simp only [List.set_cons_succ]); (try simp only [List.set_cons_zero]))
  refine wpAnyH_take (i := 2) (v := ?_) rfl (by kernel_rfl) (by kernel_rfl) (by kernel_rfl) (fun _ _ _ h => h) (Or.inl ⟨by rfl, ?_⟩) hHeld ?_
  case refine_2 => (intro w hSw; (try dsimp only at hSw); obtain ⟨z1, z2, z3⟩ := hSw; go_simp; try (with_reducible rfl))
  ((try simp only); (try simp only [List.getElem_toArray]); (try simp only [List.getElem_cons_succ]); (try simp only [List.getElem_cons_zero]); (try simp only [Act.put]); (try simp only [List.setIfInBounds_toArray]); (try simp only [List.set_cons_succ]); (try simp only [List.set_cons_zero]))
  refine wpAnyH_take (i := 3) (v := ?_) rfl (by kernel_rfl) (by kernel_rfl) (by kernel_rfl) (fun _ _ _ h => h) (Or.inl ⟨by rfl, ?_⟩) hHeld ?_
  case refine_2 => (intro w hSw; (try dsimp only at hSw); obtain ⟨z1, z2, z3⟩ := hSw; go_simp; try (with_reducible rfl))
  ((try simp only); (try simp only [List.getElem_toArray]); (try simp only [List.getElem_cons_succ]); (try simp only [List.getElem_cons_zero]); (try simp only [Act.put]); (try simp only [List.setIfInBounds_toArray]); (try simp only [List.set_cons_succ]); (try simp only [List.set_cons_zero]))
  refine wpAnyH_take (i := 4) rfl (by kernel_rfl) (by kernel_rfl) (by kernel_rfl) (fun _ _ _ h => h) (yieldsIf_load_mid (by rfl) _ _ rfl _ _ rfl _ _ (fun _ h => h.2.1) Try.underlying30 rfl hiF) hHeld ?_
  ((try simp only); (try simp only [List.getElem_toArray]); (try simp only [List.getElem_cons_succ]); (try simp only [List.getElem_cons_zero]); (try simp only [Act.put]); (try simp only [List.setIfInBounds_toArray]); (try simp only [List.set_cons_succ]); (try simp only [List.set_cons_zero]))
  refine wpAnyH_take (i := 5) rfl (by kernel_rfl) (by kernel_rfl) (by kernel_rfl) (fun _ _ _ h => h) (yieldsIf_load_mid (by rfl) _ _ rfl _ _ rfl _ _ (fun _ h => h.2.2) Try.underlying30 rfl hiK) hHeld ?_
  ((try simp only); (try simp only [List.getElem_toArray]); (try simp only [List.getElem_cons_succ]); (try simp only [List.getElem_cons_zero]); (try simp only [Act.put]); (try simp only [List.setIfInBounds_toArray]); (try simp only [List.set_cons_succ]); (try simp only [List.set_cons_zero]))
  refine wpAnyH_ready (rs := [6]) (by kernel_rfl) (by simp) (AllReadyH.cons rfl (fun K hK => ?_) AllReadyH.nil)
  rw [if_pos (by rfl)]
  ((try simp only); (try simp only [List.getElem_toArray]); (try simp only [List.getElem_cons_succ]); (try simp only [List.getElem_cons_zero]); (try simp only [Act.put]); (try simp only [List.setIfInBounds_toArray]); (try simp only [List.set_cons_succ]); (try simp only [List.set_cons_zero]))
  go_simp
  refine (HC.out _).mono ?_
  rintro e y ⟨rfl, q, os, rfl⟩
  refine hK.out _ _ (by have b := below_grow (B := W.heap.size) W.drew q os (Nat.le_refl _); exact ⟨(b.cell (p := ⟨bs, 0, none⟩) hbs).trans hHeld.1, range_same' hHeld.2.1 (b.block g hgW), range_same' hHeld.2.2 (b.block bk hbk)⟩) (fun hHeld => ?_)
  clear hK K
  ((try simp only); (try simp only [List.getElem_toArray]); (try simp only [List.getElem_cons_succ]); (try simp only [List.getElem_cons_zero]); (try simp only [Act.put]); (try simp only [List.setIfInBounds_toArray]); (try simp only [List.set_cons_succ]); (try simp only [List.set_cons_zero]))
  refine wpAnyH_take (i := 7) (v := ?_) rfl (by kernel_rfl) (by kernel_rfl) (by kernel_rfl) (fun _ _ _ h => h) (Or.inl ⟨by rfl, ?_⟩) hHeld ?_
  case refine_2 => (intro w hSw; (try dsimp only at hSw); obtain ⟨z1, z2, z3⟩ := hSw; go_simp; try (with_reducible rfl))
  ((try simp only); (try simp only [List.getElem_toArray]); (try simp only [List.getElem_cons_succ]); (try simp only [List.getElem_cons_zero]); (try simp only [Act.put]); (try simp only [List.setIfInBounds_toArray]); (try simp only [List.set_cons_succ]); (try simp only [List.set_cons_zero]))
  refine wpAnyH_take (i := 8) (v := ?_) rfl (by kernel_rfl) (by kernel_rfl) (by kernel_rfl) (fun _ _ _ h => h) (Or.inl ⟨by rfl, ?_⟩) hHeld ?_
  case refine_2 => (intro w hSw; (try dsimp only at hSw); obtain ⟨z1, z2, z3⟩ := hSw; go_simp; try (with_reducible rfl))
  ((try simp only); (try simp only [List.getElem_toArray]); (try simp only [List.getElem_cons_succ]); (try simp only [List.getElem_cons_zero]); (try simp only [Act.put]); (try simp only [List.setIfInBounds_toArray]); (try simp only [List.set_cons_succ]); (try simp only [List.set_cons_zero]))
  refine wpAnyH_done (by kernel_rfl) ?_ _
  refine NoPanic.normal ?_
  go_wp2_with fail
  go_ret
  exact ⟨by rw [HR.out]; simp, 1 + q, os, by rw [drew_more]⟩
theorem count_eq (R : List Sp) (x : Int) : (List.range R.length).countP (fun i => !(fun i => decide (x < (num (R[i]!).F : Int))) i) = cnt R x := by
  have := Lib.countP_range R.toArray (fun s => !decide (x < (num s.F : Int)))
  rw [cnt, ← this]
  simp
set_option maxRecDepth 100000 in
set_option maxHeartbeats 4000000 in
theorem search_calls (W : World) (bs bk : Nat) (ad : Option Addr) (cap : Nat) (R : List Sp) (K : List UInt8) (h : Aw W bs ad cap R) (hk : Has W bk K) (hR : SetFrom (-1) R) (hl : R.length ≤ 1000000) :
    Calls Try.prog 53 #[.int .i64 (R.length : Int), .func (.func 54) #[] #[.pointer (some ⟨bs, 0, none⟩), .pointer (some ⟨bk, 0, none⟩)]] W fun e w' => e = .returned (.int .i64 (cnt R (num K) : Int)) ∧ Below W.heap.size W w' := by
  have eg : ∀ args w, (callFunc 54 args).run Try.prog w = .ok (.enter 54 args) w := enters_of Try.func54 (by kernel_rfl) rfl
  have hc := Any.sort_Search Try.search 54 #[.pointer (some ⟨bs, 0, none⟩), .pointer (some ⟨bk, 0, none⟩)] R.length (fun i => decide ((num K : Int) < (num (R[i]!).F : Int))) W eg (by omega)
    (fun m os i hi => by
      have b : Below W.heap.size W (Go.Sort.grow (W.drewN m) os) := below_grow W m os (Nat.le_refl _)
      have := asker11_calls _ bs bk ad cap R K (h.below b) (hk.below b hk.lt) i hi
      rw [← get_bang R i hi] at this
      exact this)
    (fun a b hab hb hp => by
      have ha : a < R.length := by omega
      rw [get_bang R a ha] at hp
      rw [get_bang R b hb]
      simp only [decide_eq_true_eq] at hp ⊢
      rcases Nat.lt_or_eq_of_le hab with q | q
      · have := (List.pairwise_iff_getElem.1 (set_rise hR)) a b ha hb q
        omega
      · subst q; exact hp)
  rw [count_eq] at hc
  refine Calls.mono (show Calls Try.prog 53 _ _ _ from hc) ?_
  rintro e w' ⟨rfl, q, os, rfl⟩
  exact ⟨rfl, below_grow W q os (Nat.le_refl _)⟩
set_option maxRecDepth 100000 in
set_option maxHeartbeats 8000000 in
theorem asker1_pred (bs : Nat) (ad : Option Addr) (cap : Nat) (R : List Sp) (w : World) (h0 : Aw w bs ad cap R) (hR : SetFrom (-1) R) (hl : R.length ≤ 1000000) : PredBelow Try.prog 52 #[.pointer (some ⟨bs, 0, none⟩)] (fun k => .agg (encK.c k).toArray) (fun k => mem R (num k.k)) w := by
  intro W ky hb
  obtain ⟨K, hK⟩ := ky
  show Calls Try.prog 52 #[kv K, .pointer (some ⟨bs, 0, none⟩)] W fun e w' => e = .returned (.bool (mem R (num K))) ∧ Below w.heap.size w w'
  have hW : Aw W bs ad cap R := ⟨(hb.block bs h0.lt).trans h0.var, SlB.kept h0.sl hb.block hb.size⟩
  have b1 : Below W.heap.size W (W.alloc (.cells (bc K).toArray 30)) := (Below.refl _ W).alloc (Nat.le_refl _) _
  have h1 := hW.below b1
  have hk1 : Has (W.alloc (.cells (bc K).toArray 30)) W.heap.size K := Has.new W K hK
  have hS := search_calls _ bs W.heap.size ad cap R K h1 hk1 hR hl
  obtain ⟨s1, s2⟩ := set_any (num K) hR
  have HB : Hid (Below w.heap.size w (W.alloc (.cells (bc K).toArray 30))) := hb.trans (b1.mono hb.size)
  have cV := h1.cell
  have H1 : Hid (Aw (W.alloc (.cells (bc K).toArray 30)) bs ad cap R) := h1
  have HK1 : Hid (Has (W.alloc (.cells (bc K).toArray 30)) W.heap.size K) := hk1
  obtain ⟨_, _, _, hcap, hmax, _⟩ := h1.sl
  unfold maxLen at hmax
  have hcl := len_cnt R (num K)
  clear h0 hW b1 h1 hk1 hb hR
  cases hc : cnt R (num K) with
  | zero =>
    have HF : Hid (mem R (num K) = false) := s1 hc
    rw [hc] at hS
    clear s1 s2 hc hcl
    go_enter Try.func52, Try.ntmps52
    go_upto_region 2 with (go_at_call 53; refine hS.mono ?_; clear hS; rintro e w2 ⟨rfl, b2⟩)
    go_quiet (fail)
    go_wp2_with fail
    go_ret
    exact ⟨by rw [HF.out]; rfl, below_drewN (HB.out.trans (b2.mono HB.out.size)) _⟩
  | succ c =>
    obtain ⟨hcR, hmem⟩ := s2 c hc
    have HF : Hid (mem R (num K) = (R[c]).inb (num K)) := hmem
    rw [hc] at hS
    clear s1 s2 hc hcl hmem
    have hc1 : ((c + 1 : Nat) : Int) - 1 = (c : Int) := by omega
    have hc2 : IntKind.i64.wrap (((c + 1 : Nat) : Int) - 1) = (c : Int) := by simp [IntKind.wrap, IntKind.bits, IntKind.signed]; omega
    have hc6 : IntKind.i64.wrap (c : Int) = (c : Int) := by simp [IntKind.wrap, IntKind.bits, IntKind.signed]; omega
    have hc3 : (0 : Int) ≤ (c : Int) := by omega
    have hc4 : (c : Int) < (R.length : Int) := by omega
    have hc5 : (0 : Int) < ((c + 1 : Nat) : Int) := by omega
    go_enter Try.func52, Try.ntmps52
    go_upto_region 2 with (go_at_call 53; refine hS.mono ?_; clear hS; rintro e w2 ⟨rfl, b2⟩)
    have A2 := H1.out.below b2
    have K2 := HK1.out.below b2 HK1.out.lt
    have B2 := HB.out.trans (b2.mono HB.out.size)
    obtain ⟨g, off, e1, hg, hr⟩ := SlB.at A2.sl c hcR
    subst e1
    have c2 := A2.cell
    have hin := fun y => in_calls y (R[c]).F (R[c]).T (R[c]).e K (R[c]).hF (R[c]).hT hK
    rw [in_num (R[c]) K hK] at hin
    have HIN : Hid (∀ y, Calls Try.prog 35 #[spv (R[c]), kv K] y fun x w' => x = .returned (.bool ((R[c]).inb (num K))) ∧ Below y.heap.size y w') := hin
    have hiS : (Try.prog.info? 35).map (·.size) = some (encS.c (R[c])).length := by rw [encS.len]; exact Try.span_info
    have hiK : (Try.prog.info? 30).map (·.size) = some (bc K).length := by rw [bc_length, hK]; exact Try.key_info
    have HB2 : Hid (Below w.heap.size w w2) := B2
    have rK : w2.rangeAt W.heap.size 0 (bc K) := K2.range
    have hkl := K2.lt
    have hbs2 := A2.lt
    clear A2 K2 B2 HB H1 HK1 hin cV b2
    generalize (R[c]).inb (num K) = RS at *
    generalize R[c] = s at *
    generalize W.heap.size = bk at *
    refine wp_region_noPanic ?_
    refine wp_region_held_drew (S := (fun yy => yy.cell? ⟨bs, 0, none⟩ = some (.slice (some ⟨g, off, none⟩) R.length cap) ∧ yy.rangeAt g (off + c * 49) (encS.c s) ∧ yy.rangeAt bk 0 (bc K))) (by kernel_rfl) ⟨c2, hr, rK⟩ (fun hHeld => ?_)
    refine wpAnyH_take (i := 0) (v := ?_) rfl (by kernel_rfl) (by kernel_rfl) (by kernel_rfl) (fun _ _ _ h => h) (Or.inl ⟨by rfl, ?_⟩) hHeld ?_
    case refine_2 => (intro w hSw; (try dsimp only at hSw); obtain ⟨z1, z2, z3⟩ := hSw; go_simp; try (with_reducible rfl))
    ((try simp only); (try simp only [List.getElem_toArray]); (try simp only [List.getElem_cons_succ]); (try simp only [List.getElem_cons_zero]); (try simp only [Act.put]); (try simp only [List.setIfInBounds_toArray]); (try simp only [List.set_cons_succ]); (try simp only [List.set_cons_zero]))
    refine wpAnyH_take (i := 1) (v := ?_) rfl (by kernel_rfl) (by kernel_rfl) (by kernel_rfl) (fun _ _ _ h => h) (Or.inl ⟨by rfl, ?_⟩) hHeld ?_
    case refine_2 => (intro w hSw; (try dsimp only at hSw); obtain ⟨z1, z2, z3⟩ := hSw; go_simp; try (with_reducible rfl))
    ((try simp only); (try simp only [List.getElem_toArray]); (try simp only [List.getElem_cons_succ]); (try simp only [List.getElem_cons_zero]); (try simp only [Act.put]); (try simp only [List.setIfInBounds_toArray]); (try simp only [List.set_cons_succ]); (try simp only [List.set_cons_zero]))
    refine wpAnyH_take (i := 2) (v := ?_) rfl (by kernel_rfl) (by kernel_rfl) (by kernel_rfl) (fun _ _ _ h => h) (Or.inl ⟨by rfl, ?_⟩) hHeld ?_
    case refine_2 => (intro w hSw; (try dsimp only at hSw); obtain ⟨z1, z2, z3⟩ := hSw; go_simp; try (with_reducible rfl))
    ((try simp only); (try simp only [List.getElem_toArray]); (try simp only [List.getElem_cons_succ]); (try simp only [List.getElem_cons_zero]); (try simp only [Act.put]); (try simp only [List.setIfInBounds_toArray]); (try simp only [List.set_cons_succ]); (try simp only [List.set_cons_zero]))
    refine wpAnyH_take (i := 3) (v := ?_) rfl (by kernel_rfl) (by kernel_rfl) (by kernel_rfl) (fun _ _ _ h => h) (Or.inl ⟨by rfl, ?_⟩) hHeld ?_
    case refine_2 => (intro w hSw; (try dsimp only at hSw); obtain ⟨z1, z2, z3⟩ := hSw; go_simp; try (with_reducible rfl))
    ((try simp only); (try simp only [List.getElem_toArray]); (try simp only [List.getElem_cons_succ]); (try simp only [List.getElem_cons_zero]); (try simp only [Act.put]); (try simp only [List.setIfInBounds_toArray]); (try simp only [List.set_cons_succ]); (try simp only [List.set_cons_zero]))
    refine wpAnyH_take (i := 4) (v := ?_) rfl (by kernel_rfl) (by kernel_rfl) (by kernel_rfl) (fun _ _ _ h => h) (Or.inl ⟨by rfl, ?_⟩) hHeld ?_
    case refine_2 => (intro w hSw; (try dsimp only at hSw); obtain ⟨z1, z2, z3⟩ := hSw; go_simp; try (with_reducible rfl))
    ((try simp only); (try simp only [List.getElem_toArray]); (try simp only [List.getElem_cons_succ]); (try simp only [List.getElem_cons_zero]); (try simp only [Act.put]); (try simp only [List.setIfInBounds_toArray]); (try simp only [List.set_cons_succ]); (try simp only [List.set_cons_zero]))
    refine wpAnyH_take (i := 5) (v := ?_) rfl (by kernel_rfl) (by kernel_rfl) (by kernel_rfl) (fun _ _ _ h => h) (Or.inl ⟨by rfl, ?_⟩) hHeld ?_
    case refine_2 => (intro w hSw; (try dsimp only at hSw); obtain ⟨z1, z2, z3⟩ := hSw; go_simp; try (with_reducible rfl))
    ((try simp only); (try simp only [List.getElem_toArray]); (try simp only [List.getElem_cons_succ]); (try simp only [List.getElem_cons_zero]); (try simp only [Act.put]); (try simp only [List.setIfInBounds_toArray]); (try simp only [List.set_cons_succ]); (try simp only [List.set_cons_zero]))
    refine wpAnyH_take (i := 6) (v := ?_) rfl (by kernel_rfl) (by kernel_rfl) (by kernel_rfl) (fun _ _ _ h => h) (Or.inl ⟨by rfl, ?_⟩) hHeld ?_
    case refine_2 => (intro w hSw; (try dsimp only at hSw); obtain ⟨z1, z2, z3⟩ := hSw; go_simp; try (with_reducible rfl))
    ((try simp only); (try simp only [List.getElem_toArray]); (try simp only [List.getElem_cons_succ]); (try simp only [List.getElem_cons_zero]); (try simp only [Act.put]); (try simp only [List.setIfInBounds_toArray]); (try simp only [List.set_cons_succ]); (try simp only [List.set_cons_zero]))
    refine wpAnyH_take (i := 7) rfl (by kernel_rfl) (by kernel_rfl) (by kernel_rfl) (fun _ _ _ h => h) (yieldsIf_load_mid (by rfl) _ _ rfl _ _ rfl _ _ (fun _ h => h.2.1) Try.underlying35 rfl hiS) hHeld ?_
    ((try simp only); (try simp only [List.getElem_toArray]); (try simp only [List.getElem_cons_succ]); (try simp only [List.getElem_cons_zero]); (try simp only [Act.put]); (try simp only [List.setIfInBounds_toArray]); (try simp only [List.set_cons_succ]); (try simp only [List.set_cons_zero]))
    refine wpAnyH_take (i := 8) rfl (by kernel_rfl) (by kernel_rfl) (by kernel_rfl) (fun _ _ _ h => h) (yieldsIf_load_mid (by rfl) _ _ rfl _ _ rfl _ _ (fun _ h => h.2.2) Try.underlying30 rfl hiK) hHeld ?_
    ((try simp only); (try simp only [List.getElem_toArray]); (try simp only [List.getElem_cons_succ]); (try simp only [List.getElem_cons_zero]); (try simp only [Act.put]); (try simp only [List.setIfInBounds_toArray]); (try simp only [List.set_cons_succ]); (try simp only [List.set_cons_zero]))
    refine wpAnyH_ready (rs := [9]) (by kernel_rfl) (by simp) (AllReadyH.cons rfl (fun K hK => ?_) AllReadyH.nil)
    rw [if_pos (by rfl)]
    ((try simp only); (try simp only [List.getElem_toArray]); (try simp only [List.getElem_cons_succ]); (try simp only [List.getElem_cons_zero]); (try simp only [Act.put]); (try simp only [List.setIfInBounds_toArray]); (try simp only [List.set_cons_succ]); (try simp only [List.set_cons_zero]))
    go_simp
    refine (HIN.out _).mono ?_
    rintro e y ⟨rfl, b⟩
    refine hK.out _ _ ⟨(b.cell (p := ⟨bs, 0, none⟩) hbs2).trans hHeld.1, range_same' hHeld.2.1 (b.block g hg), range_same' hHeld.2.2 (b.block bk hkl)⟩ (fun hHeld => ?_)
    clear hK K
    ((try simp only); (try simp only [List.getElem_toArray]); (try simp only [List.getElem_cons_succ]); (try simp only [List.getElem_cons_zero]); (try simp only [Act.put]); (try simp only [List.setIfInBounds_toArray]); (try simp only [List.set_cons_succ]); (try simp only [List.set_cons_zero]))
    have HB3 : Below w.heap.size w y := HB2.out.drew.trans (b.mono HB2.out.size)
    refine wpAnyH_take (i := 10) (v := ?_) rfl (by kernel_rfl) (by kernel_rfl) (by kernel_rfl) (fun _ _ _ h => h) (Or.inl ⟨by rfl, ?_⟩) hHeld ?_
    case refine_2 => (intro w hSw; (try dsimp only at hSw); obtain ⟨z1, z2, z3⟩ := hSw; go_simp; try (with_reducible rfl))
    ((try simp only); (try simp only [List.getElem_toArray]); (try simp only [List.getElem_cons_succ]); (try simp only [List.getElem_cons_zero]); (try simp only [Act.put]); (try simp only [List.setIfInBounds_toArray]); (try simp only [List.set_cons_succ]); (try simp only [List.set_cons_zero]))
    refine wpAnyH_take (i := 11) (v := ?_) rfl (by kernel_rfl) (by kernel_rfl) (by kernel_rfl) (fun _ _ _ h => h) (Or.inl ⟨by rfl, ?_⟩) hHeld ?_
    case refine_2 => (intro w hSw; (try dsimp only at hSw); obtain ⟨z1, z2, z3⟩ := hSw; go_simp; try (with_reducible rfl))
    ((try simp only); (try simp only [List.getElem_toArray]); (try simp only [List.getElem_cons_succ]); (try simp only [List.getElem_cons_zero]); (try simp only [Act.put]); (try simp only [List.setIfInBounds_toArray]); (try simp only [List.set_cons_succ]); (try simp only [List.set_cons_zero]))
    refine wpAnyH_done (by kernel_rfl) ?_ _
    refine NoPanic.normal ?_
    go_wp2_with fail
    go_ret
    exact ⟨by rw [HF.out]; rfl, HB3⟩
set_option maxHeartbeats 1000000 in
theorem indexK_none (ad : Option Addr) (cap : Nat) (fv : Value) (w : World) : Calls Try.prog 51 #[.slice ad 0 cap, fv] w fun e w' => e = .returned (.int .i64 (-1)) ∧ w' = w := by
  go_enter Try.func51, Try.ntmps51
  go_wp2
  go_loopg [8] 0 (fun gg i wr => i = .int .i64 0 ∧ wr = w)
  case atStart => exact ⟨rfl, rfl⟩
  case round =>
    obtain ⟨rfl, rfl⟩ := hrel
    go_wp2
    go_ret
    exact ⟨rfl, rfl⟩
set_option maxHeartbeats 1000000 in
theorem containsK_none (ad : Option Addr) (cap : Nat) (fv : Value) (w : World) : Calls Try.prog 37 #[.slice ad 0 cap, fv] w fun e w' => e = .returned (.bool false) ∧ w' = w := by
  have hc := indexK_none ad cap fv w
  go_enter Try.func37, Try.ntmps37
  go_wp2_with (go_at_call 51; refine hc.mono ?_; clear hc; rintro e w' ⟨rfl, rfl⟩)
  go_ret
  exact ⟨rfl, rfl⟩
theorem containsK_calls (g : Nat) (lb : Array Value) (p : Ky → Bool) (eg : ∀ args w, (callFunc g args).run Try.prog w = .ok (.enter g args) w) (w : World) (u : Value) (l : List Ky) (h : Sl encK w u l) (hp : PredBelow Try.prog g lb (fun s => .agg (encK.c s).toArray) p w) :
    Calls Try.prog 37 #[u, .func (.func g) #[] lb] w fun e w' => e = .returned (.bool (l.any p)) ∧ Below w.heap.size w w' := by
  obtain ⟨ad, cap, rfl, hcap, hmax, _, hin⟩ := h
  rcases hin with rfl | ⟨b, off, rfl, hb, hr⟩
  · refine (containsK_none ad cap _ w).mono ?_
    rintro e w' ⟨rfl, rfl⟩
    exact ⟨rfl, Below.refl _ _⟩
  · have hc := AnyQ.slices_ContainsFunc Try.anyK 24 Try.isAgg30 Try.sizeOf30 encK.c encK.len p g lb eg b off l.length cap l w hp (Nat.le_refl _) (by unfold maxLen at hmax; omega) hb (fun j hj i v hv => by
      rw [get_bang l j hj] at hv
      exact hr j hj i v hv)
    rw [List.take_length] at hc
    exact hc
set_option maxHeartbeats 1000000 in
theorem asker_calls (w : World) (ad : Option Addr) (n cap : Nat) : Calls Try.prog 38 #[.slice ad n cap] w fun e w' => e = .returned (.func (.func 52) #[] #[.pointer (some ⟨w.heap.size, 0, none⟩)]) ∧ w' = w.alloc (.cells #[.slice ad n cap] 22) := by
  go_enter Try.func38, Try.ntmps38
  go_wp2
  go_ret
  exact ⟨rfl, rfl⟩
set_option maxRecDepth 100000 in
set_option maxHeartbeats 4000000 in
theorem any_calls (w : World) (u : Value) (a : List Sp) (h : Sl encS w u a) (hl : a.length ≤ 100000) (uk : Value) (ks : List Ky) (hk : Sl encK w uk ks) :
    Calls Try.prog 21 #[u, uk] w fun e w' => e = .returned (.bool (ks.any fun k => mem a (num k.k))) ∧ Below w.heap.size w w' := by
  have hC := clean_calls w u a h hl
  have eg : ∀ args w, (callFunc 52 args).run Try.prog w = .ok (.enter 52 args) w := enters_of Try.func52 (by kernel_rfl) rfl
  have HK : Hid (Sl encK w uk ks) := hk
  have HG : Hid (∀ args w, (callFunc 52 args).run Try.prog w = .ok (.enter 52 args) w) := eg
  obtain ⟨adk, capk, rfl, _⟩ := hk
  obtain ⟨RS, hRS⟩ : ∃ RS, RS = ks.any fun k => mem a (num k.k) := ⟨_, rfl⟩
  have HRS : Hid (RS = ks.any fun k => mem a (num k.k)) := hRS
  rw [← hRS]
  clear h eg hRS
  go_enter Try.func21, Try.ntmps21
  go_wp2_with fail
  refine hC.mono ?_
  clear hC
  rintro e w1 ⟨v, R, rfl, o1, b1, i1, l1⟩
  obtain ⟨ad, cap, rfl, _, _⟩ := sl_form o1.slB
  go_wp2_with fail
  refine (asker_calls w1 _ _ _).mono ?_
  rintro e w2 ⟨rfl, rfl⟩
  have b2 : Below w1.heap.size w1 (w1.alloc (.cells #[.slice ad R.length cap] 22)) := (Below.refl _ _).alloc (Nat.le_refl _) _
  have A2 : Aw (w1.alloc (.cells #[.slice ad R.length cap] 22)) w1.heap.size ad cap R := ⟨heap_alloc_new _ _, Sl.called o1.slB b2⟩
  have hcc := containsK_calls 52 #[.pointer (some ⟨w1.heap.size, 0, none⟩)] _ HG.out _ _ ks (Sl.called (Sl.called HK.out b1) b2) (asker1_pred w1.heap.size ad cap R _ A2 i1.1 (by omega))
  have HI : Hid (Is R (mem a)) := i1
  have HB : Hid (Below w.heap.size w (w1.alloc (.cells #[.slice ad R.length cap] 22))) := b1.trans (b2.mono b1.size)
  clear A2 o1 i1 b1 b2 l1
  go_wp2_with fail
  refine hcc.mono ?_
  rintro e w3 ⟨rfl, b3⟩
  have he : (ks.any fun k => mem R (num k.k)) = RS := by
    rw [HRS.out]
    congr 1
    funext k
    exact HI.out.2 k.k k.h
  rw [he]
  go_wp2_with fail
  go_ret
  exact ⟨rfl, HB.out.trans (b3.mono HB.out.size)⟩
end Go.Proofs.Ytbdolhmeknlnpaa
