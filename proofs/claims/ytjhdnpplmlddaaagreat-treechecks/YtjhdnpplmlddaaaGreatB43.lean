import Derived.Test.YtjhdnpplmlddaaaGreatB26
import Derived.Test.YtjhdnpplmlddaaaGreatB16
import Derived.Test.YtjhdnpplmlddaaaGreatB41
import Derived.Test.YtjhdnpplmlddaaaGreatB42
import Derived.Test.YtjhdnpplmlddaaaGreatRows
import Derived.WalkKit
import Derived.ProofKit
import Derived.OpenShut
import Derived.ShutString
import Derived.ChangeOld
import Derived.Below
import Derived.Deep.Slices
/- A bag is somebody that has nodes by numbers; what Check and the document's Right tell of it. -/
namespace Go.Proofs.YtjhdnpplmlddaaaGreat
set_option linter.unusedVariables false
open Go.RowKit

/-- Check tells what the document's Right does. -/
theorem check_is {g : Int → Nod × Int} (hg : ∀ n, (g n).2 = 0 ∨ (g n).2 = 1) (root : Int) : checkRoot g root = if docRoot g root then 0 else 12 := by
  unfold checkRoot docRoot
  by_cases h0 : root = 0
  · simp [h0]
  · rw [if_neg h0]
    have e0 : (root == 0) = false := by simpa using h0
    rw [e0, Bool.false_or]
    unfold checkMid
    by_cases hc : (g root).2 = 0
    · by_cases hr : rightN (g root).1 = true
      · have e : readP g root (-1) = ((g root).1, 0) := by unfold readP; rw [if_pos hc, if_pos ⟨hr, .inl rfl⟩]
        rw [e, hc]
        simp only [if_true]
        have rc := check_doc g 12 (g root).1 ⟨firstN (g root).1, zs 24, true⟩ hr (by have := (right_lv hr).2; omega) rfl (fun he => by cases he)
        simp only [Bool.not_true] at rc
        have cc := check_codes hg 12 (g root).1 ⟨firstN (g root).1, zs 24, true⟩
        cases hd : docP g 12 (g root).1 (zs 24) false with
        | true => rw [rc.2 hd]; simp
        | false =>
          have hn : ¬ checkP g 12 (g root).1 ⟨firstN (g root).1, zs 24, true⟩ = 0 := fun q => by rw [rc.1 q] at hd; cases hd
          rcases cc with c | c | c
          · exact absurd c hn
          · rw [c]; simp
          · rw [c]; simp
      · have e : readP g root (-1) = (nilN, 12) := by unfold readP; rw [if_pos hc, if_neg (fun q => hr q.1)]
        have e2 : docP g 12 (g root).1 (zs 24) false = false := by
          cases hd : docP g 12 (g root).1 (zs 24) false with
          | false => rfl
          | true => exact absurd (doc_below hd).1 hr
        rw [e, e2]
        simp
    · have h1 : (g root).2 = 1 := (hg root).resolve_left hc
      have e : readP g root (-1) = (nilN, 1) := by unfold readP; rw [if_neg hc, h1]
      rw [e, h1]
      simp
theorem bag_meth (v : Value) : Meth (.iface 57 (.agg #[v])) "Get" 134 (.agg #[v]) := fun w args => by
  exact meth_of (P := Tryz.prog) (fun w => by kernel_rfl) (fun args w => callFunc_go Tryz.func134 (by kernel_rfl) (by rfl) args w) w args
/-- A bag is somebody that has nodes by numbers. -/
theorem bag_getter (lim : Nat) (v : Value) (l : List Ent) : Getter lim (fun w => BagIn w lim v l) (.iface 57 (.agg #[v])) (bagG l) where
  get := ⟨134, _, bag_meth v, fun w n hR _ => bagGet_calls w lim v l n hR⟩
  mono := fun w w' h b => h.below b
  ifc := ⟨_, _, rfl⟩
theorem bagCheck_calls (w : World) (lim : Nat) (v : Value) (l : List Ent) (root : Int) (h : BagIn w lim v l) (hn : Rng root) :
    Calls Tryz.prog 18 #[.iface 57 (.agg #[v]), .int .i64 root] w fun e w' => e = .returned (.int .i64 (if docRoot (bagG l) root then 0 else 12)) ∧ Below w.heap.size w w' := by
  have := check_calls (bag_getter lim v l) w root h hn
  rw [check_is (bagG_code l)] at this
  exact this
theorem Tryz.key07 : Tryz.prog.built 25 [] = some (bc (zs 24)).toArray := by kernel_rfl
set_option maxHeartbeats 4000000 in
set_option maxRecDepth 100000 in
theorem rRight_calls (w : World) (lim : Nat) (v : Value) (l : List Ent) (root : Int) (h : BagIn w lim v l) :
    Calls Tryz.prog 19 #[v, .int .i64 root] w fun e w' => e = .returned (.bool (docRoot (bagG l) root)) ∧ Below w.heap.size w w' := by
  obtain ⟨RES, hRES⟩ : ∃ R, R = docRoot (bagG l) root := ⟨_, rfl⟩
  have HRES : Hid (RES = (root == 0 || ((bagG l root).2 == 0 && docP (bagG l) 12 (bagG l root).1 (zs 24) false))) := hRES
  rw [← hRES]
  clear hRES
  by_cases h0 : root = 0
  · have hz : (root == 0) = true := by simpa using h0
    have HF : Hid (RES = true) := (show _ = _ by rw [HRES.out, hz]; rfl)
    clear HRES h0 h
    go_enter Tryz.func19, Tryz.ntmps19
    go_wp2_with fail
    go_ret
    exact ⟨by rw [HF.out]; rfl, Below.refl _ _⟩
  · have hz : (root == 0) = false := by simpa using h0
    have HR1 : Hid (RES = ((bagG l root).2 == 0 && docP (bagG l) 12 (bagG l root).1 (zs 24) false)) := (show _ = _ by rw [HRES.out, hz]; rfl)
    have hfc := rfind_calls w lim v l root h
    have HB : Hid (BagIn w lim v l) := h
    have HRC : Hid (∀ (y : World) (x : Nod) (pv qv : Value), BagIn y lim v l → Parts y x pv qv → Calls Tryz.prog 42 #[v, nv x pv qv, kv (zs 24), .bool false] y fun e w' => e = .returned (.bool (docP (bagG l) 12 x (zs 24) false)) ∧ Below y.heap.size y w') := fun y x pv qv hy hp => rdoc_calls lim v l 12 y x pv qv (zs 24) false hy hp rfl (fun hr => by have := (right_lv hr).2; omega) (by omega)
    clear HRES h0 h
    generalize docP (bagG l) 12 = DP at *
    generalize bagG l root = RR at *
    obtain ⟨X, c⟩ := RR
    simp only at HR1
    cases hc : (c == 0) with
    | false =>
      have HF : Hid (RES = false) := (show _ = _ by rw [HR1.out, hc]; rfl)
      clear HR1
      go_enter Tryz.func19, Tryz.ntmps19
      go_wp2_with (first
        | (go_at_call 41; refine hfc.mono ?_; rintro e w1 ⟨pv, qv, rfl, P1, b1⟩)
        | (refine store_node rfl _ _ rfl w1.heap.size rfl X pv qv rfl P1.p.one P1.q.one nilN (.slice none 0 0) (.slice none 0 0) (HasN.new w1 nilN (.slice none 0 0) (.slice none 0 0) _ rfl rfl rfl) ?_; intro x2 hu2 tx2 sx2))
      go_ret
      exact ⟨by rw [HF.out]; rfl, b1.trans ((step_below (Below.refl _ w1) _ tx2).mono b1.size)⟩
    | true =>
      have HF : Hid (RES = DP X (zs 24) false) := (show _ = _ by rw [HR1.out, hc]; rfl)
      clear HR1
      go_enter Tryz.func19, Tryz.ntmps19
      go_upto_region 6 with (first
        | (go_at_call 41; refine hfc.mono ?_; rintro e w1 ⟨pv, qv, rfl, P1, b1⟩)
        | (refine store_node rfl _ _ rfl w1.heap.size rfl X pv qv rfl P1.p.one P1.q.one nilN (.slice none 0 0) (.slice none 0 0) (HasN.new w1 nilN (.slice none 0 0) (.slice none 0 0) _ rfl rfl rfl) ?_; intro x2 hu2 tx2 sx2))
      have b2 := step_below (Below.refl _ w1) _ tx2
      have hrc := HRC.out x2 X pv qv ((HB.out.below b1).below b2) (P1.below b2)
      clear HRC
      go_wp2_with (first
        | (refine load_node _ rfl w1.heap.size rfl rfl X _ _ hu2 ?_)
        | (refine build_any rfl 25 _ rfl [] rfl _ Tryz.key07 ?_)
        | (go_at_call 42; refine hrc.mono ?_; rintro e w3 ⟨rfl, b3⟩))
      go_ret
      exact ⟨by rw [HF.out]; rfl, (b1.trans (b2.mono b1.size)).trans (b3.mono (Nat.le_trans b1.size b2.size))⟩
end Go.Proofs.YtjhdnpplmlddaaaGreat
/- TreeChecks: a tree is right, or not, whatever blocks hold. -/
namespace Go.Proofs.YtjhdnpplmlddaaaGreat
set_option linter.unusedVariables false
open Go.RowKit

theorem treeChecks_walk (w : World) (v : Value) (l : List Ent) (root : Int) (h : BagIn w w.heap.size v l) (hn : Rng root) :
    Calls Tryz.prog 5 #[v, .int .i64 root] w fun e w' => e = .returned (.bool true) ∧ Below w.heap.size w w' :=
  checks_walk (fun l r => docRoot (bagG l) r) shown_calls7 bagCheck_calls rRight_calls w v l root h hn
end Go.Proofs.YtjhdnpplmlddaaaGreat
/- What every statement's row wants: the closed facts on the program, and what an argument that came in looks like. -/
namespace Go.Proofs.YtjhdnpplmlddaaaGreat
set_option linter.unusedVariables false
theorem Tryz.own : ownKnob Tryz.prog.godebug = none := by kernel_rfl
theorem Tryz.laidOut : laidOutB Tryz.prog = true := by kernel_rfl
end Go.Proofs.YtjhdnpplmlddaaaGreat
