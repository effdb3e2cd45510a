import Derived.Test.YtjhdnpplmlddaaaGreatSi
import Derived.Test.YtjhdnpplmlddaaaGreatB17
/- given and Check of package tree. -/
namespace Go.Proofs.YtjhdnpplmlddaaaGreat
set_option linter.unusedVariables false
open Go.RowKit

set_option maxHeartbeats 2000000 in
set_option maxRecDepth 100000 in
theorem given_calls (w : World) (T : TypeId) (rv : Value) : Calls Tryz.prog 25 #[.iface T rv] w fun e w' => e = .returned (.iface T rv) ∧ w' = w := by
  go_enter Tryz.func25, Tryz.ntmps25
  go_wp2_with fail
  go_ret
  exact ⟨rfl, rfl⟩
/-- What Check tells. -/
def checkMid (g : Int → Nod × Int) (root : Int) : Int := if (readP g root (-1)).2 = 0 then checkP g 12 (readP g root (-1)).1 ⟨firstN (readP g root (-1)).1, zs 24, true⟩ else (readP g root (-1)).2
def checkRoot (g : Int → Nod × Int) (root : Int) : Int := if root = 0 then 0 else if checkMid g root = 1 then 12 else checkMid g root
structure CE (R : World → Prop) (w y : World) (d : Nat) (X : Nod) (py qy : Value) : Prop where
  m : HasN y d X py qy
  q : Parts y X py qy
  r : R y
  bel : Below w.heap.size w y
theorem CE.called {R : World → Prop} {w y z : World} {d : Nat} {X : Nod} {py qy : Value} (h : CE R w y d X py qy) (hm : ∀ w w', R w → Below w.heap.size w w' → R w') (b : Below y.heap.size y z) : CE R w z d X py qy := ⟨h.m.below b h.m.lt, h.q.below b, hm _ _ h.r b, h.bel.trans (b.mono h.bel.size)⟩
set_option maxHeartbeats 8000000 in
set_option maxRecDepth 100000 in
theorem check_calls {lim : Nat} {R : World → Prop} {iv : Value} {g : Int → Nod × Int} (D : Getter lim R iv g) (w : World) (root : Int) (hR : R w) (hn : Rng root) :
    Calls Tryz.prog 18 #[iv, .int .i64 root] w fun e w' => e = .returned (.int .i64 (checkRoot g root)) ∧ Below w.heap.size w w' := by
  obtain ⟨T0, rv, rfl⟩ := D.ifc
  obtain ⟨C, hC⟩ : ∃ C, C = checkRoot g root := ⟨_, rfl⟩
  rw [← hC]
  by_cases h0 : root = 0
  · have HC : Hid (C = 0) := (show _ = _ by rw [hC, checkRoot, if_pos h0])
    have h0' : (root == 0) = true := by simpa using h0
    clear hC h0
    go_enter Tryz.func18, Tryz.ntmps18
    go_wp2_with fail
    go_ret
    exact ⟨by rw [HC.out]; rfl, Below.refl _ _⟩
  · have HC : Hid (C = if checkMid g root = 1 then 12 else checkMid g root) := (show _ = _ by rw [hC, checkRoot, if_neg h0])
    have h0' : (root == 0) = false := by simpa using h0
    have HMO : Hid (∀ w w', R w → Below w.heap.size w w' → R w') := D.mono
    have hrc := read_calls D w root (-1) hR hn
    have HMD : Hid (checkMid g root = if (readP g root (-1)).2 = 0 then checkP g 12 (readP g root (-1)).1 ⟨firstN (readP g root (-1)).1, zs 24, true⟩ else (readP g root (-1)).2) := rfl
    have HRR : Hid ((readP g root (-1)).2 = 0 → rightN (readP g root (-1)).1 = true) := fun q => by
      unfold readP at q ⊢
      split at q
      · rename_i q1
        rw [if_pos q1]
        split at q
        · rename_i q2
          rw [if_pos q2]
          exact q2.1
        · simp at q
      · rename_i q1
        exact absurd q q1
    have HCK : Hid (∀ (X : Nod) (y : World) (py qy : Value), R y → Parts y X py qy → rightN X = true → Calls Tryz.prog 39 #[.iface T0 rv, nv X py qy, sv (firstN X) (zs 24) true] y fun e w' => e = .returned (.int .i64 (checkP g 12 X ⟨firstN X, zs 24, true⟩)) ∧ Below y.heap.size y w') := fun X y py qy a b c => checkKids_calls D 12 y X py qy ⟨firstN X, zs 24, true⟩ a b ⟨firstN_length X b.keyed, rfl⟩ c (by have := (fits c).l1; simp; omega)
    have HRW : Hid (R w) := hR
    clear hC h0 D hR hn
    generalize checkMid g root = MD at *
    generalize readP g root (-1) = RR at *
    obtain ⟨X, ce⟩ := RR
    simp only at HMD HRR
    go_enter Tryz.func18, Tryz.ntmps18
    go_upto_region 4 with (go_at_call 25; refine (given_calls _ T0 rv).mono ?_; rintro e w1 ⟨rfl, rfl⟩)
    go_upto_region 5 with (first
      | (go_at_call 38; refine hrc.mono ?_; rintro e w2 ⟨py, qy, rfl, P2, b2, _⟩)
      | (refine store_node rfl _ _ rfl w2.heap.size rfl X py qy rfl P2.p.one P2.q.one nilN (.slice none 0 0) (.slice none 0 0) (HasN.new w2 nilN (.slice none 0 0) (.slice none 0 0) _ rfl rfl rfl) ?_; intro x3 hu3 tx3 sx3))
    have BS3 := step_below (Below.refl _ w2) _ tx3
    have M3 : CE R _ x3 w2.heap.size X py qy := ⟨hu3, P2.below BS3, HMO.out _ _ (HMO.out _ _ HRW.out b2) BS3, b2.trans (BS3.mono b2.size)⟩
    clear hu3 BS3 P2 b2 tx3 sx3 hrc HRW
    generalize w2.heap.size = d at *
    by_cases hce : ce = 0
    · subst hce
      have hrX := HRR.out rfl
      have HMD1 : Hid (MD = checkP g 12 X ⟨firstN X, zs 24, true⟩) := (show _ = _ by rw [HMD.out, if_pos rfl])
      have HFL : Hid ((firstN X).length = 24) := firstN_length X M3.q.keyed
      have HFC : Hid (∀ y, Parts y X py qy → Calls Tryz.prog 40 #[nv X py qy] y fun e w' => e = .returned (kv (firstN X)) ∧ Below y.heap.size y w') := fun y hy => first_calls y X py qy hy
      have HCC : Hid (∀ y, R y → Parts y X py qy → Calls Tryz.prog 39 #[.iface T0 rv, nv X py qy, sv (firstN X) (zs 24) true] y fun e w' => e = .returned (.int .i64 MD) ∧ Below y.heap.size y w') := fun y a b => by rw [HMD1.out]; exact HCK.out X y py qy a b hrX
      clear HMD1 HMD HRR HCK hrX
      go_upto_region 6 with fail
      refine wp_region_noPanic ?_
      refine wp_region_held_drew (S := (fun y => CE R _ y d X py qy)) (by kernel_rfl) (M3.called HMO.out ⟨rfl, rfl, rfl, Nat.le_refl _, fun _ _ => rfl⟩) (fun hHeld => ?_)
      refine wpAnyH_take (i := 0) (v := ?_) rfl (by kernel_rfl) (by kernel_rfl) (by kernel_rfl) (fun _ _ _ h => h) (Or.inl ⟨by rfl, ?_⟩) hHeld ?_
      case refine_2 => (intro w hSw; (try dsimp only at hSw); go_simp; try (with_reducible rfl))
      (try simp only [gs])
      refine wpAnyH_take (i := 1) rfl (by kernel_rfl) (by kernel_rfl) (by kernel_rfl) (fun _ _ _ h => h) (yieldsIf_load_mid (by rfl) _ _ rfl _ _ rfl _ _ (fun _ h => h.m.range) Tryz.underlying60 rfl Tryz.node_info) hHeld ?_
      (try simp only [gs])
      refine wpAnyH_take (i := 2) rfl (by kernel_rfl) (by kernel_rfl) (by kernel_rfl) (fun _ _ _ h => h) (yieldsIf_load_mid (by rfl) _ _ rfl _ _ rfl _ _ (fun _ h => h.m.range) Tryz.underlying60 rfl Tryz.node_info) hHeld ?_
      (try simp only [gs])
      refine wpAnyH_ready (rs := [3]) (by kernel_rfl) (by simp) (AllReadyH.cons rfl (fun K hK => ?_) AllReadyH.nil)
      rw [if_pos (by rfl)]
      (try simp only [gs])
      go_simp
      refine (HFC.out _ hHeld.q).mono ?_
      rintro e y1 ⟨rfl, b1⟩
      refine hK.out _ _ (hHeld.called HMO.out b1) (fun g1 => ?_)
      clear hK K
      (try simp only [gs])
      refine wpAnyH_take (i := 4) (v := sv (firstN X) (zs 24) true) rfl (by kernel_rfl) (by kernel_rfl) (by kernel_rfl) (fun _ _ _ h => h) (Or.inl ⟨by rfl, fun _ _ => build_run 27 _ rfl [(0, kv (firstN X)), (2, .bool true)] (by simp only [List.map_toArray, List.map_cons, List.map_nil]; rfl) _ (builtE _ true HFL.out)⟩) g1 ?_
      (try simp only [gs])
      refine wpAnyH_ready (rs := [5]) (by kernel_rfl) (by simp) (AllReadyH.cons rfl (fun K hK => ?_) AllReadyH.nil)
      rw [if_pos (by rfl)]
      (try simp only [gs])
      go_simp
      refine (HCC.out _ g1.r g1.q).mono ?_
      rintro e y2 ⟨rfl, b2⟩
      refine hK.out _ _ (g1.called HMO.out b2) (fun g2 => ?_)
      clear hK K
      (try simp only [gs])
      refine wpAnyH_take (i := 6) (v := ?_) rfl (by kernel_rfl) (by kernel_rfl) (by kernel_rfl) (fun _ _ _ h => h) (Or.inl ⟨by rfl, ?_⟩) g2 ?_
      case refine_2 => (intro w hSw; (try dsimp only at hSw); go_simp; try (with_reducible rfl))
      (try simp only [gs])
      refine wpAnyH_done (by kernel_rfl) ?_ _
      refine NoPanic.normal ?_
      have HBL : Hid (Below _ _ y2) := g2.bel
      clear M3 hHeld g1 g2 b1 b2 HFC HCC
      by_cases h1 : MD = 1
      · have HF : Hid (C = 12) := (show _ = _ by rw [HC.out, if_pos h1])
        have h1' : (MD == 1) = true := by simpa using h1
        clear h1 HC
        go_wp2_with fail
        go_ret
        exact ⟨by rw [HF.out]; rfl, HBL.out⟩
      · have HF : Hid (C = MD) := (show _ = _ by rw [HC.out, if_neg h1])
        have h1' : (MD == 1) = false := by simpa using h1
        clear h1 HC
        go_wp2_with fail
        go_ret
        exact ⟨by rw [HF.out]; rfl, HBL.out⟩
    · have HMD1 : Hid (MD = ce) := (show _ = _ by rw [HMD.out, if_neg hce])
      have hce' : (ce == 0) = false := by simpa using hce
      have HBL : Hid (Below _ _ x3) := M3.bel
      clear M3 HCK HRR HMD hce
      by_cases h1 : ce = 1
      · have HF : Hid (C = 12) := (show _ = _ by rw [HC.out, HMD1.out, if_pos h1])
        have h1' : (ce == 1) = true := by simpa using h1
        clear h1 HC
        go_wp2_with fail
        go_ret
        exact ⟨by rw [HF.out]; rfl, HBL.out⟩
      · have HF : Hid (C = ce) := (show _ = _ by rw [HC.out, HMD1.out, if_neg h1])
        have h1' : (ce == 1) = false := by simpa using h1
        clear h1 HC
        go_wp2_with fail
        go_ret
        exact ⟨by rw [HF.out]; rfl, HBL.out⟩
end Go.Proofs.YtjhdnpplmlddaaaGreat
