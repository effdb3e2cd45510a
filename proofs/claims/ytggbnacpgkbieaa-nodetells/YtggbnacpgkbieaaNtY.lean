/- The document's own words on nodes: Bytes. -/
import Derived.Test.YtggbnacpgkbieaaNtR
import Derived.OwnWalk
namespace Go.Proofs.Ytggbnacpgkbieaa
set_option linter.unusedVariables false
open Go.RowKit

theorem not_big {a : Nat} (h : a ≤ 1000) : ¬ 9223372036854775807 < a := by omega
theorem str_app (a b : List UInt8) : str a ++ str b = str (a ++ b) := by
  apply ByteArray.ext
  simp [str]
theorem made_zeros (n : Nat) : (madeCells (Value.int .u8 0).cells (n * 1)).toList = bc (List.replicate n 0) := by
  apply List.ext_getElem
  · simp [madeCells, bc]
  · intro i h1 h2
    simp [madeCells, bc, Value.cells, Nat.mod_one]
theorem make_zeros {ops : Array Oper} {rest : List Oper} {o : Oper} {a : Act} {w : World} {Q : Exit → Act → World → Prop} (l c : Operand) (hop : o.op = Op.makeSlice 26 l c) (hgd : o.guard = none) (n : Nat) (L : Int) (hl : a.eval l = .int .i64 L) (hc : a.eval c = .int .i64 L) (hL : L = (n : Int)) (b2 : n ≤ 100000)
    (h : ∀ w', w'.ownsRow w.heap.size 5 1 (.slice (some ⟨w.heap.size, 0, none⟩) n n) n (bc (List.replicate n 0)) → w.grownBy w' none → wpList Try.prog ops Q rest (a.put o.dst (.slice (some ⟨w.heap.size, 0, none⟩) n n)) w') : wpList Try.prog ops Q (o :: rest) a w := by
  refine wpList_plain hgd fun K hK => ?_
  obtain ⟨i0, hi, hz0, hz1, hz2⟩ := info_parts Try.info_u8
  obtain ⟨w', hrun, r1, r2⟩ := run_make_full (P := Try.prog) w w.heap.size 26 5 i0 (.int .u8 0) 1 Try.underlying26 hi hz0 hz1 .i64 .i64 n (by rw [hz2]; omega) (by unfold maxLen; omega) (Nat.le_refl _)
  subst hL
  rw [made_zeros] at r1
  unfold Oper.wp
  simp [execOp, hop, hl, hc, hrun, Result.andThen]
  exact hK _ _ (h w' r1 r2)
theorem number_at (w : World) (V : Int) (N W : Nat) (hW : W ≤ 8) (hN : Hid (N < 9223372036854775808)) (hV : V = (N : Int)) :
    Calls Try.prog 29 #[.int .i64 V, .int .i64 (W : Int)] w fun e w' => e = .returned (.string (str (be N W))) ∧ Below w.heap.size w w' := by
  subst hV
  exact number_calls4 w N W hW hN
/-- What the document's Bytes comes to. -/
def RBytesTo (w : World) (x : Nod) (e : Ending) (w' : World) : Prop :=
  Below w.heap.size w w' ∧ ((rightN x = false ∧ e = .returned (.tuple #[.string ⟨#[]⟩, .int .i64 1])) ∨ (rightN x = true ∧ e = .returned (.tuple #[.string (str (enc x)), .int .i64 0])))
theorem encP_step (l : List Pr) (k : Nat) (h : k < l.length) : encP (l.take (k + 1)) = encP (l.take k) ++ ((l[k]).k ++ (be (l[k]).s.size 1 ++ (l[k]).s.data.toList)) := by
  rw [List.take_succ_eq_append_getElem h, encP_app]
  simp [encP]
theorem encK_step (l : List Kd) (k : Nat) (h : k < l.length) : encK (l.take (k + 1)) = encK (l.take k) ++ ((l[k]).k ++ be (l[k]).n.toNat 4) := by
  rw [List.take_succ_eq_append_getElem h, encK_app]
  simp [encK]
set_option maxHeartbeats 16000000 in
set_option maxRecDepth 100000 in
theorem rbytes_calls (w : World) (x : Nod) (pv qv : Value) (h : Parts w x pv qv) : Calls Try.prog 7 #[nv x pv qv] w (RBytesTo w x) := by
  have hkd := h.keyed
  obtain ⟨ap, cp, rfl⟩ := h.lenP
  obtain ⟨aq, cq, rfl⟩ := h.lenQ
  have GP : Hid (∀ i (hi : i < x.ps.length), ∃ g off, ap = some ⟨g, off, none⟩ ∧ g < w.heap.size ∧ w.rangeAt g (off + i * 25) (ec (Pr.el x.ps[i])) ∧ (Pr.el x.ps[i]).Ok) := els_get h.p
  have GQ : Hid (∀ i (hi : i < x.ks.length), ∃ g off, aq = some ⟨g, off, none⟩ ∧ g < w.heap.size ∧ w.rangeAt g (off + i * 25) (ec (Kd.el x.ks[i])) ∧ (Kd.el x.ks[i]).Ok) := els_get h.q
  have H1 : Hid (HasN (w.alloc (.cells (nc x (.slice ap x.ps.length cp) (.slice aq x.ks.length cq)) 25)) w.heap.size x (.slice ap x.ps.length cp) (.slice aq x.ks.length cq)) := HasN.new w x _ _ _ rfl rfl rfl
  have B1 : Below w.heap.size w (w.alloc (.cells (nc x (.slice ap x.ps.length cp) (.slice aq x.ks.length cq)) 25)) := (Below.refl _ w).alloc (Nat.le_refl _) _
  have hA := rright_calls _ x _ _ (h.below B1)
  clear h
  cases hr : rightN x with
  | false =>
    have HR : Hid (rightN x = false) := hr
    rw [hr] at hA
    clear hr
    go_enter Try.func7, Try.ntmps7
    go_wp2_with (first
      | (refine load_node _ rfl w.heap.size rfl rfl _ _ _ H1.out ?_)
      | (go_at_call 15; refine hA.mono ?_; rintro e w2 ⟨rfl, b2⟩))
    go_ret2
    exact ⟨B1.trans (b2.mono (by simp)), .inl ⟨HR.out, rfl⟩⟩
  | true =>
    have HR : Hid (rightN x = true) := hr
    have F := fits hr
    have hB := F.encB hkd
    have HKP : Hid (∀ p ∈ x.ps, p.k.length = 24 ∧ p.s.size ≤ 40) := fun p hp => ⟨hkd.1 p hp, F.vs p hp⟩
    have HKK0 : Hid (∀ p ∈ x.ks, p.k.length = 24 ∧ 2 ≤ p.n ∧ p.n ≤ 4294967295) := fun p hp => ⟨hkd.2 p hp, F.bs p hp⟩
    have f0 := F.l0
    have f1 := F.l1
    have f2 := F.np
    have f3 := F.nk
    rw [hr] at hA
    obtain ⟨lv0, ps, ks⟩ := x
    simp only at f0 f1 f2 f3 HKP HKK0 GP GQ H1 B1 hA hB ⊢
    obtain ⟨lv, rfl⟩ := Int.eq_ofNat_of_zero_le f0
    obtain ⟨P, hP⟩ : ∃ P : Nat, P = ps.length := ⟨_, rfl⟩
    obtain ⟨Q, hQ⟩ : ∃ Q : Nat, Q = ks.length := ⟨_, rfl⟩
    have HP : Hid (P = ps.length) := hP
    have HQ : Hid (Q = ks.length) := hQ
    have HEB : Hid ((encB ⟨(lv : Int), ps, ks⟩).length ≤ 508) := hB
    rw [← hP] at f2
    rw [← hQ] at f3
    rw [← hP, ← hQ] at H1 B1 hA ⊢
    clear hP hQ hr F hkd hB
    have HLV : Hid (lv < 9223372036854775808) := (show _ < _ by omega)
    have HPQ : Hid (P + Q < 9223372036854775808) := (show _ < _ by omega)
    have HWN : Hid (IntKind.i64.wrap ((P : Int) + (Q : Int)) = ((P + Q : Nat) : Int)) := (show _ = _ by rw [IntKind.wrap_i64]; omega)
    have HLEN : Hid (∀ k, (encP (ps.take k)).length ≤ 500 ∧ (encP (ps.take k) ++ encK ks).length ≤ 504) := fun k => by
      have e := HEB.out
      simp only [encB, List.length_append, encH_length] at e
      have e1 : (encP ps).length = (encP (ps.take k)).length + (encP (ps.drop k)).length := by rw [← List.length_append, ← encP_app, List.take_append_drop]
      have e2 := encP_length (ps.take k) (fun p hp => (HKP.out p (List.mem_of_mem_take hp)).1) (fun p hp => (HKP.out p (List.mem_of_mem_take hp)).2)
      have e3 : (ps.take k).length ≤ 7 := Nat.le_trans (List.length_take_le' _ _) (by rw [← HP.out]; omega)
      rw [List.length_append]
      omega
    have HLEN2 : Hid (∀ k, (encP ps ++ encK (ks.take k)).length ≤ 504) := fun k => by
      have e := HEB.out
      simp only [encB, List.length_append, encH_length] at e
      have e1 : (encK ks).length = (encK (ks.take k)).length + (encK (ks.drop k)).length := by rw [← List.length_append, ← encK_app, List.take_append_drop]
      rw [List.length_append]
      omega
    go_enter Try.func7, Try.ntmps7
    go_upto_region 4 with (first
      | (refine load_node _ rfl w.heap.size rfl rfl _ _ _ H1.out ?_)
      | (go_at_call 15; refine hA.mono ?_; rintro e w2 ⟨rfl, b2⟩))
    have H2 : Hid (HasN w2 w.heap.size ⟨(lv : Int), ps, ks⟩ (.slice ap P cp) (.slice aq Q cq)) := H1.out.below b2 (by simp)
    have B2 : Below w.heap.size w w2 := B1.trans (b2.mono (by simp))
    clear H1 B1 b2 hA
    have sa := str_app
    have sz := str_size
    have sb := be_length
    have sw : (⟨#[87, 84]⟩ : ByteArray) = str [87, 84] := rfl
    refine wp_region_noPanic ?_
    refine wp_region_held_drew (S := (fun y => HasN y w.heap.size ⟨(lv : Int), ps, ks⟩ (.slice ap P cp) (.slice aq Q cq) ∧ Below w.heap.size w y)) (by kernel_rfl) ⟨H2.out.same rfl, below_drewN B2 1⟩ (fun hHeld => ?_)
    refine wpAnyH_take (i := 0) (v := ?_) rfl (by kernel_rfl) (by kernel_rfl) (by kernel_rfl) (fun _ _ _ h => h) (Or.inl ⟨by rfl, ?_⟩) hHeld ?_
    case refine_2 => (intro w hSw; (try dsimp only at hSw); obtain ⟨k0, k1, k2⟩ := hSw.1.cells; go_simp; (try rw [if_neg (not_big (by omega))]); try (with_reducible rfl))
    ((try simp only); (try simp only [List.getElem_toArray]); (try simp only [List.getElem_cons_succ]); (try simp only [List.getElem_cons_zero]); (try simp only [Act.put]); (try simp only [List.setIfInBounds_toArray]); (try simp only [List.set_cons_succ]); (try simp only [List.set_cons_zero]))
    refine wpAnyH_take (i := 1) (v := ?_) rfl (by kernel_rfl) (by kernel_rfl) (by kernel_rfl) (fun _ _ _ h => h) (Or.inl ⟨by rfl, ?_⟩) hHeld ?_
    case refine_2 => (intro w hSw; (try dsimp only at hSw); obtain ⟨k0, k1, k2⟩ := hSw.1.cells; go_simp; (try rw [if_neg (not_big (by omega))]); try (with_reducible rfl))
    ((try simp only); (try simp only [List.getElem_toArray]); (try simp only [List.getElem_cons_succ]); (try simp only [List.getElem_cons_zero]); (try simp only [Act.put]); (try simp only [List.setIfInBounds_toArray]); (try simp only [List.set_cons_succ]); (try simp only [List.set_cons_zero]))
    refine wpAnyH_take (i := 4) (v := ?_) rfl (by kernel_rfl) (by kernel_rfl) (by kernel_rfl) (fun _ _ _ h => h) (Or.inl ⟨by rfl, ?_⟩) hHeld ?_
    case refine_2 => (intro w hSw; (try dsimp only at hSw); obtain ⟨k0, k1, k2⟩ := hSw.1.cells; go_simp; (try rw [if_neg (not_big (by omega))]); try (with_reducible rfl))
    ((try simp only); (try simp only [List.getElem_toArray]); (try simp only [List.getElem_cons_succ]); (try simp only [List.getElem_cons_zero]); (try simp only [Act.put]); (try simp only [List.setIfInBounds_toArray]); (try simp only [List.set_cons_succ]); (try simp only [List.set_cons_zero]))
    refine wpAnyH_take (i := 5) (v := ?_) rfl (by kernel_rfl) (by kernel_rfl) (by kernel_rfl) (fun _ _ _ h => h) (Or.inl ⟨by rfl, ?_⟩) hHeld ?_
    case refine_2 => (intro w hSw; (try dsimp only at hSw); obtain ⟨k0, k1, k2⟩ := hSw.1.cells; go_simp; (try rw [if_neg (not_big (by omega))]); try (with_reducible rfl))
    ((try simp only); (try simp only [List.getElem_toArray]); (try simp only [List.getElem_cons_succ]); (try simp only [List.getElem_cons_zero]); (try simp only [Act.put]); (try simp only [List.setIfInBounds_toArray]); (try simp only [List.set_cons_succ]); (try simp only [List.set_cons_zero]))
    refine wpAnyH_take (i := 6) (v := ?_) rfl (by kernel_rfl) (by kernel_rfl) (by kernel_rfl) (fun _ _ _ h => h) (Or.inl ⟨by rfl, ?_⟩) hHeld ?_
    case refine_2 => (intro w hSw; (try dsimp only at hSw); obtain ⟨k0, k1, k2⟩ := hSw.1.cells; go_simp; (try rw [if_neg (not_big (by omega))]); try (with_reducible rfl))
    ((try simp only); (try simp only [List.getElem_toArray]); (try simp only [List.getElem_cons_succ]); (try simp only [List.getElem_cons_zero]); (try simp only [Act.put]); (try simp only [List.setIfInBounds_toArray]); (try simp only [List.set_cons_succ]); (try simp only [List.set_cons_zero]))
    refine wpAnyH_take (i := 7) (v := ?_) rfl (by kernel_rfl) (by kernel_rfl) (by kernel_rfl) (fun _ _ _ h => h) (Or.inl ⟨by rfl, ?_⟩) hHeld ?_
    case refine_2 => (intro w hSw; (try dsimp only at hSw); obtain ⟨k0, k1, k2⟩ := hSw.1.cells; go_simp; (try rw [if_neg (not_big (by omega))]); try (with_reducible rfl))
    ((try simp only); (try simp only [List.getElem_toArray]); (try simp only [List.getElem_cons_succ]); (try simp only [List.getElem_cons_zero]); (try simp only [Act.put]); (try simp only [List.setIfInBounds_toArray]); (try simp only [List.set_cons_succ]); (try simp only [List.set_cons_zero]))
    refine wpAnyH_take (i := 8) (v := ?_) rfl (by kernel_rfl) (by kernel_rfl) (by kernel_rfl) (fun _ _ _ h => h) (Or.inl ⟨by rfl, ?_⟩) hHeld ?_
    case refine_2 => (intro w hSw; (try dsimp only at hSw); obtain ⟨k0, k1, k2⟩ := hSw.1.cells; go_simp; (try rw [if_neg (not_big (by omega))]); try (with_reducible rfl))
    ((try simp only); (try simp only [List.getElem_toArray]); (try simp only [List.getElem_cons_succ]); (try simp only [List.getElem_cons_zero]); (try simp only [Act.put]); (try simp only [List.setIfInBounds_toArray]); (try simp only [List.set_cons_succ]); (try simp only [List.set_cons_zero]))
    refine wpAnyH_take (i := 9) (v := ?_) rfl (by kernel_rfl) (by kernel_rfl) (by kernel_rfl) (fun _ _ _ h => h) (Or.inl ⟨by rfl, ?_⟩) hHeld ?_
    case refine_2 => (intro w hSw; (try dsimp only at hSw); obtain ⟨k0, k1, k2⟩ := hSw.1.cells; go_simp; (try rw [if_neg (not_big (by omega))]); try (with_reducible rfl))
    ((try simp only); (try simp only [List.getElem_toArray]); (try simp only [List.getElem_cons_succ]); (try simp only [List.getElem_cons_zero]); (try simp only [Act.put]); (try simp only [List.setIfInBounds_toArray]); (try simp only [List.set_cons_succ]); (try simp only [List.set_cons_zero]))
    refine wpAnyH_take (i := 10) (v := ?_) rfl (by kernel_rfl) (by kernel_rfl) (by kernel_rfl) (fun _ _ _ h => h) (Or.inl ⟨by rfl, ?_⟩) hHeld ?_
    case refine_2 => (intro w hSw; (try dsimp only at hSw); obtain ⟨k0, k1, k2⟩ := hSw.1.cells; go_simp; (try rw [if_neg (not_big (by omega))]); try (with_reducible rfl))
    ((try simp only); (try simp only [List.getElem_toArray]); (try simp only [List.getElem_cons_succ]); (try simp only [List.getElem_cons_zero]); (try simp only [Act.put]); (try simp only [List.setIfInBounds_toArray]); (try simp only [List.set_cons_succ]); (try simp only [List.set_cons_zero]))
    refine wpAnyH_ready (rs := [2]) (by kernel_rfl) (by simp) (AllReadyH.cons rfl (fun K hK => ?_) AllReadyH.nil)
    rw [if_pos (by rfl)]
    ((try simp only); (try simp only [List.getElem_toArray]); (try simp only [List.getElem_cons_succ]); (try simp only [List.getElem_cons_zero]); (try simp only [Act.put]); (try simp only [List.setIfInBounds_toArray]); (try simp only [List.set_cons_succ]); (try simp only [List.set_cons_zero]))
    go_simp
    refine (number_at _ _ lv 1 (by omega) HLV (by first | rfl | omega)).mono ?_
    rintro e y1 ⟨rfl, by1⟩
    refine hK.out _ _ ⟨hHeld.1.below by1 hHeld.1.lt, hHeld.2.trans (by1.mono hHeld.2.size)⟩ (fun g1 => ?_)
    clear hK K
    ((try simp only); (try simp only [List.getElem_toArray]); (try simp only [List.getElem_cons_succ]); (try simp only [List.getElem_cons_zero]); (try simp only [Act.put]); (try simp only [List.setIfInBounds_toArray]); (try simp only [List.set_cons_succ]); (try simp only [List.set_cons_zero]))
    refine wpAnyH_take (i := 3) (v := ?_) rfl (by kernel_rfl) (by kernel_rfl) (by kernel_rfl) (fun _ _ _ h => h) (Or.inl ⟨by rfl, ?_⟩) g1 ?_
    case refine_2 => (intro w hSw; (try dsimp only at hSw); obtain ⟨k0, k1, k2⟩ := hSw.1.cells; go_simp; (try rw [if_neg (not_big (by omega))]); try (with_reducible rfl))
    ((try simp only); (try simp only [List.getElem_toArray]); (try simp only [List.getElem_cons_succ]); (try simp only [List.getElem_cons_zero]); (try simp only [Act.put]); (try simp only [List.setIfInBounds_toArray]); (try simp only [List.set_cons_succ]); (try simp only [List.set_cons_zero]))
    refine wpAnyH_ready (rs := [11]) (by kernel_rfl) (by simp) (AllReadyH.cons rfl (fun K hK => ?_) AllReadyH.nil)
    rw [if_pos (by rfl)]
    ((try simp only); (try simp only [List.getElem_toArray]); (try simp only [List.getElem_cons_succ]); (try simp only [List.getElem_cons_zero]); (try simp only [Act.put]); (try simp only [List.setIfInBounds_toArray]); (try simp only [List.set_cons_succ]); (try simp only [List.set_cons_zero]))
    go_simp
    refine (number_at _ _ (P + Q) 1 (by omega) HPQ (by first | rfl | exact HWN.out | omega)).mono ?_
    rintro e y2 ⟨rfl, by2⟩
    refine hK.out _ _ ⟨g1.1.below by2 g1.1.lt, g1.2.trans (by2.mono g1.2.size)⟩ (fun g2 => ?_)
    clear hK K
    ((try simp only); (try simp only [List.getElem_toArray]); (try simp only [List.getElem_cons_succ]); (try simp only [List.getElem_cons_zero]); (try simp only [Act.put]); (try simp only [List.setIfInBounds_toArray]); (try simp only [List.set_cons_succ]); (try simp only [List.set_cons_zero]))
    refine wpAnyH_take (i := 12) (v := ?_) rfl (by kernel_rfl) (by kernel_rfl) (by kernel_rfl) (fun _ _ _ h => h) (Or.inl ⟨by rfl, ?_⟩) g2 ?_
    case refine_2 => (intro w hSw; (try dsimp only at hSw); obtain ⟨k0, k1, k2⟩ := hSw.1.cells; go_simp; (try rw [if_neg (not_big (by omega))]); try (with_reducible rfl))
    ((try simp only); (try simp only [List.getElem_toArray]); (try simp only [List.getElem_cons_succ]); (try simp only [List.getElem_cons_zero]); (try simp only [Act.put]); (try simp only [List.setIfInBounds_toArray]); (try simp only [List.set_cons_succ]); (try simp only [List.set_cons_zero]))
    refine wpAnyH_take (i := 13) (v := ?_) rfl (by kernel_rfl) (by kernel_rfl) (by kernel_rfl) (fun _ _ _ h => h) (Or.inl ⟨by rfl, ?_⟩) g2 ?_
    case refine_2 => (intro w hSw; (try dsimp only at hSw); obtain ⟨k0, k1, k2⟩ := hSw.1.cells; go_simp; (try rw [if_neg (not_big (by omega))]); try (with_reducible rfl))
    ((try simp only); (try simp only [List.getElem_toArray]); (try simp only [List.getElem_cons_succ]); (try simp only [List.getElem_cons_zero]); (try simp only [Act.put]); (try simp only [List.setIfInBounds_toArray]); (try simp only [List.set_cons_succ]); (try simp only [List.set_cons_zero]))
    refine wpAnyH_done (by kernel_rfl) ?_ _
    refine NoPanic.normal ?_
    have HU5 := g2.1
    have B5 := g2.2
    obtain ⟨EH, hEH⟩ : ∃ EH, EH = 87 :: 84 :: (be lv 1 ++ be (P + Q) 1) := ⟨_, rfl⟩
    have HEH : Hid (EH = encH ⟨(lv : Int), ps, ks⟩) := (show _ = _ by rw [hEH, encH, HP.out, HQ.out]; simp)
    have HEL : Hid (EH.length = 4) := (show _ = _ by rw [HEH.out, encH_length])
    have HES : Hid (87 :: 84 :: (be lv 1 ++ be (P + Q) 1) = EH) := hEH.symm
    clear hEH g1 g2 hHeld by1 by2 H2 B2 HLV HPQ HWN
    have sw1 := HES.out
    try simp only [sw1]
    clear sw1
    go_wp2
    go_loopw [5, 6] (fun t i wr => ∃ (k : Nat), k ≤ P ∧ i = .int .i64 (k : Int) ∧ t = .string (str (EH ++ encP (ps.take k))) ∧ HasN wr w.heap.size ⟨(lv : Int), ps, ks⟩ (.slice ap P cp) (.slice aq Q cq) ∧ Below w.heap.size w wr) (fun _ i _ => P - (intOf i).toNat)
    case atStart => exact ⟨0, Nat.zero_le _, rfl, by first | (simp [encP]; done) | (rw [← HES.out]; simp [encP]), HU5, B5⟩
    case round =>
      clear HU5 B5
      obtain ⟨k, hk, rfl, rfl, UW, BW⟩ := hrel
      obtain ⟨k0, k1, k2⟩ := UW.cells
      by_cases hlt : k < P
      · have hkl : k < ps.length := by rw [← HP.out]; exact hlt
        obtain ⟨ga, oa, rfl, gla, hat, ok⟩ := GP.out k hkl
        have HKK : Hid (∀ y, Below w.heap.size w y → y.rangeAt ga (oa + k * 25) (bc (ps[k]).k)) := fun y hy j u hu => range_same hat (hy.block ga gla) j u (ec_key (e := Pr.el ps[k]) hu)
        have HCS : Hid (∀ y, Below w.heap.size w y → y.cell? ⟨ga, oa + k * 25 + 24, none⟩ = some (.string (ps[k]).s)) := fun y hy => range_same hat (hy.block ga gla) 24 _ (ec_val ok)
        have HLK : Hid ((ps[k]).k.length = 24) := ok.len
        have HT : Hid (encP (ps.take (k + 1)) = encP (ps.take k) ++ ((ps[k]).k ++ (be (ps[k]).s.size 1 ++ (ps[k]).s.data.toList))) := encP_step ps k hkl
        have hs40 := (HKP.out ps[k] (List.getElem_mem _)).2
        have hE1 : (EH ++ encP (ps.take k)).length ≤ 504 := by
          rw [List.length_append, HEL.out]
          have := (HLEN.out k).1
          omega
        obtain ⟨nl, hnl⟩ : ∃ nl, nl = (ps[k]).s.data.toList := ⟨_, rfl⟩
        have hnn : (ps[k]).s = str nl := by rw [hnl, str_data]
        have HC : Hid ((EH ++ encP (ps.take k)) ++ ((ps[k]).k ++ (be nl.length 1 ++ nl)) = EH ++ encP (ps.take (k + 1))) := (show _ = _ by
          rw [HT.out, hnn, str_size, str_list]
          simp)
        have hl40 : nl.length ≤ 40 := by rw [hnn, str_size] at hs40; exact hs40
        have HNL : Hid (nl.length < 9223372036854775808) := (show _ < _ by omega)
        have hKl : ((ps[k]).k).length = 24 := HLK.out
        rw [hnn] at HCS
        clear hat ok HT hnl hnn hs40
        generalize hEc : EH ++ encP (ps.take k) = E1 at *
        generalize hKc : (ps[k]).k = KK at *
        clear hEc hKc
        go_upto_region 8 with fail
        clear k0 k1 k2
        refine wp_region_noPanic ?_
        refine wp_region_held_drew (S := (fun y => HasN y w.heap.size ⟨(lv : Int), ps, ks⟩ (.slice (some ⟨ga, oa, none⟩) P cp) (.slice aq Q cq) ∧ Below w.heap.size w y)) (by kernel_rfl) ⟨UW.same rfl, below_drewN BW 1⟩ (fun hHeld => ?_)
        refine wpAnyH_take (i := 0) (v := ?_) rfl (by kernel_rfl) (by kernel_rfl) (by kernel_rfl) (fun _ _ _ h => h) (Or.inl ⟨by rfl, ?_⟩) hHeld ?_
        case refine_2 => (intro w hSw; (try dsimp only at hSw); obtain ⟨k0, k1, k2⟩ := hSw.1.cells; have hcv := conv_part (HKK.out _ hSw.2) HLK.out 24; have cs := HCS.out _ hSw.2; go_simp; (try rw [if_neg (not_big (by omega))]); try (with_reducible rfl))
        ((try simp only); (try simp only [List.getElem_toArray]); (try simp only [List.getElem_cons_succ]); (try simp only [List.getElem_cons_zero]); (try simp only [Act.put]); (try simp only [List.setIfInBounds_toArray]); (try simp only [List.set_cons_succ]); (try simp only [List.set_cons_zero]))
        refine wpAnyH_take (i := 1) (v := ?_) rfl (by kernel_rfl) (by kernel_rfl) (by kernel_rfl) (fun _ _ _ h => h) (Or.inl ⟨by rfl, ?_⟩) hHeld ?_
        case refine_2 => (intro w hSw; (try dsimp only at hSw); obtain ⟨k0, k1, k2⟩ := hSw.1.cells; have hcv := conv_part (HKK.out _ hSw.2) HLK.out 24; have cs := HCS.out _ hSw.2; go_simp; (try rw [if_neg (not_big (by omega))]); try (with_reducible rfl))
        ((try simp only); (try simp only [List.getElem_toArray]); (try simp only [List.getElem_cons_succ]); (try simp only [List.getElem_cons_zero]); (try simp only [Act.put]); (try simp only [List.setIfInBounds_toArray]); (try simp only [List.set_cons_succ]); (try simp only [List.set_cons_zero]))
        refine wpAnyH_take (i := 2) (v := ?_) rfl (by kernel_rfl) (by kernel_rfl) (by kernel_rfl) (fun _ _ _ h => h) (Or.inl ⟨by rfl, ?_⟩) hHeld ?_
        case refine_2 => (intro w hSw; (try dsimp only at hSw); obtain ⟨k0, k1, k2⟩ := hSw.1.cells; have hcv := conv_part (HKK.out _ hSw.2) HLK.out 24; have cs := HCS.out _ hSw.2; go_simp; (try rw [if_neg (not_big (by omega))]); try (with_reducible rfl))
        ((try simp only); (try simp only [List.getElem_toArray]); (try simp only [List.getElem_cons_succ]); (try simp only [List.getElem_cons_zero]); (try simp only [Act.put]); (try simp only [List.setIfInBounds_toArray]); (try simp only [List.set_cons_succ]); (try simp only [List.set_cons_zero]))
        refine wpAnyH_take (i := 3) (v := ?_) rfl (by kernel_rfl) (by kernel_rfl) (by kernel_rfl) (fun _ _ _ h => h) (Or.inl ⟨by rfl, ?_⟩) hHeld ?_
        case refine_2 => (intro w hSw; (try dsimp only at hSw); obtain ⟨k0, k1, k2⟩ := hSw.1.cells; have hcv := conv_part (HKK.out _ hSw.2) HLK.out 24; have cs := HCS.out _ hSw.2; go_simp; (try rw [if_neg (not_big (by omega))]); try (with_reducible rfl))
        ((try simp only); (try simp only [List.getElem_toArray]); (try simp only [List.getElem_cons_succ]); (try simp only [List.getElem_cons_zero]); (try simp only [Act.put]); (try simp only [List.setIfInBounds_toArray]); (try simp only [List.set_cons_succ]); (try simp only [List.set_cons_zero]))
        refine wpAnyH_take (i := 4) (v := ?_) rfl (by kernel_rfl) (by kernel_rfl) (by kernel_rfl) (fun _ _ _ h => h) (Or.inl ⟨by rfl, ?_⟩) hHeld ?_
        case refine_2 => (intro w hSw; (try dsimp only at hSw); obtain ⟨k0, k1, k2⟩ := hSw.1.cells; have hcv := conv_part (HKK.out _ hSw.2) HLK.out 24; have cs := HCS.out _ hSw.2; go_simp; (try rw [if_neg (not_big (by omega))]); try (with_reducible rfl))
        ((try simp only); (try simp only [List.getElem_toArray]); (try simp only [List.getElem_cons_succ]); (try simp only [List.getElem_cons_zero]); (try simp only [Act.put]); (try simp only [List.setIfInBounds_toArray]); (try simp only [List.set_cons_succ]); (try simp only [List.set_cons_zero]))
        refine wpAnyH_take (i := 5) (v := ?_) rfl (by kernel_rfl) (by kernel_rfl) (by kernel_rfl) (fun _ _ _ h => h) (Or.inl ⟨by rfl, ?_⟩) hHeld ?_
        case refine_2 => (intro w hSw; (try dsimp only at hSw); obtain ⟨k0, k1, k2⟩ := hSw.1.cells; have hcv := conv_part (HKK.out _ hSw.2) HLK.out 24; have cs := HCS.out _ hSw.2; go_simp; (try rw [if_neg (not_big (by omega))]); try (with_reducible rfl))
        ((try simp only); (try simp only [List.getElem_toArray]); (try simp only [List.getElem_cons_succ]); (try simp only [List.getElem_cons_zero]); (try simp only [Act.put]); (try simp only [List.setIfInBounds_toArray]); (try simp only [List.set_cons_succ]); (try simp only [List.set_cons_zero]))
        refine wpAnyH_take (i := 6) (v := ?_) rfl (by kernel_rfl) (by kernel_rfl) (by kernel_rfl) (fun _ _ _ h => h) (Or.inl ⟨by rfl, ?_⟩) hHeld ?_
        case refine_2 => (intro w hSw; (try dsimp only at hSw); obtain ⟨k0, k1, k2⟩ := hSw.1.cells; have hcv := conv_part (HKK.out _ hSw.2) HLK.out 24; have cs := HCS.out _ hSw.2; go_simp; (try rw [if_neg (not_big (by omega))]); try (with_reducible rfl))
        ((try simp only); (try simp only [List.getElem_toArray]); (try simp only [List.getElem_cons_succ]); (try simp only [List.getElem_cons_zero]); (try simp only [Act.put]); (try simp only [List.setIfInBounds_toArray]); (try simp only [List.set_cons_succ]); (try simp only [List.set_cons_zero]))
        refine wpAnyH_take (i := 7) (v := ?_) rfl (by kernel_rfl) (by kernel_rfl) (by kernel_rfl) (fun _ _ _ h => h) (Or.inl ⟨by rfl, ?_⟩) hHeld ?_
        case refine_2 => (intro w hSw; (try dsimp only at hSw); obtain ⟨k0, k1, k2⟩ := hSw.1.cells; have hcv := conv_part (HKK.out _ hSw.2) HLK.out 24; have cs := HCS.out _ hSw.2; go_simp; (try rw [if_neg (not_big (by omega))]); try (with_reducible rfl))
        ((try simp only); (try simp only [List.getElem_toArray]); (try simp only [List.getElem_cons_succ]); (try simp only [List.getElem_cons_zero]); (try simp only [Act.put]); (try simp only [List.setIfInBounds_toArray]); (try simp only [List.set_cons_succ]); (try simp only [List.set_cons_zero]))
        refine wpAnyH_take (i := 8) (v := ?_) rfl (by kernel_rfl) (by kernel_rfl) (by kernel_rfl) (fun _ _ _ h => h) (Or.inl ⟨by rfl, ?_⟩) hHeld ?_
        case refine_2 => (intro w hSw; (try dsimp only at hSw); obtain ⟨k0, k1, k2⟩ := hSw.1.cells; have hcv := conv_part (HKK.out _ hSw.2) HLK.out 24; have cs := HCS.out _ hSw.2; go_simp; (try rw [if_neg (not_big (by omega))]); try (with_reducible rfl))
        ((try simp only); (try simp only [List.getElem_toArray]); (try simp only [List.getElem_cons_succ]); (try simp only [List.getElem_cons_zero]); (try simp only [Act.put]); (try simp only [List.setIfInBounds_toArray]); (try simp only [List.set_cons_succ]); (try simp only [List.set_cons_zero]))
        refine wpAnyH_take (i := 9) (v := ?_) rfl (by kernel_rfl) (by kernel_rfl) (by kernel_rfl) (fun _ _ _ h => h) (Or.inl ⟨by rfl, ?_⟩) hHeld ?_
        case refine_2 => (intro w hSw; (try dsimp only at hSw); obtain ⟨k0, k1, k2⟩ := hSw.1.cells; have hcv := conv_part (HKK.out _ hSw.2) HLK.out 24; have cs := HCS.out _ hSw.2; go_simp; (try rw [if_neg (not_big (by omega))]); try (with_reducible rfl))
        ((try simp only); (try simp only [List.getElem_toArray]); (try simp only [List.getElem_cons_succ]); (try simp only [List.getElem_cons_zero]); (try simp only [Act.put]); (try simp only [List.setIfInBounds_toArray]); (try simp only [List.set_cons_succ]); (try simp only [List.set_cons_zero]))
        refine wpAnyH_take (i := 10) (v := ?_) rfl (by kernel_rfl) (by kernel_rfl) (by kernel_rfl) (fun _ _ _ h => h) (Or.inl ⟨by rfl, ?_⟩) hHeld ?_
        case refine_2 => (intro w hSw; (try dsimp only at hSw); obtain ⟨k0, k1, k2⟩ := hSw.1.cells; have hcv := conv_part (HKK.out _ hSw.2) HLK.out 24; have cs := HCS.out _ hSw.2; go_simp; (try rw [if_neg (not_big (by omega))]); try (with_reducible rfl))
        ((try simp only); (try simp only [List.getElem_toArray]); (try simp only [List.getElem_cons_succ]); (try simp only [List.getElem_cons_zero]); (try simp only [Act.put]); (try simp only [List.setIfInBounds_toArray]); (try simp only [List.set_cons_succ]); (try simp only [List.set_cons_zero]))
        refine wpAnyH_take (i := 11) (v := ?_) rfl (by kernel_rfl) (by kernel_rfl) (by kernel_rfl) (fun _ _ _ h => h) (Or.inl ⟨by rfl, ?_⟩) hHeld ?_
        case refine_2 => (intro w hSw; (try dsimp only at hSw); obtain ⟨k0, k1, k2⟩ := hSw.1.cells; have hcv := conv_part (HKK.out _ hSw.2) HLK.out 24; have cs := HCS.out _ hSw.2; go_simp; (try rw [if_neg (not_big (by omega))]); try (with_reducible rfl))
        ((try simp only); (try simp only [List.getElem_toArray]); (try simp only [List.getElem_cons_succ]); (try simp only [List.getElem_cons_zero]); (try simp only [Act.put]); (try simp only [List.setIfInBounds_toArray]); (try simp only [List.set_cons_succ]); (try simp only [List.set_cons_zero]))
        refine wpAnyH_take (i := 12) (v := ?_) rfl (by kernel_rfl) (by kernel_rfl) (by kernel_rfl) (fun _ _ _ h => h) (Or.inl ⟨by rfl, ?_⟩) hHeld ?_
        case refine_2 => (intro w hSw; (try dsimp only at hSw); obtain ⟨k0, k1, k2⟩ := hSw.1.cells; have hcv := conv_part (HKK.out _ hSw.2) HLK.out 24; have cs := HCS.out _ hSw.2; go_simp; (try rw [if_neg (not_big (by omega))]); try (with_reducible rfl))
        ((try simp only); (try simp only [List.getElem_toArray]); (try simp only [List.getElem_cons_succ]); (try simp only [List.getElem_cons_zero]); (try simp only [Act.put]); (try simp only [List.setIfInBounds_toArray]); (try simp only [List.set_cons_succ]); (try simp only [List.set_cons_zero]))
        refine wpAnyH_take (i := 13) (v := ?_) rfl (by kernel_rfl) (by kernel_rfl) (by kernel_rfl) (fun _ _ _ h => h) (Or.inl ⟨by rfl, ?_⟩) hHeld ?_
        case refine_2 => (intro w hSw; (try dsimp only at hSw); obtain ⟨k0, k1, k2⟩ := hSw.1.cells; have hcv := conv_part (HKK.out _ hSw.2) HLK.out 24; have cs := HCS.out _ hSw.2; go_simp; (try rw [if_neg (not_big (by omega))]); try (with_reducible rfl))
        ((try simp only); (try simp only [List.getElem_toArray]); (try simp only [List.getElem_cons_succ]); (try simp only [List.getElem_cons_zero]); (try simp only [Act.put]); (try simp only [List.setIfInBounds_toArray]); (try simp only [List.set_cons_succ]); (try simp only [List.set_cons_zero]))
        refine wpAnyH_take (i := 14) (v := ?_) rfl (by kernel_rfl) (by kernel_rfl) (by kernel_rfl) (fun _ _ _ h => h) (Or.inl ⟨by rfl, ?_⟩) hHeld ?_
        case refine_2 => (intro w hSw; (try dsimp only at hSw); obtain ⟨k0, k1, k2⟩ := hSw.1.cells; have hcv := conv_part (HKK.out _ hSw.2) HLK.out 24; have cs := HCS.out _ hSw.2; go_simp; (try rw [if_neg (not_big (by omega))]); try (with_reducible rfl))
        ((try simp only); (try simp only [List.getElem_toArray]); (try simp only [List.getElem_cons_succ]); (try simp only [List.getElem_cons_zero]); (try simp only [Act.put]); (try simp only [List.setIfInBounds_toArray]); (try simp only [List.set_cons_succ]); (try simp only [List.set_cons_zero]))
        refine wpAnyH_take (i := 15) (v := ?_) rfl (by kernel_rfl) (by kernel_rfl) (by kernel_rfl) (fun _ _ _ h => h) (Or.inl ⟨by rfl, ?_⟩) hHeld ?_
        case refine_2 => (intro w hSw; (try dsimp only at hSw); obtain ⟨k0, k1, k2⟩ := hSw.1.cells; have hcv := conv_part (HKK.out _ hSw.2) HLK.out 24; have cs := HCS.out _ hSw.2; go_simp; (try rw [if_neg (not_big (by omega))]); try (with_reducible rfl))
        ((try simp only); (try simp only [List.getElem_toArray]); (try simp only [List.getElem_cons_succ]); (try simp only [List.getElem_cons_zero]); (try simp only [Act.put]); (try simp only [List.setIfInBounds_toArray]); (try simp only [List.set_cons_succ]); (try simp only [List.set_cons_zero]))
        refine wpAnyH_take (i := 18) (v := ?_) rfl (by kernel_rfl) (by kernel_rfl) (by kernel_rfl) (fun _ _ _ h => h) (Or.inl ⟨by rfl, ?_⟩) hHeld ?_
        case refine_2 => (intro w hSw; (try dsimp only at hSw); obtain ⟨k0, k1, k2⟩ := hSw.1.cells; have hcv := conv_part (HKK.out _ hSw.2) HLK.out 24; have cs := HCS.out _ hSw.2; go_simp; (try rw [if_neg (not_big (by omega))]); try (with_reducible rfl))
        ((try simp only); (try simp only [List.getElem_toArray]); (try simp only [List.getElem_cons_succ]); (try simp only [List.getElem_cons_zero]); (try simp only [Act.put]); (try simp only [List.setIfInBounds_toArray]); (try simp only [List.set_cons_succ]); (try simp only [List.set_cons_zero]))
        refine wpAnyH_take (i := 19) (v := ?_) rfl (by kernel_rfl) (by kernel_rfl) (by kernel_rfl) (fun _ _ _ h => h) (Or.inl ⟨by rfl, ?_⟩) hHeld ?_
        case refine_2 => (intro w hSw; (try dsimp only at hSw); obtain ⟨k0, k1, k2⟩ := hSw.1.cells; have hcv := conv_part (HKK.out _ hSw.2) HLK.out 24; have cs := HCS.out _ hSw.2; go_simp; (try rw [if_neg (not_big (by omega))]); try (with_reducible rfl))
        ((try simp only); (try simp only [List.getElem_toArray]); (try simp only [List.getElem_cons_succ]); (try simp only [List.getElem_cons_zero]); (try simp only [Act.put]); (try simp only [List.setIfInBounds_toArray]); (try simp only [List.set_cons_succ]); (try simp only [List.set_cons_zero]))
        refine wpAnyH_take (i := 20) (v := ?_) rfl (by kernel_rfl) (by kernel_rfl) (by kernel_rfl) (fun _ _ _ h => h) (Or.inl ⟨by rfl, ?_⟩) hHeld ?_
        case refine_2 => (intro w hSw; (try dsimp only at hSw); obtain ⟨k0, k1, k2⟩ := hSw.1.cells; have hcv := conv_part (HKK.out _ hSw.2) HLK.out 24; have cs := HCS.out _ hSw.2; go_simp; (try rw [if_neg (not_big (by omega))]); try (with_reducible rfl))
        ((try simp only); (try simp only [List.getElem_toArray]); (try simp only [List.getElem_cons_succ]); (try simp only [List.getElem_cons_zero]); (try simp only [Act.put]); (try simp only [List.setIfInBounds_toArray]); (try simp only [List.set_cons_succ]); (try simp only [List.set_cons_zero]))
        refine wpAnyH_take (i := 21) (v := ?_) rfl (by kernel_rfl) (by kernel_rfl) (by kernel_rfl) (fun _ _ _ h => h) (Or.inl ⟨by rfl, ?_⟩) hHeld ?_
        case refine_2 => (intro w hSw; (try dsimp only at hSw); obtain ⟨k0, k1, k2⟩ := hSw.1.cells; have hcv := conv_part (HKK.out _ hSw.2) HLK.out 24; have cs := HCS.out _ hSw.2; go_simp; (try rw [if_neg (not_big (by omega))]); try (with_reducible rfl))
        ((try simp only); (try simp only [List.getElem_toArray]); (try simp only [List.getElem_cons_succ]); (try simp only [List.getElem_cons_zero]); (try simp only [Act.put]); (try simp only [List.setIfInBounds_toArray]); (try simp only [List.set_cons_succ]); (try simp only [List.set_cons_zero]))
        refine wpAnyH_take (i := 22) (v := ?_) rfl (by kernel_rfl) (by kernel_rfl) (by kernel_rfl) (fun _ _ _ h => h) (Or.inl ⟨by rfl, ?_⟩) hHeld ?_
        case refine_2 => (intro w hSw; (try dsimp only at hSw); obtain ⟨k0, k1, k2⟩ := hSw.1.cells; have hcv := conv_part (HKK.out _ hSw.2) HLK.out 24; have cs := HCS.out _ hSw.2; go_simp; (try rw [if_neg (not_big (by omega))]); try (with_reducible rfl))
        ((try simp only); (try simp only [List.getElem_toArray]); (try simp only [List.getElem_cons_succ]); (try simp only [List.getElem_cons_zero]); (try simp only [Act.put]); (try simp only [List.setIfInBounds_toArray]); (try simp only [List.set_cons_succ]); (try simp only [List.set_cons_zero]))
        refine wpAnyH_take (i := 23) (v := ?_) rfl (by kernel_rfl) (by kernel_rfl) (by kernel_rfl) (fun _ _ _ h => h) (Or.inl ⟨by rfl, ?_⟩) hHeld ?_
        case refine_2 => (intro w hSw; (try dsimp only at hSw); obtain ⟨k0, k1, k2⟩ := hSw.1.cells; have hcv := conv_part (HKK.out _ hSw.2) HLK.out 24; have cs := HCS.out _ hSw.2; go_simp; (try rw [if_neg (not_big (by omega))]); try (with_reducible rfl))
        ((try simp only); (try simp only [List.getElem_toArray]); (try simp only [List.getElem_cons_succ]); (try simp only [List.getElem_cons_zero]); (try simp only [Act.put]); (try simp only [List.setIfInBounds_toArray]); (try simp only [List.set_cons_succ]); (try simp only [List.set_cons_zero]))
        refine wpAnyH_ready (rs := [16]) (by kernel_rfl) (by simp) (AllReadyH.cons rfl (fun K hK => ?_) AllReadyH.nil)
        rw [if_pos (by rfl)]
        ((try simp only); (try simp only [List.getElem_toArray]); (try simp only [List.getElem_cons_succ]); (try simp only [List.getElem_cons_zero]); (try simp only [Act.put]); (try simp only [List.setIfInBounds_toArray]); (try simp only [List.set_cons_succ]); (try simp only [List.set_cons_zero]))
        go_simp
        refine (number_at _ _ nl.length 1 (by omega) HNL (by first | rfl | omega)).mono ?_
        rintro e y1 ⟨rfl, by1⟩
        refine hK.out _ _ ⟨hHeld.1.below by1 hHeld.1.lt, hHeld.2.trans (by1.mono hHeld.2.size)⟩ (fun g1 => ?_)
        clear hK K
        ((try simp only); (try simp only [List.getElem_toArray]); (try simp only [List.getElem_cons_succ]); (try simp only [List.getElem_cons_zero]); (try simp only [Act.put]); (try simp only [List.setIfInBounds_toArray]); (try simp only [List.set_cons_succ]); (try simp only [List.set_cons_zero]))
        refine wpAnyH_take (i := 17) (v := ?_) rfl (by kernel_rfl) (by kernel_rfl) (by kernel_rfl) (fun _ _ _ h => h) (Or.inl ⟨by rfl, ?_⟩) g1 ?_
        case refine_2 => (intro w hSw; (try dsimp only at hSw); obtain ⟨k0, k1, k2⟩ := hSw.1.cells; have hcv := conv_part (HKK.out _ hSw.2) HLK.out 24; have cs := HCS.out _ hSw.2; go_simp; (try rw [if_neg (not_big (by omega))]); try (with_reducible rfl))
        ((try simp only); (try simp only [List.getElem_toArray]); (try simp only [List.getElem_cons_succ]); (try simp only [List.getElem_cons_zero]); (try simp only [Act.put]); (try simp only [List.setIfInBounds_toArray]); (try simp only [List.set_cons_succ]); (try simp only [List.set_cons_zero]))
        refine wpAnyH_take (i := 24) (v := ?_) rfl (by kernel_rfl) (by kernel_rfl) (by kernel_rfl) (fun _ _ _ h => h) (Or.inl ⟨by rfl, ?_⟩) g1 ?_
        case refine_2 => (intro w hSw; (try dsimp only at hSw); obtain ⟨k0, k1, k2⟩ := hSw.1.cells; have hcv := conv_part (HKK.out _ hSw.2) HLK.out 24; have cs := HCS.out _ hSw.2; go_simp; (try rw [if_neg (not_big (by omega))]); try (with_reducible rfl))
        ((try simp only); (try simp only [List.getElem_toArray]); (try simp only [List.getElem_cons_succ]); (try simp only [List.getElem_cons_zero]); (try simp only [Act.put]); (try simp only [List.setIfInBounds_toArray]); (try simp only [List.set_cons_succ]); (try simp only [List.set_cons_zero]))
        refine wpAnyH_take (i := 25) (v := ?_) rfl (by kernel_rfl) (by kernel_rfl) (by kernel_rfl) (fun _ _ _ h => h) (Or.inl ⟨by rfl, ?_⟩) g1 ?_
        case refine_2 => (intro w hSw; (try dsimp only at hSw); obtain ⟨k0, k1, k2⟩ := hSw.1.cells; have hcv := conv_part (HKK.out _ hSw.2) HLK.out 24; have cs := HCS.out _ hSw.2; go_simp; (try rw [if_neg (not_big (by omega))]); try (with_reducible rfl))
        ((try simp only); (try simp only [List.getElem_toArray]); (try simp only [List.getElem_cons_succ]); (try simp only [List.getElem_cons_zero]); (try simp only [Act.put]); (try simp only [List.setIfInBounds_toArray]); (try simp only [List.set_cons_succ]); (try simp only [List.set_cons_zero]))
        refine wpAnyH_done (by kernel_rfl) ?_ _
        refine NoPanic.normal ?_
        have HUV : Hid (HasN y1 w.heap.size ⟨(lv : Int), ps, ks⟩ (.slice (some ⟨ga, oa, none⟩) P cp) (.slice aq Q cq)) := g1.1
        have HBV : Hid (Below w.heap.size w y1) := g1.2
        clear UW BW g1 hHeld by1 HKK HCS
        go_wp2
        go_round
        case rel => exact ⟨k + 1, by omega, by go_num, by rw [← HC.out], HUV.out, HBV.out⟩
        case measure => simp [intOf]; omega
      · have e : k = P := by omega
        have HE0 : Hid (EH ++ encP (ps.take k) = EH ++ encP ps) := (show _ = _ by rw [e, HP.out, List.take_length])
        obtain ⟨E2, hE2⟩ : ∃ E2, E2 = EH ++ encP ps := ⟨_, rfl⟩
        have HE2 : Hid (E2 = EH ++ encP ps) := hE2
        rw [HE0.out, ← hE2]
        clear hE2 HE0 e
        go_wp2
        go_loopw [5, 7] (fun t i wr => ∃ (k : Nat), k ≤ Q ∧ i = .int .i64 (k : Int) ∧ t = .string (str (E2 ++ encK (ks.take k))) ∧ HasN wr w.heap.size ⟨(lv : Int), ps, ks⟩ (.slice ap P cp) (.slice aq Q cq) ∧ Below w.heap.size w wr) (fun _ i _ => Q - (intOf i).toNat)
        case atStart => exact ⟨0, Nat.zero_le _, rfl, by simp [encK], UW, BW⟩
        case round =>
          clear UW BW k0 k1 k2 hlt hk
          obtain ⟨k, hk, rfl, rfl, UW, BW⟩ := hrel
          obtain ⟨k0, k1, k2⟩ := UW.cells
          by_cases hlt : k < Q
          · have hkl : k < ks.length := by rw [← HQ.out]; exact hlt
            obtain ⟨ga, oa, rfl, gla, hat, ok⟩ := GQ.out k hkl
            have HKK : Hid (∀ y, Below w.heap.size w y → y.rangeAt ga (oa + k * 25) (bc (ks[k]).k)) := fun y hy j u hu => range_same hat (hy.block ga gla) j u (ec_key (e := Kd.el ks[k]) hu)
            have HCS : Hid (∀ y, Below w.heap.size w y → y.cell? ⟨ga, oa + k * 25 + 24, none⟩ = some (.int .i64 (ks[k]).n)) := fun y hy => range_same hat (hy.block ga gla) 24 _ (ec_val ok)
            have HLK : Hid ((ks[k]).k.length = 24) := ok.len
            have HT : Hid (encK (ks.take (k + 1)) = encK (ks.take k) ++ ((ks[k]).k ++ be (ks[k]).n.toNat 4)) := encK_step ks k hkl
            have hn2 := (HKK0.out ks[k] (List.getElem_mem _)).2
            obtain ⟨bn, hbn⟩ := Int.eq_ofNat_of_zero_le (show 0 ≤ (ks[k]).n by omega)
            have hE1 : (E2 ++ encK (ks.take k)).length ≤ 508 := by
              rw [HE2.out, List.append_assoc, List.length_append, HEL.out]
              have := HLEN2.out k
              omega
            have HC : Hid ((E2 ++ encK (ks.take k)) ++ ((ks[k]).k ++ be bn 4) = E2 ++ encK (ks.take (k + 1))) := (show _ = _ by
              rw [HT.out, hbn, Int.toNat_natCast]
              simp)
            have HNL : Hid (bn < 9223372036854775808) := (show _ < _ by omega)
            have hKl : ((ks[k]).k).length = 24 := HLK.out
            rw [hbn] at HCS
            clear hat ok HT hbn hn2
            generalize hEc : E2 ++ encK (ks.take k) = E1 at *
            generalize hKc : (ks[k]).k = KK at *
            clear hEc hKc
            go_upto_region 12 with fail
            clear k0 k1 k2
            refine wp_region_noPanic ?_
            refine wp_region_held_drew (S := (fun y => HasN y w.heap.size ⟨(lv : Int), ps, ks⟩ (.slice ap P cp) (.slice (some ⟨ga, oa, none⟩) Q cq) ∧ Below w.heap.size w y)) (by kernel_rfl) ⟨UW.same rfl, below_drewN BW 1⟩ (fun hHeld => ?_)
            refine wpAnyH_take (i := 0) (v := ?_) rfl (by kernel_rfl) (by kernel_rfl) (by kernel_rfl) (fun _ _ _ h => h) (Or.inl ⟨by rfl, ?_⟩) hHeld ?_
            case refine_2 => (intro w hSw; (try dsimp only at hSw); obtain ⟨k0, k1, k2⟩ := hSw.1.cells; have hcv := conv_part (HKK.out _ hSw.2) HLK.out 24; have cs := HCS.out _ hSw.2; go_simp; (try rw [if_neg (not_big (by omega))]); try (with_reducible rfl))
            ((try simp only); (try simp only [List.getElem_toArray]); (try simp only [List.getElem_cons_succ]); (try simp only [List.getElem_cons_zero]); (try simp only [Act.put]); (try simp only [List.setIfInBounds_toArray]); (try simp only [List.set_cons_succ]); (try simp only [List.set_cons_zero]))
            refine wpAnyH_take (i := 1) (v := ?_) rfl (by kernel_rfl) (by kernel_rfl) (by kernel_rfl) (fun _ _ _ h => h) (Or.inl ⟨by rfl, ?_⟩) hHeld ?_
            case refine_2 => (intro w hSw; (try dsimp only at hSw); obtain ⟨k0, k1, k2⟩ := hSw.1.cells; have hcv := conv_part (HKK.out _ hSw.2) HLK.out 24; have cs := HCS.out _ hSw.2; go_simp; (try rw [if_neg (not_big (by omega))]); try (with_reducible rfl))
            ((try simp only); (try simp only [List.getElem_toArray]); (try simp only [List.getElem_cons_succ]); (try simp only [List.getElem_cons_zero]); (try simp only [Act.put]); (try simp only [List.setIfInBounds_toArray]); (try simp only [List.set_cons_succ]); (try simp only [List.set_cons_zero]))
            refine wpAnyH_take (i := 2) (v := ?_) rfl (by kernel_rfl) (by kernel_rfl) (by kernel_rfl) (fun _ _ _ h => h) (Or.inl ⟨by rfl, ?_⟩) hHeld ?_
            case refine_2 => (intro w hSw; (try dsimp only at hSw); obtain ⟨k0, k1, k2⟩ := hSw.1.cells; have hcv := conv_part (HKK.out _ hSw.2) HLK.out 24; have cs := HCS.out _ hSw.2; go_simp; (try rw [if_neg (not_big (by omega))]); try (with_reducible rfl))
            ((try simp only); (try simp only [List.getElem_toArray]); (try simp only [List.getElem_cons_succ]); (try simp only [List.getElem_cons_zero]); (try simp only [Act.put]); (try simp only [List.setIfInBounds_toArray]); (try simp only [List.set_cons_succ]); (try simp only [List.set_cons_zero]))
            refine wpAnyH_take (i := 3) (v := ?_) rfl (by kernel_rfl) (by kernel_rfl) (by kernel_rfl) (fun _ _ _ h => h) (Or.inl ⟨by rfl, ?_⟩) hHeld ?_
            case refine_2 => (intro w hSw; (try dsimp only at hSw); obtain ⟨k0, k1, k2⟩ := hSw.1.cells; have hcv := conv_part (HKK.out _ hSw.2) HLK.out 24; have cs := HCS.out _ hSw.2; go_simp; (try rw [if_neg (not_big (by omega))]); try (with_reducible rfl))
            ((try simp only); (try simp only [List.getElem_toArray]); (try simp only [List.getElem_cons_succ]); (try simp only [List.getElem_cons_zero]); (try simp only [Act.put]); (try simp only [List.setIfInBounds_toArray]); (try simp only [List.set_cons_succ]); (try simp only [List.set_cons_zero]))
            refine wpAnyH_take (i := 4) (v := ?_) rfl (by kernel_rfl) (by kernel_rfl) (by kernel_rfl) (fun _ _ _ h => h) (Or.inl ⟨by rfl, ?_⟩) hHeld ?_
            case refine_2 => (intro w hSw; (try dsimp only at hSw); obtain ⟨k0, k1, k2⟩ := hSw.1.cells; have hcv := conv_part (HKK.out _ hSw.2) HLK.out 24; have cs := HCS.out _ hSw.2; go_simp; (try rw [if_neg (not_big (by omega))]); try (with_reducible rfl))
            ((try simp only); (try simp only [List.getElem_toArray]); (try simp only [List.getElem_cons_succ]); (try simp only [List.getElem_cons_zero]); (try simp only [Act.put]); (try simp only [List.setIfInBounds_toArray]); (try simp only [List.set_cons_succ]); (try simp only [List.set_cons_zero]))
            refine wpAnyH_take (i := 5) (v := ?_) rfl (by kernel_rfl) (by kernel_rfl) (by kernel_rfl) (fun _ _ _ h => h) (Or.inl ⟨by rfl, ?_⟩) hHeld ?_
            case refine_2 => (intro w hSw; (try dsimp only at hSw); obtain ⟨k0, k1, k2⟩ := hSw.1.cells; have hcv := conv_part (HKK.out _ hSw.2) HLK.out 24; have cs := HCS.out _ hSw.2; go_simp; (try rw [if_neg (not_big (by omega))]); try (with_reducible rfl))
            ((try simp only); (try simp only [List.getElem_toArray]); (try simp only [List.getElem_cons_succ]); (try simp only [List.getElem_cons_zero]); (try simp only [Act.put]); (try simp only [List.setIfInBounds_toArray]); (try simp only [List.set_cons_succ]); (try simp only [List.set_cons_zero]))
            refine wpAnyH_take (i := 6) (v := ?_) rfl (by kernel_rfl) (by kernel_rfl) (by kernel_rfl) (fun _ _ _ h => h) (Or.inl ⟨by rfl, ?_⟩) hHeld ?_
            case refine_2 => (intro w hSw; (try dsimp only at hSw); obtain ⟨k0, k1, k2⟩ := hSw.1.cells; have hcv := conv_part (HKK.out _ hSw.2) HLK.out 24; have cs := HCS.out _ hSw.2; go_simp; (try rw [if_neg (not_big (by omega))]); try (with_reducible rfl))
            ((try simp only); (try simp only [List.getElem_toArray]); (try simp only [List.getElem_cons_succ]); (try simp only [List.getElem_cons_zero]); (try simp only [Act.put]); (try simp only [List.setIfInBounds_toArray]); (try simp only [List.set_cons_succ]); (try simp only [List.set_cons_zero]))
            refine wpAnyH_take (i := 7) (v := ?_) rfl (by kernel_rfl) (by kernel_rfl) (by kernel_rfl) (fun _ _ _ h => h) (Or.inl ⟨by rfl, ?_⟩) hHeld ?_
            case refine_2 => (intro w hSw; (try dsimp only at hSw); obtain ⟨k0, k1, k2⟩ := hSw.1.cells; have hcv := conv_part (HKK.out _ hSw.2) HLK.out 24; have cs := HCS.out _ hSw.2; go_simp; (try rw [if_neg (not_big (by omega))]); try (with_reducible rfl))
            ((try simp only); (try simp only [List.getElem_toArray]); (try simp only [List.getElem_cons_succ]); (try simp only [List.getElem_cons_zero]); (try simp only [Act.put]); (try simp only [List.setIfInBounds_toArray]); (try simp only [List.set_cons_succ]); (try simp only [List.set_cons_zero]))
            refine wpAnyH_take (i := 8) (v := ?_) rfl (by kernel_rfl) (by kernel_rfl) (by kernel_rfl) (fun _ _ _ h => h) (Or.inl ⟨by rfl, ?_⟩) hHeld ?_
            case refine_2 => (intro w hSw; (try dsimp only at hSw); obtain ⟨k0, k1, k2⟩ := hSw.1.cells; have hcv := conv_part (HKK.out _ hSw.2) HLK.out 24; have cs := HCS.out _ hSw.2; go_simp; (try rw [if_neg (not_big (by omega))]); try (with_reducible rfl))
            ((try simp only); (try simp only [List.getElem_toArray]); (try simp only [List.getElem_cons_succ]); (try simp only [List.getElem_cons_zero]); (try simp only [Act.put]); (try simp only [List.setIfInBounds_toArray]); (try simp only [List.set_cons_succ]); (try simp only [List.set_cons_zero]))
            refine wpAnyH_take (i := 9) (v := ?_) rfl (by kernel_rfl) (by kernel_rfl) (by kernel_rfl) (fun _ _ _ h => h) (Or.inl ⟨by rfl, ?_⟩) hHeld ?_
            case refine_2 => (intro w hSw; (try dsimp only at hSw); obtain ⟨k0, k1, k2⟩ := hSw.1.cells; have hcv := conv_part (HKK.out _ hSw.2) HLK.out 24; have cs := HCS.out _ hSw.2; go_simp; (try rw [if_neg (not_big (by omega))]); try (with_reducible rfl))
            ((try simp only); (try simp only [List.getElem_toArray]); (try simp only [List.getElem_cons_succ]); (try simp only [List.getElem_cons_zero]); (try simp only [Act.put]); (try simp only [List.setIfInBounds_toArray]); (try simp only [List.set_cons_succ]); (try simp only [List.set_cons_zero]))
            refine wpAnyH_take (i := 10) (v := ?_) rfl (by kernel_rfl) (by kernel_rfl) (by kernel_rfl) (fun _ _ _ h => h) (Or.inl ⟨by rfl, ?_⟩) hHeld ?_
            case refine_2 => (intro w hSw; (try dsimp only at hSw); obtain ⟨k0, k1, k2⟩ := hSw.1.cells; have hcv := conv_part (HKK.out _ hSw.2) HLK.out 24; have cs := HCS.out _ hSw.2; go_simp; (try rw [if_neg (not_big (by omega))]); try (with_reducible rfl))
            ((try simp only); (try simp only [List.getElem_toArray]); (try simp only [List.getElem_cons_succ]); (try simp only [List.getElem_cons_zero]); (try simp only [Act.put]); (try simp only [List.setIfInBounds_toArray]); (try simp only [List.set_cons_succ]); (try simp only [List.set_cons_zero]))
            refine wpAnyH_take (i := 11) (v := ?_) rfl (by kernel_rfl) (by kernel_rfl) (by kernel_rfl) (fun _ _ _ h => h) (Or.inl ⟨by rfl, ?_⟩) hHeld ?_
            case refine_2 => (intro w hSw; (try dsimp only at hSw); obtain ⟨k0, k1, k2⟩ := hSw.1.cells; have hcv := conv_part (HKK.out _ hSw.2) HLK.out 24; have cs := HCS.out _ hSw.2; go_simp; (try rw [if_neg (not_big (by omega))]); try (with_reducible rfl))
            ((try simp only); (try simp only [List.getElem_toArray]); (try simp only [List.getElem_cons_succ]); (try simp only [List.getElem_cons_zero]); (try simp only [Act.put]); (try simp only [List.setIfInBounds_toArray]); (try simp only [List.set_cons_succ]); (try simp only [List.set_cons_zero]))
            refine wpAnyH_take (i := 12) (v := ?_) rfl (by kernel_rfl) (by kernel_rfl) (by kernel_rfl) (fun _ _ _ h => h) (Or.inl ⟨by rfl, ?_⟩) hHeld ?_
            case refine_2 => (intro w hSw; (try dsimp only at hSw); obtain ⟨k0, k1, k2⟩ := hSw.1.cells; have hcv := conv_part (HKK.out _ hSw.2) HLK.out 24; have cs := HCS.out _ hSw.2; go_simp; (try rw [if_neg (not_big (by omega))]); try (with_reducible rfl))
            ((try simp only); (try simp only [List.getElem_toArray]); (try simp only [List.getElem_cons_succ]); (try simp only [List.getElem_cons_zero]); (try simp only [Act.put]); (try simp only [List.setIfInBounds_toArray]); (try simp only [List.set_cons_succ]); (try simp only [List.set_cons_zero]))
            refine wpAnyH_take (i := 13) (v := ?_) rfl (by kernel_rfl) (by kernel_rfl) (by kernel_rfl) (fun _ _ _ h => h) (Or.inl ⟨by rfl, ?_⟩) hHeld ?_
            case refine_2 => (intro w hSw; (try dsimp only at hSw); obtain ⟨k0, k1, k2⟩ := hSw.1.cells; have hcv := conv_part (HKK.out _ hSw.2) HLK.out 24; have cs := HCS.out _ hSw.2; go_simp; (try rw [if_neg (not_big (by omega))]); try (with_reducible rfl))
            ((try simp only); (try simp only [List.getElem_toArray]); (try simp only [List.getElem_cons_succ]); (try simp only [List.getElem_cons_zero]); (try simp only [Act.put]); (try simp only [List.setIfInBounds_toArray]); (try simp only [List.set_cons_succ]); (try simp only [List.set_cons_zero]))
            refine wpAnyH_take (i := 14) (v := ?_) rfl (by kernel_rfl) (by kernel_rfl) (by kernel_rfl) (fun _ _ _ h => h) (Or.inl ⟨by rfl, ?_⟩) hHeld ?_
            case refine_2 => (intro w hSw; (try dsimp only at hSw); obtain ⟨k0, k1, k2⟩ := hSw.1.cells; have hcv := conv_part (HKK.out _ hSw.2) HLK.out 24; have cs := HCS.out _ hSw.2; go_simp; (try rw [if_neg (not_big (by omega))]); try (with_reducible rfl))
            ((try simp only); (try simp only [List.getElem_toArray]); (try simp only [List.getElem_cons_succ]); (try simp only [List.getElem_cons_zero]); (try simp only [Act.put]); (try simp only [List.setIfInBounds_toArray]); (try simp only [List.set_cons_succ]); (try simp only [List.set_cons_zero]))
            refine wpAnyH_ready (rs := [15]) (by kernel_rfl) (by simp) (AllReadyH.cons rfl (fun K hK => ?_) AllReadyH.nil)
            rw [if_pos (by rfl)]
            ((try simp only); (try simp only [List.getElem_toArray]); (try simp only [List.getElem_cons_succ]); (try simp only [List.getElem_cons_zero]); (try simp only [Act.put]); (try simp only [List.setIfInBounds_toArray]); (try simp only [List.set_cons_succ]); (try simp only [List.set_cons_zero]))
            go_simp
            refine (number_at _ _ bn 4 (by omega) HNL (by first | rfl | omega)).mono ?_
            rintro e y1 ⟨rfl, by1⟩
            refine hK.out _ _ ⟨hHeld.1.below by1 hHeld.1.lt, hHeld.2.trans (by1.mono hHeld.2.size)⟩ (fun g1 => ?_)
            clear hK K
            ((try simp only); (try simp only [List.getElem_toArray]); (try simp only [List.getElem_cons_succ]); (try simp only [List.getElem_cons_zero]); (try simp only [Act.put]); (try simp only [List.setIfInBounds_toArray]); (try simp only [List.set_cons_succ]); (try simp only [List.set_cons_zero]))
            refine wpAnyH_take (i := 16) (v := ?_) rfl (by kernel_rfl) (by kernel_rfl) (by kernel_rfl) (fun _ _ _ h => h) (Or.inl ⟨by rfl, ?_⟩) g1 ?_
            case refine_2 => (intro w hSw; (try dsimp only at hSw); obtain ⟨k0, k1, k2⟩ := hSw.1.cells; have hcv := conv_part (HKK.out _ hSw.2) HLK.out 24; have cs := HCS.out _ hSw.2; go_simp; (try rw [if_neg (not_big (by omega))]); try (with_reducible rfl))
            ((try simp only); (try simp only [List.getElem_toArray]); (try simp only [List.getElem_cons_succ]); (try simp only [List.getElem_cons_zero]); (try simp only [Act.put]); (try simp only [List.setIfInBounds_toArray]); (try simp only [List.set_cons_succ]); (try simp only [List.set_cons_zero]))
            refine wpAnyH_take (i := 17) (v := ?_) rfl (by kernel_rfl) (by kernel_rfl) (by kernel_rfl) (fun _ _ _ h => h) (Or.inl ⟨by rfl, ?_⟩) g1 ?_
            case refine_2 => (intro w hSw; (try dsimp only at hSw); obtain ⟨k0, k1, k2⟩ := hSw.1.cells; have hcv := conv_part (HKK.out _ hSw.2) HLK.out 24; have cs := HCS.out _ hSw.2; go_simp; (try rw [if_neg (not_big (by omega))]); try (with_reducible rfl))
            ((try simp only); (try simp only [List.getElem_toArray]); (try simp only [List.getElem_cons_succ]); (try simp only [List.getElem_cons_zero]); (try simp only [Act.put]); (try simp only [List.setIfInBounds_toArray]); (try simp only [List.set_cons_succ]); (try simp only [List.set_cons_zero]))
            refine wpAnyH_done (by kernel_rfl) ?_ _
            refine NoPanic.normal ?_
            have HUV : Hid (HasN y1 w.heap.size ⟨(lv : Int), ps, ks⟩ (.slice ap P cp) (.slice (some ⟨ga, oa, none⟩) Q cq)) := g1.1
            have HBV : Hid (Below w.heap.size w y1) := g1.2
            clear UW BW g1 hHeld by1 HKK HCS
            go_wp2
            go_round
            case rel => exact ⟨k + 1, by omega, by go_num, by rw [← HC.out], HUV.out, HBV.out⟩
            case measure => simp [intOf]; omega
          · have e : k = Q := by omega
            have HE0 : Hid (E2 ++ encK (ks.take k) = encB ⟨(lv : Int), ps, ks⟩) := (show _ = _ by rw [e, HQ.out, List.take_length, HE2.out, HEH.out, encB]; simp)
            obtain ⟨E3, hE3⟩ : ∃ E3, E3 = encB ⟨(lv : Int), ps, ks⟩ := ⟨_, rfl⟩
            have HE3 : Hid (E3 = encB ⟨(lv : Int), ps, ks⟩) := hE3
            have hl3 : E3.length ≤ 508 := by rw [hE3]; exact HEB.out
            rw [HE0.out, ← hE3]
            clear hE3 HE0 e
            obtain ⟨m, hm⟩ : ∃ m : Nat, 512 - E3.length = m := ⟨_, rfl⟩
            have HM : Hid ((512 : Int) - (E3.length : Int) = (m : Int)) := (show _ = _ by omega)
            have HMW : Hid (wrap64 ((512 : Int) - (E3.length : Int)) = (m : Int)) := (show _ = _ by unfold wrap64; omega)
            have HFIN : Hid (E3 ++ List.replicate m 0 = enc ⟨(lv : Int), ps, ks⟩) := (show _ = _ by rw [enc, ← HE3.out, hm])
            have hm5 : m ≤ 512 := by omega
            have sl : ∀ n : Nat, (List.replicate n (0 : UInt8)).length = n := fun n => List.length_replicate
            have HB9 : Hid (Below w.heap.size w wr) := BW
            clear hm UW BW
            go_wp2_with (at_make; (refine make_zeros (.tmp 84) (.tmp 84) rfl rfl m _ rfl rfl (by first | exact HM.out | exact HMW.out) (by omega) ?_); intro w9 ow gr; have hcv := conv_bytes (own_byt ow).choose_spec.1; have HB8 : Hid (Below w.heap.size w w9) := HB9.out.grown gr HB9.out.size (fun k hk => by cases hk))
            go_ret2
            exact ⟨HB8.out, .inr ⟨HR.out, by rw [← HFIN.out]; rfl⟩⟩
end Go.Proofs.Ytggbnacpgkbieaa
