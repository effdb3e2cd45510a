/- What the document's own Clone and Same come to. -/
import Derived.Test.YtpgepejleklpfaaRpE
namespace Go.Proofs.Ytpgepejleklpfaa
set_option linter.unusedVariables false
open Go.RowKit
attribute [local go_sem ↓] Go.wp_at_zero Go.wp_at_succ

theorem step_append_own {P : Program} (w : World) {ops : Array Oper} {o : Oper} {a : Act} {K : Act → World → Prop} {Q : Exit → Act → World → Prop} {E : Prop} (hgd : o.guard = none) (s x : Operand) (t : TypeId)
    (ho : o.op = .call { callee := .builtin .append, args := #[s, x], argTypes := #[t, t] })
    (base : Nat) (e : TypeId) (i : TypeInfo) (z : Value) (size bytes : Nat) (ht : P.underlying t = some (.slice e)) (hi : P.info? e = some i) (hz : i.zero = some z)
    (hsize : i.size = size) (hby : i.bytes = bytes) (hzs : z.cells.size = size) (hsz : 0 < size)
    (v : Value) (n : Nat) (xs : List Value) (hs : a.eval s = v) (hown : w.ownsRow base e size v n xs)
    (ad : Addr) (m c : Nat) (news : List Value) (hx : a.eval x = .slice (some ad) m c) (hl : news.length = m * size) (hnews : ∀ j u, news[j]? = some u → w.cell? (ad.add j) = some u) (h1 : ∀ u ∈ news, u.oneCell' = true)
    (h63 : n + m ≤ maxLen) (hbytes : (n + m) * bytes ≤ 140737488355328) (hbase : base ≤ w.heap.size)
    (h : ∀ v' w', w'.ownsRow base e size v' (n + m) (xs ++ news) → w.grownBy w' v.ownBlock → K (a.put o.dst v') w') :
    if Region.wanted o (yielded ops a.tmps) = true then Oper.wp P o a w K Q else E := by
  have hw : Region.wanted o (yielded ops a.tmps) = true := by simp [Region.wanted, hgd]
  rw [if_pos hw]
  exact wp_append_own w s x t ho base e i z size bytes ht hi hz hsize hby hzs hsz v n xs hs hown ad m c news hx hl hnews h1 h63 hbytes hbase fun v' w' h2 h3 _ => h v' w' h2 h3
theorem own_form2 {w : World} {bs n size : Nat} {e : TypeId} {v : Value} {xs : List Value} (h : w.ownsRow bs e size v n xs) : ∃ a c, v = .slice a n c := by
  rcases h.2 with ⟨rfl, rfl⟩ | ⟨g, cap, cur, rfl, _⟩ <;> exact ⟨_, _, rfl⟩
/-- A clone: new memory alone. -/
def Cl (w : World) (B : Int) (L : PL) (e : Ending) (w' : World) : Prop := ∃ q lv, e = .returned (.pointer (some ⟨q, 0, none⟩)) ∧ w.heap.size ≤ q ∧ RD w' q lv B L w.heap.size ∧ Below w.heap.size w w'
theorem cl_end {w w2 : World} {B : Int} {L : PL} {v : Value} (ho : w2.ownsRow w.heap.size 60 2 v L.length (f2 L)) (hb : Below w.heap.size w w2) : Cl w B L (.returned (.pointer (some ⟨w2.heap.size, 0, none⟩))) (w2.alloc (.cells #[.int .i64 B, v] 56)) := by
  have hs := hb.size
  refine ⟨_, v, rfl, hs, ⟨heap_alloc_new _ _, World.ownsRow.alloc ho _, fun k hk => by have := (World.ownsRow.lt ho k hk).2; omega⟩, hb.alloc hs _⟩
set_option maxHeartbeats 4000000 in
set_option maxRecDepth 100000 in
theorem rclone_calls (w : World) (q : Nat) (lv : Value) (B : Int) (L : PL) (bs : Nat) (h : RD w q lv B L bs) (hL : L.length ≤ 1000) : Calls Try.prog 12 #[.pointer (some ⟨q, 0, none⟩)] w fun e w' => Cl w B L e w' := by
  obtain ⟨c0, c1⟩ := cells2 h.blk
  obtain ⟨i0, hi, hz0, hz1, hz2⟩ := info_parts Try.info_ref
  have hq := h.lt
  have e1 : (w.alloc (.cells #[] 60)).heap.size = w.heap.size + 1 := by simp
  have HO : Hid ((w.alloc (.cells #[] 60)).ownsRow w.heap.size 60 2 (.slice (some ⟨w.heap.size, 0, none⟩) 0 0) 0 []) := World.ownsRow_made w #[] 0 (Nat.le_refl _) (Nat.zero_le _) (by simp)
  have HB : Hid (Below w.heap.size w (w.alloc (.cells #[] 60)).drew) := ((Below.refl _ w).alloc (Nat.le_refl _) _).drew
  rcases h.row.2 with ⟨rfl, hl0⟩ | ⟨g, cap, cur, rfl, h3, h4, h5, h6, h7, h8⟩
  · have hLn : L = [] := List.eq_nil_of_length_eq_zero hl0
    subst hLn
    have HE : Hid (Cl w B [] (.returned (.pointer (some ⟨(w.alloc (.cells #[] 60)).heap.size, 0, none⟩))) ((w.alloc (.cells #[] 60)).drew.alloc (.cells #[.int .i64 B, .slice (some ⟨w.heap.size, 0, none⟩) 0 0] 56))) := cl_end (w2 := (w.alloc (.cells #[] 60)).drew) HO.out HB.out
    clear h hL
    go_enter Try.func12, Try.ntmps12
    go_wp2
    go_region
    all_goals
      go_wp2
      go_ret
      have h9 := HE.out
      rw [e1] at h9
      exact h9
  · have hg := lt_block h4
    have HN1 : Hid (∀ i u, (f2 L)[i]? = some u → (w.alloc (.cells #[] 60)).drew.cell? ((⟨g, 0, none⟩ : Addr).add i) = some u) := fun i u hu => by
      rw [add_lit, Nat.zero_add]
      have h9 := World.ownsRow.cellAt (g := g) h.row i (by have := (List.getElem?_eq_some_iff.1 hu).1; rw [f2_length] at this; exact this)
      rw [hu] at h9
      exact Lib.cell?_alloc_some _ h9
    have HL2 : Hid ((f2 L).length = L.length * 2) := f2_length L
    have HL1 : Hid (∀ u ∈ f2 L, u.oneCell' = true) := f2_one L
    clear h h3 h4 h7 h8
    generalize hN : L.length = N at *
    have HN : Hid (L.length = N) := hN
    clear hN
    have HC : Hid (∀ w', Below w.heap.size w w' → w'.cell? ⟨q, 0, none⟩ = some (.int .i64 B) ∧ w'.cell? ⟨q, 1, none⟩ = some (.slice (some ⟨g, 0, none⟩) N cap)) := fun w' hb => ⟨(World.cell?_of_block (hb.block q hq)).trans c0, (World.cell?_of_block (hb.block q hq)).trans c1⟩
    go_enter Try.func12, Try.ntmps12
    go_wp2
    go_region_law ((refine step_append_own _ (by rfl) (.tmp 7) (.tmp 11) 54 (by rfl) w.heap.size 60 i0 (.agg #[.int .i64 0, .int .i64 0]) 2 16 Try.underlying54 hi hz0 hz1 hz2 rfl (by omega) (.slice (some ⟨w.heap.size, 0, none⟩) 0 0) 0 [] (by rfl) (by exact HO.out) ⟨g, 0, none⟩ N cap (f2 L) (by rfl) (by exact HL2.out) (by exact HN1.out) (by exact HL1.out) (by unfold maxLen; omega) (by omega) (by rw [show (w.alloc (.cells #[] 60)).drew.heap.size = w.heap.size + 1 from e1]; omega) ?_; intro v2 w2 hown2 hgrow2; obtain ⟨a2, c2, rfl⟩ := own_form2 hown2; have hb2 : Below w.heap.size w w2 := HB.out.grown hgrow2 (by rw [show (w.alloc (.cells #[] 60)).drew.heap.size = w.heap.size + 1 from e1]; omega) (fun z hz => by have e9 : some w.heap.size = some z := hz; cases e9; omega); have k0 := (HC.out _ hb2).1))
    all_goals
      go_wp2
      go_ret
      refine cl_end (L := L) ?_ hb2
      rw [HN.out]
      rw [Nat.zero_add] at hown2
      exact hown2

/-! Same. -/
theorem range_two {w : World} {g o : Nat} {u v : Value} (h1 : w.cell? ⟨g, o, none⟩ = some u) (h2 : w.cell? ⟨g, o + 1, none⟩ = some v) : w.drew.rangeAt g o [u, v] := by
  intro j z hz
  match j, hz with
  | 0, hz => cases hz; exact h1
  | 1, hz => cases hz; exact h2
theorem Try.ref_size : (Try.prog.info? 60).map (·.size) = some 2 := by kernel_rfl
theorem part_int (cs : Array Value) (o : Nat) (v : Int) (h : cs[o]? = some (.int .i64 v)) (w : World) : (part 3 cs o).run Try.prog w = .ok (.int .i64 v) w := by
  simp only [part, Sem.run_bind, Try.isAgg3, Result.andThen_ok, h]
  simp
theorem eq_i (d : Nat) (a b : Int) (w : World) : (Op.equalIn (d + 1) 3 (.int .i64 a) (.int .i64 b)).run Try.prog w = .ok (a == b) w := run_equalIn_int w d 3 .i64 .i64 a b Try.underlying3
theorem eqFields_cons (d : Nat) (xs ys : Array Value) (f : Field) (fs : List Field) (a b : Value) (q : Bool) (w : World) (hn : (f.name == "_") = false) (h1 : ∀ w, (part f.type xs f.offset).run Try.prog w = .ok a w) (h2 : ∀ w, (part f.type ys f.offset).run Try.prog w = .ok b w) (h3 : ∀ w, (Op.equalIn d f.type a b).run Try.prog w = .ok q w) :
    (Op.eqFields d xs ys (f :: fs)).run Try.prog w = if q then (Op.eqFields d xs ys fs).run Try.prog w else .ok false w := by
  have hne : ¬ f.name = "_" := by simpa using hn
  cases q <;> simp [Op.eqFields, hne, h1, h2, h3]
theorem fields_ref : (Try.prog.fieldsOf 60).toList.map (fun f => (f.name == "_", f.type, f.offset)) = [(false, 3, 0), (false, 3, 1)] := by kernel_rfl
theorem struct_ref : Try.prog.underlying 60 = some (.struct (Try.prog.fieldsOf 60)) := by
  unfold Program.fieldsOf
  rw [Try.underlying60]
def rv (p : Int × Int) : Value := .agg #[.int .i64 p.1, .int .i64 p.2]
theorem eq_ref (a b : Int × Int) (w : World) : (Op.equalIn 10000 60 (rv a) (rv b)).run Try.prog w = .ok (decide (a = b)) w := by
  have hp : Try.prog.stoodInHeld 60 = false := by kernel_rfl
  unfold rv
  rw [run_equalIn_struct w 9999 60 _ _ struct_ref hp]
  have hf := fields_ref
  generalize (Try.prog.fieldsOf 60).toList = fl at hf ⊢
  rcases fl with _ | ⟨f0, _ | ⟨f1, _ | ⟨f2, fl⟩⟩⟩
  · simp at hf
  · simp at hf
  · simp only [List.map_cons, List.map_nil, List.cons.injEq, Prod.mk.injEq] at hf
    obtain ⟨⟨a1, a2, a3⟩, ⟨b1, b2, b3⟩, _⟩ := hf
    rw [eqFields_cons _ _ _ _ _ (.int .i64 a.1) (.int .i64 b.1) (a.1 == b.1) w a1 (by rw [a2, a3]; exact part_int _ _ _ rfl) (by rw [a2, a3]; exact part_int _ _ _ rfl) (by rw [a2]; exact eq_i 9998 _ _),
      eqFields_cons _ _ _ _ _ (.int .i64 a.2) (.int .i64 b.2) (a.2 == b.2) w b1 (by rw [b2, b3]; exact part_int _ _ _ rfl) (by rw [b2, b3]; exact part_int _ _ _ rfl) (by rw [b2]; exact eq_i 9998 _ _)]
    obtain ⟨x, y⟩ := a
    obtain ⟨z, t⟩ := b
    simp only [Op.eqFields, Sem.run_pure]
    by_cases h1 : x = z <;> by_cases h2 : y = t <;> simp [h1, h2]
  · simp at hf
theorem exec_ne_ref {f : Operand → Value} {o : Oper} (x y : Operand) (t' : TypeId) (ho : o.op = .binOp .neq 60 x y t') (a b : Int × Int) (hx : f x = rv a) (hy : f y = rv b) (w : World) : (execOp f o).run Try.prog w = .ok (.value (.bool (!decide (a = b)))) w := by
  unfold execOp
  rw [ho]
  have hm : Try.prog.eqGuardType Try.prog.depth 60 = false := by kernel_rfl
  have e := eq_ref a b w
  unfold rv at hx hy e
  simp only [hx, hy, Sem.run_bind, run_eqGuard_agg w .neq 60 x y _ _ hm, run_neq_struct, e, Result.andThen_ok, Sem.run_pure]
set_option maxHeartbeats 4000000 in
set_option maxRecDepth 100000 in
theorem rsame_calls (w : World) (q u : Nat) (lv mv : Value) (B C : Int) (L M : PL) (bs cs : Nat) (h : RD w q lv B L bs) (h2 : RD w u mv C M cs) : Calls Try.prog 15 #[.pointer (some ⟨q, 0, none⟩), .pointer (some ⟨u, 0, none⟩)] w fun e w' => e = .returned (.bool (decide (B = C ∧ L = M))) ∧ ∃ n, w' = w.drewN n := by
  obtain ⟨c0, c1⟩ := cells2 h.blk
  obtain ⟨d0, d1⟩ := cells2 h2.blk
  have hm := h.max
  by_cases hB : B = C
  · subst hB
    by_cases hN : L.length = M.length
    · have HE : Hid (decide (B = B ∧ L = M) = decide (L = M)) := by show _ = _; simp
      have HR1 : Hid (RD w q lv B L bs) := h
      have HR2 : Hid (RD w u mv B M cs) := h2
      obtain ⟨la, lc, rfl⟩ := h.form
      obtain ⟨ma, mc, rfl⟩ := h2.form
      rw [← hN] at d1
      have HM : Hid (∀ k : Nat, k < L.length → wrap64 ((k : Int) + 1) = ((k + 1 : Nat) : Int)) := fun k hk => num_s hk hm
      have HNN : Hid (L.length = M.length) := hN
      clear h h2 hm hN
      obtain ⟨N, hN⟩ : ∃ N, N = L.length := ⟨_, rfl⟩
      have HN : Hid (N = L.length) := hN
      rw [← hN] at c1 d1
      clear hN
      have ed0 : w.drew.cell? ⟨q, 0, none⟩ = some (.int .i64 B) := c0
      have ed1 : w.drew.cell? ⟨q, 1, none⟩ = some (.slice la N lc) := c1
      have ed2 : w.drew.cell? ⟨u, 0, none⟩ = some (.int .i64 B) := d0
      have ed3 : w.drew.cell? ⟨u, 1, none⟩ = some (.slice ma N mc) := d1
      go_enter Try.func15, Try.ntmps15
      go_wp2
      go_quiet (fail)
      go_wp2
      go_loopg [5] N (fun g i wr => ∃ k n : Nat, k + g = N ∧ i = .int .i64 (k : Int) ∧ wr = w.drewN n ∧ Hid (L.take k = M.take k))
      case atStart => exact ⟨0, _, by omega, rfl, rfl, (show _ = _ from rfl)⟩
      case round =>
        obtain ⟨k, n, hk, rfl, rfl, HT⟩ := hrel
        clear ed0 ed1 ed2 ed3
        have f1 : (w.drewN n).cell? ⟨q, 1, none⟩ = some (.slice la N lc) := c1
        have f3 : (w.drewN n).cell? ⟨u, 1, none⟩ = some (.slice ma N mc) := d1
        cases gk with
        | zero =>
          have e : k = N := by omega
          subst e
          have HX : Hid (decide (L = M) = true) := by show _ = _; have := HT.out; rw [HN.out, List.take_length, HNN.out, List.take_length] at this; simp [this]
          go_wp2_with fail
          go_ret
          exact ⟨by rw [HE.out, HX.out]; rfl, n, rfl⟩
        | succ g =>
          have hlt : (k : Int) < (N : Int) := by omega
          have hkl : k < L.length := by have := HN.out; omega
          have hkm : k < M.length := by have := HNN.out; omega
          obtain ⟨g1, x1, e1, hx1, a1, a2⟩ := HR1.out.at hkl
          obtain ⟨g2, x2, e2, hx2, b1, b2⟩ := HR2.out.at hkm
          rw [← HN.out] at e1 hx1
          cases e1
          rw [← HNN.out, ← HN.out] at hx2
          have e3 : ma = some ⟨g2, 0, none⟩ ∧ mc = x2 := by cases e2; exact ⟨rfl, rfl⟩
          obtain ⟨rfl, rfl⟩ := e3
          clear e2
          have A1 : (w.drewN n).cell? ⟨g1, k * 2, none⟩ = some (.int .i64 L[k].1) := a1
          have A2 : (w.drewN n).cell? ⟨g1, k * 2 + 1, none⟩ = some (.int .i64 L[k].2) := a2
          have B1 : (w.drewN n).cell? ⟨g2, k * 2, none⟩ = some (.int .i64 M[k].1) := b1
          have B2 : (w.drewN n).cell? ⟨g2, k * 2 + 1, none⟩ = some (.int .i64 M[k].2) := b2
          have HT1 : Hid (L.take (k + 1) = L.take k ++ [L[k]] ∧ M.take (k + 1) = M.take k ++ [M[k]]) := ⟨List.take_succ_eq_append_getElem hkl, List.take_succ_eq_append_getElem hkm⟩
          have HNE : Hid (L[k] ≠ M[k] → decide (L = M) = false) := fun hne => by
            rw [decide_eq_false]
            intro e
            subst e
            exact hne rfl
          generalize L[k] = x at *
          generalize M[k] = y at *
          have rA : (w.drewN n).drew.rangeAt g1 (k * 2) [.int .i64 x.1, .int .i64 x.2] := range_two A1 A2
          have rB : (w.drewN n).drew.rangeAt g2 (k * 2) [.int .i64 y.1, .int .i64 y.2] := range_two B1 B2
          have cA : (w.drewN n).drew.cell? ⟨q, 1, none⟩ = some (.slice (some ⟨g1, 0, none⟩) N lc) := c1
          have cB : (w.drewN n).drew.cell? ⟨u, 1, none⟩ = some (.slice (some ⟨g2, 0, none⟩) N mc) := d1
          clear a1 a2 b1 b2 A1 A2 B1 B2
          go_upto_region 6 with fail
          refine wp_region_noPanic ?_
          refine wp_region_held_drew (S := (fun yy => (yy.cell? ⟨q, 1, none⟩ = some (.slice (some ⟨g1, 0, none⟩) N lc) ∧ yy.cell? ⟨u, 1, none⟩ = some (.slice (some ⟨g2, 0, none⟩) N mc)) ∧ yy.rangeAt g1 (k * 2) [.int .i64 x.1, .int .i64 x.2] ∧ yy.rangeAt g2 (k * 2) [.int .i64 y.1, .int .i64 y.2])) (by kernel_rfl) ⟨⟨cA, cB⟩, rA, rB⟩ (fun hHeld => ?_)
          refine wpAnyH_take (i := 0) (v := ?_) rfl (by kernel_rfl) (by kernel_rfl) (by kernel_rfl) (fun _ _ _ h => h) (Or.inl ⟨by rfl, ?_⟩) hHeld ?_
          case refine_2 => (intro w hSw; (try dsimp only at hSw); obtain ⟨⟨z1, z2⟩, z3, z4⟩ := hSw; go_simp; try (with_reducible rfl))
          ((try simp only); (try simp only [List.getElem_toArray]); (try simp only [List.getElem_cons_succ]); (try simp only [List.getElem_cons_zero]); (try simp only [Act.put]); (try simp only [List.setIfInBounds_toArray]); (try simp only [List.set_cons_succ]); (try simp only [List.set_cons_zero]))
          refine wpAnyH_take (i := 1) (v := ?_) rfl (by kernel_rfl) (by kernel_rfl) (by kernel_rfl) (fun _ _ _ h => h) (Or.inl ⟨by rfl, ?_⟩) hHeld ?_
          case refine_2 => (intro w hSw; (try dsimp only at hSw); obtain ⟨⟨z1, z2⟩, z3, z4⟩ := hSw; go_simp; try (with_reducible rfl))
          ((try simp only); (try simp only [List.getElem_toArray]); (try simp only [List.getElem_cons_succ]); (try simp only [List.getElem_cons_zero]); (try simp only [Act.put]); (try simp only [List.setIfInBounds_toArray]); (try simp only [List.set_cons_succ]); (try simp only [List.set_cons_zero]))
          refine wpAnyH_take (i := 2) (v := ?_) rfl (by kernel_rfl) (by kernel_rfl) (by kernel_rfl) (fun _ _ _ h => h) (Or.inl ⟨by rfl, ?_⟩) hHeld ?_
          case refine_2 => (intro w hSw; (try dsimp only at hSw); obtain ⟨⟨z1, z2⟩, z3, z4⟩ := hSw; go_simp; try (with_reducible rfl))
          ((try simp only); (try simp only [List.getElem_toArray]); (try simp only [List.getElem_cons_succ]); (try simp only [List.getElem_cons_zero]); (try simp only [Act.put]); (try simp only [List.setIfInBounds_toArray]); (try simp only [List.set_cons_succ]); (try simp only [List.set_cons_zero]))
          refine wpAnyH_take (i := 3) (v := ?_) rfl (by kernel_rfl) (by kernel_rfl) (by kernel_rfl) (fun _ _ _ h => h) (Or.inl ⟨by rfl, ?_⟩) hHeld ?_
          case refine_2 => (intro w hSw; (try dsimp only at hSw); obtain ⟨⟨z1, z2⟩, z3, z4⟩ := hSw; go_simp; try (with_reducible rfl))
          ((try simp only); (try simp only [List.getElem_toArray]); (try simp only [List.getElem_cons_succ]); (try simp only [List.getElem_cons_zero]); (try simp only [Act.put]); (try simp only [List.setIfInBounds_toArray]); (try simp only [List.set_cons_succ]); (try simp only [List.set_cons_zero]))
          refine wpAnyH_take (i := 4) (v := ?_) rfl (by kernel_rfl) (by kernel_rfl) (by kernel_rfl) (fun _ _ _ h => h) (Or.inl ⟨by rfl, ?_⟩) hHeld ?_
          case refine_2 => (intro w hSw; (try dsimp only at hSw); obtain ⟨⟨z1, z2⟩, z3, z4⟩ := hSw; go_simp; try (with_reducible rfl))
          ((try simp only); (try simp only [List.getElem_toArray]); (try simp only [List.getElem_cons_succ]); (try simp only [List.getElem_cons_zero]); (try simp only [Act.put]); (try simp only [List.setIfInBounds_toArray]); (try simp only [List.set_cons_succ]); (try simp only [List.set_cons_zero]))
          refine wpAnyH_take (i := 5) (v := ?_) rfl (by kernel_rfl) (by kernel_rfl) (by kernel_rfl) (fun _ _ _ h => h) (Or.inl ⟨by rfl, ?_⟩) hHeld ?_
          case refine_2 => (intro w hSw; (try dsimp only at hSw); obtain ⟨⟨z1, z2⟩, z3, z4⟩ := hSw; go_simp; try (with_reducible rfl))
          ((try simp only); (try simp only [List.getElem_toArray]); (try simp only [List.getElem_cons_succ]); (try simp only [List.getElem_cons_zero]); (try simp only [Act.put]); (try simp only [List.setIfInBounds_toArray]); (try simp only [List.set_cons_succ]); (try simp only [List.set_cons_zero]))
          refine wpAnyH_take (i := 6) rfl (by kernel_rfl) (by kernel_rfl) (by kernel_rfl) (fun _ _ _ h => h) (yieldsIf_load_mid (by rfl) _ _ rfl g1 (k * 2) rfl [.int .i64 x.1, .int .i64 x.2] _ (fun _ h => h.2.1) Try.underlying60 rfl Try.ref_size) hHeld ?_
          ((try simp only); (try simp only [List.getElem_toArray]); (try simp only [List.getElem_cons_succ]); (try simp only [List.getElem_cons_zero]); (try simp only [Act.put]); (try simp only [List.setIfInBounds_toArray]); (try simp only [List.set_cons_succ]); (try simp only [List.set_cons_zero]))
          refine wpAnyH_take (i := 7) (v := ?_) rfl (by kernel_rfl) (by kernel_rfl) (by kernel_rfl) (fun _ _ _ h => h) (Or.inl ⟨by rfl, ?_⟩) hHeld ?_
          case refine_2 => (intro w hSw; (try dsimp only at hSw); obtain ⟨⟨z1, z2⟩, z3, z4⟩ := hSw; go_simp; try (with_reducible rfl))
          ((try simp only); (try simp only [List.getElem_toArray]); (try simp only [List.getElem_cons_succ]); (try simp only [List.getElem_cons_zero]); (try simp only [Act.put]); (try simp only [List.setIfInBounds_toArray]); (try simp only [List.set_cons_succ]); (try simp only [List.set_cons_zero]))
          refine wpAnyH_take (i := 8) (v := ?_) rfl (by kernel_rfl) (by kernel_rfl) (by kernel_rfl) (fun _ _ _ h => h) (Or.inl ⟨by rfl, ?_⟩) hHeld ?_
          case refine_2 => (intro w hSw; (try dsimp only at hSw); obtain ⟨⟨z1, z2⟩, z3, z4⟩ := hSw; go_simp; try (with_reducible rfl))
          ((try simp only); (try simp only [List.getElem_toArray]); (try simp only [List.getElem_cons_succ]); (try simp only [List.getElem_cons_zero]); (try simp only [Act.put]); (try simp only [List.setIfInBounds_toArray]); (try simp only [List.set_cons_succ]); (try simp only [List.set_cons_zero]))
          refine wpAnyH_take (i := 9) (v := ?_) rfl (by kernel_rfl) (by kernel_rfl) (by kernel_rfl) (fun _ _ _ h => h) (Or.inl ⟨by rfl, ?_⟩) hHeld ?_
          case refine_2 => (intro w hSw; (try dsimp only at hSw); obtain ⟨⟨z1, z2⟩, z3, z4⟩ := hSw; go_simp; try (with_reducible rfl))
          ((try simp only); (try simp only [List.getElem_toArray]); (try simp only [List.getElem_cons_succ]); (try simp only [List.getElem_cons_zero]); (try simp only [Act.put]); (try simp only [List.setIfInBounds_toArray]); (try simp only [List.set_cons_succ]); (try simp only [List.set_cons_zero]))
          refine wpAnyH_take (i := 10) (v := ?_) rfl (by kernel_rfl) (by kernel_rfl) (by kernel_rfl) (fun _ _ _ h => h) (Or.inl ⟨by rfl, ?_⟩) hHeld ?_
          case refine_2 => (intro w hSw; (try dsimp only at hSw); obtain ⟨⟨z1, z2⟩, z3, z4⟩ := hSw; go_simp; try (with_reducible rfl))
          ((try simp only); (try simp only [List.getElem_toArray]); (try simp only [List.getElem_cons_succ]); (try simp only [List.getElem_cons_zero]); (try simp only [Act.put]); (try simp only [List.setIfInBounds_toArray]); (try simp only [List.set_cons_succ]); (try simp only [List.set_cons_zero]))
          refine wpAnyH_take (i := 11) (v := ?_) rfl (by kernel_rfl) (by kernel_rfl) (by kernel_rfl) (fun _ _ _ h => h) (Or.inl ⟨by rfl, ?_⟩) hHeld ?_
          case refine_2 => (intro w hSw; (try dsimp only at hSw); obtain ⟨⟨z1, z2⟩, z3, z4⟩ := hSw; go_simp; try (with_reducible rfl))
          ((try simp only); (try simp only [List.getElem_toArray]); (try simp only [List.getElem_cons_succ]); (try simp only [List.getElem_cons_zero]); (try simp only [Act.put]); (try simp only [List.setIfInBounds_toArray]); (try simp only [List.set_cons_succ]); (try simp only [List.set_cons_zero]))
          refine wpAnyH_take (i := 12) (v := ?_) rfl (by kernel_rfl) (by kernel_rfl) (by kernel_rfl) (fun _ _ _ h => h) (Or.inl ⟨by rfl, ?_⟩) hHeld ?_
          case refine_2 => (intro w hSw; (try dsimp only at hSw); obtain ⟨⟨z1, z2⟩, z3, z4⟩ := hSw; go_simp; try (with_reducible rfl))
          ((try simp only); (try simp only [List.getElem_toArray]); (try simp only [List.getElem_cons_succ]); (try simp only [List.getElem_cons_zero]); (try simp only [Act.put]); (try simp only [List.setIfInBounds_toArray]); (try simp only [List.set_cons_succ]); (try simp only [List.set_cons_zero]))
          refine wpAnyH_take (i := 13) rfl (by kernel_rfl) (by kernel_rfl) (by kernel_rfl) (fun _ _ _ h => h) (yieldsIf_load_mid (by rfl) _ _ rfl g2 (k * 2) rfl [.int .i64 y.1, .int .i64 y.2] _ (fun _ h => h.2.2) Try.underlying60 rfl Try.ref_size) hHeld ?_
          ((try simp only); (try simp only [List.getElem_toArray]); (try simp only [List.getElem_cons_succ]); (try simp only [List.getElem_cons_zero]); (try simp only [Act.put]); (try simp only [List.setIfInBounds_toArray]); (try simp only [List.set_cons_succ]); (try simp only [List.set_cons_zero]))
          refine wpAnyH_take (i := 14) (v := .bool (!decide (x = y))) rfl (by kernel_rfl) (by kernel_rfl) (by kernel_rfl) (fun _ _ _ h => h) (Or.inl ⟨by rfl, fun w _ => exec_ne_ref _ _ _ rfl x y rfl rfl w⟩) hHeld ?_
          ((try simp only); (try simp only [List.getElem_toArray]); (try simp only [List.getElem_cons_succ]); (try simp only [List.getElem_cons_zero]); (try simp only [Act.put]); (try simp only [List.setIfInBounds_toArray]); (try simp only [List.set_cons_succ]); (try simp only [List.set_cons_zero]))
          refine wpAnyH_done (by kernel_rfl) ?_ _
          refine NoPanic.normal ?_
          by_cases hst : x = y
          · have e : decide (x = y) = true := decide_eq_true hst
            have HT2 : Hid (L.take (k + 1) = M.take (k + 1)) := by show _ = _; rw [HT1.out.1, HT1.out.2, HT.out, hst]
            rw [e]
            clear e hst
            go_wp2_with fail
            go_roundg g
            case measure => omega
            case rel => exact ⟨k + 1, n + 1, by omega, by rw [← HM.out k hkl], rfl, HT2⟩
          · have e : decide (x = y) = false := decide_eq_false hst
            have HX : Hid (decide (L = M) = false) := HNE.out hst
            rw [e]
            clear e hst
            go_wp2_with fail
            go_ret
            exact ⟨by rw [HE.out, HX.out]; rfl, n + 1, rfl⟩
    · have HE : Hid (decide (B = B ∧ L = M) = false) := by
        show _ = _
        rw [decide_eq_false]
        rintro ⟨_, e⟩
        exact hN (by rw [e])
      obtain ⟨la, lc, rfl⟩ := h.form
      obtain ⟨ma, mc, rfl⟩ := h2.form
      have e2 : ((L.length : Int) == (M.length : Int)) = false := by have : ¬ ((L.length : Int) = (M.length : Int)) := by omega
                                                                     simpa using this
      have e3 : ¬ ((L.length : Int) = (M.length : Int)) := by omega
      clear h h2 hm hN
      generalize L.length = l1 at *
      generalize M.length = l2 at *
      go_enter Try.func15, Try.ntmps15
      go_wp2
      go_quiet (fail)
      go_wp2
      go_ret
      exact ⟨by rw [HE.out]; rfl, _, rfl⟩
  · have HE : Hid (decide (B = C ∧ L = M) = false) := by show _ = _; simp [hB]
    have e2 : (B == C) = false := by simpa using hB
    have e3 : (B != C) = true := by simpa using hB
    clear h h2 hm
    go_enter Try.func15, Try.ntmps15
    go_wp2
    go_region
    go_wp2
    go_ret
    exact ⟨by rw [HE.out]; rfl, 1, rfl⟩
end Go.Proofs.Ytpgepejleklpfaa
