/- SuperNames, walked. -/
import Derived.Test.YtnpohjbhfoebcaaSupY
import Derived.Test.YtnpohjbhfoebcaaNmA
import Derived.Deep.QuietTactic
import Derived.BigQuiet
import Derived.Great.Walk
namespace Go.Proofs.Ytnpohjbhfoebcaa
set_option linter.unusedVariables false
open Go.RowKit

section
variable {y z : World} {base n size : Nat} {e : TypeId} {v : Value} {xs : List Value}
theorem own_same (h : y.ownsRow base e size v n xs) (hb : ∀ k, v.ownBlock = some k → z.heap[k]? = y.heap[k]?) : z.ownsRow base e size v n xs := by
  refine ⟨h.1, ?_⟩
  rcases h.2 with hn | ⟨g, cap, cur, rfl, hg, hgg, rest⟩
  · exact .inl hn
  · exact .inr ⟨g, cap, cur, rfl, hg, (hb g rfl).trans hgg, rest⟩
theorem own_kept (h : y.ownsRow base e size v n xs) (bl : Below y.heap.size y z) : z.ownsRow base e size v n xs := own_same h fun k hk => bl.block k (h.lt k hk).2
theorem own_one (h : y.ownsRow base e size v n xs) : v.oneCell' = true := by
  rcases h.2 with ⟨rfl, _⟩ | ⟨g, cap, cur, rfl, _⟩ <;> rfl
theorem own_set {b j : Nat} {u : Value} (h : y.ownsRow base e size v n xs) (hb : b < base) : (y.setCell ⟨b, j, none⟩ u).ownsRow base e size v n xs := own_same h fun k hk => by
  have q := h.lt k hk
  exact (touch_set y b j u).block k q.2 (by omega) (by simp)
theorem grown_below {B : Nat} {row : Option Nat} (g : y.grownBy z row) (hB : B ≤ y.heap.size) (hr : ∀ k, row = some k → B ≤ k) : Below B y z := (Below.refl _ _).grown g hB hr
end
def AnyW (_ : World) : Prop := True
theorem AnyW.any (y : World) : AnyW y := trivial
/-- The superblock that is built, in its block, with snapshots of its own. -/
structure NS (w y : World) (b : Nat) (l : List Snp) (pv : Value) : Prop where
  h : HasU y b ⟨7, 9, 5, 3, l⟩ pv
  bel : Below w.heap.size w y
  ge : w.heap.size ≤ b
  own : y.ownsRow (b + 1) 40 3 pv l.length (sncs l)
section
variable {w y z : World} {b : Nat} {l : List Snp} {pv : Value}
theorem NS.called (h : NS w y b l pv) (bl : Below y.heap.size y z) : NS w z b l pv := ⟨h.h.below bl h.h.lt, h.bel.trans (bl.mono h.bel.size), h.ge, own_kept h.own bl⟩
theorem NS.drew (h : NS w y b l pv) : NS w y.drew b l pv := h.called (Below.refl _ y).drew
theorem NS.drewN (h : NS w y b l pv) (n : Nat) : NS w (y.drewN n) b l pv := h.called (below_drewN (Below.refl _ y) n)
theorem NS.c4 (h : NS w y b l pv) : y.cell? ⟨b, 4, none⟩ = some pv := h.h.cells.2.2.2.2
theorem NS.sna (h : NS w y b l pv) : Sna y pv l := ⟨_, own_snaps h.own, fun k hk => (h.own.lt k hk).2⟩
end
theorem Try.snap_built (t : ByteArray) (c : Int) : Try.prog.built 40 [(0, .string t), (2, .int .i64 c)] = some #[.string t, .int .i64 0, .int .i64 c] := by kernel_rfl
theorem Try.snap_one (t : ByteArray) (c : Int) : Try.prog.builtSlice 40 1 [(0, .agg #[.string t, .int .i64 0, .int .i64 c])] = some #[.string t, .int .i64 0, .int .i64 c] := by kernel_rfl
theorem build_run {o : Oper} {f : Operand → Value} {w : World} (t : TypeId) (parts : Array (Nat × Operand)) (ho : o.op = .build t parts) (vs : List (Nat × Value)) (hv : (parts.map fun x => (x.1, f x.2)).toList = vs) (C : Array Value) (hb : Try.prog.built t vs = some C) : (execOp f o).run Try.prog w = .ok (.value (.agg C)) w := by
  subst hv
  have := run_build (P := Try.prog) w t (parts.map fun x => (x.1, f x.2)) C hb
  unfold execOp
  simp only [ho]
  simp [this]
theorem wp_buildSliceTo {o : Oper} {a : Act} {w : World} {K : Act → World → Prop} {Q : Exit → Act → World → Prop} (t e : TypeId) (len : Nat) (parts : Array (Nat × Operand)) (ho : o.op = .buildSlice t len parts) (hu : Try.prog.underlying t = some (.slice e)) (cells : Array Value)
    (hf : Try.prog.builtSlice e len (parts.map fun (i, x) => (i, a.eval x)).toList = some cells)
    (h : K (a.put o.dst (.slice (some ⟨w.heap.size, 0, none⟩) len len)) (w.alloc (.cells cells e))) : o.wp Try.prog a w K Q := by
  unfold Program.builtSlice at hf
  cases hie : Try.prog.info? e with
  | none => simp [hie] at hf
  | some ie =>
    simp only [hie] at hf
    cases hz : ie.zero with
    | none => simp [hz] at hf
    | some z =>
      simp only [hz] at hf
      by_cases hc : len * ie.size > 2 ^ 24 ∨ len * ie.size = 0
      · simp [hc] at hf
      · rw [if_neg hc] at hf
        exact wp_buildSlice t e len parts ho cells ie z hu hie hz (fun h' => hc (Or.inl h')) (fun h' => hc (Or.inr h')) hf h
theorem and3n (k : Nat) : bits .and .i64 (k : Int) 3 = ((k % 4 : Nat) : Int) := by rw [and3]; omega
theorem num_succ {k : Nat} (h : k < 100) : Value.int .i64 (wrap64 ((k : Int) + 1)) = .int .i64 ((k + 1 : Nat) : Int) := congrArg _ (by unfold wrap64; omega)
theorem snc_one (X : Snp) : ∀ u ∈ snc X, u.oneCell' = true := by
  intro u hu
  simp only [snc, List.mem_cons, List.not_mem_nil, or_false] at hu
  rcases hu with rfl | rfl | rfl <;> rfl
theorem row_new (y : World) (X : Snp) : ∀ j u, (snc X)[j]? = some u → (y.alloc (.cells (snc X).toArray 40)).cell? ((⟨y.heap.size, 0, none⟩ : Addr).add j) = some u := fun j u hu => by
  rw [add_lit, Nat.zero_add, cell_of_row _ y.heap.size j _ _ _ (heap_alloc_new _ _)]
  simpa using hu
theorem own_next {y : World} {B k : Nat} {v : Value} {ss : Nat → ByteArray} (h : y.ownsRow B 40 3 v (k + 1) (sncs (nms ss k) ++ snc (mS ss k))) : y.ownsRow B 40 3 v (nms ss (k + 1)).length (sncs (nms ss (k + 1))) := by
  rw [nms_length, nms, sncs_append]
  exact h
theorem max_10 {k : Nat} (h : k < 10) : k + 1 ≤ maxLen ∧ (k + 1) * 32 ≤ 140737488355328 := by unfold maxLen; omega
theorem sna_form {x : World} {zv : Value} {l : List Snp} (h : Sna x zv l) : ∃ a c, zv = .slice a l.length c := by
  obtain ⟨r, ⟨ad, cap, e, _⟩, _⟩ := h
  exact ⟨ad, cap, e⟩
theorem sna_at {x : World} {a : Option Addr} {n c : Nat} {l : List Snp} {j : Nat} (h : Sna x (.slice a n c) l) (hj : j < l.length) : ∃ g o, a = some ⟨g, o, none⟩ ∧ SnpAt x g (o + j * 3) l[j] := by
  obtain ⟨r, ⟨ad, cap, e, _, _, h1⟩, _⟩ := h
  cases e
  rcases h1 with rfl | ⟨g, o, rfl, _, _, h2⟩
  · cases hj
  · exact ⟨g, o, rfl, h2 j hj⟩
theorem sna_other {x y : World} {zv : Value} {l : List Snp} {B : Nat} {o : Obj} (h : SnaN x zv l B) (t : Touch x.heap.size none (x.alloc o) y) : Sna y zv l := by
  obtain ⟨r, h1, h2⟩ := h
  refine ⟨r, h1.kept fun k hk => ?_, fun k hk => ?_⟩
  · have hlt := (h2 k hk).2
    exact (t.block k (by simp; omega) (by omega) (by simp)).trans (Below.heap_alloc _ _ _ hlt)
  · have hlt := (h2 k hk).2
    have := t.size
    simp at this
    omega
theorem of_nil : ofP [] = none := by
  cases h : ofP [] with
  | none => rfl
  | some S =>
    obtain ⟨h1, h2⟩ := (of_iff _ _).1 h
    have := (fits h1).enc
    rw [h2] at this
    simp at this
theorem byt_nil (x : World) : Byt x (.slice none 0 0) [] := ⟨none, bytes_nil _ _, fun k hk => by cases hk⟩
theorem of_no (y : World) : Calls Try.prog 12 #[.slice none 0 0] y fun e y' => ∃ zv, e = .returned (.tuple #[uv nilU zv, .int .i64 12]) ∧ SnaN y' zv nilU.l y.heap.size ∧ Below y.heap.size y y' := by
  have h := of_byt (byt_nil y)
  rw [of_nil] at h
  refine h.mono ?_
  rintro e y' ⟨zv, r, h1, h2, h3, h4⟩
  exact ⟨zv, h1, ⟨r, h2, h3⟩, h4⟩
theorem of_yes {y : World} {v : Value} {S : Sup} (hr : right S = true) (hb : Byt y v (enc S)) : Calls Try.prog 12 #[v] y fun e y' => ∃ zv, e = .returned (.tuple #[uv S zv, .int .i64 0]) ∧ SnaN y' zv S.l y.heap.size ∧ Below y.heap.size y y' := by
  have h := of_byt hb
  rw [of_enc S hr] at h
  refine h.mono ?_
  rintro e y' ⟨zv, r, h1, h2, h3, h4⟩
  exact ⟨zv, h1, ⟨r, h2, h3⟩, h4⟩
set_option maxHeartbeats 16000000 in
set_option maxRecDepth 100000 in
theorem names_walk (w : World) (ad : Option Addr) (n cap : Nat) (ss : Nat → ByteArray) (hl : n ≤ maxLen) (hs : StrsIn w ad n ss) : Calls Try.prog 4 #[.slice ad n cap] w fun e w' => e = .returned (.bool true) ∧ Below w.heap.size w w' := by
  have HS : Hid (StrsIn w ad n ss) := hs
  have HL : Hid (n ≤ maxLen) := hl
  clear hs hl
  obtain ⟨N, hN⟩ : ∃ N : Nat, N = min n 10 := ⟨_, rfl⟩
  have HN : Hid (N = min n 10) := hN
  have HRT : Hid (right ⟨7, 9, 5, 3, nms ss N⟩ = okN n ss N) := (show _ = _ by rw [hN]; exact right_names n ss)
  clear hN
  go_enter Try.func4, Try.ntmps4
  go_upto_region 2 with (go_at_call 5; refine (shown_calls _).mono ?_; rintro e w1 ⟨rfl, b1⟩)
  have HB1 : Hid (Below w.heap.size w w1) := b1
  clear b1
  go_upto_region 3 with (first
    | (refine build_sup rfl _ _ _ _ rfl 7 9 5 3 rfl rfl rfl rfl ?_)
    | (refine store_sup rfl _ _ rfl w1.heap.size rfl ⟨7, 9, 5, 3, []⟩ (.slice none 0 0) rfl rfl nilU (.slice none 0 0) (HasU.new w1 nilU _ _ rfl rfl) ?_; intro x1 hu1 tx1 sx1))
  have HX1 : Hid (NS w x1 w1.heap.size (nms ss 0) (.slice none 0 0)) := ⟨hu1, below_rowed (HB1.out.alloc HB1.out.size _) tx1 HB1.out.size (Nat.le_refl _), HB1.out.size, World.ownsRow_nil _ _ _ _⟩
  clear hu1 tx1 sx1 HB1
  generalize w1.heap.size = b at *
  go_wp2_with fail
  go_loopg [5, 6] N (fun g v i wr => ∃ k pv, k + g = N ∧ v = .bool (okN n ss k) ∧ i = .int .i64 (k : Int) ∧ Hid (NS w wr b (nms ss k) pv))
  case atStart => exact ⟨0, _, by omega, congrArg Value.bool (decide_eq_decide.2 (by omega)), rfl, HX1.out⟩
  case round =>
    obtain ⟨k, pv, hkg, rfl, rfl, HP⟩ := hrel
    cases gk with
    | succ g =>
      have hlt1 : (k : Int) < (n : Int) := by have := HN.out; omega
      have hlt2 : (k : Int) < 10 := by have := HN.out; omega
      have HK : Hid (k < n ∧ k < 10) := (show _ ∧ _ by omega)
      obtain ⟨bb, off, rfl, hbl, hck, hsz⟩ := HS.out k HK.out.1
      have HC : Hid (∀ y, Below w.heap.size w y → y.cell? ⟨bb, off + k, none⟩ = some (.string (ss k))) := fun y hy => (World.cell?_of_block (hy.block bb hbl)).trans hck
      clear hck
      go_upto_region 7 with fail
      go_cut [5] (fun v y => v = .bool (okN n ss (k + 1)) ∧ Hid (NS w y b (nms ss k) pv))
      case first =>
        have c0 := HC.out _ HP.out.bel
        have c1 := HC.out _ HP.out.drew.bel
        cases hok : okN n ss k with
        | false =>
          have HE : Hid (okN n ss (k + 1) = false) := (show _ = _ by rw [okN, hok]; rfl)
          clear hok
          go_quiet (fail)
          go_wp2_with fail
          go_meet
          case rel => exact ⟨by rw [HE.out], HP.out.drewN _⟩
        | true =>
          have HE : Hid (okN n ss (k + 1) = (decide (1 ≤ (ss k).size) && decide ((ss k).size ≤ 18) && (decide (k = 0) || Op.bytesLess (ss (k - 1)).toList (ss k).toList))) := (show _ = _ by rw [okN, hok]; simp [Bool.and_assoc])
          clear hok
          by_cases h1 : 1 ≤ (ss k).size
          rotate_left
          · have hd1 : decide ((1 : Int) ≤ ((ss k).size : Int)) = false := decide_eq_false (by omega)
            have hF : Hid (okN n ss (k + 1) = false) := (show _ = _ by rw [HE.out, decide_eq_false h1]; rfl)
            go_quiet (fail)
            go_wp2_with fail
            go_meet
            case rel => exact ⟨by rw [hF.out], HP.out.drewN _⟩
          by_cases h2 : (ss k).size ≤ 18
          rotate_left
          · have hd1 : decide ((1 : Int) ≤ ((ss k).size : Int)) = true := decide_eq_true (by omega)
            have hd2 : decide (((ss k).size : Int) ≤ 18) = false := decide_eq_false (by omega)
            have hF : Hid (okN n ss (k + 1) = false) := (show _ = _ by rw [HE.out, decide_eq_false h2]; simp)
            go_quiet (fail)
            go_wp2_with fail
            go_meet
            case rel => exact ⟨by rw [hF.out], HP.out.drewN _⟩
          have hd1 : decide ((1 : Int) ≤ ((ss k).size : Int)) = true := decide_eq_true (by omega)
          have hd2 : decide (((ss k).size : Int) ≤ 18) = true := decide_eq_true (by omega)
          by_cases h3 : k = 0
          · have hd3 : ((k : Int) == 0) = true := by simpa using h3
            have hF : Hid (okN n ss (k + 1) = true) := (show _ = _ by rw [HE.out, decide_eq_true h1, decide_eq_true h2, decide_eq_true h3]; rfl)
            clear h3 h1 h2
            go_quiet (fail)
            go_wp2_with fail
            go_meet
            case rel => exact ⟨by rw [hF.out], HP.out.drewN _⟩
          · have hd3 : ((k : Int) == 0) = false := by simpa using h3
            obtain ⟨J, hJ⟩ : ∃ J : Nat, k = J + 1 := ⟨k - 1, by omega⟩
            have hw1 : wrap64 ((k : Int) - 1) = (J : Int) := by rw [hJ]; have := HK.out; unfold wrap64; omega
            have hw0 : (k : Int) - 1 = (J : Int) := by omega
            have hltJ : (J : Int) < (n : Int) := by omega
            obtain ⟨bb', off', e', _, hcj, _⟩ := HS.out J (by have := HK.out; omega)
            cases e'
            have j0 : wr.cell? ⟨bb, off + J, none⟩ = some (.string (ss J)) := (World.cell?_of_block (HP.out.bel.block bb hbl)).trans hcj
            have j1 : wr.drew.cell? ⟨bb, off + J, none⟩ = some (.string (ss J)) := j0
            have hF : Hid (okN n ss (k + 1) = Op.bytesLess (ss J).toList (ss k).toList) := (show _ = _ by rw [HE.out, decide_eq_true h1, decide_eq_true h2, decide_eq_false h3, hJ, Nat.add_sub_cancel]; simp)
            clear h3 h1 h2 hcj hJ
            go_quiet (fail)
            go_wp2_with fail
            go_meet
            case rel => exact ⟨by rw [hF.out], HP.out.drewN _⟩
      case rest =>
        obtain ⟨rfl, HP2⟩ := hcut
        clear HP
        have hb3 := and3n k
        go_upto_region 8 with fail
        have B0 := HP2.out.drew
        clear HP2
        refine wp_region_noPanic ?_
        refine wp_region_held_drew (S := (fun y => Below w.heap.size w y)) (by kernel_rfl) B0.bel (fun hHeld => ?_)
        refine wpAnyH_take (i := 0) (v := ?_) rfl (by kernel_rfl) (by kernel_rfl) (by kernel_rfl) (fun _ _ _ h => h) (Or.inl ⟨by rfl, ?_⟩) hHeld ?_
        case refine_2 => (intro w hSw; (try dsimp only at hSw); go_simp; try (with_reducible rfl))
        ((try simp only); (try simp only [List.getElem_toArray]); (try simp only [List.getElem_cons_succ]); (try simp only [List.getElem_cons_zero]); (try simp only [Act.put]); (try simp only [List.setIfInBounds_toArray]); (try simp only [List.set_cons_succ]); (try simp only [List.set_cons_zero]))
        refine wpAnyH_take (i := 2) (v := ?_) rfl (by kernel_rfl) (by kernel_rfl) (by kernel_rfl) (fun _ _ _ h => h) (Or.inl ⟨by rfl, ?_⟩) hHeld ?_
        case refine_2 => (intro w hSw; (try dsimp only at hSw); go_simp; try (with_reducible rfl))
        ((try simp only); (try simp only [List.getElem_toArray]); (try simp only [List.getElem_cons_succ]); (try simp only [List.getElem_cons_zero]); (try simp only [Act.put]); (try simp only [List.setIfInBounds_toArray]); (try simp only [List.set_cons_succ]); (try simp only [List.set_cons_zero]))
        refine wpAnyH_take (i := 3) (v := ?_) rfl (by kernel_rfl) (by kernel_rfl) (by kernel_rfl) (fun _ _ _ h => h) (Or.inl ⟨by rfl, ?_⟩) hHeld ?_
        case refine_2 => (intro w hSw; (try dsimp only at hSw); go_simp; try (with_reducible rfl))
        ((try simp only); (try simp only [List.getElem_toArray]); (try simp only [List.getElem_cons_succ]); (try simp only [List.getElem_cons_zero]); (try simp only [Act.put]); (try simp only [List.setIfInBounds_toArray]); (try simp only [List.set_cons_succ]); (try simp only [List.set_cons_zero]))
        refine wpAnyH_take (i := 4) (v := ?_) rfl (by kernel_rfl) (by kernel_rfl) (by kernel_rfl) (fun _ _ _ h => h) (Or.inl ⟨by rfl, ?_⟩) hHeld ?_
        case refine_2 => (intro w hSw; (try dsimp only at hSw); go_simp; try (with_reducible rfl))
        ((try simp only); (try simp only [List.getElem_toArray]); (try simp only [List.getElem_cons_succ]); (try simp only [List.getElem_cons_zero]); (try simp only [Act.put]); (try simp only [List.setIfInBounds_toArray]); (try simp only [List.set_cons_succ]); (try simp only [List.set_cons_zero]))
        refine wpAnyH_take (i := 5) (v := ?_) rfl (by kernel_rfl) (by kernel_rfl) (by kernel_rfl) (fun _ _ _ h => h) (Or.inl ⟨by rfl, ?_⟩) hHeld ?_
        case refine_2 => (intro w hSw; (try dsimp only at hSw); have l0 := HC.out _ hSw; go_simp; try (with_reducible rfl))
        ((try simp only); (try simp only [List.getElem_toArray]); (try simp only [List.getElem_cons_succ]); (try simp only [List.getElem_cons_zero]); (try simp only [Act.put]); (try simp only [List.setIfInBounds_toArray]); (try simp only [List.set_cons_succ]); (try simp only [List.set_cons_zero]))
        refine wpAnyH_take (i := 6) (v := ?_) rfl (by kernel_rfl) (by kernel_rfl) (by kernel_rfl) (fun _ _ _ h => h) (Or.inl ⟨by rfl, ?_⟩) hHeld ?_
        case refine_2 => (intro w hSw; (try dsimp only at hSw); go_simp; try (with_reducible rfl))
        ((try simp only); (try simp only [List.getElem_toArray]); (try simp only [List.getElem_cons_succ]); (try simp only [List.getElem_cons_zero]); (try simp only [Act.put]); (try simp only [List.setIfInBounds_toArray]); (try simp only [List.set_cons_succ]); (try simp only [List.set_cons_zero]))
        refine wpAnyH_take (i := 7) (v := ?_) rfl (by kernel_rfl) (by kernel_rfl) (by kernel_rfl) (fun _ _ _ h => h) (Or.inl ⟨by rfl, ?_⟩) hHeld ?_
        case refine_2 => (intro w hSw; (try dsimp only at hSw); go_simp; try (with_reducible rfl))
        ((try simp only); (try simp only [List.getElem_toArray]); (try simp only [List.getElem_cons_succ]); (try simp only [List.getElem_cons_zero]); (try simp only [Act.put]); (try simp only [List.setIfInBounds_toArray]); (try simp only [List.set_cons_succ]); (try simp only [List.set_cons_zero]))
        refine wpAnyH_take (i := 8) (v := .agg #[.string (ss k), .int .i64 0, .int .i64 ((k % 4 : Nat) : Int)]) rfl (by kernel_rfl) (by kernel_rfl) (by kernel_rfl) (fun _ _ _ h => h) (Or.inl ⟨by rfl, fun w hSw => build_run 40 _ rfl [(0, .string (ss k)), (2, .int .i64 ((k % 4 : Nat) : Int))] (by simp only [List.map_toArray, List.map_cons, List.map_nil]; rfl) _ (Try.snap_built _ _)⟩) hHeld ?_
        ((try simp only); (try simp only [List.getElem_toArray]); (try simp only [List.getElem_cons_succ]); (try simp only [List.getElem_cons_zero]); (try simp only [Act.put]); (try simp only [List.setIfInBounds_toArray]); (try simp only [List.set_cons_succ]); (try simp only [List.set_cons_zero]))
        generalize wc.drew = y0 at *
        refine wpAnyH_ready (rs := [1, 9]) (by kernel_rfl) (by simp) (AllReadyH.cons rfl (fun K hK => ?_) (AllReadyH.cons rfl (fun K hK => ?_) AllReadyH.nil))
        · rw [if_pos (by rfl)]
          ((try simp only); (try simp only [List.getElem_toArray]); (try simp only [List.getElem_cons_succ]); (try simp only [List.getElem_cons_zero]); (try simp only [Act.put]); (try simp only [List.setIfInBounds_toArray]); (try simp only [List.set_cons_succ]); (try simp only [List.set_cons_zero]))
          have c4 := B0.c4
          go_simp
          refine hK.out _ _ hHeld (fun hHelda => ?_)
          clear hK K
          ((try simp only); (try simp only [List.getElem_toArray]); (try simp only [List.getElem_cons_succ]); (try simp only [List.getElem_cons_zero]); (try simp only [Act.put]); (try simp only [List.setIfInBounds_toArray]); (try simp only [List.set_cons_succ]); (try simp only [List.set_cons_zero]))
          clear c4
          refine wpAnyH_ready (rs := [9]) (by kernel_rfl) (by simp) (AllReadyH.cons rfl (fun K hK => ?_) AllReadyH.nil)
          rw [if_pos (by rfl)]
          ((try simp only); (try simp only [List.getElem_toArray]); (try simp only [List.getElem_cons_succ]); (try simp only [List.getElem_cons_zero]); (try simp only [Act.put]); (try simp only [List.setIfInBounds_toArray]); (try simp only [List.set_cons_succ]); (try simp only [List.set_cons_zero]))
          refine wp_buildSliceTo 22 40 1 _ rfl Try.underlying22 #[.string (ss k), .int .i64 0, .int .i64 ((k % 4 : Nat) : Int)] (by simp only [List.map_toArray, List.map_cons, List.map_nil]; exact Try.snap_one _ _) ?_
          have B1 := B0.called ((Below.refl _ y0).alloc (Nat.le_refl _) (.cells #[.string (ss k), .int .i64 0, .int .i64 ((k % 4 : Nat) : Int)] 40))
          have RW := row_new y0 (mS ss k)
          refine hK.out _ _ B1.bel (fun h2 => ?_)
          clear hK K
          ((try simp only); (try simp only [List.getElem_toArray]); (try simp only [List.getElem_cons_succ]); (try simp only [List.getElem_cons_zero]); (try simp only [Act.put]); (try simp only [List.setIfInBounds_toArray]); (try simp only [List.set_cons_succ]); (try simp only [List.set_cons_zero]))
          clear B0
          change ∀ j u, (snc (mS ss k))[j]? = some u → (y0.alloc (.cells #[.string (ss k), .int .i64 0, .int .i64 ((k % 4 : Nat) : Int)] 40)).cell? ((⟨y0.heap.size, 0, none⟩ : Addr).add j) = some u at RW
          generalize y0.alloc (.cells #[.string (ss k), .int .i64 0, .int .i64 ((k % 4 : Nat) : Int)] 40) = y1 at *
          generalize y0.heap.size = d at *
          refine wpAnyH_ready (rs := [10]) (by kernel_rfl) (by simp) (AllReadyH.cons rfl (fun K hK => ?_) AllReadyH.nil)
          rw [if_pos (by rfl)]
          ((try simp only); (try simp only [List.getElem_toArray]); (try simp only [List.getElem_cons_succ]); (try simp only [List.getElem_cons_zero]); (try simp only [Act.put]); (try simp only [List.setIfInBounds_toArray]); (try simp only [List.set_cons_succ]); (try simp only [List.set_cons_zero]))
          obtain ⟨i0, hi, hz0, hz1, hz2⟩ := info_parts Try.info_snap
          have O1 : y1.ownsRow (b + 1) 40 3 pv k (sncs (nms ss k)) := by have := B1.own; rw [nms_length] at this; exact this
          refine wp_append_own _ (.tmp 61) (.tmp 69) 22 rfl (b + 1) 40 i0 (.agg #[.string ⟨#[]⟩, .int .i64 0, .int .i64 0]) 3 32 Try.underlying22 hi hz0 hz1 hz2 rfl (by decide) pv k _ rfl O1 ⟨d, 0, none⟩ 1 1 (snc (mS ss k)) rfl rfl RW (snc_one _) (max_10 HK.out.2).1 (max_10 HK.out.2).2 (Nat.succ_le_of_lt B1.h.lt) ?_
          intro pv' y2 ow gr _
          obtain ⟨a', c', rfl⟩ := own_form3 ow
          clear hi hz0 hz1 hz2
          have BG : Below (b + 1) y1 y2 := grown_below gr (Nat.succ_le_of_lt B1.h.lt) (fun q hq => (O1.lt q hq).1)
          have H2 := B1.h.below BG (Nat.lt_succ_self b)
          have BL2 : Below w.heap.size w y2 := B1.bel.trans (BG.mono (by have := B1.ge; omega))
          have ON0 := own_next ow
          have GE := B1.ge
          clear ow gr O1 BG RW B1
          refine hK.out _ _ BL2 (fun h3 => ?_)
          clear hK K
          ((try simp only); (try simp only [List.getElem_toArray]); (try simp only [List.getElem_cons_succ]); (try simp only [List.getElem_cons_zero]); (try simp only [Act.put]); (try simp only [List.setIfInBounds_toArray]); (try simp only [List.set_cons_succ]); (try simp only [List.set_cons_zero]))
          refine wpAnyH_take (i := 11) (v := ?_) rfl (by kernel_rfl) (by kernel_rfl) (by kernel_rfl) (fun _ _ _ h => h) (Or.inl ⟨by rfl, ?_⟩) h3 ?_
          case refine_2 => (intro w hSw; (try dsimp only at hSw); go_simp; try (with_reducible rfl))
          ((try simp only); (try simp only [List.getElem_toArray]); (try simp only [List.getElem_cons_succ]); (try simp only [List.getElem_cons_zero]); (try simp only [Act.put]); (try simp only [List.setIfInBounds_toArray]); (try simp only [List.set_cons_succ]); (try simp only [List.set_cons_zero]))
          refine wpAnyH_ready (rs := [12]) (by kernel_rfl) (by simp) (AllReadyH.cons rfl (fun K hK => ?_) AllReadyH.nil)
          rw [if_pos (by rfl)]
          ((try simp only); (try simp only [List.getElem_toArray]); (try simp only [List.getElem_cons_succ]); (try simp only [List.getElem_cons_zero]); (try simp only [Act.put]); (try simp only [List.setIfInBounds_toArray]); (try simp only [List.set_cons_succ]); (try simp only [List.set_cons_zero]))
          have f4 := H2.free 4
          have c4 := H2.cells.2.2.2.2
          have NEW : NS w (y2.setCell ⟨b, 4, none⟩ (.slice a' (k + 1) c')) b (nms ss (k + 1)) (.slice a' (k + 1) c') := ⟨H2.set4 ⟨7, 9, 5, 3, nms ss (k + 1)⟩ _ rfl rfl, BL2.setCell GE _, GE, own_set ON0 (Nat.lt_succ_self b)⟩
          go_simp
          refine hK.out _ _ NEW.bel (fun h4 => ?_)
          clear hK K
          ((try simp only); (try simp only [List.getElem_toArray]); (try simp only [List.getElem_cons_succ]); (try simp only [List.getElem_cons_zero]); (try simp only [Act.put]); (try simp only [List.setIfInBounds_toArray]); (try simp only [List.set_cons_succ]); (try simp only [List.set_cons_zero]))
          clear f4 c4 H2 BL2 ON0
          generalize y2.setCell ⟨b, 4, none⟩ (.slice a' (k + 1) c') = y3 at *
          have HNEW : Hid (NS w y3 b (nms ss (k + 1)) (.slice a' (k + 1) c')) := NEW
          clear NEW
          refine wpAnyH_done (by kernel_rfl) ?_ _
          refine NoPanic.normal ?_
          go_wp2_with fail
          go_roundg g
          case measure => omega
          case rel => exact ⟨k + 1, _, by omega, rfl, congrArg _ (by omega), HNEW.out⟩
        · rw [if_pos (by rfl)]
          ((try simp only); (try simp only [List.getElem_toArray]); (try simp only [List.getElem_cons_succ]); (try simp only [List.getElem_cons_zero]); (try simp only [Act.put]); (try simp only [List.setIfInBounds_toArray]); (try simp only [List.set_cons_succ]); (try simp only [List.set_cons_zero]))
          refine wp_buildSliceTo 22 40 1 _ rfl Try.underlying22 #[.string (ss k), .int .i64 0, .int .i64 ((k % 4 : Nat) : Int)] (by simp only [List.map_toArray, List.map_cons, List.map_nil]; exact Try.snap_one _ _) ?_
          have B1 := B0.called ((Below.refl _ y0).alloc (Nat.le_refl _) (.cells #[.string (ss k), .int .i64 0, .int .i64 ((k % 4 : Nat) : Int)] 40))
          have RW := row_new y0 (mS ss k)
          refine hK.out _ _ B1.bel (fun h2 => ?_)
          clear hK K
          ((try simp only); (try simp only [List.getElem_toArray]); (try simp only [List.getElem_cons_succ]); (try simp only [List.getElem_cons_zero]); (try simp only [Act.put]); (try simp only [List.setIfInBounds_toArray]); (try simp only [List.set_cons_succ]); (try simp only [List.set_cons_zero]))
          clear B0
          change ∀ j u, (snc (mS ss k))[j]? = some u → (y0.alloc (.cells #[.string (ss k), .int .i64 0, .int .i64 ((k % 4 : Nat) : Int)] 40)).cell? ((⟨y0.heap.size, 0, none⟩ : Addr).add j) = some u at RW
          generalize y0.alloc (.cells #[.string (ss k), .int .i64 0, .int .i64 ((k % 4 : Nat) : Int)] 40) = y1 at *
          generalize y0.heap.size = d at *
          refine wpAnyH_ready (rs := [1]) (by kernel_rfl) (by simp) (AllReadyH.cons rfl (fun K hK => ?_) AllReadyH.nil)
          rw [if_pos (by rfl)]
          ((try simp only); (try simp only [List.getElem_toArray]); (try simp only [List.getElem_cons_succ]); (try simp only [List.getElem_cons_zero]); (try simp only [Act.put]); (try simp only [List.setIfInBounds_toArray]); (try simp only [List.set_cons_succ]); (try simp only [List.set_cons_zero]))
          have c4 := B1.c4
          go_simp
          refine hK.out _ _ h2 (fun h2a => ?_)
          clear hK K
          ((try simp only); (try simp only [List.getElem_toArray]); (try simp only [List.getElem_cons_succ]); (try simp only [List.getElem_cons_zero]); (try simp only [Act.put]); (try simp only [List.setIfInBounds_toArray]); (try simp only [List.set_cons_succ]); (try simp only [List.set_cons_zero]))
          clear c4
          refine wpAnyH_ready (rs := [10]) (by kernel_rfl) (by simp) (AllReadyH.cons rfl (fun K hK => ?_) AllReadyH.nil)
          rw [if_pos (by rfl)]
          ((try simp only); (try simp only [List.getElem_toArray]); (try simp only [List.getElem_cons_succ]); (try simp only [List.getElem_cons_zero]); (try simp only [Act.put]); (try simp only [List.setIfInBounds_toArray]); (try simp only [List.set_cons_succ]); (try simp only [List.set_cons_zero]))
          obtain ⟨i0, hi, hz0, hz1, hz2⟩ := info_parts Try.info_snap
          have O1 : y1.ownsRow (b + 1) 40 3 pv k (sncs (nms ss k)) := by have := B1.own; rw [nms_length] at this; exact this
          refine wp_append_own _ (.tmp 61) (.tmp 69) 22 rfl (b + 1) 40 i0 (.agg #[.string ⟨#[]⟩, .int .i64 0, .int .i64 0]) 3 32 Try.underlying22 hi hz0 hz1 hz2 rfl (by decide) pv k _ rfl O1 ⟨d, 0, none⟩ 1 1 (snc (mS ss k)) rfl rfl RW (snc_one _) (max_10 HK.out.2).1 (max_10 HK.out.2).2 (Nat.succ_le_of_lt B1.h.lt) ?_
          intro pv' y2 ow gr _
          obtain ⟨a', c', rfl⟩ := own_form3 ow
          clear hi hz0 hz1 hz2
          have BG : Below (b + 1) y1 y2 := grown_below gr (Nat.succ_le_of_lt B1.h.lt) (fun q hq => (O1.lt q hq).1)
          have H2 := B1.h.below BG (Nat.lt_succ_self b)
          have BL2 : Below w.heap.size w y2 := B1.bel.trans (BG.mono (by have := B1.ge; omega))
          have ON0 := own_next ow
          have GE := B1.ge
          clear ow gr O1 BG RW B1
          refine hK.out _ _ BL2 (fun h3 => ?_)
          clear hK K
          ((try simp only); (try simp only [List.getElem_toArray]); (try simp only [List.getElem_cons_succ]); (try simp only [List.getElem_cons_zero]); (try simp only [Act.put]); (try simp only [List.setIfInBounds_toArray]); (try simp only [List.set_cons_succ]); (try simp only [List.set_cons_zero]))
          refine wpAnyH_take (i := 11) (v := ?_) rfl (by kernel_rfl) (by kernel_rfl) (by kernel_rfl) (fun _ _ _ h => h) (Or.inl ⟨by rfl, ?_⟩) h3 ?_
          case refine_2 => (intro w hSw; (try dsimp only at hSw); go_simp; try (with_reducible rfl))
          ((try simp only); (try simp only [List.getElem_toArray]); (try simp only [List.getElem_cons_succ]); (try simp only [List.getElem_cons_zero]); (try simp only [Act.put]); (try simp only [List.setIfInBounds_toArray]); (try simp only [List.set_cons_succ]); (try simp only [List.set_cons_zero]))
          refine wpAnyH_ready (rs := [12]) (by kernel_rfl) (by simp) (AllReadyH.cons rfl (fun K hK => ?_) AllReadyH.nil)
          rw [if_pos (by rfl)]
          ((try simp only); (try simp only [List.getElem_toArray]); (try simp only [List.getElem_cons_succ]); (try simp only [List.getElem_cons_zero]); (try simp only [Act.put]); (try simp only [List.setIfInBounds_toArray]); (try simp only [List.set_cons_succ]); (try simp only [List.set_cons_zero]))
          have f4 := H2.free 4
          have c4 := H2.cells.2.2.2.2
          have NEW : NS w (y2.setCell ⟨b, 4, none⟩ (.slice a' (k + 1) c')) b (nms ss (k + 1)) (.slice a' (k + 1) c') := ⟨H2.set4 ⟨7, 9, 5, 3, nms ss (k + 1)⟩ _ rfl rfl, BL2.setCell GE _, GE, own_set ON0 (Nat.lt_succ_self b)⟩
          go_simp
          refine hK.out _ _ NEW.bel (fun h4 => ?_)
          clear hK K
          ((try simp only); (try simp only [List.getElem_toArray]); (try simp only [List.getElem_cons_succ]); (try simp only [List.getElem_cons_zero]); (try simp only [Act.put]); (try simp only [List.setIfInBounds_toArray]); (try simp only [List.set_cons_succ]); (try simp only [List.set_cons_zero]))
          clear f4 c4 H2 BL2 ON0
          generalize y2.setCell ⟨b, 4, none⟩ (.slice a' (k + 1) c') = y3 at *
          have HNEW : Hid (NS w y3 b (nms ss (k + 1)) (.slice a' (k + 1) c')) := NEW
          clear NEW
          refine wpAnyH_done (by kernel_rfl) ?_ _
          refine NoPanic.normal ?_
          go_wp2_with fail
          go_roundg g
          case measure => omega
          case rel => exact ⟨k + 1, _, by omega, rfl, congrArg _ (by omega), HNEW.out⟩
    | zero =>
      obtain rfl : k = N := by omega
      have hcs : (k = n ∧ k ≤ 10) ∨ (k = 10 ∧ k < n) := by have := HN.out; omega
      obtain ⟨pa, pc, rfl⟩ : ∃ pa pc, pv = .slice pa k pc := by
        have h := own_form3 HP.out.own
        rw [nms_length] at h
        exact h
      have hk10 : k ≤ 10 := by omega
      have H10 : Hid (k ≤ 10) := hk10
      rcases hcs with ⟨h1, h2⟩ | ⟨h1, h2⟩
      · have q1 : ¬ ((k : Int) < (n : Int)) := by omega
        clear h1 h2
        go_upto_region 9 with fail
        clear hk10 HN HX1 HS
        cases hok : okN n ss k with
        | false =>
          have HR0 : Hid (right ⟨7, 9, 5, 3, nms ss k⟩ = false) := (show _ = _ by rw [HRT.out, hok])
          clear hok HRT
          have cB := bytes_sna (S := ⟨7, 9, 5, 3, nms ss k⟩) HP.out.sna
          have LD : Hid (HasU wr b ⟨7, 9, 5, 3, nms ss k⟩ (.slice pa k pc)) := HP.out.h
          go_upto_region 10 with (first
            | (refine load_sup _ rfl b rfl rfl _ _ LD.out ?_)
            | (go_at_call 9; refine cB.mono ?_; rintro e y1 ⟨b1, ⟨_, rfl⟩ | ⟨hf, _⟩⟩; rotate_left; · rw [HR0.out] at hf; cases hf))
          have cO := of_no y1
          have RRl : Hid (nilU.l = []) := rfl
          have N1 : Hid (NS w y1 b (nms ss k) (.slice pa k pc)) := HP.out.called b1
          clear cB LD HP b1
          go_upto_region 11 with (first
            | (go_at_call 12; refine cO.mono ?_; rintro e y2 ⟨zv, rfl, sn, b2⟩)
            | (refine store_sup rfl _ _ rfl y2.heap.size rfl nilU zv rfl sn.sna.one nilU (.slice none 0 0) (HasU.new y2 nilU _ _ rfl rfl) ?_; intro y3 hu3 tx3 sx3))
          have N3 : Hid (NS w y3 b (nms ss k) (.slice pa k pc)) := (N1.out.called b2).called (below_rowed ((Below.refl _ y2).alloc (Nat.le_refl _) _) tx3 (Nat.le_refl _) (Nat.le_refl _))
          have HU3 : Hid (HasU y3 y2.heap.size nilU zv) := hu3
          have SN3 : Hid (Sna y3 zv nilU.l) := sna_other sn tx3
          have cR := right_sna (S := ⟨7, 9, 5, 3, nms ss k⟩) N3.out.sna
          rw [HR0.out] at cR
          have LD : Hid (HasU y3 b ⟨7, 9, 5, 3, nms ss k⟩ (.slice pa k pc)) := N3.out.h
          clear hu3 tx3 sx3 sn b2 N1 cO
          generalize y2.heap.size = q at *
          go_wp2_with (first
            | (refine load_sup _ rfl b rfl rfl _ _ LD.out ?_)
            | (go_at_call 7; refine cR.mono ?_; rintro e y4 ⟨rfl, b4⟩))
          go_ret
          exact ⟨rfl, (N3.out.called b4).bel⟩
        | true =>
          have HR0 : Hid (right ⟨7, 9, 5, 3, nms ss k⟩ = true) := (show _ = _ by rw [HRT.out, hok])
          clear hok HRT
          have cB := bytes_sna (S := ⟨7, 9, 5, 3, nms ss k⟩) HP.out.sna
          have LD : Hid (HasU wr b ⟨7, 9, 5, 3, nms ss k⟩ (.slice pa k pc)) := HP.out.h
          go_upto_region 10 with (first
            | (refine load_sup _ rfl b rfl rfl _ _ LD.out ?_)
            | (go_at_call 9; refine cB.mono ?_; rintro e y1 ⟨b1, ⟨hf, _⟩ | ⟨_, ba, bc', rfl, by1⟩⟩; · rw [HR0.out] at hf; cases hf))
          have cO := of_yes HR0.out by1
          have N1 : Hid (NS w y1 b (nms ss k) (.slice pa k pc)) := HP.out.called b1
          clear cB LD HP b1
          go_upto_region 11 with (first
            | (go_at_call 12; refine cO.mono ?_; rintro e y2 ⟨zv, rfl, sn, b2⟩)
            | (refine store_sup rfl _ _ rfl y2.heap.size rfl ⟨7, 9, 5, 3, nms ss k⟩ zv rfl sn.sna.one nilU (.slice none 0 0) (HasU.new y2 nilU _ _ rfl rfl) ?_; intro y3 hu3 tx3 sx3))
          have N3 : Hid (NS w y3 b (nms ss k) (.slice pa k pc)) := (N1.out.called b2).called (below_rowed ((Below.refl _ y2).alloc (Nat.le_refl _) _) tx3 (Nat.le_refl _) (Nat.le_refl _))
          have HU3 : Hid (HasU y3 y2.heap.size ⟨7, 9, 5, 3, nms ss k⟩ zv) := hu3
          have SN3 : Hid (Sna y3 zv (nms ss k)) := sna_other sn tx3
          have cR := right_sna (S := ⟨7, 9, 5, 3, nms ss k⟩) N3.out.sna
          rw [HR0.out] at cR
          have LD : Hid (HasU y3 b ⟨7, 9, 5, 3, nms ss k⟩ (.slice pa k pc)) := N3.out.h
          clear hu3 tx3 sx3 sn b2 N1 cO
          generalize y2.heap.size = q at *
          obtain ⟨za, zc, rfl⟩ : ∃ za zc, zv = .slice za k zc := by
            have h := sna_form SN3.out
            rw [nms_length] at h
            exact h
          have CE : Hid (∀ y, Below y3.heap.size y3 y → y.cell? ⟨q, 4, none⟩ = some (.slice za k zc) ∧ y.cell? ⟨b, 4, none⟩ = some (.slice pa k pc)) := fun y hy => ⟨(HU3.out.below hy HU3.out.lt).cells.2.2.2.2, (N3.out.h.below hy N3.out.h.lt).cells.2.2.2.2⟩
          go_upto_region 15 with (first
            | (refine load_sup _ rfl b rfl rfl _ _ LD.out ?_)
            | (go_at_call 7; refine cR.mono ?_; rintro e y4 ⟨rfl, b4⟩; obtain ⟨e1, e2⟩ := CE.out _ b4))
          have N4 : Hid (NS w y4 b (nms ss k) (.slice pa k pc)) := N3.out.called b4
          have SA : Hid (Sna y4 (.slice za k zc) (nms ss k)) := SN3.out.below b4
          have SB : Hid (Sna y4 (.slice pa k pc) (nms ss k)) := N4.out.sna
          clear CE LD cR SN3 HU3 N3 b4 HR0
          go_wp2_with fail
          go_loopg [11] k (fun g i wy => ∃ j m : Nat, j + g = k ∧ i = .int .i64 (j : Int) ∧ wy = y4.drewN m)
          case atStart => exact ⟨0, 0, by omega, rfl, rfl⟩
          case round =>
            obtain ⟨j, m, hjg, rfl, rfl⟩ := hrel
            have kA : (y4.drewN m).cell? ⟨q, 4, none⟩ = some (.slice za k zc) := e1
            have kB : (y4.drewN m).cell? ⟨b, 4, none⟩ = some (.slice pa k pc) := e2
            cases gk with
            | zero =>
              obtain rfl : j = k := by omega
              have q1 : ¬ ((j : Int) < (j : Int)) := by omega
              have BF := (N4.out.drewN m).bel
              go_wp2
              go_ret
              exact ⟨rfl, BF⟩
            | succ g =>
              have hjk : (j : Int) < (k : Int) := by omega
              obtain ⟨ga, oa, rfl, hat⟩ := sna_at SA.out (show j < (nms ss k).length by rw [nms_length]; omega)
              obtain ⟨gb, ob, rfl, hbt⟩ := sna_at SB.out (show j < (nms ss k).length by rw [nms_length]; omega)
              generalize (nms ss k)[j]'(show j < (nms ss k).length by rw [nms_length]; omega) = s at *
              have sA : SnpAt (y4.drewN m).drew ga (oa + j * 3) s := hat.same rfl
              have sB : SnpAt (y4.drewN m).drew gb (ob + j * 3) s := hbt.same rfl
              have cA : (y4.drewN m).drew.cell? ⟨q, 4, none⟩ = some (.slice (some ⟨ga, oa, none⟩) k zc) := e1
              have cB : (y4.drewN m).drew.cell? ⟨b, 4, none⟩ = some (.slice (some ⟨gb, ob, none⟩) k pc) := e2
              clear hat hbt
              go_upto_region 18 with fail
              refine wp_region_noPanic ?_
              refine wp_region_held_drew (S := (fun y => y.cell? ⟨q, 4, none⟩ = some (.slice (some ⟨ga, oa, none⟩) k zc) ∧ y.cell? ⟨b, 4, none⟩ = some (.slice (some ⟨gb, ob, none⟩) k pc) ∧ SnpAt y ga (oa + j * 3) s ∧ SnpAt y gb (ob + j * 3) s)) (by kernel_rfl) ⟨cA, cB, sA, sB⟩ (fun hHeld => ?_)
              refine wpAnyH_take (i := 0) (v := ?_) rfl (by kernel_rfl) (by kernel_rfl) (by kernel_rfl) (fun _ _ _ h => h) (Or.inl ⟨by rfl, ?_⟩) hHeld ?_
              case refine_2 => (intro w hSw; (try dsimp only at hSw); obtain ⟨k1, k2, ⟨k3, k4, k5⟩, k6, k7, k8⟩ := hSw; go_simp; try (with_reducible rfl))
              ((try simp only); (try simp only [List.getElem_toArray]); (try simp only [List.getElem_cons_succ]); (try simp only [List.getElem_cons_zero]); (try simp only [Act.put]); (try simp only [List.setIfInBounds_toArray]); (try simp only [List.set_cons_succ]); (try simp only [List.set_cons_zero]))
              refine wpAnyH_take (i := 1) (v := ?_) rfl (by kernel_rfl) (by kernel_rfl) (by kernel_rfl) (fun _ _ _ h => h) (Or.inl ⟨by rfl, ?_⟩) hHeld ?_
              case refine_2 => (intro w hSw; (try dsimp only at hSw); obtain ⟨k1, k2, ⟨k3, k4, k5⟩, k6, k7, k8⟩ := hSw; go_simp; try (with_reducible rfl))
              ((try simp only); (try simp only [List.getElem_toArray]); (try simp only [List.getElem_cons_succ]); (try simp only [List.getElem_cons_zero]); (try simp only [Act.put]); (try simp only [List.setIfInBounds_toArray]); (try simp only [List.set_cons_succ]); (try simp only [List.set_cons_zero]))
              refine wpAnyH_take (i := 2) (v := ?_) rfl (by kernel_rfl) (by kernel_rfl) (by kernel_rfl) (fun _ _ _ h => h) (Or.inl ⟨by rfl, ?_⟩) hHeld ?_
              case refine_2 => (intro w hSw; (try dsimp only at hSw); obtain ⟨k1, k2, ⟨k3, k4, k5⟩, k6, k7, k8⟩ := hSw; go_simp; try (with_reducible rfl))
              ((try simp only); (try simp only [List.getElem_toArray]); (try simp only [List.getElem_cons_succ]); (try simp only [List.getElem_cons_zero]); (try simp only [Act.put]); (try simp only [List.setIfInBounds_toArray]); (try simp only [List.set_cons_succ]); (try simp only [List.set_cons_zero]))
              refine wpAnyH_take (i := 3) (v := ?_) rfl (by kernel_rfl) (by kernel_rfl) (by kernel_rfl) (fun _ _ _ h => h) (Or.inl ⟨by rfl, ?_⟩) hHeld ?_
              case refine_2 => (intro w hSw; (try dsimp only at hSw); obtain ⟨k1, k2, ⟨k3, k4, k5⟩, k6, k7, k8⟩ := hSw; go_simp; try (with_reducible rfl))
              ((try simp only); (try simp only [List.getElem_toArray]); (try simp only [List.getElem_cons_succ]); (try simp only [List.getElem_cons_zero]); (try simp only [Act.put]); (try simp only [List.setIfInBounds_toArray]); (try simp only [List.set_cons_succ]); (try simp only [List.set_cons_zero]))
              refine wpAnyH_take (i := 4) (v := ?_) rfl (by kernel_rfl) (by kernel_rfl) (by kernel_rfl) (fun _ _ _ h => h) (Or.inl ⟨by rfl, ?_⟩) hHeld ?_
              case refine_2 => (intro w hSw; (try dsimp only at hSw); obtain ⟨k1, k2, ⟨k3, k4, k5⟩, k6, k7, k8⟩ := hSw; go_simp; try (with_reducible rfl))
              ((try simp only); (try simp only [List.getElem_toArray]); (try simp only [List.getElem_cons_succ]); (try simp only [List.getElem_cons_zero]); (try simp only [Act.put]); (try simp only [List.setIfInBounds_toArray]); (try simp only [List.set_cons_succ]); (try simp only [List.set_cons_zero]))
              refine wpAnyH_take (i := 5) (v := ?_) rfl (by kernel_rfl) (by kernel_rfl) (by kernel_rfl) (fun _ _ _ h => h) (Or.inl ⟨by rfl, ?_⟩) hHeld ?_
              case refine_2 => (intro w hSw; (try dsimp only at hSw); obtain ⟨k1, k2, ⟨k3, k4, k5⟩, k6, k7, k8⟩ := hSw; go_simp; try (with_reducible rfl))
              ((try simp only); (try simp only [List.getElem_toArray]); (try simp only [List.getElem_cons_succ]); (try simp only [List.getElem_cons_zero]); (try simp only [Act.put]); (try simp only [List.setIfInBounds_toArray]); (try simp only [List.set_cons_succ]); (try simp only [List.set_cons_zero]))
              refine wpAnyH_take (i := 6) (v := ?_) rfl (by kernel_rfl) (by kernel_rfl) (by kernel_rfl) (fun _ _ _ h => h) (Or.inl ⟨by rfl, ?_⟩) hHeld ?_
              case refine_2 => (intro w hSw; (try dsimp only at hSw); obtain ⟨k1, k2, ⟨k3, k4, k5⟩, k6, k7, k8⟩ := hSw; go_simp; try (with_reducible rfl))
              ((try simp only); (try simp only [List.getElem_toArray]); (try simp only [List.getElem_cons_succ]); (try simp only [List.getElem_cons_zero]); (try simp only [Act.put]); (try simp only [List.setIfInBounds_toArray]); (try simp only [List.set_cons_succ]); (try simp only [List.set_cons_zero]))
              refine wpAnyH_take (i := 7) (v := ?_) rfl (by kernel_rfl) (by kernel_rfl) (by kernel_rfl) (fun _ _ _ h => h) (Or.inl ⟨by rfl, ?_⟩) hHeld ?_
              case refine_2 => (intro w hSw; (try dsimp only at hSw); obtain ⟨k1, k2, ⟨k3, k4, k5⟩, k6, k7, k8⟩ := hSw; go_simp; try (with_reducible rfl))
              ((try simp only); (try simp only [List.getElem_toArray]); (try simp only [List.getElem_cons_succ]); (try simp only [List.getElem_cons_zero]); (try simp only [Act.put]); (try simp only [List.setIfInBounds_toArray]); (try simp only [List.set_cons_succ]); (try simp only [List.set_cons_zero]))
              refine wpAnyH_take (i := 8) (v := ?_) rfl (by kernel_rfl) (by kernel_rfl) (by kernel_rfl) (fun _ _ _ h => h) (Or.inl ⟨by rfl, ?_⟩) hHeld ?_
              case refine_2 => (intro w hSw; (try dsimp only at hSw); obtain ⟨k1, k2, ⟨k3, k4, k5⟩, k6, k7, k8⟩ := hSw; go_simp; try (with_reducible rfl))
              ((try simp only); (try simp only [List.getElem_toArray]); (try simp only [List.getElem_cons_succ]); (try simp only [List.getElem_cons_zero]); (try simp only [Act.put]); (try simp only [List.setIfInBounds_toArray]); (try simp only [List.set_cons_succ]); (try simp only [List.set_cons_zero]))
              refine wpAnyH_take (i := 9) (v := ?_) rfl (by kernel_rfl) (by kernel_rfl) (by kernel_rfl) (fun _ _ _ h => h) (Or.inl ⟨by rfl, ?_⟩) hHeld ?_
              case refine_2 => (intro w hSw; (try dsimp only at hSw); obtain ⟨k1, k2, ⟨k3, k4, k5⟩, k6, k7, k8⟩ := hSw; go_simp; try (with_reducible rfl))
              ((try simp only); (try simp only [List.getElem_toArray]); (try simp only [List.getElem_cons_succ]); (try simp only [List.getElem_cons_zero]); (try simp only [Act.put]); (try simp only [List.setIfInBounds_toArray]); (try simp only [List.set_cons_succ]); (try simp only [List.set_cons_zero]))
              refine wpAnyH_take (i := 10) (v := .bool (!(s == s))) rfl (by kernel_rfl) (by kernel_rfl) (by kernel_rfl) (fun _ _ _ h => h) (Or.inl ⟨by rfl, fun w hSw => exec_ne_snap _ _ _ rfl s s rfl rfl w⟩) hHeld ?_
              ((try simp only); (try simp only [List.getElem_toArray]); (try simp only [List.getElem_cons_succ]); (try simp only [List.getElem_cons_zero]); (try simp only [Act.put]); (try simp only [List.setIfInBounds_toArray]); (try simp only [List.set_cons_succ]); (try simp only [List.set_cons_zero]))
              refine wpAnyH_done (by kernel_rfl) ?_ _
              refine NoPanic.normal ?_
              have e : (s == s) = true := by simp
              rw [e]
              go_wp2
              go_roundg g
              case measure => omega
              case rel => exact ⟨j + 1, m + 1, by omega, num_succ (by have := H10.out; omega), rfl⟩
      · have q1 : (k : Int) < (n : Int) := by omega
        have q2 : ¬ ((k : Int) < 10) := by omega
        clear h1 h2
        go_upto_region 9 with fail
        clear hk10 HN HX1 HS
        cases hok : okN n ss k with
        | false =>
          have HR0 : Hid (right ⟨7, 9, 5, 3, nms ss k⟩ = false) := (show _ = _ by rw [HRT.out, hok])
          clear hok HRT
          have cB := bytes_sna (S := ⟨7, 9, 5, 3, nms ss k⟩) HP.out.sna
          have LD : Hid (HasU wr b ⟨7, 9, 5, 3, nms ss k⟩ (.slice pa k pc)) := HP.out.h
          go_upto_region 10 with (first
            | (refine load_sup _ rfl b rfl rfl _ _ LD.out ?_)
            | (go_at_call 9; refine cB.mono ?_; rintro e y1 ⟨b1, ⟨_, rfl⟩ | ⟨hf, _⟩⟩; rotate_left; · rw [HR0.out] at hf; cases hf))
          have cO := of_no y1
          have RRl : Hid (nilU.l = []) := rfl
          have N1 : Hid (NS w y1 b (nms ss k) (.slice pa k pc)) := HP.out.called b1
          clear cB LD HP b1
          go_upto_region 11 with (first
            | (go_at_call 12; refine cO.mono ?_; rintro e y2 ⟨zv, rfl, sn, b2⟩)
            | (refine store_sup rfl _ _ rfl y2.heap.size rfl nilU zv rfl sn.sna.one nilU (.slice none 0 0) (HasU.new y2 nilU _ _ rfl rfl) ?_; intro y3 hu3 tx3 sx3))
          have N3 : Hid (NS w y3 b (nms ss k) (.slice pa k pc)) := (N1.out.called b2).called (below_rowed ((Below.refl _ y2).alloc (Nat.le_refl _) _) tx3 (Nat.le_refl _) (Nat.le_refl _))
          have HU3 : Hid (HasU y3 y2.heap.size nilU zv) := hu3
          have SN3 : Hid (Sna y3 zv nilU.l) := sna_other sn tx3
          have cR := right_sna (S := ⟨7, 9, 5, 3, nms ss k⟩) N3.out.sna
          rw [HR0.out] at cR
          have LD : Hid (HasU y3 b ⟨7, 9, 5, 3, nms ss k⟩ (.slice pa k pc)) := N3.out.h
          clear hu3 tx3 sx3 sn b2 N1 cO
          generalize y2.heap.size = q at *
          go_wp2_with (first
            | (refine load_sup _ rfl b rfl rfl _ _ LD.out ?_)
            | (go_at_call 7; refine cR.mono ?_; rintro e y4 ⟨rfl, b4⟩))
          go_ret
          exact ⟨rfl, (N3.out.called b4).bel⟩
        | true =>
          have HR0 : Hid (right ⟨7, 9, 5, 3, nms ss k⟩ = true) := (show _ = _ by rw [HRT.out, hok])
          clear hok HRT
          have cB := bytes_sna (S := ⟨7, 9, 5, 3, nms ss k⟩) HP.out.sna
          have LD : Hid (HasU wr b ⟨7, 9, 5, 3, nms ss k⟩ (.slice pa k pc)) := HP.out.h
          go_upto_region 10 with (first
            | (refine load_sup _ rfl b rfl rfl _ _ LD.out ?_)
            | (go_at_call 9; refine cB.mono ?_; rintro e y1 ⟨b1, ⟨hf, _⟩ | ⟨_, ba, bc', rfl, by1⟩⟩; · rw [HR0.out] at hf; cases hf))
          have cO := of_yes HR0.out by1
          have N1 : Hid (NS w y1 b (nms ss k) (.slice pa k pc)) := HP.out.called b1
          clear cB LD HP b1
          go_upto_region 11 with (first
            | (go_at_call 12; refine cO.mono ?_; rintro e y2 ⟨zv, rfl, sn, b2⟩)
            | (refine store_sup rfl _ _ rfl y2.heap.size rfl ⟨7, 9, 5, 3, nms ss k⟩ zv rfl sn.sna.one nilU (.slice none 0 0) (HasU.new y2 nilU _ _ rfl rfl) ?_; intro y3 hu3 tx3 sx3))
          have N3 : Hid (NS w y3 b (nms ss k) (.slice pa k pc)) := (N1.out.called b2).called (below_rowed ((Below.refl _ y2).alloc (Nat.le_refl _) _) tx3 (Nat.le_refl _) (Nat.le_refl _))
          have HU3 : Hid (HasU y3 y2.heap.size ⟨7, 9, 5, 3, nms ss k⟩ zv) := hu3
          have SN3 : Hid (Sna y3 zv (nms ss k)) := sna_other sn tx3
          have cR := right_sna (S := ⟨7, 9, 5, 3, nms ss k⟩) N3.out.sna
          rw [HR0.out] at cR
          have LD : Hid (HasU y3 b ⟨7, 9, 5, 3, nms ss k⟩ (.slice pa k pc)) := N3.out.h
          clear hu3 tx3 sx3 sn b2 N1 cO
          generalize y2.heap.size = q at *
          obtain ⟨za, zc, rfl⟩ : ∃ za zc, zv = .slice za k zc := by
            have h := sna_form SN3.out
            rw [nms_length] at h
            exact h
          have CE : Hid (∀ y, Below y3.heap.size y3 y → y.cell? ⟨q, 4, none⟩ = some (.slice za k zc) ∧ y.cell? ⟨b, 4, none⟩ = some (.slice pa k pc)) := fun y hy => ⟨(HU3.out.below hy HU3.out.lt).cells.2.2.2.2, (N3.out.h.below hy N3.out.h.lt).cells.2.2.2.2⟩
          go_upto_region 15 with (first
            | (refine load_sup _ rfl b rfl rfl _ _ LD.out ?_)
            | (go_at_call 7; refine cR.mono ?_; rintro e y4 ⟨rfl, b4⟩; obtain ⟨e1, e2⟩ := CE.out _ b4))
          have N4 : Hid (NS w y4 b (nms ss k) (.slice pa k pc)) := N3.out.called b4
          have SA : Hid (Sna y4 (.slice za k zc) (nms ss k)) := SN3.out.below b4
          have SB : Hid (Sna y4 (.slice pa k pc) (nms ss k)) := N4.out.sna
          clear CE LD cR SN3 HU3 N3 b4 HR0
          go_wp2_with fail
          go_loopg [11] k (fun g i wy => ∃ j m : Nat, j + g = k ∧ i = .int .i64 (j : Int) ∧ wy = y4.drewN m)
          case atStart => exact ⟨0, 0, by omega, rfl, rfl⟩
          case round =>
            obtain ⟨j, m, hjg, rfl, rfl⟩ := hrel
            have kA : (y4.drewN m).cell? ⟨q, 4, none⟩ = some (.slice za k zc) := e1
            have kB : (y4.drewN m).cell? ⟨b, 4, none⟩ = some (.slice pa k pc) := e2
            cases gk with
            | zero =>
              obtain rfl : j = k := by omega
              have q1 : ¬ ((j : Int) < (j : Int)) := by omega
              have BF := (N4.out.drewN m).bel
              go_wp2
              go_ret
              exact ⟨rfl, BF⟩
            | succ g =>
              have hjk : (j : Int) < (k : Int) := by omega
              obtain ⟨ga, oa, rfl, hat⟩ := sna_at SA.out (show j < (nms ss k).length by rw [nms_length]; omega)
              obtain ⟨gb, ob, rfl, hbt⟩ := sna_at SB.out (show j < (nms ss k).length by rw [nms_length]; omega)
              generalize (nms ss k)[j]'(show j < (nms ss k).length by rw [nms_length]; omega) = s at *
              have sA : SnpAt (y4.drewN m).drew ga (oa + j * 3) s := hat.same rfl
              have sB : SnpAt (y4.drewN m).drew gb (ob + j * 3) s := hbt.same rfl
              have cA : (y4.drewN m).drew.cell? ⟨q, 4, none⟩ = some (.slice (some ⟨ga, oa, none⟩) k zc) := e1
              have cB : (y4.drewN m).drew.cell? ⟨b, 4, none⟩ = some (.slice (some ⟨gb, ob, none⟩) k pc) := e2
              clear hat hbt
              go_upto_region 18 with fail
              refine wp_region_noPanic ?_
              refine wp_region_held_drew (S := (fun y => y.cell? ⟨q, 4, none⟩ = some (.slice (some ⟨ga, oa, none⟩) k zc) ∧ y.cell? ⟨b, 4, none⟩ = some (.slice (some ⟨gb, ob, none⟩) k pc) ∧ SnpAt y ga (oa + j * 3) s ∧ SnpAt y gb (ob + j * 3) s)) (by kernel_rfl) ⟨cA, cB, sA, sB⟩ (fun hHeld => ?_)
              refine wpAnyH_take (i := 0) (v := ?_) rfl (by kernel_rfl) (by kernel_rfl) (by kernel_rfl) (fun _ _ _ h => h) (Or.inl ⟨by rfl, ?_⟩) hHeld ?_
              case refine_2 => (intro w hSw; (try dsimp only at hSw); obtain ⟨k1, k2, ⟨k3, k4, k5⟩, k6, k7, k8⟩ := hSw; go_simp; try (with_reducible rfl))
              ((try simp only); (try simp only [List.getElem_toArray]); (try simp only [List.getElem_cons_succ]); (try simp only [List.getElem_cons_zero]); (try simp only [Act.put]); (try simp only [List.setIfInBounds_toArray]); (try simp only [List.set_cons_succ]); (try simp only [List.set_cons_zero]))
              refine wpAnyH_take (i := 1) (v := ?_) rfl (by kernel_rfl) (by kernel_rfl) (by kernel_rfl) (fun _ _ _ h => h) (Or.inl ⟨by rfl, ?_⟩) hHeld ?_
              case refine_2 => (intro w hSw; (try dsimp only at hSw); obtain ⟨k1, k2, ⟨k3, k4, k5⟩, k6, k7, k8⟩ := hSw; go_simp; try (with_reducible rfl))
              ((try simp only); (try simp only [List.getElem_toArray]); (try simp only [List.getElem_cons_succ]); (try simp only [List.getElem_cons_zero]); (try simp only [Act.put]); (try simp only [List.setIfInBounds_toArray]); (try simp only [List.set_cons_succ]); (try simp only [List.set_cons_zero]))
              refine wpAnyH_take (i := 2) (v := ?_) rfl (by kernel_rfl) (by kernel_rfl) (by kernel_rfl) (fun _ _ _ h => h) (Or.inl ⟨by rfl, ?_⟩) hHeld ?_
              case refine_2 => (intro w hSw; (try dsimp only at hSw); obtain ⟨k1, k2, ⟨k3, k4, k5⟩, k6, k7, k8⟩ := hSw; go_simp; try (with_reducible rfl))
              ((try simp only); (try simp only [List.getElem_toArray]); (try simp only [List.getElem_cons_succ]); (try simp only [List.getElem_cons_zero]); (try simp only [Act.put]); (try simp only [List.setIfInBounds_toArray]); (try simp only [List.set_cons_succ]); (try simp only [List.set_cons_zero]))
              refine wpAnyH_take (i := 3) (v := ?_) rfl (by kernel_rfl) (by kernel_rfl) (by kernel_rfl) (fun _ _ _ h => h) (Or.inl ⟨by rfl, ?_⟩) hHeld ?_
              case refine_2 => (intro w hSw; (try dsimp only at hSw); obtain ⟨k1, k2, ⟨k3, k4, k5⟩, k6, k7, k8⟩ := hSw; go_simp; try (with_reducible rfl))
              ((try simp only); (try simp only [List.getElem_toArray]); (try simp only [List.getElem_cons_succ]); (try simp only [List.getElem_cons_zero]); (try simp only [Act.put]); (try simp only [List.setIfInBounds_toArray]); (try simp only [List.set_cons_succ]); (try simp only [List.set_cons_zero]))
              refine wpAnyH_take (i := 4) (v := ?_) rfl (by kernel_rfl) (by kernel_rfl) (by kernel_rfl) (fun _ _ _ h => h) (Or.inl ⟨by rfl, ?_⟩) hHeld ?_
              case refine_2 => (intro w hSw; (try dsimp only at hSw); obtain ⟨k1, k2, ⟨k3, k4, k5⟩, k6, k7, k8⟩ := hSw; go_simp; try (with_reducible rfl))
              ((try simp only); (try simp only [List.getElem_toArray]); (try simp only [List.getElem_cons_succ]); (try simp only [List.getElem_cons_zero]); (try simp only [Act.put]); (try simp only [List.setIfInBounds_toArray]); (try simp only [List.set_cons_succ]); (try simp only [List.set_cons_zero]))
              refine wpAnyH_take (i := 5) (v := ?_) rfl (by kernel_rfl) (by kernel_rfl) (by kernel_rfl) (fun _ _ _ h => h) (Or.inl ⟨by rfl, ?_⟩) hHeld ?_
              case refine_2 => (intro w hSw; (try dsimp only at hSw); obtain ⟨k1, k2, ⟨k3, k4, k5⟩, k6, k7, k8⟩ := hSw; go_simp; try (with_reducible rfl))
              ((try simp only); (try simp only [List.getElem_toArray]); (try simp only [List.getElem_cons_succ]); (try simp only [List.getElem_cons_zero]); (try simp only [Act.put]); (try simp only [List.setIfInBounds_toArray]); (try simp only [List.set_cons_succ]); (try simp only [List.set_cons_zero]))
              refine wpAnyH_take (i := 6) (v := ?_) rfl (by kernel_rfl) (by kernel_rfl) (by kernel_rfl) (fun _ _ _ h => h) (Or.inl ⟨by rfl, ?_⟩) hHeld ?_
              case refine_2 => (intro w hSw; (try dsimp only at hSw); obtain ⟨k1, k2, ⟨k3, k4, k5⟩, k6, k7, k8⟩ := hSw; go_simp; try (with_reducible rfl))
              ((try simp only); (try simp only [List.getElem_toArray]); (try simp only [List.getElem_cons_succ]); (try simp only [List.getElem_cons_zero]); (try simp only [Act.put]); (try simp only [List.setIfInBounds_toArray]); (try simp only [List.set_cons_succ]); (try simp only [List.set_cons_zero]))
              refine wpAnyH_take (i := 7) (v := ?_) rfl (by kernel_rfl) (by kernel_rfl) (by kernel_rfl) (fun _ _ _ h => h) (Or.inl ⟨by rfl, ?_⟩) hHeld ?_
              case refine_2 => (intro w hSw; (try dsimp only at hSw); obtain ⟨k1, k2, ⟨k3, k4, k5⟩, k6, k7, k8⟩ := hSw; go_simp; try (with_reducible rfl))
              ((try simp only); (try simp only [List.getElem_toArray]); (try simp only [List.getElem_cons_succ]); (try simp only [List.getElem_cons_zero]); (try simp only [Act.put]); (try simp only [List.setIfInBounds_toArray]); (try simp only [List.set_cons_succ]); (try simp only [List.set_cons_zero]))
              refine wpAnyH_take (i := 8) (v := ?_) rfl (by kernel_rfl) (by kernel_rfl) (by kernel_rfl) (fun _ _ _ h => h) (Or.inl ⟨by rfl, ?_⟩) hHeld ?_
              case refine_2 => (intro w hSw; (try dsimp only at hSw); obtain ⟨k1, k2, ⟨k3, k4, k5⟩, k6, k7, k8⟩ := hSw; go_simp; try (with_reducible rfl))
              ((try simp only); (try simp only [List.getElem_toArray]); (try simp only [List.getElem_cons_succ]); (try simp only [List.getElem_cons_zero]); (try simp only [Act.put]); (try simp only [List.setIfInBounds_toArray]); (try simp only [List.set_cons_succ]); (try simp only [List.set_cons_zero]))
              refine wpAnyH_take (i := 9) (v := ?_) rfl (by kernel_rfl) (by kernel_rfl) (by kernel_rfl) (fun _ _ _ h => h) (Or.inl ⟨by rfl, ?_⟩) hHeld ?_
              case refine_2 => (intro w hSw; (try dsimp only at hSw); obtain ⟨k1, k2, ⟨k3, k4, k5⟩, k6, k7, k8⟩ := hSw; go_simp; try (with_reducible rfl))
              ((try simp only); (try simp only [List.getElem_toArray]); (try simp only [List.getElem_cons_succ]); (try simp only [List.getElem_cons_zero]); (try simp only [Act.put]); (try simp only [List.setIfInBounds_toArray]); (try simp only [List.set_cons_succ]); (try simp only [List.set_cons_zero]))
              refine wpAnyH_take (i := 10) (v := .bool (!(s == s))) rfl (by kernel_rfl) (by kernel_rfl) (by kernel_rfl) (fun _ _ _ h => h) (Or.inl ⟨by rfl, fun w hSw => exec_ne_snap _ _ _ rfl s s rfl rfl w⟩) hHeld ?_
              ((try simp only); (try simp only [List.getElem_toArray]); (try simp only [List.getElem_cons_succ]); (try simp only [List.getElem_cons_zero]); (try simp only [Act.put]); (try simp only [List.setIfInBounds_toArray]); (try simp only [List.set_cons_succ]); (try simp only [List.set_cons_zero]))
              refine wpAnyH_done (by kernel_rfl) ?_ _
              refine NoPanic.normal ?_
              have e : (s == s) = true := by simp
              rw [e]
              go_wp2
              go_roundg g
              case measure => omega
              case rel => exact ⟨j + 1, m + 1, by omega, num_succ (by have := H10.out; omega), rfl⟩
end Go.Proofs.Ytnpohjbhfoebcaa
