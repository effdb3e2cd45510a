/- fieldsOf, held, says. -/
import Derived.Test.YtnpohjbhfoebcaaSupC
namespace Go.Proofs.Ytnpohjbhfoebcaa
set_option linter.unusedVariables false
open Go.RowKit

theorem splice_fc (F : Fld) (hF : F.l.length = 8) (l : List Snp) (hl : l.length ≤ 8) : ((fc F).toArray.toList.take 6 ++ sncs l ++ (fc F).toArray.toList.drop (6 + (sncs l).length)) = fc { F with l := l ++ F.l.drop l.length } := by
  have e : F.l = F.l.take l.length ++ F.l.drop l.length := by simp
  have h1 : sncs F.l = sncs (F.l.take l.length) ++ sncs (F.l.drop l.length) := by rw [← sncs_append, ← e]
  have h2 : (sncs (F.l.take l.length)).length = (sncs l).length := by rw [sncs_length, sncs_length, List.length_take, hF, Nat.min_eq_left hl]
  simp only [fc, sncs_append]
  rw [h1, Nat.add_comm 6]
  simp [← h2]
theorem wp_copy_snaps {o : Oper} {a : Act} {w : World} {K : Act → World → Prop} {Q : Exit → Act → World → Prop} (d s : Operand)
    (ho : o.op = .call { callee := .builtin .copy, args := #[d, s], argTypes := #[22, 22] }) (b : Nat) (F : Fld) (hF : HasF w b F) (hd : a.eval d = .slice (some ⟨b, 6, none⟩) 8 8)
    (sv : Value) (l : List Snp) (r : Option Nat) (hs : a.eval s = sv) (hin : SnapsIn w sv l r) (hl : l.length ≤ 8)
    (h : ∀ w', HasF w' b { F with l := l ++ F.l.drop l.length } → Touch b none w w' → w'.heap.size = w.heap.size → K (a.put o.dst (goInt l.length)) w') : o.wp Try.prog a w K Q := by
  obtain ⟨ad, cap, rfl, hcap, _, hc⟩ := hin
  have h3 : (Try.prog.info? 40).map (·.size) = some 3 := by kernel_rfl
  rcases hc with rfl | ⟨g, off, rfl, _, hg, hat⟩
  · have hrun := run_copy_no (P := Try.prog) w 22 22 o.type 40 (some ⟨b, 6, none⟩) ad 8 8 0 cap Try.underlying22 (by rw [h3]; rfl) rfl
    unfold Oper.wp
    simp [execOp, ho, resolve, invoke, builtin, hd, hs, hrun, Result.andThen]
    exact h w (by simpa using hF) (Touch.refl _ _ _) rfl
  · have hrun := run_copy_rows (P := Try.prog) w 22 22 o.type 40 3 b 6 8 8 ⟨g, off, none⟩ l.length cap (fc F).toArray _ (sncs l) Try.underlying22 h3 hF.blk (by rw [sncs_length, show Nat.min l.length 8 = l.length from Nat.min_eq_left hl])
      (fun j v hj => by rw [add_lit]; exact sncs_cells hat j v hj) (by rw [fc_size F hF.len, sncs_length]; omega) (sncs_one l)
    rw [splice_fc F hF.len l hl, show Nat.min l.length 8 = l.length from Nat.min_eq_left hl] at hrun
    unfold Oper.wp
    simp [execOp, ho, resolve, invoke, builtin, hd, hs, hrun, Result.andThen]
    exact h _ (hF.setRow _ (by have := hF.len; simp; omega)) (touch_row _ _ _) (by simp)
theorem step_copy_snaps {ops : Array Oper} {o : Oper} {a : Act} {w : World} {K : Act → World → Prop} {Q : Exit → Act → World → Prop} {E : Prop} (hgd : o.guard = none) (d s : Operand)
    (ho : o.op = .call { callee := .builtin .copy, args := #[d, s], argTypes := #[22, 22] }) (b : Nat) (F : Fld) (hF : HasF w b F) (hd : a.eval d = .slice (some ⟨b, 6, none⟩) 8 8)
    (sv : Value) (l : List Snp) (r : Option Nat) (hs : a.eval s = sv) (hin : SnapsIn w sv l r) (hl : l.length ≤ 8)
    (h : ∀ w', HasF w' b { F with l := l ++ F.l.drop l.length } → Touch b none w w' → w'.heap.size = w.heap.size → K (a.put o.dst (goInt l.length)) w') : if Region.wanted o (yielded ops a.tmps) = true then Oper.wp Try.prog o a w K Q else E := by
  have hw : Region.wanted o (yielded ops a.tmps) = true := by simp [Region.wanted, hgd]
  rw [if_pos hw]
  exact wp_copy_snaps d s ho b F hF hd sv l r hs hin hl h

theorem build_fld {ops : Array Oper} {rest : List Oper} {o : Oper} {a : Act} {w : World} {Q : Exit → Act → World → Prop} (hgd : o.guard = none) (x0 x1 x2 x3 x4 x5 x7 : Operand) (ho : o.op = .build 48 #[(0, x0), (1, x1), (2, x2), (3, x3), (4, x4), (5, x5), (7, x7)])
    (g : Int) (lt : ByteArray) (r x c n e : Int) (h0 : a.eval x0 = .int .i64 g) (h1 : a.eval x1 = .string lt) (h2 : a.eval x2 = .int .i64 r) (h3 : a.eval x3 = .int .i64 x) (h4 : a.eval x4 = .int .i64 c) (h5 : a.eval x5 = .int .i64 n) (h7 : a.eval x7 = .int .i64 e)
    (h : wpList Try.prog ops Q rest (a.put o.dst (fv ⟨g, lt, r, x, c, n, List.replicate 8 nilS, e⟩)) w) : wpList Try.prog ops Q (o :: rest) a w := by
  refine wpList_plain hgd fun K hK => ?_
  have hb := Try.fld_built g lt r x c n e
  have e : (Array.map (fun x : Nat × Operand => match x with | (i, x) => (i, a.eval x)) #[(0, x0), (1, x1), (2, x2), (3, x3), (4, x4), (5, x5), (7, x7)]).toList = [(0, .int .i64 g), (1, .string lt), (2, .int .i64 r), (3, .int .i64 x), (4, .int .i64 c), (5, .int .i64 n), (7, .int .i64 e)] := by simp [h0, h1, h2, h3, h4, h5, h7]
  refine wp_build 48 _ ho (by rw [e, hb]; rfl) ?_
  rw [e, hb]
  exact hK _ _ h
theorem build_fld0 {ops : Array Oper} {rest : List Oper} {o : Oper} {a : Act} {w : World} {Q : Exit → Act → World → Prop} (hgd : o.guard = none) (ho : o.op = .build 48 #[])
    (h : wpList Try.prog ops Q rest (a.put o.dst (fv zeroF)) w) : wpList Try.prog ops Q (o :: rest) a w := by
  refine wpList_plain hgd fun K hK => ?_
  have hb := Try.fld_built0
  have e : (Array.map (fun x : Nat × Operand => match x with | (i, x) => (i, a.eval x)) #[]).toList = [] := by simp
  refine wp_build 48 _ ho (by rw [e, hb]; rfl) ?_
  rw [e, hb]
  exact hK _ _ h
theorem zero_hasF (w : World) (b : Nat) (hb : b = w.heap.size) : HasF (w.alloc (.cells (fc zeroF).toArray 48)) b zeroF := by
  subst hb
  exact HasF.new w zeroF rfl

def wain : ByteArray := ⟨#[87, 65, 73, 78]⟩
def fieldsOf (S : Sup) : Fld := ⟨S.g, wain, S.r, S.x, S.c, S.l.length, S.l ++ List.replicate (8 - S.l.length) nilS, S.g⟩
theorem fieldsOf_length (S : Sup) (h : S.l.length ≤ 8) : (fieldsOf S).l.length = 8 := by simp [fieldsOf]; omega

theorem below_rowed {B p : Nat} {a w w' : World} (h : Below B a w) (t : Touch p none w w') (hp : B ≤ p) (hB : B ≤ a.heap.size) : Below B a w' :=
  h.trans (t.below (by have := h.size; omega) hp (by simp))

set_option maxHeartbeats 4000000 in
theorem fieldsOf_calls (w : World) (sv : Value) (S : Sup) (r : Option Nat) (h : SnapsIn w sv S.l r) (hr : ∀ k, r = some k → k < w.heap.size) (h8 : S.l.length ≤ 8) :
    Calls Try.prog 16 #[uv S sv] w fun e w' => e = .returned (fv (fieldsOf S)) ∧ Below w.heap.size w w' := by
  obtain ⟨g, rt, x, c, l⟩ := S
  have hin : Hid (SnapsIn w sv l r) := h
  obtain ⟨ad, cap, rfl, _⟩ := h
  go_enter Try.func16, Try.ntmps16
  go_wp2_with (first
    | (refine build_fld rfl _ _ _ _ _ _ _ rfl g wain rt x c l.length g rfl rfl rfl rfl rfl rfl rfl ?_)
    | (refine store_fld rfl _ _ rfl _ rfl ⟨g, wain, rt, x, c, l.length, List.replicate 8 nilS, g⟩ rfl rfl zeroF (zero_hasF _ _ (by simp)) ?_; intro w1 h1 t1 s1))
  have hb1 : Below w.heap.size w w1 := below_rowed (((Below.refl _ w).alloc (Nat.le_refl _) _ |>.alloc (by simp) _).alloc (by simp; omega) _) t1 (by omega) (Nat.le_refl _)
  have hin1 : Hid (SnapsIn w1 (.slice ad l.length cap) l r) := hin.out.below hb1 hr
  have c4 : w1.cell? ⟨w.heap.size, 4, none⟩ = some (.slice ad l.length cap) := by
    rw [cell_of_row w1 w.heap.size 4 _ _ _ ((t1.block _ (by simp; omega) (by omega) (by simp)).trans ((Below.heap_alloc _ _ _ (by simp; omega)).trans ((Below.heap_alloc _ _ _ (by simp)).trans (heap_alloc_new _ _))))]
    rfl
  have z1 : HasF w1 (w.heap.size + 1) zeroF := by
    refine (HasF.alloc (zero_hasF (w.alloc (.cells (uc ⟨g, rt, x, c, l⟩ (.slice ad l.length cap)) 24)) (w.heap.size + 1) (by simp)) _).same (t1.block _ (by simp) (by simp) (by simp))
  have HH : Hid (HasF w1 (w.heap.size + 2) ⟨g, wain, rt, x, c, l.length, List.replicate 8 nilS, g⟩) := h1
  have HZ : Hid (HasF w1 (w.heap.size + 1) zeroF) := z1
  clear t1 h1 z1 s1 hin
  go_region_law ((refine step_copy_snaps rfl (.tmp 19) (.tmp 21) rfl (w.heap.size + 2) ⟨g, wain, rt, x, c, l.length, List.replicate 8 nilS, g⟩ (HH.out.same rfl) rfl (.slice ad l.length cap) l r rfl (hin1.out.kept fun _ _ => rfl) h8 ?_; intro w2 h2 t2 s2))
  have HZ2 : Hid (HasF w2 (w.heap.size + 1) zeroF) := HZ.out.same (t2.block _ (by have := HZ.out.lt; simpa using this) (by omega) (by simp))
  have e8 : (List.replicate 8 nilS).drop l.length = List.replicate (8 - l.length) nilS := by rw [List.drop_replicate]
  rw [e8] at h2
  have H2 : Hid (HasF w2 (w.heap.size + 2) (fieldsOf ⟨g, rt, x, c, l⟩)) := h2
  clear h2 c4
  go_wp2_with (first
    | (refine load_fld _ rfl (w.heap.size + 2) rfl rfl _ H2.out ?_)
    | (refine store_fld rfl _ _ rfl (w.heap.size + 1) rfl (fieldsOf ⟨g, rt, x, c, l⟩) rfl H2.out.len zeroF HZ2.out ?_; intro w3 h3 t3 s3))
  refine ret_fld rfl _ _ rfl h3 rfl ⟨rfl, ?_⟩
  exact below_rowed (below_rowed (show Below w.heap.size w w1.drew from below_drewN hb1 1) t2 (by omega) (Nat.le_refl _)) t3 (by omega) (Nat.le_refl _)

set_option maxHeartbeats 4000000 in
theorem held_calls (w : World) (F : Fld) (hF : F.l.length = 8) :
    Calls Try.prog 25 #[fv F] w fun e w' => e = .returned (.int .i64 (min F.n 8)) ∧ Below w.heap.size w w' := by
  have hn : HasF (w.alloc (.cells (fc F).toArray 48 (0, 0))) w.heap.size F := HasF.new w F hF
  obtain ⟨c0, c1, c2, c3, c4, c5, c6⟩ := hn.six
  have HH : Hid (HasF (w.alloc (.cells (fc F).toArray 48 (0, 0))) w.heap.size F) := hn
  clear hn
  go_enter Try.func25, Try.ntmps25
  go_wp2
  all_goals (go_ret; refine ⟨?_, (Below.refl _ w).alloc (Nat.le_refl _) _⟩; simp; omega)
end Go.Proofs.Ytnpohjbhfoebcaa
