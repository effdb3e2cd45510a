import Derived.Test.YtjhdnpplmlddaaaGreatB40
/- shown() of layer 7: it answers true, and changes nothing that was there. -/
namespace Go.Proofs.YtjhdnpplmlddaaaGreat
set_option linter.unusedVariables false
open Go.RowKit

theorem built_G (parts : List (Nat × Value)) : Tryz.prog.built 38 parts = Instr.fill ([(0, 24), (24, 1), (25, 1)].toArray[·]?) (cqc cq0).toArray parts := built_of _ _ _ (by kernel_rfl) (by kernel_rfl) parts
theorem built_put (K : List UInt8) (hK : K.length = 24) (s : ByteArray) : Tryz.prog.built 38 [(0, kv K), (1, .string s)] = some (encCq.c ⟨K, hK, s, false⟩).toArray := by
  rw [built_G, fill_put (off := 0) (size := 24) rfl (by simp [Value.cells, bc_length, hK]) (by simp [cqc, bc_length, cq0, zs_length]), cqc, row_K _ _ _ cq0.h,
    fill_put (off := 24) (size := 1) rfl rfl (by simp [bc_length, hK]), row_at K [.string cq0.s, .bool cq0.g] [] (.string cq0.s) _ [.bool cq0.g] 24 rfl rfl rfl hK]
  rfl
theorem built_gone (K : List UInt8) (hK : K.length = 24) : Tryz.prog.built 38 [(0, kv K), (2, .bool true)] = some (encCq.c ⟨K, hK, ByteArray.empty, true⟩).toArray := by
  rw [built_G, fill_put (off := 0) (size := 24) rfl (by simp [Value.cells, bc_length, hK]) (by simp [cqc, bc_length, cq0, zs_length]), cqc, row_K _ _ _ cq0.h,
    fill_put (off := 25) (size := 1) rfl rfl (by simp [bc_length, hK]), row_at K [.string cq0.s, .bool cq0.g] [.string cq0.s] (.bool cq0.g) _ [] 25 rfl rfl rfl hK]
  rfl
theorem Tryz.key7 : Tryz.prog.built 25 [(0, .int .u8 7)] = some (bc K7).toArray := by kernel_rfl
theorem plan1 (w1 : World) (iv v : Value) (h : Sl encCq w1 v [C71]) : Calls Tryz.prog 26 #[iv, .int .i64 0, v] w1 (PlTo w1 [.leaf F7 [Q7]]) := by
  refine (plan_zero w1 iv v [C71] h (by simp)).mono ?_
  rintro e w' ⟨v', ys, he, h1, h2, h3⟩
  rw [p7_pl] at he h2
  exact ⟨v', ys, he, h1, h2, h3⟩
theorem plan2 (w1 : World) (p q b m K L : Nat) (S : RfS) (tp tq : Value) (v : Value) (hm : Mm w1 p q b m K L S (N7 tp tq)) (h : Sl encCq w1 v [C72]) : Calls Tryz.prog 26 #[.iface 29 (.pointer (some ⟨p, 0, none⟩)), .int .i64 2, v] w1 (PlTo w1 []) := by
  obtain ⟨ad, cap, rfl, _⟩ := id h
  refine (plan_leaf (mem_getterN p q b m K L S (N7 tp tq)) w1 ad _ cap 2 X7 [C72] h (by simp) hm (by decide) (by unfold Rng; omega) (p7_getM tp tq) p7_right rfl (by rw [p7_toPq]; exact p7_mg2.2) rfl).mono ?_
  rintro e w' ⟨v', ys, he, h1, h2, h3⟩
  rw [p7_toPq, p7_pl2] at he h2
  exact ⟨v', ys, he, h1, h2, h3⟩
def all7 : Sp := ⟨zs 24, zs 24, true⟩
theorem keyed7 (tp tq : Value) : ∀ n, Keyed (getM (N7 tp tq) n).1 := fun n => by
  unfold getM N7 putN
  by_cases h : n = 2
  · subst h
    refine ⟨fun x hx => ?_, fun x hx => by cases hx⟩
    have : x = ⟨K7, ⟨#[49]⟩⟩ := by simpa [X7] using hx
    rw [this]
    rfl
  · simp only [if_neg h]
    exact ⟨(fun x hx => by cases hx), (fun x hx => by cases hx)⟩
theorem ok7 (tp tq : Value) : OkN (N7 tp tq) := fun n x hx i hi => by
  unfold N7 putN at hx
  by_cases h : n = 2
  · rw [if_pos h] at hx
    cases hx
    cases hi
  · rw [if_neg h] at hx
    cases hx
/-- What shown holds: the memory, the key, all of it new. -/
structure Sh (w y : World) (p q b m K L : Nat) (S : RfS) (N : Int → Option NV) (kb : Nat) : Prop where
  mm : Mm y p q b m K L S N
  key : Has y kb K7
  bel : Below w.heap.size w y
  ge : w.heap.size ≤ q ∧ w.heap.size ≤ b ∧ w.heap.size ≤ m
  ne : kb ≠ q ∧ kb ≠ b ∧ kb ≠ m
theorem Sh.called {w y z : World} {p q b m K L : Nat} {S : RfS} {N : Int → Option NV} {kb : Nat} (h : Sh w y p q b m K L S N kb) (bl : Below y.heap.size y z) : Sh w z p q b m K L S N kb :=
  ⟨h.mm.below bl (Nat.le_refl _), h.key.below bl h.key.lt, h.bel.trans (bl.mono h.bel.size), h.ge, h.ne⟩
theorem Sh.moved {w y z : World} {p q b m K L K' L' : Nat} {S S' : RfS} {N N' : Int → Option NV} {kb : Nat} (h : Sh w y p q b m K L S N kb) (f : FrM q b m y z) (mm : Mm z p q b m K' L' S' N') : Sh w z p q b m K' L' S' N' kb :=
  ⟨mm, ⟨h.key.len, (f.block kb h.key.lt h.ne.1 h.ne.2.1 h.ne.2.2).trans h.key.blk⟩, ⟨f.os.trans h.bel.os, f.tape.trans h.bel.tape, f.output.trans h.bel.output, Nat.le_trans h.bel.size f.size, fun k hk => (f.block k (by have := h.bel.size; omega) (by have := h.ge; omega) (by have := h.ge; omega) (by have := h.ge; omega)).trans (h.bel.block k hk)⟩, h.ge, h.ne⟩
end Go.Proofs.YtjhdnpplmlddaaaGreat
/- shown() of layer 7: the walk. -/
namespace Go.Proofs.YtjhdnpplmlddaaaGreat
set_option linter.unusedVariables false
open Go.RowKit

/-- Spans from nought to nought, as they lie. -/
def encA : Enc Bool 49 := ⟨fun e => sc (zs 24) (zs 24) e, fun _ => by simp [sc, bc_length, zs_length], fun e v hv => by
  simp only [sc, List.mem_append, List.mem_singleton] at hv
  rcases hv with (h | h) | rfl
  · exact bc_one _ v h
  · exact bc_one _ v h
  · rfl⟩
theorem elA : ElTy Tryz.prog encA 27 := ⟨⟨_, Tryz.underlying27, rfl, rfl⟩, by kernel_rfl⟩
theorem Tryz.span7 : Tryz.prog.built 27 [(2, .bool true)] = some (sc (zs 24) (zs 24) true).toArray := by kernel_rfl
set_option maxRecDepth 100000 in
set_option maxHeartbeats 2000000 in
theorem all_span (w : World) : Calls Tryz.prog 15 #[] w fun e w' => e = .returned (spv all7) ∧ Below w.heap.size w w' := by
  go_enter Tryz.func15, Tryz.ntmps15
  go_wp2_with (first
    | (refine build_any rfl 27 _ rfl [(2, .bool true)] (by simp only [List.map_toArray, List.map_cons, List.map_nil]; rfl) _ Tryz.span7 ?_)
    | (refine store_el elA rfl _ _ rfl w.heap.size rfl true rfl false (InB.new encA _ w false _ rfl) ?_; intro x1 hu1 tx1 sx1))
  refine ret_el elA rfl w.heap.size true rfl hu1 rfl ⟨rfl, ?_⟩
  exact ((Below.refl _ w).alloc (Nat.le_refl _) _).trans (tx1.below (by simp) (Nat.le_refl _) (by simp))
set_option maxRecDepth 100000 in
set_option maxHeartbeats 8000000 in
theorem shown_calls7 (w : World) : Calls Tryz.prog 6 #[] w fun e w' => e = .returned (.bool true) ∧ Below w.heap.size w w' := by
  have HN := newM_calls w 100
  rw [p7_new] at HN
  go_enter Tryz.func6, Tryz.ntmps6
  go_wp2_with fail
  refine HN.mono ?_
  rintro e w1 ⟨p, q, b, m, rfl, hm1, hb1, hge⟩
  clear HN
  go_upto_region 5 with (first
    | (refine build_any rfl 25 _ rfl [(0, .int .u8 7)] (by simp only [List.map_toArray, List.map_cons, List.map_nil]; rfl) _ Tryz.key7 ?_)
    | (refine store_key rfl _ _ rfl w1.heap.size rfl K7 rfl rfl (zs 24) (Has.new w1 (zs 24) rfl) ?_; intro x1 hu1 tx1 sx1))
  have BX : Below w1.heap.size w1 x1 := ((Below.refl _ w1).alloc (Nat.le_refl _) _).trans (tx1.below (by simp) (Nat.le_refl _) (by simp))
  have hl1 := hm1.lt
  have H1 : Hid (Sh w x1 p q b m 0 0 S70 (fun _ => none) w1.heap.size) := ⟨hm1.below BX (Nat.le_refl _), hu1, hb1.trans (BX.mono hb1.size), hge.2, by omega⟩
  clear hm1 hb1 hge hu1 tx1 sx1 BX hl1
  generalize w1.heap.size = kb at *
  go_wp2_with (first
    | (refine load_key _ rfl kb rfl rfl K7 H1.out.key ?_)
    | (refine build_at rfl rfl (cells := (encCq.c C71).toArray) (by simp only [List.map_toArray, List.map_cons, List.map_nil]; exact built_put K7 rfl ⟨#[49]⟩) ?_)
    | (refine build_el1 rowG rfl _ rfl C71 rfl (by decide) ?_; intro x5 o5 b5 s5 k5))
  have HSL : Hid (Sl encCq x5 (.slice (some ⟨x1.heap.size, 0, none⟩) 1 1) [C71]) := o5.slB
  have H5 : Hid (Sh w x5 p q b m 0 0 S70 (fun _ => none) kb) := H1.out.called b5
  clear o5 b5 s5 k5 H1
  refine (apply_one x5 p q b m 0 0 S70 (fun _ => none) 0 F7 _ 1 C71 [Q7] HSL.out rfl H5.out.mm p7_right (by decide) (by decide) (by rw [p7_next]; unfold I64; omega) p7_took (fun w1 v _ hv => plan1 w1 _ v hv)).mono ?_
  rw [p7_next]
  rintro e w2 ⟨rfl, hf2, tp, tq, hm2⟩
  have H2 : Hid (Sh w w2 p q b m 1 1 S70.take (N7 tp tq) kb) := H5.out.moved hf2 hm2
  clear hf2 hm2 H5 HSL
  go_wp2_with (first
    | (refine load_key _ rfl kb rfl rfl K7 H2.out.key ?_)
    | (refine build_at rfl rfl (cells := (encCq.c C72).toArray) (by simp only [List.map_toArray, List.map_cons, List.map_nil]; exact built_gone K7 rfl) ?_)
    | (refine build_el1 rowG rfl _ rfl C72 rfl (by decide) ?_; intro x6 o6 b6 s6 k6))
  have HSL : Hid (Sl encCq x6 (.slice (some ⟨w2.heap.size, 0, none⟩) 1 1) [C72]) := o6.slB
  have H6 : Hid (Sh w x6 p q b m 1 1 S70.take (N7 tp tq) kb) := H2.out.called b6
  clear o6 b6 s6 k6 H2
  refine (apply_none x6 _ _ 2 _ 1 C72 HSL.out rfl (fun w1 v hb hv => plan2 w1 p q b m 1 1 S70.take tp tq v (H6.out.mm.below hb (Nat.le_refl _)) hv)).mono ?_
  rintro e w3 ⟨rfl, b3⟩
  have H3 : Hid (Sh w w3 p q b m 1 1 S70.take (N7 tp tq) kb) := H6.out.called b3
  clear b3 H6 HSL
  have HG := get_calls (mem_getter p q b m 1 1 S70.take (N7 tp tq)) w3 2 K7 rfl H3.out.mm (by unfold Rng; omega)
  rw [p7_get] at HG
  go_wp2_with (refine load_key _ rfl kb rfl rfl K7 H3.out.key ?_)
  refine HG.mono ?_
  rintro e w4 ⟨rfl, b4⟩
  have H4 : Hid (Sh w w4 p q b m 1 1 S70.take (N7 tp tq) kb) := H3.out.called b4
  clear b4 H3 HG
  have HG := get_calls (mem_getter p q b m 1 1 S70.take (N7 tp tq)) w4 0 K7 rfl H4.out.mm (by unfold Rng; omega)
  rw [p7_get0] at HG
  go_wp2_with (refine load_key _ rfl kb rfl rfl K7 H4.out.key ?_)
  refine HG.mono ?_
  rintro e w5 ⟨rfl, b5⟩
  have H5 : Hid (Sh w w5 p q b m 1 1 S70.take (N7 tp tq) kb) := H4.out.called b5
  clear b5 H4 HG
  go_wp2_with fail
  refine (all_span _).mono ?_
  rintro e w6 ⟨rfl, b6⟩
  have H6 : Hid (Sh w w6 p q b m 1 1 S70.take (N7 tp tq) kb) := H5.out.called b6
  clear b6 H5
  have HSc := scanRoot_calls (mem_getter p q b m 1 1 S70.take (N7 tp tq)) (keyed7 tp tq) w6 2 all7 H6.out.mm (Nat.zero_le _) (by unfold Rng; omega) ⟨rfl, rfl⟩ (by rw [all7, p7_scan]; decide)
  rw [all7, p7_scan] at HSc
  go_wp2_with fail
  refine HSc.mono ?_
  rintro e w7 ⟨b7, ⟨h, -⟩ | ⟨-, fv, rfl, ho⟩⟩
  · exact (h (by first | trivial | rfl)).elim
  have H7 : Hid (Sh w w7 p q b m 1 1 S70.take (N7 tp tq) kb) := H6.out.called b7
  obtain ⟨af, cf, rfl⟩ := own_slice ho
  clear b7 H6 HSc ho
  have HCo := mcount_calls w7 p q b m 1 1 S70.take (N7 tp tq) 2 H7.out.mm (by unfold I64; omega)
  rw [p7_cnt] at HCo
  go_wp2_with fail
  refine HCo.mono ?_
  rintro e w8 ⟨rfl, hw⟩
  rw [hw]
  clear hw HCo
  have HCh := check_calls (mem_getter p q b m 1 1 S70.take (N7 tp tq)) w7 2 H7.out.mm (by unfold Rng; omega)
  rw [p7_check] at HCh
  go_wp2_with fail
  refine HCh.mono ?_
  rintro e w9 ⟨rfl, b9⟩
  have H9 : Hid (Sh w w9 p q b m 1 1 S70.take (N7 tp tq) kb) := H7.out.called b9
  clear b9 H7 HCh
  obtain ⟨r1, r2, r3⟩ := p7_rel tp tq
  have HRe := releaseRoot_calls p q b m 1 w9 ⟨1, S70.take, N7 tp tq⟩ 2 H9.out.mm (ok7 tp tq) (by unfold Rng; omega) r3
  rw [r1] at HRe
  go_wp2_with fail
  refine HRe.mono ?_
  rintro e w10 ⟨rfl, hm10, hf10⟩
  have hS10 := H9.out.moved hf10 hm10
  have HFr := mfree_calls w10 p q b m _ 1 _ _ hm10 r3
  rw [r2] at HFr
  have H10 : Hid (Below w.heap.size w w10) := hS10.bel
  clear HRe hm10 hf10 hS10 H9 r1 r2 r3
  go_wp2_with fail
  refine HFr.mono ?_
  rintro e w11 ⟨rfl, b11⟩
  clear HFr
  go_wp2
  go_ret
  exact ⟨by first | rfl | (simp; done), H10.out.trans (b11.mono H10.out.size)⟩
end Go.Proofs.YtjhdnpplmlddaaaGreat
