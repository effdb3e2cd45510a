/- SuperFlips, walked. -/
import Derived.Test.YtnpohjbhfoebcaaArgF
import Derived.Deep.RegionHeld3
import Derived.Deep.RegionLaw
namespace Go.Proofs.Ytnpohjbhfoebcaa
set_option linter.unusedVariables false
open Go.RowKit

theorem SnaN.touchN {x y : World} {sv : Value} {l : List Snp} {B p : Nat} (h : SnaN x sv l B) (t : Touch p none x y) (hp : p < B) : SnaN y sv l B := by
  obtain ⟨r, h1, h2⟩ := h
  exact ⟨r, h1.kept fun k hk => t.block k (h2 k hk).2 (by have := h2 k hk; omega) (by simp), fun k hk => ⟨(h2 k hk).1, by have := h2 k hk; have := t.size; omega⟩⟩
theorem SnaN.belowN {x y : World} {sv : Value} {l : List Snp} {B : Nat} (h : SnaN x sv l B) (b : Below x.heap.size x y) : SnaN y sv l B := by
  obtain ⟨r, h1, h2⟩ := h
  exact ⟨r, h1.below b fun k hk => (h2 k hk).2, fun k hk => ⟨(h2 k hk).1, by have := h2 k hk; have := b.size; omega⟩⟩
theorem cells_none {x : World} {M : List UInt8} (h : M = []) (ad : Addr) : ∀ j u, (bc M)[j]? = some u → x.cell? (ad.add j) = some u := fun j u hu => by
  rw [h] at hu
  cases hu
def setG (S : Sup) (g : Int) : Sup := { S with g := g }
theorem HasU.setG {w : World} {b : Nat} {S : Sup} {sv : Value} (h : HasU w b S sv) (g : Int) : HasU (w.setCell ⟨b, 0, none⟩ (.int .i64 g)) b (setG S g) sv := by
  refine ⟨?_, h.2⟩
  simp [World.setCell, Array.getElem?_modify, h.1, uc, Go.Proofs.Ytnpohjbhfoebcaa.setG]
theorem touch_set0 (x : World) (b : Nat) (u : Value) : Touch b none x (x.setCell ⟨b, 0, none⟩ u) := (Touch.refl b none x).setCell 0 u
theorem step_append_own {P : Program} (w : World) {ops : Array Oper} {o : Oper} {a : Act} {K : Act → World → Prop} {Q : Exit → Act → World → Prop} {E : Prop} (hgd : o.guard = none) (s x : Operand) (t : TypeId)
    (ho : o.op = .call { callee := .builtin .append, args := #[s, x], argTypes := #[t, t] })
    (base : Nat) (e : TypeId) (i : TypeInfo) (z : Value) (size bytes : Nat) (ht : P.underlying t = some (.slice e)) (hi : P.info? e = some i) (hz : i.zero = some z)
    (hsize : i.size = size) (hby : i.bytes = bytes) (hzs : z.cells.size = size) (hsz : 0 < size)
    (v : Value) (n : Nat) (xs : List Value) (hs : a.eval s = v) (hown : w.ownsRow base e size v n xs)
    (ad : Addr) (m c : Nat) (news : List Value) (hx : a.eval x = .slice (some ad) m c) (hl : news.length = m * size) (hnews : ∀ j u, news[j]? = some u → w.cell? (ad.add j) = some u) (h1 : ∀ u ∈ news, u.oneCell' = true)
    (h63 : n + m ≤ maxLen) (hbytes : (n + m) * bytes ≤ 140737488355328) (hbase : base ≤ w.heap.size)
    (h : ∀ v' w', w'.ownsRow base e size v' (n + m) (xs ++ news) → w.grownBy w' v.ownBlock → K (a.put o.dst v') w') :
    if Region.wanted o (yielded ops a.tmps) = true then Oper.wp P o a w K Q else E := by
  have hw : Region.wanted o (yielded ops a.tmps) = true := by simp [Region.wanted, hgd]
  rw [if_pos hw]
  exact wp_append_own w s x t ho base e i z size bytes ht hi hz hsize hby hzs hsz v n xs hs hown ad m c news hx hl hnews h1 h63 hbytes hbase fun v' w' h2 h3 _ => h v' w' h2 h3
theorem bl_irr : ∀ l : List UInt8, Op.bytesLess l l = false
  | [] => rfl
  | a :: r => by simp [Op.bytesLess, bl_irr r]
theorem bl_asym : ∀ a b : List UInt8, Op.bytesLess a b = true → Op.bytesLess b a = false
  | [], [], h => by cases h
  | [], _ :: _, _ => rfl
  | _ :: _, [], h => by cases h
  | x :: a, y :: b, h => by
    simp only [Op.bytesLess, Bool.or_eq_true, Bool.and_eq_true, decide_eq_true_eq, beq_iff_eq, Bool.or_eq_false_iff, Bool.and_eq_false_iff] at h ⊢
    rcases h with h | ⟨rfl, h⟩
    · refine ⟨by simpa using UInt8.le_of_lt h, .inl ?_⟩
      have : y ≠ x := fun e => by subst e; exact absurd h (UInt8.lt_irrefl _)
      simpa using this
    · exact ⟨by simp, .inr (bl_asym a b h)⟩
theorem gt_false {A B : List UInt8} (h : (!Op.bytesLess (str A).toList (str B).toList && !(str A).toList == (str B).toList) = false) : Op.bytesLess B A = false := by
  rw [str_toList, str_toList] at h
  cases h1 : Op.bytesLess A B with
  | true => exact bl_asym A B h1
  | false =>
    rw [h1] at h
    have e : A = B := by simpa using h
    subst e
    exact bl_irr A
theorem step_store_sup {ops : Array Oper} {o : Oper} {a : Act} {w : World} {K : Act → World → Prop} {Q : Exit → Act → World → Prop} {E : Prop} (hgd : o.guard = none) (x y : Operand) (ho : o.op = .store 24 x y) (b : Nat) (hx : a.eval x = .pointer (some ⟨b, 0, none⟩)) (T : Sup) (tv : Value) (hy : a.eval y = uv T tv) (ht : tv.oneCell' = true) (S : Sup) (sv : Value) (hF : HasU w b S sv)
    (h : ∀ w', HasU w' b T tv → Touch b none w w' → w'.heap.size = w.heap.size → K (a.put o.dst undef) w') : if Region.wanted o (yielded ops a.tmps) = true then Oper.wp Try.prog o a w K Q else E := by
  have hw : Region.wanted o (yielded ops a.tmps) = true := by simp [Region.wanted, hgd]
  rw [if_pos hw]
  exact store_sup_op x y ho b hx T tv hy ht S sv hF h
/-- What Choose gives, if it gives one. -/
def ChTo (x : World) (R : Sup) (e : Ending) (y : World) : Prop := ∃ zv, e = .returned (.tuple #[uv R zv, .int .i64 0]) ∧ Sna y zv R.l ∧ Below x.heap.size x y ∧ ∀ k, (∃ r, SnapsIn y zv R.l r ∧ r = some k) → True
theorem choose_to {x : World} {av bv : Value} {A B : List UInt8} {R : Sup} (h : Byt x av A) (h' : Byt x bv B) (e : chooseP A B = some R) : Calls Try.prog 10 #[av, bv] x fun e y => ∃ zv, e = .returned (.tuple #[uv R zv, .int .i64 0]) ∧ SnaN y zv R.l x.heap.size ∧ Below x.heap.size x y := by
  refine (choose_byt h h').mono ?_
  rintro e y ⟨zv, r, h1, h2, h3, h4⟩
  rw [‹chooseP A B = some R›] at h1 h2
  exact ⟨zv, h1, ⟨r, h2, h3⟩, h4⟩
theorem sna_other {x y : World} {zv : Value} {l : List Snp} {B : Nat} {o : Obj} (h : SnaN x zv l B) (t : Touch x.heap.size none (x.alloc o) y) : Sna y zv l := by
  obtain ⟨r, h1, h2⟩ := h
  refine ⟨r, h1.kept fun k hk => ?_, fun k hk => ?_⟩
  · have hlt := (h2 k hk).2
    exact (t.block k (by simp; omega) (by omega) (by simp)).trans (Below.heap_alloc _ _ _ hlt)
  · have hlt := (h2 k hk).2
    have := t.size
    simp at this
    omega
theorem sna_form {x : World} {zv : Value} {l : List Snp} (h : Sna x zv l) : ∃ a c, zv = .slice a l.length c := by
  obtain ⟨r, ⟨ad, cap, e, _⟩, _⟩ := h
  exact ⟨ad, cap, e⟩
theorem sup_new {wz w13 : World} {R : Sup} {zv : Value} (h : Sna w13 zv R.l) (hb : Below wz.heap.size wz w13) : Hid (HasU (w13.alloc (.cells (uc R zv) 24)) w13.heap.size R zv ∧ Sna (w13.alloc (.cells (uc R zv) 24)) zv R.l ∧ Below wz.heap.size wz (w13.alloc (.cells (uc R zv) 24))) :=
  ⟨HasU.new w13 R zv _ rfl h.one, h.below ((Below.refl _ _).alloc (Nat.le_refl _) _), hb.alloc hb.size _⟩
theorem sup_set {wz w13 : World} {R S : Sup} {zv sv : Value} (hu : HasU w13 wz.heap.size S sv) (hb : Below wz.heap.size wz w13) (hs : SnaN w13 zv R.l (wz.heap.size + 1)) :
    Hid (HasU (((((w13.setCell ⟨wz.heap.size, 0, none⟩ (.int .i64 R.g)).setCell ⟨wz.heap.size, 1, none⟩ (.int .i64 R.r)).setCell ⟨wz.heap.size, 2, none⟩ (.int .i64 R.x)).setCell ⟨wz.heap.size, 3, none⟩ (.int .i64 R.c)).setCell ⟨wz.heap.size, 4, none⟩ zv) wz.heap.size R zv ∧
      Sna (((((w13.setCell ⟨wz.heap.size, 0, none⟩ (.int .i64 R.g)).setCell ⟨wz.heap.size, 1, none⟩ (.int .i64 R.r)).setCell ⟨wz.heap.size, 2, none⟩ (.int .i64 R.x)).setCell ⟨wz.heap.size, 3, none⟩ (.int .i64 R.c)).setCell ⟨wz.heap.size, 4, none⟩ zv) zv R.l ∧
      Below wz.heap.size wz (((((w13.setCell ⟨wz.heap.size, 0, none⟩ (.int .i64 R.g)).setCell ⟨wz.heap.size, 1, none⟩ (.int .i64 R.r)).setCell ⟨wz.heap.size, 2, none⟩ (.int .i64 R.x)).setCell ⟨wz.heap.size, 3, none⟩ (.int .i64 R.c)).setCell ⟨wz.heap.size, 4, none⟩ zv)) := by
  have t := (((((Touch.refl wz.heap.size none w13).setCell 0 (.int .i64 R.g)).setCell 1 (.int .i64 R.r)).setCell 2 (.int .i64 R.x)).setCell 3 (.int .i64 R.c)).setCell 4 zv
  refine ⟨⟨?_, hs.sna.one⟩, hs.touch t (by omega), below_rowed hb t (Nat.le_refl _) (Nat.le_refl _)⟩
  simp [World.setCell, Array.getElem?_modify, hu.1, uc]
theorem append_argO {ops : Array Oper} {rest : List Oper} {o : Oper} {a : Act} {w : World} {Q : Exit → Act → World → Prop} (hgd : o.guard = none) (s x : Operand) (ho : o.op = .call { callee := .builtin .append, args := #[s, x], argTypes := #[25, 25] })
    (W : World) (hw : w = W.alloc (.cells #[] 5)) (hs : a.eval s = .slice (some ⟨W.heap.size, 0, none⟩) 0 0) (ad : Option Addr) (n cap : Nat) (L : List UInt8) (hx : a.eval x = .slice ad n cap) (hL : ArgB w ad n cap L) (hn : n ≤ 600)
    (h : ∀ a' c' w', w'.ownsRow W.heap.size 5 1 (.slice a' n c') n (bc L) → Below W.heap.size W w' → wpList Try.prog ops Q rest (a.put o.dst (.slice a' n c')) w') : wpList Try.prog ops Q (o :: rest) a w := by
  obtain ⟨i0, hi, hz0, hz1, hz2⟩ := info_parts Try.info_u8
  obtain ⟨h1, h2, h3, h4⟩ := hL
  subst hw
  have own0 := own_empty W W.heap.size (Nat.le_refl _)
  have bel0 : Below W.heap.size W (W.alloc (.cells #[] 5)) := (Below.refl _ _).alloc (Nat.le_refl _) _
  cases ad with
  | none =>
    obtain ⟨rfl, rfl⟩ := h3 rfl
    simp only [List.length_nil] at h1
    subst h1
    refine wpList_append_own_none hgd s x 25 ho W.heap.size 5 i0 1 Try.underlying25 hi (.slice (some ⟨W.heap.size, 0, none⟩) 0 0) 0 [] hs own0 hx ?_
    exact h _ _ _ own0 bel0
  | some y =>
    subst h1
    refine wpList_append_own _ hgd s x 25 ho W.heap.size 5 i0 (.int .u8 0) 1 1 Try.underlying25 hi hz0 hz1 hz2 rfl (by decide) (.slice (some ⟨W.heap.size, 0, none⟩) 0 0) 0 [] hs own0 y L.length cap (bc L) hx (by rw [bc_length]; omega) (fun j u hu => (h4 y rfl j u hu).2) (bc_one L) (by unfold maxLen; omega) (by omega) (by simp) ?_
    intro v' w' hown' hgrow _
    have hown : w'.ownsRow W.heap.size 5 1 v' L.length (bc L) := by simpa using hown'
    obtain ⟨a', c', rfl⟩ := own_form hown
    exact h a' c' w' hown (bel0.grown hgrow (by simp) (fun k hk => by simp [Value.ownBlock] at hk; omega))
set_option maxHeartbeats 16000000 in
set_option maxRecDepth 100000 in
theorem flips_walk (w : World) (S R : Sup) (sv rv : Value) (wa : Option Addr) (wn wc : Nat) (O0 : List UInt8) (at_ : Int) (hs : Sna w sv S.l) (hnil : ∀ n c, sv = .slice none n c → c = 0) (hs' : Sna w rv R.l) (hnil' : ∀ n c, rv = .slice none n c → c = 0) (hO : ArgB w wa wn wc O0) :
    Calls Try.prog 3 #[uv S sv, uv R rv, .slice wa wn wc, .int .i64 at_] w fun e w' => e = .returned (.bool true) ∧ Below w.heap.size w w' := by
  have HO : Hid (ArgB w wa wn wc O0) := hO
  clear hO
  have hone := hs.one
  have hone' := hs'.one
  have HU0 : Hid (HasU ((w.alloc (.cells (uc S sv) 24)).alloc (.cells (uc R rv) 24)) w.heap.size S sv) := (HasU.new w S sv _ rfl hone).alloc _
  have HV0 : Hid (HasU ((w.alloc (.cells (uc S sv) 24)).alloc (.cells (uc R rv) 24)) (w.heap.size + 1) R rv) := HasU.new _ R rv _ (by simp) hone'
  have B0 : Below w.heap.size w ((w.alloc (.cells (uc S sv) 24)).alloc (.cells (uc R rv) 24)) := ((Below.refl _ w).alloc (Nat.le_refl _) _).alloc (by simp) _
  have HS : Hid (Sna w sv S.l ∧ Sna w rv R.l) := ⟨hs, hs'⟩
  clear hs hone hs' hone'
  go_enter Try.func3, Try.ntmps3
  go_upto_region 2 with (go_at_call 5; refine (shown_calls _).mono ?_; rintro e w1 ⟨rfl, b1⟩)
  have U1 := HU0.out.below b1 (by simp; omega)
  have V1 := HV0.out.below b1 (by simp)
  have B1 : Below w.heap.size w w1 := B0.trans (b1.mono (by simp; omega))
  have s1 := b1.size
  simp at s1
  have S1 : Sna w1 sv S.l := HS.out.1.below B1
  have HU1 : Hid (HasU w1 w.heap.size S sv) := U1
  clear b1 U1 HU0 HV0 B0
  go_upto_region 3 with (first
    | (refine load_sup _ rfl w.heap.size rfl rfl _ _ HU1.out ?_)
    | (go_at_call 6; refine (cut_calls _ S sv S1 hnil).mono ?_; rintro e w2 ⟨tv, rfl, sn2, b2⟩)
    | (refine store_sup rfl _ _ rfl w.heap.size rfl (cutS S) tv rfl sn2.sna.one S sv (HU1.out.below b2 HU1.out.lt) ?_; intro x2 hu2 tx2 sx2))
  have B2 : Below w.heap.size w x2 := below_rowed (B1.trans (b2.mono B1.size)) tx2 (Nat.le_refl _) (Nat.le_refl _)
  have T2 : SnaN x2 tv (cutS S).l w1.heap.size := sn2.touchN tx2 (by omega)
  have V2 : Hid (HasU x2 (w.heap.size + 1) R rv) := (V1.below b2 V1.lt).touch tx2 (by omega)
  have R2 : Sna x2 rv R.l := HS.out.2.below B2
  have sx := b2.size
  clear S1 HU1 B1 b2 sn2 tx2 hnil HS V1
  generalize cutS S = T at *
  go_upto_region 4 with (first
    | (refine load_sup _ rfl (w.heap.size + 1) rfl rfl _ _ V2.out ?_)
    | (go_at_call 6; refine (cut_calls _ R rv R2 hnil').mono ?_; rintro e w3 ⟨uv', rfl, sn3, b3⟩)
    | (refine store_sup rfl _ _ rfl (w.heap.size + 1) rfl (cutS R) uv' rfl sn3.sna.one R rv (V2.out.below b3 V2.out.lt) ?_; intro x3 hu3 tx3 sx3))
  have B3 : Below w.heap.size w x3 := below_rowed (B2.trans (b3.mono B2.size)) tx3 (by omega) (Nat.le_refl _)
  have hT3 : HasU x3 w.heap.size T tv := (hu2.below b3 hu2.lt).touch tx3 (by omega)
  obtain ⟨G, hG⟩ : ∃ G, wrap64 (T.g + 1) = G := ⟨_, rfl⟩
  have HG : Hid (wrap64 (T.g + 1) = G) := hG
  have B4 : Below w.heap.size w (x3.setCell ⟨w.heap.size + 1, 0, none⟩ (.int .i64 G)) := B3.setCell (by simp) _
  have tS := touch_set0 x3 (w.heap.size + 1) (.int .i64 G)
  have H4 : Held w (x3.setCell ⟨w.heap.size + 1, 0, none⟩ (.int .i64 G)) [(w.heap.size + 1, setG (cutS R) G, uv'), (w.heap.size, T, tv)] [] [(uv', (cutS R).l), (tv, T.l)] := by
    refine ⟨B4, fun e he => ?_, (fun e he => by cases he), fun e he => ?_⟩
    · simp only [List.mem_cons, List.not_mem_nil, or_false] at he
      rcases he with rfl | rfl
      · exact hu3.setG G
      · exact hT3.touch tS (by omega)
    · simp only [List.mem_cons, List.not_mem_nil, or_false] at he
      rcases he with rfl | rfl
      · exact ((sn3.touchN tx3 (by omega)).touchN tS (by omega)).sna
      · exact (((T2.belowN b3).touchN tx3 (by omega)).touchN tS (by omega)).sna
  have g1 := hT3.cells.1
  have g2 := hu3.cells.1
  have g3 := hu3.free 0
  clear T2 V2 R2 sx s1 b3 sn3 tx3 hu3 hu2 B3 B2 hnil' sx2 sx3 hT3 B4 tS
  have HZl : Hid ((setG (cutS R) G).l = (cutS R).l ∧ (setG (cutS R) G).g = G) := ⟨rfl, rfl⟩
  go_upto_region 5 with fail
  generalize cutS R = Z0 at *
  generalize x3.setCell ⟨w.heap.size + 1, 0, none⟩ (.int .i64 G) = x4 at *
  rw [← HZl.out.1] at H4
  have HZg : Hid ((setG Z0 G).g = G) := HZl.out.2
  generalize setG Z0 G = Z at *
  clear g1 g2 g3 HZl
  have u1 := H4.u (w.heap.size, T, tv) (by simp)
  have v1 := H4.u (w.heap.size + 1, Z, uv') (by simp)
  have cr := right_sna (S := T) (H4.s (tv, T.l) (by simp))
  have cz : ∀ y, Below x4.heap.size x4 y → Calls Try.prog 7 #[uv Z uv'] y fun e w' => e = .returned (.bool (right Z)) ∧ Below y.heap.size y w' := fun y hy => right_sna (S := Z) ((H4.s (uv', Z.l) (by simp)).below hy)
  have GB : Hid (∀ y, Below x4.heap.size x4 y → HasU y w.heap.size T tv ∧ HasU y (w.heap.size + 1) Z uv') := fun y hy => ⟨u1.below hy u1.lt, v1.below hy v1.lt⟩
  cases hr : right T with
  | false =>
    rw [hr] at cr
    go_wp2_with (first
      | (refine load_sup _ rfl w.heap.size rfl rfl _ _ u1 ?_)
      | (go_at_call 7; refine cr.mono ?_; rintro e w4 ⟨rfl, b4⟩))
    go_ret
    exact ⟨rfl, (H4.called b4).bel⟩
  | true =>
  rw [hr] at cr
  cases hz : right Z with
  | false =>
    go_wp2_with (first
      | (have _q := b4; first
        | (refine load_sup _ rfl (w.heap.size + 1) rfl rfl _ _ (GB.out _ b4).2 ?_)
        | (go_at_call 7; refine (cz _ b4).mono ?_; rintro e w5 ⟨rfl, b5⟩; rw [hz]))
      | (refine load_sup _ rfl w.heap.size rfl rfl _ _ u1 ?_)
      | (go_at_call 7; refine cr.mono ?_; rintro e w4 ⟨rfl, b4⟩))
    go_ret
    exact ⟨rfl, ((H4.called b4).called b5).bel⟩
  | true =>
  go_upto_region 7 with (first
    | (have _q := b4; first
      | (refine load_sup _ rfl (w.heap.size + 1) rfl rfl _ _ (GB.out _ b4).2 ?_)
      | (go_at_call 7; refine (cz _ b4).mono ?_; rintro e w5 ⟨rfl, b5⟩; rw [hz]))
    | (refine load_sup _ rfl w.heap.size rfl rfl _ _ u1 ?_)
    | (go_at_call 7; refine cr.mono ?_; rintro e w4 ⟨rfl, b4⟩))
  have H5 : Hid (Held w w5 [(w.heap.size + 1, Z, uv'), (w.heap.size, T, tv)] [] [(uv', Z.l), (tv, T.l)]) := (H4.called b4).called b5
  have HR : Hid (right T = true ∧ right Z = true ∧ Z.g = T.g + 1) := ⟨hr, hz, by
    have e1 := HZg.out
    have e2 := HG.out
    have e3 := (fits hr).g0
    have e4 := (fits hr).g1
    rw [e1, ← e2]
    unfold wrap64
    omega⟩
  clear H4 u1 v1 cr cz GB b4 b5 hr hz HZg HG
  obtain ⟨i0, hi, hz0, hz1, hzb⟩ := info_parts Try.info_u8
  go_cut [10] (fun v w7 => ∃ (a7 : Option Addr) (c7 : Nat) (O : List UInt8), v = .slice a7 512 c7 ∧ O.length = 512 ∧ w7.ownsRow w5.heap.size 5 1 (.slice a7 512 c7) 512 (bc O) ∧ Below w5.heap.size w5 w7)
  case first =>
    have hcap := HO.out.2.1
    have hlen := HO.out.1
    cases wa with
    | none =>
      obtain ⟨e1, e2⟩ := HO.out.2.2.1 rfl
      have e3 : wn = 0 := by rw [hlen, e1]; rfl
      subst e3
      subst e2
      subst e1
      have HA5 : Hid (ArgB (w5.alloc (.cells #[] 5)) none 0 0 []) := (HO.out.below H5.out.bel).below ((Below.refl _ _).alloc (Nat.le_refl _) _)
      clear hlen hcap
      go_wp2_with (first
        | (at_builtin; refine append_argO rfl (.tmp 39) (.tmp 44) rfl w5 rfl rfl none 0 0 [] rfl HA5.out (by omega) ?_; intro a6 c6 w6 ho6 hb6; obtain ⟨a7, c7, w7, hr7, ho7, hg7, _⟩ := run_append_zeros (P := Try.prog) w6 w5.heap.size 25 3 25 5 i0 .i64 Try.underlying25 Try.underlying3 hi hz0 hz1 hzb (.slice a6 0 c6) 0 (bc []) ho6 512 (by omega) hb6.size)
        | (at_builtin; refine Lib.wpList_append_run _ rfl _ _ _ _ rfl _ _ rfl rfl _ _ hr7 ?_))
      go_meet
      case rel =>
        refine ⟨_, _, [] ++ List.replicate 512 0, by first | rfl | (congr 1; omega), ?_, ?_, hb6.grown hg7 hb6.size (fun k hk => (ho6.lt k hk).1)⟩
        · simp
        · have e9 : bc ([] ++ List.replicate 512 0) = bc [] ++ List.replicate 512 (.int .u8 0) := by rw [bc_append]; simp [bc]
          rw [e9]
          have e8 : 0 + 512 = 512 := by omega
          rw [← e8]
          exact ho7
    | some y =>
    by_cases hw : wn ≤ 512
    · have hwI : (wn : Int) ≤ 512 := by omega
      have hcI : (wn : Int) ≤ (wc : Int) := by omega
      obtain ⟨zn, hzn, hz2⟩ : ∃ zn : Nat, 512 - (wn : Int) = (zn : Int) ∧ wn + zn = 512 := ⟨512 - wn, by omega, by omega⟩
      have HA5 : Hid (ArgB (w5.alloc (.cells #[] 5)) (some y) wn wc O0) := (HO.out.below H5.out.bel).below ((Below.refl _ _).alloc (Nat.le_refl _) _)
      have HLN : Hid (O0.length = wn) := hlen.symm
      clear hlen
      go_wp2_with (first
        | (at_builtin; refine append_argO rfl (.tmp 39) (.tmp 44) rfl w5 rfl rfl (some y) wn wc O0 rfl HA5.out (by omega) ?_; intro a6 c6 w6 ho6 hb6; obtain ⟨a7, c7, w7, hr7, ho7, hg7, _⟩ := run_append_zeros (P := Try.prog) w6 w5.heap.size 25 3 25 5 i0 .i64 Try.underlying25 Try.underlying3 hi hz0 hz1 hzb (.slice a6 wn c6) wn (bc O0) ho6 zn (by omega) hb6.size)
        | (at_builtin; refine Lib.wpList_append_run _ rfl _ _ _ _ rfl _ _ rfl rfl _ _ hr7 ?_))
      go_meet
      case rel =>
        refine ⟨_, _, O0 ++ List.replicate zn 0, by first | rfl | (congr 1; omega), ?_, ?_, hb6.grown hg7 hb6.size (fun k hk => (ho6.lt k hk).1)⟩
        · rw [List.length_append, HLN.out]; simp; omega
        · have e9 : bc (O0 ++ List.replicate zn 0) = bc O0 ++ List.replicate zn (.int .u8 0) := by rw [bc_append]; simp [bc]
          rw [e9]
          have e8 : wn + zn = 512 := by omega
          rw [← e8]
          exact ho7
    · have hwI : (512 : Int) < (wn : Int) := by omega
      have hcI : (512 : Int) ≤ (wc : Int) := by omega
      have HA5 : Hid (ArgB (w5.alloc (.cells #[] 5)) (some y) 512 wc (O0.take 512)) := ((HO.out.cut 512 (by omega)).below H5.out.bel).below ((Below.refl _ _).alloc (Nat.le_refl _) _)
      have HLN : Hid ((O0.take 512).length = 512) := by show _ = _; simp; omega
      clear hlen
      go_wp2_with (first
        | (at_builtin; refine append_argO rfl (.tmp 39) (.tmp 44) rfl w5 rfl rfl (some y) 512 wc (O0.take 512) rfl HA5.out (by omega) ?_; intro a6 c6 w6 ho6 hb6; obtain ⟨a7, c7, w7, hr7, ho7, hg7, _⟩ := run_append_zeros (P := Try.prog) w6 w5.heap.size 25 3 25 5 i0 .i64 Try.underlying25 Try.underlying3 hi hz0 hz1 hzb (.slice a6 512 c6) 512 (bc (O0.take 512)) ho6 0 (by omega) hb6.size)
        | (at_builtin; refine Lib.wpList_append_run _ rfl _ _ _ _ rfl _ _ rfl rfl _ _ hr7 ?_))
      go_meet
      case rel =>
        refine ⟨_, _, (O0.take 512) ++ List.replicate 0 0, by first | rfl | (congr 1; omega), ?_, ?_, hb6.grown hg7 hb6.size (fun k hk => (ho6.lt k hk).1)⟩
        · rw [List.length_append, HLN.out]; simp
        · have e9 : bc ((O0.take 512) ++ List.replicate 0 0) = bc (O0.take 512) ++ List.replicate 0 (.int .u8 0) := by rw [bc_append]; simp [bc]
          rw [e9]
          have e8 : 512 + 0 = 512 := by omega
          rw [← e8]
          exact ho7
  case rest =>
    obtain ⟨a7, c7, O, rfl, hOl, ho7, hb7⟩ := hcut
    have hb7s := hb7.size
    obtain ⟨g7, rfl, hg7, hc7⟩ : ∃ g7, a7 = some ⟨g7, 0, none⟩ ∧ g7 < wc.heap.size ∧ 512 ≤ c7 := by
      rcases ho7.2 with ⟨e1, e2⟩ | ⟨g, cap, cur, e1, h3, h4, h5, _⟩
      · cases e1
      · cases e1; exact ⟨g, rfl, lt_of_block h4, h5⟩
    have H7 : Hid (Held w wc [(w.heap.size + 1, Z, uv'), (w.heap.size, T, tv)] [(.slice (some ⟨g7, 0, none⟩) 512 c7, O)] [(uv', Z.l), (tv, T.l)]) := (H5.out.called hb7).addB (own_byt ho7)
    have HOl : Hid (O.length = 512) := hOl
    clear ho7 hb7 hb7s H5 hOl
    have HCV : Hid (∀ y, Below wc.heap.size wc y → (convert 25 9 (.slice (some ⟨g7, 504, none⟩) 8 (c7 - 504))).run Try.prog y = .ok (.string (str (O.drop 504))) y ∧ y.cell? ⟨w.heap.size, 0, none⟩ = some (.int .i64 T.g)) := fun y hy => by
      have hB := (H7.out.b (.slice (some ⟨g7, 0, none⟩) 512 c7, O) (by simp)).below hy
      have hU := (H7.out.u (w.heap.size, T, tv) (by simp)).below hy (H7.out.u (w.heap.size, T, tv) (by simp)).lt
      refine ⟨?_, hU.cells.1⟩
      have hc := byt_cells hB
      have hl : (O.drop 504).length = 8 := by rw [List.length_drop, HOl.out]
      refine conv_bytes (r := some g7) ⟨some ⟨g7, 504, none⟩, c7 - 504, by rw [hl], by rw [hl]; omega, .inr ⟨g7, 504, rfl, rfl, hc.2.1, fun j u hu => ?_⟩⟩
      have := cells_drop (a := 504) hB j u hu
      rw [add_lit, Nat.zero_add] at this
      exact this
    obtain ⟨N0, hN0⟩ := Int.eq_ofNat_of_zero_le (show 0 ≤ T.g by have := (fits HR.out.1).g0; omega)
    have HN0 : Hid (T.g = (N0 : Int)) := hN0
    have HNB : Hid (N0 < 9223372036854775808) := (show _ < _ by have := (fits HR.out.1).g1; omega)
    have hcap7 : ¬ (c7 = 504) := by omega
    have hcI7 : (504 : Int) ≤ (c7 : Int) := by omega
    rw [hN0] at HCV
    clear hN0
    have hnum := number_calls4 wc.drew N0 8 (by omega) HNB
    have d0 := HCV.out wc.drew ((Below.refl _ wc).drew)
    go_upto_region 8 with fail
    go_region_held3 (fun y => (convert 25 9 (.slice (some ⟨g7, 504, none⟩) 8 (c7 - 504))).run Try.prog y = .ok (.string (str (O.drop 504))) y ∧ y.cell? ⟨w.heap.size, 0, none⟩ = some (.int .i64 (N0 : Int))) (first | exact d0 | exact d8)
      (first | (go_at_call 8; refine hnum.mono ?_; rintro e w8 ⟨rfl, b8⟩; have b8' : Below wc.heap.size wc w8 := ⟨b8.os, b8.tape, b8.output, b8.size, b8.block⟩; have d8 := HCV.out w8 b8'))
    obtain ⟨gt, hgt⟩ : ∃ gt, (!Op.bytesLess (str (O.drop 504)).toList (str (be N0 8)).toList && !(str (O.drop 504)).toList == (str (be N0 8)).toList) = gt := ⟨_, rfl⟩
    simp only [hgt]
    have H8 : Hid (Held w w8 [(w.heap.size + 1, Z, uv'), (w.heap.size, T, tv)] [(.slice (some ⟨g7, 0, none⟩) 512 c7, O)] [(uv', Z.l), (tv, T.l)]) := H7.out.called b8'
    cases gt with
    | true =>
      clear hgt
      go_wp2
      go_ret
      exact ⟨rfl, H8.out.bel⟩
    | false =>
    have HLE : Hid (Op.bytesLess (be T.g.toNat 8) (O.drop 504) = false) := by show _ = _; rw [HN0.out, Int.toNat_natCast]; exact gt_false hgt
    clear hgt b8 b8' H7 HCV d0 d8 hnum HNB HN0
    have u1 := H8.out.u (w.heap.size, T, tv) (by simp)
    have cb := bytes_sna (S := T) (H8.out.s (tv, T.l) (by simp))
    go_upto_region 11 with (first
      | (refine load_sup _ rfl w.heap.size rfl rfl _ _ u1 ?_)
      | (go_at_call 9; refine cb.mono ?_; rintro e w9 ⟨b9, ⟨hf, _⟩ | ⟨_, pa, pc, rfl, by9⟩⟩; · rw [HR.out.1] at hf; cases hf))
    have H9 := (H8.out.called b9).addB by9
    clear H8 u1 cb b9
    have v1 := H9.u (w.heap.size + 1, Z, uv') (by simp)
    have cb := bytes_sna (S := Z) (H9.s (uv', Z.l) (by simp))
    go_upto_region 12 with (first
      | (refine load_sup _ rfl (w.heap.size + 1) rfl rfl _ _ v1 ?_)
      | (go_at_call 9; refine cb.mono ?_; rintro e w10 ⟨b10, ⟨hf, _⟩ | ⟨_, qa, qc, rfl, by10⟩⟩; · rw [HR.out.2.1] at hf; cases hf))
    have H10 := (H9.called b10).addB by10
    clear H9 v1 cb b10
    obtain ⟨hq1, hpc, hform1⟩ := byt_form by9
    obtain ⟨ga, oa, rfl, _⟩ := hform1 (by omega)
    obtain ⟨hq2, hqc, hform2⟩ := byt_form by10
    obtain ⟨gb, ob, rfl, _⟩ := hform2 (by omega)
    clear hq1 hq2 hform1 hform2 by9 by10
    go_upto_region 14 with fail
    obtain ⟨a, ha⟩ : ∃ a : Nat, (at_ % 65536) % 513 = (a : Int) := ⟨((at_ % 65536) % 513).toNat, by omega⟩
    have ha5 : a ≤ 512 := by omega
    have m1 := and65535 at_
    have m2 : Int.tmod (at_ % 65536) 513 = (a : Int) := by rw [Int.tmod_eq_emod_of_nonneg (by omega)]; exact ha
    go_upto_region 15 with fail
    clear ha m1 m2
    have H10' : Hid (Held w w10 [(w.heap.size + 1, Z, uv'), (w.heap.size, T, tv)] [(.slice (some ⟨gb, ob, none⟩) 512 qc, enc Z), (.slice (some ⟨ga, oa, none⟩) 512 pc, enc T), (.slice (some ⟨g7, 0, none⟩) 512 c7, O)] [(uv', Z.l), (tv, T.l)]) := H10
    clear H10
    have lZ := (fits HR.out.2.1).enc
    have HLZ : Hid ((enc Z).length = 512) := lZ
    clear lZ
    go_cut [15] (fun v y => ∃ (ta : Option Addr) (tc : Nat), v = .slice ta 512 tc ∧ Hid (Byt y (.slice ta 512 tc) (tear (enc Z) O a) ∧ Below w10.heap.size w10 y))
    case first =>
      have hB0 : Below w10.heap.size w10 (w10.alloc (.cells #[] 5)).drew := ((Below.refl _ w10).alloc (Nat.le_refl _) _).drew
      have e9 : (w10.alloc (.cells #[] 5)).heap.size = w10.heap.size + 1 := by simp
      have HOW : Hid ((w10.alloc (.cells #[] 5)).drew.ownsRow w10.heap.size 5 1 (.slice (some ⟨w10.heap.size, 0, none⟩) 0 0) 0 []) := own_empty w10 w10.heap.size (Nat.le_refl _)
      have HN1 : Hid (∀ i u, (bc ((enc Z).take a))[i]? = some u → (w10.alloc (.cells #[] 5)).drew.cell? ((⟨gb, ob, none⟩ : Addr).add i) = some u) := cells_take ((H10'.out.b (.slice (some ⟨gb, ob, none⟩) 512 qc, enc Z) (by simp)).below hB0)
      have HL1 : Hid ((bc ((enc Z).take a)).length = a * 1) := by show _ = _; rw [bc_length, List.length_take, HLZ.out]; omega
      have HL2 : Hid ((bc (O.drop a)).length = (512 - a) * 1) := by show _ = _; rw [bc_length, List.length_drop, HOl.out]; omega
      have hk1 : (a : Int) ≤ (qc : Int) := by omega
      have hk2 : (a : Int) ≤ 512 := by omega
      have hk3 : (a : Int) ≤ (c7 : Int) := by omega
      obtain ⟨ad, had, HN2⟩ : ∃ ad : Addr, (if c7 = a then some (⟨g7, 0, none⟩ : Addr) else some ⟨g7, a, none⟩) = some ad ∧ Hid (∀ y, Below w10.heap.size w10 y → ∀ i u, (bc (O.drop a))[i]? = some u → y.cell? (ad.add i) = some u) := by
        by_cases hcap : c7 = a
        · refine ⟨⟨g7, 0, none⟩, by rw [if_pos hcap], fun y hb i u hu => ?_⟩
          have h1 := (List.getElem?_eq_some_iff.1 hu).1
          rw [HL2.out] at h1
          omega
        · refine ⟨⟨g7, a, none⟩, by rw [if_neg hcap], fun y hb i u hu => ?_⟩
          have := cells_drop (a := a) ((H10'.out.b (.slice (some ⟨g7, 0, none⟩) 512 c7, O) (by simp)).below hb) i u hu
          rw [Nat.zero_add] at this
          exact this
      go_wp2_with fail
      go_region_law ((first
        | (refine step_append_own _ (by rfl) (.tmp 88) (.tmp 91) 25 (by rfl) w10.heap.size 5 i0 (.int .u8 0) 1 1 Try.underlying25 hi hz0 hz1 hzb rfl (by omega) (.slice (some ⟨w10.heap.size, 0, none⟩) 0 0) 0 [] (by rfl) (by exact HOW.out) ⟨gb, ob, none⟩ a qc (bc ((enc Z).take a)) (by rfl) (by exact HL1.out) (by exact HN1.out) (by exact bc_one _) (by unfold maxLen; omega) (by omega) (by rw [show (w10.alloc (.cells #[] 5)).drew.heap.size = w10.heap.size + 1 from e9]; omega) ?_; intro v11 w11 hown11 hgrow11; have hb11 : Below w10.heap.size w10 w11 := hB0.grown hgrow11 (by rw [show (w10.alloc (.cells #[] 5)).drew.heap.size = w10.heap.size + 1 from e9]; omega) (fun z hz => by have e2 : some w10.heap.size = some z := hz; cases e2; omega))
        | (refine step_append_own _ (by rfl) (.tmp 92) (.tmp 95) 25 (by rfl) w10.heap.size 5 i0 (.int .u8 0) 1 1 Try.underlying25 hi hz0 hz1 hzb rfl (by omega) v11 (0 + a) ([] ++ bc ((enc Z).take a)) (by rfl) (by exact hown11) ad (512 - a) (c7 - a) (bc (O.drop a)) (by rfl) (by exact HL2.out) (by exact HN2.out _ hb11) (by exact bc_one _) (by unfold maxLen; omega) (by omega) (by exact hb11.size) ?_; intro v12 w12 hown12 hgrow12)))
      all_goals
        have hb12 : Below w10.heap.size w10 w12 := hb11.grown hgrow12 hb11.size (fun z hz => (hown11.lt z hz).1)
        have hT : w12.ownsRow w10.heap.size 5 1 v12 512 (bc (tear (enc Z) O a)) := by
          have e2 : 0 + a + (512 - a) = 512 := by omega
          rw [e2, List.nil_append, ← bc_append] at hown12
          exact hown12
        obtain ⟨ta, tc, e3⟩ := own_form hT
        subst e3
        go_wp2_with fail
        go_meet
        case rel => exact ⟨ta, tc, rfl, own_byt hT, hb12⟩
    case rest =>
      obtain ⟨ta, tc, rfl, HTB⟩ := hcut
      have H11 : Hid (Held w wc [(w.heap.size + 1, Z, uv'), (w.heap.size, T, tv)] [(.slice ta 512 tc, tear (enc Z) O a), (.slice (some ⟨ga, oa, none⟩) 512 pc, enc T)] [(uv', Z.l), (tv, T.l)]) := by
        have h := H10'.out.called HTB.out.2
        refine ⟨h.bel, h.u, fun e he => ?_, h.s⟩
        simp only [List.mem_cons, List.not_mem_nil, or_false] at he
        rcases he with rfl | rfl
        · exact HTB.out.1
        · exact h.b _ (by simp)
      have HFL : Hid (∃ R, (if T.g % 2 = 0 then chooseP (enc T) (tear (enc Z) O a) else chooseP (tear (enc Z) O a) (enc T)) = some R ∧ (R = T ∨ R = Z) ∧ (a = 512 → R = Z)) := flips HR.out.1 HR.out.2.1 HR.out.2.2 HOl.out HLE.out ha5
      clear H10' HTB HLE HOl HLZ
      obtain ⟨RR, hRR, hRR2, hRR3⟩ := HFL.out
      have HFE : Hid ((if T.g % 2 = 0 then chooseP (enc T) (tear (enc Z) O a) else chooseP (tear (enc Z) O a) (enc T)) = some RR) := hRR
      have HR2 : Hid ((RR = T ∨ RR = Z) ∧ (a = 512 → RR = Z)) := ⟨hRR2, hRR3⟩
      clear HFL hRR hRR2 hRR3
      by_cases hpar : T.g % 2 = 0
      · have hp1 : bits .and .i64 T.g 1 = 0 := by rw [and1]; omega
        have HCE : Hid (chooseP (enc T) (tear (enc Z) O a) = some RR) := by
          have := HFE.out
          rw [if_pos (by omega)] at this
          exact this
        have hT0 := (H11.out.u (w.heap.size, T, tv) (by simp)).cells.1
        have hTl := (H11.out.u (w.heap.size, T, tv) (by simp)).lt
        simp only at hTl
        have hn1 : w.heap.size ≠ wc.heap.size := by omega
        have hn2 : wc.heap.size ≠ w.heap.size := by omega
        go_upto_region 18 with fail
        have HW : Hid (Below wc.heap.size wc (wc.alloc (.cells #[.slice (some ⟨ga, oa, none⟩) 512 pc, .slice ta 512 tc] 25))) := (Below.refl _ _).alloc (Nat.le_refl _) _
        obtain ⟨p0, p1⟩ := cells2 (heap_alloc_new wc (.cells #[.slice (some ⟨ga, oa, none⟩) 512 pc, .slice ta 512 tc] 25))
        have HZ : Hid (wc.heap.size < (wc.alloc (.cells #[.slice (some ⟨ga, oa, none⟩) 512 pc, .slice ta 512 tc] 25)).heap.size) := (show _ < _ by simp)
        have H12 : Hid (Held w (wc.alloc (.cells #[.slice (some ⟨ga, oa, none⟩) 512 pc, .slice ta 512 tc] 25)) [(w.heap.size + 1, Z, uv'), (w.heap.size, T, tv)] [(.slice ta 512 tc, tear (enc Z) O a), (.slice (some ⟨ga, oa, none⟩) 512 pc, enc T)] [(uv', Z.l), (tv, T.l)]) := H11.out.called HW.out
        clear H11 HW hT0 hp1 hTl hn1 hn2
        generalize wc.alloc (.cells #[.slice (some ⟨ga, oa, none⟩) 512 pc, .slice ta 512 tc] 25) = wz at *
        generalize wc.heap.size = pl at *
        have cG : Hid (∀ y, Below wz.heap.size wz y → Calls Try.prog 10 #[(.slice (some ⟨ga, oa, none⟩) 512 pc), (.slice ta 512 tc)] y fun e y' => ∃ zv, e = .returned (.tuple #[uv RR zv, .int .i64 0]) ∧ SnaN y' zv RR.l y.heap.size ∧ Below y.heap.size y y') := fun y hy => by
          have byU := (H12.out.b (.slice ta 512 tc, tear (enc Z) O a) (by simp)).below hy
          have byT := (H12.out.b (.slice (some ⟨ga, oa, none⟩) 512 pc, enc T) (by simp)).below hy
          exact choose_to byT byU HCE.out
        have PL : Hid (∀ y, Below wz.heap.size wz y → y.cell? ⟨pl, 0, none⟩ = some (.slice (some ⟨ga, oa, none⟩) 512 pc) ∧ y.cell? ⟨pl, 1, none⟩ = some (.slice ta 512 tc)) := fun y hy => ⟨(World.cell?_of_block (hy.block pl HZ.out)).trans p0, (World.cell?_of_block (hy.block pl HZ.out)).trans p1⟩
        clear p0 p1 HCE HFE
        refine wp_region_noPanic ?_
        refine wp_region_held_drew (S := (fun y => Below wz.heap.size wz y)) (by kernel_rfl) ((Below.refl _ wz).drew) (fun hHeld => ?_)
        refine wpAnyH_take (i := 0) (v := ?_) rfl (by kernel_rfl) (by kernel_rfl) (by kernel_rfl) (fun _ _ _ h => h) (Or.inl ⟨by rfl, ?_⟩) hHeld ?_
        case refine_2 => (intro w hSw; (try dsimp only at hSw); go_simp; try (with_reducible rfl))
        ((try simp only); (try simp only [List.getElem_toArray]); (try simp only [List.getElem_cons_succ]); (try simp only [List.getElem_cons_zero]); (try simp only [Act.put]); (try simp only [List.setIfInBounds_toArray]); (try simp only [List.set_cons_succ]); (try simp only [List.set_cons_zero]))
        refine wpAnyH_take (i := 1) (v := ?_) rfl (by kernel_rfl) (by kernel_rfl) (by kernel_rfl) (fun _ _ _ h => h) (Or.inl ⟨by rfl, ?_⟩) hHeld ?_
        case refine_2 => (intro w hSw; (try dsimp only at hSw); go_simp; try (with_reducible rfl))
        ((try simp only); (try simp only [List.getElem_toArray]); (try simp only [List.getElem_cons_succ]); (try simp only [List.getElem_cons_zero]); (try simp only [Act.put]); (try simp only [List.setIfInBounds_toArray]); (try simp only [List.set_cons_succ]); (try simp only [List.set_cons_zero]))
        refine wpAnyH_take (i := 2) (v := ?_) rfl (by kernel_rfl) (by kernel_rfl) (by kernel_rfl) (fun _ _ _ h => h) (Or.inl ⟨by rfl, ?_⟩) hHeld ?_
        case refine_2 => (intro w hSw; (try dsimp only at hSw); obtain ⟨l0, l1⟩ := PL.out _ hSw; go_simp; try (with_reducible rfl))
        ((try simp only); (try simp only [List.getElem_toArray]); (try simp only [List.getElem_cons_succ]); (try simp only [List.getElem_cons_zero]); (try simp only [Act.put]); (try simp only [List.setIfInBounds_toArray]); (try simp only [List.set_cons_succ]); (try simp only [List.set_cons_zero]))
        refine wpAnyH_take (i := 3) (v := ?_) rfl (by kernel_rfl) (by kernel_rfl) (by kernel_rfl) (fun _ _ _ h => h) (Or.inl ⟨by rfl, ?_⟩) hHeld ?_
        case refine_2 => (intro w hSw; (try dsimp only at hSw); go_simp; try (with_reducible rfl))
        ((try simp only); (try simp only [List.getElem_toArray]); (try simp only [List.getElem_cons_succ]); (try simp only [List.getElem_cons_zero]); (try simp only [Act.put]); (try simp only [List.setIfInBounds_toArray]); (try simp only [List.set_cons_succ]); (try simp only [List.set_cons_zero]))
        refine wpAnyH_take (i := 4) (v := ?_) rfl (by kernel_rfl) (by kernel_rfl) (by kernel_rfl) (fun _ _ _ h => h) (Or.inl ⟨by rfl, ?_⟩) hHeld ?_
        case refine_2 => (intro w hSw; (try dsimp only at hSw); go_simp; try (with_reducible rfl))
        ((try simp only); (try simp only [List.getElem_toArray]); (try simp only [List.getElem_cons_succ]); (try simp only [List.getElem_cons_zero]); (try simp only [Act.put]); (try simp only [List.setIfInBounds_toArray]); (try simp only [List.set_cons_succ]); (try simp only [List.set_cons_zero]))
        refine wpAnyH_take (i := 5) (v := ?_) rfl (by kernel_rfl) (by kernel_rfl) (by kernel_rfl) (fun _ _ _ h => h) (Or.inl ⟨by rfl, ?_⟩) hHeld ?_
        case refine_2 => (intro w hSw; (try dsimp only at hSw); obtain ⟨l0, l1⟩ := PL.out _ hSw; go_simp; try (with_reducible rfl))
        ((try simp only); (try simp only [List.getElem_toArray]); (try simp only [List.getElem_cons_succ]); (try simp only [List.getElem_cons_zero]); (try simp only [Act.put]); (try simp only [List.setIfInBounds_toArray]); (try simp only [List.set_cons_succ]); (try simp only [List.set_cons_zero]))
        generalize wz.drew = y0 at *
        refine wpAnyH_ready (rs := [6, 10]) (by kernel_rfl) (by simp) (AllReadyH.cons rfl (fun K hK => ?_) (AllReadyH.cons rfl (fun K hK => ?_) AllReadyH.nil))
        · have hc := cG.out _ hHeld
          rw [if_pos (by rfl)]
          ((try simp only); (try simp only [List.getElem_toArray]); (try simp only [List.getElem_cons_succ]); (try simp only [List.getElem_cons_zero]); (try simp only [Act.put]); (try simp only [List.setIfInBounds_toArray]); (try simp only [List.set_cons_succ]); (try simp only [List.set_cons_zero]))
          go_simp
          refine hc.mono ?_
          rintro e y2 ⟨zv, rfl, sn, b2⟩
          have bz : Below wz.heap.size wz y2 := hHeld.trans (b2.mono hHeld.size)
          refine hK.out _ _ bz (fun g2 => ?_)
          clear hK K hc
          ((try simp only); (try simp only [List.getElem_toArray]); (try simp only [List.getElem_cons_succ]); (try simp only [List.getElem_cons_zero]); (try simp only [Act.put]); (try simp only [List.setIfInBounds_toArray]); (try simp only [List.set_cons_succ]); (try simp only [List.set_cons_zero]))
          refine wpAnyH_take (i := 7) (v := ?_) rfl (by kernel_rfl) (by kernel_rfl) (by kernel_rfl) (fun _ _ _ h => h) (Or.inl ⟨by rfl, ?_⟩) g2 ?_
          case refine_2 => (intro w hSw; (try dsimp only at hSw); go_simp; try (with_reducible rfl))
          ((try simp only); (try simp only [List.getElem_toArray]); (try simp only [List.getElem_cons_succ]); (try simp only [List.getElem_cons_zero]); (try simp only [Act.put]); (try simp only [List.setIfInBounds_toArray]); (try simp only [List.set_cons_succ]); (try simp only [List.set_cons_zero]))
          refine wpAnyH_take (i := 8) (v := ?_) rfl (by kernel_rfl) (by kernel_rfl) (by kernel_rfl) (fun _ _ _ h => h) (Or.inl ⟨by rfl, ?_⟩) g2 ?_
          case refine_2 => (intro w hSw; (try dsimp only at hSw); go_simp; try (with_reducible rfl))
          ((try simp only); (try simp only [List.getElem_toArray]); (try simp only [List.getElem_cons_succ]); (try simp only [List.getElem_cons_zero]); (try simp only [Act.put]); (try simp only [List.setIfInBounds_toArray]); (try simp only [List.set_cons_succ]); (try simp only [List.set_cons_zero]))
          refine wpAnyH_take (i := 9) (v := ?_) rfl (by kernel_rfl) (by kernel_rfl) (by kernel_rfl) (fun _ _ _ h => h) (Or.inl ⟨by rfl, ?_⟩) g2 ?_
          case refine_2 => (intro w hSw; (try dsimp only at hSw); go_simp; try (with_reducible rfl))
          ((try simp only); (try simp only [List.getElem_toArray]); (try simp only [List.getElem_cons_succ]); (try simp only [List.getElem_cons_zero]); (try simp only [Act.put]); (try simp only [List.setIfInBounds_toArray]); (try simp only [List.set_cons_succ]); (try simp only [List.set_cons_zero]))
          refine wpAnyH_ready (rs := [10]) (by kernel_rfl) (by simp) (AllReadyH.cons rfl (fun K hK => ?_) AllReadyH.nil)
          rw [if_pos (by rfl)]
          ((try simp only); (try simp only [List.getElem_toArray]); (try simp only [List.getElem_cons_succ]); (try simp only [List.getElem_cons_zero]); (try simp only [Act.put]); (try simp only [List.setIfInBounds_toArray]); (try simp only [List.set_cons_succ]); (try simp only [List.set_cons_zero]))
          go_simp
          refine hK.out _ _ (bz.alloc bz.size (.cells #[.int .i64 0, .int .i64 0, .int .i64 0, .int .i64 0, .slice none 0 0] 24)) (fun g3 => ?_)
          clear hK K
          ((try simp only); (try simp only [List.getElem_toArray]); (try simp only [List.getElem_cons_succ]); (try simp only [List.getElem_cons_zero]); (try simp only [Act.put]); (try simp only [List.setIfInBounds_toArray]); (try simp only [List.set_cons_succ]); (try simp only [List.set_cons_zero]))
          have u3 : HasU (y2.alloc (.cells #[.int .i64 0, .int .i64 0, .int .i64 0, .int .i64 0, .slice none 0 0] 24)) y2.heap.size nilU (.slice none 0 0) := HasU.new y2 nilU _ _ rfl rfl
          have so : ∀ y, Touch y2.heap.size none (y2.alloc (.cells #[.int .i64 0, .int .i64 0, .int .i64 0, .int .i64 0, .slice none 0 0] 24)) y → Sna y zv RR.l := fun y t => sna_other sn t
          generalize y2.alloc (.cells #[.int .i64 0, .int .i64 0, .int .i64 0, .int .i64 0, .slice none 0 0] 24) = y3 at *
          refine wpAnyH_ready (rs := [11]) (by kernel_rfl) (by simp) (AllReadyH.cons rfl (fun K hK => ?_) AllReadyH.nil)
          rw [if_pos (by rfl)]
          ((try simp only); (try simp only [List.getElem_toArray]); (try simp only [List.getElem_cons_succ]); (try simp only [List.getElem_cons_zero]); (try simp only [Act.put]); (try simp only [List.setIfInBounds_toArray]); (try simp only [List.set_cons_succ]); (try simp only [List.set_cons_zero]))
          refine store_sup_op _ _ rfl (y2.heap.size) rfl RR zv rfl sn.sna.one nilU (.slice none 0 0) u3 ?_
          intro z HU0 t4 sx
          have bF : Below wz.heap.size wz z := below_rowed g3 t4 bz.size (Nat.le_refl _)
          have snF : Sna z zv RR.l := so z t4
          refine hK.out _ _ bF (fun g4 => ?_)
          clear hK K
          ((try simp only); (try simp only [List.getElem_toArray]); (try simp only [List.getElem_cons_succ]); (try simp only [List.getElem_cons_zero]); (try simp only [Act.put]); (try simp only [List.setIfInBounds_toArray]); (try simp only [List.set_cons_succ]); (try simp only [List.set_cons_zero]))
          refine wpAnyH_take (i := 12) (v := ?_) rfl (by kernel_rfl) (by kernel_rfl) (by kernel_rfl) (fun _ _ _ h => h) (Or.inl ⟨by rfl, ?_⟩) g4 ?_
          case refine_2 => (intro w hSw; (try dsimp only at hSw); go_simp; try (with_reducible rfl))
          ((try simp only); (try simp only [List.getElem_toArray]); (try simp only [List.getElem_cons_succ]); (try simp only [List.getElem_cons_zero]); (try simp only [Act.put]); (try simp only [List.setIfInBounds_toArray]); (try simp only [List.set_cons_succ]); (try simp only [List.set_cons_zero]))
          refine wpAnyH_done (by kernel_rfl) ?_ _
          refine NoPanic.normal ?_
          have HH : Hid (Held w z [(w.heap.size + 1, Z, uv'), (w.heap.size, T, tv)] [(.slice ta 512 tc, tear (enc Z) O a), (.slice (some ⟨ga, oa, none⟩) 512 pc, enc T)] [(uv', Z.l), (tv, T.l)]) := H12.out.called bF
          have SN : Hid (Sna z zv RR.l) := snF
          have HU : Hid (HasU z (y2.heap.size) RR zv) := HU0
          clear HU0 t4 sx bF snF g4 so u3 g3 g2 bz b2 sn hHeld cG PL H12 HZ
          generalize y2.heap.size = nb at *
          rcases HR2.out.1 with hE | hE
          · rw [hE] at SN HU
            have hn5 : ¬ (a = 512) := fun h5 => by
              have h6 := HR2.out.2 h5
              have h7 := HR.out.2.2
              rw [← h6, hE] at h7
              omega
            have sA := same_calls z T T zv tv SN.out (HH.out.s (tv, T.l) (by simp))
            have sB : ∀ y, Below z.heap.size z y → Calls Try.prog 11 #[uv T zv, uv Z uv'] y fun e w' => e = .returned (.bool (decide (T = Z))) ∧ Below y.heap.size y w' := fun y hy => same_calls y T Z zv uv' (SN.out.below hy) ((HH.out.s (uv', Z.l) (by simp)).below hy)
            rw [decide_eq_true (rfl : T = T)] at sA
            have hTZ : decide (T = Z) = false := decide_eq_false (fun e : T = Z => by have h7 := HR.out.2.2; rw [← e] at h7; omega)
            rw [hTZ] at sB
            have GU : Hid (∀ y, Below z.heap.size z y → HasU y nb T zv ∧ HasU y w.heap.size T tv ∧ HasU y (w.heap.size + 1) Z uv') := fun y hy => ⟨HU.out.below hy HU.out.lt, (HH.out.u (w.heap.size, T, tv) (by simp)).below hy (HH.out.u (w.heap.size, T, tv) (by simp)).lt, (HH.out.u (w.heap.size + 1, Z, uv') (by simp)).below hy (HH.out.u (w.heap.size + 1, Z, uv') (by simp)).lt⟩
            clear hE HR2 HR
            go_upto_region 20 with (first
              | (refine load_sup _ rfl nb rfl rfl T zv (GU.out _ (Below.refl _ _)).1 ?_)
              | (refine load_sup _ rfl w.heap.size rfl rfl T tv (GU.out _ (Below.refl _ _)).2.1 ?_)
              | (go_at_call 11; refine sA.mono ?_; rintro e z1 ⟨rfl, e1⟩))
            go_wp2_with (first
              | (refine load_sup _ rfl nb rfl rfl T zv (GU.out _ e1).1 ?_)
              | (refine load_sup _ rfl (w.heap.size + 1) rfl rfl Z uv' (GU.out _ e1).2.2 ?_)
              | (go_at_call 11; refine (sB _ e1).mono ?_; rintro e z2 ⟨rfl, e2⟩))
            all_goals first
              | (exfalso; omega)
              | (go_ret; exact ⟨rfl, ((HH.out.called e1).called e2).bel⟩)
          · rw [hE] at SN HU
            have sA := same_calls z Z T zv tv SN.out (HH.out.s (tv, T.l) (by simp))
            have sB : ∀ y, Below z.heap.size z y → Calls Try.prog 11 #[uv Z zv, uv Z uv'] y fun e w' => e = .returned (.bool (decide (Z = Z))) ∧ Below y.heap.size y w' := fun y hy => same_calls y Z Z zv uv' (SN.out.below hy) ((HH.out.s (uv', Z.l) (by simp)).below hy)
            rw [decide_eq_false (fun e : Z = T => by have h7 := HR.out.2.2; rw [e] at h7; omega)] at sA
            rw [decide_eq_true (rfl : Z = Z)] at sB
            have GU : Hid (∀ y, Below z.heap.size z y → HasU y nb Z zv ∧ HasU y w.heap.size T tv ∧ HasU y (w.heap.size + 1) Z uv') := fun y hy => ⟨HU.out.below hy HU.out.lt, (HH.out.u (w.heap.size, T, tv) (by simp)).below hy (HH.out.u (w.heap.size, T, tv) (by simp)).lt, (HH.out.u (w.heap.size + 1, Z, uv') (by simp)).below hy (HH.out.u (w.heap.size + 1, Z, uv') (by simp)).lt⟩
            clear hE HR2 HR
            go_upto_region 20 with (first
              | (refine load_sup _ rfl nb rfl rfl Z zv (GU.out _ (Below.refl _ _)).1 ?_)
              | (refine load_sup _ rfl w.heap.size rfl rfl T tv (GU.out _ (Below.refl _ _)).2.1 ?_)
              | (go_at_call 11; refine sA.mono ?_; rintro e z1 ⟨rfl, e1⟩))
            go_wp2_with (first
              | (refine load_sup _ rfl nb rfl rfl Z zv (GU.out _ e1).1 ?_)
              | (refine load_sup _ rfl (w.heap.size + 1) rfl rfl Z uv' (GU.out _ e1).2.2 ?_)
              | (go_at_call 11; refine (sB _ e1).mono ?_; rintro e z2 ⟨rfl, e2⟩))
            all_goals first
              | (exfalso; omega)
              | (go_ret; exact ⟨rfl, ((HH.out.called e1).called e2).bel⟩)
        · rw [if_pos (by rfl)]
          ((try simp only); (try simp only [List.getElem_toArray]); (try simp only [List.getElem_cons_succ]); (try simp only [List.getElem_cons_zero]); (try simp only [Act.put]); (try simp only [List.setIfInBounds_toArray]); (try simp only [List.set_cons_succ]); (try simp only [List.set_cons_zero]))
          go_simp
          refine hK.out _ _ (hHeld.alloc hHeld.size (.cells #[.int .i64 0, .int .i64 0, .int .i64 0, .int .i64 0, .slice none 0 0] 24)) (fun g1 => ?_)
          clear hK K
          ((try simp only); (try simp only [List.getElem_toArray]); (try simp only [List.getElem_cons_succ]); (try simp only [List.getElem_cons_zero]); (try simp only [Act.put]); (try simp only [List.setIfInBounds_toArray]); (try simp only [List.set_cons_succ]); (try simp only [List.set_cons_zero]))
          have u1 : HasU (y0.alloc (.cells #[.int .i64 0, .int .i64 0, .int .i64 0, .int .i64 0, .slice none 0 0] 24)) y0.heap.size nilU (.slice none 0 0) := HasU.new y0 nilU _ _ rfl rfl
          have lt1 : y0.heap.size < (y0.alloc (.cells #[.int .i64 0, .int .i64 0, .int .i64 0, .int .i64 0, .slice none 0 0] 24)).heap.size := by simp
          generalize y0.alloc (.cells #[.int .i64 0, .int .i64 0, .int .i64 0, .int .i64 0, .slice none 0 0] 24) = y1 at *
          refine wpAnyH_ready (rs := [6]) (by kernel_rfl) (by simp) (AllReadyH.cons rfl (fun K hK => ?_) AllReadyH.nil)
          have hc := cG.out _ g1
          rw [if_pos (by rfl)]
          ((try simp only); (try simp only [List.getElem_toArray]); (try simp only [List.getElem_cons_succ]); (try simp only [List.getElem_cons_zero]); (try simp only [Act.put]); (try simp only [List.setIfInBounds_toArray]); (try simp only [List.set_cons_succ]); (try simp only [List.set_cons_zero]))
          go_simp
          refine hc.mono ?_
          rintro e y2 ⟨zv, rfl, sn, b2⟩
          have bz : Below wz.heap.size wz y2 := g1.trans (b2.mono g1.size)
          have u2 := u1.below b2 u1.lt
          refine hK.out _ _ bz (fun g2 => ?_)
          clear hK K hc
          ((try simp only); (try simp only [List.getElem_toArray]); (try simp only [List.getElem_cons_succ]); (try simp only [List.getElem_cons_zero]); (try simp only [Act.put]); (try simp only [List.setIfInBounds_toArray]); (try simp only [List.set_cons_succ]); (try simp only [List.set_cons_zero]))
          refine wpAnyH_take (i := 7) (v := ?_) rfl (by kernel_rfl) (by kernel_rfl) (by kernel_rfl) (fun _ _ _ h => h) (Or.inl ⟨by rfl, ?_⟩) g2 ?_
          case refine_2 => (intro w hSw; (try dsimp only at hSw); go_simp; try (with_reducible rfl))
          ((try simp only); (try simp only [List.getElem_toArray]); (try simp only [List.getElem_cons_succ]); (try simp only [List.getElem_cons_zero]); (try simp only [Act.put]); (try simp only [List.setIfInBounds_toArray]); (try simp only [List.set_cons_succ]); (try simp only [List.set_cons_zero]))
          refine wpAnyH_take (i := 8) (v := ?_) rfl (by kernel_rfl) (by kernel_rfl) (by kernel_rfl) (fun _ _ _ h => h) (Or.inl ⟨by rfl, ?_⟩) g2 ?_
          case refine_2 => (intro w hSw; (try dsimp only at hSw); go_simp; try (with_reducible rfl))
          ((try simp only); (try simp only [List.getElem_toArray]); (try simp only [List.getElem_cons_succ]); (try simp only [List.getElem_cons_zero]); (try simp only [Act.put]); (try simp only [List.setIfInBounds_toArray]); (try simp only [List.set_cons_succ]); (try simp only [List.set_cons_zero]))
          refine wpAnyH_take (i := 9) (v := ?_) rfl (by kernel_rfl) (by kernel_rfl) (by kernel_rfl) (fun _ _ _ h => h) (Or.inl ⟨by rfl, ?_⟩) g2 ?_
          case refine_2 => (intro w hSw; (try dsimp only at hSw); go_simp; try (with_reducible rfl))
          ((try simp only); (try simp only [List.getElem_toArray]); (try simp only [List.getElem_cons_succ]); (try simp only [List.getElem_cons_zero]); (try simp only [Act.put]); (try simp only [List.setIfInBounds_toArray]); (try simp only [List.set_cons_succ]); (try simp only [List.set_cons_zero]))
          refine wpAnyH_ready (rs := [11]) (by kernel_rfl) (by simp) (AllReadyH.cons rfl (fun K hK => ?_) AllReadyH.nil)
          rw [if_pos (by rfl)]
          ((try simp only); (try simp only [List.getElem_toArray]); (try simp only [List.getElem_cons_succ]); (try simp only [List.getElem_cons_zero]); (try simp only [Act.put]); (try simp only [List.setIfInBounds_toArray]); (try simp only [List.set_cons_succ]); (try simp only [List.set_cons_zero]))
          refine store_sup_op _ _ rfl (y0.heap.size) rfl RR zv rfl sn.sna.one nilU (.slice none 0 0) u2 ?_
          intro z HU0 t4 sx
          have bF : Below wz.heap.size wz z := below_rowed g2 t4 hHeld.size (Nat.le_refl _)
          have snF : Sna z zv RR.l := sn.touch t4 lt1
          refine hK.out _ _ bF (fun g4 => ?_)
          clear hK K
          ((try simp only); (try simp only [List.getElem_toArray]); (try simp only [List.getElem_cons_succ]); (try simp only [List.getElem_cons_zero]); (try simp only [Act.put]); (try simp only [List.setIfInBounds_toArray]); (try simp only [List.set_cons_succ]); (try simp only [List.set_cons_zero]))
          refine wpAnyH_take (i := 12) (v := ?_) rfl (by kernel_rfl) (by kernel_rfl) (by kernel_rfl) (fun _ _ _ h => h) (Or.inl ⟨by rfl, ?_⟩) g4 ?_
          case refine_2 => (intro w hSw; (try dsimp only at hSw); go_simp; try (with_reducible rfl))
          ((try simp only); (try simp only [List.getElem_toArray]); (try simp only [List.getElem_cons_succ]); (try simp only [List.getElem_cons_zero]); (try simp only [Act.put]); (try simp only [List.setIfInBounds_toArray]); (try simp only [List.set_cons_succ]); (try simp only [List.set_cons_zero]))
          refine wpAnyH_done (by kernel_rfl) ?_ _
          refine NoPanic.normal ?_
          have HH : Hid (Held w z [(w.heap.size + 1, Z, uv'), (w.heap.size, T, tv)] [(.slice ta 512 tc, tear (enc Z) O a), (.slice (some ⟨ga, oa, none⟩) 512 pc, enc T)] [(uv', Z.l), (tv, T.l)]) := H12.out.called bF
          have SN : Hid (Sna z zv RR.l) := snF
          have HU : Hid (HasU z (y0.heap.size) RR zv) := HU0
          clear HU0 t4 sx bF snF g4 u1 u2 lt1 g1 g2 bz b2 sn hHeld cG PL H12 HZ
          generalize y0.heap.size = nb at *
          rcases HR2.out.1 with hE | hE
          · rw [hE] at SN HU
            have hn5 : ¬ (a = 512) := fun h5 => by
              have h6 := HR2.out.2 h5
              have h7 := HR.out.2.2
              rw [← h6, hE] at h7
              omega
            have sA := same_calls z T T zv tv SN.out (HH.out.s (tv, T.l) (by simp))
            have sB : ∀ y, Below z.heap.size z y → Calls Try.prog 11 #[uv T zv, uv Z uv'] y fun e w' => e = .returned (.bool (decide (T = Z))) ∧ Below y.heap.size y w' := fun y hy => same_calls y T Z zv uv' (SN.out.below hy) ((HH.out.s (uv', Z.l) (by simp)).below hy)
            rw [decide_eq_true (rfl : T = T)] at sA
            have hTZ : decide (T = Z) = false := decide_eq_false (fun e : T = Z => by have h7 := HR.out.2.2; rw [← e] at h7; omega)
            rw [hTZ] at sB
            have GU : Hid (∀ y, Below z.heap.size z y → HasU y nb T zv ∧ HasU y w.heap.size T tv ∧ HasU y (w.heap.size + 1) Z uv') := fun y hy => ⟨HU.out.below hy HU.out.lt, (HH.out.u (w.heap.size, T, tv) (by simp)).below hy (HH.out.u (w.heap.size, T, tv) (by simp)).lt, (HH.out.u (w.heap.size + 1, Z, uv') (by simp)).below hy (HH.out.u (w.heap.size + 1, Z, uv') (by simp)).lt⟩
            clear hE HR2 HR
            go_upto_region 20 with (first
              | (refine load_sup _ rfl nb rfl rfl T zv (GU.out _ (Below.refl _ _)).1 ?_)
              | (refine load_sup _ rfl w.heap.size rfl rfl T tv (GU.out _ (Below.refl _ _)).2.1 ?_)
              | (go_at_call 11; refine sA.mono ?_; rintro e z1 ⟨rfl, e1⟩))
            go_wp2_with (first
              | (refine load_sup _ rfl nb rfl rfl T zv (GU.out _ e1).1 ?_)
              | (refine load_sup _ rfl (w.heap.size + 1) rfl rfl Z uv' (GU.out _ e1).2.2 ?_)
              | (go_at_call 11; refine (sB _ e1).mono ?_; rintro e z2 ⟨rfl, e2⟩))
            all_goals first
              | (exfalso; omega)
              | (go_ret; exact ⟨rfl, ((HH.out.called e1).called e2).bel⟩)
          · rw [hE] at SN HU
            have sA := same_calls z Z T zv tv SN.out (HH.out.s (tv, T.l) (by simp))
            have sB : ∀ y, Below z.heap.size z y → Calls Try.prog 11 #[uv Z zv, uv Z uv'] y fun e w' => e = .returned (.bool (decide (Z = Z))) ∧ Below y.heap.size y w' := fun y hy => same_calls y Z Z zv uv' (SN.out.below hy) ((HH.out.s (uv', Z.l) (by simp)).below hy)
            rw [decide_eq_false (fun e : Z = T => by have h7 := HR.out.2.2; rw [e] at h7; omega)] at sA
            rw [decide_eq_true (rfl : Z = Z)] at sB
            have GU : Hid (∀ y, Below z.heap.size z y → HasU y nb Z zv ∧ HasU y w.heap.size T tv ∧ HasU y (w.heap.size + 1) Z uv') := fun y hy => ⟨HU.out.below hy HU.out.lt, (HH.out.u (w.heap.size, T, tv) (by simp)).below hy (HH.out.u (w.heap.size, T, tv) (by simp)).lt, (HH.out.u (w.heap.size + 1, Z, uv') (by simp)).below hy (HH.out.u (w.heap.size + 1, Z, uv') (by simp)).lt⟩
            clear hE HR2 HR
            go_upto_region 20 with (first
              | (refine load_sup _ rfl nb rfl rfl Z zv (GU.out _ (Below.refl _ _)).1 ?_)
              | (refine load_sup _ rfl w.heap.size rfl rfl T tv (GU.out _ (Below.refl _ _)).2.1 ?_)
              | (go_at_call 11; refine sA.mono ?_; rintro e z1 ⟨rfl, e1⟩))
            go_wp2_with (first
              | (refine load_sup _ rfl nb rfl rfl Z zv (GU.out _ e1).1 ?_)
              | (refine load_sup _ rfl (w.heap.size + 1) rfl rfl Z uv' (GU.out _ e1).2.2 ?_)
              | (go_at_call 11; refine (sB _ e1).mono ?_; rintro e z2 ⟨rfl, e2⟩))
            all_goals first
              | (exfalso; omega)
              | (go_ret; exact ⟨rfl, ((HH.out.called e1).called e2).bel⟩)
      · have hp1 : bits .and .i64 T.g 1 = 1 := by rw [and1]; omega
        have HCE : Hid (chooseP (tear (enc Z) O a) (enc T) = some RR) := by
          have := HFE.out
          rw [if_neg (by omega)] at this
          exact this
        have hT0 := (H11.out.u (w.heap.size, T, tv) (by simp)).cells.1
        have hTl := (H11.out.u (w.heap.size, T, tv) (by simp)).lt
        simp only at hTl
        have hn1 : w.heap.size ≠ wc.heap.size := by omega
        have hn2 : wc.heap.size ≠ w.heap.size := by omega
        go_upto_region 18 with fail
        have HW : Hid (Below wc.heap.size wc (wc.alloc (.cells #[.slice ta 512 tc, .slice (some ⟨ga, oa, none⟩) 512 pc] 25))) := (Below.refl _ _).alloc (Nat.le_refl _) _
        obtain ⟨p0, p1⟩ := cells2 (heap_alloc_new wc (.cells #[.slice ta 512 tc, .slice (some ⟨ga, oa, none⟩) 512 pc] 25))
        have HZ : Hid (wc.heap.size < (wc.alloc (.cells #[.slice ta 512 tc, .slice (some ⟨ga, oa, none⟩) 512 pc] 25)).heap.size) := (show _ < _ by simp)
        have H12 : Hid (Held w (wc.alloc (.cells #[.slice ta 512 tc, .slice (some ⟨ga, oa, none⟩) 512 pc] 25)) [(w.heap.size + 1, Z, uv'), (w.heap.size, T, tv)] [(.slice ta 512 tc, tear (enc Z) O a), (.slice (some ⟨ga, oa, none⟩) 512 pc, enc T)] [(uv', Z.l), (tv, T.l)]) := H11.out.called HW.out
        clear H11 HW hT0 hp1 hTl hn1 hn2
        generalize wc.alloc (.cells #[.slice ta 512 tc, .slice (some ⟨ga, oa, none⟩) 512 pc] 25) = wz at *
        generalize wc.heap.size = pl at *
        have cG : Hid (∀ y, Below wz.heap.size wz y → Calls Try.prog 10 #[(.slice ta 512 tc), (.slice (some ⟨ga, oa, none⟩) 512 pc)] y fun e y' => ∃ zv, e = .returned (.tuple #[uv RR zv, .int .i64 0]) ∧ SnaN y' zv RR.l y.heap.size ∧ Below y.heap.size y y') := fun y hy => by
          have byU := (H12.out.b (.slice ta 512 tc, tear (enc Z) O a) (by simp)).below hy
          have byT := (H12.out.b (.slice (some ⟨ga, oa, none⟩) 512 pc, enc T) (by simp)).below hy
          exact choose_to byU byT HCE.out
        have PL : Hid (∀ y, Below wz.heap.size wz y → y.cell? ⟨pl, 0, none⟩ = some (.slice ta 512 tc) ∧ y.cell? ⟨pl, 1, none⟩ = some (.slice (some ⟨ga, oa, none⟩) 512 pc)) := fun y hy => ⟨(World.cell?_of_block (hy.block pl HZ.out)).trans p0, (World.cell?_of_block (hy.block pl HZ.out)).trans p1⟩
        clear p0 p1 HCE HFE
        refine wp_region_noPanic ?_
        refine wp_region_held_drew (S := (fun y => Below wz.heap.size wz y)) (by kernel_rfl) ((Below.refl _ wz).drew) (fun hHeld => ?_)
        refine wpAnyH_take (i := 0) (v := ?_) rfl (by kernel_rfl) (by kernel_rfl) (by kernel_rfl) (fun _ _ _ h => h) (Or.inl ⟨by rfl, ?_⟩) hHeld ?_
        case refine_2 => (intro w hSw; (try dsimp only at hSw); go_simp; try (with_reducible rfl))
        ((try simp only); (try simp only [List.getElem_toArray]); (try simp only [List.getElem_cons_succ]); (try simp only [List.getElem_cons_zero]); (try simp only [Act.put]); (try simp only [List.setIfInBounds_toArray]); (try simp only [List.set_cons_succ]); (try simp only [List.set_cons_zero]))
        refine wpAnyH_take (i := 1) (v := ?_) rfl (by kernel_rfl) (by kernel_rfl) (by kernel_rfl) (fun _ _ _ h => h) (Or.inl ⟨by rfl, ?_⟩) hHeld ?_
        case refine_2 => (intro w hSw; (try dsimp only at hSw); go_simp; try (with_reducible rfl))
        ((try simp only); (try simp only [List.getElem_toArray]); (try simp only [List.getElem_cons_succ]); (try simp only [List.getElem_cons_zero]); (try simp only [Act.put]); (try simp only [List.setIfInBounds_toArray]); (try simp only [List.set_cons_succ]); (try simp only [List.set_cons_zero]))
        refine wpAnyH_take (i := 2) (v := ?_) rfl (by kernel_rfl) (by kernel_rfl) (by kernel_rfl) (fun _ _ _ h => h) (Or.inl ⟨by rfl, ?_⟩) hHeld ?_
        case refine_2 => (intro w hSw; (try dsimp only at hSw); obtain ⟨l0, l1⟩ := PL.out _ hSw; go_simp; try (with_reducible rfl))
        ((try simp only); (try simp only [List.getElem_toArray]); (try simp only [List.getElem_cons_succ]); (try simp only [List.getElem_cons_zero]); (try simp only [Act.put]); (try simp only [List.setIfInBounds_toArray]); (try simp only [List.set_cons_succ]); (try simp only [List.set_cons_zero]))
        refine wpAnyH_take (i := 3) (v := ?_) rfl (by kernel_rfl) (by kernel_rfl) (by kernel_rfl) (fun _ _ _ h => h) (Or.inl ⟨by rfl, ?_⟩) hHeld ?_
        case refine_2 => (intro w hSw; (try dsimp only at hSw); go_simp; try (with_reducible rfl))
        ((try simp only); (try simp only [List.getElem_toArray]); (try simp only [List.getElem_cons_succ]); (try simp only [List.getElem_cons_zero]); (try simp only [Act.put]); (try simp only [List.setIfInBounds_toArray]); (try simp only [List.set_cons_succ]); (try simp only [List.set_cons_zero]))
        refine wpAnyH_take (i := 4) (v := ?_) rfl (by kernel_rfl) (by kernel_rfl) (by kernel_rfl) (fun _ _ _ h => h) (Or.inl ⟨by rfl, ?_⟩) hHeld ?_
        case refine_2 => (intro w hSw; (try dsimp only at hSw); go_simp; try (with_reducible rfl))
        ((try simp only); (try simp only [List.getElem_toArray]); (try simp only [List.getElem_cons_succ]); (try simp only [List.getElem_cons_zero]); (try simp only [Act.put]); (try simp only [List.setIfInBounds_toArray]); (try simp only [List.set_cons_succ]); (try simp only [List.set_cons_zero]))
        refine wpAnyH_take (i := 5) (v := ?_) rfl (by kernel_rfl) (by kernel_rfl) (by kernel_rfl) (fun _ _ _ h => h) (Or.inl ⟨by rfl, ?_⟩) hHeld ?_
        case refine_2 => (intro w hSw; (try dsimp only at hSw); obtain ⟨l0, l1⟩ := PL.out _ hSw; go_simp; try (with_reducible rfl))
        ((try simp only); (try simp only [List.getElem_toArray]); (try simp only [List.getElem_cons_succ]); (try simp only [List.getElem_cons_zero]); (try simp only [Act.put]); (try simp only [List.setIfInBounds_toArray]); (try simp only [List.set_cons_succ]); (try simp only [List.set_cons_zero]))
        generalize wz.drew = y0 at *
        refine wpAnyH_ready (rs := [6, 10]) (by kernel_rfl) (by simp) (AllReadyH.cons rfl (fun K hK => ?_) (AllReadyH.cons rfl (fun K hK => ?_) AllReadyH.nil))
        · have hc := cG.out _ hHeld
          rw [if_pos (by rfl)]
          ((try simp only); (try simp only [List.getElem_toArray]); (try simp only [List.getElem_cons_succ]); (try simp only [List.getElem_cons_zero]); (try simp only [Act.put]); (try simp only [List.setIfInBounds_toArray]); (try simp only [List.set_cons_succ]); (try simp only [List.set_cons_zero]))
          go_simp
          refine hc.mono ?_
          rintro e y2 ⟨zv, rfl, sn, b2⟩
          have bz : Below wz.heap.size wz y2 := hHeld.trans (b2.mono hHeld.size)
          refine hK.out _ _ bz (fun g2 => ?_)
          clear hK K hc
          ((try simp only); (try simp only [List.getElem_toArray]); (try simp only [List.getElem_cons_succ]); (try simp only [List.getElem_cons_zero]); (try simp only [Act.put]); (try simp only [List.setIfInBounds_toArray]); (try simp only [List.set_cons_succ]); (try simp only [List.set_cons_zero]))
          refine wpAnyH_take (i := 7) (v := ?_) rfl (by kernel_rfl) (by kernel_rfl) (by kernel_rfl) (fun _ _ _ h => h) (Or.inl ⟨by rfl, ?_⟩) g2 ?_
          case refine_2 => (intro w hSw; (try dsimp only at hSw); go_simp; try (with_reducible rfl))
          ((try simp only); (try simp only [List.getElem_toArray]); (try simp only [List.getElem_cons_succ]); (try simp only [List.getElem_cons_zero]); (try simp only [Act.put]); (try simp only [List.setIfInBounds_toArray]); (try simp only [List.set_cons_succ]); (try simp only [List.set_cons_zero]))
          refine wpAnyH_take (i := 8) (v := ?_) rfl (by kernel_rfl) (by kernel_rfl) (by kernel_rfl) (fun _ _ _ h => h) (Or.inl ⟨by rfl, ?_⟩) g2 ?_
          case refine_2 => (intro w hSw; (try dsimp only at hSw); go_simp; try (with_reducible rfl))
          ((try simp only); (try simp only [List.getElem_toArray]); (try simp only [List.getElem_cons_succ]); (try simp only [List.getElem_cons_zero]); (try simp only [Act.put]); (try simp only [List.setIfInBounds_toArray]); (try simp only [List.set_cons_succ]); (try simp only [List.set_cons_zero]))
          refine wpAnyH_take (i := 9) (v := ?_) rfl (by kernel_rfl) (by kernel_rfl) (by kernel_rfl) (fun _ _ _ h => h) (Or.inl ⟨by rfl, ?_⟩) g2 ?_
          case refine_2 => (intro w hSw; (try dsimp only at hSw); go_simp; try (with_reducible rfl))
          ((try simp only); (try simp only [List.getElem_toArray]); (try simp only [List.getElem_cons_succ]); (try simp only [List.getElem_cons_zero]); (try simp only [Act.put]); (try simp only [List.setIfInBounds_toArray]); (try simp only [List.set_cons_succ]); (try simp only [List.set_cons_zero]))
          refine wpAnyH_ready (rs := [10]) (by kernel_rfl) (by simp) (AllReadyH.cons rfl (fun K hK => ?_) AllReadyH.nil)
          rw [if_pos (by rfl)]
          ((try simp only); (try simp only [List.getElem_toArray]); (try simp only [List.getElem_cons_succ]); (try simp only [List.getElem_cons_zero]); (try simp only [Act.put]); (try simp only [List.setIfInBounds_toArray]); (try simp only [List.set_cons_succ]); (try simp only [List.set_cons_zero]))
          go_simp
          refine hK.out _ _ (bz.alloc bz.size (.cells #[.int .i64 0, .int .i64 0, .int .i64 0, .int .i64 0, .slice none 0 0] 24)) (fun g3 => ?_)
          clear hK K
          ((try simp only); (try simp only [List.getElem_toArray]); (try simp only [List.getElem_cons_succ]); (try simp only [List.getElem_cons_zero]); (try simp only [Act.put]); (try simp only [List.setIfInBounds_toArray]); (try simp only [List.set_cons_succ]); (try simp only [List.set_cons_zero]))
          have u3 : HasU (y2.alloc (.cells #[.int .i64 0, .int .i64 0, .int .i64 0, .int .i64 0, .slice none 0 0] 24)) y2.heap.size nilU (.slice none 0 0) := HasU.new y2 nilU _ _ rfl rfl
          have so : ∀ y, Touch y2.heap.size none (y2.alloc (.cells #[.int .i64 0, .int .i64 0, .int .i64 0, .int .i64 0, .slice none 0 0] 24)) y → Sna y zv RR.l := fun y t => sna_other sn t
          generalize y2.alloc (.cells #[.int .i64 0, .int .i64 0, .int .i64 0, .int .i64 0, .slice none 0 0] 24) = y3 at *
          refine wpAnyH_ready (rs := [11]) (by kernel_rfl) (by simp) (AllReadyH.cons rfl (fun K hK => ?_) AllReadyH.nil)
          rw [if_pos (by rfl)]
          ((try simp only); (try simp only [List.getElem_toArray]); (try simp only [List.getElem_cons_succ]); (try simp only [List.getElem_cons_zero]); (try simp only [Act.put]); (try simp only [List.setIfInBounds_toArray]); (try simp only [List.set_cons_succ]); (try simp only [List.set_cons_zero]))
          refine store_sup_op _ _ rfl (y2.heap.size) rfl RR zv rfl sn.sna.one nilU (.slice none 0 0) u3 ?_
          intro z HU0 t4 sx
          have bF : Below wz.heap.size wz z := below_rowed g3 t4 bz.size (Nat.le_refl _)
          have snF : Sna z zv RR.l := so z t4
          refine hK.out _ _ bF (fun g4 => ?_)
          clear hK K
          ((try simp only); (try simp only [List.getElem_toArray]); (try simp only [List.getElem_cons_succ]); (try simp only [List.getElem_cons_zero]); (try simp only [Act.put]); (try simp only [List.setIfInBounds_toArray]); (try simp only [List.set_cons_succ]); (try simp only [List.set_cons_zero]))
          refine wpAnyH_take (i := 12) (v := ?_) rfl (by kernel_rfl) (by kernel_rfl) (by kernel_rfl) (fun _ _ _ h => h) (Or.inl ⟨by rfl, ?_⟩) g4 ?_
          case refine_2 => (intro w hSw; (try dsimp only at hSw); go_simp; try (with_reducible rfl))
          ((try simp only); (try simp only [List.getElem_toArray]); (try simp only [List.getElem_cons_succ]); (try simp only [List.getElem_cons_zero]); (try simp only [Act.put]); (try simp only [List.setIfInBounds_toArray]); (try simp only [List.set_cons_succ]); (try simp only [List.set_cons_zero]))
          refine wpAnyH_done (by kernel_rfl) ?_ _
          refine NoPanic.normal ?_
          have HH : Hid (Held w z [(w.heap.size + 1, Z, uv'), (w.heap.size, T, tv)] [(.slice ta 512 tc, tear (enc Z) O a), (.slice (some ⟨ga, oa, none⟩) 512 pc, enc T)] [(uv', Z.l), (tv, T.l)]) := H12.out.called bF
          have SN : Hid (Sna z zv RR.l) := snF
          have HU : Hid (HasU z (y2.heap.size) RR zv) := HU0
          clear HU0 t4 sx bF snF g4 so u3 g3 g2 bz b2 sn hHeld cG PL H12 HZ
          generalize y2.heap.size = nb at *
          rcases HR2.out.1 with hE | hE
          · rw [hE] at SN HU
            have hn5 : ¬ (a = 512) := fun h5 => by
              have h6 := HR2.out.2 h5
              have h7 := HR.out.2.2
              rw [← h6, hE] at h7
              omega
            have sA := same_calls z T T zv tv SN.out (HH.out.s (tv, T.l) (by simp))
            have sB : ∀ y, Below z.heap.size z y → Calls Try.prog 11 #[uv T zv, uv Z uv'] y fun e w' => e = .returned (.bool (decide (T = Z))) ∧ Below y.heap.size y w' := fun y hy => same_calls y T Z zv uv' (SN.out.below hy) ((HH.out.s (uv', Z.l) (by simp)).below hy)
            rw [decide_eq_true (rfl : T = T)] at sA
            have hTZ : decide (T = Z) = false := decide_eq_false (fun e : T = Z => by have h7 := HR.out.2.2; rw [← e] at h7; omega)
            rw [hTZ] at sB
            have GU : Hid (∀ y, Below z.heap.size z y → HasU y nb T zv ∧ HasU y w.heap.size T tv ∧ HasU y (w.heap.size + 1) Z uv') := fun y hy => ⟨HU.out.below hy HU.out.lt, (HH.out.u (w.heap.size, T, tv) (by simp)).below hy (HH.out.u (w.heap.size, T, tv) (by simp)).lt, (HH.out.u (w.heap.size + 1, Z, uv') (by simp)).below hy (HH.out.u (w.heap.size + 1, Z, uv') (by simp)).lt⟩
            clear hE HR2 HR
            go_upto_region 20 with (first
              | (refine load_sup _ rfl nb rfl rfl T zv (GU.out _ (Below.refl _ _)).1 ?_)
              | (refine load_sup _ rfl w.heap.size rfl rfl T tv (GU.out _ (Below.refl _ _)).2.1 ?_)
              | (go_at_call 11; refine sA.mono ?_; rintro e z1 ⟨rfl, e1⟩))
            go_wp2_with (first
              | (refine load_sup _ rfl nb rfl rfl T zv (GU.out _ e1).1 ?_)
              | (refine load_sup _ rfl (w.heap.size + 1) rfl rfl Z uv' (GU.out _ e1).2.2 ?_)
              | (go_at_call 11; refine (sB _ e1).mono ?_; rintro e z2 ⟨rfl, e2⟩))
            all_goals first
              | (exfalso; omega)
              | (go_ret; exact ⟨rfl, ((HH.out.called e1).called e2).bel⟩)
          · rw [hE] at SN HU
            have sA := same_calls z Z T zv tv SN.out (HH.out.s (tv, T.l) (by simp))
            have sB : ∀ y, Below z.heap.size z y → Calls Try.prog 11 #[uv Z zv, uv Z uv'] y fun e w' => e = .returned (.bool (decide (Z = Z))) ∧ Below y.heap.size y w' := fun y hy => same_calls y Z Z zv uv' (SN.out.below hy) ((HH.out.s (uv', Z.l) (by simp)).below hy)
            rw [decide_eq_false (fun e : Z = T => by have h7 := HR.out.2.2; rw [e] at h7; omega)] at sA
            rw [decide_eq_true (rfl : Z = Z)] at sB
            have GU : Hid (∀ y, Below z.heap.size z y → HasU y nb Z zv ∧ HasU y w.heap.size T tv ∧ HasU y (w.heap.size + 1) Z uv') := fun y hy => ⟨HU.out.below hy HU.out.lt, (HH.out.u (w.heap.size, T, tv) (by simp)).below hy (HH.out.u (w.heap.size, T, tv) (by simp)).lt, (HH.out.u (w.heap.size + 1, Z, uv') (by simp)).below hy (HH.out.u (w.heap.size + 1, Z, uv') (by simp)).lt⟩
            clear hE HR2 HR
            go_upto_region 20 with (first
              | (refine load_sup _ rfl nb rfl rfl Z zv (GU.out _ (Below.refl _ _)).1 ?_)
              | (refine load_sup _ rfl w.heap.size rfl rfl T tv (GU.out _ (Below.refl _ _)).2.1 ?_)
              | (go_at_call 11; refine sA.mono ?_; rintro e z1 ⟨rfl, e1⟩))
            go_wp2_with (first
              | (refine load_sup _ rfl nb rfl rfl Z zv (GU.out _ e1).1 ?_)
              | (refine load_sup _ rfl (w.heap.size + 1) rfl rfl Z uv' (GU.out _ e1).2.2 ?_)
              | (go_at_call 11; refine (sB _ e1).mono ?_; rintro e z2 ⟨rfl, e2⟩))
            all_goals first
              | (exfalso; omega)
              | (go_ret; exact ⟨rfl, ((HH.out.called e1).called e2).bel⟩)
        · rw [if_pos (by rfl)]
          ((try simp only); (try simp only [List.getElem_toArray]); (try simp only [List.getElem_cons_succ]); (try simp only [List.getElem_cons_zero]); (try simp only [Act.put]); (try simp only [List.setIfInBounds_toArray]); (try simp only [List.set_cons_succ]); (try simp only [List.set_cons_zero]))
          go_simp
          refine hK.out _ _ (hHeld.alloc hHeld.size (.cells #[.int .i64 0, .int .i64 0, .int .i64 0, .int .i64 0, .slice none 0 0] 24)) (fun g1 => ?_)
          clear hK K
          ((try simp only); (try simp only [List.getElem_toArray]); (try simp only [List.getElem_cons_succ]); (try simp only [List.getElem_cons_zero]); (try simp only [Act.put]); (try simp only [List.setIfInBounds_toArray]); (try simp only [List.set_cons_succ]); (try simp only [List.set_cons_zero]))
          have u1 : HasU (y0.alloc (.cells #[.int .i64 0, .int .i64 0, .int .i64 0, .int .i64 0, .slice none 0 0] 24)) y0.heap.size nilU (.slice none 0 0) := HasU.new y0 nilU _ _ rfl rfl
          have lt1 : y0.heap.size < (y0.alloc (.cells #[.int .i64 0, .int .i64 0, .int .i64 0, .int .i64 0, .slice none 0 0] 24)).heap.size := by simp
          generalize y0.alloc (.cells #[.int .i64 0, .int .i64 0, .int .i64 0, .int .i64 0, .slice none 0 0] 24) = y1 at *
          refine wpAnyH_ready (rs := [6]) (by kernel_rfl) (by simp) (AllReadyH.cons rfl (fun K hK => ?_) AllReadyH.nil)
          have hc := cG.out _ g1
          rw [if_pos (by rfl)]
          ((try simp only); (try simp only [List.getElem_toArray]); (try simp only [List.getElem_cons_succ]); (try simp only [List.getElem_cons_zero]); (try simp only [Act.put]); (try simp only [List.setIfInBounds_toArray]); (try simp only [List.set_cons_succ]); (try simp only [List.set_cons_zero]))
          go_simp
          refine hc.mono ?_
          rintro e y2 ⟨zv, rfl, sn, b2⟩
          have bz : Below wz.heap.size wz y2 := g1.trans (b2.mono g1.size)
          have u2 := u1.below b2 u1.lt
          refine hK.out _ _ bz (fun g2 => ?_)
          clear hK K hc
          ((try simp only); (try simp only [List.getElem_toArray]); (try simp only [List.getElem_cons_succ]); (try simp only [List.getElem_cons_zero]); (try simp only [Act.put]); (try simp only [List.setIfInBounds_toArray]); (try simp only [List.set_cons_succ]); (try simp only [List.set_cons_zero]))
          refine wpAnyH_take (i := 7) (v := ?_) rfl (by kernel_rfl) (by kernel_rfl) (by kernel_rfl) (fun _ _ _ h => h) (Or.inl ⟨by rfl, ?_⟩) g2 ?_
          case refine_2 => (intro w hSw; (try dsimp only at hSw); go_simp; try (with_reducible rfl))
          ((try simp only); (try simp only [List.getElem_toArray]); (try simp only [List.getElem_cons_succ]); (try simp only [List.getElem_cons_zero]); (try simp only [Act.put]); (try simp only [List.setIfInBounds_toArray]); (try simp only [List.set_cons_succ]); (try simp only [List.set_cons_zero]))
          refine wpAnyH_take (i := 8) (v := ?_) rfl (by kernel_rfl) (by kernel_rfl) (by kernel_rfl) (fun _ _ _ h => h) (Or.inl ⟨by rfl, ?_⟩) g2 ?_
          case refine_2 => (intro w hSw; (try dsimp only at hSw); go_simp; try (with_reducible rfl))
          ((try simp only); (try simp only [List.getElem_toArray]); (try simp only [List.getElem_cons_succ]); (try simp only [List.getElem_cons_zero]); (try simp only [Act.put]); (try simp only [List.setIfInBounds_toArray]); (try simp only [List.set_cons_succ]); (try simp only [List.set_cons_zero]))
          refine wpAnyH_take (i := 9) (v := ?_) rfl (by kernel_rfl) (by kernel_rfl) (by kernel_rfl) (fun _ _ _ h => h) (Or.inl ⟨by rfl, ?_⟩) g2 ?_
          case refine_2 => (intro w hSw; (try dsimp only at hSw); go_simp; try (with_reducible rfl))
          ((try simp only); (try simp only [List.getElem_toArray]); (try simp only [List.getElem_cons_succ]); (try simp only [List.getElem_cons_zero]); (try simp only [Act.put]); (try simp only [List.setIfInBounds_toArray]); (try simp only [List.set_cons_succ]); (try simp only [List.set_cons_zero]))
          refine wpAnyH_ready (rs := [11]) (by kernel_rfl) (by simp) (AllReadyH.cons rfl (fun K hK => ?_) AllReadyH.nil)
          rw [if_pos (by rfl)]
          ((try simp only); (try simp only [List.getElem_toArray]); (try simp only [List.getElem_cons_succ]); (try simp only [List.getElem_cons_zero]); (try simp only [Act.put]); (try simp only [List.setIfInBounds_toArray]); (try simp only [List.set_cons_succ]); (try simp only [List.set_cons_zero]))
          refine store_sup_op _ _ rfl (y0.heap.size) rfl RR zv rfl sn.sna.one nilU (.slice none 0 0) u2 ?_
          intro z HU0 t4 sx
          have bF : Below wz.heap.size wz z := below_rowed g2 t4 hHeld.size (Nat.le_refl _)
          have snF : Sna z zv RR.l := sn.touch t4 lt1
          refine hK.out _ _ bF (fun g4 => ?_)
          clear hK K
          ((try simp only); (try simp only [List.getElem_toArray]); (try simp only [List.getElem_cons_succ]); (try simp only [List.getElem_cons_zero]); (try simp only [Act.put]); (try simp only [List.setIfInBounds_toArray]); (try simp only [List.set_cons_succ]); (try simp only [List.set_cons_zero]))
          refine wpAnyH_take (i := 12) (v := ?_) rfl (by kernel_rfl) (by kernel_rfl) (by kernel_rfl) (fun _ _ _ h => h) (Or.inl ⟨by rfl, ?_⟩) g4 ?_
          case refine_2 => (intro w hSw; (try dsimp only at hSw); go_simp; try (with_reducible rfl))
          ((try simp only); (try simp only [List.getElem_toArray]); (try simp only [List.getElem_cons_succ]); (try simp only [List.getElem_cons_zero]); (try simp only [Act.put]); (try simp only [List.setIfInBounds_toArray]); (try simp only [List.set_cons_succ]); (try simp only [List.set_cons_zero]))
          refine wpAnyH_done (by kernel_rfl) ?_ _
          refine NoPanic.normal ?_
          have HH : Hid (Held w z [(w.heap.size + 1, Z, uv'), (w.heap.size, T, tv)] [(.slice ta 512 tc, tear (enc Z) O a), (.slice (some ⟨ga, oa, none⟩) 512 pc, enc T)] [(uv', Z.l), (tv, T.l)]) := H12.out.called bF
          have SN : Hid (Sna z zv RR.l) := snF
          have HU : Hid (HasU z (y0.heap.size) RR zv) := HU0
          clear HU0 t4 sx bF snF g4 u1 u2 lt1 g1 g2 bz b2 sn hHeld cG PL H12 HZ
          generalize y0.heap.size = nb at *
          rcases HR2.out.1 with hE | hE
          · rw [hE] at SN HU
            have hn5 : ¬ (a = 512) := fun h5 => by
              have h6 := HR2.out.2 h5
              have h7 := HR.out.2.2
              rw [← h6, hE] at h7
              omega
            have sA := same_calls z T T zv tv SN.out (HH.out.s (tv, T.l) (by simp))
            have sB : ∀ y, Below z.heap.size z y → Calls Try.prog 11 #[uv T zv, uv Z uv'] y fun e w' => e = .returned (.bool (decide (T = Z))) ∧ Below y.heap.size y w' := fun y hy => same_calls y T Z zv uv' (SN.out.below hy) ((HH.out.s (uv', Z.l) (by simp)).below hy)
            rw [decide_eq_true (rfl : T = T)] at sA
            have hTZ : decide (T = Z) = false := decide_eq_false (fun e : T = Z => by have h7 := HR.out.2.2; rw [← e] at h7; omega)
            rw [hTZ] at sB
            have GU : Hid (∀ y, Below z.heap.size z y → HasU y nb T zv ∧ HasU y w.heap.size T tv ∧ HasU y (w.heap.size + 1) Z uv') := fun y hy => ⟨HU.out.below hy HU.out.lt, (HH.out.u (w.heap.size, T, tv) (by simp)).below hy (HH.out.u (w.heap.size, T, tv) (by simp)).lt, (HH.out.u (w.heap.size + 1, Z, uv') (by simp)).below hy (HH.out.u (w.heap.size + 1, Z, uv') (by simp)).lt⟩
            clear hE HR2 HR
            go_upto_region 20 with (first
              | (refine load_sup _ rfl nb rfl rfl T zv (GU.out _ (Below.refl _ _)).1 ?_)
              | (refine load_sup _ rfl w.heap.size rfl rfl T tv (GU.out _ (Below.refl _ _)).2.1 ?_)
              | (go_at_call 11; refine sA.mono ?_; rintro e z1 ⟨rfl, e1⟩))
            go_wp2_with (first
              | (refine load_sup _ rfl nb rfl rfl T zv (GU.out _ e1).1 ?_)
              | (refine load_sup _ rfl (w.heap.size + 1) rfl rfl Z uv' (GU.out _ e1).2.2 ?_)
              | (go_at_call 11; refine (sB _ e1).mono ?_; rintro e z2 ⟨rfl, e2⟩))
            all_goals first
              | (exfalso; omega)
              | (go_ret; exact ⟨rfl, ((HH.out.called e1).called e2).bel⟩)
          · rw [hE] at SN HU
            have sA := same_calls z Z T zv tv SN.out (HH.out.s (tv, T.l) (by simp))
            have sB : ∀ y, Below z.heap.size z y → Calls Try.prog 11 #[uv Z zv, uv Z uv'] y fun e w' => e = .returned (.bool (decide (Z = Z))) ∧ Below y.heap.size y w' := fun y hy => same_calls y Z Z zv uv' (SN.out.below hy) ((HH.out.s (uv', Z.l) (by simp)).below hy)
            rw [decide_eq_false (fun e : Z = T => by have h7 := HR.out.2.2; rw [e] at h7; omega)] at sA
            rw [decide_eq_true (rfl : Z = Z)] at sB
            have GU : Hid (∀ y, Below z.heap.size z y → HasU y nb Z zv ∧ HasU y w.heap.size T tv ∧ HasU y (w.heap.size + 1) Z uv') := fun y hy => ⟨HU.out.below hy HU.out.lt, (HH.out.u (w.heap.size, T, tv) (by simp)).below hy (HH.out.u (w.heap.size, T, tv) (by simp)).lt, (HH.out.u (w.heap.size + 1, Z, uv') (by simp)).below hy (HH.out.u (w.heap.size + 1, Z, uv') (by simp)).lt⟩
            clear hE HR2 HR
            go_upto_region 20 with (first
              | (refine load_sup _ rfl nb rfl rfl Z zv (GU.out _ (Below.refl _ _)).1 ?_)
              | (refine load_sup _ rfl w.heap.size rfl rfl T tv (GU.out _ (Below.refl _ _)).2.1 ?_)
              | (go_at_call 11; refine sA.mono ?_; rintro e z1 ⟨rfl, e1⟩))
            go_wp2_with (first
              | (refine load_sup _ rfl nb rfl rfl Z zv (GU.out _ e1).1 ?_)
              | (refine load_sup _ rfl (w.heap.size + 1) rfl rfl Z uv' (GU.out _ e1).2.2 ?_)
              | (go_at_call 11; refine (sB _ e1).mono ?_; rintro e z2 ⟨rfl, e2⟩))
            all_goals first
              | (exfalso; omega)
              | (go_ret; exact ⟨rfl, ((HH.out.called e1).called e2).bel⟩)
end Go.Proofs.Ytnpohjbhfoebcaa
