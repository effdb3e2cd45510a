import Derived.Test.YtgicanpggndbeaaGreatB28
/- dir: entries, List, Empty. -/
namespace Go.Proofs.YtgicanpggndbeaaGreat
set_option linter.unusedVariables false
set_option maxRecDepth 100000
open Go.RowKit

/-- The span of a directory's entries. -/
def entriesS (n : Int) : Sp := ⟨entriesF n, entriesT n, false, entriesF_length n, entriesT_length n⟩
theorem al2 (w : World) (a b : Obj) : ((w.alloc a).alloc b).heap[w.heap.size]? = some a ∧ ((w.alloc a).alloc b).heap[w.heap.size + 1]? = some b := by
 have e1 : (w.alloc a).heap.size = w.heap.size + 1 := by simp
 refine ⟨?_, ?_⟩
 · rw [Below.heap_alloc _ _ _ (by omega)]
   exact heap_alloc_new _ _
 · exact e1 ▸ heap_alloc_new (w.alloc a) b
theorem entries_ne {n : Int} (h : okN n = true) : decide (entriesS n = sp0) = false := by
 refine decide_eq_false fun e => ?_
 have h1 : entriesF n = zs 24 := congrArg Sp.F e
 have h0 : 1 ≤ n ∧ n < 1073741824 := by simpa [okN] using h
 unfold entriesF at h1
 rw [if_pos h] at h1
 have h2 := congrArg (fun l : List UInt8 => l.drop 4) h1
 have h3 : (headK n.toNat 2).drop 4 = 2 :: zs 19 := by
  unfold headK
  rw [List.drop_append_of_le_length (by rw [be_length]; omega), List.drop_eq_nil_of_le (by rw [be_length]; omega)]
  rfl
 have h4 : (headK n.toNat 2).drop 4 = (zs 24).drop 4 := h2
 rw [h3] at h4
 revert h4
 decide
theorem entries_eq {n : Int} (h : okN n = false) : decide (entriesS n = sp0) = true := by
 have h1 : entriesF n = zs 24 := by unfold entriesF; rw [h]; rfl
 have h2 : entriesT n = zs 24 := by unfold entriesT; rw [h]; rfl
 refine decide_eq_true ?_
 unfold entriesS sp0
 congr 1
section
variable {ops : Array Oper} {rest : List Oper} {o : Oper} {a : Act} {w : World} {Q : Exit → Act → World → Prop}
theorem op_eq_sp (hgd : o.guard = none) (x y : Operand) (t' : TypeId) (ho : o.op = .binOp .eql 96 x y t') (s u : Sp) (hx : a.eval x = spv s) (hy : a.eval y = spv u) (h : wpList Tryz.prog ops Q rest (a.put o.dst (.bool (decide (s = u)))) w) : wpList Tryz.prog ops Q (o :: rest) a w :=
 wpList_plain hgd fun K hK => by
  unfold Oper.wp
  rw [exec_eq_sp x y t' ho s u hx hy w]
  simp only [Oper.upon]
  exact hK _ _ h
end
set_option maxHeartbeats 4000000 in
theorem dentries_bad (y : World) (q : Nat) (n : Int) (h1 : okN n = false) :
    Calls Tryz.prog 40 #[.pointer (some ⟨q, 0, none⟩), .int .i64 n] y fun e y' => e = .returned (.tuple #[.slice none 0 0, .int .i64 1]) ∧ Below y.heap.size y y' := by
 have hq := entries_eq h1
 go_enter Tryz.func40, Tryz.ntmps40
 go_upto_region 1 with fail
 have hal := al2 y (.cells #[.pointer (some ⟨q, 0, none⟩)] 24) (.cells #[.slice none 0 0] 52)
 have hz0 : ((y.alloc (.cells #[.pointer (some ⟨q, 0, none⟩)] 24)).alloc (.cells #[.slice none 0 0] 52)).heap.size = y.heap.size + 2 := by simp
 have hb0 : Below y.heap.size y ((y.alloc (.cells #[.pointer (some ⟨q, 0, none⟩)] 24)).alloc (.cells #[.slice none 0 0] 52)) := ((Below.refl _ y).alloc (Nat.le_refl _) _).alloc (by simp) _
 generalize (y.alloc (.cells #[.pointer (some ⟨q, 0, none⟩)] 24)).alloc (.cells #[.slice none 0 0] 52) = y1 at *
 go_upto_region 2 with (first
  | (go_at_call 73; refine (entries_calls n _).mono ?_; rintro e w1 ⟨rfl, b1⟩)
  | (refine store_span rfl _ _ rfl _ rfl _ _ _ rfl (entriesS n).hF (entriesS n).hT (zs 24) (zs 24) false (zero_hasS w1 w1.heap.size rfl) ?_; intro w2 h2 t2 s2))
 have s2' : w2.heap.size = w1.heap.size + 1 := by rw [s2]; simp
 have B12 : Below y1.heap.size y1 w2 := b1.trans ((((Below.refl _ w1).alloc (Nat.le_refl _) _).trans (t2.below (by simp) (Nat.le_refl _) (by simp))).mono b1.size)
 have HW : Hid (Below y.heap.size y w2 ∧ w2.heap[y.heap.size]? = some (.cells #[.pointer (some ⟨q, 0, none⟩)] 24 (0, 0)) ∧ w2.heap[y.heap.size + 1]? = some (.cells #[.slice none 0 0] 52 (0, 0)) ∧ HasS w2 w1.heap.size (entriesF n) (entriesT n) false ∧ y.heap.size + 1 < w1.heap.size ∧ w1.heap.size < w2.heap.size) := ⟨hb0.trans (B12.mono hb0.size), (B12.block _ (by omega)).trans hal.1, (B12.block _ (by omega)).trans hal.2, h2, by have := b1.size; omega, by omega⟩
 clear hal hz0 hb0 b1 h2 t2 s2 s2' B12
 have hsp := HW.out.2.2.2.1
 have hcl := cell1 HW.out.2.2.1
 have hfl := frozen_of_row w2 (y.heap.size + 1) 0 _ _ HW.out.2.2.1
 go_wp2_with (first
  | (refine load_el elS _ rfl w1.heap.size 0 rfl rfl (entriesS n) hsp.inB.range ?_)
  | (refine build0 rfl rfl ?_)
  | (refine op_eq_sp rfl _ _ _ rfl (entriesS n) sp0 rfl rfl ?_; rw [hq]))
 have hcs : (w2.setCell ⟨y.heap.size + 1, 0, none⟩ (.slice none 0 0)).cell? ⟨y.heap.size + 1, 0, none⟩ = some (.slice none 0 0) := World.cell?_setCell_same _ _ _ hcl
 refine bodyPost_ret (v := .tuple #[.slice none 0 0, .int .i64 1]) (by simp [results, Tryz.results40, go_sem, hcs]) rfl ⟨rfl, ?_⟩
 exact HW.out.1.trans ⟨rfl, rfl, rfl, by simp, fun i hi => heap_setCell_other _ _ _ _ (show i ≠ y.heap.size + 1 by omega)⟩
set_option maxHeartbeats 2000000 in
theorem dscan1_calls {lim : Nat} {I : Nat → World → Prop} {iv : Value} {ge : Kz → List UInt8 × Bool × Int} {sn : Sp → List Pa × Int} (D : Baser lim noB I iv ge sn) (w0 y : World) (k q : Nat) (x : VR) (V : VS) (A : VAt w0 lim I (k + 1) iv q x V y) (hn : x.n ≤ 4000) (a b c : Nat) (s : Sp) (L : List Pa) (r : Int) (hs : scanV V.C sn s = (L, r))
    (ha : y.cell? ⟨a, 0, none⟩ = some (.pointer (some ⟨q, 0, none⟩))) (hb : y.rangeAt b 0 (encS.c s)) (hc0 : c < y.heap.size ∧ ¬ x.own q c) (hc : y.heap[c]? = some (.cells #[.slice none 0 0] 52 (0, 0))) :
    Calls Tryz.prog 74 #[.pointer (some ⟨a, 0, none⟩), .pointer (some ⟨b, 0, none⟩), .pointer (some ⟨c, 0, none⟩)] y fun e y' => e = .returned (.int .i64 r) ∧ ∃ z0 ad cap, VTo noB w0 lim I k iv q x { V with R := V.R ++ [s] } y { x with n := x.n + 1 } z0 ∧ Own encP 88 z0 y.heap.size (.slice ad L.length cap) L ∧ y' = z0.setCell ⟨c, 0, none⟩ (.slice ad L.length cap) := by
 have hSc := A.scan D (fun i hi => hi.elim) (by omega) s
 rw [hs] at hSc
 dsimp only at hSc
 clear A D hs
 go_enter Tryz.func74, Tryz.ntmps74
 go_wp2_with (first
  | (refine load_el elS _ rfl b 0 rfl rfl s hb ?_)
  | (go_at_call 75; refine hSc.mono ?_; clear hSc; rintro e z0 ⟨ad, cap, rfl, o, T⟩
     have kc : z0.heap[c]? = some (.cells #[.slice none 0 0] 52 (0, 0)) := (T.fr.block c hc0.1 (fun e => e.elim hc0.2 (fun e => e))).trans hc
     have cc := cell1 kc
     have fc := frozen_of_row z0 c 0 _ _ kc
     clear kc))
 go_ret
 exact ⟨rfl, z0, ad, cap, T, o, rfl⟩
set_option maxHeartbeats 4000000 in
theorem dentries_ok {lim : Nat} {I : Nat → World → Prop} {iv : Value} {ge : Kz → List UInt8 × Bool × Int} {sn : Sp → List Pa × Int} (D : Baser lim noB I iv ge sn) (w0 y : World) (k q : Nat) (x : VR) (V : VS) (A : VAt w0 lim I (k + 1) iv q x V y) (hn : x.n ≤ 4000) (n : Int) (h1 : okN n = true) (L : List Pa) (r : Int) (hs : scanV V.C sn (entriesS n) = (L, r)) :
    Calls Tryz.prog 40 #[.pointer (some ⟨q, 0, none⟩), .int .i64 n] y fun e y' => ∃ ad cap, e = .returned (.tuple #[.slice ad L.length cap, .int .i64 r]) ∧ Own encP 88 y' y.heap.size (.slice ad L.length cap) L ∧ ∃ x', VRan noB w0 lim I k iv q x (x.n + 4) { V with R := V.R ++ [entriesS n] } y x' y' := by
 have hq := entries_ne h1
 have HD : Hid (Baser lim noB I iv ge sn) := D
 have HA : Hid (VAt w0 lim I (k + 1) iv q x V y ∧ x.n ≤ 4000 ∧ scanV V.C sn (entriesS n) = (L, r)) := ⟨A, hn, hs⟩
 clear A D hn hs h1
 go_enter Tryz.func40, Tryz.ntmps40
 go_upto_region 1 with fail
 have hal := al2 y (.cells #[.pointer (some ⟨q, 0, none⟩)] 24) (.cells #[.slice none 0 0] 52)
 have hz0 : ((y.alloc (.cells #[.pointer (some ⟨q, 0, none⟩)] 24)).alloc (.cells #[.slice none 0 0] 52)).heap.size = y.heap.size + 2 := by simp
 have hb0 : Below y.heap.size y ((y.alloc (.cells #[.pointer (some ⟨q, 0, none⟩)] 24)).alloc (.cells #[.slice none 0 0] 52)) := ((Below.refl _ y).alloc (Nat.le_refl _) _).alloc (by simp) _
 generalize (y.alloc (.cells #[.pointer (some ⟨q, 0, none⟩)] 24)).alloc (.cells #[.slice none 0 0] 52) = y1 at *
 go_upto_region 2 with (first
  | (go_at_call 73; refine (entries_calls n _).mono ?_; rintro e w1 ⟨rfl, b1⟩)
  | (refine store_span rfl _ _ rfl _ rfl _ _ _ rfl (entriesS n).hF (entriesS n).hT (zs 24) (zs 24) false (zero_hasS w1 w1.heap.size rfl) ?_; intro w2 h2 t2 s2))
 have s2' : w2.heap.size = w1.heap.size + 1 := by rw [s2]; simp
 have B12 : Below y1.heap.size y1 w2 := b1.trans ((((Below.refl _ w1).alloc (Nat.le_refl _) _).trans (t2.below (by simp) (Nat.le_refl _) (by simp))).mono b1.size)
 have HW : Hid (Below y.heap.size y w2 ∧ w2.heap[y.heap.size]? = some (.cells #[.pointer (some ⟨q, 0, none⟩)] 24 (0, 0)) ∧ w2.heap[y.heap.size + 1]? = some (.cells #[.slice none 0 0] 52 (0, 0)) ∧ HasS w2 w1.heap.size (entriesF n) (entriesT n) false ∧ y.heap.size + 1 < w1.heap.size ∧ w1.heap.size < w2.heap.size) := ⟨hb0.trans (B12.mono hb0.size), (B12.block _ (by omega)).trans hal.1, (B12.block _ (by omega)).trans hal.2, h2, by have := b1.size; omega, by omega⟩
 clear hal hz0 hb0 b1 h2 t2 s2 s2' B12
 have hsp := HW.out.2.2.2.1
 go_upto_region 4 with (first
  | (refine load_el elS _ rfl w1.heap.size 0 rfl rfl (entriesS n) hsp.inB.range ?_)
  | (refine build0 rfl rfl ?_)
  | (refine op_eq_sp rfl _ _ _ rfl (entriesS n) sp0 rfl rfl ?_; rw [hq]))
 have HB5 : Hid (Below y.heap.size y (w2.alloc (.cells #[.int .i64 0] 32)) ∧ (w2.alloc (.cells #[.int .i64 0] 32)).heap.size = w2.heap.size + 1) := ⟨HW.out.1.trans (((Below.refl _ w2).alloc (Nat.le_refl _) _).mono HW.out.1.size), by simp⟩
 have bA : Below w2.heap.size w2 (w2.alloc (.cells #[.int .i64 0] 32)) := (Below.refl _ w2).alloc (Nat.le_refl _) _
 have hlt0 : y.heap.size + 1 < w2.heap.size := Nat.lt_trans HW.out.2.2.2.2.1 HW.out.2.2.2.2.2
 have hno : ∀ i, y.heap.size ≤ i → ¬ x.own q i := fun i hi e => by have := HA.out.1.vw.lt e; omega
 have h5 := dscan1_calls HD.out w0 (w2.alloc (.cells #[.int .i64 0] 32)) k q x V (HA.out.1.called HD.out HB5.out.1) HA.out.2.1 y.heap.size w1.heap.size (y.heap.size + 1) (entriesS n) L r HA.out.2.2
   (cell1 ((bA.block _ (by omega)).trans HW.out.2.1)) (range_same' hsp.inB.range (bA.block _ HW.out.2.2.2.2.2)) ⟨by rw [HB5.out.2]; omega, hno _ (by omega)⟩ ((bA.block _ hlt0).trans HW.out.2.2.1)
 have hmf : ∀ (fn : Fn) (first cap : Array Value) (w : World), (Instr.makeFunc fn first cap).run Tryz.prog w = .ok (.func fn first cap) w := fun _ _ _ _ => rfl
 have hCa := caughtScan_calls w2 ⟨y.heap.size, 0, none⟩ ⟨w1.heap.size, 0, none⟩ ⟨y.heap.size + 1, 0, none⟩ (fun n1 z => r = n1 ∧ ∃ z0 ad cap, VTo noB w0 lim I k iv q x { V with R := V.R ++ [entriesS n] } (w2.alloc (.cells #[.int .i64 0] 32)) { x with n := x.n + 1 } z0 ∧ Own encP 88 z0 (w2.alloc (.cells #[.int .i64 0] 32)).heap.size (.slice ad L.length cap) L ∧ z = z0.setCell ⟨y.heap.size + 1, 0, none⟩ (.slice ad L.length cap)) (h5.mono fun e z q1 => by
  obtain ⟨e1, z0, ad, cap, T, o, e2⟩ := q1
  refine ⟨r, e1, ?_, rfl, z0, ad, cap, T, o, e2⟩
  rw [e2, heap_setCell_other _ _ _ _ (show w2.heap.size ≠ y.heap.size + 1 by omega)]
  exact (T.fr.block _ (by rw [HB5.out.2]; omega) (fun e => e.elim (hno _ (by omega)) (fun e => e))).trans (heap_alloc_new _ _))
 clear h5
 go_upto_region 5 with (go_at_call 33; refine hCa.mono ?_; clear hCa; rintro e z ⟨n1, z1, rfl, ⟨rfl, z0, ad, cap, T, o, rfl⟩, rfl⟩)
 have kc : z0.heap[y.heap.size + 1]? = _ := (T.fr.block _ (by rw [HB5.out.2]; omega) (fun e => e.elim (hno _ (by omega)) (fun e => e))).trans ((bA.block _ hlt0).trans HW.out.2.2.1)
 have kd : ((z0.setCell ⟨y.heap.size + 1, 0, none⟩ (.slice ad L.length cap)).setCell ⟨w2.heap.size, 0, none⟩ (.int .i64 r)).heap[y.heap.size + 1]? = some (.cells #[.slice ad L.length cap] 52 (0, 0)) := (heap_setCell_other _ _ _ _ (show y.heap.size + 1 ≠ w2.heap.size by omega)).trans (set1 _ kc)
 have HFR : Hid (FrV (fun i => y.heap.size ≤ i ∧ i < w2.heap.size + 1) z0 ((z0.setCell ⟨y.heap.size + 1, 0, none⟩ (.slice ad L.length cap)).setCell ⟨w2.heap.size, 0, none⟩ (.int .i64 r))) := ⟨⟨rfl, rfl, rfl, by simp, fun k hk => absurd hk (Nat.not_lt_zero k)⟩, fun i _ hn => by
  rw [heap_setCell_other _ _ _ _ (show i ≠ w2.heap.size by omega), heap_setCell_other _ _ _ _ (show i ≠ y.heap.size + 1 by omega)]⟩
 have HT : Hid (VTo noB w0 lim I k iv q x { V with R := V.R ++ [entriesS n] } (w2.alloc (.cells #[.int .i64 0] 32)) { x with n := x.n + 1 } z0 ∧ Own encP 88 z0 (w2.alloc (.cells #[.int .i64 0] 32)).heap.size (.slice ad L.length cap) L) := ⟨T, o⟩
 clear T o kc
 generalize (z0.setCell ⟨y.heap.size + 1, 0, none⟩ (.slice ad L.length cap)).setCell ⟨w2.heap.size, 0, none⟩ (.int .i64 r) = z5 at *
 have hcl := cell1 kd
 have hfl := frozen_of_row z5 (y.heap.size + 1) 0 _ _ kd
 go_wp2_with fail
 have hcs : (z5.setCell ⟨y.heap.size + 1, 0, none⟩ (.slice ad L.length cap)).cell? ⟨y.heap.size + 1, 0, none⟩ = some (.slice ad L.length cap) := World.cell?_setCell_same _ _ _ hcl
 have fr9 : FrV (fun i => y.heap.size ≤ i ∧ i < w2.heap.size + 1) z0 (z5.setCell ⟨y.heap.size + 1, 0, none⟩ (.slice ad L.length cap)) := HFR.out.trans (S' := fun i => i = y.heap.size + 1) ⟨⟨rfl, rfl, rfl, by simp, fun k hk => absurd hk (Nat.not_lt_zero k)⟩, fun i _ hn => heap_setCell_other _ _ _ _ hn⟩ (fun i e => .inl (by omega))
 refine bodyPost_ret (v := .tuple #[.slice ad L.length cap, .int .i64 r]) (by simp [results, Tryz.results40, go_sem, hcs]) rfl ⟨ad, cap, rfl, ?_, _, VRan.boxes HD.out HA.out.1 HB5.out.1 (HT.out.1.ran (Nat.le_refl _)) ?_⟩
 · exact (HT.out.2.same fun g hg => fr9.block g (HT.out.2.lt g hg).2 (fun e => by have := (HT.out.2.lt g hg).1; have := HB5.out.2; omega)).lower HB5.out.1.size
 · simp only [HB5.out.2]
   exact fr9
end Go.Proofs.YtgicanpggndbeaaGreat
/- dir: Empty, List. -/
namespace Go.Proofs.YtgicanpggndbeaaGreat
set_option linter.unusedVariables false
set_option maxRecDepth 100000
open Go.RowKit

theorem dempty_bad (y : World) (q : Nat) (n : Int) (h1 : okN n = false) :
    Calls Tryz.prog 17 #[.pointer (some ⟨q, 0, none⟩), .int .i64 n] y fun e y' => e = .returned (.tuple #[.bool false, .int .i64 1]) ∧ Below y.heap.size y y' := by
 have hE := dentries_bad y q n h1
 go_enter Tryz.func17, Tryz.ntmps17
 go_wp2_with (go_at_call 40; refine hE.mono ?_; clear hE; rintro e z ⟨rfl, b⟩)
 go_ret2
 exact ⟨rfl, b⟩
set_option maxHeartbeats 2000000 in
theorem dempty_ok {lim : Nat} {I : Nat → World → Prop} {iv : Value} {ge : Kz → List UInt8 × Bool × Int} {sn : Sp → List Pa × Int} (D : Baser lim noB I iv ge sn) (w0 y : World) (k q : Nat) (x : VR) (V : VS) (A : VAt w0 lim I (k + 1) iv q x V y) (hn : x.n ≤ 4000) (n : Int) (h1 : okN n = true) (L : List Pa) (hs : scanV V.C sn (entriesS n) = (L, 0)) (hL : L.length ≤ 5000) :
    Calls Tryz.prog 17 #[.pointer (some ⟨q, 0, none⟩), .int .i64 n] y fun e y' => e = .returned (.tuple #[.bool (decide (L.length = 0)), .int .i64 0]) ∧ ∃ x', VRan noB w0 lim I k iv q x (x.n + 4) { V with R := V.R ++ [entriesS n] } y x' y' := by
 have hE := dentries_ok D w0 y k q x V A hn n h1 L 0 hs
 generalize L.length = N at *
 clear A D hs
 have hN : ((N : Int) == 0) = decide (N = 0) := by
  by_cases h : N = 0
  · subst h; rfl
  · rw [decide_eq_false h]; simpa using h
 go_enter Tryz.func17, Tryz.ntmps17
 go_wp2_with (go_at_call 40; refine hE.mono ?_; clear hE; rintro e z ⟨ad, cap, rfl, o, x', T⟩)
 go_ret2
 exact ⟨by simp, x', T⟩
/-- Names in a slice. -/
def encN : Enc (List UInt8) 1 := ⟨fun s => [.string (str s)], fun _ => rfl, fun _ v hv => by rw [List.mem_singleton] at hv; subst hv; rfl⟩
theorem rowN : RowTy Tryz.prog encN 37 9 16 := ⟨Tryz.underlying37, ⟨.string ByteArray.empty, by kernel_rfl, rfl⟩, by decide⟩
/-- Is it the key of an entry? -/
def goodK (K : List UInt8) : Bool := right K && (pKind K == 2)
def namesL (L : List Pa) : List (List UInt8) := L.map fun p => pName p.k
theorem dlist_bad (y : World) (q : Nat) (n : Int) (h1 : okN n = false) :
    Calls Tryz.prog 14 #[.pointer (some ⟨q, 0, none⟩), .int .i64 n] y fun e y' => e = .returned (.tuple #[.slice none 0 0, .int .i64 1]) ∧ Below y.heap.size y y' := by
 have hE := dentries_bad y q n h1
 go_enter Tryz.func14, Tryz.ntmps14
 go_wp2_with (go_at_call 40; refine hE.mono ?_; clear hE; rintro e z ⟨rfl, b⟩)
 go_ret2
 exact ⟨rfl, b⟩
set_option maxHeartbeats 8000000 in
theorem dlist_ok {lim : Nat} {I : Nat → World → Prop} {iv : Value} {ge : Kz → List UInt8 × Bool × Int} {sn : Sp → List Pa × Int} (D : Baser lim noB I iv ge sn) (w0 y : World) (k q : Nat) (x : VR) (V : VS) (A : VAt w0 lim I (k + 1) iv q x V y) (hn : x.n ≤ 4000) (n : Int) (h1 : okN n = true) (L : List Pa) (hs : scanV V.C sn (entriesS n) = (L, 0)) (hL : L.length ≤ 5000) :
    Calls Tryz.prog 14 #[.pointer (some ⟨q, 0, none⟩), .int .i64 n] y fun e y' => ∃ x', VRan noB w0 lim I k iv q x (x.n + 4) { V with R := V.R ++ [entriesS n] } y x' y' ∧ (((∀ p ∈ L, goodK p.k = true) ∧ ∃ ad cap, e = .returned (.tuple #[.slice ad L.length cap, .int .i64 0]) ∧ Own encN 9 y' y.heap.size (.slice ad L.length cap) (namesL L) ∧ ∀ g, Value.ownBlock (.slice ad L.length cap) = some g → ¬ x'.own q g) ∨ ((∃ p ∈ L, goodK p.k = false) ∧ e = .returned (.tuple #[.slice none 0 0, .int .i64 12]))) := by
 have hE := dentries_ok D w0 y k q x V A hn n h1 L 0 hs
 have HD : Hid (Baser lim noB I iv ge sn) := D
 have HLy : Hid (w0.heap.size ≤ y.heap.size) := Nat.le_trans A.le A.limy
 obtain ⟨N, hN⟩ : ∃ N : Nat, N = L.length := ⟨_, rfl⟩
 have HN : Hid (N = L.length ∧ N ≤ 5000) := ⟨hN, by omega⟩
 rw [← hN] at hE
 clear A D hs hN hL
 go_enter Tryz.func14, Tryz.ntmps14
 go_upto_region 6 with (go_at_call 40; refine hE.mono ?_; clear hE; rintro e z ⟨ad, cap, rfl, o, x', T⟩)
 have HO : Hid (Own encP 88 z y.heap.size (.slice ad N cap) L) := o
 have HT : Hid (VRan noB w0 lim I k iv q x (x.n + 4) { V with R := V.R ++ [entriesS n] } y x' z) := T
 have HI : Hid (∀ i (hi : i < L.length), ∃ g off, ad = some ⟨g, off, none⟩ ∧ g < z.heap.size ∧ z.rangeAt g (off + i * 25) (encP.c L[i])) := fun i hi => SlB.at o.slB i hi
 have HST : Hid (Below z.heap.size z z ∧ Own encN 9 z z.heap.size (.slice none 0 0) (namesL (L.take 0)) ∧ ∀ p ∈ L.take 0, goodK p.k = true) := ⟨Below.refl _ _, Own.nil _ _ _ _, fun p hp => by cases hp⟩
 clear o T
 go_loopg [8, 24] N (fun gg v i wr => ∃ j : Nat, j + gg = N ∧ i = .int .i64 (j : Int) ∧ Hid (Below z.heap.size z wr ∧ Own encN 9 wr z.heap.size v (namesL (L.take j)) ∧ ∀ p ∈ L.take j, goodK p.k = true))
 case atStart => exact ⟨0, by omega, rfl, HST.out⟩
 case round =>
  clear HST
  obtain ⟨j, hjg, rfl, HE⟩ := hrel
  cases gk with
  | zero =>
   have hjN : j = N := by omega
   have HF : Hid (L.take j = L) := (show _ = _ from List.take_of_length_le (by have := HN.out; omega))
   subst hjN
   go_wp2_with fail
   go_ret2
   have E := HE.out
   rw [HF.out] at E
   obtain ⟨adn, capn, hvn, -, -, -, -⟩ := id E.2.1.slB
   have hlen : (namesL L).length = L.length := by unfold namesL; rw [List.length_map]
   rw [hlen] at hvn
   have e2 := E.2.1
   rw [hvn] at e2 ⊢
   exact ⟨x', HT.out.called HD.out E.1, .inl ⟨E.2.2, adn, capn, rfl, e2.lower HT.out.fr.size, fun g hg e => by
    have h1 := HT.out.at_.vw.lt e
    have h2 := (e2.lt g hg).1
    omega⟩⟩
  | succ gg =>
   have hjI : (j : Int) < (N : Int) := by omega
   have hj0 : (0 : Int) ≤ (j : Int) := by omega
   have hjb : (j : Int) ≤ 5000 := by have := HN.out; omega
   have hjl : j < L.length := by have := HN.out; omega
   obtain ⟨g, off, rfl, hg, hat⟩ := HI.out j hjl
   have hr : wr.rangeAt g (off + j * 25) (encP.c L[j]) := range_same' hat (HE.out.1.block g hg)
   have HTK : Hid (L.take (j + 1) = L.take j ++ [L[j]]) := (show _ = _ from List.take_succ_eq_append_getElem hjl)
   have HLN : Hid ((namesL (L.take j)).length ≤ 5000) := (show _ ≤ _ by unfold namesL; rw [List.length_map, List.length_take]; omega)
   have HMEM : Hid (L[j] ∈ L) := (show _ from List.getElem_mem hjl)
   generalize L[j] = c at *
   have hOf := fun w => of_calls w c.k c.h
   have HG : Hid (goodK c.k = (right c.k && (pKind c.k == 2))) := rfl
   have HPN : Hid (namesL (L.take j) ++ [pName c.k] = namesL (L.take (j + 1))) := (show _ = _ by rw [HTK.out]; simp [namesL])
   have HE1 : Hid (Below z.heap.size z wr ∧ Own encN 9 wr z.heap.size u8 (namesL (L.take j)) ∧ ∀ p ∈ L.take j, goodK p.k = true) := HE.out
   clear hat hjl HI HE
   go_upto_region 8 with (first
    | (refine load_el elP _ rfl g (off + j * 25) rfl rfl c hr ?_)
    | (refine store_el elP rfl _ _ rfl wr.heap.size rfl c rfl pa0 (InB.new encP _ wr pa0 _ rfl) ?_; intro x1 hu1 tx1 sx1))
   have BX : Below wr.heap.size wr x1 := ((Below.refl _ wr).alloc (Nat.le_refl _) _).trans (tx1.below (by simp) (Nat.le_refl _) (by simp))
   have HB1 : Hid (Below z.heap.size z x1 ∧ Own encN 9 x1 z.heap.size u8 (namesL (L.take j))) := ⟨HE1.out.1.trans (BX.mono HE1.out.1.size), HE1.out.2.1.below BX⟩
   have HG1 : Hid (∀ p ∈ L.take j, goodK p.k = true) := HE1.out.2.2
   clear HE1 tx1 sx1 BX hr
   generalize wr.heap.size = b0 at *
   by_cases hgd : goodK c.k = true
   · have hr1 : right c.k = true := by have := HG.out.symm.trans hgd; simp at this; exact this.1
     have hk1 : pKind c.k = 2 := by have := HG.out.symm.trans hgd; simp at this; exact this.2
     have hv : ofV c.k = pv (pIno c.k) (pKind c.k) (pName c.k) (pPlace c.k) := by unfold ofV; rw [if_pos hr1]
     rw [hv, hr1, hk1] at hOf
     have HGD : Hid (goodK c.k = true) := hgd
     clear hgd hr1 hk1 hv HG
     go_upto_region 9 with (first
      | (refine load_part _ rfl b0 0 rfl rfl _ c.h (range_kP hu1.range) ?_)
      | (go_at_call 41; refine (hOf _).mono ?_; rintro e x2 ⟨rfl, b2⟩))
     have hrow := heap_alloc_new x2 (.cells #[.int .i64 (pIno c.k), .int .i64 2, .string (str (pName c.k)), .int .i64 (pPlace c.k)] 90)
     have hcK : (x2.alloc (.cells #[.int .i64 (pIno c.k), .int .i64 2, .string (str (pName c.k)), .int .i64 (pPlace c.k)] 90)).cell? ⟨x2.heap.size, 1, none⟩ = some (.int .i64 2) := by rw [cell_of_row _ _ _ _ _ _ hrow]; rfl
     have hcN : (x2.alloc (.cells #[.int .i64 (pIno c.k), .int .i64 2, .string (str (pName c.k)), .int .i64 (pPlace c.k)] 90)).cell? ⟨x2.heap.size, 2, none⟩ = some (.string (str (pName c.k))) := by rw [cell_of_row _ _ _ _ _ _ hrow]; rfl
     have bA : Below x2.heap.size x2 (x2.alloc (.cells #[.int .i64 (pIno c.k), .int .i64 2, .string (str (pName c.k)), .int .i64 (pPlace c.k)] 90)) := (Below.refl _ x2).alloc (Nat.le_refl _) _
     have b13 : Below x1.heap.size x1 (x2.alloc (.cells #[.int .i64 (pIno c.k), .int .i64 2, .string (str (pName c.k)), .int .i64 (pPlace c.k)] 90)) := b2.trans (bA.mono b2.size)
     have HB3 : Hid (Below z.heap.size z (x2.alloc (.cells #[.int .i64 (pIno c.k), .int .i64 2, .string (str (pName c.k)), .int .i64 (pPlace c.k)] 90))) := HB1.out.1.trans (b13.mono HB1.out.1.size)
     have HO3 : Hid (Own encN 9 (x2.alloc (.cells #[.int .i64 (pIno c.k), .int .i64 2, .string (str (pName c.k)), .int .i64 (pPlace c.k)] 90)) z.heap.size u8 (namesL (L.take j))) := HB1.out.2.below b13
     clear hrow bA b13 b2 hu1 hOf
     generalize x2.alloc (.cells #[.int .i64 (pIno c.k), .int .i64 2, .string (str (pName c.k)), .int .i64 (pPlace c.k)] 90) = x3 at *
     generalize x2.heap.size = b9 at *
     go_wp2_with (first
      | (refine build_c1 rowN rfl _ rfl (pName c.k) _ rfl rfl ?_; intro x4 o4 b4 s4
         have c4 := HB3.out.trans (b4.mono HB3.out.size)
         have o3 := HO3.out.below b4)
      | (at_builtin; refine append_slB rowN rfl _ _ rfl z.heap.size u8 (namesL (L.take j)) [pName c.k] rfl o3 _ rfl _ o4.slB (by have := HLN.out; simp only [List.length_cons, List.length_nil]; omega) (by decide) c4.size ?_; intro v5 x5 o5 g5))
     go_roundg gg
     case measure => omega
     case rel =>
      rw [HPN.out] at o5
      refine ⟨j + 1, by omega, congrArg (Value.int .i64) (by omega), (show Below z.heap.size z x5 ∧ Own encN 9 x5 z.heap.size v5 (namesL (L.take (j + 1))) ∧ ∀ p ∈ L.take (j + 1), goodK p.k = true from ⟨c4.grown g5 c4.size (fun j hj => (o3.lt j hj).1), o5, fun p hp => ?_⟩)⟩
      rw [HTK.out, List.mem_append, List.mem_singleton] at hp
      rcases hp with hp | rfl
      · exact HG1.out p hp
      · exact HGD.out
   · have HBD : Hid (goodK c.k = false) := (show _ = _ by simpa using hgd)
     clear hgd
     cases hr1 : right c.k with
     | false =>
      have hv : ofV c.k = pv 0 0 [] 0 := by unfold ofV; rw [if_neg (by rw [hr1]; decide)]
      rw [hv, hr1] at hOf
      clear hr1 hv HG
      go_upto_region 9 with (first
       | (refine load_part _ rfl b0 0 rfl rfl _ c.h (range_kP hu1.range) ?_)
       | (go_at_call 41; refine (hOf _).mono ?_; rintro e x2 ⟨rfl, b2⟩))
      have HB3 : Hid (Below z.heap.size z (x2.alloc (.cells #[.int .i64 0, .int .i64 0, .string (str []), .int .i64 0] 90))) := HB1.out.1.trans ((b2.trans (((Below.refl _ x2).alloc (Nat.le_refl _) _).mono b2.size)).mono HB1.out.1.size)
      go_wp2_with fail
      go_ret2
      exact ⟨x', HT.out.called HD.out HB3.out, .inr ⟨⟨c, HMEM.out, HBD.out⟩, rfl⟩⟩
     | true =>
      have hv : ofV c.k = pv (pIno c.k) (pKind c.k) (pName c.k) (pPlace c.k) := by unfold ofV; rw [if_pos hr1]
      have hk1 : (pKind c.k == 2) = false := by have := HG.out.symm.trans HBD.out; rw [hr1] at this; simpa using this
      rw [hv, hr1] at hOf
      clear hr1 hv HG
      go_upto_region 9 with (first
       | (refine load_part _ rfl b0 0 rfl rfl _ c.h (range_kP hu1.range) ?_)
       | (go_at_call 41; refine (hOf _).mono ?_; rintro e x2 ⟨rfl, b2⟩))
      have hrow := heap_alloc_new x2 (.cells #[.int .i64 (pIno c.k), .int .i64 (pKind c.k), .string (str (pName c.k)), .int .i64 (pPlace c.k)] 90)
      have hcK : (x2.alloc (.cells #[.int .i64 (pIno c.k), .int .i64 (pKind c.k), .string (str (pName c.k)), .int .i64 (pPlace c.k)] 90)).cell? ⟨x2.heap.size, 1, none⟩ = some (.int .i64 (pKind c.k)) := by rw [cell_of_row _ _ _ _ _ _ hrow]; rfl
      have HB3 : Hid (Below z.heap.size z (x2.alloc (.cells #[.int .i64 (pIno c.k), .int .i64 (pKind c.k), .string (str (pName c.k)), .int .i64 (pPlace c.k)] 90))) := HB1.out.1.trans ((b2.trans (((Below.refl _ x2).alloc (Nat.le_refl _) _).mono b2.size)).mono HB1.out.1.size)
      have hk2 : (pKind c.k != 2) = true := by rw [bne, hk1]; rfl
      clear hrow
      generalize x2.alloc (.cells #[.int .i64 (pIno c.k), .int .i64 (pKind c.k), .string (str (pName c.k)), .int .i64 (pPlace c.k)] 90) = x3 at *
      generalize pKind c.k = kd at *
      go_wp2_with fail
      go_ret2
      exact ⟨x', HT.out.called HD.out HB3.out, .inr ⟨⟨c, HMEM.out, HBD.out⟩, rfl⟩⟩
end Go.Proofs.YtgicanpggndbeaaGreat
