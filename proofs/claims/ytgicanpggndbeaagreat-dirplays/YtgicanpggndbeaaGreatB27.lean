import Derived.Test.YtgicanpggndbeaaGreatB18
import Derived.Test.YtgicanpggndbeaaGreatB26
import Derived.Test.YtgicanpggndbeaaGreatB13
import Derived.Test.YtgicanpggndbeaaGreatB14
import Derived.Test.YtgicanpggndbeaaGreatB11
/- A slice of one slice of changes (as DlJ, without its own layer). -/
namespace Go.Proofs.YtgicanpggndbeaaGreat
set_option linter.unusedVariables false
set_option maxRecDepth 100000
open Go.RowKit

theorem infoV : ∃ i z, Tryz.prog.info? 50 = some i ∧ i.zero = some z ∧ i.size = 1 ∧ z.cells.size = 1 := by
 have h : (Tryz.prog.info? 50).map (fun i => (i.zero, i.size)) = some (some (.slice none 0 0), 1) := by kernel_rfl
 cases hi : Tryz.prog.info? 50 with
 | none => rw [hi] at h; cases h
 | some i =>
  rw [hi] at h
  simp only [Option.map_some, Option.some.injEq, Prod.mk.injEq] at h
  exact ⟨i, _, rfl, h.1, h.2, rfl⟩
theorem cells_sl {α : Type} {k : Nat} {E : Enc α k} {w : World} {B : Nat} {v : Value} {l : List α} (h : SlB E w B v l) : v.cells = #[v] := by
 obtain ⟨ad, cap, rfl, _⟩ := h
 rfl
section
variable {ops : Array Oper} {rest : List Oper} {o : Oper} {a : Act} {w : World} {Q : Exit → Act → World → Prop}
theorem build_one1 (hg : o.guard = none) (x : Operand) (ho : o.op = .buildSlice 54 1 #[(0, x)]) (v : Value) (hx : a.eval x = v) (l : List Ch) (hl : Sl encC w v l)
    (h : ∀ w', SlS w' w'.heap.size (.slice (some ⟨w.heap.size, 0, none⟩) 1 1) [(v, l)] → Below w.heap.size w w' → wpList Tryz.prog ops Q rest (a.put o.dst (.slice (some ⟨w.heap.size, 0, none⟩) 1 1)) w') : wpList Tryz.prog ops Q (o :: rest) a w := by
 obtain ⟨i, z, hi, hz, hs, hzc⟩ := infoV
 have cv := cells_sl hl
 refine wpList_plain hg fun K hK => wp_buildSlice 54 50 1 _ ho #[v] i z Tryz.underlying54 hi hz (by rw [hs]; omega) (by rw [hs]; omega) ?_ (hK _ _ ?_)
 · rw [hs]
   obtain ⟨C, hC⟩ : ∃ C : Array Value, C = (Array.range (1 * 1)).map (z.cells[· % z.cells.size]!) := ⟨_, rfl⟩
   have hsz : C.size = 1 := by rw [hC]; simp
   rw [← hC]
   obtain ⟨cs⟩ := C
   rcases cs with _ | ⟨c0, _ | ⟨c1, cs⟩⟩
   · simp at hsz
   · simp only [List.map_toArray, List.map_cons, List.map_nil, hx]
     rw [fill_put (off := 0) (size := 1) rfl (by rw [cv]; rfl) (by simp)]
     simp [cv, Instr.fill]
   · simp at hsz
 · have hb : (w.alloc (.cells #[v] 50)).heap[w.heap.size]? = some (.cells #[v] 50 (0, 0)) := heap_alloc_new _ _
   have hbl : Below w.heap.size w (w.alloc (.cells #[v] 50)) := (Below.refl _ w).alloc (Nat.le_refl _) _
   refine h _ ⟨⟨_, 1, rfl, Nat.le_refl _, (by unfold maxLen; simp), .inr ⟨w.heap.size, 0, rfl, by simp, fun i hi => ?_⟩⟩, fun e he => ?_⟩ hbl
   · rw [Nat.zero_add, cell_of_row _ _ _ _ _ _ hb]
     match i, hi with
     | 0, _ => rfl
   · rw [List.mem_singleton] at he
     subst he
     exact hl.called hbl
end
end Go.Proofs.YtgicanpggndbeaaGreat
/- Changes of a view; steps as plain data; the statements' does. -/
namespace Go.Proofs.YtgicanpggndbeaaGreat
set_option linter.unusedVariables false
set_option maxRecDepth 100000
open Go.RowKit

theorem plains_look {C : List Ch} (x : Int) : look Ch.n (C.map Ch.plain) x = (look Ch.n C x).map Ch.plain := by
 induction C with
 | nil => rfl
 | cons a r ih =>
  simp only [List.map_cons, look]
  rw [Ch.plain_n, ih]
  by_cases e : a.n = x <;> simp [e]
theorem plains_asc {C : List Ch} (h : Asc Ch.n C) : Asc Ch.n (C.map Ch.plain) := by
 unfold Asc at h ⊢
 rw [List.pairwise_map]
 exact h.imp fun {a b} q => by rw [Ch.plain_n, Ch.plain_n]; exact q
theorem vals_join {n : Nat} {C ss d : List Ch} (hC : Asc Ch.n C) (hs : ValL n C ss) (hd : JoinIs ss d) : d = C.map Ch.plain := by
 refine asc_ext Ch.n hd.1 (plains_asc hC) fun x => ?_
 rw [hd.2, plains_look]
 by_cases hx : ∃ K : Kz, K.n = x
 · obtain ⟨K, rfl⟩ := hx
   rw [hs.2 K]
 · have e1 : look Ch.n C x = none := (look_none Ch.n).2 fun c hc e => hx ⟨c.kz, e⟩
   have e2 : lastA Ch.n ss x = none := by
    cases q : lastA Ch.n ss x with
    | none => rfl
    | some y => exact absurd (lastA_key Ch.n q).2 (fun e => hx ⟨y.kz, e⟩)
   rw [e1, e2]
set_option maxHeartbeats 4000000 in
theorem vchanges_calls (w : World) (p : Nat) (iv : Value) (x : VR) (V : VS) (h : VwIn w p iv x V) (hn : x.n ≤ 5000) :
    Calls Tryz.prog 24 #[.pointer (some ⟨p, 0, none⟩)] w fun e w' => ∃ ad cap, e = .returned (.slice ad V.C.length cap) ∧ Own encC 64 w' w.heap.size (.slice ad V.C.length cap) (V.C.map Ch.plain) ∧ Below w.heap.size w w' := by
 have hcl := h.cell.2.1
 have HC : Hid (MapA encC Ch.n w x.c x.n V.C) := h.mapC
 have hK := keysW_calls (some x.c) w
 have HN : Hid (x.n ≤ 5000) := hn
 generalize V.C = C at *
 clear h hn
 go_enter Tryz.func24, Tryz.ntmps24
 go_wp2_with (first
  | (go_at_call 52; refine hJ.mono ?_; clear hJ; rintro e w4 ⟨v4, d, rfl, o4, i4, l4, b4⟩
     obtain ⟨ad4, cap4, rfl, -, -, -, -⟩ := id o4.slB)
  | (refine build_one1 rfl _ rfl v2 rfl ss o2.slB ?_; intro w3 hs3 b3
     have hJ := join_calls w3 _ [(v2, ss)] hs3 (show 1 ≤ 1000 by omega) (by simp; have := HS2.out.1; have := HN.out; omega)
     have HB3 : Hid (Below w.heap.size w w3) := (b1.trans (b2.mono b1.size)).trans (b3.mono (Nat.le_trans b1.size b2.size))
     clear hs3 b3 b1 b2)
  | (go_at_call 53; refine hC.mono ?_; clear hC; rintro e w2 ⟨v2, ss, rfl, hs2, o2, b2⟩
     have HS2 : Hid (ValL x.n C ss) := hs2
     clear hs2)
  | (go_at_call 54; refine hK.mono ?_; clear hK; rintro e w1 ⟨rfl, hw1⟩
     have b1 : Below w.heap.size w w1 := by rw [hw1]; exact (Below.refl _ w).alloc (Nat.le_refl _) _
     have hm1 : w1.cell? ⟨w.heap.size, 0, none⟩ = some (.map (some x.c)) := by rw [hw1, cell_of_row _ _ _ _ _ _ (heap_alloc_new _ _)]; rfl
     have hlt : w.heap.size < w1.heap.size := by rw [hw1]; simp
     have hG := keysW_gives 0 w.heap.size x.c x.n C w1 hlt hm1 (HC.out.below b1 (Nat.le_refl _))
     have hC := collect_inW 1 96 _ (enters_of Tryz.func96 (by kernel_rfl) rfl) _ x.n (by have := HN.out; omega) w1 hG (Nat.le_refl _)
     clear hG hm1 hlt hw1))
 go_ret
 have e1 : ([(v2, ss)] : List (Value × List Ch)).flatMap (·.2) = ss := by simp
 rw [e1] at i4
 have hd := vals_join HC.out.asc HS2.out i4
 have hl : d.length = C.length := by rw [hd, List.length_map]
 rw [hl] at o4 ⊢
 rw [hd] at o4
 exact ⟨_, _, rfl, o4.lower HB3.out.size, HB3.out.trans (b4.mono HB3.out.size)⟩

/-! Steps. -/
/-- A step. -/
structure Vo where
 kind : Int
 num : Int
 k : List UInt8
 h : k.length = 24
 s : List UInt8
 sp : Sp
section
variable {w : World} {g off : Nat} {o : Vo}
end
/-- What several calls leave. -/
structure VRan (S : Nat → Prop) (w0 : World) (lim : Nat) (I : Nat → World → Prop) (k : Nat) (iv : Value) (q : Nat) (x : VR) (nb : Nat) (V : VS) (y : World) (x' : VR) (y' : World) : Prop where
 at_ : VAt w0 lim I k iv q x' V y'
 fr : FrV (fun i => x.own q i ∨ S i) y y'
 own : ∀ i, x'.own q i → x.own q i ∨ y.heap.size ≤ i
 n : x'.n ≤ nb
section
variable {lim : Nat} {S : Nat → Prop} {I : Nat → World → Prop} {iv : Value} {ge : Kz → List UInt8 × Bool × Int} {sn : Sp → List Pa × Int} {w0 y y' y'' : World} {k k' k'' q nb nb' : Nat} {x x' x'' : VR} {V V' : VS}
theorem VTo.ran (t : VTo S w0 lim I k iv q x V y x' y') (hn : x.n + 4 ≤ nb) : VRan S w0 lim I k iv q x nb V y x' y' := ⟨t.at_, t.fr, t.own, Nat.le_trans t.n hn⟩
theorem VRan.called (D : Baser lim S I iv ge sn) (a : VRan S w0 lim I k iv q x nb V y x' y') (b : Below y'.heap.size y' y'') : VRan S w0 lim I k iv q x nb V y x' y'' :=
 ⟨a.at_.called D b, a.fr.trans (FrV.of_below (S := fun i => x.own q i ∨ S i) b) (fun i e => .inl e), a.own, a.n⟩
end
end Go.Proofs.YtgicanpggndbeaaGreat
/- dir: Put and Drop over a view. -/
namespace Go.Proofs.YtgicanpggndbeaaGreat
set_option linter.unusedVariables false
set_option maxRecDepth 100000
open Go.RowKit

section
variable {lim : Nat} {I : Nat → World → Prop} {iv : Value} {ge : Kz → List UInt8 × Bool × Int} {sn : Sp → List Pa × Int} {w0 y y1 y2 : World} {k q nb b : Nat} {x x' : VR} {V V' : VS}
/-- A step on a view, and then a box stored over that was made ahead of it. -/
theorem VRan.boxed {k' : Nat} (D : Baser lim noB I iv ge sn) (A : VAt w0 lim I k iv q x V y) (b1 : Below y.heap.size y y1) (t : VRan noB w0 lim I k' iv q x nb V' y1 x' y2) (hb : y.heap.size ≤ b) (hb1 : b < y1.heap.size) (u : Value) : VRan noB w0 lim I k' iv q x nb V' y x' (y2.setCell ⟨b, 0, none⟩ u) := by
 have hno : ¬ x'.own q b := fun e => by
  rcases t.own b e with e | e
  · have := A.vw.lt e
    omega
  · omega
 have f : FrV (fun i => i = b) y2 (y2.setCell ⟨b, 0, none⟩ u) := ⟨⟨rfl, rfl, rfl, by simp, fun k hk => absurd hk (Nat.not_lt_zero k)⟩, fun i _ hn => heap_setCell_other _ _ _ _ hn⟩
 have hlim : lim ≤ b := Nat.le_trans A.limy hb
 refine ⟨⟨t.at_.vw.kept fun i hi => heap_setCell_other _ _ _ _ (fun e => hno (by have e' : i = b := e; rw [← e']; exact hi)), D.mono _ _ _ t.at_.base (f.below (fun i e => by cases e; exact hlim) t.at_.limy), t.at_.own, t.at_.bel.trans (f.below (fun i e => by cases e; exact Nat.le_trans A.le hlim) (Nat.le_trans t.at_.le t.at_.limy)), t.at_.le, Nat.le_trans t.at_.limy f.size⟩, ?_, fun i hi => (t.own i hi).imp id (fun e => Nat.le_trans b1.size e), t.n⟩
 exact ((FrV.of_below (S := fun i => x.own q i ∨ noB i) b1).trans t.fr (fun i e => .inl e)).trans f (fun i e => by cases e; exact .inr hb)
/-- What was made ahead of a step on a view, and is not its own, stands. -/
theorem VRan.kept {k' : Nat} (t : VRan noB w0 lim I k' iv q x nb V' y1 x' y2) (hb : b < y1.heap.size) (hn : ¬ x.own q b) : y2.heap[b]? = y1.heap[b]? := t.fr.block b hb (fun e => e.elim hn (fun e => e))
end
set_option maxHeartbeats 2000000 in
theorem dput1_calls {lim : Nat} {I : Nat → World → Prop} {iv : Value} {ge : Kz → List UInt8 × Bool × Int} {sn : Sp → List Pa × Int} (D : Baser lim noB I iv ge sn) (w0 y : World) (k q : Nat) (x : VR) (V : VS) (A : VAt w0 lim I k iv q x V y) (hn : x.n ≤ 5000) (a b c : Nat) (ch : Ch) (hg : ch.g = false) (hv : okV ch.v = true)
    (ha : y.cell? ⟨a, 0, none⟩ = some (.pointer (some ⟨q, 0, none⟩))) (hb : Has y b ch.k) (hc : y.cell? ⟨c, 0, none⟩ = some (.string (str ch.v))) :
    Calls Tryz.prog 34 #[.pointer (some ⟨a, 0, none⟩), .pointer (some ⟨b, 0, none⟩), .pointer (some ⟨c, 0, none⟩)] y fun e y' => e = .returned (.int .i64 0) ∧ ∃ x', VTo noB w0 lim I k iv q x (V.change ch) y x' y' := by
 have hPu := A.put D (fun i hi => hi.elim) (by omega) ch hg hv
 clear A D
 go_enter Tryz.func34, Tryz.ntmps34
 go_wp2_with (first
  | (refine load_key _ rfl b rfl rfl _ hb ?_)
  | (go_at_call 19; refine hPu.mono ?_; clear hPu; rintro e y2 ⟨rfl, x', T⟩))
 go_ret
 exact ⟨rfl, x', T⟩
set_option maxHeartbeats 2000000 in
theorem ddrop1_calls {lim : Nat} {I : Nat → World → Prop} {iv : Value} {ge : Kz → List UInt8 × Bool × Int} {sn : Sp → List Pa × Int} (D : Baser lim noB I iv ge sn) (w0 y : World) (k q : Nat) (x : VR) (V : VS) (A : VAt w0 lim I k iv q x V y) (hn : x.n ≤ 5000) (a b : Nat) (K : Kz)
    (ha : y.cell? ⟨a, 0, none⟩ = some (.pointer (some ⟨q, 0, none⟩))) (hb : Has y b K.k) :
    Calls Tryz.prog 37 #[.pointer (some ⟨a, 0, none⟩), .pointer (some ⟨b, 0, none⟩)] y fun e y' => e = .returned (.int .i64 0) ∧ ∃ x', VTo noB w0 lim I k iv q x (V.change (goneC K)) y x' y' := by
 have hPu := A.delete D (fun i hi => hi.elim) (by omega) K
 clear A D
 go_enter Tryz.func37, Tryz.ntmps37
 go_wp2_with (first
  | (refine load_key _ rfl b rfl rfl _ hb ?_)
  | (go_at_call 38; refine hPu.mono ?_; clear hPu; rintro e y2 ⟨rfl, x', T⟩))
 go_ret
 exact ⟨rfl, x', T⟩
end Go.Proofs.YtgicanpggndbeaaGreat
/- dir: Put and Drop. -/
namespace Go.Proofs.YtgicanpggndbeaaGreat
set_option linter.unusedVariables false
set_option maxRecDepth 100000
open Go.RowKit

/-- The change that a put of an entry makes. -/
def enC (n : Int) (s : List UInt8) (ino : Int) : Ch := ⟨entryR n s, entryR_length n s, numT ino, false⟩
theorem numT_ok {ino : Int} (h : okNum ino = true) : okV (numT ino) = true := by
 unfold numT okV
 rw [if_pos h, be_length]
 rfl
set_option maxHeartbeats 4000000 in
theorem dput_ok {lim : Nat} {I : Nat → World → Prop} {iv : Value} {ge : Kz → List UInt8 × Bool × Int} {sn : Sp → List Pa × Int} (D : Baser lim noB I iv ge sn) (w0 y : World) (k q : Nat) (x : VR) (V : VS) (A : VAt w0 lim I k iv q x V y) (hn : x.n ≤ 5000) (n : Int) (s : List UInt8) (ino : Int) (h1 : okE n s = true) (h2 : okNum ino = true) :
    Calls Tryz.prog 10 #[.pointer (some ⟨q, 0, none⟩), .int .i64 n, .string (str s), .int .i64 ino] y fun e y' => e = .returned (.int .i64 0) ∧ ∃ x', VRan noB w0 lim I k iv q x (x.n + 4) (V.change (enC n s ino)) y x' y' := by
 have hE := fun w => dentry_calls n s w
 have hN := fun w => inumber_calls w ino
 rw [h1] at hE
 rw [h2] at hN
 have HD : Hid (Baser lim noB I iv ge sn) := D
 have HA : Hid (VAt w0 lim I k iv q x V y ∧ x.n ≤ 5000 ∧ okV (numT ino) = true) := ⟨A, hn, numT_ok h2⟩
 clear A D hn h1 h2
 go_enter Tryz.func10, Tryz.ntmps10
 go_upto_region 1 with fail
 have hbv : (y.alloc (.cells #[.pointer (some ⟨q, 0, none⟩)] 24)).cell? ⟨y.heap.size, 0, none⟩ = some (.pointer (some ⟨q, 0, none⟩)) := by rw [cell_of_row _ _ _ _ _ _ (heap_alloc_new _ _)]; rfl
 have hb0 : Below y.heap.size y (y.alloc (.cells #[.pointer (some ⟨q, 0, none⟩)] 24)) := (Below.refl _ y).alloc (Nat.le_refl _) _
 have hz0 : (y.alloc (.cells #[.pointer (some ⟨q, 0, none⟩)] 24)).heap.size = y.heap.size + 1 := by simp
 generalize y.alloc (.cells #[.pointer (some ⟨q, 0, none⟩)] 24) = y1 at *
 go_upto_region 2 with (first
  | (go_at_call 31; refine (hE _).mono ?_; rintro e w1 ⟨rfl, b1⟩)
  | (refine store_key rfl _ _ rfl _ rfl _ rfl (entryR_length n s) (zs 24) (zero_has w1 w1.heap.size rfl) ?_; intro w2 h2 t2 s2))
 have s2' : w2.heap.size = w1.heap.size + 1 := by rw [s2]; simp
 have B12 : Below y1.heap.size y1 w2 := b1.trans ((((Below.refl _ w1).alloc (Nat.le_refl _) _).trans (t2.below (by simp) (Nat.le_refl _) (by simp))).mono b1.size)
 have HW : Hid (Below y.heap.size y w2 ∧ w2.cell? ⟨y.heap.size, 0, none⟩ = some (.pointer (some ⟨q, 0, none⟩)) ∧ Has w2 w1.heap.size (entryR n s) ∧ y.heap.size < w1.heap.size ∧ w1.heap.size < w2.heap.size) := ⟨hb0.trans (B12.mono hb0.size), (World.cell?_of_block (B12.block y.heap.size (by omega))).trans hbv, h2, by have := b1.size; omega, by omega⟩
 clear hbv hb0 hz0 b1 h2 t2 s2 s2' B12
 go_upto_region 3 with (go_at_call 32; refine (hN _).mono ?_; rintro e w3 ⟨rfl, b3⟩)
 have HW4 : Hid (Below y.heap.size y (w3.alloc (.cells #[.string (str (numT ino))] 9)) ∧ (w3.alloc (.cells #[.string (str (numT ino))] 9)).cell? ⟨y.heap.size, 0, none⟩ = some (.pointer (some ⟨q, 0, none⟩)) ∧ Has (w3.alloc (.cells #[.string (str (numT ino))] 9)) w1.heap.size (entryR n s) ∧ (w3.alloc (.cells #[.string (str (numT ino))] 9)).cell? ⟨w3.heap.size, 0, none⟩ = some (.string (str (numT ino)))) := by
  have b4 : Below w2.heap.size w2 (w3.alloc (.cells #[.string (str (numT ino))] 9)) := b3.trans (((Below.refl _ w3).alloc (Nat.le_refl _) _).mono b3.size)
  refine ⟨HW.out.1.trans (b4.mono HW.out.1.size), (World.cell?_of_block (b4.block y.heap.size (Nat.lt_trans HW.out.2.2.2.1 HW.out.2.2.2.2))).trans HW.out.2.1, HW.out.2.2.1.below b4 HW.out.2.2.2.2, ?_⟩
  rw [cell_of_row _ _ _ _ _ _ (heap_alloc_new _ _)]
  rfl
 generalize w3.alloc (.cells #[.string (str (numT ino))] 9) = w4 at *
 clear b3 HW
 have HB5 : Hid (Below y.heap.size y (w4.alloc (.cells #[.int .i64 0] 32)) ∧ y.heap.size ≤ w4.heap.size ∧ w4.heap.size < (w4.alloc (.cells #[.int .i64 0] 32)).heap.size) := ⟨HW4.out.1.trans (((Below.refl _ w4).alloc (Nat.le_refl _) _).mono HW4.out.1.size), HW4.out.1.size, by simp⟩
 have h5 := dput1_calls HD.out w0 (w4.alloc (.cells #[.int .i64 0] 32)) k q x V (HA.out.1.called HD.out HB5.out.1) HA.out.2.1 y.heap.size w1.heap.size w3.heap.size (enC n s ino) rfl HA.out.2.2 ((World.cell?_alloc_some _ _ _ (by rw [HW4.out.2.1]; rfl)).trans HW4.out.2.1) (HW4.out.2.2.1.alloc _) ((World.cell?_alloc_some _ _ _ (by rw [HW4.out.2.2.2]; rfl)).trans HW4.out.2.2.2)
 have hCa := caughtPut_calls w4 ⟨y.heap.size, 0, none⟩ ⟨w1.heap.size, 0, none⟩ ⟨w3.heap.size, 0, none⟩ (fun r1 z => r1 = 0 ∧ ∃ x', VRan noB w0 lim I k iv q x (x.n + 4) (V.change (enC n s ino)) (w4.alloc (.cells #[.int .i64 0] 32)) x' z) (h5.mono fun e z r => by
  obtain ⟨r1, x', T⟩ := r
  exact ⟨0, r1, (T.ran (Nat.le_refl _)).kept HB5.out.2.2 (fun e => by have := HA.out.1.vw.lt e; have := HB5.out.2.1; omega) |>.trans (heap_alloc_new _ _), rfl, x', T.ran (Nat.le_refl _)⟩)
 have hmf : ∀ (fn : Fn) (first cap : Array Value) (w : World), (Instr.makeFunc fn first cap).run Tryz.prog w = .ok (.func fn first cap) w := fun _ _ _ _ => rfl
 clear h5
 go_wp2_with (go_at_call 33; refine hCa.mono ?_; clear hCa; rintro e z ⟨n1, z1, rfl, ⟨rfl, x', T⟩, rfl⟩)
 go_ret
 exact ⟨rfl, x', VRan.boxed HD.out HA.out.1 HB5.out.1 T HB5.out.2.1 HB5.out.2.2 _⟩
set_option maxHeartbeats 4000000 in
theorem dput_bad (y : World) (q : Nat) (n : Int) (s : List UInt8) (ino : Int) (h1 : (okE n s && okNum ino) = false) :
    Calls Tryz.prog 10 #[.pointer (some ⟨q, 0, none⟩), .int .i64 n, .string (str s), .int .i64 ino] y fun e y' => e = .returned (.int .i64 1) ∧ Below y.heap.size y y' := by
 have hE := fun w => dentry_calls n s w
 have hN := fun w => inumber_calls w ino
 generalize okE n s = b1 at *
 generalize okNum ino = b2 at *
 generalize numT ino = NT at *
 have HB : Hid ((b1 && b2) = false) := h1
 go_enter Tryz.func10, Tryz.ntmps10
 go_upto_region 1 with fail
 have hbv : (y.alloc (.cells #[.pointer (some ⟨q, 0, none⟩)] 24)).cell? ⟨y.heap.size, 0, none⟩ = some (.pointer (some ⟨q, 0, none⟩)) := by rw [cell_of_row _ _ _ _ _ _ (heap_alloc_new _ _)]; rfl
 have hb0 : Below y.heap.size y (y.alloc (.cells #[.pointer (some ⟨q, 0, none⟩)] 24)) := (Below.refl _ y).alloc (Nat.le_refl _) _
 have hz0 : (y.alloc (.cells #[.pointer (some ⟨q, 0, none⟩)] 24)).heap.size = y.heap.size + 1 := by simp
 generalize y.alloc (.cells #[.pointer (some ⟨q, 0, none⟩)] 24) = y1 at *
 go_upto_region 2 with (first
  | (go_at_call 31; refine (hE _).mono ?_; rintro e w1 ⟨rfl, b1⟩)
  | (refine store_key rfl _ _ rfl _ rfl _ rfl (entryR_length n s) (zs 24) (zero_has w1 w1.heap.size rfl) ?_; intro w2 h2 t2 s2))
 have s2' : w2.heap.size = w1.heap.size + 1 := by rw [s2]; simp
 have B12 : Below y1.heap.size y1 w2 := b1.trans ((((Below.refl _ w1).alloc (Nat.le_refl _) _).trans (t2.below (by simp) (Nat.le_refl _) (by simp))).mono b1.size)
 have HW : Hid (Below y.heap.size y w2 ∧ w2.cell? ⟨y.heap.size, 0, none⟩ = some (.pointer (some ⟨q, 0, none⟩)) ∧ Has w2 w1.heap.size (entryR n s) ∧ y.heap.size < w1.heap.size ∧ w1.heap.size < w2.heap.size) := ⟨hb0.trans (B12.mono hb0.size), (World.cell?_of_block (B12.block y.heap.size (by omega))).trans hbv, h2, by have := b1.size; omega, by omega⟩
 clear hbv hb0 hz0 b1 h2 t2 s2 s2' B12
 go_upto_region 3 with (go_at_call 32; refine (hN _).mono ?_; rintro e w3 ⟨rfl, b3⟩)
 have HW4 : Hid (Below y.heap.size y (w3.alloc (.cells #[.string (str NT)] 9))) := by
  have b4 : Below w2.heap.size w2 (w3.alloc (.cells #[.string (str NT)] 9)) := b3.trans (((Below.refl _ w3).alloc (Nat.le_refl _) _).mono b3.size)
  exact HW.out.1.trans (b4.mono HW.out.1.size)
 generalize w3.alloc (.cells #[.string (str NT)] 9) = w4 at *
 clear b3 HW hE hN h1
 cases hb1 : b1 with
 | false =>
  go_wp2_with fail
  go_ret
  exact ⟨rfl, HW4.out⟩
 | true =>
  have hb2 : b2 = false := by have := HB.out; rw [hb1] at this; exact this
  rw [hb2]
  go_wp2_with fail
  go_ret
  exact ⟨rfl, HW4.out⟩
set_option maxHeartbeats 4000000 in
theorem ddrop_ok {lim : Nat} {I : Nat → World → Prop} {iv : Value} {ge : Kz → List UInt8 × Bool × Int} {sn : Sp → List Pa × Int} (D : Baser lim noB I iv ge sn) (w0 y : World) (k q : Nat) (x : VR) (V : VS) (A : VAt w0 lim I k iv q x V y) (hn : x.n ≤ 5000) (n : Int) (s : List UInt8) (h1 : okE n s = true) :
    Calls Tryz.prog 12 #[.pointer (some ⟨q, 0, none⟩), .int .i64 n, .string (str s)] y fun e y' => e = .returned (.int .i64 0) ∧ ∃ x', VRan noB w0 lim I k iv q x (x.n + 4) (V.change (goneC (ekz n s))) y x' y' := by
 have hE := fun w => dentry_calls n s w
 rw [h1] at hE
 have HD : Hid (Baser lim noB I iv ge sn) := D
 have HA : Hid (VAt w0 lim I k iv q x V y ∧ x.n ≤ 5000) := ⟨A, hn⟩
 clear A D hn h1
 go_enter Tryz.func12, Tryz.ntmps12
 go_upto_region 1 with fail
 have hbv : (y.alloc (.cells #[.pointer (some ⟨q, 0, none⟩)] 24)).cell? ⟨y.heap.size, 0, none⟩ = some (.pointer (some ⟨q, 0, none⟩)) := by rw [cell_of_row _ _ _ _ _ _ (heap_alloc_new _ _)]; rfl
 have hb0 : Below y.heap.size y (y.alloc (.cells #[.pointer (some ⟨q, 0, none⟩)] 24)) := (Below.refl _ y).alloc (Nat.le_refl _) _
 have hz0 : (y.alloc (.cells #[.pointer (some ⟨q, 0, none⟩)] 24)).heap.size = y.heap.size + 1 := by simp
 generalize y.alloc (.cells #[.pointer (some ⟨q, 0, none⟩)] 24) = y1 at *
 go_upto_region 2 with (first
  | (go_at_call 31; refine (hE _).mono ?_; rintro e w1 ⟨rfl, b1⟩)
  | (refine store_key rfl _ _ rfl _ rfl _ rfl (entryR_length n s) (zs 24) (zero_has w1 w1.heap.size rfl) ?_; intro w2 h2 t2 s2))
 have s2' : w2.heap.size = w1.heap.size + 1 := by rw [s2]; simp
 have B12 : Below y1.heap.size y1 w2 := b1.trans ((((Below.refl _ w1).alloc (Nat.le_refl _) _).trans (t2.below (by simp) (Nat.le_refl _) (by simp))).mono b1.size)
 have HW : Hid (Below y.heap.size y w2 ∧ w2.cell? ⟨y.heap.size, 0, none⟩ = some (.pointer (some ⟨q, 0, none⟩)) ∧ Has w2 w1.heap.size (entryR n s) ∧ y.heap.size < w1.heap.size ∧ w1.heap.size < w2.heap.size) := ⟨hb0.trans (B12.mono hb0.size), (World.cell?_of_block (B12.block y.heap.size (by omega))).trans hbv, h2, by have := b1.size; omega, by omega⟩
 clear hbv hb0 hz0 b1 h2 t2 s2 s2' B12
 have HW4 : Hid (Below y.heap.size y w2 ∧ w2.cell? ⟨y.heap.size, 0, none⟩ = some (.pointer (some ⟨q, 0, none⟩)) ∧ Has w2 w1.heap.size (entryR n s)) := ⟨HW.out.1, HW.out.2.1, HW.out.2.2.1⟩
 clear HW
 generalize w2 = w4 at *
 have HB5 : Hid (Below y.heap.size y (w4.alloc (.cells #[.int .i64 0] 32)) ∧ y.heap.size ≤ w4.heap.size ∧ w4.heap.size < (w4.alloc (.cells #[.int .i64 0] 32)).heap.size) := ⟨HW4.out.1.trans (((Below.refl _ w4).alloc (Nat.le_refl _) _).mono HW4.out.1.size), HW4.out.1.size, by simp⟩
 have h5 := ddrop1_calls HD.out w0 (w4.alloc (.cells #[.int .i64 0] 32)) k q x V (HA.out.1.called HD.out HB5.out.1) HA.out.2 y.heap.size w1.heap.size (ekz n s) ((World.cell?_alloc_some _ _ _ (by rw [HW4.out.2.1]; rfl)).trans HW4.out.2.1) (HW4.out.2.2.alloc _)
 have hCa := caughtDrop_calls w4 ⟨y.heap.size, 0, none⟩ ⟨w1.heap.size, 0, none⟩ (fun r1 z => r1 = 0 ∧ ∃ x', VRan noB w0 lim I k iv q x (x.n + 4) (V.change (goneC (ekz n s))) (w4.alloc (.cells #[.int .i64 0] 32)) x' z) (h5.mono fun e z r => by
  obtain ⟨r1, x', T⟩ := r
  exact ⟨0, r1, (T.ran (Nat.le_refl _)).kept HB5.out.2.2 (fun e => by have := HA.out.1.vw.lt e; have := HB5.out.2.1; omega) |>.trans (heap_alloc_new _ _), rfl, x', T.ran (Nat.le_refl _)⟩)
 have hmf : ∀ (fn : Fn) (first cap : Array Value) (w : World), (Instr.makeFunc fn first cap).run Tryz.prog w = .ok (.func fn first cap) w := fun _ _ _ _ => rfl
 clear h5
 go_wp2_with (go_at_call 33; refine hCa.mono ?_; clear hCa; rintro e z ⟨n1, z1, rfl, ⟨rfl, x', T⟩, rfl⟩)
 go_ret
 exact ⟨rfl, x', VRan.boxed HD.out HA.out.1 HB5.out.1 T HB5.out.2.1 HB5.out.2.2 _⟩
set_option maxHeartbeats 4000000 in
theorem ddrop_bad (y : World) (q : Nat) (n : Int) (s : List UInt8) (h1 : okE n s = false) :
    Calls Tryz.prog 12 #[.pointer (some ⟨q, 0, none⟩), .int .i64 n, .string (str s)] y fun e y' => e = .returned (.int .i64 1) ∧ Below y.heap.size y y' := by
 have hE := fun w => dentry_calls n s w
 rw [h1] at hE
 go_enter Tryz.func12, Tryz.ntmps12
 go_upto_region 1 with fail
 have hbv : (y.alloc (.cells #[.pointer (some ⟨q, 0, none⟩)] 24)).cell? ⟨y.heap.size, 0, none⟩ = some (.pointer (some ⟨q, 0, none⟩)) := by rw [cell_of_row _ _ _ _ _ _ (heap_alloc_new _ _)]; rfl
 have hb0 : Below y.heap.size y (y.alloc (.cells #[.pointer (some ⟨q, 0, none⟩)] 24)) := (Below.refl _ y).alloc (Nat.le_refl _) _
 have hz0 : (y.alloc (.cells #[.pointer (some ⟨q, 0, none⟩)] 24)).heap.size = y.heap.size + 1 := by simp
 generalize y.alloc (.cells #[.pointer (some ⟨q, 0, none⟩)] 24) = y1 at *
 go_upto_region 2 with (first
  | (go_at_call 31; refine (hE _).mono ?_; rintro e w1 ⟨rfl, b1⟩)
  | (refine store_key rfl _ _ rfl _ rfl _ rfl (entryR_length n s) (zs 24) (zero_has w1 w1.heap.size rfl) ?_; intro w2 h2 t2 s2))
 have s2' : w2.heap.size = w1.heap.size + 1 := by rw [s2]; simp
 have B12 : Below y1.heap.size y1 w2 := b1.trans ((((Below.refl _ w1).alloc (Nat.le_refl _) _).trans (t2.below (by simp) (Nat.le_refl _) (by simp))).mono b1.size)
 have HW : Hid (Below y.heap.size y w2 ∧ w2.cell? ⟨y.heap.size, 0, none⟩ = some (.pointer (some ⟨q, 0, none⟩)) ∧ Has w2 w1.heap.size (entryR n s) ∧ y.heap.size < w1.heap.size ∧ w1.heap.size < w2.heap.size) := ⟨hb0.trans (B12.mono hb0.size), (World.cell?_of_block (B12.block y.heap.size (by omega))).trans hbv, h2, by have := b1.size; omega, by omega⟩
 clear hbv hb0 hz0 b1 h2 t2 s2 s2' B12
 go_wp2_with fail
 go_ret
 exact ⟨rfl, HW.out.1⟩
end Go.Proofs.YtgicanpggndbeaaGreat
