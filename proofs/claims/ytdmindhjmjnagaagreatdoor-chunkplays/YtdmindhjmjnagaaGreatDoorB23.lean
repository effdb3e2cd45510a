import Derived.Test.YtdmindhjmjnagaaGreatDoorB14
import Derived.Test.YtdmindhjmjnagaaGreatDoorB22
import Derived.Test.YtdmindhjmjnagaaGreatDoorB06
import Derived.Test.YtdmindhjmjnagaaGreatDoorB09
import Derived.Test.YtdmindhjmjnagaaGreatDoorB04
import Derived.WalkKit
/- BuC Vops DvB DvC DvD DvE DvF Vov0 KeyN DvG DvH KeyO DvM RfM DvK InS InT -/
namespace Go.Proofs.YtdmindhjmjnagaaGreatDoor
set_option linter.unusedVariables false
set_option maxRecDepth 1000000
set_option maxHeartbeats 32000000
section
open Go.RowKit
theorem infoV : ∃ i z, Tryz.prog.info? 39 = some i ∧ i.zero = some z ∧ i.size = 1 ∧ z.cells.size = 1 := by
 have h : (Tryz.prog.info? 39).map (fun i => (i.zero, i.size)) = some (some (.slice none 0 0), 1) := by kernel_rfl
 cases hi : Tryz.prog.info? 39 with
 | none => rw [hi] at h; cases h
 | some i =>
  rw [hi] at h
  simp only [Option.map_some, Option.some.injEq, Prod.mk.injEq] at h
  exact ⟨i, _, rfl, h.1, h.2, rfl⟩
theorem cells_sl {α : Type} {k : Nat} {E : Enc α k} {w : World} {B : Nat} {v : Value} {l : List α} (h : SlB E w B v l) : v.cells = #[v] := by
 obtain ⟨ad, cap, rfl, _⟩ := h
 rfl
section
variable {ops : Array Oper} {rest : List Oper} {o : Oper} {a : Act} {w : World} {Q : Exit → Act → World → Prop}
theorem build_one1 (hg : o.guard = none) (x : Operand) (ho : o.op = .buildSlice 43 1 #[(0, x)]) (v : Value) (hx : a.eval x = v) (l : List Ch) (hl : Sl encC w v l)
    (h : ∀ w', SlS w' w'.heap.size (.slice (some ⟨w.heap.size, 0, none⟩) 1 1) [(v, l)] → Below w.heap.size w w' → wpList Tryz.prog ops Q rest (a.put o.dst (.slice (some ⟨w.heap.size, 0, none⟩) 1 1)) w') : wpList Tryz.prog ops Q (o :: rest) a w := by
 obtain ⟨i, z, hi, hz, hs, hzc⟩ := infoV
 have cv := cells_sl hl
 refine wpList_plain hg fun K hK => wp_buildSlice 43 39 1 _ ho #[v] i z Tryz.underlying43 hi hz (by rw [hs]; omega) (by rw [hs]; omega) ?_ (hK _ _ ?_)
 · rw [hs]
   obtain ⟨C, hC⟩ : ∃ C : Array Value, C = (Array.range (1 * 1)).map (z.cells[· % z.cells.size]!) := ⟨_, rfl⟩
   have hsz : C.size = 1 := by rw [hC]; simp
   rw [← hC]
   obtain ⟨cs⟩ := C
   rcases cs with _ | ⟨c0, _ | ⟨c1, cs⟩⟩
   · simp at hsz
   · simp only [List.map_toArray, List.map_cons, List.map_nil, hx]
     rw [fill_put (off := 0) (size := 1) rfl (by rw [cv]; rfl) (by simp)]
     simp [cv, Instr.fill]
   · simp at hsz
 · have hb : (w.alloc (.cells #[v] 39)).heap[w.heap.size]? = some (.cells #[v] 39 (0, 0)) := heap_alloc_new _ _
   have hbl : Below w.heap.size w (w.alloc (.cells #[v] 39)) := (Below.refl _ w).alloc (Nat.le_refl _) _
   refine h _ ⟨⟨_, 1, rfl, Nat.le_refl _, (by unfold maxLen; simp), .inr ⟨w.heap.size, 0, rfl, by simp, fun i hi => ?_⟩⟩, fun e he => ?_⟩ hbl
   · rw [Nat.zero_add, cell_of_row _ _ _ _ _ _ hb]
     match i, hi with
     | 0, _ => rfl
   · rw [List.mem_singleton] at he
     subst he
     exact hl.called hbl
end
end
section
open Go.RowKit
theorem plains_look {C : List Ch} (x : Int) : look Ch.n (C.map Ch.plain) x = (look Ch.n C x).map Ch.plain := by
 induction C with
 | nil => rfl
 | cons a r ih =>
  simp only [List.map_cons, look]
  rw [Ch.plain_n, ih]
  by_cases e : a.n = x <;> simp [e]
theorem plains_asc {C : List Ch} (h : Asc Ch.n C) : Asc Ch.n (C.map Ch.plain) := by
 unfold Asc at h ⊢
 rw [List.pairwise_map]
 exact h.imp fun {a b} q => by rw [Ch.plain_n, Ch.plain_n]; exact q
theorem vals_join {n : Nat} {C ss d : List Ch} (hC : Asc Ch.n C) (hs : ValL n C ss) (hd : JoinIs ss d) : d = C.map Ch.plain := by
 refine asc_ext Ch.n hd.1 (plains_asc hC) fun x => ?_
 rw [hd.2, plains_look]
 by_cases hx : ∃ K : Kz, K.n = x
 · obtain ⟨K, rfl⟩ := hx
   rw [hs.2 K]
 · have e1 : look Ch.n C x = none := (look_none Ch.n).2 fun c hc e => hx ⟨c.kz, e⟩
   have e2 : lastA Ch.n ss x = none := by
    cases q : lastA Ch.n ss x with
    | none => rfl
    | some y => exact absurd (lastA_key Ch.n q).2 (fun e => hx ⟨y.kz, e⟩)
   rw [e1, e2]
theorem vchanges_calls (w : World) (p : Nat) (iv : Value) (x : VR) (V : VS) (h : VwIn w p iv x V) (hn : x.n ≤ 5000) :
    Calls Tryz.prog 19 #[.pointer (some ⟨p, 0, none⟩)] w fun e w' => ∃ ad cap, e = .returned (.slice ad V.C.length cap) ∧ Own encC 95 w' w.heap.size (.slice ad V.C.length cap) (V.C.map Ch.plain) ∧ Below w.heap.size w w' := by
 have hcl := h.cell.2.1
 have HC : Hid (MapA encC Ch.n w x.c x.n V.C) := h.mapC
 have hK := keysW_calls (some x.c) w
 have HN : Hid (x.n ≤ 5000) := hn
 generalize V.C = C at *
 clear h hn
 go_enter Tryz.func19, Tryz.ntmps19
 go_wp2_with (first
  | (go_at_call 47; refine hJ.mono ?_; clear hJ; rintro e w4 ⟨v4, d, rfl, o4, i4, l4, b4⟩
     obtain ⟨ad4, cap4, rfl, -, -, -, -⟩ := id o4.slB)
  | (refine build_one1 rfl _ rfl v2 rfl ss o2.slB ?_; intro w3 hs3 b3
     have hJ := join_calls w3 _ [(v2, ss)] hs3 (show 1 ≤ 1000 by omega) (by simp; have := HS2.out.1; have := HN.out; omega)
     have HB3 : Hid (Below w.heap.size w w3) := (b1.trans (b2.mono b1.size)).trans (b3.mono (Nat.le_trans b1.size b2.size))
     clear hs3 b3 b1 b2)
  | (go_at_call 48; refine hC.mono ?_; clear hC; rintro e w2 ⟨v2, ss, rfl, hs2, o2, b2⟩
     have HS2 : Hid (ValL x.n C ss) := hs2
     clear hs2)
  | (go_at_call 49; refine hK.mono ?_; clear hK; rintro e w1 ⟨rfl, hw1⟩
     have b1 : Below w.heap.size w w1 := by rw [hw1]; exact (Below.refl _ w).alloc (Nat.le_refl _) _
     have hm1 : w1.cell? ⟨w.heap.size, 0, none⟩ = some (.map (some x.c)) := by rw [hw1, cell_of_row _ _ _ _ _ _ (heap_alloc_new _ _)]; rfl
     have hlt : w.heap.size < w1.heap.size := by rw [hw1]; simp
     have hG := keysW_gives 0 w.heap.size x.c x.n C w1 hlt hm1 (HC.out.below b1 (Nat.le_refl _))
     have hC := collect_inW 1 92 _ (enters_of Tryz.func92 (by kernel_rfl) rfl) _ x.n (by have := HN.out; omega) w1 hG (Nat.le_refl _)
     clear hG hm1 hlt hw1))
 go_ret
 have e1 : ([(v2, ss)] : List (Value × List Ch)).flatMap (·.2) = ss := by simp
 rw [e1] at i4
 have hd := vals_join HC.out.asc HS2.out i4
 have hl : d.length = C.length := by rw [hd, List.length_map]
 rw [hl] at o4 ⊢
 rw [hd] at o4
 exact ⟨_, _, rfl, o4.lower HB3.out.size, HB3.out.trans (b4.mono HB3.out.size)⟩
structure Vo where
 kind : Int
 num : Int
 k : List UInt8
 h : k.length = 24
 s : List UInt8
 sp : Sp
section
variable {w : World} {g off : Nat} {o : Vo}
end
structure VRan (S : Nat → Prop) (w0 : World) (lim : Nat) (I : Nat → World → Prop) (k : Nat) (iv : Value) (q : Nat) (x : VR) (nb : Nat) (V : VS) (y : World) (x' : VR) (y' : World) : Prop where
 at_ : VAt w0 lim I k iv q x' V y'
 fr : FrV (fun i => x.own q i ∨ S i) y y'
 own : ∀ i, x'.own q i → x.own q i ∨ y.heap.size ≤ i
 n : x'.n ≤ nb
section
variable {lim : Nat} {S : Nat → Prop} {I : Nat → World → Prop} {iv : Value} {ge : Kz → List UInt8 × Bool × Int} {sn : Sp → List Pa × Int} {w0 y y' y'' : World} {k k' k'' q nb nb' : Nat} {x x' x'' : VR} {V V' : VS}
theorem VAt.ran (h : VAt w0 lim I k iv q x V y) (hn : x.n ≤ nb) : VRan S w0 lim I k iv q x nb V y x y := ⟨h, FrV.refl _ _, fun i hi => .inl hi, hn⟩
theorem VTo.ran (t : VTo S w0 lim I k iv q x V y x' y') (hn : x.n + 4 ≤ nb) : VRan S w0 lim I k iv q x nb V y x' y' := ⟨t.at_, t.fr, t.own, Nat.le_trans t.n hn⟩
theorem VRan.trans (a : VRan S w0 lim I k iv q x nb V y x' y') (b : VRan S w0 lim I k' iv q x' nb' V' y' x'' y'') : VRan S w0 lim I k' iv q x nb' V' y x'' y'' :=
 ⟨b.at_, a.fr.trans b.fr (fun i e => e.elim (fun q => (a.own i q).imp .inl id) (fun q => .inl (.inr q))), fun i hi => (b.own i hi).elim (a.own i) (fun q => .inr (Nat.le_trans a.fr.size q)), b.n⟩
theorem VRan.called (D : Baser lim S I iv ge sn) (a : VRan S w0 lim I k iv q x nb V y x' y') (b : Below y'.heap.size y' y'') : VRan S w0 lim I k iv q x nb V y x' y'' :=
 ⟨a.at_.called D b, a.fr.trans (FrV.of_below (S := fun i => x.own q i ∨ S i) b) (fun i e => .inl e), a.own, a.n⟩
end
end
section
open Go.RowKit
section
variable {lim : Nat} {I : Nat → World → Prop} {iv : Value} {ge : Kz → List UInt8 × Bool × Int} {sn : Sp → List Pa × Int} {w0 y y1 y2 : World} {k q nb b : Nat} {x x' : VR} {V V' : VS}
theorem VRan.boxed {k' : Nat} (D : Baser lim noB I iv ge sn) (A : VAt w0 lim I k iv q x V y) (b1 : Below y.heap.size y y1) (t : VRan noB w0 lim I k' iv q x nb V' y1 x' y2) (hb : y.heap.size ≤ b) (hb1 : b < y1.heap.size) (u : Value) : VRan noB w0 lim I k' iv q x nb V' y x' (y2.setCell ⟨b, 0, none⟩ u) := by
 have hno : ¬ x'.own q b := fun e => by
  rcases t.own b e with e | e
  · have := A.vw.lt e
    omega
  · omega
 have f : FrV (fun i => i = b) y2 (y2.setCell ⟨b, 0, none⟩ u) := ⟨⟨rfl, rfl, rfl, by simp, fun k hk => absurd hk (Nat.not_lt_zero k)⟩, fun i _ hn => heap_setCell_other _ _ _ _ hn⟩
 have hlim : lim ≤ b := Nat.le_trans A.limy hb
 refine ⟨⟨t.at_.vw.kept fun i hi => heap_setCell_other _ _ _ _ (fun e => hno (by have e' : i = b := e; rw [← e']; exact hi)), D.mono _ _ _ t.at_.base (f.below (fun i e => by cases e; exact hlim) t.at_.limy), t.at_.own, t.at_.bel.trans (f.below (fun i e => by cases e; exact Nat.le_trans A.le hlim) (Nat.le_trans t.at_.le t.at_.limy)), t.at_.le, Nat.le_trans t.at_.limy f.size⟩, ?_, fun i hi => (t.own i hi).imp id (fun e => Nat.le_trans b1.size e), t.n⟩
 exact ((FrV.of_below (S := fun i => x.own q i ∨ noB i) b1).trans t.fr (fun i e => .inl e)).trans f (fun i e => by cases e; exact .inr hb)
theorem VRan.kept {k' : Nat} (t : VRan noB w0 lim I k' iv q x nb V' y1 x' y2) (hb : b < y1.heap.size) (hn : ¬ x.own q b) : y2.heap[b]? = y1.heap[b]? := t.fr.block b hb (fun e => e.elim hn (fun e => e))
end
end
section
open Go.RowKit
end
section
open Go.RowKit
theorem cell1 {w : World} {b : Nat} {v : Value} {ty : TypeId} (h : w.heap[b]? = some (.cells #[v] ty (0, 0))) : w.cell? ⟨b, 0, none⟩ = some v := by rw [cell_of_row _ _ _ _ _ _ h]; rfl
theorem set1 {w : World} {b : Nat} {u : Value} {ty : TypeId} (v : Value) (h : w.heap[b]? = some (.cells #[u] ty (0, 0))) : (w.setCell ⟨b, 0, none⟩ v).heap[b]? = some (.cells #[v] ty (0, 0)) := by
 rw [setCell_eq_setRow w b 0 _ _ _ _ h]
 exact setRow_heap w b _ _ _ _ h
section
variable {lim : Nat} {I : Nat → World → Prop} {iv : Value} {ge : Kz → List UInt8 × Bool × Int} {sn : Sp → List Pa × Int} {w0 y y1 y2 y3 : World} {k q nb : Nat} {x x' : VR} {V V' : VS}
theorem VRan.boxes {k' : Nat} (D : Baser lim noB I iv ge sn) (A : VAt w0 lim I k iv q x V y) (b1 : Below y.heap.size y y1) (t : VRan noB w0 lim I k' iv q x nb V' y1 x' y2) (f : FrV (fun i => y.heap.size ≤ i ∧ i < y1.heap.size) y2 y3) : VRan noB w0 lim I k' iv q x nb V' y x' y3 := by
 have hno : ∀ i, y.heap.size ≤ i ∧ i < y1.heap.size → ¬ x'.own q i := fun i hi e => by
  rcases t.own i e with e | e
  · have := A.vw.lt e
    omega
  · omega
 have hl := A.limy
 refine ⟨⟨t.at_.vw.kept fun i hi => f.block i (t.at_.vw.lt hi) (fun e => hno i e hi), D.mono _ _ _ t.at_.base (f.below (fun i e => by omega) t.at_.limy), t.at_.own, t.at_.bel.trans (f.below (fun i e => Nat.le_trans A.le (Nat.le_trans hl e.1)) (Nat.le_trans t.at_.le t.at_.limy)), t.at_.le, Nat.le_trans t.at_.limy f.size⟩, ?_, fun i hi => (t.own i hi).imp id (fun e => Nat.le_trans b1.size e), t.n⟩
 exact ((FrV.of_below (S := fun i => x.own q i ∨ noB i) b1).trans t.fr (fun i e => .inl e)).trans f (fun i e => .inr e.1)
end
end
section
open Go.RowKit
section
variable {ops : Array Oper} {rest : List Oper} {o : Oper} {a : Act} {w : World} {Q : Exit → Act → World → Prop}
end
end
section
open Go.RowKit
end
section
open Go.RowKit
theorem newPlainO_calls (w : World) (u : Value) (l : List Pa) (h : Sl encP w u l) (hl : l.length ≤ 10000) :
    Calls Tryz.prog 26 #[u] w fun e w' => ∃ p v m, e = .returned (.pointer (some ⟨p, 0, none⟩)) ∧ w'.heap[p]? = some (.cells #[v] 116 (0, 0)) ∧ Own encP 62 w' w.heap.size v m ∧ MapIs l m ∧ m.length ≤ l.length ∧ w.heap.size ≤ p ∧ Below w.heap.size w w' := by
 have hM := map_calls w u l h hl
 clear h
 go_enter Tryz.func26, Tryz.ntmps26
 go_wp2_with (first
  | (go_at_call 63; refine hM.mono ?_; clear hM; rintro e w1 ⟨v, m, rfl, h1, i1, l1, b1⟩
     have s1 := h1.slB
     obtain ⟨ad, cap, rfl, hcap, hmax, -, -⟩ := id s1))
 go_ret
 have BX : Below w1.heap.size w1 (w1.alloc (.cells #[.slice ad m.length cap] 116)) := (Below.refl _ w1).alloc (Nat.le_refl _) _
 exact ⟨_, _, m, rfl, heap_alloc_new _ _, h1.below BX, i1, l1, b1.size, b1.trans (BX.mono b1.size)⟩
structure PlC (lim : Nat) (w : World) (p : Nat) (v : Value) (L : List Pa) (base : Nat) : Prop where
 blk : w.heap[p]? = some (.cells #[v] 116 (0, 0))
 own : Own encP 62 w base v L
 asc : Asc Pa.n L
 lo : p < lim
 lov : ∀ g, v.ownBlock = some g → g < lim
 le : lim ≤ w.heap.size
theorem PlC.kept {lim : Nat} {w w' : World} {p : Nat} {v : Value} {L : List Pa} {base : Nat} (h : PlC lim w p v L base) (hs : w.heap.size ≤ w'.heap.size) (hk : ∀ i, i = p ∨ v.ownBlock = some i → w'.heap[i]? = w.heap[i]?) : PlC lim w' p v L base :=
 ⟨(hk p (.inl rfl)).trans h.blk, h.own.same fun g hg => hk g (.inr hg), h.asc, h.lo, h.lov, Nat.le_trans h.le hs⟩
theorem PlC.mono {lim : Nat} {w w' : World} {p : Nat} {v : Value} {L : List Pa} {base : Nat} (h : PlC lim w p v L base) (b : Below lim w w') : PlC lim w' p v L base :=
 h.kept b.size fun i hi => b.block i (hi.elim (fun e => e ▸ h.lo) (h.lov i))
theorem PlC.inn {lim : Nat} {w : World} {p : Nat} {v : Value} {L : List Pa} {base : Nat} (h : PlC lim w p v L base) : PlIn w p v L := ⟨h.blk, h.own.slB, h.asc⟩
theorem PlC.of {w : World} {p : Nat} {v : Value} {L : List Pa} {base : Nat} (h1 : w.heap[p]? = some (.cells #[v] 116 (0, 0))) (h2 : Own encP 62 w base v L) (h3 : Asc Pa.n L) : PlC w.heap.size w p v L base :=
 ⟨h1, h2, h3, lt_of_block h1, fun g hg => (h2.lt g hg).2, Nat.le_refl _⟩
theorem plainC_base (lim p : Nat) (v : Value) (L : List Pa) (base : Nat) (hl : L.length ≤ 5000) : Baser lim noB (fun _ w => PlC lim w p v L base) (.iface 71 (.pointer (some ⟨p, 0, none⟩))) (plGe L) (fun s => (scanL s L, 0)) where
 get := ⟨229, _, plain_methG p, fun k w K h => (pget_calls w p v L K h.inn (by omega)).mono fun e w' q => ⟨by rw [plGe_v]; exact q.1, h.mono (q.2.mono h.le), frv_no q.2⟩⟩
 scan := ⟨231, _, plain_methS p, fun k w s h => (pscan_calls w p v L s h.inn (by omega)).mono fun e w' q => by
  obtain ⟨u, e1, o1, b1⟩ := q
  exact ⟨u, e1, o1.slB, h.mono (b1.mono h.le), frv_no b1⟩⟩
 mono := fun k w w' h b => h.mono b
 down := fun k w h => h
 low := fun i h => h.elim
 size := fun k w h => h.le
 len := fun s => Nat.le_trans (scanL_len s L) hl
 ifc := ⟨_, _, rfl⟩
section
variable {lim : Nat} {S : Nat → Prop} {I : Nat → World → Prop} {iv : Value} {ge : Kz → List UInt8 × Bool × Int} {sn : Sp → List Pa × Int}
theorem VAt.aside {w0 y y' : World} {k q : Nat} {x : VR} {V : VS} {T : Nat → Prop} (h : VAt w0 lim I k iv q x V y) (f : FrV T y y') (hT : ∀ i, T i → w0.heap.size ≤ i ∧ ¬ x.own q i) (hI : I k y') : VAt w0 lim I k iv q x V y' :=
 ⟨h.vw.kept (fun i hi => f.block i (h.vw.lt hi) (fun e => (hT i e).2 hi)), hI, h.own, h.bel.trans (f.below (fun i e => (hT i e).1) (Nat.le_trans h.le h.limy)), h.le, Nat.le_trans h.limy f.size⟩
end
end
section
open Go.RowKit
theorem be4 (n : Nat) : be n 4 = [UInt8.ofNat (n / 256 ^ 3), UInt8.ofNat (n / 256 ^ 2), UInt8.ofNat (n / 256 ^ 1), UInt8.ofNat (n / 256 ^ 0)] := rfl
theorem num_be4 (n : Nat) (h : n < 4294967296) : num [UInt8.ofNat (n / 256 ^ 3), UInt8.ofNat (n / 256 ^ 2), UInt8.ofNat (n / 256 ^ 1), UInt8.ofNat (n / 256 ^ 0)] = n := by
 rw [← be4]
 exact num_be 4 n (by rw [p4]; exact h)
theorem pIno_of (n : Nat) (h : n < 4294967296) (r : List UInt8) : pIno (be n 4 ++ r) = n := by
 show ((num [_, _, _, _] : Nat) : Int) = n
 exact congrArg _ (num_be4 n h)
theorem pKind_of (n : Nat) (k : UInt8) (r : List UInt8) : pKind (be n 4 ++ k :: r) = k.toNat := rfl
theorem okN_lt {n : Int} (h : okN n = true) : 0 ≤ n ∧ n.toNat < 4294967296 ∧ ((n.toNat : Nat) : Int) = n := by
 have : 1 ≤ n ∧ n < 1073741824 := of_decide_eq_true h
 omega
theorem okP_lt {n : Int} (h : okP n = true) : 0 ≤ n ∧ n.toNat < 4294967296 ∧ ((n.toNat : Nat) : Int) = n := by
 have : 0 ≤ n ∧ n ≤ 4294967295 := of_decide_eq_true h
 omega
theorem okS_out {s : List UInt8} (h : okS s = true) : 1 ≤ s.length ∧ s.length ≤ 18 ∧ (0 : UInt8) ∉ s := of_decide_eq_true h
theorem chunk_says {n p : Int} (h : okN n = true) (hp : okP p = true) : pIno (chunkK n.toNat p.toNat) = n ∧ pKind (chunkK n.toNat p.toNat) = 3 ∧ pPlace (chunkK n.toNat p.toNat) = p := by
 obtain ⟨h0, h1, h2⟩ := okN_lt h
 obtain ⟨q0, q1, q2⟩ := okP_lt hp
 refine ⟨by rw [chunkK, pIno_of _ h1, h2], pKind_of _ _ _, ?_⟩
 have : pPlace (chunkK n.toNat p.toNat) = ((num [UInt8.ofNat (p.toNat / 256 ^ 3), UInt8.ofNat (p.toNat / 256 ^ 2), UInt8.ofNat (p.toNat / 256 ^ 1), UInt8.ofNat (p.toNat / 256 ^ 0)] : Nat) : Int) := rfl
 rw [this, num_be4 _ q1, q2]
theorem entry_last (n : Nat) (s : List UInt8) (h : s.length ≤ 18) : (entryK n s).getD 23 0 = UInt8.ofNat s.length := by
 have e : entryK n s = (be n 4 ++ 2 :: (s ++ zs (18 - s.length))) ++ [UInt8.ofNat s.length] := by simp [entryK]
 rw [e, List.getD, List.getElem?_append_right (by simp [be_length, zs_length]; omega)]
 have : 23 - (be n 4 ++ 2 :: (s ++ zs (18 - s.length))).length = 0 := by simp [be_length, zs_length]; omega
 rw [this]
 rfl
theorem entry_nm (n : Nat) (s : List UInt8) (h : s.length ≤ 18) : nm (entryK n s) = s := by
 have h1 : nmLen (entryK n s) = s.length := by
  rw [nmLen, entry_last n s h, UInt8.toNat_ofNat']
  omega
 have h2 : (entryK n s).drop 5 = s ++ zs (18 - s.length) ++ [UInt8.ofNat s.length] := rfl
 rw [nm, h1, h2, List.append_assoc, List.take_left']
 rfl
theorem entry_says {n : Int} {s : List UInt8} (h : okN n = true) (hs : okS s = true) : pIno (entryK n.toNat s) = n ∧ pKind (entryK n.toNat s) = 2 ∧ pName (entryK n.toNat s) = s := by
 obtain ⟨h0, h1, h2⟩ := okN_lt h
 have hk : pKind (entryK n.toNat s) = 2 := pKind_of _ _ _
 refine ⟨by rw [entryK, pIno_of _ h1, h2], hk, ?_⟩
 rw [pName, if_pos hk, entry_nm _ _ (okS_out hs).2.1]
theorem chunk_right {n p : Int} (h : okN n = true) (hp : okP p = true) : right (chunkR n p) = true ∧ ofV (chunkR n p) = pv n 3 [] p := by
 have e : chunkR n p = chunkK n.toNat p.toNat := by rw [chunkR, h, hp]; rfl
 obtain ⟨h1, h2, h3⟩ := chunk_says h hp
 have hN : pName (chunkK n.toNat p.toNat) = [] := by rw [pName, h2]; rfl
 have hr : right (chunkK n.toNat p.toNat) = true := by
  rw [right, h1, h2, h3, hN]
  simp [madeB, madeK, h, hp, chunkR]
 rw [e]
 refine ⟨hr, ?_⟩
 rw [ofV, if_pos hr, h1, h2, h3, hN]
theorem entry_inj {a b : Int} {s t : List UInt8} (ha : okN a = true) (hs : okS s = true) (hb : okN b = true) (ht : okS t = true) : (entryR a s == entryR b t) = (a == b && s == t) := by
 have ea : entryR a s = entryK a.toNat s := by rw [entryR, ha, hs]; rfl
 have eb : entryR b t = entryK b.toNat t := by rw [entryR, hb, ht]; rfl
 obtain ⟨p1, p2, p3⟩ := entry_says ha hs
 obtain ⟨q1, q2, q3⟩ := entry_says hb ht
 rw [Bool.eq_iff_iff]
 simp only [beq_iff_eq, Bool.and_eq_true]
 constructor
 · intro h
   rw [ea, eb] at h
   rw [h] at p1 p3
   exact ⟨p1.symm.trans q1, p3.symm.trans q3⟩
 · rintro ⟨rfl, rfl⟩
   rfl
theorem chunk_inj {a b p q : Int} (ha : okN a = true) (hp : okP p = true) (hb : okN b = true) (hq : okP q = true) : (chunkR a p == chunkR b q) = (a == b && p == q) := by
 have ea : chunkR a p = chunkK a.toNat p.toNat := by rw [chunkR, ha, hp]; rfl
 have eb : chunkR b q = chunkK b.toNat q.toNat := by rw [chunkR, hb, hq]; rfl
 obtain ⟨p1, p2, p3⟩ := chunk_says ha hp
 obtain ⟨q1, q2, q3⟩ := chunk_says hb hq
 rw [Bool.eq_iff_iff]
 simp only [beq_iff_eq, Bool.and_eq_true]
 constructor
 · intro h
   rw [ea, eb] at h
   rw [h] at p1 p3
   exact ⟨p1.symm.trans q1, p3.symm.trans q3⟩
 · rintro ⟨rfl, rfl⟩
   rfl
end
section
open Go.RowKit
abbrev NI (lim p : Nat) (pv : Value) (base : Nat) : Nat → World → Prop := fun _ w => PlC lim w p pv [] base
abbrev nI (p : Nat) : Value := .iface 71 (.pointer (some ⟨p, 0, none⟩))
abbrev nSn : Sp → List Pa × Int := fun s => (scanL s [], 0)
theorem ni_base (lim p : Nat) (pv : Value) (base : Nat) : Baser lim noB (NI lim p pv base) (nI p) (plGe []) nSn := plainC_base lim p pv [] base (Nat.zero_le _)
theorem vnewNil_calls (w0 y : World) (hb : Below w0.heap.size w0 y) :
    Calls Tryz.prog 10 #[.nilIface] y fun e y' => ∃ lim p pv base q x, e = .returned (.pointer (some ⟨q, 0, none⟩)) ∧ VAt w0 lim (NI lim p pv base) 9 (nI p) q x vs0 y' ∧ x.n = 0 ∧ (∀ i, x.own q i → y.heap.size ≤ i) ∧ y.heap.size ≤ p ∧ (∀ g, pv.ownBlock = some g → y.heap.size ≤ g) ∧ (∀ i, x.own q i → i ≠ p ∧ pv.ownBlock ≠ some i) ∧ Below y.heap.size y y' := by
 have hN := newPlainO_calls y (.slice none 0 0) [] (SlB.nil _ _ _) (Nat.zero_le _)
 have hmm := @run_makeMap Tryz.prog
 have HB : Hid (Below w0.heap.size w0 y) := hb
 clear hb
 go_enter Tryz.func10, Tryz.ntmps10
 go_upto_region 3 with (go_at_call 26; refine hN.mono ?_; clear hN; rintro e z ⟨p, pv, m, rfl, hp, ho, hm, hl, hpl, b⟩)
 have hm0 : m = [] := List.eq_nil_of_length_eq_zero (Nat.le_zero.1 hl)
 subst hm0
 have HP : Hid (PlC z.heap.size z p pv [] y.heap.size ∧ y.heap.size ≤ p ∧ Below y.heap.size y z) := ⟨PlC.of hp ho hm.1, hpl, b⟩
 have HV := vnew_in z (nI p)
 clear hp ho hm hl hpl b
 go_wp2_with fail
 go_ret
 obtain ⟨q1, q2, q3⟩ := HV _ rfl
 have hz := HP.out.2.2.size
 have hown : ∀ i, (⟨z.heap.size, z.heap.size + 1, .slice none 0 0, [], 0⟩ : VR).own (z.heap.size + 2) i → z.heap.size ≤ i := fun i hi => by
  rcases hi with rfl | rfl | rfl | hi | hi
  · show z.heap.size ≤ z.heap.size + 2
    omega
  · exact Nat.le_refl _
  · show z.heap.size ≤ z.heap.size + 1
    omega
  · cases hi
  · cases hi
 refine ⟨z.heap.size, p, pv, y.heap.size, _, _, rfl, ⟨q1, HP.out.1.mono q2, hown, HB.out.trans ((HP.out.2.2.trans (q2.mono hz)).mono HB.out.size), Nat.le_trans HB.out.size hz, q2.size⟩, rfl, fun i hi => Nat.le_trans hz (hown i hi), HP.out.2.1, fun g hg => (HP.out.1.own.lt g hg).1, fun i hi => ⟨fun e => ?_, fun e => ?_⟩, HP.out.2.2.trans (q2.mono hz)⟩
 · have := hown i hi
   have := HP.out.1.lo
   omega
 · have := hown i hi
   have := HP.out.1.lov i e
   omega
end
section
open Go.RowKit
theorem VAt.re {w0 y : World} {lim p base k q : Nat} {pv iv : Value} {x : VR} {V : VS} (k' : Nat) (h : VAt w0 lim (NI lim p pv base) k iv q x V y) : VAt w0 lim (NI lim p pv base) k' iv q x V y := ⟨h.vw, h.base, h.own, h.bel, h.le, h.limy⟩
end
section
open Go.RowKit
theorem less_self (l : List UInt8) : Op.bytesLess l l = false := by
 induction l with
 | nil => rfl
 | cons a l ih => rw [Op.bytesLess, ih]; simp
theorem less_app : ∀ (p q x y : List UInt8), p.length = q.length → Op.bytesLess (p ++ x) (q ++ y) = (Op.bytesLess p q || (p == q && Op.bytesLess x y))
 | [], [], x, y, _ => by simp [Op.bytesLess]
 | a :: p, b :: q, x, y, h => by
  have ih := less_app p q x y (by simpa using h)
  rw [List.cons_append, List.cons_append, Op.bytesLess, Op.bytesLess, ih, List.cons_beq_cons]
  cases decide (a < b) <;> cases (a == b) <;> simp
 | [], _ :: _, _, _, h => by simp at h
 | _ :: _, [], _, _, h => by simp at h
theorem less_zs : ∀ (n : Nat) (x : List UInt8), x.length = n → Op.bytesLess x (zs n) = false
 | 0, [], _ => rfl
 | n + 1, a :: x, h => by
  have ih := less_zs n x (by simpa using h)
  have e : zs (n + 1) = 0 :: zs n := rfl
  rw [e, Op.bytesLess, ih]
  simp
 | 0, _ :: _, h => by simp at h
 | _ + 1, [], h => by simp at h
theorem less_tops : ∀ (n : Nat) (x : List UInt8), x.length = n → Op.bytesLess (List.replicate n 255) x = false
 | 0, [], _ => rfl
 | n + 1, a :: x, h => by
  have ih := less_tops n x (by simpa using h)
  have ha : ¬ (255 : UInt8) < a := by
   rw [UInt8.lt_iff_toNat_lt]
   have := a.toNat_lt
   have e : (255 : UInt8).toNat = 255 := rfl
   omega
  rw [List.replicate_succ, Op.bytesLess, ih]
  simp [ha]
 | 0, _ :: _, h => by simp at h
 | _ + 1, [], h => by simp at h
theorem less_tri : ∀ (x y : List UInt8), x.length = y.length → (!Op.bytesLess x y) = (Op.bytesLess y x || x == y)
 | [], [], _ => rfl
 | a :: x, b :: y, h => by
  have ih := less_tri x y (by simpa using h)
  rw [Op.bytesLess, Op.bytesLess, List.cons_beq_cons]
  rcases Nat.lt_trichotomy a.toNat b.toNat with h1 | h1 | h1
  · have h2 : a < b := UInt8.lt_iff_toNat_lt.2 h1
    have h3 : ¬ b < a := fun e => by have := UInt8.lt_iff_toNat_lt.1 e; omega
    have h4 : ¬ a = b := fun e => by subst e; omega
    have h5 : ¬ b = a := fun e => h4 e.symm
    simp [h2, h3, h4, h5]
  · have h2 : a = b := UInt8.toNat_inj.1 h1
    subst h2
    simp [ih]
  · have h2 : b < a := UInt8.lt_iff_toNat_lt.2 h1
    have h3 : ¬ a < b := fun e => by have := UInt8.lt_iff_toNat_lt.1 e; omega
    have h4 : ¬ a = b := fun e => by subst e; omega
    simp [h2, h3, h4]
 | [], _ :: _, h => by simp at h
 | _ :: _, [], h => by simp at h
theorem less_be {i d : Nat} (hi : i < 4294967296) (hd : d < 4294967296) (x y : List UInt8) : Op.bytesLess (be i 4 ++ x) (be d 4 ++ y) = (decide (i < d) || (decide (i = d) && Op.bytesLess x y)) := by
 rw [less_app _ _ _ _ (by rw [be_length, be_length]), be_less 4 i d (by rw [p4]; exact hi) (by rw [p4]; exact hd)]
 have : (be i 4 == be d 4) = decide (i = d) := by
  rw [Bool.eq_iff_iff, beq_iff_eq, decide_eq_true_iff]
  exact be_inj (by rw [p4]; exact hi) (by rw [p4]; exact hd)
 rw [this]
theorem chunk_less {n m p q : Int} (hn : okN n = true) (hm : okN m = true) (hp : okP p = true) (hq : okP q = true) : Op.bytesLess (chunkR n p) (chunkR m q) = (decide (n < m) || (decide (n = m) && decide (p < q))) := by
 obtain ⟨h0, h1, h2⟩ := okN_lt hn
 obtain ⟨m0, m1, m2⟩ := okN_lt hm
 obtain ⟨p0, p1, p2⟩ := okP_lt hp
 obtain ⟨q0, q1, q2⟩ := okP_lt hq
 have e : Op.bytesLess (be p.toNat 4) (be q.toNat 4) = decide (p < q) := by
  rw [be_less 4 _ _ (by rw [p4]; exact p1) (by rw [p4]; exact q1), decide_eq_decide]
  omega
 rw [show chunkR n p = chunkK n.toNat p.toNat by rw [chunkR, hn, hp]; rfl, show chunkR m q = chunkK m.toNat q.toNat by rw [chunkR, hm, hq]; rfl, chunkK, chunkK, less_be h1 m1, Op.bytesLess, less_app _ _ _ _ rfl, e, less_self]
 rw [show decide (n.toNat < m.toNat) = decide (n < m) by rw [decide_eq_decide]; omega, show decide (n.toNat = m.toNat) = decide (n = m) by rw [decide_eq_decide]; omega]
 simp
theorem nxt_tells (L : List UInt8) (hL : L.length = 24) : ∀ (i : Nat) (K : List UInt8), i ≤ 24 → K.length = 24 → K.drop i = zs (24 - i) →
    ((nxt K i).2 = true → Op.bytesLess L (nxt K i).1 = !Op.bytesLess (K.take i ++ List.replicate (24 - i) 255) L) ∧ ((nxt K i).2 = false → Op.bytesLess (K.take i ++ List.replicate (24 - i) 255) L = false)
 | 0, K, _, hK, _ => by
  refine ⟨fun h => (by cases h), fun _ => ?_⟩
  rw [List.take_zero, List.nil_append]
  exact less_tops 24 L hL
 | i + 1, K, hi, hK, hz => by
  have hlt : i < K.length := by omega
  have hg : K.getD i 0 = K[i] := by rw [List.getD_eq_getElem?_getD, List.getElem?_eq_getElem hlt]; rfl
  have hst : ∀ x, K.set i x = K.take i ++ x :: zs (24 - (i + 1)) := fun x => by
   rw [← hz, List.set_eq_take_append_cons_drop, if_pos hlt]
  have htk : K.take (i + 1) = K.take i ++ [K[i]] := List.take_succ_eq_append_getElem hlt
  have hl : (K.take i).length = i := by simp; omega
  rw [nxt]
  split
  · rename_i hx
    rw [hg] at hx
    have hx := u8_back hx
    have ih := nxt_tells L hL i (K.set i 0) (by omega) (by simpa using hK) (by
     rw [hst, List.drop_append_of_le_length (by omega), List.drop_of_length_le (by omega), List.nil_append, show 24 - i = (24 - (i + 1)) + 1 by omega]
     rfl)
    have e : (K.set i 0).take i ++ List.replicate (24 - i) 255 = K.take (i + 1) ++ List.replicate (24 - (i + 1)) 255 := by
     rw [hst, List.take_append_of_le_length (by omega), List.take_take, Nat.min_self, htk, hx, show 24 - i = (24 - (i + 1)) + 1 by omega, List.replicate_succ]
     simp
    rw [e] at ih
    exact ih
  · rename_i hx
    rw [hg] at hx ⊢
    refine ⟨fun _ => ?_, fun h => (by cases h)⟩
    have hLs : L = L.take i ++ L[i]'(by omega) :: L.drop (i + 1) := by
     rw [← List.drop_eq_getElem_cons, List.take_append_drop]
    have hLl : (L.take i).length = i := by simp; omega
    have hr1 : (L.drop (i + 1)).length = 24 - (i + 1) := by rw [List.length_drop, hL]
    have hp := u8_plus hx
    have hlx := u8_less hx
    generalize L[i]'(by omega) = y at hLs
    generalize L.drop (i + 1) = R at hLs hr1
    generalize L.take i = P at hLs hLl
    subst hLs
    rw [hst, htk, List.append_assoc, less_app _ _ _ _ (by rw [hl, hLl]), less_app _ _ _ _ (by rw [hl, hLl]), List.singleton_append, Op.bytesLess, Op.bytesLess, less_zs _ R hr1, less_tops _ R hr1]
    have ht := less_tri (K.take i) P (by rw [hl, hLl])
    have hy := y.toNat_lt
    have e1 : decide (y < K[i] + 1) = !decide (K[i] < y) := by
     rw [Bool.eq_iff_iff]
     simp only [Bool.not_eq_true', decide_eq_true_eq, decide_eq_false_iff_not, UInt8.lt_iff_toNat_lt]
     omega
    rw [e1]
    by_cases hPP : K.take i = P
    · subst hPP
      simp [less_self]
    · have hPP' : ¬ P = K.take i := fun e => hPP e.symm
      have e2 : (K.take i == P) = false := by simpa using hPP
      have e3 : (P == K.take i) = false := by simpa using hPP'
      rw [e2, Bool.or_false] at ht
      rw [e2, e3, ← ht]
      simp
end
section
open Go.RowKit
structure NV where
 lim : Nat
 p : Nat
 pv : Value
 base : Nat
 q : Nat
 x : VR
 V : VS
def NV.at_ (d : NV) (w0 y : World) : Prop := VAt w0 d.lim (NI d.lim d.p d.pv d.base) 9 (nI d.p) d.q d.x d.V y
def NV.foot (d : NV) (i : Nat) : Prop := d.x.own d.q i ∨ i = d.p ∨ d.pv.ownBlock = some i
theorem NV.lt {d : NV} {w0 y : World} (h : d.at_ w0 y) {i : Nat} (hi : d.foot i) : i < y.heap.size := by
 have hb : PlC d.lim y d.p d.pv [] d.base := h.base
 rcases hi with hi | rfl | hi
 · exact h.vw.lt hi
 · exact Nat.lt_of_lt_of_le hb.lo hb.le
 · exact Nat.lt_of_lt_of_le (hb.lov i hi) hb.le
theorem NV.called {d : NV} {w0 y y' : World} (h : d.at_ w0 y) (b : Below y.heap.size y y') : d.at_ w0 y' := VAt.called (ni_base _ _ _ _) h b
theorem nvNew_calls (w0 y : World) (hb : Below w0.heap.size w0 y) :
    Calls Tryz.prog 10 #[.nilIface] y fun e y' => ∃ d : NV, e = .returned (.pointer (some ⟨d.q, 0, none⟩)) ∧ d.at_ w0 y' ∧ d.V = vs0 ∧ d.x.n = 0 ∧ (∀ i, d.foot i → y.heap.size ≤ i) ∧ Below y.heap.size y y' :=
 (vnewNil_calls w0 y hb).mono fun e y' h => by
  obtain ⟨lim, p, pv, base, q, x, h1, h2, h3, h4, h5, h6, -, h8⟩ := h
  refine ⟨⟨lim, p, pv, base, q, x, vs0⟩, h1, h2, rfl, h3, fun i hi => ?_, h8⟩
  rcases hi with hi | rfl | hi
  · exact h4 i hi
  · exact h5
  · exact h6 i hi
end
section
open Go.RowKit
end
section
open Go.RowKit
theorem getW_C (V : VS) (K : Kz) : (getW V K).C = V.C := by unfold getW; split <;> rfl
theorem NV.ran {d : NV} {w0 y y' : World} {x' : VR} {V' : VS} {k nb : Nat} (t : VRan noB w0 d.lim (NI d.lim d.p d.pv d.base) k (nI d.p) d.q d.x nb V' y x' y') : NV.at_ { d with x := x', V := V' } w0 y' := t.at_.re 9
end
section
open Go.RowKit
end
section
open Go.RowKit
theorem trim_spec : ∀ (n : Nat) (L : List UInt8), L.length = n → ∃ k, k ≤ L.length ∧ Lib.trimRightB L 0 = L.take k ∧ (∀ (j : Nat) b, k ≤ j → L[j]? = some b → b = 0) ∧ (∀ b, 0 < k → L[k - 1]? = some b → b ≠ 0)
 | 0, L, h => by
  have e : L = [] := List.eq_nil_of_length_eq_zero h
  subst e
  exact ⟨0, Nat.le_refl _, rfl, fun j b _ hb => by simp at hb, fun b h _ => absurd h (by omega)⟩
 | n + 1, L, h => by
  rcases List.eq_nil_or_concat L with e | ⟨L', b, e⟩
  · subst e; simp at h
  · subst e
    rw [List.concat_eq_append] at h ⊢
    by_cases hb : b = 0
    · subst hb
      obtain ⟨k, h1, h2, h3, h4⟩ := trim_spec n L' (by simpa using h)
      have e : Lib.trimRightB (L' ++ [0]) 0 = Lib.trimRightB L' 0 := by simp [Lib.trimRightB]
      refine ⟨k, by simp; omega, by rw [e, h2, List.take_append_of_le_length h1], fun j b hj hb => ?_, fun b hk hb => ?_⟩
      · by_cases hl : j < L'.length
        · rw [List.getElem?_append_left hl] at hb
          exact h3 j b hj hb
        · rw [List.getElem?_append_right (by omega)] at hb
          have : j - L'.length = 0 := by
           have := List.getElem?_eq_some_iff.1 hb
           obtain ⟨h', _⟩ := this
           simp at h'
           omega
          rw [this] at hb
          simpa using hb.symm
      · rw [List.getElem?_append_left (by omega)] at hb
        exact h4 b hk hb
    · refine ⟨(L' ++ [b]).length, Nat.le_refl _, ?_, fun j c hj hc => ?_, fun c _ hc => ?_⟩
      · rw [List.take_length]
        simp [Lib.trimRightB, hb]
      · have := (List.getElem?_eq_some_iff.1 hc).1
        omega
      · have e : (L' ++ [b]).length - 1 = L'.length := by simp
        rw [e, List.getElem?_append_right (Nat.le_refl _), Nat.sub_self] at hc
        have : b = c := by simpa using hc
        rw [← this]
        exact hb
structure Chunk (S T F : List UInt8) : Prop where
 le : T.length ≤ S.length
 lt : S.length ≤ 32
 tk : S.take T.length = T
 fl : F.length = 32
 ft : F.take T.length = T
 f0 : ∀ j, T.length ≤ j → j < 32 → F[j]? = some 0
 s0 : ∀ j, T.length ≤ j → j < S.length → S[j]? = some 0
 l0 : ∀ b, 0 < T.length → T[T.length - 1]? = some b → b ≠ 0
 tt : trimmed T = T
 tf : trimmed F = T
 fs : fullP S = F
theorem chunk_is (S : List UInt8) (hS : S.length ≤ 32) : Chunk S (trimmed S) (fullP (trimmed S)) := by
 obtain ⟨k, h1, h2, h3, h4⟩ := trim_spec S.length S rfl
 have e : trimmed S = S.take k := by rw [trimmed, List.take_of_length_le hS, h2]
 have el : (S.take k).length = k := by rw [List.length_take]; omega
 have ef : fullP (S.take k) = S.take k ++ List.replicate (32 - k) 0 := by
  rw [fullP, List.take_of_length_le (i := 32) (by omega), el]
 have hl : ∀ b, 0 < (S.take k).length → (S.take k)[(S.take k).length - 1]? = some b → b ≠ 0 := fun b hk hb => by
  rw [el] at hk hb
  rw [List.getElem?_take_of_lt (by omega)] at hb
  exact h4 b hk hb
 have hd : S.drop k = List.replicate (S.length - k) 0 := by
  rw [List.eq_replicate_iff]
  refine ⟨by simp, fun b hb => ?_⟩
  obtain ⟨i, hi, e'⟩ := List.mem_iff_getElem.1 hb
  refine h3 (k + i) b (by omega) ?_
  rw [← List.getElem?_drop, ← e']
  exact List.getElem?_eq_getElem hi
 rw [e, ef]
 refine ⟨by omega, hS, by rw [el], by simp; omega, ?_, fun j hj hj2 => ?_, fun j hj hj2 => ?_, hl, ?_, ?_, ?_⟩
 · rw [List.take_append_of_le_length (Nat.le_refl _), List.take_length]
 · rw [List.getElem?_append_right hj, List.getElem?_replicate, if_pos (by rw [el]; omega)]
 · rw [el] at hj
   rw [List.getElem?_eq_getElem hj2]
   exact congrArg some (h3 j _ hj (List.getElem?_eq_getElem hj2))
 · rw [trimmed, List.take_of_length_le (by omega), Lib.trimRightB_take (S.take k) 0 (S.take k).length (Nat.le_refl _) (fun j b hj hb => by have := (List.getElem?_eq_some_iff.1 hb).1; omega) hl, List.take_length]
 · rw [trimmed, List.take_of_length_le (by simp; omega), Lib.trimRightB_take _ 0 k (by simp; omega) (fun j b hj hb => ?_) (fun b hk hb => ?_)]
   · rw [List.take_append_of_le_length (by omega), List.take_of_length_le (by omega)]
   · rw [List.getElem?_append_right (by omega), List.getElem?_replicate] at hb
     split at hb
     · exact (Option.some.inj hb).symm
     · cases hb
   · rw [List.getElem?_append_left (by omega), List.getElem?_take_of_lt (by omega)] at hb
     exact h4 b hk hb
 · rw [fullP, List.take_of_length_le hS]
   conv => lhs; rw [← List.take_append_drop k S]
   rw [hd, List.append_assoc, List.replicate_append_replicate]
   congr 2
   rw [List.length_append, el, List.length_replicate]
   omega
end
end Go.Proofs.YtdmindhjmjnagaaGreatDoor
