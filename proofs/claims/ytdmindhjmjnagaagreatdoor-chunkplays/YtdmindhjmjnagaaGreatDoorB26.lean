import Derived.Test.YtdmindhjmjnagaaGreatDoorSi
import Derived.Shelf.Strings.Builder1
import Derived.Shelf.Strings.BuilderK
import Derived.Test.YtdmindhjmjnagaaGreatDoorB25
import Derived.Test.YtdmindhjmjnagaaGreatDoorB06
import Derived.TacticsIn
import Derived.Deep.RegionHeld
import Derived.OrdersIn
import Derived.RangeFuncCalls
import Derived.Test.YtdmindhjmjnagaaGreatDoorB01
import Derived.Test.YtdmindhjmjnagaaGreatDoorSi
/- ChG RgR ChH -/
namespace Go.Proofs.YtdmindhjmjnagaaGreatDoor
set_option linter.unusedVariables false
set_option maxRecDepth 1000000
set_option maxHeartbeats 32000000
section
open Go.RowKit Go.Shelf
def Tryz.bwsA_ren : Go.Shelf.Ren := ⟨fun | 166 => 87 | 240 => 123 | 276 => 156 | n => n, fun | 0 => 0 | 3 => 3 | 4 => 4 | 9 => 9 | 20 => 20 | 37 => 49 | 70 => 135 | 72 => 137 | 75 => 139 | 164 => 215 | 5 => 5 | 80 => 143 | n => n, fun | n => n⟩
theorem Tryz.bwsA : Go.Proofs.Lays.n166 Tryz.prog Tryz.bwsA_ren := {
 mixed := by kernel_rfl
 f166 := Tryz.func87.trans (congrArg some (by kernel_rfl))
 f240 := Tryz.func123.trans (congrArg some (by kernel_rfl))
 f276 := Tryz.func156.trans (congrArg some (by kernel_rfl))
 t0 := Tryz.underlying0
 a0 := Tryz.isAgg0
 z0 := Tryz.sizeOf0
 v0 := Tryz.zeroValue0
 t3 := Tryz.underlying3
 a3 := Tryz.isAgg3
 z3 := Tryz.sizeOf3
 v3 := Tryz.zeroValue3
 t4 := Tryz.underlying4
 a4 := Tryz.isAgg4
 z4 := Tryz.sizeOf4
 v4 := Tryz.zeroValue4
 t9 := Tryz.underlying9
 a9 := Tryz.isAgg9
 z9 := Tryz.sizeOf9
 v9 := Tryz.zeroValue9
 t20 := Tryz.underlying20
 a20 := Tryz.isAgg20
 z20 := Tryz.sizeOf20
 v20 := Tryz.zeroValue20
 t37 := Tryz.underlying49
 a37 := Tryz.isAgg49
 z37 := Tryz.sizeOf49
 v37 := Tryz.zeroValue49
 t70 := Tryz.underlying135
 a70 := Tryz.isAgg135
 z70 := Tryz.sizeOf135
 v70 := Tryz.zeroValue135
 t72 := Tryz.underlying137
 a72 := Tryz.isAgg137
 z72 := Tryz.sizeOf137
 v72 := Tryz.zeroValue137
 t75 := Tryz.underlying139
 a75 := Tryz.isAgg139
 z75 := Tryz.sizeOf139
 v75 := Tryz.zeroValue139
 t164 := Tryz.underlying215
 a164 := Tryz.isAgg215
 z164 := Tryz.sizeOf215
 v164 := Tryz.zeroValue215 }
def Tryz.bstrA_ren : Go.Shelf.Ren := ⟨fun | 169 => 89 | n => n, fun | 0 => 0 | 3 => 3 | 9 => 9 | 37 => 49 | 70 => 135 | 72 => 137 | 127 => 179 | 5 => 5 | n => n, fun | n => n⟩
theorem Tryz.bstrA : Go.Proofs.Lays.n169 Tryz.prog Tryz.bstrA_ren := {
 mixed := by kernel_rfl
 f169 := Tryz.func89.trans (congrArg some (by kernel_rfl))
 t0 := Tryz.underlying0
 a0 := Tryz.isAgg0
 z0 := Tryz.sizeOf0
 v0 := Tryz.zeroValue0
 t3 := Tryz.underlying3
 a3 := Tryz.isAgg3
 z3 := Tryz.sizeOf3
 v3 := Tryz.zeroValue3
 t9 := Tryz.underlying9
 a9 := Tryz.isAgg9
 z9 := Tryz.sizeOf9
 v9 := Tryz.zeroValue9
 t37 := Tryz.underlying49
 a37 := Tryz.isAgg49
 z37 := Tryz.sizeOf49
 v37 := Tryz.zeroValue49
 t70 := Tryz.underlying135
 a70 := Tryz.isAgg135
 z70 := Tryz.sizeOf135
 v70 := Tryz.zeroValue135
 t72 := Tryz.underlying137
 a72 := Tryz.isAgg137
 z72 := Tryz.sizeOf137
 v72 := Tryz.zeroValue137
 t127 := Tryz.underlying179
 a127 := Tryz.isAgg179
 z127 := Tryz.sizeOf179
 v127 := Tryz.zeroValue179 }
theorem Tryz.bwsA_extra : Builder.Extra Tryz.prog Tryz.bwsA_ren where
 sizeBuilder := by kernel_rfl
 liesBuilder := by kernel_rfl
 t5 := Tryz.underlying5
 a5 := Tryz.isAgg5
 z5 := Tryz.sizeOf5
 v5 := Tryz.zeroValue5
 infoByte := by kernel_rfl
 cellsByte := by kernel_rfl
 sizeByte := by kernel_rfl
 neB5 := by decide
theorem Tryz.bstrA_extra : Builder.Extra Tryz.prog Tryz.bstrA_ren where
 sizeBuilder := by kernel_rfl
 liesBuilder := by kernel_rfl
 t5 := Tryz.underlying5
 a5 := Tryz.isAgg5
 z5 := Tryz.sizeOf5
 v5 := Tryz.zeroValue5
 infoByte := by kernel_rfl
 cellsByte := by kernel_rfl
 sizeByte := by kernel_rfl
 neB5 := by decide
abbrev BuF (B b : Nat) (l : List UInt8) (w : World) : Prop := Lib.IsBuilderF 137 5 B b (Lib.byteCells l) w
theorem bws_calls (B b : Nat) (l v : List UInt8) (w : World) (h : BuF B b l w) (hl : l.length + v.length ≤ 100000000) (hB : B ≤ w.heap.size) :
    Calls Tryz.prog 87 #[.pointer (some ⟨b, 0, none⟩), .string (str v)] w fun e w' => (∃ u, e = .returned u) ∧ BuF B b (l ++ v) w' ∧ Below B w w' ∧ Lib.OthersKept 5 (some b) w w' := by
 refine (Any.Builder_WriteString_k Tryz.bwsA Tryz.bwsA_extra B b (Lib.byteCells l) (str v) w h (by rw [Lib.byteCells_length, str_size]; omega) hB).mono ?_
 rintro e w' ⟨rfl, h1, h2, h3⟩
 refine ⟨⟨_, rfl⟩, ?_, h2, h3⟩
 have e1 : Lib.byteCells l ++ Lib.strCells (str v) = Lib.byteCells (l ++ v) := by
  rw [Lib.byteCells_append]
  congr 1
 rw [e1] at h1
 exact .inr h1
theorem bstr_calls (B b : Nat) (l : List UInt8) (w : World) (h : BuF B b l w) (hB : B ≤ w.heap.size) :
    Calls Tryz.prog 89 #[.pointer (some ⟨b, 0, none⟩)] w fun e w' => e = .returned (.string (str l)) ∧ Below B w w' ∧ Lib.OthersKept 5 (some b) w w' :=
 (Any.Builder_String_any_k Tryz.bstrA Tryz.bstrA_extra B b l w h hB).mono fun _ _ ⟨h1, _, h2, h3⟩ => ⟨h1, h2, h3⟩
theorem buF_new (w : World) : BuF w.heap.size w.heap.size [] (w.alloc (.cells #[.pointer none, .slice none 0 0] 137)) := Lib.IsBuilderF.of (Lib.fresh_isBuilder _ _ w)
end
section
open Go
section
variable {P : Program} {ops : Array Oper} {Q : Exit → Act → World → Prop} {md : Region.Mode} {S : World → Prop}
theorem wpIn_of_wp (l n : Nat) {o : Oper} (hd : ∀ c, o.op ≠ .defer c) {K : Act → World → Prop} {a : Act} {w : World} (h : o.wp P a w K Q) : o.wpIn (Fence.wide.inRound l) n P a w K Q := by
 unfold Oper.wpIn
 refine ⟨fun f _ => trivial, ?_⟩
 rw [Oper.semAt_eq _ _ _ hd]
 unfold Oper.wp at h
 generalize (execOp a.eval o).run P w = r at *
 cases r with
 | ok x w' =>
  cases x <;> simp only [Oper.upon, Oper.uponIn] at h ⊢
  case value => exact h
  case skip => exact h
  case defer => exact h
  case enter f args => exact ⟨fun e => by simp [Fence.inRound, Fence.wide] at e, CallsIn.inRound l (callsIn_wide.2 (h.mono fun e w'' he => by cases e <;> exact he))⟩
  case row row args => exact ⟨fun e => by simp [Fence.inRound, Fence.wide] at e, fun c cs _ => let ⟨v, w', r, s⟩ := h c cs; ⟨v, w', r, stepsIn_wide.2 s⟩⟩
 | halt x w' => cases x <;> simp only [Oper.upon, Oper.uponIn] at h ⊢; exact h
def noDefer (ops : Array Oper) : Bool := ops.all fun o => match o.op with
 | .defer _ => false
 | _ => true
theorem noDefer_spec {i : Nat} {o : Oper} (h : noDefer ops = true) (hi : ops[i]? = some o) : ∀ c, o.op ≠ .defer c := fun c e => by
 obtain ⟨hlt, rfl⟩ := Array.getElem?_eq_some_iff.1 hi
 have := Array.all_eq_true.1 h i hlt
 rw [e] at this
 cases this
theorem wpOpIn_of_wpOp (l n : Nat) (hl : ¬ LetsOut Q) (h : noDefer ops = true) {i : Nat} {K : Act → World → Prop} {a : Act} {w : World} (hh : wpOp P ops Q i K a w) : wpOpIn (Fence.wide.inRound l) n P ops Q i K a w := by
 unfold wpOpIn
 unfold wpOp at hh
 split
 · rename_i e
   rw [e] at hh
   exact hh
 · rename_i o e
   rw [e] at hh
   dsimp only at hh
   split
   · rename_i hw
     rw [if_pos hw] at hh
     exact hh.elim (wpIn_of_wp l n (noDefer_spec h e)) (fun q => absurd q.2 hl)
   · rename_i hw
     rw [if_neg hw] at hh
     exact ⟨fun _ _ => trivial, hh⟩
theorem wpAnyIn_of_wpAny (l n : Nat) (hl : ¬ LetsOut Q) (h : noDefer ops = true) : ∀ (fuel : Nat) (listed : Array Bool) (a : Act) (w : World), wpAny P md ops Q fuel listed a w → wpAnyIn (Fence.wide.inRound l) n P md ops Q fuel listed a w
 | 0, _, _, _, hh => hh
 | fuel + 1, _, _, _, hh => ⟨hh.1, fun i hi => wpOpIn_mono (fun a' w' h' => wpAnyIn_of_wpAny l n hl h fuel _ a' w' h') (wpOpIn_of_wpOp l n hl h (hh.2 i hi))⟩
theorem wpIn_region_held (l n : Nat) {id : Nat} {a : Act} {w : World} (hl : ¬ LetsOut Q) (hm : P.follows .mixedOrders = true) (hd : noDefer ops = true) (hS : S w.drew)
    (h : S w.drew → wpAnyH P .any ops Q S ops.size (Array.replicate ops.size false) a w.drew) : (Code.region id ops true).wpIn (Fence.wide.inRound l) n P Q a w :=
 wpIn_region_any hm (wpAnyIn_of_wpAny l n hl hd _ _ _ _ (wpAny_of_held _ _ _ _ (h hS)))
theorem wpIn_region_Z (l n : Nat) {id : Nat} {a : Act} {w : World} (z : Nat) (S : World → Prop) (hl : ¬ LetsOut Q) (hm : P.follows .mixedOrders = true) (hd : noDefer ops = true) (hS : S w.drew)
    (h : S w.drew → wpAnyZ P .any ops Q S z ops.size (Array.replicate ops.size false) a w.drew) : (Code.region id ops true).wpIn (Fence.wide.inRound l) n P Q a w :=
 wpIn_region_any hm (wpAnyIn_of_wpAny l n hl hd _ _ _ _ (wpAny_of_Z _ _ _ _ (h hS)))
theorem wpListIn_of_wpList (l n : Nat) (hl : ¬ LetsOut Q) : ∀ (rest : List Oper) (a : Act) (w : World), (∀ o ∈ rest, ∀ c, o.op ≠ .defer c) → wpList P ops Q rest a w → wpListIn (Fence.wide.inRound l) n P ops Q rest a w
 | [], _, _, _, h => h
 | o :: rest, a, w, hd, h => by
  unfold wpListIn
  unfold wpList at h
  have ih := fun a w => wpListIn_of_wpList l n hl rest a w (fun o ho => hd o (List.mem_cons_of_mem _ ho))
  split
  · rename_i hw
    rw [if_pos hw] at h
    exact h.elim (fun q => wpIn_of_wp l n (hd o List.mem_cons_self) (Oper.wp_mono (fun a w q => ih a w q) q)) (fun q => absurd q.2 hl)
  · rename_i hw
    rw [if_neg hw] at h
    exact ⟨fun _ _ => trivial, ih _ _ h⟩
theorem wpIn_region_plain (l n : Nat) {id : Nat} {L : List Oper} {a : Act} {w : World} (hl : ¬ LetsOut Q) (hd : noDefer L.toArray = true) (h : wpList P L.toArray Q L a w) : (Code.region id L.toArray false).wpIn (Fence.wide.inRound l) n P Q a w :=
 wpIn_region_lit (wpListIn_of_wpList l n hl L a w (fun o ho => by
  obtain ⟨i, hi, rfl⟩ := List.mem_iff_getElem.1 ho
  exact noDefer_spec (i := i) hd (by simp [hi])) h)
end
end
section
open Go.RowKit
def partP (L : List Pa) (ino : Int) (p : Pc) : List UInt8 := ((fullP (valL L ⟨chunkR ino p.pl, chunkR_length ino p.pl⟩)).drop p.fr.toNat).take (p.tt - p.fr).toNat
def readG (L : List Pa) (ino : Int) (off n : Nat) (l : List Nat) : List UInt8 := l.flatMap fun x => partP L ino (pcM off n x)
def readP (L : List Pa) (ino : Int) (off n : Nat) : List UInt8 := readG L ino off n (List.range (pN off n))
theorem readG_snoc (L : List Pa) (ino : Int) (off n : Nat) (l : List Nat) (x : Nat) : readG L ino off n (l ++ [x]) = readG L ino off n l ++ partP L ino (pcM off n x) := by simp [readG]
theorem fullP_length (v : List UInt8) : (fullP v).length = 32 := by simp [fullP]; omega
theorem partP_length (L : List Pa) (ino : Int) (p : Pc) : (partP L ino p).length ≤ 32 := by
 unfold partP
 have := fullP_length (valL L ⟨chunkR ino p.pl, chunkR_length ino p.pl⟩)
 simp only [List.length_take, List.length_drop]
 omega
theorem readG_length (L : List Pa) (ino : Int) (off n : Nat) (l : List Nat) : (readG L ino off n l).length ≤ 32 * l.length := by
 induction l with
 | nil => simp [readG]
 | cons a l ih =>
  have h1 : readG L ino off n (a :: l) = partP L ino (pcM off n a) ++ readG L ino off n l := by simp [readG]
  rw [h1, List.length_append, List.length_cons]
  have := partP_length L ino (pcM off n a)
  omega
def betS (ino f l : Int) : Sp := ⟨chunkR ino f, oneT (chunkR ino l), false, chunkR_length ino f, oneT_length _ (chunkR_length ino l)⟩
theorem buF_keep {B b : Nat} {l : List UInt8} {W W' : World} (h : BuF B b l W) (hk : ∀ (k : Nat) c t z, W.heap[k]? = some (Obj.cells c t z) → W'.heap[k]? = some (Obj.cells c t z)) : BuF B b l W' := by
 have hat : ∀ p, Lib.BuilderAtF 137 5 B b p (Lib.byteCells l) W → Lib.BuilderAtF 137 5 B b p (Lib.byteCells l) W' := fun p q => by
  obtain ⟨h1, v, h2, ⟨h3, h4⟩, h5⟩ := q
  refine ⟨h1, v, hk _ _ _ _ h2, ⟨h3, ?_⟩, h5⟩
  rcases h4 with h4 | ⟨g, cap, cur, fz, e1, e2, e3, e4⟩
  · exact .inl h4
  · exact .inr ⟨g, cap, cur, fz, e1, e2, hk _ _ _ _ e3, e4⟩
 exact h.elim (fun q => .inl (hat _ q)) (fun q => .inr (hat _ q))
theorem buF_below {B b : Nat} {l : List UInt8} {W W' : World} (h : BuF B b l W) (hb : Below W.heap.size W W') : BuF B b l W' := buF_keep h fun k _ _ _ e => (hb.block k (lt_of_block e)).trans e
theorem buF_own {B b : Nat} {f : List Nat → List UInt8} (n : Nat) : OwnFrom n (fun pre W => BuF B b (f pre) W) := fun s W W' row h hg hr => buF_keep h fun k c t z e =>
 (hg.block k (lt_of_block e) (fun q => by obtain ⟨_, o, ho, hc⟩ := hr k q.symm; rw [e] at ho; cases ho; cases hc)).trans e
theorem buF_cells {B b : Nat} {l : List UInt8} {W : World} (h : BuF B b l W) : ∃ c t f, W.heap[b]? = some (.cells c t f) := by
 rcases h with ⟨_, v, h, _⟩ | ⟨_, v, h, _⟩ <;> exact ⟨_, _, _, h⟩
theorem pcM_ok {off n : Nat} (h : 0 < pN off n) (x : Nat) : (pcM off n x).ok := (pcK_ok (by omega : min x (pN off n - 1) < pN off n)).1
theorem pN_pos {off n : Nat} (h : 0 < n) : 0 < pN off n := by unfold pN; rw [if_neg (by omega)]; omega
theorem pN_le {off n : Nat} (h : off + n ≤ 1048576) : pN off n ≤ 32768 := by unfold pN; split <;> omega
attribute [local go_sem] Oper.semAt_some
section
variable {lim : Nat} {I : Nat → World → Prop} {iv : Value} {ge : Kz → List UInt8 × Bool × Int} {sn : Sp → List Pa × Int}
theorem cread_calls (D : Baser lim noB I iv ge sn) (w0 y : World) (k q : Nat) (x : VR) (V : VS) (A : VAt w0 lim I (k + 1) iv q x V y) (hn : x.n ≤ 5000) (ino : Int) (off n : Nat) (hn0 : 0 < n) (hon : off + n ≤ 1048576) (L : List Pa) (hs : scanV V.C sn (betS ino ((off / 32 : Nat) : Int) (((off + n - 1) / 32 : Nat) : Int)) = (L, 0)) (ha : Asc Pa.n L) (hL : L.length ≤ 100000) :
    Calls Tryz.prog 45 #[.pointer (some ⟨q, 0, none⟩), .int .i64 ino, .int .i64 (off : Int), .int .i64 (n : Int)] y fun e y' => e = .returned (.tuple #[.string (str (readP L ino off n)), .int .i64 0]) ∧ ∃ x', VRan noB w0 lim I k iv q x (x.n + 4) { V with R := V.R ++ [betS ino ((off / 32 : Nat) : Int) (((off + n - 1) / 32 : Nat) : Int)] } y x' y' := by
 refine (callsIn_wide (n := 8)).1 ?_
 have HN0 : Hid (0 < n ∧ off + n ≤ 1048576 ∧ x.n ≤ 5000) := ⟨hn0, hon, hn⟩
 have HD : Hid (Baser lim noB I iv ge sn) := D
 have HOW : Hid (∀ i, x.own q i → i < y.heap.size) := fun i hi => A.vw.lt hi
 have HBW := fun w => between_calls ino ((off / 32 : Nat) : Int) (((off + n - 1) / 32 : Nat) : Int) w
 have HLL : Hid (Asc Pa.n L ∧ L.length ≤ 100000) := ⟨ha, hL⟩
 have hSC : Hid (∀ w2, Below y.heap.size y w2 → Calls Tryz.prog 22 #[.pointer (some ⟨q, 0, none⟩), sv (chunkR ino ((off / 32 : Nat) : Int)) (oneT (chunkR ino (((off + n - 1) / 32 : Nat) : Int))) false] w2 fun e y' => ∃ ad cap, e = .returned (.tuple #[.slice ad L.length cap, .int .i64 0]) ∧ Own encP 62 y' w2.heap.size (.slice ad L.length cap) L ∧ VTo noB w0 lim I k iv q x { V with R := V.R ++ [betS ino ((off / 32 : Nat) : Int) (((off + n - 1) / 32 : Nat) : Int)] } w2 { x with n := x.n + 1 } y') := fun w2 b => by
  have := VAt.scan D (A.called D b) (fun i hi => hi.elim) hn (betS ino ((off / 32 : Nat) : Int) (((off + n - 1) / 32 : Nat) : Int))
  rw [hs] at this
  exact this
 generalize { V with R := V.R ++ [betS ino ((off / 32 : Nat) : Int) (((off + n - 1) / 32 : Nat) : Int)] } = V' at *
 have e1 : (off : Int) / 32 = ((off / 32 : Nat) : Int) := by omega
 have e2 : ((off : Int) + (n : Int) - 1) / 32 = (((off + n - 1) / 32 : Nat) : Int) := by omega
 have hoI : (0 : Int) ≤ (off : Int) ∧ (off : Int) ≤ 1048576 := by omega
 have hnI : (0 : Int) < (n : Int) ∧ (n : Int) ≤ 1048576 := by omega
 have hz : ((n : Int) == 0) = false := by
  have : (n : Int) ≠ 0 := by omega
  simpa using this
 obtain ⟨N, hN⟩ : ∃ N : Nat, N = L.length := ⟨_, rfl⟩
 have HN : Hid (N = L.length) := hN
 rw [← hN] at hSC
 generalize hF : ((off / 32 : Nat) : Int) = fI at *
 generalize hT : (((off + n - 1) / 32 : Nat) : Int) = tI at *
 have hE1 : IntKind.i64.wrap ((off : Int) / 32) = fI := by rw [e1, IntKind.wrap_i64]; omega
 have hE3 : IntKind.i64.wrap ((off : Int) + (n : Int)) = (off : Int) + (n : Int) := by rw [IntKind.wrap_i64]; omega
 have hE4 : IntKind.i64.wrap ((off : Int) + (n : Int) - 1) = (off : Int) + (n : Int) - 1 := by rw [IntKind.wrap_i64]; omega
 have hE2 : IntKind.i64.wrap (((off : Int) + (n : Int) - 1) / 32) = tI := by rw [e2, IntKind.wrap_i64]; omega
 have hE5 : ((off : Int) + (n : Int)) ≥ 0 := by omega
 clear hF hT hN A D hn hn0 hon hs ha hL
 refine callsIn_of_wp_marks Tryz.func45 rfl trivial ?_ rfl
 simp only [Tryz.ntmps45, List.size_toArray, List.length_cons, List.length_nil, Nat.reduceAdd, Nat.reduceSub, Array.replicate_succ, Array.replicate_zero, List.push_toArray, List.append_toArray, List.nil_append, List.cons_append]
 refine wpIn_wide.2 ?_
 go_upto_region 4 with (first
  | (go_at_call 86; refine (HBW _).mono ?_; rintro e w2 ⟨rfl, b2⟩)
  | (go_at_call 22; refine (hSC.out _ (((Below.refl _ y).alloc (Nat.le_refl _) _).trans (b2.mono (by simp)))).mono ?_; rintro e w3 ⟨ad, cap, rfl, o3, T3⟩))
 have hi2 : w2.heap[y.heap.size]? = some (.cells #[.int .i64 ino] 3 (0, 0)) := (b2.block _ (by simp)).trans (heap_alloc_new _ _)
 have B2 : Below y.heap.size y w2 := ((Below.refl _ y).alloc (Nat.le_refl _) _).trans (b2.mono (by simp))
 have hsz2 : y.heap.size < w2.heap.size := lt_of_block hi2
 have hi3 : w3.heap[y.heap.size]? = some (.cells #[.int .i64 ino] 3 (0, 0)) := (T3.fr.block _ hsz2 (fun e => e.elim (fun q => Nat.lt_irrefl _ (HOW.out _ q)) id)).trans hi2
 have HT : Hid (VRan noB w0 lim I k iv q x (x.n + 4) V' y { x with n := x.n + 1 } w3) := ⟨T3.at_, (FrV.of_below (S := fun i => x.own q i ∨ noB i) B2).trans T3.fr (fun i e => .inl e), fun i hi => (T3.own i hi).imp id (fun e => Nat.le_trans B2.size e), by show x.n + 1 ≤ x.n + 4; omega⟩
 have HO3 : Hid (Sl encP w3 (.slice ad N cap) L) := o3.slB
 clear T3 o3 b2 hi2 B2 hsz2 hSC HBW
 have b4 : Below w3.heap.size w3 (w3.alloc (.cells #[.slice ad N cap] 41)) := (Below.refl _ w3).alloc (Nat.le_refl _) _
 have hl4 : (w3.alloc (.cells #[.slice ad N cap] 41)).heap[w3.heap.size]? = some (.cells #[.slice ad N cap] 41 (0, 0)) := heap_alloc_new _ _
 have hs4 : (w3.alloc (.cells #[.slice ad N cap] 41)).heap.size = w3.heap.size + 1 := by simp
 generalize w3.alloc (.cells #[.slice ad N cap] 41) = w4 at *
 have H4 : Hid (Below w3.heap.size w3 w4 ∧ w4.heap[w3.heap.size]? = some (.cells #[.slice ad N cap] 41 (0, 0)) ∧ w4.heap.size = w3.heap.size + 1 ∧ w4.heap[y.heap.size]? = some (.cells #[.int .i64 ino] 3 (0, 0)) ∧ y.heap.size < w3.heap.size) := ⟨b4, hl4, hs4, (b4.block _ (lt_of_block hi3)).trans hi3, lt_of_block hi3⟩
 clear b4 hl4 hs4 hi3
 have HMEM : Hid (∀ W, Below w4.heap.size w4 W → W.heap[w3.heap.size]? = some (.cells #[.slice ad N cap] 41 (0, 0)) ∧ W.heap[y.heap.size]? = some (.cells #[.int .i64 ino] 3 (0, 0)) ∧ Sl encP W (.slice ad N cap) L ∧ Below w3.heap.size w3 W) := fun W b => by
  have h1 := H4.out
  have hb3 : Below w3.heap.size w3 W := h1.1.trans (b.mono h1.1.size)
  exact ⟨(b.block _ (lt_of_block h1.2.1)).trans h1.2.1, (b.block _ (lt_of_block h1.2.2.2.1)).trans h1.2.2.2.1, HO3.out.kept hb3.block hb3.size, hb3⟩
 generalize hbL : w3.heap.size = bL at *
 have HbL : Hid (w3.heap.size = bL) := hbL
 clear hbL
 go_wp2_with (first
  | (go_at_call 66; refine (pieces_calls _ _ _).mono ?_; rintro e w6 ⟨rfl, h6⟩))
 rw [← h6]
 have hb6 : w6.heap[w4.heap.size]? = some (.cells #[.pointer none, .slice none 0 0] 137 (0, 0)) := by
  rw [h6]
  exact (Below.heap_alloc _ _ _ (by simp; omega)).trans ((Below.heap_alloc _ _ _ (by simp)).trans (heap_alloc_new _ _))
 have hc6 : w6.heap[w4.heap.size + 1]? = some (.cells #[.int .i64 (off : Int)] 3 (0, 0)) := by
  rw [h6]
  refine (Below.heap_alloc _ _ _ (by simp)).trans ?_
  have := heap_alloc_new (w4.alloc (.cells #[.pointer none, .slice none 0 0] 137)) (.cells #[.int .i64 (off : Int)] 3)
  rwa [World.size_alloc] at this
 have hd6 : w6.heap[w4.heap.size + 1 + 1]? = some (.cells #[.int .i64 (n : Int)] 3 (0, 0)) := by
  rw [h6]
  have := heap_alloc_new ((w4.alloc (.cells #[.pointer none, .slice none 0 0] 137)).alloc (.cells #[.int .i64 (off : Int)] 3)) (.cells #[.int .i64 (n : Int)] 3)
  rwa [World.size_alloc, World.size_alloc] at this
 have hs6 : w6.heap.size = w4.heap.size + 3 := by rw [h6]; simp
 have hB6 : Below w4.heap.size w4 w6 := by rw [h6]; exact (((Below.refl _ w4).alloc (Nat.le_refl _) _).alloc (by simp) _).alloc (by simp; omega) _
 have hBu : BuF w4.heap.size w4.heap.size [] w6 := by rw [h6]; exact ((buF_new w4).alloc _).alloc _
 have H6 : Hid (w6.heap.size = w4.heap.size + 3 ∧ w6.heap[w4.heap.size]? = some (.cells #[.pointer none, .slice none 0 0] 137 (0, 0)) ∧ bL < w4.heap.size ∧ y.heap.size < bL) := ⟨hs6, hb6, by have := H4.out.2.2.1; omega, H4.out.2.2.2.2⟩
 clear h6 hb6
 refine (wpIn_wide (n := 8)).1 ?_
 refine wpIn_rangeFunc_ownH rfl (by decide) (gf := 104) (lb := #[.pointer (some ⟨w4.heap.size + 1 + 1, 0, none⟩), .pointer (some ⟨w4.heap.size + 1, 0, none⟩)]) rfl trivial (enters_of Tryz.func104 (by kernel_rfl) rfl)
   (encs := fun x : Nat => #[.agg #[.int .i64 (pcM off n x).pl, .int .i64 (pcM off n x).fr, .int .i64 (pcM off n x).tt, .int .i64 (pcM off n x).ix]]) (N := pN off n) (w0 := w6) (S := fun xs => xs = List.range (pN off n)) (Sp := fun pre => ∃ k, k ≤ pN off n ∧ pre = List.range k) (Kp := KpC (fun i => i = w4.heap.size))
   (pieces_stops 7 (by decide) (w4.heap.size + 1 + 1) (w4.heap.size + 1) off n (w4.heap.size + 1) (by have := HN0.out; omega) (by have := HN0.out; omega) (fun i => i = w4.heap.size) (by omega) (by omega) (fun i e => by omega) w6 (by omega) (by omega) (by omega) hd6 hc6)
   kpC_t kpC_b (Below.refl _ _) (fun _ => rfl)
   (fun pre W => BuF w4.heap.size w4.heap.size (readG L ino off n pre) W ∧ Below w4.heap.size w6 W) (fun _ _ _ => False)
   (OwnFrom.and (buF_own _) (ownFrom_below (by omega) (by omega))) (fun _ _ _ _ _ hs _ _ => hs)
   ⟨hBu, Below.refl _ _⟩
   (fun x a' W => ∃ Bx, w6.heap.size ≤ Bx ∧ W.heap[Bx]? = some (.cells #[.int .i64 (pcM off n x).pl, .int .i64 (pcM off n x).fr, .int .i64 (pcM off n x).tt, .int .i64 (pcM off n x).ix] 122 (0, 0)) ∧ a' = { tmps := #[.pointer (some ⟨q, 0, none⟩), .int .i64 ino, .int .i64 (off : Int), .int .i64 (n : Int), undef, .pointer (some ⟨y.heap.size, 0, none⟩), undef, undef, .string { data := #[] }, .int .i64 0, .pointer (some ⟨bL, 0, none⟩), .int .i64 0, .pointer (some ⟨w4.heap.size, 0, none⟩), .pointer (some ⟨Bx, 0, none⟩), .int .i64 (n : Int), .bool false, .tuple #[.slice ad N cap, .int .i64 0], .pointer (some ⟨q, 0, none⟩), .int .i64 ino, .int .i64 (off : Int), .int .i64 fI, .int .i64 (off : Int), .int .i64 (n : Int), .int .i64 ((off : Int) + (n : Int)), .int .i64 ((off : Int) + (n : Int) - 1), .int .i64 tI, sv (chunkR ino fI) (oneT (chunkR ino tI)) false, .tuple #[.slice ad N cap, .int .i64 0], .slice ad N cap, .int .i64 0, .int .i64 0, .bool false, undef, .int .i64 (off : Int), .int .i64 (n : Int), .func (.func 104) #[] #[.pointer (some ⟨w4.heap.size + 1 + 1, 0, none⟩), .pointer (some ⟨w4.heap.size + 1, 0, none⟩)], .agg #[.int .i64 (pcM off n x).pl, .int .i64 (pcM off n x).fr, .int .i64 (pcM off n x).tt, .int .i64 (pcM off n x).ix], undef, undef, undef, undef, undef, undef, undef, undef, undef, undef, undef, undef, undef, undef], defers := [] })
   (fun x a' _ X Y row hs hg hr => by
    obtain ⟨Bx, h1, h2, h3⟩ := hs
    exact ⟨Bx, h1, (hg.block Bx (lt_of_block h2) (fun q => by obtain ⟨_, o, ho, hc⟩ := hr Bx q.symm; rw [h2] at ho; cases ho; cases hc)).trans h2, h3⟩)
   ?assign ?body ?done ?stop
 case assign =>
  rintro l pre x W K ⟨hbu, hbe⟩ hK
  gi_wp2
  have bA := (Below.refl W.heap.size W).alloc (Nat.le_refl _) (.cells #[.int .i64 (pcM off n x).pl, .int .i64 (pcM off n x).fr, .int .i64 (pcM off n x).tt, .int .i64 (pcM off n x).ix] 122)
  exact hK _ _ (KeepsFrom.of_below bA) (KpC.of_frv (FrV.of_below bA)) ⟨hbu.alloc _, hbe.trans (bA.mono (Nat.le_trans (show w4.heap.size ≤ w6.heap.size by omega) hbe.size))⟩ ⟨W.heap.size, hbe.size, heap_alloc_new _ _, rfl⟩
 case body =>
  rintro l pre x a' W hl ⟨r, hr⟩ ⟨hbu, hbe⟩ ⟨Bx, hBx, hbX, rfl⟩ hlt
  have hok := pcM_ok (pN_pos (off := off) HN0.out.1) x
  have hM := HMEM.out W (hB6.trans hbe)
  have hlr := readG_length L ino off n pre
  have hlp := partP_length L ino (pcM off n x)
  have hpN := pN_le HN0.out.2.1
  have HPL : Hid ((readG L ino off n pre).length + (partP L ino (pcM off n x)).length ≤ 100000000) := (show _ ≤ _ by omega)
  have HSN : Hid (readG L ino off n (pre ++ [x]) = readG L ino off n pre ++ partP L ino (pcM off n x)) := readG_snoc L ino off n pre x
  have HPP : Hid (partP L ino (pcM off n x) = ((fullP (valL L ⟨chunkR ino (pcM off n x).pl, chunkR_length ino (pcM off n x).pl⟩)).drop (pcM off n x).fr.toNat).take ((pcM off n x).tt - (pcM off n x).fr).toNat) := rfl
  clear hlr hlp hpN
  generalize partP L ino (pcM off n x) = PT at *
  generalize pcM off n x = pc at *
  obtain ⟨pl, fr, tt, ix⟩ := pc
  have hfr : 0 ≤ fr ∧ fr ≤ tt ∧ tt ≤ 32 := ⟨hok.f0, hok.ft, hok.t32⟩
  dsimp only at hbX HPP ⊢
  have hKO := fun z => keyOf_calls ino pl z
  have HV : Hid (∀ z, Sl encP z (.slice ad N cap) L → Calls Tryz.prog 88 #[.slice ad N cap, kv (chunkR ino pl)] z fun e w' => e = .returned (.string (str (valL L ⟨chunkR ino pl, chunkR_length ino pl⟩))) ∧ Below z.heap.size z w') := fun z h => valueOf_calls z _ L ⟨chunkR ino pl, chunkR_length ino pl⟩ h HLL.out.1 HLL.out.2
  generalize valL L ⟨chunkR ino pl, chunkR_length ino pl⟩ = VL at *
  generalize chunkR ino pl = KR at *
  have hFl := fullP_length VL
  have hFU := fun z => full_calls z VL
  generalize fullP VL = FU at *
  have hmid := str_mid FU fr (tt - fr) hfr.1 (by omega)
  rw [show fr + (tt - fr) = tt by omega, ← HPP.out] at hmid
  have hsz : ((str FU).size : Int) = 32 := by rw [str_size, hFl]; rfl
  have hd1 : tt ≤ ((str FU).size : Int) := by omega
  have hd2 : fr ≤ ((str FU).size : Int) := by omega
  have HM : Hid (Below bL w3 W ∧ Sl encP W (.slice ad N cap) L ∧ BuF w4.heap.size w4.heap.size (readG L ino off n pre) W ∧ Below w4.heap.size w6 W ∧ w6.heap.size ≤ Bx ∧ w4.heap.size + 3 = w6.heap.size) := ⟨hM.2.2.2, hM.2.2.1, hbu, hbe, hBx, hs6.symm⟩
  have HS0 : Hid (W.heap[bL]? = some (.cells #[.slice ad N cap] 41 (0, 0)) ∧ W.heap[y.heap.size]? = some (.cells #[.int .i64 ino] 3 (0, 0)) ∧ W.heap[Bx]? = some (.cells #[.int .i64 pl, .int .i64 fr, .int .i64 tt, .int .i64 ix] 122 (0, 0))) := ⟨hM.1, hM.2.1, hbX⟩
  have HCL : Hid (∀ z : World, (z.heap[bL]? = some (.cells #[.slice ad N cap] 41 (0, 0)) ∧ z.heap[y.heap.size]? = some (.cells #[.int .i64 ino] 3 (0, 0)) ∧ z.heap[Bx]? = some (.cells #[.int .i64 pl, .int .i64 fr, .int .i64 tt, .int .i64 ix] 122 (0, 0))) → z.cell? ⟨bL, 0, none⟩ = some (.slice ad N cap) ∧ z.cell? ⟨y.heap.size, 0, none⟩ = some (.int .i64 ino) ∧ z.cell? ⟨Bx, 0, none⟩ = some (.int .i64 pl) ∧ z.cell? ⟨Bx, 1, none⟩ = some (.int .i64 fr) ∧ z.cell? ⟨Bx, 2, none⟩ = some (.int .i64 tt)) := fun z h => by
   refine ⟨?_, ?_, ?_, ?_, ?_⟩
   · rw [cell_of_row _ _ _ _ _ _ h.1]; rfl
   · rw [cell_of_row _ _ _ _ _ _ h.2.1]; rfl
   · rw [cell_of_row _ _ _ _ _ _ h.2.2]; rfl
   · rw [cell_of_row _ _ _ _ _ _ h.2.2]; rfl
   · rw [cell_of_row _ _ _ _ _ _ h.2.2]; rfl
  clear hM hbu hbe hbX hBx hok hr hBu hB6 hc6 hd6 hs6 hsz
  refine wpIn_block ?_
  refine wpIn_region_held l _ (S := fun z => z.heap[bL]? = some (.cells #[.slice ad N cap] 41 (0, 0)) ∧ z.heap[y.heap.size]? = some (.cells #[.int .i64 ino] 3 (0, 0)) ∧ z.heap[Bx]? = some (.cells #[.int .i64 pl, .int .i64 fr, .int .i64 tt, .int .i64 ix] 122 (0, 0))) (by rintro ⟨_, _, h⟩; exact h) (by kernel_rfl) (by kernel_rfl) HS0.out (fun hh => ?_)
  refine tl ?_ 0 rfl hh ⟨by rfl, ?_⟩ ?_
  case refine_2 => (intro w hSw; obtain ⟨hq1, hq2, hq3, hq4, hq5⟩ := HCL.out _ hSw; go_simp; try with_reducible rfl)
  (try simp only [gs])
  refine tl ?_ 1 rfl hh ⟨by rfl, ?_⟩ ?_
  case refine_2 => (intro w hSw; obtain ⟨hq1, hq2, hq3, hq4, hq5⟩ := HCL.out _ hSw; go_simp; try with_reducible rfl)
  (try simp only [gs])
  refine tl ?_ 2 rfl hh ⟨by rfl, ?_⟩ ?_
  case refine_2 => (intro w hSw; obtain ⟨hq1, hq2, hq3, hq4, hq5⟩ := HCL.out _ hSw; go_simp; try with_reducible rfl)
  (try simp only [gs])
  refine tl ?_ 3 rfl hh ⟨by rfl, ?_⟩ ?_
  case refine_2 => (intro w hSw; obtain ⟨hq1, hq2, hq3, hq4, hq5⟩ := HCL.out _ hSw; go_simp; try with_reducible rfl)
  (try simp only [gs])
  refine tl ?_ 7 rfl hh ⟨by rfl, ?_⟩ ?_
  case refine_2 => (intro w hSw; obtain ⟨hq1, hq2, hq3, hq4, hq5⟩ := HCL.out _ hSw; go_simp; try with_reducible rfl)
  (try simp only [gs])
  refine tl ?_ 8 rfl hh ⟨by rfl, ?_⟩ ?_
  case refine_2 => (intro w hSw; obtain ⟨hq1, hq2, hq3, hq4, hq5⟩ := HCL.out _ hSw; go_simp; try with_reducible rfl)
  (try simp only [gs])
  refine tl ?_ 9 rfl hh ⟨by rfl, ?_⟩ ?_
  case refine_2 => (intro w hSw; obtain ⟨hq1, hq2, hq3, hq4, hq5⟩ := HCL.out _ hSw; go_simp; try with_reducible rfl)
  (try simp only [gs])
  refine tl ?_ 10 rfl hh ⟨by rfl, ?_⟩ ?_
  case refine_2 => (intro w hSw; obtain ⟨hq1, hq2, hq3, hq4, hq5⟩ := HCL.out _ hSw; go_simp; try with_reducible rfl)
  (try simp only [gs])
  generalize hy1 : W.drew = y1 at *
  have hw1 : Below W.heap.size W y1 := by rw [← hy1]; exact ⟨rfl, rfl, rfl, Nat.le_refl _, fun _ _ => rfl⟩
  clear hy1
  refine wpAnyH_ready (rs := [4]) (by kernel_rfl) (by simp) (AllReadyH.cons rfl (fun K0 hK0 => ?_) AllReadyH.nil)
  rw [if_pos (by rfl)]
  (try simp only [gs])
  go_simp
  refine (hKO _).mono ?_
  rintro e y2 ⟨rfl, b2⟩
  refine hK0.out _ _ (show _ ∧ _ ∧ _ from ⟨(b2.block _ (lt_of_block hh.1)).trans hh.1, (b2.block _ (lt_of_block hh.2.1)).trans hh.2.1, (b2.block _ (lt_of_block hh.2.2)).trans hh.2.2⟩) (fun g2 => ?_)
  clear hK0 K0
  (try simp only [gs])
  have hV2 := HV.out y2 ((HM.out.2.1.kept hw1.block hw1.size).kept b2.block b2.size)
  refine wpAnyH_ready (rs := [5]) (by kernel_rfl) (by simp) (AllReadyH.cons rfl (fun K0 hK0 => ?_) AllReadyH.nil)
  rw [if_pos (by rfl)]
  (try simp only [gs])
  go_simp
  refine hV2.mono ?_
  rintro e y3 ⟨rfl, b3⟩
  refine hK0.out _ _ (show _ ∧ _ ∧ _ from ⟨(b3.block _ (lt_of_block g2.1)).trans g2.1, (b3.block _ (lt_of_block g2.2.1)).trans g2.2.1, (b3.block _ (lt_of_block g2.2.2)).trans g2.2.2⟩) (fun g3 => ?_)
  clear hK0 K0
  (try simp only [gs])
  refine wpAnyH_ready (rs := [6]) (by kernel_rfl) (by simp) (AllReadyH.cons rfl (fun K0 hK0 => ?_) AllReadyH.nil)
  rw [if_pos (by rfl)]
  (try simp only [gs])
  go_simp
  refine (hFU _).mono ?_
  rintro e y4 ⟨rfl, b4⟩
  refine hK0.out _ _ (show _ ∧ _ ∧ _ from ⟨(b4.block _ (lt_of_block g3.1)).trans g3.1, (b4.block _ (lt_of_block g3.2.1)).trans g3.2.1, (b4.block _ (lt_of_block g3.2.2)).trans g3.2.2⟩) (fun g4 => ?_)
  clear hK0 K0
  (try simp only [gs])
  refine tl ?_ 11 rfl g4 ⟨by rfl, ?_⟩ ?_
  case refine_2 => (intro w hSw; go_simp; try with_reducible rfl)
  (try simp only [gs])
  have b14 : Below W.heap.size W y4 := hw1.trans (((b2.trans (b3.mono b2.size)).trans (b4.mono (Nat.le_trans b2.size b3.size))).mono hw1.size)
  have hbu4 := buF_below HM.out.2.2.1 b14
  have hsz4 : w4.heap.size ≤ y4.heap.size := by have := HM.out.2.2.2.1.size; have := HM.out.2.2.2.2.2; have := b14.size; omega
  have hWS := bws_calls w4.heap.size w4.heap.size (readG L ino off n pre) PT y4 hbu4 HPL.out hsz4
  refine wpAnyH_ready (rs := [12]) (by kernel_rfl) (by simp) (AllReadyH.cons rfl (fun K0 hK0 => ?_) AllReadyH.nil)
  rw [if_pos (by rfl)]
  (try simp only [gs])
  go_simp
  refine hWS.mono ?_
  clear hWS
  rintro e y5 ⟨⟨u, rfl⟩, bu5, b5, k5⟩
  refine hK0.out _ _ (show _ ∧ _ ∧ _ from ⟨(b5.block _ H6.out.2.2.1).trans g4.1, (b5.block _ (Nat.lt_trans H6.out.2.2.2 H6.out.2.2.1)).trans g4.2.1, k5 Bx _ g4.2.2 (fun e => by have := HM.out.2.2.2.2; cases e; omega) (fun c fz e => by cases e)⟩) (fun g5 => ?_)
  clear hK0 K0
  (try simp only [gs])
  refine wpAnyH_done (by kernel_rfl) ?_ _
  have hs5 : y4.heap.size ≤ y5.heap.size := b5.size
  exact ⟨(KeepsFrom.of_below b14).trans (KeepsFrom.of_kept hs5 (buF_cells hbu4) k5), kpC_t (KpC.of_frv (FrV.of_below b14)) (KpC.of_kept hs5 k5), ⟨by rw [HSN.out]; exact bu5, HM.out.2.2.2.1.trans ((b14.mono (by have := HM.out.2.2.2.1.size; have := HM.out.2.2.2.2.2; omega)).trans b5)⟩⟩
 case stop =>
  rintro D c pre W _ _ h _
  exact h.elim
 case done =>
  rintro D xs W hD rfl ⟨hbu, hbe⟩ hK
  have HK : Hid (W.heap[D]? = some (.deferred (some [])) ∧ w6.heap.size ≤ D ∧ Below w4.heap.size w4 W) := ⟨hK, hD, hB6.trans hbe⟩
  have hSt := bstr_calls w4.heap.size w4.heap.size (readG L ino off n (List.range (pN off n))) W hbu (by have := hbe.size; omega)
  have HR : Hid (readG L ino off n (List.range (pN off n)) = readP L ino off n) := rfl
  rw [HR.out] at hSt
  clear hbu hbe hK hBu hB6 hc6 hd6
  dsimp only
  go_wp2_with (first
   | (go_at_call 89; refine hSt.mono ?_; clear hSt; rintro e w7 ⟨rfl, b7, k7⟩))
  have hK7 : w7.heap[D]? = some (.deferred (some [])) := k7 D _ HK.out.1 (fun e => by have := HK.out.2.1; have := H6.out.1; cases e; omega) (fun c fz e => by cases e)
  refine ⟨by simp, .inl ⟨_, _, rfl, run_takeDeferred hK7, ?_⟩⟩
  refine ⟨_, results_tmp2 rfl _ _ _, rfl, { x with n := x.n + 1 }, HT.out.called HD.out ?_⟩
  have b8 : Below w4.heap.size w4 (w7.putObj D (.deferred none)) := (HK.out.2.2.trans b7).trans ((Below.refl _ w7).grown (grownBy_putObj' w7 D _) (by have := lt_of_block hK7; have := HK.out.2.1; have := H6.out.1; omega) (fun k e => by cases e; have := HK.out.2.1; have := H6.out.1; omega))
  rw [HbL.out]
  exact (HMEM.out _ b8).2.2.2
end
end
end Go.Proofs.YtdmindhjmjnagaaGreatDoor
