import Derived.Test.YtdmindhjmjnagaaGreatDoorSi
import Derived.Test.YtdmindhjmjnagaaGreatDoorB01
import Derived.Test.YtdmindhjmjnagaaGreatDoorB24
import Derived.Test.YtdmindhjmjnagaaGreatDoorB15
import Derived.Test.YtdmindhjmjnagaaGreatDoorB03
import Derived.Test.YtdmindhjmjnagaaGreatDoorB23
import Derived.Test.YtdmindhjmjnagaaGreatDoorB09
import Derived.RangeFuncNested
import Derived.RangeFuncBound
import Derived.RangeFuncCalls
import Derived.RangeFuncLeaves
import Derived.Test.YtdmindhjmjnagaaGreatDoorB22
import Derived.RangeFuncWrites
import Derived.Lib.OthersKept
/- ChC ChD ChE ChF -/
namespace Go.Proofs.YtdmindhjmjnagaaGreatDoor
set_option linter.unusedVariables false
set_option maxRecDepth 1000000
set_option maxHeartbeats 32000000
section
open Go.RowKit
def valL (L : List Pa) (K : Kz) : List UInt8 := match look Pa.n L K.n with
 | some p => p.v
 | none => []
theorem valueOf_calls (w : World) (u : Value) (L : List Pa) (K : Kz) (h : Sl encP w u L) (ha : Asc Pa.n L) (hl : L.length ≤ 100000) :
    Calls Tryz.prog 88 #[u, kv K.k] w fun e w' => e = .returned (.string (str (valL L K))) ∧ Below w.heap.size w w' := by
 have b1 : Below w.heap.size w (w.alloc (.cells (bc K.k).toArray 54)) := (Below.refl _ w).alloc (Nat.le_refl _) _
 have hk1 : Has (w.alloc (.cells (bc K.k).toArray 54)) w.heap.size K.k := Has.new w K.k K.h
 have h1 := h.called b1
 have hF := cbsearch_calls _ u L K h1 ha hl
 have HB : Hid (Below w.heap.size w (w.alloc (.cells (bc K.k).toArray 54))) := b1
 have HLK := hitA_look Pa.n K.n ha
 obtain ⟨ad, cap, rfl, hcap, hmax, -, -⟩ := id h1
 cases hh : hitA Pa.n L K.n with
 | false =>
  rw [hh] at hF HLK
  have HL : Hid (look Pa.n L K.n = none) := (show _ = _ by simpa using HLK)
  generalize posA Pa.n L K.n = pos at *
  clear h h1 b1 HLK hh
  go_enter Tryz.func88, Tryz.ntmps88
  go_wp2_with (first
   | (refine load_key _ rfl w.heap.size rfl rfl K.k hk1 ?_)
   | (go_at_call 124; refine hF.mono ?_; clear hF; rintro e w1 ⟨rfl, b2⟩))
  go_ret
  exact ⟨by unfold valL; rw [HL.out]; rfl, HB.out.trans (b2.mono HB.out.size)⟩
 | true =>
  rw [hh] at hF HLK
  simp only [if_true] at HLK
  have hpos : posA Pa.n L K.n < L.length := by
   unfold hitA at hh
   have := of_decide_eq_true hh
   cases hq : L[posA Pa.n L K.n]? with
   | none => rw [hq] at this; cases this
   | some x => exact (List.getElem?_eq_some_iff.1 hq).1
  rw [List.getElem?_eq_getElem hpos] at HLK
  obtain ⟨g0, off, rfl, hg0, hat⟩ := SlB.at h1 _ hpos
  have hv := (range_vP hat)
  generalize L[posA Pa.n L K.n] = x at *
  have HL : Hid (look Pa.n L K.n = some x) := HLK
  generalize posA Pa.n L K.n = pos at *
  have hpI : (pos : Int) < (L.length : Int) := by omega
  have hp0 : (0 : Int) ≤ (pos : Int) := by omega
  have HC1 : Hid (∀ y, Below (w.alloc (.cells (bc K.k).toArray 54)).heap.size (w.alloc (.cells (bc K.k).toArray 54)) y → y.cell? ⟨g0, off + pos * 25 + 24, none⟩ = some (.string (str x.v))) := fun y hy => (hy.cell (p := ⟨g0, off + pos * 25 + 24, none⟩) hg0).trans hv
  clear h h1 b1 HLK hh hat hv hpos
  go_enter Tryz.func88, Tryz.ntmps88
  go_wp2_with (first
   | (refine load_key _ rfl w.heap.size rfl rfl K.k hk1 ?_)
   | (go_at_call 124; refine hF.mono ?_; clear hF; rintro e w1 ⟨rfl, b2⟩
      have c2 := HC1.out w1 b2
      clear HC1))
  go_ret
  exact ⟨by unfold valL; rw [HL.out]; rfl, HB.out.trans (b2.mono HB.out.size)⟩
theorem run_field_T (F T : List UInt8) (e : Bool) (hF : F.length = 24) (hT : T.length = 24) (w : World) : (Instr.field 56 (sv F T e) 1).run Tryz.prog w = .ok (kv T) w := by
 have hf : (bc F).length = 24 := by rw [bc_length, hF]
 have ht : (bc T).length = 24 := by rw [bc_length, hT]
 have e1 : List.take 24 (List.drop 24 (sc F T e)) = bc T := by
  have q : sc F T e = bc F ++ (bc T ++ [Value.bool e]) := by simp [sc]
  rw [q, ← hf, List.drop_left, hf, ← ht, List.take_left]
 simp [Instr.field, go_sem, asAgg, Result.andThen, e1]
theorem between_calls (ino f l : Int) (w : World) :
    Calls Tryz.prog 86 #[.int .i64 ino, .int .i64 f, .int .i64 l] w fun e w' => e = .returned (sv (chunkR ino f) (oneT (chunkR ino l)) false) ∧ Below w.heap.size w w' := by
 have hK := fun p y => keyOf_calls ino p y
 have hlF := chunkR_length ino f
 have hlT := oneT_length _ (chunkR_length ino l)
 have hO := fun y => one_calls y (chunkR ino l) (chunkR_length ino l)
 have hFd := fun y => run_field_T (chunkR ino l) (oneT (chunkR ino l)) (oneE (chunkR ino l)) (chunkR_length ino l) hlT y
 generalize oneT (chunkR ino l) = TT at *
 generalize oneE (chunkR ino l) = EE at *
 generalize hKf : chunkR ino f = KF at *
 generalize hKl : chunkR ino l = KL at *
 have hKF : ∀ y, Calls Tryz.prog 67 #[.int .i64 ino, .int .i64 f] y fun e w' => e = .returned (kv KF) ∧ Below y.heap.size y w' := fun y => hKf ▸ hK f y
 have hKL : ∀ y, Calls Tryz.prog 67 #[.int .i64 ino, .int .i64 l] y fun e w' => e = .returned (kv KL) ∧ Below y.heap.size y w' := fun y => hKl ▸ hK l y
 clear hK hKf hKl
 go_enter Tryz.func86, Tryz.ntmps86
 go_wp2_with (first
  | (go_at_call 67; have _q := b1; refine (hKL _).mono ?_; rintro e w2 ⟨rfl, b2⟩)
  | (go_at_call 67; refine (hKF _).mono ?_; rintro e w1 ⟨rfl, b1⟩)
  | (go_at_call 122; refine (hO _).mono ?_; rintro e w3 ⟨rfl, b3⟩)
  | (refine build2 rfl _ _ rfl _ _ rfl rfl hlF hlT ?_)
  | (refine store_span rfl _ _ rfl _ rfl _ _ _ rfl hlF hlT (zs 24) (zs 24) false ((((zero_hasS w w.heap.size rfl).below b1 (by simp)).below b2 (by have := b1.size; simp at this; omega)).below b3 (by have := b1.size; have := b2.size; simp at *; omega)) ?_; intro w4 h4 t4 s4))
 refine ret_span rfl _ _ _ _ rfl h4 rfl ⟨rfl, ?_⟩
 exact below_touched (below_called (below_called (below_called (below_made (Below.refl _ w) (Nat.le_refl _) _) b1 (Nat.le_refl _)) b2 (Nat.le_refl _)) b3 (Nat.le_refl _)) t4 (Nat.le_refl _) (Nat.le_refl _)
theorem str_mid (L : List UInt8) (d n : Int) (h0 : 0 ≤ d) (h1 : 0 ≤ n) : (str L).extract d.toNat (d + n).toNat = str ((L.drop d.toNat).take n.toNat) := by
 apply ByteArray.ext
 apply Array.ext'
 rw [ByteArray.data_extract]
 simp only [Array.toList_extract, str_list, List.extract_eq_take_drop]
 congr 1
 omega
theorem pof_calls (p : Pc) (L : List UInt8) (h0 : 0 ≤ p.fr) (h1 : p.fr ≤ p.tt) (h2 : p.tt ≤ 32) (h3 : 0 ≤ p.ix) (h4 : p.ix + (p.tt - p.fr) ≤ L.length) (hL : L.length ≤ 2000000) (w : World) :
    Calls Tryz.prog 70 #[pcv p, .string (str L)] w fun e w' => e = .returned (.string (str ((L.drop p.ix.toNat).take (p.tt - p.fr).toNat))) ∧ Below w.heap.size w w' := by
 have hS := fun y => psize_calls p h0 h1 h2 y
 obtain ⟨a, b, c, d⟩ := p
 dsimp only at h0 h1 h2 h3 h4
 change Calls Tryz.prog 70 #[.agg #[.int .i64 a, .int .i64 b, .int .i64 c, .int .i64 d], .string (str L)] w fun e w' => e = .returned (.string (str ((L.drop d.toNat).take (c - b).toNat))) ∧ Below w.heap.size w w'
 have hS2 : ∀ y, Calls Tryz.prog 106 #[.agg #[.int .i64 a, .int .i64 b, .int .i64 c, .int .i64 d]] y fun e w' => e = .returned (.int .i64 (c - b)) ∧ Below y.heap.size y w' := hS
 clear hS
 have hcut := str_mid L d (c - b) h3 (by omega)
 have hsz : ((str L).size : Int) = (L.length : Int) := by rw [str_size]
 have hw1 : IntKind.i64.wrap (d + (c - b)) = d + (c - b) := by rw [IntKind.wrap_i64]; omega
 have hd1 : d ≤ d + (c - b) := by omega
 have hd2 : d + (c - b) ≤ ((str L).size : Int) := by omega
 have hd3 : (0 : Int) ≤ d + (c - b) := by omega
 have hd4 : d ≤ ((str L).size : Int) := by omega
 have hcut := str_mid L d (c - b) h3 (by omega)
 have hsz : ((str L).size : Int) = (L.length : Int) := by rw [str_size]
 have hw1 : IntKind.i64.wrap (d + (c - b)) = d + (c - b) := by rw [IntKind.wrap_i64]; omega
 have hd1 : d ≤ d + (c - b) := by omega
 have hd2 : d + (c - b) ≤ ((str L).size : Int) := by omega
 have hd3 : (0 : Int) ≤ d + (c - b) := by omega
 have hd4 : d ≤ ((str L).size : Int) := by omega
 go_enter Tryz.func70, Tryz.ntmps70
 go_upto_region 1 with fail
 obtain ⟨w1, hw⟩ : ∃ w1, w1 = w.alloc (.cells #[.int .i64 a, .int .i64 b, .int .i64 c, .int .i64 d] 122) := ⟨_, rfl⟩
 rw [← hw]
 obtain ⟨B, hB⟩ : ∃ B, B = w.heap.size := ⟨_, rfl⟩
 have HBX : Hid (w1.drew.heap[B]? = some (.cells #[.int .i64 a, .int .i64 b, .int .i64 c, .int .i64 d] 122 (0, 0)) ∧ Below w.heap.size w w1.drew ∧ B < w1.drew.heap.size) := by
  rw [hw, hB]
  exact ⟨heap_alloc_new _ _, (Below.refl _ w).alloc (Nat.le_refl _) _ |>.drew, by show w.heap.size < (w.alloc _).heap.size; simp⟩
 have HC : Hid (∀ yy : World, yy.heap[B]? = some (.cells #[.int .i64 a, .int .i64 b, .int .i64 c, .int .i64 d] 122 (0, 0)) → yy.cell? ⟨B, 0, none⟩ = some (.int .i64 a) ∧ yy.cell? ⟨B, 1, none⟩ = some (.int .i64 b) ∧ yy.cell? ⟨B, 2, none⟩ = some (.int .i64 c) ∧ yy.cell? ⟨B, 3, none⟩ = some (.int .i64 d)) := fun yy h => ⟨by rw [cell_of_row _ _ _ _ _ _ h]; rfl, by rw [cell_of_row _ _ _ _ _ _ h]; rfl, by rw [cell_of_row _ _ _ _ _ _ h]; rfl, by rw [cell_of_row _ _ _ _ _ _ h]; rfl⟩
 rw [← hB]
 clear hw hB hsz
 refine wp_region_noPanic ?_
 refine wp_region_held_drew (S := (fun yy => yy.heap[B]? = some (.cells #[.int .i64 a, .int .i64 b, .int .i64 c, .int .i64 d] 122 (0, 0)))) (by kernel_rfl) (HBX.out.1) (fun hh => ?_)
 refine tl ?_ 0 rfl hh ⟨by rfl, ?_⟩ ?_
 case refine_2 => (intro w hSw; go_simp; try with_reducible rfl)
 (try simp only [gs])
 refine tl ?_ 1 rfl hh ⟨by rfl, ?_⟩ ?_
 case refine_2 => (intro w hSw; go_simp; try with_reducible rfl)
 (try simp only [gs])
 refine tl ?_ 2 rfl hh ⟨by rfl, ?_⟩ ?_
 case refine_2 => (intro w hSw; have hc := (HC.out _ hSw).2.2.2; go_simp; try with_reducible rfl)
 (try simp only [gs])
 refine tl ?_ 3 rfl hh ⟨by rfl, ?_⟩ ?_
 case refine_2 => (intro w hSw; go_simp; try with_reducible rfl)
 (try simp only [gs])
 refine tl ?_ 4 rfl hh ⟨by rfl, ?_⟩ ?_
 case refine_2 => (intro w hSw; have hc := (HC.out _ hSw).2.2.2; go_simp; try with_reducible rfl)
 (try simp only [gs])
 refine tk (v := .agg #[.int .i64 a, .int .i64 b, .int .i64 c, .int .i64 d]) 5 rfl hh (Or.inl ⟨by rfl, ?_⟩) ?_
 case refine_1 => (intro w hSw; obtain ⟨c0, c1, c2, c3⟩ := HC.out _ hSw; go_simp; try with_reducible rfl)
 (try simp only [gs])
 generalize w1.drew = y0 at *
 refine wpAnyH_ready (rs := [6]) (by kernel_rfl) (by simp) (AllReadyH.cons rfl (fun K0 hK => ?_) AllReadyH.nil)
 rw [if_pos (by rfl)]
 (try simp only [gs])
 go_simp
 refine (hS2 y0).mono ?_
 clear hS2
 rintro e y1 ⟨rfl, b1⟩
 have hkeep : y1.heap[B]? = some (.cells #[.int .i64 a, .int .i64 b, .int .i64 c, .int .i64 d] 122 (0, 0)) := (b1.block B HBX.out.2.2).trans hh
 have HB1 : Hid (Below w.heap.size w y1) := HBX.out.2.1.trans (b1.mono HBX.out.2.1.size)
 refine hK.out _ _ hkeep (fun hh => ?_)
 clear hK K0 b1 hkeep
 (try simp only [gs])
 refine tl ?_ 7 rfl hh ⟨by rfl, ?_⟩ ?_
 case refine_2 => (intro w hSw; go_simp; try with_reducible rfl)
 (try simp only [gs])
 refine tl ?_ 8 rfl hh ⟨by rfl, ?_⟩ ?_
 case refine_2 => (intro w hSw; go_simp; try with_reducible rfl)
 (try simp only [gs])
 refine tl ?_ 9 rfl hh ⟨by rfl, ?_⟩ ?_
 case refine_2 => (intro w hSw; go_simp; try with_reducible rfl)
 (try simp only [gs])
 refine wpAnyH_done (by kernel_rfl) ?_ _
 refine NoPanic.normal ?_
 clear hh
 go_wp2_with fail
 go_ret
 exact ⟨by rw [← hcut]; rfl, HB1.out⟩
end
section
open Go.RowKit
def chgP (p : Pa) : Ch := if p.v = [] then goneC ⟨p.k, p.h⟩ else ⟨p.k, p.h, p.v, false⟩
def chAll (V : VS) (l : List Pa) : VS := l.foldl (fun V p => V.change (chgP p)) V
theorem chAll_snoc (V : VS) (l : List Pa) (p : Pa) : chAll V (l ++ [p]) = (chAll V l).change (chgP p) := by simp [chAll]
section
variable {lim : Nat} {I : Nat → World → Prop} {iv : Value} {ge : Kz → List UInt8 × Bool × Int} {sn : Sp → List Pa × Int}
theorem cset_calls (D : Baser lim noB I iv ge sn) (w0 y : World) (k q : Nat) (x : VR) (V : VS) (A : VAt w0 lim I k iv q x V y) (hn : x.n ≤ 5000) (p : Pa) (hv : p.v = [] ∨ okV p.v = true) :
    Calls Tryz.prog 112 #[.pointer (some ⟨q, 0, none⟩), .agg (encP.c p).toArray] y fun e y' => e = .returned (.int .i64 0) ∧ ∃ x', VRan noB w0 lim I k iv q x (x.n + 4) (V.change (chgP p)) y x' y' := by
 have h1 : InB encP 62 (y.alloc (.cells (encP.c p).toArray 62)) y.heap.size p := InB.new encP _ y p _ rfl
 have B1 : Below y.heap.size y (y.alloc (.cells (encP.c p).toArray 62)) := (Below.refl _ y).alloc (Nat.le_refl _) _
 have A1 := A.called D B1
 have hBX : ∀ {x' : VR} {V' : VS} {y' : World}, VTo noB w0 lim I k iv q x V' (y.alloc (.cells (encP.c p).toArray 62)) x' y' → VRan noB w0 lim I k iv q x (x.n + 4) V' y x' y' := fun t => ⟨t.at_, (FrV.of_below (S := fun i => x.own q i ∨ noB i) B1).trans t.fr (fun i e => .inl e), fun i hi => (t.own i hi).imp id (fun e => Nat.le_trans B1.size e), t.n⟩
 have HBX : Hid (∀ {x' : VR} {V' : VS} {y' : World}, VTo noB w0 lim I k iv q x V' (y.alloc (.cells (encP.c p).toArray 62)) x' y' → VRan noB w0 lim I k iv q x (x.n + 4) V' y x' y') := hBX
 have hkr : (y.alloc (.cells (encP.c p).toArray 62)).rangeAt y.heap.size 0 (bc p.k) := range_kP h1.range
 have hvc : (y.alloc (.cells (encP.c p).toArray 62)).cell? ⟨y.heap.size, 24, none⟩ = some (.string (str p.v)) := by have := range_vP h1.range; simpa using this
 by_cases hz : p.v = []
 · have hC : chgP p = goneC ⟨p.k, p.h⟩ := by unfold chgP; rw [if_pos hz]
   have hD := VAt.delete D A1 (fun i hi => hi.elim) (by omega) ⟨p.k, p.h⟩
   rw [hz] at hvc
   have hs : ((str ([] : List UInt8)).toList == ([] : List UInt8)) = true := by rw [str_toList]; rfl
   rw [hC]
   clear hv hz hC h1 A1 A B1 hBX
   go_enter Tryz.func112, Tryz.ntmps112
   go_wp2_with (first
    | (refine load_part _ rfl y.heap.size 0 rfl rfl _ p.h hkr ?_)
    | (go_at_call 146; refine hD.mono ?_; clear hD; rintro e y2 ⟨rfl, x', T⟩))
   go_ret
   exact ⟨rfl, x', HBX.out T⟩
 · have hC : chgP p = ⟨p.k, p.h, p.v, false⟩ := by unfold chgP; rw [if_neg hz]
   have hP := VAt.put D A1 (fun i hi => hi.elim) (by omega) ⟨p.k, p.h, p.v, false⟩ rfl (hv.resolve_left hz)
   have hs : ((str p.v).toList == ([] : List UInt8)) = false := by rw [str_toList]; simpa using hz
   rw [hC]
   clear hv hz hC h1 A1 A B1 hBX
   generalize hPV : p.v = PV at *
   go_enter Tryz.func112, Tryz.ntmps112
   go_wp2_with (first
    | (refine load_part _ rfl y.heap.size 0 rfl rfl _ p.h hkr ?_)
    | (go_at_call 147; refine hP.mono ?_; clear hP; rintro e y2 ⟨rfl, x', T⟩))
   go_ret
   exact ⟨rfl, x', HBX.out T⟩
theorem csetAll_calls (D : Baser lim noB I iv ge sn) (w0 y : World) (k q : Nat) (x : VR) (V : VS) (A : VAt w0 lim I k iv q x V y) (L : List Pa) (hn : x.n + 4 * L.length ≤ 5000) (hv : ∀ p ∈ L, p.v = [] ∨ okV p.v = true) (base : Nat) (u : Value) (ho : Own encP 62 y base u L) (hoff : ∀ g, u.ownBlock = some g → ¬ x.own q g) :
    Calls Tryz.prog 71 #[.pointer (some ⟨q, 0, none⟩), u] y fun e y' => e = .returned (.int .i64 0) ∧ ∃ x', VRan noB w0 lim I k iv q x (x.n + 4 * L.length) (chAll V L) y x' y' := by
 have HD : Hid (Baser lim noB I iv ge sn) := D
 obtain ⟨ad, cap, rfl, hcap, hmax, -, -⟩ := id ho.slB
 obtain ⟨N, hN⟩ : ∃ N : Nat, N = L.length := ⟨_, rfl⟩
 have HN : Hid (N = L.length ∧ x.n + 4 * N ≤ 5000) := ⟨hN, by omega⟩
 rw [← hN] at ho hoff hcap hmax ⊢
 have HV : Hid (∀ p ∈ L, p.v = [] ∨ okV p.v = true) := hv
 have HST : Hid (∃ x', VRan noB w0 lim I k iv q x (x.n + 4 * 0) (chAll V (L.take 0)) y x' y ∧ Own encP 62 y base (.slice ad N cap) L ∧ ∀ g, Value.ownBlock (.slice ad N cap) = some g → ¬ x'.own q g) := ⟨x, A.ran (by omega), ho, hoff⟩
 clear A hn hv ho hoff hN
 go_enter Tryz.func71, Tryz.ntmps71
 go_wp2
 go_loopg [10] N (fun gg i wr => ∃ j : Nat, j + gg = N ∧ i = .int .i64 (j : Int) ∧ Hid (∃ x', VRan noB w0 lim I k iv q x (x.n + 4 * j) (chAll V (L.take j)) y x' wr ∧ Own encP 62 wr base (.slice ad N cap) L ∧ ∀ g, Value.ownBlock (.slice ad N cap) = some g → ¬ x'.own q g))
 case atStart => exact ⟨0, by omega, rfl, HST.out⟩
 case round =>
  clear HST
  obtain ⟨j, hjg, rfl, HE⟩ := hrel
  cases gk with
  | zero =>
   have hjN : ¬ (j : Int) < (N : Int) := by omega
   have HF : Hid (L.take j = L ∧ j = N) := ⟨List.take_of_length_le (by have := HN.out; omega), by omega⟩
   go_wp2_with fail
   go_ret
   obtain ⟨x', T, -⟩ := HE.out
   rw [HF.out.1, HF.out.2] at T
   exact ⟨rfl, x', T⟩
  | succ gg =>
   have hjI : (j : Int) < (N : Int) := by omega
   have hj0 : (0 : Int) ≤ (j : Int) := by omega
   have hjb : (j : Int) ≤ 5000 := by have := HN.out; omega
   have hjl : j < L.length := by have := HN.out; omega
   obtain ⟨x', T, o, f⟩ := HE.out
   obtain ⟨g, rfl⟩ : ∃ g, ad = some ⟨g, 0, none⟩ := by
    rcases o.2 with ⟨e, h0⟩ | ⟨g, cap', cur, e, _⟩
    · omega
    · cases e; exact ⟨g, rfl⟩
   have hr : wr.rangeAt g (0 + j * 25) (encP.c L[j]) := by
    obtain ⟨g', off', e1, _, hr⟩ := SlB.at o.slB j hjl
    cases e1
    exact hr
   rw [Nat.zero_add] at hr
   have HTK : Hid (L.take (j + 1) = L.take j ++ [L[j]]) := (show _ = _ from List.take_succ_eq_append_getElem hjl)
   have hvj := HV.out _ (List.getElem_mem hjl)
   generalize L[j] = p at *
   have BX : ∀ {z : World}, Below wr.heap.size wr z → Calls Tryz.prog 112 #[.pointer (some ⟨q, 0, none⟩), .agg (encP.c p).toArray] z fun e y' => e = .returned (.int .i64 0) ∧ ∃ x'', VRan noB w0 lim I k iv q x (x.n + 4 * (j + 1)) (chAll V (L.take (j + 1))) y x'' y' ∧ Own encP 62 y' base (.slice (some ⟨g, 0, none⟩) N cap) L ∧ ∀ i, Value.ownBlock (.slice (some ⟨g, 0, none⟩) N cap) = some i → ¬ x''.own q i := fun {z} hz => by
    have T1 := T.called HD.out hz
    have o1 := o.below hz
    refine (cset_calls HD.out w0 z k q x' _ T1.at_ (by have := T.n; have := HN.out; omega) p hvj).mono fun e y' r => ⟨r.1, ?_⟩
    obtain ⟨x'', T2⟩ := r.2
    have T3 := T1.trans (nb' := x.n + 4 * (j + 1)) ⟨T2.at_, T2.fr, T2.own, by have := T2.n; have := T.n; omega⟩
    rw [HTK.out, chAll_snoc]
    refine ⟨x'', T3, ?_⟩
    have hb : ∀ i, Value.ownBlock (.slice (some ⟨g, 0, none⟩) N cap) = some i → i < z.heap.size := fun i hi => (o1.lt i hi).2
    exact ⟨o1.same fun i hi => T2.fr.block i (hb i hi) (fun e => e.elim (f i hi) (fun e => e)), fun i hi e => (T2.own i e).elim (f i hi) (fun e => by have := hb i hi; omega)⟩
   have HBX : Hid (∀ {z : World}, Below wr.heap.size wr z → Calls Tryz.prog 112 #[.pointer (some ⟨q, 0, none⟩), .agg (encP.c p).toArray] z fun e y' => e = .returned (.int .i64 0) ∧ ∃ x'', VRan noB w0 lim I k iv q x (x.n + 4 * (j + 1)) (chAll V (L.take (j + 1))) y x'' y' ∧ Own encP 62 y' base (.slice (some ⟨g, 0, none⟩) N cap) L ∧ ∀ i, Value.ownBlock (.slice (some ⟨g, 0, none⟩) N cap) = some i → ¬ x''.own q i) := BX
   clear T o f BX hjl hvj HE
   go_upto_region 4 with (first
    | (refine load_el elP _ rfl g (j * 25) rfl rfl p hr ?_)
    | (refine store_el elP rfl _ _ rfl wr.heap.size rfl p rfl pa0 (InB.new encP _ wr pa0 _ rfl) ?_; intro x1 hu1 tx1 sx1))
   have BX : Below wr.heap.size wr x1 := ((Below.refl _ wr).alloc (Nat.le_refl _) _).trans (tx1.below (by simp) (Nat.le_refl _) (by simp))
   have hC := HBX.out BX
   have hu2 := hu1
   clear HBX BX tx1 sx1 hr
   go_wp2_with (first
    | (refine load_el elP _ rfl wr.heap.size 0 rfl rfl p hu2.range ?_)
    | (go_at_call 112; refine hC.mono ?_; clear hC; rintro e y2 ⟨rfl, hE2⟩))
   go_roundg gg
   case measure => omega
   exact ⟨j + 1, by omega, by simp, hE2⟩
end
end
section
open Go.RowKit
section
variable {lim : Nat} {I : Nat → World → Prop} {iv : Value} {ge : Kz → List UInt8 × Bool × Int} {sn : Sp → List Pa × Int}
def Pc.whole (p : Pc) : Bool := decide (p.tt - p.fr = 32)
structure Pc.ok (p : Pc) : Prop where
 f0 : 0 ≤ p.fr
 ft : p.fr ≤ p.tt
 t32 : p.tt ≤ 32
theorem former_whole (y : World) (q : Nat) (K : Kz) (p : Pc) (hp : p.ok) (hw : p.whole = true) :
    Calls Tryz.prog 68 #[.pointer (some ⟨q, 0, none⟩), kv K.k, pcv p] y fun e y' => e = .returned (.tuple #[.string (str (fullP [])), .int .i64 0]) ∧ Below y.heap.size y y' := by
 have hW := fun z => pwhole_calls p hp.f0 hp.ft hp.t32 z
 have hw' : decide (p.tt - p.fr = 32) = true := hw
 rw [hw'] at hW
 have hF := fun z => full_calls z []
 obtain ⟨a, b, c, d⟩ := p
 change Calls Tryz.prog 68 #[.pointer (some ⟨q, 0, none⟩), kv K.k, .agg #[.int .i64 a, .int .i64 b, .int .i64 c, .int .i64 d]] y fun e y' => e = .returned (.tuple #[.string (str (fullP [])), .int .i64 0]) ∧ Below y.heap.size y y'
 have hW2 : ∀ z, Calls Tryz.prog 107 #[.agg #[.int .i64 a, .int .i64 b, .int .i64 c, .int .i64 d]] z fun e w' => e = .returned (.bool true) ∧ Below z.heap.size z w' := hW
 have HB : Hid (Below y.heap.size y ((y.alloc (.cells (bc K.k).toArray 54)).alloc (.cells #[.int .i64 a, .int .i64 b, .int .i64 c, .int .i64 d] 122))) := ((Below.refl _ y).alloc (Nat.le_refl _) _).alloc (by simp) _
 clear hW hw hw' hp
 go_enter Tryz.func68, Tryz.ntmps68
 go_wp2_with (first
  | (go_at_call 107; refine (hW2 _).mono ?_; rintro e y2 ⟨rfl, b2⟩)
  | (go_at_call 82; refine (hF _).mono ?_; rintro e y3 ⟨rfl, b3⟩))
 go_ret2
 exact ⟨rfl, HB.out.trans ((b2.trans (b3.mono b2.size)).mono HB.out.size)⟩
theorem former_part (D : Baser lim noB I iv ge sn) (w0 y : World) (k q : Nat) (x : VR) (V : VS) (A : VAt w0 lim I (k + 1) iv q x V y) (hn : x.n ≤ 5000) (K : Kz) (p : Pc) (hp : p.ok) (hw : p.whole = false) :
    Calls Tryz.prog 68 #[.pointer (some ⟨q, 0, none⟩), kv K.k, pcv p] y fun e y' => e = .returned (.tuple #[.string (str (fullP (getV V.C ge K).1)), .int .i64 (getV V.C ge K).2.2]) ∧ VRan noB w0 lim I k iv q x (x.n + 4) (getW V K) y { x with n := x.n + 1 } y' := by
 have hW := fun z => pwhole_calls p hp.f0 hp.ft hp.t32 z
 have hw' : decide (p.tt - p.fr = 32) = false := hw
 rw [hw'] at hW
 have HD : Hid (Baser lim noB I iv ge sn) := D
 obtain ⟨a, b, c, d⟩ := p
 change Calls Tryz.prog 68 #[.pointer (some ⟨q, 0, none⟩), kv K.k, .agg #[.int .i64 a, .int .i64 b, .int .i64 c, .int .i64 d]] y fun e y' => e = .returned (.tuple #[.string (str (fullP (getV V.C ge K).1)), .int .i64 (getV V.C ge K).2.2]) ∧ VRan noB w0 lim I k iv q x (x.n + 4) (getW V K) y { x with n := x.n + 1 } y'
 have hW2 : ∀ z, Calls Tryz.prog 107 #[.agg #[.int .i64 a, .int .i64 b, .int .i64 c, .int .i64 d]] z fun e w' => e = .returned (.bool false) ∧ Below z.heap.size z w' := hW
 have HB : Hid (Below y.heap.size y ((y.alloc (.cells (bc K.k).toArray 54)).alloc (.cells #[.int .i64 a, .int .i64 b, .int .i64 c, .int .i64 d] 122))) := ((Below.refl _ y).alloc (Nat.le_refl _) _).alloc (by simp) _
 have HK : Hid (Has ((y.alloc (.cells (bc K.k).toArray 54)).alloc (.cells #[.int .i64 a, .int .i64 b, .int .i64 c, .int .i64 d] 122)) y.heap.size K.k) := (Has.new y K.k K.h).alloc _
 have HA : Hid (VAt w0 lim I (k + 1) iv q x V y ∧ x.n ≤ 5000) := ⟨A, hn⟩
 clear hW hw hw' hp A D hn
 go_enter Tryz.func68, Tryz.ntmps68
 go_upto_region 3 with (go_at_call 107; refine (hW2 _).mono ?_; rintro e y2 ⟨rfl, b2⟩)
 have HB2 : Hid (Below y.heap.size y y2) := HB.out.trans (b2.mono HB.out.size)
 have hk2 : Has y2 y.heap.size K.k := HK.out.below b2 HK.out.lt
 have hG : Calls Tryz.prog 108 #[.pointer (some ⟨q, 0, none⟩), kv K.k] y2 fun e y' => e = .returned (.tuple #[.string (str (getV V.C ge K).1), .bool (getV V.C ge K).2.1, .int .i64 (getV V.C ge K).2.2]) ∧ VTo noB w0 lim I k iv q x (getW V K) y2 { x with n := x.n + 1 } y' := VAt.get HD.out (HA.out.1.called HD.out HB2.out) (fun i hi => hi.elim) (by have := HA.out.2; omega) K
 clear b2 hW2
 go_upto_region 4 with (first
  | (refine load_key _ rfl y.heap.size rfl rfl K.k hk2 ?_)
  | (go_at_call 108; refine hG.mono ?_; clear hG; rintro e y3 ⟨rfl, T⟩))
 have hF := full_calls y3 (getV V.C ge K).1
 have HT : Hid (VTo noB w0 lim I k iv q x (getW V K) y2 { x with n := x.n + 1 } y3) := T
 clear T hk2
 generalize hg1 : (getV V.C ge K).1 = g1 at *
 generalize (getV V.C ge K).2.1 = g2 at *
 generalize hg3 : (getV V.C ge K).2.2 = g3 at *
 have HG : Hid ((getV V.C ge K).1 = g1 ∧ (getV V.C ge K).2.2 = g3) := ⟨hg1, hg3⟩
 clear hg1 hg3
 go_wp2_with (go_at_call 82; refine hF.mono ?_; clear hF; rintro e y4 ⟨rfl, b4⟩)
 go_ret2
 have T4 : VRan noB w0 lim I k iv q x (x.n + 4) (getW V K) y2 { x with n := x.n + 1 } y4 := (HT.out.ran (Nat.le_refl _)).called HD.out b4
 refine ⟨by rw [HG.out.1, HG.out.2]; rfl, T4.at_, (FrV.of_below (S := fun i => x.own q i ∨ noB i) HB2.out).trans T4.fr (fun i e => .inl e), fun i hi => (T4.own i hi).imp id (fun e => Nat.le_trans HB2.out.size e), by show x.n + 1 ≤ x.n + 4; omega⟩
end
def pIx (off k : Nat) : Nat := 32 * (off / 32 + k) - off
def pFr (off k : Nat) : Nat := (off + pIx off k) % 32
def pTt (off n k : Nat) : Nat := min (pFr off k + (n - pIx off k)) 32
def pcK (off n k : Nat) : Pc := ⟨((off / 32 + k : Nat) : Int), (pFr off k : Int), (pTt off n k : Int), (pIx off k : Int)⟩
def pN (off n : Nat) : Nat := if n = 0 then 0 else (off + n - 1) / 32 - off / 32 + 1
theorem pIx_zero (off : Nat) : pIx off 0 = 0 := by unfold pIx; omega
theorem pIx_place (off k : Nat) : (off + pIx off k) / 32 = off / 32 + k := by
 unfold pIx
 rcases Nat.eq_zero_or_pos k with rfl | h
 · rw [show 32 * (off / 32 + 0) - off = 0 by omega]; omega
 · rw [show off + (32 * (off / 32 + k) - off) = 32 * (off / 32 + k) by omega]; omega
theorem pIx_lt {off n k : Nat} : pIx off k < n ↔ k < pN off n := by
 unfold pIx pN
 rcases Nat.eq_zero_or_pos n with rfl | h
 · simp
 · rw [if_neg (by omega)]
   omega
theorem pIx_next {off n k : Nat} (h : k < pN off n) : pIx off k + (pTt off n k - pFr off k) = min (pIx off (k + 1)) n := by
 have h1 := pIx_lt.2 h
 unfold pTt pFr
 have h2 := pIx_place off k
 have h3 : pIx off (k + 1) = 32 * (off / 32 + k + 1) - off := by unfold pIx; rw [Nat.add_assoc]
 omega
theorem pcK_ok {off n k : Nat} (h : k < pN off n) : (pcK off n k).ok ∧ pFr off k < pTt off n k := by
 have h1 := pIx_lt.2 h
 have h2 : pFr off k < pTt off n k := by unfold pTt pFr; omega
 have h3 : pTt off n k ≤ 32 := by unfold pTt; omega
 exact ⟨⟨by show (0 : Int) ≤ (pFr off k : Int); omega, by show (pFr off k : Int) ≤ (pTt off n k : Int); omega, by show (pTt off n k : Int) ≤ 32; omega⟩, h2⟩
end
section
open Go.RowKit
def KpO (o : Obj) : Prop := ∃ c t f, o = .cells c t f ∧ (t = 3 ∨ t = 122)
theorem KpO.mk (c : Array Value) (t : TypeId) (f : Nat × Nat) (h : t = 3 ∨ t = 122) : KpO (.cells c t f) := ⟨c, t, f, rfl, h⟩
def KpC (S : Nat → Prop) (W W' : World) : Prop := W.heap.size ≤ W'.heap.size ∧ ∀ b o, W.heap[b]? = some o → KpO o → ¬ S b → W'.heap[b]? = some o
theorem kpC_t {S : Nat → Prop} {X Y Z : World} (h : KpC S X Y) (k : KpC S Y Z) : KpC S X Z := ⟨Nat.le_trans h.1 k.1, fun b o hb hc hs => k.2 b o (h.2 b o hb hc hs) hc hs⟩
theorem kpC_b {S : Nat → Prop} {n : Nat} (W : World) (l : Nat) (o o' : Obj) (_ : n ≤ l) (h : W.heap[l]? = some o) (hc : o.isCells = false) (_ : o.isWalk = false) : KpC S W (W.putObj l o') :=
 ⟨(grownBy_putObj' W l o').size, fun b o2 hb h2 _ => (World.putObj_heap_other (fun e => by subst e; rw [h] at hb; cases hb; obtain ⟨c, t, f, rfl, -⟩ := h2; cases hc)).trans hb⟩
theorem KpC.of_frv {S : Nat → Prop} {W W' : World} (h : FrV S W W') : KpC S W W' := ⟨h.size, fun b o hb _ hs => (h.block b (lt_of_block hb) hs).trans hb⟩
theorem KpC.of_kept {b : Nat} {W W' : World} (hs : W.heap.size ≤ W'.heap.size) (h : Lib.OthersKept 5 (some b) W W') : KpC (fun i => i = b) W W' :=
 ⟨hs, fun k o hk ho hn => by obtain ⟨c, t, f, rfl, ht⟩ := ho; exact h k _ hk (fun e => hn (by cases e; rfl)) (fun c fz e => by cases e; revert ht; decide)⟩
theorem KeepsFrom.of_kept {B b : Nat} {W W' : World} (hs : W.heap.size ≤ W'.heap.size) (hb : ∃ c t f, W.heap[b]? = some (.cells c t f)) (h : Lib.OthersKept 5 (some b) W W') : KeepsFrom B W W' :=
 ⟨hs, fun k o _ hk hc => h k o hk (fun e => by cases e; obtain ⟨c, t, f, q⟩ := hb; rw [q] at hk; cases hk; cases hc) (fun c fz e => by subst e; cases hc)⟩
theorem KeepsFrom.of_below {B : Nat} {W W' : World} (h : Below W.heap.size W W') : KeepsFrom B W W' := ⟨h.size, fun k _ _ hk _ => (h.block k (lt_of_block hk)).trans hk⟩
theorem KpC.of_grown {S : Nat → Prop} {W W' : World} {row : Option Nat} (h : W.grownBy W' row) (hr : ∀ g, row = some g → ∃ c t f, W.heap[g]? = some (.cells c t f) ∧ t ≠ 3 ∧ t ≠ 122) : KpC S W W' :=
 ⟨h.size, fun k o hk ho _ => (h.block k (lt_of_block hk) (fun e => by
  obtain ⟨c, t, f, q, h1, h2⟩ := hr k e.symm
  obtain ⟨c', t', f', rfl, ht⟩ := ho
  rw [q] at hk
  cases hk
  exact ht.elim h1 h2)).trans hk⟩
theorem KeepsFrom.of_cells {B : Nat} {W W' : World} {row : Option Nat} (h : W.grownBy W' row) (hr : ∀ g, row = some g → ∃ c t f, W.heap[g]? = some (.cells c t f)) : KeepsFrom B W W' :=
 ⟨h.size, fun k o _ hk hc => (h.block k (lt_of_block hk) (fun e => by obtain ⟨c, t, f, q⟩ := hr k e.symm; rw [q] at hk; cases hk; cases hc)).trans hk⟩
theorem grown_none {W W' : World} (h : Below W.heap.size W W') : W.grownBy W' none := ⟨h.os, h.tape, h.output, h.size, fun k hk _ => h.block k hk⟩
def pcM (off n x : Nat) : Pc := pcK off n (min x (pN off n - 1))
theorem pcM_at {off n x : Nat} (h : x < pN off n) : pcM off n x = pcK off n x := by unfold pcM; rw [Nat.min_eq_left (by omega)]
theorem pieces1_in (m : Nat) (hm : 2 ≤ m) (l B1 B2 off n Bs : Nat) (ho : off ≤ 1048576) (hn : n ≤ 1048576) (S : Nat → Prop) (hS1 : ¬ S B1) (hS2 : ¬ S B2) (hS : ∀ i, S i → i < Bs) (J Jx : List Nat → World → Prop) (W : World) (hBs : Bs ≤ W.heap.size)
    (hJ : AbidesFrom W.heap.size J)
    (hY : ∀ pre (x : Nat) W, J pre W → pre.length < pN off n → YieldAt Fence.wide (m - 1) Tryz.prog l #[pcv (pcM off n x)] W fun e W' =>
     (e = .returned (.bool true) ∧ J (pre ++ [x]) W' ∧ KpC S W W') ∨ (e = .returned (.bool false) ∧ Jx (pre ++ [x]) W'))
    (c1 : W.heap[B1]? = some (.cells #[.int .i64 (n : Int)] 3 (0, 0))) (c2 : W.heap[B2]? = some (.cells #[.int .i64 (off : Int)] 3 (0, 0))) (h0 : J [] W) :
    CallsIn Fence.wide m Tryz.prog 104 #[.func (.yield l) #[] #[], .pointer (some ⟨B1, 0, none⟩), .pointer (some ⟨B2, 0, none⟩)] W fun e W' => (∃ v, e = .returned v) ∧
      ((∃ xs, xs = List.range (pN off n) ∧ J xs W') ∨ (∃ pre, (∃ k, k ≤ pN off n ∧ pre = List.range k) ∧ Jx pre W')) := by
 have H1 : Hid (∀ wr, KpC S W wr → wr.cell? ⟨B1, 0, none⟩ = some (.int .i64 (n : Int))) := fun wr h => by rw [cell_of_row _ _ _ _ _ _ (h.2 B1 _ c1 (KpO.mk _ _ _ (by decide)) hS1)]; rfl
 have H2 : Hid (∀ wr, KpC S W wr → wr.cell? ⟨B2, 0, none⟩ = some (.int .i64 (off : Int))) := fun wr h => by rw [cell_of_row _ _ _ _ _ _ (h.2 B2 _ c2 (KpO.mk _ _ _ (by decide)) hS2)]; rfl
 have hK0 : KpC S W W := ⟨Nat.le_refl _, fun _ _ h _ _ => h⟩
 clear c1 c2
 refine callsIn_of_wp Tryz.func104 rfl trivial ?_ rfl
 simp only [Tryz.ntmps104, List.size_toArray, List.length_cons, List.length_nil, Nat.reduceAdd, Nat.reduceSub, Array.replicate_succ, Array.replicate_zero, List.push_toArray, List.append_toArray, List.nil_append, List.cons_append]
 gi_wp2
 gi_loopw [4] (fun i wr => ∃ k : Nat, k ≤ pN off n ∧ i = .int .i64 ((min (pIx off k) n : Nat) : Int) ∧ J (List.range k) wr ∧ KpC S W wr)
   (fun i _ => ((n : Int) - intOf i).toNat)
 case atStart => exact ⟨0, Nat.zero_le _, by rw [pIx_zero]; simp, h0, hK0⟩
 case round =>
  obtain ⟨k, hk, rfl, hJs, hkp⟩ := hrel
  have hc1 := H1.out wr hkp
  by_cases hkn : k < pN off n
  · have hlt := pIx_lt.2 hkn
    have hc2 := H2.out wr hkp
    rw [Nat.min_eq_left (Nat.le_of_lt hlt)]
    have hnx := pIx_next hkn
    have hok := (pcK_ok hkn).1
    have hpp := pcM_at hkn
    have hY1 := hY (List.range k) k
    rw [hpp] at hY1
    have HNX : Hid (min (pIx off (k + 1)) n = pIx off k + (pTt off n k - pFr off k) ∧ pFr off k < pTt off n k) := ⟨hnx.symm, (pcK_ok hkn).2⟩
    have hP := fun w => pieceAt_calls ((off : Int) + (pIx off k : Int)) ((n : Int) - (pIx off k : Int)) (by omega) (by omega) (by omega) (by omega) w
    have hpl := pIx_place off k
    have hS1 := fun w => psize_calls (pcK off n k) hok.f0 hok.ft hok.t32 w
    have e1 : ((off : Int) + (pIx off k : Int)) / 32 = ((off / 32 + k : Nat) : Int) := by omega
    have e2 : ((off : Int) + (pIx off k : Int)) % 32 = (pFr off k : Int) := by unfold pFr; omega
    have e3 : min ((pFr off k : Int) + ((n : Int) - (pIx off k : Int))) 32 = (pTt off n k : Int) := by unfold pTt; omega
    simp only [e1, e2, e3] at hP
    have hpc : pcK off n k = ⟨((off / 32 + k : Nat) : Int), (pFr off k : Int), (pTt off n k : Int), (pIx off k : Int)⟩ := rfl
    rw [hpc] at hS1 hY1
    have hltI : (pIx off k : Int) < (n : Int) := by omega
    have hoI : (0 : Int) ≤ (off : Int) ∧ (off : Int) ≤ 1048576 := by omega
    have hnI : (0 : Int) ≤ (n : Int) ∧ (n : Int) ≤ 1048576 := by omega
    have hxI : (0 : Int) ≤ (pIx off k : Int) := by omega
    clear hpl e1 e2 e3 hpc hok hnx hlt hpp
    generalize hA : ((off / 32 + k : Nat) : Int) = a at *
    generalize hB : (pFr off k : Int) = b at *
    generalize hC : (pTt off n k : Int) = c at *
    generalize hD : (pIx off k : Int) = d at *
    have hP2 : ∀ w, Calls Tryz.prog 105 #[.int .i64 ((off : Int) + d), .int .i64 ((n : Int) - d)] w fun e w' => e = .returned (.agg #[.int .i64 a, .int .i64 b, .int .i64 c, .int .i64 0]) ∧ Below w.heap.size w w' := hP
    have hS2 : ∀ w, Calls Tryz.prog 106 #[.agg #[.int .i64 a, .int .i64 b, .int .i64 c, .int .i64 d]] w fun e w' => e = .returned (.int .i64 (c - b)) ∧ Below w.heap.size w w' := hS1
    clear hP hS1
    gi_wp2
    refine ⟨trivial, fun _ => by omega, (callsIn_wide.2 (hP2 _)).mono ?_⟩
    rintro e w1 ⟨rfl, b1⟩
    gi_wp2
    have hbw : Below wr.heap.size wr (w1.alloc (.cells #[.int .i64 a, .int .i64 b, .int .i64 c, .int .i64 d] 122)) := b1.trans (((Below.refl _ w1).alloc (Nat.le_refl _) _).mono b1.size)
    obtain ⟨fn, tmps, assign, body, hy, hR⟩ := hY1 _ (hJ _ _ _ none hJs (grown_none hbw) (fun r e => by cases e)) (by rw [List.length_range]; exact hkn)
    have hy2 : Sem.run Tryz.prog (Instr.yield l #[.agg #[.int .i64 a, .int .i64 b, .int .i64 c, .int .i64 d]]) (w1.alloc (.cells #[.int .i64 a, .int .i64 b, .int .i64 c, .int .i64 d] 122)) = .ok (.round l fn tmps assign body) (w1.alloc (.cells #[.int .i64 a, .int .i64 b, .int .i64 c, .int .i64 d] 122)) := hy
    rw [hy2]
    have hsz : w1.heap.size < (w1.alloc (.cells #[.int .i64 a, .int .i64 b, .int .i64 c, .int .i64 d] 122)).heap.size := by simp
    have hpn : (w1.alloc (.cells #[.int .i64 a, .int .i64 b, .int .i64 c, .int .i64 d] 122)).heap[w1.heap.size]? = some (.cells #[.int .i64 a, .int .i64 b, .int .i64 c, .int .i64 d] 122 (0, 0)) := heap_alloc_new _ _
    have hkw : KpC S W (w1.alloc (.cells #[.int .i64 a, .int .i64 b, .int .i64 c, .int .i64 d] 122)) := kpC_t hkp (KpC.of_frv (FrV.of_below hbw))
    have hnS : ¬ S w1.heap.size := fun e => by have := hS _ e; have := hkp.1; have := b1.size; omega
    clear hy hy2 hc1 hc2
    gi_wp2
    refine ⟨fun _ => by omega, hR.mono ?_⟩
    clear hR
    rintro e W3 (⟨rfl, hJ3, hk3⟩ | ⟨rfl, hJx3⟩)
    · have hp3 := hk3.2 _ _ hpn (KpO.mk _ _ _ (by decide)) hnS
      have hc0 : W3.cell? ⟨w1.heap.size, 0, none⟩ = some (.int .i64 a) := by rw [cell_of_row _ _ _ _ _ _ hp3]; rfl
      have hc1 : W3.cell? ⟨w1.heap.size, 1, none⟩ = some (.int .i64 b) := by rw [cell_of_row _ _ _ _ _ _ hp3]; rfl
      have hc2 : W3.cell? ⟨w1.heap.size, 2, none⟩ = some (.int .i64 c) := by rw [cell_of_row _ _ _ _ _ _ hp3]; rfl
      have hc3 : W3.cell? ⟨w1.heap.size, 3, none⟩ = some (.int .i64 d) := by rw [cell_of_row _ _ _ _ _ _ hp3]; rfl
      have hcb : 0 < c - b ∧ c - b ≤ 32 := by have := HNX.out.2; have h32 : pTt off n k ≤ 32 := Nat.min_le_right _ _; omega
      gi_wp2
      refine ⟨trivial, fun _ => by omega, (callsIn_wide.2 (hS2 _)).mono ?_⟩
      rintro e W4 ⟨rfl, b4⟩
      have hd2 : IntKind.i64.wrap (d + (c - b)) = d + (c - b) := by rw [IntKind.wrap_i64]; omega
      gi_wp2
      go_roundw
      case rel => exact ⟨k + 1, hkn, (by have := HNX.out; rw [this.1]; congr 1; omega), by rw [List.range_succ]; exact hJ _ _ _ none hJ3 (grown_none b4) (fun r e => by cases e), kpC_t (kpC_t hkw hk3) (KpC.of_frv (FrV.of_below b4))⟩
      case measure => simp only [intOf]; omega
    · gi_wp2
      refine bodyPost_ret (results_none rfl _ _ _) rfl ?_
      exact ⟨⟨_, rfl⟩, .inr ⟨_, ⟨k + 1, hkn, List.range_succ.symm⟩, hJx3⟩⟩
  · obtain rfl : k = pN off n := by omega
    have hge : n ≤ pIx off (pN off n) := Nat.not_lt.1 (fun e => Nat.lt_irrefl _ (pIx_lt.1 e))
    rw [Nat.min_eq_right hge]
    gi_wp2
    go_end0
    exact ⟨⟨_, rfl⟩, .inl ⟨_, rfl, hJs⟩⟩
theorem pieces_calls (w : World) (off n : Int) :
    Calls Tryz.prog 66 #[.int .i64 off, .int .i64 n] w fun e w' => e = .returned (.func (.func 104) #[] #[.pointer (some ⟨w.heap.size + 1, 0, none⟩), .pointer (some ⟨w.heap.size, 0, none⟩)]) ∧ w' = (w.alloc (.cells #[.int .i64 off] 3)).alloc (.cells #[.int .i64 n] 3) := by
 go_enter Tryz.func66, Tryz.ntmps66
 go_wp2
 go_ret
 exact ⟨rfl, rfl⟩
theorem pieces_stops (m : Nat) (hm : 2 ≤ m) (B1 B2 off n Bs : Nat) (ho : off ≤ 1048576) (hn : n ≤ 1048576) (S : Nat → Prop) (hS1 : ¬ S B1) (hS2 : ¬ S B2) (hS : ∀ i, S i → i < Bs) (w : World) (hBs : Bs ≤ w.heap.size) (h1 : B1 < w.heap.size) (h2 : B2 < w.heap.size)
    (c1 : w.heap[B1]? = some (.cells #[.int .i64 (n : Int)] 3 (0, 0))) (c2 : w.heap[B2]? = some (.cells #[.int .i64 (off : Int)] 3 (0, 0))) :
    SeqStopsK Fence.wide m Tryz.prog 104 #[.pointer (some ⟨B1, 0, none⟩), .pointer (some ⟨B2, 0, none⟩)] (fun x : Nat => #[pcv (pcM off n x)]) (KpC S) (fun xs => xs = List.range (pN off n)) (fun pre => ∃ k, k ≤ pN off n ∧ pre = List.range k) (pN off n) w := fun l J Jx W hW hJ _ hY h0 =>
 pieces1_in m hm l B1 B2 off n Bs ho hn S hS1 hS2 hS J Jx W (Nat.le_trans hBs hW.size) hJ hY ((hW.block B1 h1).trans c1) ((hW.block B2 h2).trans c2) h0
end
end Go.Proofs.YtdmindhjmjnagaaGreatDoor
