import Derived.Test.YtdmindhjmjnagabGreatDoorSi
import Derived.Test.YtdmindhjmjnagabGreatDoorB33
import Derived.Test.YtdmindhjmjnagabGreatDoorB22
import Derived.Test.YtdmindhjmjnagabGreatDoorB03
import Derived.Test.YtdmindhjmjnagabGreatDoorB30
import Derived.Test.YtdmindhjmjnagabGreatDoorB14
import Derived.RangeFuncNested
import Derived.RangeFuncBound
import Derived.RangeFuncCalls
import Derived.RangeFuncLeaves
/- chunk: valueOf, between, set, setAll, former. -/
namespace Go.Proofs.YtdmindhjmjnagabGreatDoor
set_option linter.unusedVariables false
set_option maxRecDepth 100000
open Go.RowKit

/-- What stands under a key in a map, or nothing. -/
def valL (L : List Pa) (K : Kz) : List UInt8 := match look Pa.n L K.n with
  | some p => p.v
  | none => []
set_option maxHeartbeats 4000000 in
theorem valueOf_calls (w : World) (u : Value) (L : List Pa) (K : Kz) (h : Sl encP w u L) (ha : Asc Pa.n L) (hl : L.length ≤ 100000) :
    Calls Tryz.prog 41 #[u, kv K.k] w fun e w' => e = .returned (.string (str (valL L K))) ∧ Below w.heap.size w w' := by
  have b1 : Below w.heap.size w (w.alloc (.cells (bc K.k).toArray 31)) := (Below.refl _ w).alloc (Nat.le_refl _) _
  have hk1 : Has (w.alloc (.cells (bc K.k).toArray 31)) w.heap.size K.k := Has.new w K.k K.h
  have h1 := h.called b1
  have hF := cbsearch_calls _ u L K h1 ha hl
  have HB : Hid (Below w.heap.size w (w.alloc (.cells (bc K.k).toArray 31))) := b1
  have HLK := hitA_look Pa.n K.n ha
  obtain ⟨ad, cap, rfl, hcap, hmax, -, -⟩ := id h1
  cases hh : hitA Pa.n L K.n with
  | false =>
    rw [hh] at hF HLK
    have HL : Hid (look Pa.n L K.n = none) := (show _ = _ by simpa using HLK)
    generalize posA Pa.n L K.n = pos at *
    clear h h1 b1 HLK hh
    go_enter Tryz.func41, Tryz.ntmps41
    go_wp2_with (first
      | (refine load_key _ rfl w.heap.size rfl rfl K.k hk1 ?_)
      | (go_at_call 68; refine hF.mono ?_; clear hF; rintro e w1 ⟨rfl, b2⟩))
    go_ret
    exact ⟨by unfold valL; rw [HL.out]; rfl, HB.out.trans (b2.mono HB.out.size)⟩
  | true =>
    rw [hh] at hF HLK
    simp only [if_true] at HLK
    have hpos : posA Pa.n L K.n < L.length := by
      unfold hitA at hh
      have := of_decide_eq_true hh
      cases hq : L[posA Pa.n L K.n]? with
      | none => rw [hq] at this; cases this
      | some x => exact (List.getElem?_eq_some_iff.1 hq).1
    rw [List.getElem?_eq_getElem hpos] at HLK
    obtain ⟨g0, off, rfl, hg0, hat⟩ := SlB.at h1 _ hpos
    have hv := (range_vP hat)
    generalize L[posA Pa.n L K.n] = x at *
    have HL : Hid (look Pa.n L K.n = some x) := HLK
    generalize posA Pa.n L K.n = pos at *
    have hpI : (pos : Int) < (L.length : Int) := by omega
    have hp0 : (0 : Int) ≤ (pos : Int) := by omega
    have HC1 : Hid (∀ y, Below (w.alloc (.cells (bc K.k).toArray 31)).heap.size (w.alloc (.cells (bc K.k).toArray 31)) y → y.cell? ⟨g0, off + pos * 25 + 24, none⟩ = some (.string (str x.v))) := fun y hy => (hy.cell (p := ⟨g0, off + pos * 25 + 24, none⟩) hg0).trans hv
    clear h h1 b1 HLK hh hat hv hpos
    go_enter Tryz.func41, Tryz.ntmps41
    go_wp2_with (first
      | (refine load_key _ rfl w.heap.size rfl rfl K.k hk1 ?_)
      | (go_at_call 68; refine hF.mono ?_; clear hF; rintro e w1 ⟨rfl, b2⟩
         have c2 := HC1.out w1 b2
         clear HC1))
    go_ret
    exact ⟨by unfold valL; rw [HL.out]; rfl, HB.out.trans (b2.mono HB.out.size)⟩
theorem run_field_T (F T : List UInt8) (e : Bool) (hF : F.length = 24) (hT : T.length = 24) (w : World) : (Instr.field 33 (sv F T e) 1).run Tryz.prog w = .ok (kv T) w := by
  have hf : (bc F).length = 24 := by rw [bc_length, hF]
  have ht : (bc T).length = 24 := by rw [bc_length, hT]
  have e1 : List.take 24 (List.drop 24 (sc F T e)) = bc T := by
    have q : sc F T e = bc F ++ (bc T ++ [Value.bool e]) := by simp [sc]
    rw [q, ← hf, List.drop_left, hf, ← ht, List.take_left]
  simp [Instr.field, go_sem, asAgg, Result.andThen, e1]
set_option maxHeartbeats 4000000 in
theorem between_calls (ino f l : Int) (w : World) :
    Calls Tryz.prog 38 #[.int .i64 ino, .int .i64 f, .int .i64 l] w fun e w' => e = .returned (sv (chunkR ino f) (oneT (chunkR ino l)) false) ∧ Below w.heap.size w w' := by
  have hK := fun p y => keyOf_calls ino p y
  have hlF := chunkR_length ino f
  have hlT := oneT_length _ (chunkR_length ino l)
  have hO := fun y => one_calls y (chunkR ino l) (chunkR_length ino l)
  have hFd := fun y => run_field_T (chunkR ino l) (oneT (chunkR ino l)) (oneE (chunkR ino l)) (chunkR_length ino l) hlT y
  generalize oneT (chunkR ino l) = TT at *
  generalize oneE (chunkR ino l) = EE at *
  generalize hKf : chunkR ino f = KF at *
  generalize hKl : chunkR ino l = KL at *
  have hKF : ∀ y, Calls Tryz.prog 30 #[.int .i64 ino, .int .i64 f] y fun e w' => e = .returned (kv KF) ∧ Below y.heap.size y w' := fun y => hKf ▸ hK f y
  have hKL : ∀ y, Calls Tryz.prog 30 #[.int .i64 ino, .int .i64 l] y fun e w' => e = .returned (kv KL) ∧ Below y.heap.size y w' := fun y => hKl ▸ hK l y
  clear hK hKf hKl
  go_enter Tryz.func38, Tryz.ntmps38
  go_wp2_with (first
    | (go_at_call 30; have _q := b1; refine (hKL _).mono ?_; rintro e w2 ⟨rfl, b2⟩)
    | (go_at_call 30; refine (hKF _).mono ?_; rintro e w1 ⟨rfl, b1⟩)
    | (go_at_call 62; refine (hO _).mono ?_; rintro e w3 ⟨rfl, b3⟩)
    | (refine build2 rfl _ _ rfl _ _ rfl rfl hlF hlT ?_)
    | (refine store_span rfl _ _ rfl _ rfl _ _ _ rfl hlF hlT (zs 24) (zs 24) false ((((zero_hasS w w.heap.size rfl).below b1 (by simp)).below b2 (by have := b1.size; simp at this; omega)).below b3 (by have := b1.size; have := b2.size; simp at *; omega)) ?_; intro w4 h4 t4 s4))
  refine ret_span rfl _ _ _ _ rfl h4 rfl ⟨rfl, ?_⟩
  exact below_touched (below_called (below_called (below_called (below_made (Below.refl _ w) (Nat.le_refl _) _) b1 (Nat.le_refl _)) b2 (Nat.le_refl _)) b3 (Nat.le_refl _)) t4 (Nat.le_refl _) (Nat.le_refl _)
theorem str_mid (L : List UInt8) (d n : Int) (h0 : 0 ≤ d) (h1 : 0 ≤ n) : (str L).extract d.toNat (d + n).toNat = str ((L.drop d.toNat).take n.toNat) := by
  apply ByteArray.ext
  apply Array.ext'
  rw [ByteArray.data_extract]
  simp only [Array.toList_extract, str_list, List.extract_eq_take_drop]
  congr 1
  omega
set_option maxHeartbeats 2000000 in
/-- The bytes of a piece. -/
theorem pof_calls (p : Pc) (L : List UInt8) (h0 : 0 ≤ p.fr) (h1 : p.fr ≤ p.tt) (h2 : p.tt ≤ 32) (h3 : 0 ≤ p.ix) (h4 : p.ix + (p.tt - p.fr) ≤ L.length) (hL : L.length ≤ 2000000) (w : World) :
    Calls Tryz.prog 33 #[pcv p, .string (str L)] w fun e w' => e = .returned (.string (str ((L.drop p.ix.toNat).take (p.tt - p.fr).toNat))) ∧ Below w.heap.size w w' := by
  have hS := fun y => psize_calls p h0 h1 h2 y
  obtain ⟨a, b, c, d⟩ := p
  dsimp only at h0 h1 h2 h3 h4
  change Calls Tryz.prog 33 #[.agg #[.int .i64 a, .int .i64 b, .int .i64 c, .int .i64 d], .string (str L)] w fun e w' => e = .returned (.string (str ((L.drop d.toNat).take (c - b).toNat))) ∧ Below w.heap.size w w'
  have hS2 : ∀ y, Calls Tryz.prog 50 #[.agg #[.int .i64 a, .int .i64 b, .int .i64 c, .int .i64 d]] y fun e w' => e = .returned (.int .i64 (c - b)) ∧ Below y.heap.size y w' := hS
  clear hS
  have hcut := str_mid L d (c - b) h3 (by omega)
  have hsz : ((str L).size : Int) = (L.length : Int) := by rw [str_size]
  have hw1 : IntKind.i64.wrap (d + (c - b)) = d + (c - b) := by rw [IntKind.wrap_i64]; omega
  have hd1 : d ≤ d + (c - b) := by omega
  have hd2 : d + (c - b) ≤ ((str L).size : Int) := by omega
  have hd3 : (0 : Int) ≤ d + (c - b) := by omega
  have hd4 : d ≤ ((str L).size : Int) := by omega
  have hcut := str_mid L d (c - b) h3 (by omega)
  have hsz : ((str L).size : Int) = (L.length : Int) := by rw [str_size]
  have hw1 : IntKind.i64.wrap (d + (c - b)) = d + (c - b) := by rw [IntKind.wrap_i64]; omega
  have hd1 : d ≤ d + (c - b) := by omega
  have hd2 : d + (c - b) ≤ ((str L).size : Int) := by omega
  have hd3 : (0 : Int) ≤ d + (c - b) := by omega
  have hd4 : d ≤ ((str L).size : Int) := by omega
  go_enter Tryz.func33, Tryz.ntmps33
  go_upto_region 1 with fail
  obtain ⟨w1, hw⟩ : ∃ w1, w1 = w.alloc (.cells #[.int .i64 a, .int .i64 b, .int .i64 c, .int .i64 d] 71) := ⟨_, rfl⟩
  rw [← hw]
  obtain ⟨B, hB⟩ : ∃ B, B = w.heap.size := ⟨_, rfl⟩
  have HBX : Hid (w1.drew.heap[B]? = some (.cells #[.int .i64 a, .int .i64 b, .int .i64 c, .int .i64 d] 71 (0, 0)) ∧ Below w.heap.size w w1.drew ∧ B < w1.drew.heap.size) := by
    rw [hw, hB]
    exact ⟨heap_alloc_new _ _, (Below.refl _ w).alloc (Nat.le_refl _) _ |>.drew, by show w.heap.size < (w.alloc _).heap.size; simp⟩
  have HC : Hid (∀ yy : World, yy.heap[B]? = some (.cells #[.int .i64 a, .int .i64 b, .int .i64 c, .int .i64 d] 71 (0, 0)) → yy.cell? ⟨B, 0, none⟩ = some (.int .i64 a) ∧ yy.cell? ⟨B, 1, none⟩ = some (.int .i64 b) ∧ yy.cell? ⟨B, 2, none⟩ = some (.int .i64 c) ∧ yy.cell? ⟨B, 3, none⟩ = some (.int .i64 d)) := fun yy h => ⟨by rw [cell_of_row _ _ _ _ _ _ h]; rfl, by rw [cell_of_row _ _ _ _ _ _ h]; rfl, by rw [cell_of_row _ _ _ _ _ _ h]; rfl, by rw [cell_of_row _ _ _ _ _ _ h]; rfl⟩
  rw [← hB]
  clear hw hB hsz
  refine wp_region_noPanic ?_
  refine wp_region_held_drew (S := (fun yy => yy.heap[B]? = some (.cells #[.int .i64 a, .int .i64 b, .int .i64 c, .int .i64 d] 71 (0, 0)))) (by kernel_rfl) (HBX.out.1) (fun hHeld => ?_)
  refine wpAnyH_take (i := 0) (v := ?_) rfl (by kernel_rfl) (by kernel_rfl) (by kernel_rfl) (fun _ _ _ h => h) (Or.inl ⟨by rfl, ?_⟩) hHeld ?_
  case refine_2 => (intro w hSw; (try dsimp only at hSw); go_simp; try (with_reducible rfl))
  (try simp only [gs])
  refine wpAnyH_take (i := 1) (v := ?_) rfl (by kernel_rfl) (by kernel_rfl) (by kernel_rfl) (fun _ _ _ h => h) (Or.inl ⟨by rfl, ?_⟩) hHeld ?_
  case refine_2 => (intro w hSw; (try dsimp only at hSw); go_simp; try (with_reducible rfl))
  (try simp only [gs])
  refine wpAnyH_take (i := 2) (v := ?_) rfl (by kernel_rfl) (by kernel_rfl) (by kernel_rfl) (fun _ _ _ h => h) (Or.inl ⟨by rfl, ?_⟩) hHeld ?_
  case refine_2 => (intro w hSw; (try dsimp only at hSw); have hc := (HC.out _ hSw).2.2.2; go_simp; try (with_reducible rfl))
  (try simp only [gs])
  refine wpAnyH_take (i := 3) (v := ?_) rfl (by kernel_rfl) (by kernel_rfl) (by kernel_rfl) (fun _ _ _ h => h) (Or.inl ⟨by rfl, ?_⟩) hHeld ?_
  case refine_2 => (intro w hSw; (try dsimp only at hSw); go_simp; try (with_reducible rfl))
  (try simp only [gs])
  refine wpAnyH_take (i := 4) (v := ?_) rfl (by kernel_rfl) (by kernel_rfl) (by kernel_rfl) (fun _ _ _ h => h) (Or.inl ⟨by rfl, ?_⟩) hHeld ?_
  case refine_2 => (intro w hSw; (try dsimp only at hSw); have hc := (HC.out _ hSw).2.2.2; go_simp; try (with_reducible rfl))
  (try simp only [gs])
  refine wpAnyH_take (i := 5) (v := .agg #[.int .i64 a, .int .i64 b, .int .i64 c, .int .i64 d]) rfl (by kernel_rfl) (by kernel_rfl) (by kernel_rfl) (fun _ _ _ h => h) (Or.inl ⟨by rfl, ?_⟩) hHeld ?_
  case refine_1 => (intro w hSw; (try dsimp only at hSw); obtain ⟨c0, c1, c2, c3⟩ := HC.out _ hSw; go_simp; try (with_reducible rfl))
  (try simp only [gs])
  generalize w1.drew = y0 at *
  refine wpAnyH_ready (rs := [6]) (by kernel_rfl) (by simp) (AllReadyH.cons rfl (fun K0 hK => ?_) AllReadyH.nil)
  rw [if_pos (by rfl)]
  (try simp only [gs])
  go_simp
  refine (hS2 y0).mono ?_
  clear hS2
  rintro e y1 ⟨rfl, b1⟩
  have hkeep : y1.heap[B]? = some (.cells #[.int .i64 a, .int .i64 b, .int .i64 c, .int .i64 d] 71 (0, 0)) := (b1.block B HBX.out.2.2).trans hHeld
  have HB1 : Hid (Below w.heap.size w y1) := HBX.out.2.1.trans (b1.mono HBX.out.2.1.size)
  refine hK.out _ _ hkeep (fun hHeld => ?_)
  clear hK K0 b1 hkeep
  (try simp only [gs])
  refine wpAnyH_take (i := 7) (v := ?_) rfl (by kernel_rfl) (by kernel_rfl) (by kernel_rfl) (fun _ _ _ h => h) (Or.inl ⟨by rfl, ?_⟩) hHeld ?_
  case refine_2 => (intro w hSw; (try dsimp only at hSw); go_simp; try (with_reducible rfl))
  (try simp only [gs])
  refine wpAnyH_take (i := 8) (v := ?_) rfl (by kernel_rfl) (by kernel_rfl) (by kernel_rfl) (fun _ _ _ h => h) (Or.inl ⟨by rfl, ?_⟩) hHeld ?_
  case refine_2 => (intro w hSw; (try dsimp only at hSw); go_simp; try (with_reducible rfl))
  (try simp only [gs])
  refine wpAnyH_take (i := 9) (v := ?_) rfl (by kernel_rfl) (by kernel_rfl) (by kernel_rfl) (fun _ _ _ h => h) (Or.inl ⟨by rfl, ?_⟩) hHeld ?_
  case refine_2 => (intro w hSw; (try dsimp only at hSw); go_simp; try (with_reducible rfl))
  (try simp only [gs])
  refine wpAnyH_done (by kernel_rfl) ?_ _
  refine NoPanic.normal ?_
  clear hHeld
  go_wp2_with fail
  go_ret
  exact ⟨by rw [← hcut]; rfl, HB1.out⟩
end Go.Proofs.YtdmindhjmjnagabGreatDoor
/- chunk: set, setAll. -/
namespace Go.Proofs.YtdmindhjmjnagabGreatDoor
set_option linter.unusedVariables false
set_option maxRecDepth 100000
open Go.RowKit

/-- What a pair's value makes of its key: none without a byte. -/
def chgP (p : Pa) : Ch := if p.v = [] then goneC ⟨p.k, p.h⟩ else ⟨p.k, p.h, p.v, false⟩
def chAll (V : VS) (l : List Pa) : VS := l.foldl (fun V p => V.change (chgP p)) V
theorem chAll_snoc (V : VS) (l : List Pa) (p : Pa) : chAll V (l ++ [p]) = (chAll V l).change (chgP p) := by simp [chAll]
section
variable {lim : Nat} {I : Nat → World → Prop} {iv : Value} {ge : Kz → List UInt8 × Bool × Int} {sn : Sp → List Pa × Int}
set_option maxHeartbeats 2000000 in
theorem cset_calls (D : Baser lim noB I iv ge sn) (w0 y : World) (k q : Nat) (x : VR) (V : VS) (A : VAt w0 lim I k iv q x V y) (hn : x.n ≤ 5000) (p : Pa) (hv : p.v = [] ∨ okV p.v = true) :
    Calls Tryz.prog 57 #[.pointer (some ⟨q, 0, none⟩), .agg (encP.c p).toArray] y fun e y' => e = .returned (.int .i64 0) ∧ ∃ x', VRan noB w0 lim I k iv q x (x.n + 4) (V.change (chgP p)) y x' y' := by
  have h1 : InB encP 76 (y.alloc (.cells (encP.c p).toArray 76)) y.heap.size p := InB.new encP _ y p _ rfl
  have B1 : Below y.heap.size y (y.alloc (.cells (encP.c p).toArray 76)) := (Below.refl _ y).alloc (Nat.le_refl _) _
  have A1 := A.called D B1
  have hBX : ∀ {x' : VR} {V' : VS} {y' : World}, VTo noB w0 lim I k iv q x V' (y.alloc (.cells (encP.c p).toArray 76)) x' y' → VRan noB w0 lim I k iv q x (x.n + 4) V' y x' y' := fun t => ⟨t.at_, (FrV.of_below (S := fun i => x.own q i ∨ noB i) B1).trans t.fr (fun i e => .inl e), fun i hi => (t.own i hi).imp id (fun e => Nat.le_trans B1.size e), t.n⟩
  have HBX : Hid (∀ {x' : VR} {V' : VS} {y' : World}, VTo noB w0 lim I k iv q x V' (y.alloc (.cells (encP.c p).toArray 76)) x' y' → VRan noB w0 lim I k iv q x (x.n + 4) V' y x' y') := hBX
  have hkr : (y.alloc (.cells (encP.c p).toArray 76)).rangeAt y.heap.size 0 (bc p.k) := range_kP h1.range
  have hvc : (y.alloc (.cells (encP.c p).toArray 76)).cell? ⟨y.heap.size, 24, none⟩ = some (.string (str p.v)) := by have := range_vP h1.range; simpa using this
  by_cases hz : p.v = []
  · have hC : chgP p = goneC ⟨p.k, p.h⟩ := by unfold chgP; rw [if_pos hz]
    have hD := VAt.delete D A1 (fun i hi => hi.elim) (by omega) ⟨p.k, p.h⟩
    rw [hz] at hvc
    have hs : ((str ([] : List UInt8)).toList == ([] : List UInt8)) = true := by rw [str_toList]; rfl
    rw [hC]
    clear hv hz hC h1 A1 A B1 hBX
    go_enter Tryz.func57, Tryz.ntmps57
    go_wp2_with (first
      | (refine load_part _ rfl y.heap.size 0 rfl rfl _ p.h hkr ?_)
      | (go_at_call 83; refine hD.mono ?_; clear hD; rintro e y2 ⟨rfl, x', T⟩))
    go_ret
    exact ⟨rfl, x', HBX.out T⟩
  · have hC : chgP p = ⟨p.k, p.h, p.v, false⟩ := by unfold chgP; rw [if_neg hz]
    have hP := VAt.put D A1 (fun i hi => hi.elim) (by omega) ⟨p.k, p.h, p.v, false⟩ rfl (hv.resolve_left hz)
    have hs : ((str p.v).toList == ([] : List UInt8)) = false := by rw [str_toList]; simpa using hz
    rw [hC]
    clear hv hz hC h1 A1 A B1 hBX
    generalize hPV : p.v = PV at *
    go_enter Tryz.func57, Tryz.ntmps57
    go_wp2_with (first
      | (refine load_part _ rfl y.heap.size 0 rfl rfl _ p.h hkr ?_)
      | (go_at_call 84; refine hP.mono ?_; clear hP; rintro e y2 ⟨rfl, x', T⟩))
    go_ret
    exact ⟨rfl, x', HBX.out T⟩
set_option maxRecDepth 100000 in
set_option maxHeartbeats 4000000 in
theorem csetAll_calls (D : Baser lim noB I iv ge sn) (w0 y : World) (k q : Nat) (x : VR) (V : VS) (A : VAt w0 lim I k iv q x V y) (L : List Pa) (hn : x.n + 4 * L.length ≤ 5000) (hv : ∀ p ∈ L, p.v = [] ∨ okV p.v = true) (base : Nat) (u : Value) (ho : Own encP 76 y base u L) (hoff : ∀ g, u.ownBlock = some g → ¬ x.own q g) :
    Calls Tryz.prog 34 #[.pointer (some ⟨q, 0, none⟩), u] y fun e y' => e = .returned (.int .i64 0) ∧ ∃ x', VRan noB w0 lim I k iv q x (x.n + 4 * L.length) (chAll V L) y x' y' := by
  have HD : Hid (Baser lim noB I iv ge sn) := D
  obtain ⟨ad, cap, rfl, hcap, hmax, -, -⟩ := id ho.slB
  obtain ⟨N, hN⟩ : ∃ N : Nat, N = L.length := ⟨_, rfl⟩
  have HN : Hid (N = L.length ∧ x.n + 4 * N ≤ 5000) := ⟨hN, by omega⟩
  rw [← hN] at ho hoff hcap hmax ⊢
  have HV : Hid (∀ p ∈ L, p.v = [] ∨ okV p.v = true) := hv
  have HST : Hid (∃ x', VRan noB w0 lim I k iv q x (x.n + 4 * 0) (chAll V (L.take 0)) y x' y ∧ Own encP 76 y base (.slice ad N cap) L ∧ ∀ g, Value.ownBlock (.slice ad N cap) = some g → ¬ x'.own q g) := ⟨x, A.ran (by omega), ho, hoff⟩
  clear A hn hv ho hoff hN
  go_enter Tryz.func34, Tryz.ntmps34
  go_wp2
  go_loopg [10] N (fun gg i wr => ∃ j : Nat, j + gg = N ∧ i = .int .i64 (j : Int) ∧ Hid (∃ x', VRan noB w0 lim I k iv q x (x.n + 4 * j) (chAll V (L.take j)) y x' wr ∧ Own encP 76 wr base (.slice ad N cap) L ∧ ∀ g, Value.ownBlock (.slice ad N cap) = some g → ¬ x'.own q g))
  case atStart => exact ⟨0, by omega, rfl, HST.out⟩
  case round =>
    clear HST
    obtain ⟨j, hjg, rfl, HE⟩ := hrel
    cases gk with
    | zero =>
      have hjN : ¬ (j : Int) < (N : Int) := by omega
      have HF : Hid (L.take j = L ∧ j = N) := ⟨List.take_of_length_le (by have := HN.out; omega), by omega⟩
      go_wp2_with fail
      go_ret
      obtain ⟨x', T, -⟩ := HE.out
      rw [HF.out.1, HF.out.2] at T
      exact ⟨rfl, x', T⟩
    | succ gg =>
      have hjI : (j : Int) < (N : Int) := by omega
      have hj0 : (0 : Int) ≤ (j : Int) := by omega
      have hjb : (j : Int) ≤ 5000 := by have := HN.out; omega
      have hjl : j < L.length := by have := HN.out; omega
      obtain ⟨x', T, o, f⟩ := HE.out
      obtain ⟨g, rfl⟩ : ∃ g, ad = some ⟨g, 0, none⟩ := by
        rcases o.2 with ⟨e, h0⟩ | ⟨g, cap', cur, e, _⟩
        · omega
        · cases e; exact ⟨g, rfl⟩
      have hr : wr.rangeAt g (0 + j * 25) (encP.c L[j]) := by
        obtain ⟨g', off', e1, _, hr⟩ := SlB.at o.slB j hjl
        cases e1
        exact hr
      rw [Nat.zero_add] at hr
      have HTK : Hid (L.take (j + 1) = L.take j ++ [L[j]]) := (show _ = _ from List.take_succ_eq_append_getElem hjl)
      have hvj := HV.out _ (List.getElem_mem hjl)
      generalize L[j] = p at *
      have BX : ∀ {z : World}, Below wr.heap.size wr z → Calls Tryz.prog 57 #[.pointer (some ⟨q, 0, none⟩), .agg (encP.c p).toArray] z fun e y' => e = .returned (.int .i64 0) ∧ ∃ x'', VRan noB w0 lim I k iv q x (x.n + 4 * (j + 1)) (chAll V (L.take (j + 1))) y x'' y' ∧ Own encP 76 y' base (.slice (some ⟨g, 0, none⟩) N cap) L ∧ ∀ i, Value.ownBlock (.slice (some ⟨g, 0, none⟩) N cap) = some i → ¬ x''.own q i := fun {z} hz => by
        have T1 := T.called HD.out hz
        have o1 := o.below hz
        refine (cset_calls HD.out w0 z k q x' _ T1.at_ (by have := T.n; have := HN.out; omega) p hvj).mono fun e y' r => ⟨r.1, ?_⟩
        obtain ⟨x'', T2⟩ := r.2
        have T3 := T1.trans (nb' := x.n + 4 * (j + 1)) ⟨T2.at_, T2.fr, T2.own, by have := T2.n; have := T.n; omega⟩
        rw [HTK.out, chAll_snoc]
        refine ⟨x'', T3, ?_⟩
        have hb : ∀ i, Value.ownBlock (.slice (some ⟨g, 0, none⟩) N cap) = some i → i < z.heap.size := fun i hi => (o1.lt i hi).2
        exact ⟨o1.same fun i hi => T2.fr.block i (hb i hi) (fun e => e.elim (f i hi) (fun e => e)), fun i hi e => (T2.own i e).elim (f i hi) (fun e => by have := hb i hi; omega)⟩
      have HBX : Hid (∀ {z : World}, Below wr.heap.size wr z → Calls Tryz.prog 57 #[.pointer (some ⟨q, 0, none⟩), .agg (encP.c p).toArray] z fun e y' => e = .returned (.int .i64 0) ∧ ∃ x'', VRan noB w0 lim I k iv q x (x.n + 4 * (j + 1)) (chAll V (L.take (j + 1))) y x'' y' ∧ Own encP 76 y' base (.slice (some ⟨g, 0, none⟩) N cap) L ∧ ∀ i, Value.ownBlock (.slice (some ⟨g, 0, none⟩) N cap) = some i → ¬ x''.own q i) := BX
      clear T o f BX hjl hvj HE
      go_upto_region 4 with (first
        | (refine load_el elP _ rfl g (j * 25) rfl rfl p hr ?_)
        | (refine store_el elP rfl _ _ rfl wr.heap.size rfl p rfl pa0 (InB.new encP _ wr pa0 _ rfl) ?_; intro x1 hu1 tx1 sx1))
      have BX : Below wr.heap.size wr x1 := ((Below.refl _ wr).alloc (Nat.le_refl _) _).trans (tx1.below (by simp) (Nat.le_refl _) (by simp))
      have hC := HBX.out BX
      have hu2 := hu1
      clear HBX BX tx1 sx1 hr
      go_wp2_with (first
        | (refine load_el elP _ rfl wr.heap.size 0 rfl rfl p hu2.range ?_)
        | (go_at_call 57; refine hC.mono ?_; clear hC; rintro e y2 ⟨rfl, hE2⟩))
      go_roundg gg
      case measure => omega
      exact ⟨j + 1, by omega, by simp, hE2⟩
end
end Go.Proofs.YtdmindhjmjnagabGreatDoor
/- chunk: former; pieces, one behind the other. -/
namespace Go.Proofs.YtdmindhjmjnagabGreatDoor
set_option linter.unusedVariables false
set_option maxRecDepth 100000
open Go.RowKit

section
variable {lim : Nat} {I : Nat → World → Prop} {iv : Value} {ge : Kz → List UInt8 × Bool × Int} {sn : Sp → List Pa × Int}
/-- All of its chunk? -/
def Pc.whole (p : Pc) : Bool := decide (p.tt - p.fr = 32)
structure Pc.ok (p : Pc) : Prop where
  f0 : 0 ≤ p.fr
  ft : p.fr ≤ p.tt
  t32 : p.tt ≤ 32
set_option maxHeartbeats 4000000 in
theorem former_whole (y : World) (q : Nat) (K : Kz) (p : Pc) (hp : p.ok) (hw : p.whole = true) :
    Calls Tryz.prog 31 #[.pointer (some ⟨q, 0, none⟩), kv K.k, pcv p] y fun e y' => e = .returned (.tuple #[.string (str (fullP [])), .int .i64 0]) ∧ Below y.heap.size y y' := by
  have hW := fun z => pwhole_calls p hp.f0 hp.ft hp.t32 z
  have hw' : decide (p.tt - p.fr = 32) = true := hw
  rw [hw'] at hW
  have hF := fun z => full_calls z []
  obtain ⟨a, b, c, d⟩ := p
  change Calls Tryz.prog 31 #[.pointer (some ⟨q, 0, none⟩), kv K.k, .agg #[.int .i64 a, .int .i64 b, .int .i64 c, .int .i64 d]] y fun e y' => e = .returned (.tuple #[.string (str (fullP [])), .int .i64 0]) ∧ Below y.heap.size y y'
  have hW2 : ∀ z, Calls Tryz.prog 52 #[.agg #[.int .i64 a, .int .i64 b, .int .i64 c, .int .i64 d]] z fun e w' => e = .returned (.bool true) ∧ Below z.heap.size z w' := hW
  have HB : Hid (Below y.heap.size y ((y.alloc (.cells (bc K.k).toArray 31)).alloc (.cells #[.int .i64 a, .int .i64 b, .int .i64 c, .int .i64 d] 71))) := ((Below.refl _ y).alloc (Nat.le_refl _) _).alloc (by simp) _
  clear hW hw hw' hp
  go_enter Tryz.func31, Tryz.ntmps31
  go_wp2_with (first
    | (go_at_call 52; refine (hW2 _).mono ?_; rintro e y2 ⟨rfl, b2⟩)
    | (go_at_call 40; refine (hF _).mono ?_; rintro e y3 ⟨rfl, b3⟩))
  go_ret2
  exact ⟨rfl, HB.out.trans ((b2.trans (b3.mono b2.size)).mono HB.out.size)⟩
set_option maxHeartbeats 4000000 in
theorem former_part (D : Baser lim noB I iv ge sn) (w0 y : World) (k q : Nat) (x : VR) (V : VS) (A : VAt w0 lim I (k + 1) iv q x V y) (hn : x.n ≤ 5000) (K : Kz) (p : Pc) (hp : p.ok) (hw : p.whole = false) :
    Calls Tryz.prog 31 #[.pointer (some ⟨q, 0, none⟩), kv K.k, pcv p] y fun e y' => e = .returned (.tuple #[.string (str (fullP (getV V.C ge K).1)), .int .i64 (getV V.C ge K).2.2]) ∧ VRan noB w0 lim I k iv q x (x.n + 4) (getW V K) y { x with n := x.n + 1 } y' := by
  have hW := fun z => pwhole_calls p hp.f0 hp.ft hp.t32 z
  have hw' : decide (p.tt - p.fr = 32) = false := hw
  rw [hw'] at hW
  have HD : Hid (Baser lim noB I iv ge sn) := D
  obtain ⟨a, b, c, d⟩ := p
  change Calls Tryz.prog 31 #[.pointer (some ⟨q, 0, none⟩), kv K.k, .agg #[.int .i64 a, .int .i64 b, .int .i64 c, .int .i64 d]] y fun e y' => e = .returned (.tuple #[.string (str (fullP (getV V.C ge K).1)), .int .i64 (getV V.C ge K).2.2]) ∧ VRan noB w0 lim I k iv q x (x.n + 4) (getW V K) y { x with n := x.n + 1 } y'
  have hW2 : ∀ z, Calls Tryz.prog 52 #[.agg #[.int .i64 a, .int .i64 b, .int .i64 c, .int .i64 d]] z fun e w' => e = .returned (.bool false) ∧ Below z.heap.size z w' := hW
  have HB : Hid (Below y.heap.size y ((y.alloc (.cells (bc K.k).toArray 31)).alloc (.cells #[.int .i64 a, .int .i64 b, .int .i64 c, .int .i64 d] 71))) := ((Below.refl _ y).alloc (Nat.le_refl _) _).alloc (by simp) _
  have HK : Hid (Has ((y.alloc (.cells (bc K.k).toArray 31)).alloc (.cells #[.int .i64 a, .int .i64 b, .int .i64 c, .int .i64 d] 71)) y.heap.size K.k) := (Has.new y K.k K.h).alloc _
  have HA : Hid (VAt w0 lim I (k + 1) iv q x V y ∧ x.n ≤ 5000) := ⟨A, hn⟩
  clear hW hw hw' hp A D hn
  go_enter Tryz.func31, Tryz.ntmps31
  go_upto_region 3 with (go_at_call 52; refine (hW2 _).mono ?_; rintro e y2 ⟨rfl, b2⟩)
  have HB2 : Hid (Below y.heap.size y y2) := HB.out.trans (b2.mono HB.out.size)
  have hk2 : Has y2 y.heap.size K.k := HK.out.below b2 HK.out.lt
  have hG : Calls Tryz.prog 53 #[.pointer (some ⟨q, 0, none⟩), kv K.k] y2 fun e y' => e = .returned (.tuple #[.string (str (getV V.C ge K).1), .bool (getV V.C ge K).2.1, .int .i64 (getV V.C ge K).2.2]) ∧ VTo noB w0 lim I k iv q x (getW V K) y2 { x with n := x.n + 1 } y' := VAt.get HD.out (HA.out.1.called HD.out HB2.out) (fun i hi => hi.elim) (by have := HA.out.2; omega) K
  clear b2 hW2
  go_upto_region 4 with (first
    | (refine load_key _ rfl y.heap.size rfl rfl K.k hk2 ?_)
    | (go_at_call 53; refine hG.mono ?_; clear hG; rintro e y3 ⟨rfl, T⟩))
  have hF := full_calls y3 (getV V.C ge K).1
  have HT : Hid (VTo noB w0 lim I k iv q x (getW V K) y2 { x with n := x.n + 1 } y3) := T
  clear T hk2
  generalize hg1 : (getV V.C ge K).1 = g1 at *
  generalize (getV V.C ge K).2.1 = g2 at *
  generalize hg3 : (getV V.C ge K).2.2 = g3 at *
  have HG : Hid ((getV V.C ge K).1 = g1 ∧ (getV V.C ge K).2.2 = g3) := ⟨hg1, hg3⟩
  clear hg1 hg3
  go_wp2_with (go_at_call 40; refine hF.mono ?_; clear hF; rintro e y4 ⟨rfl, b4⟩)
  go_ret2
  have T4 : VRan noB w0 lim I k iv q x (x.n + 4) (getW V K) y2 { x with n := x.n + 1 } y4 := (HT.out.ran (Nat.le_refl _)).called HD.out b4
  refine ⟨by rw [HG.out.1, HG.out.2]; rfl, T4.at_, (FrV.of_below (S := fun i => x.own q i ∨ noB i) HB2.out).trans T4.fr (fun i e => .inl e), fun i hi => (T4.own i hi).imp id (fun e => Nat.le_trans HB2.out.size e), by show x.n + 1 ≤ x.n + 4; omega⟩
end
/-! The pieces of n bytes from off on. -/
/-- Where piece k begins, in the bytes. -/
def pIx (off k : Nat) : Nat := 32 * (off / 32 + k) - off
/-- Where it begins in its chunk. -/
def pFr (off k : Nat) : Nat := (off + pIx off k) % 32
def pTt (off n k : Nat) : Nat := min (pFr off k + (n - pIx off k)) 32
def pcK (off n k : Nat) : Pc := ⟨((off / 32 + k : Nat) : Int), (pFr off k : Int), (pTt off n k : Int), (pIx off k : Int)⟩
/-- How many pieces there are. -/
def pN (off n : Nat) : Nat := if n = 0 then 0 else (off + n - 1) / 32 - off / 32 + 1
theorem pIx_zero (off : Nat) : pIx off 0 = 0 := by unfold pIx; omega
theorem pIx_place (off k : Nat) : (off + pIx off k) / 32 = off / 32 + k := by
  unfold pIx
  rcases Nat.eq_zero_or_pos k with rfl | h
  · rw [show 32 * (off / 32 + 0) - off = 0 by omega]; omega
  · rw [show off + (32 * (off / 32 + k) - off) = 32 * (off / 32 + k) by omega]; omega
theorem pIx_lt {off n k : Nat} : pIx off k < n ↔ k < pN off n := by
  unfold pIx pN
  rcases Nat.eq_zero_or_pos n with rfl | h
  · simp
  · rw [if_neg (by omega)]
    omega
/-- The next one begins where this one ends. -/
theorem pIx_next {off n k : Nat} (h : k < pN off n) : pIx off k + (pTt off n k - pFr off k) = min (pIx off (k + 1)) n := by
  have h1 := pIx_lt.2 h
  unfold pTt pFr
  have h2 := pIx_place off k
  have h3 : pIx off (k + 1) = 32 * (off / 32 + k + 1) - off := by unfold pIx; rw [Nat.add_assoc]
  omega
theorem pcK_ok {off n k : Nat} (h : k < pN off n) : (pcK off n k).ok ∧ pFr off k < pTt off n k := by
  have h1 := pIx_lt.2 h
  have h2 : pFr off k < pTt off n k := by unfold pTt pFr; omega
  have h3 : pTt off n k ≤ 32 := by unfold pTt; omega
  exact ⟨⟨by show (0 : Int) ≤ (pFr off k : Int); omega, by show (pFr off k : Int) ≤ (pTt off n k : Int); omega, by show (pTt off n k : Int) ≤ 32; omega⟩, h2⟩
end Go.Proofs.YtdmindhjmjnagabGreatDoor
