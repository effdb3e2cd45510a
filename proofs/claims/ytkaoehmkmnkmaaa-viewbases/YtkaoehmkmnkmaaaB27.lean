import Derived.Test.YtkaoehmkmnkmaaaSi
import Derived.Test.YtkaoehmkmnkmaaaB26
import Derived.Test.YtkaoehmkmnkmaaaB01
import Derived.Test.YtkaoehmkmnkmaaaB02
import Derived.Test.YtkaoehmkmnkmaaaB06
import Derived.Test.YtkaoehmkmnkmaaaB03
/- A base that answers an error; ViewErrors. -/
namespace Go.Proofs.Ytkaoehmkmnkmaaa
set_option linter.unusedVariables false
set_option maxRecDepth 100000
open Go.RowKit

def fv (c : Int) : Value := .agg #[.int .i64 c]
theorem fail_methG (v : Value) : Meth (.iface 31 v) "Get" 111 v := fun w args => by
  exact meth_of (P := Try.prog) (fun w => by kernel_rfl) (fun args w => callFunc_go Try.func111 (by kernel_rfl) (by rfl) args w) w args
theorem fail_methS (v : Value) : Meth (.iface 31 v) "Scan" 112 v := fun w args => by
  exact meth_of (P := Try.prog) (fun w => by kernel_rfl) (fun args w => callFunc_go Try.func112 (by kernel_rfl) (by rfl) args w) w args
set_option maxHeartbeats 4000000 in
theorem failGet_calls (w : World) (c : Int) (K : Kz) :
    Calls Try.prog 111 #[.agg #[.int .i64 c], kv K.k] w fun e w' => e = .returned (gv ([63], true, c)) ∧ Below w.heap.size w w' := by
  have BX : Below w.heap.size w ((w.alloc (.cells #[.int .i64 c] 31)).alloc (.cells (bc K.k).toArray 23)) := ((Below.refl _ w).alloc (Nat.le_refl _) _).alloc (by simp) _
  have HB : Hid (Below w.heap.size w ((w.alloc (.cells #[.int .i64 c] 31)).alloc (.cells (bc K.k).toArray 23))) := BX
  have hq : ((w.alloc (.cells #[.int .i64 c] 31)).alloc (.cells (bc K.k).toArray 23)).cell? ⟨w.heap.size, 0, none⟩ = some (.int .i64 c) := by
    rw [cell_of_row _ _ _ _ _ _ ((Below.heap_alloc _ _ _ (by simp)).trans (heap_alloc_new w _))]
    rfl
  clear BX
  go_enter Try.func111, Try.ntmps111
  go_upto_region 1 with fail
  generalize ((w.alloc (.cells #[.int .i64 c] 31)).alloc (.cells (bc K.k).toArray 23)) = w1 at *
  go_wp2_with (first | (go_quiet (fail)) | fail)
  go_ret3
  exact ⟨rfl, HB.out.trans ((⟨rfl, rfl, rfl, Nat.le_refl _, fun _ _ => rfl⟩ : Below w1.heap.size w1 (w1.drewN nq)).mono HB.out.size)⟩
def faP : Pa := ⟨zs 24, rfl, [63]⟩
theorem fa_built : Try.prog.built 55 [(1, .string ⟨#[63]⟩)] = some (encP.c faP).toArray := by kernel_rfl
set_option maxHeartbeats 4000000 in
theorem failScan_calls (w : World) (c : Int) (s : Sp) :
    Calls Try.prog 112 #[.agg #[.int .i64 c], spv s] w fun e w' => ∃ v, e = .returned (.tuple #[v, .int .i64 c]) ∧ Sl encP w' v [faP] ∧ Below w.heap.size w w' := by
  have BX : Below w.heap.size w ((w.alloc (.cells #[.int .i64 c] 31)).alloc (.cells (sc s.F s.T s.e).toArray 25)) := ((Below.refl _ w).alloc (Nat.le_refl _) _).alloc (by simp) _
  have HB : Hid (Below w.heap.size w ((w.alloc (.cells #[.int .i64 c] 31)).alloc (.cells (sc s.F s.T s.e).toArray 25)).drew) := BX.trans ⟨rfl, rfl, rfl, Nat.le_refl _, fun _ _ => rfl⟩
  have HS : Hid (((w.alloc (.cells #[.int .i64 c] 31)).alloc (.cells (sc s.F s.T s.e).toArray 25)).drew.heap[w.heap.size]? = some (.cells #[.int .i64 c] 31 (0, 0))) := (Below.heap_alloc _ _ _ (by simp)).trans (heap_alloc_new w _)
  have HDM : Hid (∀ y : World, y.heap[w.heap.size]? = some (.cells #[.int .i64 c] 31 (0, 0)) → y.cell? ⟨w.heap.size, 0, none⟩ = some (.int .i64 c)) := fun y hy => by rw [cell_of_row _ _ _ _ _ _ hy]; rfl
  clear BX
  go_enter Try.func112, Try.ntmps112
  go_upto_region 1 with fail
  refine wp_region_noPanic ?_
  refine wp_region_held_drew (S := (fun y => y.heap[w.heap.size]? = some (.cells #[.int .i64 c] 31 (0, 0)))) (by kernel_rfl) (HS.out) (fun hHeld => ?_)
  refine wpAnyH_take (i := 0) (v := .agg (encP.c faP).toArray) rfl (by kernel_rfl) (by kernel_rfl) (by kernel_rfl) (fun _ _ _ h => h) (Or.inl ⟨by rfl, fun w _ => exec_build rfl (by simp only [List.map_toArray, List.map_cons, List.map_nil]; exact fa_built) w⟩) hHeld ?_
  (try simp only [gs])
  refine wpAnyH_take (i := 2) (v := ?_) rfl (by kernel_rfl) (by kernel_rfl) (by kernel_rfl) (fun _ _ _ h => h) (Or.inl ⟨by rfl, ?_⟩) hHeld ?_
  case refine_2 => (intro w hSw; (try dsimp only at hSw); go_simp; try (with_reducible rfl))
  (try simp only [gs])
  refine wpAnyH_take (i := 3) (v := ?_) rfl (by kernel_rfl) (by kernel_rfl) (by kernel_rfl) (fun _ _ _ h => h) (Or.inl ⟨by rfl, ?_⟩) hHeld ?_
  case refine_2 => (intro w hSw; (try dsimp only at hSw); have hc := HDM.out _ hSw; go_simp; try (with_reducible rfl))
  (try simp only [gs])
  generalize ((w.alloc (.cells #[.int .i64 c] 31)).alloc (.cells (sc s.F s.T s.e).toArray 25)).drew = y1 at *
  refine wpAnyH_ready (rs := [1]) (by kernel_rfl) (by simp) (AllReadyH.cons rfl (fun K0 hK => ?_) AllReadyH.nil)
  rw [if_pos (by rfl)]
  (try simp only [gs])
  refine wp_build_el1 rowP (.tmp 6) rfl faP rfl (by decide) ?_
  intro y2 o2 b2 s2
  refine hK.out _ _ ((b2.block _ (lt_of_block hHeld)).trans hHeld) (fun g1 => ?_)
  clear hK K0
  (try simp only [gs])
  refine wpAnyH_take (i := 4) (v := ?_) rfl (by kernel_rfl) (by kernel_rfl) (by kernel_rfl) (fun _ _ _ h => h) (Or.inl ⟨by rfl, ?_⟩) g1 ?_
  case refine_2 => (intro w hSw; (try dsimp only at hSw); go_simp; try (with_reducible rfl))
  (try simp only [gs])
  refine wpAnyH_take (i := 5) (v := ?_) rfl (by kernel_rfl) (by kernel_rfl) (by kernel_rfl) (fun _ _ _ h => h) (Or.inl ⟨by rfl, ?_⟩) g1 ?_
  case refine_2 => (intro w hSw; (try dsimp only at hSw); go_simp; try (with_reducible rfl))
  (try simp only [gs])
  refine wpAnyH_done (by kernel_rfl) ?_ _
  refine NoPanic.normal ?_
  have HB2 : Hid (Below w.heap.size w y2) := HB.out.trans (b2.mono HB.out.size)
  have HO : Hid (Own encP 55 y2 y1.heap.size (.slice (some ⟨y1.heap.size, 0, none⟩) 1 1) [faP]) := o2
  clear g1 hHeld o2 b2 s2 HS HB
  go_wp2_with fail
  go_ret2
  exact ⟨_, rfl, HO.out.slB, HB2.out⟩
theorem fail_base (lim : Nat) (c : Int) : Baser lim noB (fun _ w => lim ≤ w.heap.size) (.iface 31 (.agg #[.int .i64 c])) (fun _ => ([63], true, c)) (fun _ => ([faP], c)) where
  get := ⟨111, _, fail_methG _, fun k w K h => (failGet_calls w c K).mono fun e w' q => ⟨q.1, Nat.le_trans h q.2.size, frv_no q.2⟩⟩
  scan := ⟨112, _, fail_methS _, fun k w s h => (failScan_calls w c s).mono fun e w' q => by
    obtain ⟨v, e1, o1, b1⟩ := q
    exact ⟨v, e1, o1, Nat.le_trans h b1.size, frv_no b1⟩⟩
  mono := fun k w w' h b => Nat.le_trans h b.size
  down := fun k w h => h
  low := fun i h => h.elim
  size := fun k w h => h
  len := fun s => by show 1 ≤ 5000; omega
  ifc := ⟨_, _, rfl⟩
theorem str_cutv (v : List UInt8) : (⟨#[118]⟩ : ByteArray) ++ (str v).extract 0 (min ((str v).size : Int) 30).toNat = str (118 :: v.take 30) := by
  have h : (min ((str v).size : Int) 30).toNat = min v.length 30 := by rw [str_size]; omega
  rw [h]
  apply ByteArray.ext
  apply Array.ext'
  rw [ByteArray.data_append, Array.toList_append, ByteArray.data_extract]
  simp only [Array.toList_extract, str_list, List.extract_eq_take_drop, List.drop_zero, Nat.sub_zero]
  by_cases q : v.length ≤ 30
  · rw [Nat.min_eq_left q, List.take_length, List.take_of_length_le q]; rfl
  · rw [Nat.min_eq_right (by omega)]; rfl
theorem er_get (c : Int) (h : c ≠ 0) (K : Kz) : getV vs0.C (fun _ => ([63], true, c)) K = ([], false, c) := by
  show (if c ≠ 0 ∨ true = false then (([] : List UInt8), false, c) else ([63], true, 0)) = _
  rw [if_pos (.inl h)]
theorem er_scan (C : List Ch) (c : Int) (h : c ≠ 0) (s : Sp) : scanV C (fun _ => ([faP], c)) s = ([], c) := by
  show (if c ≠ 0 then (([] : List Pa), c) else _) = _
  rw [if_pos h]
theorem er_got (V : VS) (c : Int) (K : Kz) (v : List UInt8) (hC : V.C = []) : getV (V.change ⟨K.k, K.h, v, false⟩).C (fun _ => ([63], true, c)) K = (v, true, 0) := by
  have e : look Ch.n (putA Ch.n V.C ⟨K.k, K.h, v, false⟩) K.n = some ⟨K.k, K.h, v, false⟩ := by
    rw [putA_look Ch.n _ _ (by rw [hC]; exact List.Pairwise.nil), if_pos (show Ch.n ⟨K.k, K.h, v, false⟩ = K.n from rfl)]
  unfold getV
  rw [show look Ch.n (V.change ⟨K.k, K.h, v, false⟩).C K.n = some ⟨K.k, K.h, v, false⟩ from e]
  rfl
set_option maxRecDepth 100000 in
set_option maxHeartbeats 8000000 in
theorem viewErrors_walk (w : World) (code : Int) (K : Kz) (s : Sp) (sv : List UInt8) (hcl : sv.length ≤ maxLen) :
    Calls Try.prog 3 #[.int .i64 code, kv K.k, spv s, .string (str sv)] w fun e w' => e = .returned (.bool true) ∧ Below w.heap.size w w' := by
  have B0 : Below w.heap.size w ((w.alloc (.cells (bc K.k).toArray 23)).alloc (.cells (sc s.F s.T s.e).toArray 25)) := ((Below.refl _ w).alloc (Nat.le_refl _) _).alloc (by simp) _
  have HB0 : Hid (Below w.heap.size w ((w.alloc (.cells (bc K.k).toArray 23)).alloc (.cells (sc s.F s.T s.e).toArray 25)) ∧ Has ((w.alloc (.cells (bc K.k).toArray 23)).alloc (.cells (sc s.F s.T s.e).toArray 25)) w.heap.size K.k ∧ InB encS 25 ((w.alloc (.cells (bc K.k).toArray 23)).alloc (.cells (sc s.F s.T s.e).toArray 25)) (w.heap.size + 1) s) :=
    ⟨B0, ⟨K.h, (Below.heap_alloc _ _ _ (by simp)).trans (heap_alloc_new w _)⟩, InB.new encS _ (w.alloc (.cells (bc K.k).toArray 23)) s _ (by simp)⟩
  obtain ⟨d, hd⟩ : ∃ d, code % 256 = d := ⟨_, rfl⟩
  have hd0 : 0 ≤ d := by omega
  have hd1 : d ≤ 255 := by omega
  obtain ⟨c, hc⟩ : ∃ c, 1 + d % 13 = c := ⟨_, rfl⟩
  have HC : Hid (c ≠ 0) := (show c ≠ 0 by omega)
  have h255 := and255 code
  rw [hd] at h255
  have HSV : Hid (okV (118 :: sv.take 30) = true) := (show _ = _ from decide_eq_true (by simp; omega))
  have hcut := str_cutv sv
  clear B0
  go_enter Try.func3, Try.ntmps3
  go_upto_region 1 with fail
  generalize ((w.alloc (.cells (bc K.k).toArray 23)).alloc (.cells (sc s.F s.T s.e).toArray 25)) = w1 at *
  have hsh := shown12_calls w1
  go_upto_region 2 with (go_at_call 6; refine hsh.mono ?_; clear hsh; rintro e x1 ⟨rfl, b1⟩)
  have HB1 : Hid (Below w.heap.size w x1 ∧ Has x1 w.heap.size K.k ∧ InB encS 25 x1 (w.heap.size + 1) s) := ⟨HB0.out.1.trans (b1.mono HB0.out.1.size), HB0.out.2.1.below b1 HB0.out.2.1.lt, HB0.out.2.2.below b1 HB0.out.2.2.lt⟩
  clear b1 HB0
  go_upto_region 3 with fail
  have HD : Hid (Baser x1.heap.size noB (fun _ w => x1.heap.size ≤ w.heap.size) (.iface 31 (.agg #[.int .i64 c])) (fun _ => ([63], true, c)) (fun _ => ([faP], c))) := fail_base x1.heap.size c
  have hV := VAt.new HD.out w x1 3 (Nat.le_refl _) HB1.out.1.size HB1.out.1
  clear hc hd0 hd1 h255 hd
  go_upto_region 6 with (go_at_call 7; refine hV.mono ?_; clear hV; rintro e x2 ⟨q, x, rfl, A, hn, -, b2⟩)
  have HA : Hid (VAt w x1.heap.size (fun _ w => x1.heap.size ≤ w.heap.size) 3 (.iface 31 (.agg #[.int .i64 c])) q x vs0 x2 ∧ x.n = 0 ∧ Has x2 w.heap.size K.k ∧ InB encS 25 x2 (w.heap.size + 1) s) := ⟨A, hn, HB1.out.2.1.below b2 HB1.out.2.1.lt, HB1.out.2.2.below b2 HB1.out.2.2.lt⟩
  have HL : Hid (w.heap.size + 1 < x1.heap.size) := HB1.out.2.2.lt
  have hkb := HA.out.2.2.1
  have hGe := HA.out.1.get HD.out (fun i h => h.elim) (by have := HA.out.2.1; omega) K
  rw [er_get c HC.out K] at hGe
  simp only [gv] at hGe
  rw [show str [] = (⟨#[]⟩ : ByteArray) from rfl] at hGe
  clear A hn b2 HB1
  go_upto_region 7 with (first
    | (refine load_key _ rfl w.heap.size rfl rfl K.k hkb ?_)
    | (go_at_call 8; refine hGe.mono ?_; clear hGe; rintro e x3 ⟨rfl, T3⟩))
  have HA3 : Hid (VAt w x1.heap.size (fun _ w => x1.heap.size ≤ w.heap.size) 2 (.iface 31 (.agg #[.int .i64 c])) q { x with n := x.n + 1 } (getW vs0 K) x3 ∧ x.n = 0 ∧ Has x3 w.heap.size K.k ∧ InB encS 25 x3 (w.heap.size + 1) s) :=
    ⟨T3.at_, HA.out.2.1, ⟨K.h, (T3.old HA.out.1 (by have := HL.out; omega) (fun e => e)).trans hkb.blk⟩, HA.out.2.2.2.same (T3.old HA.out.1 (by have := HL.out; omega) (fun e => e))⟩
  clear hkb T3 HA
  have hsb := HA3.out.2.2.2.range
  have hSc := HA3.out.1.scan HD.out (fun i h => h.elim) (show x.n + 1 ≤ 5000 by have := HA3.out.2.1; omega) s
  rw [er_scan _ c HC.out s] at hSc
  simp only [List.length_nil] at hSc
  go_upto_region 8 with (first
    | (refine load_el elS _ rfl (w.heap.size + 1) 0 rfl rfl s hsb ?_)
    | (go_at_call 9; refine hSc.mono ?_; clear hSc; rintro e x4 ⟨ad, cap, rfl, -, T4⟩))
  have HA4 : Hid (VAt w x1.heap.size (fun _ w => x1.heap.size ≤ w.heap.size) 1 (.iface 31 (.agg #[.int .i64 c])) q { x with n := x.n + 1 + 1 } { getW vs0 K with R := (getW vs0 K).R ++ [s] } x4 ∧ x.n = 0 ∧ Has x4 w.heap.size K.k) :=
    ⟨T4.at_, HA3.out.2.1, ⟨K.h, (T4.old HA3.out.1 (by have := HL.out; omega) (fun e => e)).trans HA3.out.2.2.1.blk⟩⟩
  clear hsb T4 HA3
  have hkb := HA4.out.2.2
  obtain ⟨V4, hV4⟩ : ∃ V4 : VS, V4 = { getW vs0 K with R := (getW vs0 K).R ++ [s] } := ⟨_, rfl⟩
  have HC4 : Hid (V4.C = []) := (show _ = _ by rw [hV4]; show (getW vs0 K).C = []; unfold getW; split <;> rfl)
  rw [← hV4] at HA4
  clear hV4
  go_upto_region 9 with fail
  clear hcut
  generalize (118 :: sv.take 30) = L at *
  have hPu := HA4.out.1.put HD.out (fun i h => h.elim) (show x.n + 1 + 1 ≤ 100000 by have := HA4.out.2.1; omega) ⟨K.k, K.h, L, false⟩ rfl HSV.out
  simp only at hPu
  go_upto_region 10 with (first
    | (refine load_key _ rfl w.heap.size rfl rfl K.k hkb ?_)
    | (go_at_call 10; refine hPu.mono ?_; clear hPu; rintro e x5 ⟨rfl, r5, T5⟩))
  have HA5 : Hid (VAt w x1.heap.size (fun _ w => x1.heap.size ≤ w.heap.size) 1 (.iface 31 (.agg #[.int .i64 c])) q r5 (V4.change ⟨K.k, K.h, L, false⟩) x5 ∧ r5.n ≤ 100 ∧ Has x5 w.heap.size K.k) :=
    ⟨T5.at_, by have h : r5.n ≤ x.n + 1 + 1 + 4 := T5.n; have := HA4.out.2.1; omega, ⟨K.h, (T5.old HA4.out.1 (by have := HL.out; omega) (fun e => e)).trans hkb.blk⟩⟩
  clear hkb T5 HA4
  have hkb := HA5.out.2.2
  have hGe := HA5.out.1.get HD.out (fun i h => h.elim) (by have := HA5.out.2.1; omega) K
  rw [er_got V4 c K L HC4.out] at hGe
  simp only [gv] at hGe
  have hcc : (c == c) = true := by simp
  go_wp2_with (first
    | (refine load_key _ rfl w.heap.size rfl rfl K.k hkb ?_)
    | (go_at_call 8; refine hGe.mono ?_; clear hGe; rintro e x6 ⟨rfl, T6⟩))
  go_ret
  exact ⟨rfl, T6.at_.bel⟩
theorem str_back (s : ByteArray) : str s.data.toList = s := by
  cases s
  simp [str]
theorem viewErrors_at (w : World) (code : Int) (K : List UInt8) (hK : K.length = 24) (F T : List UInt8) (e : Bool) (hF : F.length = 24) (hT : T.length = 24) (s : ByteArray) (hs : s.size ≤ maxLen) :
    Calls Try.prog 3 #[.int .i64 code, kv K, Go.Proofs.Ytkaoehmkmnkmaaa.sv F T e, .string s] w fun e w' => e = .returned (.bool true) ∧ Below w.heap.size w w' := by
  have := viewErrors_walk w code ⟨K, hK⟩ ⟨F, T, e, hF, hT⟩ s.data.toList (by simpa using hs)
  rw [str_back] at this
  exact this
end Go.Proofs.Ytkaoehmkmnkmaaa
/- ViewErrors answers true at every number, key, span and text and turns nothing that was there: an error of the base is answered alone, own changes are told all the same. No condition. -/
namespace Go.Proofs.Ytkaoehmkmnkmaaa
set_option linter.unusedVariables false
set_option maxRecDepth 100000
open Go.ChangeShapes Go.WideShapes Go.ChangeAt Go.RowKit
open Go.ChangeMaps (open_string shut_string)

set_option maxRecDepth 100000 in
theorem viewErrors_lifted (os : Os) (started : os.Started) (H : Type) (enc : TypeId × Value → H) :
    ReturnsInHanded {} Try.checked os 3 .any (Rows.viewErrorsSpec.pre6 enc Try.prog Try.f3 Rows.viewErrorsRow.domain false) (Rows.viewErrorsSpec.post enc Try.prog Try.f3 false true false false) := by
  refine returnsInHanded_of_change (C := Try.checked) Try.own started (by kernel_rfl) Try.func3
    (ChangeSpec.witness6 (enc := enc) (C := Try.checked) false ⟨#[], #[.int .i64 0, kv (zs 24), sv (zs 24) (zs 24) false, .string ⟨#[]⟩], []⟩ 8 (by kernel_rfl) (by kernel_rfl) (by kernel_rfl) (by kernel_rfl)) ?_
  intro W base args ds gs before hval0 hW hcnd _
  have hval : ∀ (j : Nat) t v, Try.f3.params[j]? = some t → args[j]? = some v → Value.okWide Try.prog W .any base t v := hval0
  have hW' := hW
  obtain ⟨p, q, hA0, hV, rfl, hfz, hnd⟩ := hW
  have hA : DataW.TrodAll enc Try.prog W 0 (fun _ => true) true Try.f3.params.toList args.toList ds p := hA0
  rw [Try.params3] at hA hval
  obtain ⟨v0, vs0, d0, ds0, p0, q0, hargs, rfl, rfl, h0, r0⟩ := trodAll_cons hA
  obtain ⟨v1, vs1, d1, ds1, p1, q1, rfl, rfl, rfl, h1, r1⟩ := trodAll_cons r0
  obtain ⟨v2, vs2, d2, ds2, p2, q2, rfl, rfl, rfl, h2, r2⟩ := trodAll_cons r1
  obtain ⟨v3, vs3, d3, ds3, p3, q3, rfl, rfl, rfl, h3, r3⟩ := trodAll_cons r2
  obtain ⟨rfl, rfl, rfl⟩ := trodAll_nil r3
  obtain rfl : args = #[v0, v1, v2, v3] := by cases args; simp_all
  obtain ⟨rfl, rfl⟩ := trodVars_none hV
  obtain ⟨a0, rfl, rfl, rfl, w0⟩ := open_int Try.underlying3 (hval 0 3 v0 rfl rfl) h0
  have b0 := bounds_i64 w0
  have k1 := h1
  have lt1 : ∀ x ∈ p1, x.block < W.heap.size := by obtain ⟨m, hm⟩ := k1; exact DataW.trod_lt m _ _ _ hm
  obtain ⟨K1, l1, rfl⟩ := open_key (hval 1 23 v1 rfl rfl)
  have k2 := h2
  have lt2 : ∀ x ∈ p2, x.block < W.heap.size := by obtain ⟨m, hm⟩ := k2; exact DataW.trod_lt m _ _ _ hm
  obtain ⟨F2, T2, e2, lf2, lt2', rfl⟩ := open_span (hval 2 25 v2 rfl rfl)
  obtain ⟨s3, rfl, rfl, rfl, w3⟩ := open_string Try.underlying9 (hval 3 9 v3 rfl rfl) h3
  clear hA0 hval0
  refine (viewErrors_at W a0 K1 l1 F2 T2 e2 lf2 lt2' s3 w3).mono fun e W' ⟨he, bel⟩ => ?_
  subst he
  exact ⟨_, rfl, _, _, _, [], _, [], hW', trodAll_mk1 (shut_bool Try.underlying4 _), (trodAll_cons_mk (shut_int Try.underlying3 w0) (trodAll_cons_mk (Below.trod Try.laidOut (by kernel_rfl) (of_decide_eq_true (by kernel_rfl)) k1 bel lt1) (trodAll_cons_mk (Below.trod Try.laidOut (by kernel_rfl) (of_decide_eq_true (by kernel_rfl)) k2 bel lt2) (trodAll_cons_mk (shut_string Try.underlying9 w3) trodAll_mk0)))), rfl, bel.frame _, fun h => by cases h⟩

/-- The statement. -/
theorem viewErrors_holds : Rows.ViewErrorsSaid :=
  OpenClaim.holds_of_wide 3 Try.f3 rfl rfl rfl rfl rfl rfl rfl ⟨rfl, rfl, rfl, rfl, rfl⟩ rfl rfl rfl rfl rfl (by kernel_rfl) Try.func3 (by kernel_rfl)
    (of_decide_eq_true (by kernel_rfl)) (by unfold Func.isWrapper; first | (rw [if_pos (by decide +kernel)]; kernel_rfl) | (rw [if_neg (by decide +kernel)]; exact ⟨rfl, rfl⟩))
    (fun os started H enc _ => viewErrors_lifted os started H enc)
end Go.Proofs.Ytkaoehmkmnkmaaa
/- Pairs that came in (as DlJ, without its own layer). -/
namespace Go.Proofs.Ytkaoehmkmnkmaaa
set_option linter.unusedVariables false
set_option maxRecDepth 100000
open Go.ChangeShapes Go.WideShapes Go.ChangeAt Go.RowKit

theorem str_data2 (s : ByteArray) : str s.data.toList = s := by
  cases s
  simp [str]
/-! Lists that came in. -/
theorem open_pairs {H : Type} {enc : TypeId × Value → H} {W : World} {base : Nat} {held : Bool} {a : Option Addr} {len cap : Nat} {d : DataW H} {p : List MemPlace}
    (h : DataW.Trod enc Try.prog W base (fun _ => true) held 34 (.slice a len cap) d p) : ∃ l : List Pa, Sl encP W (.slice a len cap) l := by
  refine open_els encP 34 55 Try.underlying34 (by kernel_rfl) (by decide) (fun fuel z cs hf hl => ?_) h
  obtain ⟨xs, n', _, _, _, hlen, hf'⟩ := DataW.trod_struct Try.underlying55 hf
  match xs, hlen with
  | [y0, y1], _ =>
    have k24 : Try.prog.cellsOf 23 = 24 := by kernel_rfl
    have k1 : Try.prog.cellsOf 9 = 1 := by kernel_rfl
    have f0 := hf' 0 _ rfl
    have f1 := hf' 1 _ rfl
    simp at f0 f1
    rw [k24] at f0
    rw [k1] at f1
    obtain ⟨K, lK, eK⟩ := trod_key f0
    obtain ⟨s, es, _, _⟩ := DataW.trod_string Try.underlying9 f1
    refine ⟨⟨K, lK, s.data.toList⟩, ?_⟩
    show cs = bc K ++ [.string (str s.data.toList)]
    rw [str_data2, ← eK, ← es, List.take_of_length_le (l := cs.drop 24) (by simp; omega), List.take_append_drop]
end Go.Proofs.Ytkaoehmkmnkmaaa
/- The statements' own cuts. -/
namespace Go.Proofs.Ytkaoehmkmnkmaaa
set_option linter.unusedVariables false
set_option maxRecDepth 100000
open Go.RowKit

theorem str_take40 (v : List UInt8) : (str v).extract 0 (min ((str v).size : Int) 40).toNat = str (v.take 40) := by
  have h : (min ((str v).size : Int) 40).toNat = min v.length 40 := by rw [str_size]; omega
  rw [h]
  apply ByteArray.ext
  apply Array.ext'
  rw [ByteArray.data_extract]
  simp only [Array.toList_extract, str_list, List.extract_eq_take_drop, List.drop_zero, Nat.sub_zero]
  by_cases q : v.length ≤ 40
  · rw [Nat.min_eq_left q, List.take_length, List.take_of_length_le q]
  · rw [Nat.min_eq_right (by omega)]
/-- A value cut, as the statements cut it. -/
def cutP1 (p : Pa) : Pa := ⟨p.k, p.h, p.v.take 40⟩
def cutP (l : List Pa) : List Pa := (l.take 40).map cutP1
theorem cutP_len (l : List Pa) : (cutP l).length ≤ 40 := by simp [cutP]; omega
theorem cutP_take (l : List Pa) (k : Nat) (h : k < l.length) : (l.take (k + 1)).map cutP1 = (l.take k).map cutP1 ++ [cutP1 l[k]] := by
  rw [List.take_succ_eq_append_getElem h, List.map_append]
  rfl
theorem Pa.set_cut {w : World} {q : Nat} {c : Pa} (h : InB encP 55 w q c) : InB encP 55 (w.setCell ⟨q, 24, none⟩ (.string (str (c.v.take 40)))) q (cutP1 c) := by
  constructor
  rw [setCell_eq_setRow w q 24 _ _ _ _ h.blk, setRow_heap w q _ _ _ _ h.blk]
  have hk : (bc c.k).length = 24 := by rw [bc_length, c.h]
  congr 2
  show (pcd c).toArray.setIfInBounds 24 _ = (pcd (cutP1 c)).toArray
  simp only [pcd, List.setIfInBounds_toArray]
  rw [List.set_append_right _ _ (by omega), hk]
  rfl
set_option maxRecDepth 100000 in
set_option maxHeartbeats 4000000 in
theorem cutP_calls (w : World) (u : Value) (l : List Pa) (h : Sl encP w u l) :
    Calls Try.prog 11 #[u] w fun e w' => ∃ v, e = .returned v ∧ Own encP 55 w' w.heap.size v (cutP l) ∧ Below w.heap.size w w' := by
  have hl' := h
  obtain ⟨ad, cap, rfl, hcap, hmax, _, _⟩ := hl'
  have HI : Hid (∀ i (hi : i < l.length), ∃ g off, ad = some ⟨g, off, none⟩ ∧ g < w.heap.size ∧ w.rangeAt g (off + i * 25) (encP.c l[i])) := fun i hi => SlB.at h i hi
  obtain ⟨N, hN⟩ : ∃ N : Nat, N = l.length := ⟨_, rfl⟩
  rw [← hN] at hcap hmax ⊢
  have HN : Hid (N = l.length) := hN
  have HST : Hid (Below w.heap.size w w ∧ Own encP 55 w w.heap.size (.slice none 0 0) ((l.take 0).map cutP1)) := ⟨Below.refl _ _, Own.nil _ _ _ _⟩
  obtain ⟨M, hM⟩ : ∃ M : Nat, M = min N 40 := ⟨_, rfl⟩
  have HM : Hid (M = min N 40) := hM
  have hMN : M ≤ N := by omega
  have hM40 : M ≤ 40 := by omega
  clear hN h hM
  go_enter Try.func11, Try.ntmps11
  go_wp2
  go_loopg [3, 4] M (fun gg s3 i wr => ∃ k : Nat, k + gg = M ∧ i = .int .i64 (k : Int) ∧ Hid (Below w.heap.size w wr ∧ Own encP 55 wr w.heap.size s3 ((l.take k).map cutP1)))
  case atStart => exact ⟨0, by omega, rfl, HST.out⟩
  case round =>
    obtain ⟨k, hkg, rfl, HE⟩ := hrel
    clear HST
    cases gk with
    | zero =>
      have hkM : k = M := by omega
      subst hkM
      have hfin : cutP l = (l.take k).map cutP1 := by
        unfold cutP
        have h1 := HN.out
        have h2 := HM.out
        rcases Nat.le_total N 40 with q | q
        · rw [List.take_of_length_le (by omega), List.take_of_length_le (by omega)]
        · rw [show k = 40 by omega]
      have HF : Hid (cutP l = (l.take k).map cutP1) := hfin
      clear hfin
      rcases Nat.lt_or_ge k N with q | q
      · have hk40 : (k : Int) = 40 := by have := HM.out; omega
        have h1 : (k : Int) < (N : Int) := by omega
        have h2 : ¬ (k : Int) < 40 := by omega
        clear hk40
        go_wp2_with fail
        go_ret
        exact ⟨_, rfl, by rw [HF.out]; exact HE.out.2, HE.out.1⟩
      · have h1 : ¬ (k : Int) < (N : Int) := by omega
        go_wp2_with fail
        go_ret
        exact ⟨_, rfl, by rw [HF.out]; exact HE.out.2, HE.out.1⟩
    | succ gg =>
      have hlt : k < M := by omega
      have hltI : (k : Int) < (N : Int) := by omega
      have hlt40 : (k : Int) < 40 := by omega
      have hkl : k < l.length := by rw [← HN.out]; omega
      obtain ⟨g0, off, rfl, hg0, hat⟩ := HI.out k hkl
      have HR : Hid (wr.rangeAt g0 (off + k * 25) (encP.c l[k])) := range_same' hat (HE.out.1.block g0 hg0)
      have HTK : Hid ((l.take (k + 1)).map cutP1 = (l.take k).map cutP1 ++ [cutP1 l[k]]) := cutP_take l k hkl
      have hlen : ((l.take k).map cutP1).length = k := by simp; omega
      generalize l[k] = p at *
      generalize (l.take k).map cutP1 = L1 at *
      clear hat hkl
      go_upto_region 6 with (first
        | (refine load_el elP _ rfl g0 (off + k * 25) rfl rfl p HR.out ?_)
        | (refine store_el elP rfl _ _ rfl wr.heap.size rfl p rfl pa0 (InB.new encP _ wr pa0 _ rfl) ?_; intro x1 hu1 tx1 sx1))
      have BX : Below wr.heap.size wr x1 := ((Below.refl _ wr).alloc (Nat.le_refl _) _).trans (tx1.below (by simp) (Nat.le_refl _) (by simp))
      have hb1 : Below w.heap.size w x1 := HE.out.1.trans (BX.mono HE.out.1.size)
      have ho1 := HE.out.2.below BX
      have hlu := HE.out.2.lt
      have hqw := HE.out.1.size
      have cv := range_vP hu1.range
      simp only [Nat.zero_add] at cv
      have ff : x1.frozen? ⟨wr.heap.size, 24, none⟩ = false := by simp [World.frozen?, hu1.blk]
      have hu2 := Pa.set_cut hu1
      rw [← str_take40] at hu2
      have hb2 : Below w.heap.size w (x1.setCell ⟨wr.heap.size, 24, none⟩ (.string ((str p.v).extract 0 (min ((str p.v).size : Int) 40).toNat))) := hb1.setCell (by simp; omega) _
      have ho2 : Own encP 55 (x1.setCell ⟨wr.heap.size, 24, none⟩ (.string ((str p.v).extract 0 (min ((str p.v).size : Int) 40).toNat))) w.heap.size u3 L1 := ho1.same fun g hg => Below.heap_setCell _ _ _ _ (by have := (hlu g hg).2; simp; omega)
      clear HE HR tx1 sx1 BX
      generalize wr.heap.size = q at *
      go_upto_region 7 with fail
      generalize x1.setCell ⟨q, 24, none⟩ (.string ((str p.v).extract 0 (min ((str p.v).size : Int) 40).toNat)) = x2 at *
      clear cv ff hu1 hb1 ho1
      go_wp2_with (first
        | (refine load_el elP _ rfl q 0 rfl rfl (cutP1 p) hu2.range ?_)
        | (refine build_el1 rowP rfl _ rfl (cutP1 p) rfl (by decide) ?_; intro x3 ho3 b3 s3 h3
           have hb3 : Below w.heap.size w x3 := hb2.trans (b3.mono hb2.size)
           have hs3 := ho2.below b3)
        | (at_builtin; refine append_one rowP rfl _ _ rfl w.heap.size _ L1 rfl hs3 x2.heap.size (cutP1 p) rfl (0, 0) _ h3 (by omega) (by decide) (by have := hb3.size; omega) ?_
           intro g cap x4 ho4 gr4 nr4 lt4))
      go_roundg gg
      case measure => omega
      case rel => exact ⟨k + 1, by omega, congrArg (Value.int .i64) (by omega), (show Below w.heap.size w x4 ∧ Own encP 55 x4 w.heap.size _ ((l.take (k + 1)).map cutP1) from ⟨hb3.grown gr4 hb3.size (fun i hi => (hlu i hi).1), by rw [HTK.out]; rw [hlen] at ho4; exact ho4⟩)⟩
end Go.Proofs.Ytkaoehmkmnkmaaa
/- ViewBases. -/
namespace Go.Proofs.Ytkaoehmkmnkmaaa
set_option linter.unusedVariables false
set_option maxRecDepth 100000
open Go.RowKit

theorem fa_zero : Try.prog.built 31 [] = some #[.int .i64 0] := by kernel_rfl
set_option maxRecDepth 100000 in
set_option maxHeartbeats 8000000 in
theorem viewBases_walk (w : World) (u : Value) (l : List Pa) (h : Sl encP w u l) (s : ByteArray) (n : Int) :
    Calls Try.prog 4 #[u, .string s, .int .i64 n] w fun e w' => e = .returned (.bool true) ∧ Below w.heap.size w w' := by
  have hsh := shown12_calls w
  have HU : Hid (Sl encP w u l) := h
  clear h
  go_enter Try.func4, Try.ntmps4
  go_upto_region 2 with (go_at_call 6; refine hsh.mono ?_; clear hsh; rintro e x1 ⟨rfl, b1⟩)
  have hC := cutP_calls x1 u l (Sl.called HU.out b1)
  go_upto_region 3 with (go_at_call 11; refine hC.mono ?_; clear hC; rintro e x2 ⟨uv, rfl, o2, b2⟩)
  have HX2 : Hid (Below w.heap.size w x2 ∧ Own encP 55 x2 x1.heap.size uv (cutP l)) := ⟨b1.trans (b2.mono b1.size), o2⟩
  have hlen := cutP_len l
  have hN := newPlain_calls x2 uv (cutP l) o2.slB (by omega)
  clear b1 b2 o2 HU
  go_upto_region 4 with (go_at_call 12; refine hN.mono ?_; clear hN; rintro e x3 ⟨p, pv, m, rfl, hp, hm, hml, hpl, b3⟩)
  have HD : Hid (Baser x3.heap.size noB (fun _ w => PlB x3.heap.size w p pv m) (.iface 40 (.pointer (some ⟨p, 0, none⟩))) (plGe m) (fun s => (scanL s m, 0))) := plain_base _ p pv m (by omega)
  have HX3 : Hid (Below w.heap.size w x3 ∧ Sl encP x3 uv (cutP l) ∧ MapIs (cutP l) m ∧ PlIn x3 p pv m) := ⟨HX2.out.1.trans (b3.mono HX2.out.1.size), Sl.called HX2.out.2.slB b3, hm, hp⟩
  have hV := VAt.new HD.out w x3 3 (PlB.of hp) HX3.out.1.size HX3.out.1
  have HLN : Hid ((cutP l).length ≤ 40 ∧ m.length ≤ 40) := ⟨hlen, by omega⟩
  clear hm hml hpl b3 hlen HX2 hp
  go_upto_region 7 with (go_at_call 7; refine hV.mono ?_; clear hV; rintro e x4 ⟨q, x, rfl, A, hn, -, b4⟩)
  have HX4 : Hid (Below w.heap.size w x4 ∧ Sl encP x4 uv (cutP l) ∧ PlIn x4 p pv m) := ⟨A.bel, Sl.called HX3.out.2.1 b4, HX3.out.2.2.2.called b4⟩
  have HMI : Hid (MapIs (cutP l) m) := HX3.out.2.2.1
  clear A hn b4 HX3 HD
  have h1 := size_plain x4 p pv m HX4.out.2.2
  have h2 := size_failing x4 (.agg #[.int .i64 0])
  have h3 := size_nil x4
  have h4 := as_plain x4 (.pointer (some ⟨p, 0, none⟩))
  have h5 := as_view x4 (.pointer (some ⟨q, 0, none⟩))
  have h6 := as_string x4 (.string s)
  have h7 := as_int x4 (.int .i64 n)
  have h8 := as_nil x4
  go_upto_region 8 with (go_at_call 13; refine h1.mono ?_; clear h1; rintro e x5 ⟨rfl, hw5⟩; rw [hw5]; clear hw5 x5)
  go_upto_region 9 with (first
    | (refine build_at rfl rfl (cells := #[.int .i64 0]) (by simp only [List.map_toArray, List.map_nil]; exact fa_zero) ?_)
    | (go_at_call 13; refine h2.mono ?_; clear h2; rintro e x5 ⟨rfl, hw5⟩; rw [hw5]; clear hw5 x5))
  go_upto_region 10 with (go_at_call 13; refine h3.mono ?_; clear h3; rintro e x5 ⟨rfl, hw5⟩; rw [hw5]; clear hw5 x5)
  go_upto_region 11 with (go_at_call 14; refine h4.mono ?_; clear h4; rintro e x5 ⟨rfl, hw5⟩; rw [hw5]; clear hw5 x5)
  go_upto_region 12 with (go_at_call 14; refine h5.mono ?_; clear h5; rintro e x5 ⟨rfl, hw5⟩; rw [hw5]; clear hw5 x5)
  go_upto_region 13 with (go_at_call 14; refine h6.mono ?_; clear h6; rintro e x5 ⟨rfl, hw5⟩; rw [hw5]; clear hw5 x5)
  go_upto_region 14 with (go_at_call 14; refine h7.mono ?_; clear h7; rintro e x5 ⟨rfl, hw5⟩; rw [hw5]; clear hw5 x5)
  go_upto_region 15 with (go_at_call 14; refine h8.mono ?_; clear h8; rintro e x5 ⟨rfl, hw5⟩; rw [hw5]; clear hw5 x5)
  have hMp := map_calls x4 uv (cutP l) HX4.out.2.1 (by have := HLN.out; omega)
  go_wp2_with (go_at_call 15; refine hMp.mono ?_; clear hMp; rintro e x6 ⟨v6, m6, rfl, o6, i6, l6, b6⟩; obtain rfl := i6.unique HMI.out; obtain ⟨ad6, cap6, rfl, -, -, -, -⟩ := id o6.slB)
  go_ret
  exact ⟨by simp, HX4.out.1.trans (b6.mono HX4.out.1.size)⟩
end Go.Proofs.Ytkaoehmkmnkmaaa
