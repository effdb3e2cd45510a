import Derived.Test.YtdmindhjmjnagaaGreatDoorB01
import Derived.Test.YtdmindhjmjnagaaGreatDoorB53
import Derived.Test.YtdmindhjmjnagaaGreatDoorCards
import Derived.Test.YtdmindhjmjnagaaGreatDoorTie
import Derived.LaidMore
import Derived.Lay
import Derived.SevenTiedAt
import Derived.Stop.Joined
import Derived.Test.YtdmindhjmjnagaaGreatDoorB51
import Derived.Test.YtdmindhjmjnagaaGreatDoorB49
/- ChunkBytes answers true at every row of steps and every two numbers and turns nothing that was there: a file is its bytes: what is read, from anywhere, is what writes and cuts have left. No condition; the variables of unicode/utf8 that it lists are tied to the text of the program. -/
namespace Go.Proofs.YtdmindhjmjnagaaGreatDoor
set_option linter.unusedVariables false
set_option maxRecDepth 100000
open Go.ChangeShapes Go.WideShapes Go.ChangeAt Go.RowKit
open Go.ChangeMaps (open_string shut_string)

set_option maxRecDepth 100000 in
theorem chunkBytes_lifted (os : Os) (started : os.Started) (H : Type) (enc : TypeId × Value → H) :
    ReturnsInHanded {} Tryz.checked os 4 .any (fun w args => (Rows.chunkBytesSpec.pre enc Tryz.prog Tryz.f4 Rows.chunkBytesRow.domain false w args ∧ laidMetH Tryz.prog Rows.chunkBytesRow.laid w) ∧ sizedMet enc Tryz.prog Tryz.f4 (OpenSpec.ofChange Rows.chunkBytesSpec) false w args)
      (Rows.chunkBytesSpec.post enc Tryz.prog Tryz.f4 false true false false) := by
  refine returnsInHanded_of_change_and (C := Tryz.checked) (X := fun w _ => laidMetH Tryz.prog Rows.chunkBytesRow.laid w) (fun _ _ _ hh h => h.of_heap hh) Tryz.own started (by kernel_rfl) Tryz.func4
    (ChangeSpec.witness_shaped (enc := enc) (C := Tryz.checked) (os := os) (X := fun w _ => laidMetH Tryz.prog Rows.chunkBytesRow.laid w) false (World.laidAll Tryz.prog os Rows.chunkBytesRow.laid) #[.slice none 0 0, .int .i64 0, .int .i64 0] 8 (World.laidAll_os _ _ _)
      (World.shaped_of_ZipB (by kernel_rfl) (by kernel_rfl)) (by kernel_rfl) (by kernel_rfl) (by kernel_rfl)
      (by rw [MakeChecks.laidMetH_plain _ _ _ (by kernel_rfl)]; exact laidMet_laidAll _ (by kernel_rfl) (by kernel_rfl))) ?_
  intro W base args ds gs before hval0 hW hcnd _ hL _
  have hval : ∀ (j : Nat) t v, Tryz.f4.params[j]? = some t → args[j]? = some v → Value.okWide Tryz.prog W .any base t v := hval0
  have hW' := hW
  obtain ⟨p, q, hA0, hV, rfl, hfz, hnd⟩ := hW
  have hA : DataW.TrodAll enc Tryz.prog W 0 (fun _ => true) true Tryz.f4.params.toList args.toList ds p := hA0
  rw [Tryz.params4] at hA hval
  obtain ⟨v0, vs0, d0, ds0, p0, q0, hargs, rfl, rfl, h0, r0⟩ := trodAll_cons hA
  obtain ⟨v1, vs1, d1, ds1, p1, q1, rfl, rfl, rfl, h1, r1⟩ := trodAll_cons r0
  obtain ⟨v2, vs2, d2, ds2, p2, q2, rfl, rfl, rfl, h2, r2⟩ := trodAll_cons r1
  obtain ⟨rfl, rfl, rfl⟩ := trodAll_nil r2
  obtain rfl : args = #[v0, v1, v2] := by cases args; simp_all
  obtain ⟨rfl, rfl⟩ := trodVars_none hV
  obtain ⟨a0, len0, cap0, rfl⟩ := okWide_slice Tryz.underlying22 (hval 0 22 v0 rfl rfl)
  have k0 := h0
  have lt0 : ∀ x ∈ p0, x.block < W.heap.size := by obtain ⟨m, hm⟩ := k0; exact DataW.trod_lt m _ _ _ hm
  obtain ⟨z0, w0⟩ := open_cops h0
  obtain ⟨a1, rfl, rfl, rfl, w1⟩ := open_int Tryz.underlying3 (hval 1 3 v1 rfl rfl) h1
  have b1 := bounds_i64 w1
  obtain ⟨a2, rfl, rfl, rfl, w2⟩ := open_int Tryz.underlying3 (hval 2 3 v2 rfl rfl) h2
  have b2 := bounds_i64 w2
  clear hA0 hval0
  refine (chunkBytes_walk W _ z0 w0 a1 a2).mono fun e W' ⟨he, bel⟩ => ?_
  subst he
  exact ⟨_, rfl, _, _, _, [], _, [], hW', trodAll_mk1 (shut_bool Tryz.underlying4 _), (trodAll_cons_mk (Below.trod Tryz.laidOut (by kernel_rfl) (of_decide_eq_true (by kernel_rfl)) k0 bel lt0) (trodAll_cons_mk (shut_int Tryz.underlying3 w1) (trodAll_cons_mk (shut_int Tryz.underlying3 w2) trodAll_mk0))), rfl, bel.frame _, fun h => by cases h⟩

/-- The row. -/
theorem chunkBytes_row : Rows.ChunkBytesSaid :=
  OpenClaim.holds_of_wide 4 Tryz.f4 rfl rfl rfl rfl rfl rfl rfl ⟨rfl, rfl, rfl, rfl, rfl⟩ rfl rfl rfl rfl rfl (by kernel_rfl) Tryz.func4 (by kernel_rfl)
    (of_decide_eq_true (by kernel_rfl)) (by unfold Func.isWrapper; first | (rw [if_pos (by decide +kernel)]; kernel_rfl) | (rw [if_neg (by decide +kernel)]; exact ⟨rfl, rfl⟩))
    (fun os started H enc _ => chunkBytes_lifted os started H enc)
/-- The statement: the card. -/
theorem chunkBytes_holds : Rows.ChunkBytesCardSaid :=
  Claim7.holds_tied_plain_at .later [] [.data, .pinned] true (true, "ae14236937028a21657f4b99df5b4519190e100113ec066a27f897597a491c60") false
    chunkBytes_row (fun _ h => by cases h) (by kernel_rfl) (fun _ h => by cases h) chunkBytes_row_tie rfl ⟨rfl, rfl⟩ (by kernel_rfl) rfl
    (fun f fn hf hfn => by
      obtain rfl : f = 4 := Option.some.inj ((show Tryz.prog.funcNamed "wainscot/wainscotlaw13.ChunkBytes" = some 4 by kernel_rfl).symm.trans hf) |>.symm
      obtain rfl : fn = Tryz.f4 := (Option.some.inj (Tryz.func4.symm.trans hfn)).symm
      exact ⟨by kernel_rfl, fun j t ht => by
        rw [Tryz.params4] at ht
        have hm : t ∈ [22, 3, 3] := by simpa using Array.mem_of_getElem? ht
        have hall : ([22, 3, 3].all fun u => !Tryz.prog.wantsStandIn u) = true := by kernel_rfl
        exact (show Tryz.prog.wantsStandIn t = false by simpa using List.all_eq_true.1 hall t hm)⟩)
    (by kernel_rfl)
end Go.Proofs.YtdmindhjmjnagaaGreatDoor
/- What ChunkApart carries: a view with files, what is listed of it, what a cut leaves. -/
namespace Go.Proofs.YtdmindhjmjnagaaGreatDoor
set_option linter.unusedVariables false
set_option maxRecDepth 100000
open Go.RowKit

theorem and3 (n : Int) : bits .and .i64 n 3 = n % 4 := by
  show IntKind.i64.wrap ((BitVec.ofInt 64 n &&& BitVec.ofInt 64 ((3 : Nat) : Int)).toNat : Nat) = n % 4
  rw [and_ones n 3 2 (by decide), IntKind.wrap_i64]
  omega
theorem ok69 {b : Int} (h : 0 ≤ b ∧ b ≤ 3) : okNum (6 + b) = true ∧ okN (6 + b) = true := by
  refine ⟨?_, okN_of (by omega) (by omega)⟩
  unfold okNum
  rw [decide_eq_true (by omega), decide_eq_true (by omega)]
  rfl
theorem live_facts {C : List Ch} (h : FileOk C) {p : Pa} (hp : p ∈ lives C allSp) : right p.k = true ∧ pKind p.k = 3 ∧ 1 ≤ p.v.length ∧ p.v.length ≤ 32 ∧ p.v.getD (p.v.length - 1) 0 ≠ 0 := by
  obtain ⟨ino, pl, h1, h2, h3, rfl⟩ := live_mem h hp
  have hP := okP_nat h2
  have e : chunkR ino (pl : Int) = chunkK ino.toNat ((pl : Int)).toNat := by unfold chunkR; rw [h1, hP]; rfl
  obtain ⟨q1, q2⟩ := trim_last (vAt_trimmed h ino (pl : Int)) h3
  refine ⟨(chunk_right h1 hP).1, ?_, List.length_pos_iff.2 h3, q1, q2⟩
  show pKind (chunkR ino (pl : Int)) = 3
  rw [e]
  exact (chunk_says h1 hP).2.1
theorem flt_at {f : Pa → Bool} {l : List Pa} {j : Nat} (hj : j < l.length) (hf : f l[j] = true) : ∃ h : ((l.take j).filter f).length < (l.filter f).length, (l.filter f)[((l.take j).filter f).length] = l[j] ∧ ((l.take (j + 1)).filter f).length = ((l.take j).filter f).length + 1 := by
  have e : l.filter f = (l.take j).filter f ++ (l[j] :: (l.drop (j + 1)).filter f) := by
    conv => lhs; rw [← List.take_append_drop j l, List.drop_eq_getElem_cons hj]
    rw [List.filter_append, List.filter_cons, if_pos hf]
  have h1 : ((l.take j).filter f).length < (l.filter f).length := by rw [e]; simp
  refine ⟨h1, ?_, ?_⟩
  · apply Option.some.inj
    rw [← List.getElem?_eq_getElem h1, e, List.getElem?_append_right (Nat.le_refl _), Nat.sub_self]
    rfl
  · rw [List.take_succ_eq_append_getElem hj, List.filter_append, List.length_append, List.filter_cons, if_pos hf]
    rfl
theorem flt_skip {f : Pa → Bool} {l : List Pa} {j : Nat} (hj : j < l.length) (hf : f l[j] = false) : ((l.take (j + 1)).filter f).length = ((l.take j).filter f).length := by
  rw [List.take_succ_eq_append_getElem hj, List.filter_append, List.length_append, List.filter_cons, if_neg (by rw [hf]; decide)]
  rfl
/-- A view with files, after m writes. -/
structure ApC (w : World) (q m : Nat) (y : World) : Prop where
  ex : ∃ d : NV, d.q = q ∧ d.at_ w y ∧ FileOk d.V.C ∧ d.V.U = [] ∧ d.V.C.length ≤ 11 * m ∧ d.V.R.length ≤ 11 * m ∧ d.x.n ≤ 500
theorem chAll_plain (V W : VS) (hC : V.C = W.C) (hU : V.U = W.U) (l : List Pa) : (chAll V l).C = (chAll W l).C := by
  unfold chAll
  induction l generalizing V W with
  | nil => exact hC
  | cons p r ih =>
    refine ih _ _ ?_ ?_
    · show putA Ch.n V.C _ = putA Ch.n W.C _
      rw [hC]
    · show keepU V.C V.U _ = keepU W.C W.U _
      rw [hU, hC]
theorem cutV_plain (V : VS) (R : List Sp) (ino size : Int) : (cutV { V with R := R } ino size).C = (cutV V ino size).C := by
  unfold cutV
  exact chAll_plain { V with R := R ++ [chsS ino (size / 32)] } { V with R := V.R ++ [chsS ino (size / 32)] } rfl rfl _
section
variable {w y y' : World} {q m : Nat}
theorem ApC.bel (h : ApC w q m y) : Below w.heap.size w y := by
  obtain ⟨d, -, h1, -⟩ := h.ex
  exact h1.bel
theorem ApC.called (h : ApC w q m y) (b : Below y.heap.size y y') : ApC w q m y' := by
  obtain ⟨d, h1, h2, h3⟩ := h.ex
  exact ⟨d, h1, NV.called h2 b, h3⟩
theorem ApC.more (h : ApC w q m y) {n : Nat} (hn : m ≤ n) : ApC w q n y := by
  obtain ⟨d, h1, h2, h3, h4, h5, h6, h7⟩ := h.ex
  exact ⟨d, h1, h2, h3, h4, by omega, by omega, h7⟩
theorem ApC.write (h : ApC w q m y) (hm : m < 40) {ino : Int} (h1 : okNum ino = true) (h2 : okN ino = true) (off : Nat) (s : List UInt8) (ho : off ≤ 1023) (hs : s.length ≤ 300) :
    Calls Tryz.prog 12 #[.pointer (some ⟨q, 0, none⟩), .int .i64 ino, .int .i64 (off : Int), .string (str s)] y fun e y' => e = .returned (.int .i64 0) ∧ ApC w q (m + 1) y' := by
  obtain ⟨d, rfl, h3, h4, h5, h6, h7, h8⟩ := h.ex
  have hod : off + s.length ≤ 1048576 := by omega
  have hp := pN_300 (off := off) hs
  refine (nvWrite h3 ino off s h1 (by omega) hod).mono fun e z r => ⟨r.1, ?_⟩
  obtain ⟨x', T⟩ := r.2
  have hc := writeV_len d.V (plGe []) ino off s
  have hr := writeV_R d.V ino off s
  have hU := writeV_U h5 ino off s
  have A := VAt.tight (NV.ran T) 500 (most_of hU (by show (writeV d.V (plGe []) ino off s).C.length ≤ 500; omega) (by show (writeV d.V (plGe []) ino off s).R.length ≤ 500; omega))
  exact ⟨{ d with x := { x' with n := 500 }, V := writeV d.V (plGe []) ino off s }, rfl, A, write_ok h4 h2 hod, hU, by show (writeV d.V (plGe []) ino off s).C.length ≤ _; omega, by show (writeV d.V (plGe []) ino off s).R.length ≤ _; omega, Nat.le_refl _⟩
theorem ApC.start {d : NV} (h : d.at_ w y) (hq : q = d.q) (hV : d.V = vs0) (hn : d.x.n = 0) : ApC w q 0 y := by
  refine ⟨⟨d, hq.symm, h, by rw [hV]; exact FileOk.nil, by rw [hV]; rfl, by rw [hV]; exact Nat.zero_le _, by rw [hV]; exact Nat.zero_le _, by omega⟩⟩
/-- The three that come behind: all of it, a cut to nothing, all of it. -/
theorem ApC.last (h : ApC w q m y) (hm : m ≤ 40) :
    ∃ C, FileOk C ∧ (lives C allSp).length ≤ 440 ∧ Calls Tryz.prog 22 #[.pointer (some ⟨q, 0, none⟩), spv allSp] y fun e y1 => ∃ ad cap, e = .returned (.tuple #[.slice ad (lives C allSp).length cap, .int .i64 0]) ∧ Own encP 62 y1 w.heap.size (.slice ad (lives C allSp).length cap) (lives C allSp) ∧ Below w.heap.size w y1
      ∧ ∀ y2, Below y1.heap.size y1 y2 → Calls Tryz.prog 14 #[.pointer (some ⟨q, 0, none⟩), .int .i64 5, .int .i64 0] y2 fun e y3 => e = .returned (.int .i64 0) ∧ Below w.heap.size w y3
      ∧ Calls Tryz.prog 22 #[.pointer (some ⟨q, 0, none⟩), spv allSp] y3 fun e y4 => ∃ ad2 cap2, e = .returned (.tuple #[.slice ad2 ((lives C allSp).filter (notOf 5)).length cap2, .int .i64 0])
        ∧ Own encP 62 y4 w.heap.size (.slice ad2 ((lives C allSp).filter (notOf 5)).length cap2) ((lives C allSp).filter (notOf 5)) ∧ Below w.heap.size w y4 ∧ Own encP 62 y4 w.heap.size (.slice ad (lives C allSp).length cap) (lives C allSp) := by
  obtain ⟨d, rfl, h3, h4, h5, h6, h7, h8⟩ := h.ex
  have hll := lives_len d.V.C allSp
  refine ⟨d.V.C, h4, by omega, (nvScan h3 (by omega)).mono fun e y1 r => ?_⟩
  obtain ⟨ad, cap, r1, r2, T⟩ := r
  have hwy : w.heap.size ≤ y.heap.size := h3.bel.size
  refine ⟨ad, cap, r1, r2.lower hwy, T.at_.bel, fun y2 b2 => ?_⟩
  have A1 : NV.at_ { d with x := { d.x with n := d.x.n + 1 }, V := { d.V with R := d.V.R ++ [allSp] } } w y2 := NV.called (NV.ran T) b2
  have hx : ∀ i, d.x.own d.q i → i < y.heap.size := fun i hi => NV.lt h3 (.inl hi)
  refine (nvCut A1 5 0 rfl (by omega) (by show d.x.n + 1 + 4 + 4 * d.V.C.length ≤ 5000; omega)).mono fun e y3 r => ⟨r.1, ?_⟩
  obtain ⟨x', T3⟩ := r.2
  have A3 := NV.ran T3
  have hcl : (cutV { d.V with R := d.V.R ++ [allSp] } 5 0).C = (cutV d.V 5 0).C := cutV_plain _ _ _ _
  have o2 : Own encP 62 y2 y.heap.size (.slice ad (lives d.V.C allSp).length cap) (lives d.V.C allSp) := r2.below b2
  have o3 : Own encP 62 y3 y.heap.size (.slice ad (lives d.V.C allSp).length cap) (lives d.V.C allSp) := o2.same fun g hg => T3.kept (o2.lt g hg).2 (fun e => by have h1 := hx g e; have := (o2.lt g hg).1; omega)
  have hx3 : ∀ i, x'.own d.q i → i < y.heap.size ∨ y2.heap.size ≤ i := fun i hi => (T3.own i hi).imp (hx i) id
  refine ⟨A3.bel, (nvScan A3 (by have h1 : x'.n ≤ d.x.n + 1 + 4 + 4 * d.V.C.length := T3.n; show x'.n ≤ 5000; omega)).mono fun e y4 r => ?_⟩
  obtain ⟨ad2, cap2, r4, r5, T4⟩ := r
  have el : lives (cutV { d.V with R := d.V.R ++ [allSp] } 5 0).C allSp = (lives d.V.C allSp).filter (notOf 5) := by
    rw [hcl]
    exact cut_none h4 rfl
  have r4' : e = .returned (.tuple #[.slice ad2 (lives (cutV { d.V with R := d.V.R ++ [allSp] } 5 0).C allSp).length cap2, .int .i64 0]) := r4
  have r5' : Own encP 62 y4 y3.heap.size (.slice ad2 (lives (cutV { d.V with R := d.V.R ++ [allSp] } 5 0).C allSp).length cap2) (lives (cutV { d.V with R := d.V.R ++ [allSp] } 5 0).C allSp) := r5
  rw [el] at r4' r5'
  refine ⟨ad2, cap2, r4', r5'.lower A3.bel.size, T4.at_.bel, ?_⟩
  refine Own.lower (o3.same fun g hg => T4.kept (o3.lt g hg).2 (fun e => ?_)) hwy
  rcases hx3 g e with q1 | q1
  · have := (o3.lt g hg).1
    omega
  · have := (o2.lt g hg).2
    omega
end
end Go.Proofs.YtdmindhjmjnagaaGreatDoor
