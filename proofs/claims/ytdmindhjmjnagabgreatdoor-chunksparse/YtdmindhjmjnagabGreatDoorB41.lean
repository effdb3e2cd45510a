import Derived.Test.YtdmindhjmjnagabGreatDoorB40
/- chunk over a view of nothing; the statements' shown. -/
namespace Go.Proofs.YtdmindhjmjnagabGreatDoor
set_option linter.unusedVariables false
set_option maxRecDepth 100000
open Go.RowKit

theorem change_len (V : VS) (c : Ch) : (V.change c).C.length ≤ V.C.length + 1 := by
  show (putA Ch.n V.C c).length ≤ _
  have : ∀ l : List Ch, (putA Ch.n l c).length ≤ l.length + 1 := fun l => by
    induction l with
    | nil => simp [putA]
    | cons a r ih =>
      unfold putA
      split
      · simp only [List.length_cons]; omega
      · split <;> simp
  exact this _
theorem chAll_len (V : VS) (l : List Pa) : (chAll V l).C.length ≤ V.C.length + l.length := by
  unfold chAll
  induction l generalizing V with
  | nil => simp
  | cons p r ih =>
    rw [List.foldl_cons]
    have h1 := ih (V.change (chgP p))
    have h2 := change_len V (chgP p)
    rw [List.length_cons]
    omega
theorem writeV_len (V : VS) (ge : Kz → List UInt8 × Bool × Int) (ino : Int) (off : Nat) (data : List UInt8) : (writeV V ge ino off data).C.length ≤ V.C.length + pN off data.length := by
  unfold writeV
  have h1 := chAll_len (getG V ino off data (List.range (pN off data.length))) (putG ge ino off data V.C (List.range (pN off data.length)))
  rw [getG_C, putG_length, List.length_range] at h1
  exact h1
theorem lives_len (C : List Ch) (s : Sp) : (lives C s).length ≤ C.length := by
  unfold lives inL
  rw [List.length_map]
  exact Nat.le_trans (List.length_filter_le _ _) (List.length_filter_le _ _)
/-- What is read of a file in changes over nothing. -/
def readB (C : List Ch) (ino : Int) (off n : Nat) : List UInt8 := readP (lives C (betS ino ((off / 32 : Nat) : Int) (((off + n - 1) / 32 : Nat) : Int))) ino off n
/-- What Cut leaves of a view over nothing. -/
def cutV (V : VS) (ino size : Int) : VS := chAll { V with R := V.R ++ [chsS ino (size / 32)] } (cutL size (lives V.C (chsS ino (size / 32))))
theorem cutV_len (V : VS) (ino size : Int) : (cutV V ino size).C.length ≤ V.C.length + V.C.length := by
  unfold cutV
  have h1 := chAll_len { V with R := V.R ++ [chsS ino (size / 32)] } (cutL size (lives V.C (chsS ino (size / 32))))
  have h2 := cutL_length size (lives V.C (chsS ino (size / 32)))
  have h3 := lives_len V.C (chsS ino (size / 32))
  have h4 : ({ V with R := V.R ++ [chsS ino (size / 32)] } : VS).C.length = V.C.length := rfl
  omega
theorem NV.asc {d : NV} {w0 y : World} (h : d.at_ w0 y) : Asc Ch.n d.V.C := h.vw.mapC.asc
theorem nvWrite {d : NV} {w0 y : World} (h : d.at_ w0 y) (ino : Int) (off : Nat) (data : List UInt8) (h1 : okNum ino = true) (hn : d.x.n + 5 * pN off data.length ≤ 5000) (hod : off + data.length ≤ 1048576) :
    Calls Tryz.prog 6 #[.pointer (some ⟨d.q, 0, none⟩), .int .i64 ino, .int .i64 (off : Int), .string (str data)] y fun e y' => e = .returned (.int .i64 0) ∧ ∃ x', VRan noB w0 d.lim (NI d.lim d.p d.pv d.base) 9 (nI d.p) d.q d.x (d.x.n + 5 * pN off data.length) (writeV d.V (plGe []) ino off data) y x' y' :=
  cWrite_ok (ni_base d.lim d.p d.pv d.base) (fun _ => rfl) w0 y 9 d.q d.x d.V ino off data (VAt.re _ h) hn hod h1
theorem nvRead {d : NV} {w0 y : World} (h : d.at_ w0 y) (ino : Int) (off n : Nat) (h1 : okNum ino = true) (hn : d.x.n ≤ 5000) (hC : d.V.C.length ≤ 5000) (hon : off + n ≤ 1048576) :
    Calls Tryz.prog 8 #[.pointer (some ⟨d.q, 0, none⟩), .int .i64 ino, .int .i64 (off : Int), .int .i64 (n : Int)] y fun e y' => e = .returned (.tuple #[.string (str (readB d.V.C ino off n)), .int .i64 0]) ∧ ∃ x', VRan noB w0 d.lim (NI d.lim d.p d.pv d.base) 9 (nI d.p) d.q d.x (d.x.n + 4) (readV d.V ino off n) y x' y' :=
  cRead_ok (ni_base d.lim d.p d.pv d.base) w0 y 9 d.q d.x d.V (VAt.re _ h) hn ino off n hon _ (fun _ => ⟨scan_lives (NV.asc h) _, lives_asc (NV.asc h) _, by have := lives_len d.V.C (betS ino ((off / 32 : Nat) : Int) (((off + n - 1) / 32 : Nat) : Int)); omega⟩) h1
theorem nvCut {d : NV} {w0 y : World} (h : d.at_ w0 y) (ino size : Int) (h1 : okNum ino = true) (hsz : 0 ≤ size ∧ size ≤ 1048576) (hn : d.x.n + 4 + 4 * d.V.C.length ≤ 5000) :
    Calls Tryz.prog 10 #[.pointer (some ⟨d.q, 0, none⟩), .int .i64 ino, .int .i64 size] y fun e y' => e = .returned (.int .i64 0) ∧ ∃ x', VRan noB w0 d.lim (NI d.lim d.p d.pv d.base) 9 (nI d.p) d.q d.x (d.x.n + 4 + 4 * d.V.C.length) (cutV d.V ino size) y x' y' := by
  have hl := lives_len d.V.C (chsS ino (size / 32))
  refine (cCut_ok (ni_base d.lim d.p d.pv d.base) w0 y 9 d.q d.x d.V (VAt.re _ h) ino size hsz (lives d.V.C (chsS ino (size / 32))) (scan_lives (NV.asc h) _) (by omega) h1).mono fun e y' r => ?_
  obtain ⟨r1, x', T⟩ := r
  exact ⟨r1, x', T.at_, T.fr, T.own, by have := T.n; omega⟩
theorem nvChanges {d : NV} {w0 y : World} (h : d.at_ w0 y) (hn : d.x.n ≤ 5000) :
    Calls Tryz.prog 9 #[.pointer (some ⟨d.q, 0, none⟩)] y fun e y' => ∃ ad cap, e = .returned (.slice ad d.V.C.length cap) ∧ Own encC 60 y' y.heap.size (.slice ad d.V.C.length cap) (d.V.C.map Ch.plain) ∧ Below y.heap.size y y' :=
  vchanges_calls y d.q (nI d.p) d.x d.V h.vw hn
/-! shown -/
def s13a : VS := writeV vs0 (plGe []) 1 31 [97, 98, 99]
def s13b : VS := readV s13a 1 30 5
def s13c : VS := cutV s13b 1 32
theorem s13_len : s13b.C.length = 2 := by kernel_rfl
theorem s13_r1 : readB s13a.C 1 30 5 = [0, 97, 98, 99, 0] := by kernel_rfl
theorem s13_r2 : readB s13c.C 1 30 5 = [0, 97, 0, 0, 0] := by kernel_rfl
theorem s13_lc : s13c.C.length = 2 := by kernel_rfl
theorem s13_la : s13a.C.length = 2 := by kernel_rfl
set_option maxRecDepth 100000 in
set_option maxHeartbeats 8000000 in
theorem shown13_calls (w : World) : Calls Tryz.prog 4 #[] w fun e w' => e = .returned (.bool true) ∧ Below w.heap.size w w' := by
  have hN := nvNew_calls w w (Below.refl _ _)
  go_enter Tryz.func4, Tryz.ntmps4
  go_upto_region 4 with (go_at_call 5; refine hN.mono ?_; clear hN; rintro e y0 ⟨d, rfl, A0, v0, n0, -, -⟩)
  obtain ⟨lim, p, pv, base, q, x0, V0⟩ := d
  dsimp only at v0 n0 ⊢
  subst v0
  have HN0 : Hid (x0.n = 0) := n0
  have h1 := nvWrite A0 1 31 [97, 98, 99] rfl (by show x0.n + 5 * 2 ≤ 5000; omega) (by decide)
  clear A0 n0
  go_upto_region 5 with (go_at_call 6; refine h1.mono ?_; clear h1; rintro e y1 ⟨rfl, x1, T1⟩)
  have A1 : NV.at_ ⟨lim, p, pv, base, q, x1, s13a⟩ w y1 := NV.ran (d := ⟨lim, p, pv, base, q, x0, vs0⟩) T1
  have HN1 : Hid (x1.n ≤ 10) := (show _ ≤ _ by have h : x1.n ≤ x0.n + 5 * 2 := T1.n; have := HN0.out; omega)
  have h2 := nvRead A1 1 30 5 rfl (by show x1.n ≤ 5000; have := HN1.out; omega) (by show s13a.C.length ≤ 5000; rw [s13_la]; omega) (by decide)
  rw [show readB (NV.V ⟨lim, p, pv, base, q, x1, s13a⟩).C 1 30 5 = [0, 97, 98, 99, 0] from s13_r1] at h2
  clear T1 A1
  go_upto_region 6 with (go_at_call 8; refine h2.mono ?_; clear h2; rintro e y2 ⟨rfl, x2, T2⟩)
  have A2 : NV.at_ ⟨lim, p, pv, base, q, x2, s13b⟩ w y2 := NV.ran (d := ⟨lim, p, pv, base, q, x1, s13a⟩) T2
  have HN2 : Hid (x2.n ≤ 14) := (show _ ≤ _ by have h : x2.n ≤ x1.n + 4 := T2.n; have := HN1.out; omega)
  have h3 := nvChanges A2 (by show x2.n ≤ 5000; have := HN2.out; omega)
  have HA2 : Hid (NV.at_ ⟨lim, p, pv, base, q, x2, s13b⟩ w y2) := A2
  rw [show (NV.V ⟨lim, p, pv, base, q, x2, s13b⟩).C.length = 2 from s13_len] at h3
  clear T2 A2
  go_upto_region 7 with (go_at_call 9; refine h3.mono ?_; clear h3; rintro e y3 ⟨ad, cap, rfl, -, b3⟩)
  have A3 := NV.called HA2.out b3
  have h4 := nvCut A3 1 32 rfl (by decide) (by show x2.n + 4 + 4 * s13b.C.length ≤ 5000; rw [s13_len]; have := HN2.out; omega)
  clear A3 b3
  go_upto_region 8 with (go_at_call 10; refine h4.mono ?_; clear h4; rintro e y4 ⟨rfl, x4, T4⟩)
  have A4 : NV.at_ ⟨lim, p, pv, base, q, x4, s13c⟩ w y4 := NV.ran (d := ⟨lim, p, pv, base, q, x2, s13b⟩) T4
  have HN4 : Hid (x4.n ≤ 26) := (show _ ≤ _ by have h : x4.n ≤ x2.n + 4 + 4 * s13b.C.length := T4.n; rw [s13_len] at h; have := HN2.out; omega)
  have h5 := nvRead A4 1 30 5 rfl (by show x4.n ≤ 5000; have := HN4.out; omega) (by show s13c.C.length ≤ 5000; rw [s13_lc]; omega) (by decide)
  rw [show readB (NV.V ⟨lim, p, pv, base, q, x4, s13c⟩).C 1 30 5 = [0, 97, 0, 0, 0] from s13_r2] at h5
  clear T4 A4
  have hq1 : ((str [0, 97, 98, 99, 0]).toList == [0, 97, 98, 99, 0]) = true := by rw [str_toList]; rfl
  have hq2 : ((str [0, 97, 0, 0, 0]).toList == [0, 97, 0, 0, 0]) = true := by rw [str_toList]; rfl
  go_wp2_with (go_at_call 8; refine h5.mono ?_; clear h5; rintro e y5 ⟨rfl, x5, T5⟩)
  go_ret
  exact ⟨rfl, T5.at_.bel⟩
end Go.Proofs.YtdmindhjmjnagabGreatDoor
/- A file as its bytes (mathematics): chunks' keys and spans; what a run of puts leaves. -/
namespace Go.Proofs.YtdmindhjmjnagabGreatDoor
set_option linter.unusedVariables false
set_option maxRecDepth 100000
open Go.RowKit

/-! Keys. -/
theorem keyC_n {a b p q : Int} (ha : okN a = true) (hb : okN b = true) (hp : okP p = true) (hq : okP q = true) : (keyC a p).n = (keyC b q).n ↔ a = b ∧ p = q := by
  constructor
  · intro h
    have h1 := Kz.same h
    have h2 : chunkR a p = chunkR b q := congrArg Kz.k h1
    have h3 := chunk_inj ha hp hb hq
    rw [h2] at h3
    simpa using h3.symm
  · rintro ⟨rfl, rfl⟩
    rfl
theorem one_less {K : List UInt8} (hK : K.length = 24) {M : List UInt8} (hM : M.length = 24) (hm : Op.bytesLess K M = true) {L : List UInt8} (hL : L.length = 24) : Op.bytesLess L (oneT K) = !Op.bytesLess K L := by
  have h := fun L hL => nxt_tells L hL 24 K (Nat.le_refl _) hK (by rw [List.drop_of_length_le (by omega)]; rfl)
  rw [List.take_of_length_le (by omega), show 24 - 24 = 0 from rfl, List.replicate_zero, List.append_nil] at h
  cases hn : (nxt K 24).2 with
  | true => exact (h L hL).1 hn
  | false =>
    have := (h M hM).2 hn
    rw [hm] at this
    cases this
theorem betS_in {a b f l p : Int} (ha : okN a = true) (hb : okN b = true) (hf : okP f = true) (hl : 0 ≤ l ∧ l < 4294967295) (hp : okP p = true) : (betS a f l).inb (keyC b p).n = decide (b = a ∧ f ≤ p ∧ p ≤ l) := by
  have hlo : okP l = true := by unfold okP; simp; omega
  have hlo2 : okP (l + 1) = true := by unfold okP; simp; omega
  have h1 : (betS a f l).inb (keyC b p).n = inS (betS a f l).F (betS a f l).T (betS a f l).e (chunkR b p) := (in_num (betS a f l) (chunkR b p) (chunkR_length b p)).symm
  rw [h1]
  show (!Op.bytesLess (chunkR b p) (chunkR a f) && (false || Op.bytesLess (chunkR b p) (oneT (chunkR a l)))) = _
  rw [one_less (chunkR_length a l) (chunkR_length a (l + 1)) (by rw [chunk_less ha ha hlo hlo2]; simp; omega) (chunkR_length b p), chunk_less hb ha hp hf, chunk_less ha hb hlo hp, Bool.eq_iff_iff]
  simp
  omega
theorem chsS_in {a b f p : Int} (ha : okN a = true) (hb : okN b = true) (hf : okP f = true) (hp : okP p = true) : (chsS a f).inb (keyC b p).n = decide (b = a ∧ f ≤ p) := by
  have h1 : (chsS a f).inb (keyC b p).n = inS (chsS a f).F (chsS a f).T (chsS a f).e (chunkR b p) := (in_num (chsS a f) (chunkR b p) (chunkR_length b p)).symm
  rw [h1]
  obtain ⟨a0, a1, a2⟩ := okN_lt ha
  obtain ⟨b0, b1, b2⟩ := okN_lt hb
  have h2 : Op.bytesLess (chunkR b p) (chunksT a f) = (decide (b.toNat < a.toNat) || decide (b.toNat = a.toNat)) := by
    have hx : chunkR b p = be b.toNat 4 ++ 3 :: (zs 15 ++ be p.toNat 4) := by unfold chunkR; rw [hb, hp]; rfl
    have hy : chunksT a f = be a.toNat 4 ++ 4 :: zs 19 := by unfold chunksT; rw [ha, hf]; rfl
    rw [hx, hy, less_be b1 a1]
    congr 1
    have : Op.bytesLess (3 :: (zs 15 ++ be p.toNat 4)) (4 :: zs 19) = true := by rw [Op.bytesLess]; rfl
    rw [this, Bool.and_true]
  show (!Op.bytesLess (chunkR b p) (chunkR a f) && (false || Op.bytesLess (chunkR b p) (chunksT a f))) = _
  rw [h2, chunk_less hb ha hp hf, Bool.eq_iff_iff]
  simp
  omega
/-! What stands in a chunk. -/
/-- What stands under a chunk's key in changes over nothing. -/
def vAt (C : List Ch) (ino pl : Int) : List UInt8 := match look Ch.n C (keyC ino pl).n with
  | some c => c.v
  | none => []
theorem vAt_get (C : List Ch) (ino pl : Int) : (getV C (plGe []) (keyC ino pl)).1 = vAt C ino pl := by
  rw [getV_nil]
  unfold vAt
  cases look Ch.n C (keyC ino pl).n <;> rfl
/-- All of it. -/
def cB (C : List Ch) (ino pl : Int) : List UInt8 := fullP (vAt C ino pl)
theorem cB_length (C : List Ch) (ino pl : Int) : (cB C ino pl).length = 32 := fullP_length _
/-- A file's byte. -/
def fB (C : List Ch) (ino : Int) (i : Nat) : UInt8 := (cB C ino ((i / 32 : Nat) : Int)).getD (i % 32) 0
/-- What files leave: right chunks, without noughts at their ends. -/
structure FileOk (C : List Ch) : Prop where
  asc : Asc Ch.n C
  ok : ∀ c ∈ C, ∃ (ino pl : Int), okN ino = true ∧ okP pl = true ∧ c.k = chunkR ino pl ∧ trimmed c.v = c.v ∧ (c.g = true ↔ c.v = [])
theorem FileOk.nil : FileOk [] := ⟨List.Pairwise.nil, fun c hc => by cases hc⟩
theorem chgP_n (p : Pa) : (chgP p).n = p.n := by unfold chgP; split <;> rfl
theorem chgP_k (p : Pa) : (chgP p).k = p.k := by unfold chgP; split <;> rfl
theorem chgP_v (p : Pa) : (chgP p).v = p.v := by
  unfold chgP
  split
  · rename_i h
    exact h.symm
  · rfl
theorem chgP_g (p : Pa) : (chgP p).g = true ↔ p.v = [] := by
  unfold chgP
  split
  · rename_i h
    exact ⟨fun _ => h, fun _ => rfl⟩
  · rename_i h
    exact ⟨fun e => (by cases e), fun e => absurd e h⟩
theorem chAll_asc (V : VS) (h : Asc Ch.n V.C) (l : List Pa) : Asc Ch.n (chAll V l).C := by
  unfold chAll
  induction l generalizing V with
  | nil => exact h
  | cons p r ih => exact ih _ (putA_asc Ch.n _ h)
theorem chAll_R (V : VS) (l : List Pa) : (chAll V l).R = V.R := by
  unfold chAll
  induction l generalizing V with
  | nil => rfl
  | cons p r ih => exact (ih _).trans rfl
/-- What was put last is there. -/
theorem chAll_look (V : VS) (h : Asc Ch.n V.C) (l : List Pa) (hd : l.Pairwise fun a b => a.n ≠ b.n) (x : Int) : look Ch.n (chAll V l).C x = match l.find? (fun p => decide (p.n = x)) with
    | some p => some (chgP p)
    | none => look Ch.n V.C x := by
  unfold chAll
  induction l generalizing V with
  | nil => rfl
  | cons p r ih =>
    obtain ⟨h1, h2⟩ := List.pairwise_cons.1 hd
    have h3 := ih (V.change (chgP p)) (putA_asc Ch.n _ h) h2
    have h4 : look Ch.n (V.change (chgP p)).C x = if (chgP p).n = x then some (chgP p) else look Ch.n V.C x := putA_look Ch.n _ x h
    rw [List.foldl_cons]
    refine h3.trans ?_
    rw [List.find?_cons, h4, chgP_n]
    by_cases e : p.n = x
    · rw [decide_eq_true e, if_pos e]
      have h5 : r.find? (fun p => decide (p.n = x)) = none := List.find?_eq_none.2 fun b hb => by
        have := h1 b hb
        simp
        omega
      rw [h5]
    · rw [decide_eq_false e, if_neg e]
theorem chAll_ok (V : VS) (h : FileOk V.C) (l : List Pa) (hl : ∀ p ∈ l, ∃ (ino pl : Int), okN ino = true ∧ okP pl = true ∧ p.k = chunkR ino pl ∧ trimmed p.v = p.v) : FileOk (chAll V l).C := by
  refine ⟨chAll_asc V h.asc l, ?_⟩
  unfold chAll
  induction l generalizing V with
  | nil => exact h.ok
  | cons p r ih =>
    refine ih (V.change (chgP p)) ⟨putA_asc Ch.n _ h.asc, fun c hc => ?_⟩ (fun a ha => hl a (List.mem_cons_of_mem _ ha))
    rcases putA_mem Ch.n hc with h1 | rfl
    · exact h.ok c h1
    · obtain ⟨i, q, h1, h2, h3, h4⟩ := hl p List.mem_cons_self
      exact ⟨i, q, h1, h2, by rw [chgP_k, h3], by rw [chgP_v, h4], by rw [chgP_v]; exact chgP_g p⟩
/-- A part that is found. -/
theorem find_range (f : Nat → Pa) (P : Nat → Prop) [DecidablePred P] (x : Int) : ∀ (n : Nat), (∀ k, k < n → (decide ((f k).n = x)) = decide (P k)) → (∀ k j, P k → P j → k = j) → ((List.range n).map f).find? (fun p => decide (p.n = x)) = if h : ∃ k, k < n ∧ P k then some (f h.choose) else none
  | 0, _, _ => by simp
  | n + 1, h, hu => by
    have ih := find_range f P x n (fun k hk => h k (by omega)) hu
    rw [List.range_succ, List.map_append, List.find?_append, ih]
    by_cases e : ∃ k, k < n ∧ P k
    · have e2 : ∃ k, k < n + 1 ∧ P k := by obtain ⟨k, h1, h2⟩ := e; exact ⟨k, by omega, h2⟩
      rw [dif_pos e, dif_pos e2, hu _ _ e2.choose_spec.2 e.choose_spec.2]
      rfl
    · rw [dif_neg e]
      have hn := h n (by omega)
      by_cases q : P n
      · have e2 : ∃ k, k < n + 1 ∧ P k := ⟨n, by omega, q⟩
        rw [dif_pos e2, hu _ _ e2.choose_spec.2 q]
        rw [decide_eq_true q] at hn
        simp only [List.map_cons, List.map_nil, List.find?_cons, hn]
        rfl
      · have e2 : ¬ ∃ k, k < n + 1 ∧ P k := fun ⟨k, h1, h2⟩ => by
          by_cases hk : k = n
          · exact q (hk ▸ h2)
          · exact e ⟨k, by omega, h2⟩
        rw [dif_neg e2]
        rw [decide_eq_false q] at hn
        simp only [List.map_cons, List.map_nil, List.find?_cons, hn]
        rfl
end Go.Proofs.YtdmindhjmjnagabGreatDoor
/- A file as its bytes (mathematics): what Write leaves. -/
namespace Go.Proofs.YtdmindhjmjnagabGreatDoor
set_option linter.unusedVariables false
set_option maxRecDepth 100000
open Go.RowKit

theorem okP_nat {n : Nat} (h : n ≤ 4294967295) : okP (n : Int) = true := by unfold okP; simp; omega
theorem chAll_vAt (V : VS) (h : Asc Ch.n V.C) (l : List Pa) (hd : l.Pairwise fun a b => a.n ≠ b.n) (ino pl : Int) : vAt (chAll V l).C ino pl = match l.find? (fun p => decide (p.n = (keyC ino pl).n)) with
    | some p => p.v
    | none => vAt V.C ino pl := by
  unfold vAt
  rw [chAll_look V h l hd]
  cases l.find? (fun p => decide (p.n = (keyC ino pl).n)) with
  | some p => exact chgP_v p
  | none => rfl
/-! Write. -/
section
variable {V : VS} {ino : Int} {off : Nat} {data : List UInt8}
theorem putP_n (ge : Kz → List UInt8 × Bool × Int) (C : List Ch) (p : Pc) : (putP ge ino data C p).n = (keyC ino p.pl).n := rfl
theorem put_key (hi : okN ino = true) (hod : off + data.length ≤ 1048576) {k j : Nat} (hk : k < pN off data.length) (hj : j < pN off data.length) : (putP (plGe []) ino data V.C (pcM off data.length k)).n = (putP (plGe []) ino data V.C (pcM off data.length j)).n ↔ k = j := by
  rw [putP_n, putP_n, pcM_at hk, pcM_at hj]
  have hpl : ∀ k, k < pN off data.length → okP ((off / 32 + k : Nat) : Int) = true := fun k hk => okP_nat (by have := pIx_lt.2 hk; unfold pIx at this; omega)
  rw [show (pcK off data.length k).pl = ((off / 32 + k : Nat) : Int) from rfl, show (pcK off data.length j).pl = ((off / 32 + j : Nat) : Int) from rfl, keyC_n hi hi (hpl k hk) (hpl j hj)]
  omega
theorem put_apart (hi : okN ino = true) (hod : off + data.length ≤ 1048576) : (putG (plGe []) ino off data V.C (List.range (pN off data.length))).Pairwise fun a b => a.n ≠ b.n := by
  unfold putG
  rw [List.pairwise_map]
  refine List.Pairwise.imp_of_mem (fun {a b} ha hb h e => ?_) (List.pairwise_lt_range (n := pN off data.length))
  rw [List.mem_range] at ha hb
  have := (put_key hi hod ha hb).1 e
  omega
/-- Which of the pieces stands at a place. -/
theorem write_vAt (hC : Asc Ch.n V.C) (hi : okN ino = true) (hod : off + data.length ≤ 1048576) {b : Int} (hb : okN b = true) {pl : Nat} (hp : pl ≤ 4294967295) :
    vAt (writeV V (plGe []) ino off data).C b (pl : Int) = if b = ino ∧ off / 32 ≤ pl ∧ pl - off / 32 < pN off data.length then newV data (fullP (wasP (plGe []) ino V.C (pcK off data.length (pl - off / 32)))) (pcK off data.length (pl - off / 32)) else vAt V.C b (pl : Int) := by
  unfold writeV
  have hA : Asc Ch.n (getG V ino off data (List.range (pN off data.length))).C := by rw [getG_C]; exact hC
  rw [chAll_vAt _ hA _ (put_apart hi hod)]
  have hV : vAt (getG V ino off data (List.range (pN off data.length))).C b (pl : Int) = vAt V.C b (pl : Int) := by rw [getG_C]
  rw [hV]
  have hpl : ∀ k, k < pN off data.length → okP ((off / 32 + k : Nat) : Int) = true := fun k hk => okP_nat (by have := pIx_lt.2 hk; unfold pIx at this; omega)
  have hF : ∀ k, k < pN off data.length → decide ((putP (plGe []) ino data V.C (pcM off data.length k)).n = (keyC b (pl : Int)).n) = decide (b = ino ∧ off / 32 + k = pl) := fun k hk => by
    rw [putP_n, pcM_at hk, show (pcK off data.length k).pl = ((off / 32 + k : Nat) : Int) from rfl]
    have := keyC_n hi hb (hpl k hk) (okP_nat hp)
    rw [Bool.eq_iff_iff, decide_eq_true_iff, decide_eq_true_iff, this]
    omega
  unfold putG
  rw [find_range (fun k => putP (plGe []) ino data V.C (pcM off data.length k)) (fun k => b = ino ∧ off / 32 + k = pl) _ _ hF (fun k j h1 h2 => by omega)]
  by_cases e : ∃ k, k < pN off data.length ∧ (b = ino ∧ off / 32 + k = pl)
  · have hs := e.choose_spec
    rw [dif_pos e, if_pos ⟨hs.2.1, by omega, by omega⟩]
    have hk : pl - off / 32 = e.choose := by omega
    rw [hk, ← pcM_at hs.1]
    rfl
  · rw [dif_neg e, if_neg (fun q => e ⟨pl - off / 32, q.2.2, q.1, by omega⟩)]
theorem full_trimmed {S : List UInt8} (h : S.length = 32) : fullP (trimmed S) = S := by
  have h1 := (chunk_is S (by omega)).fs
  rw [← h1, fullP, List.take_of_length_le (by omega), h]
  simp
theorem trimmed_twice (S : List UInt8) : trimmed (trimmed S) = trimmed S := by
  have h : trimmed (S.take 32) = trimmed S := by unfold trimmed; rw [List.take_take, Nat.min_self]
  rw [← h]
  exact (chunk_is (S.take 32) (by rw [List.length_take]; omega)).tt
theorem mid_length {FU : List UInt8} (hF : FU.length = 32) {fr tt ix n : Nat} (h1 : fr ≤ tt) (h2 : tt ≤ 32) (hd : ix + (tt - fr) ≤ data.length) : (FU.take fr ++ (data.drop ix).take (tt - fr) ++ FU.drop tt).length = 32 := by
  simp only [List.length_append, List.length_take, List.length_drop, hF]
  omega
theorem mid_at {FU : List UInt8} (hF : FU.length = 32) {fr tt ix : Nat} (h1 : fr ≤ tt) (h2 : tt ≤ 32) (hd : ix + (tt - fr) ≤ data.length) (j : Nat) (hj : j < 32) :
    (FU.take fr ++ (data.drop ix).take (tt - fr) ++ FU.drop tt).getD j 0 = if fr ≤ j ∧ j < tt then data.getD (ix + (j - fr)) 0 else FU.getD j 0 := by
  have l1 : (FU.take fr).length = fr := by rw [List.length_take, hF]; omega
  have l2 : ((data.drop ix).take (tt - fr)).length = tt - fr := by rw [List.length_take, List.length_drop]; omega
  simp only [List.getD_eq_getElem?_getD]
  by_cases c1 : j < fr
  · rw [if_neg (by omega), List.append_assoc, List.getElem?_append_left (by omega), List.getElem?_take_of_lt c1]
  · by_cases c2 : j < tt
    · rw [if_pos ⟨by omega, c2⟩, List.append_assoc, List.getElem?_append_right (by omega), l1, List.getElem?_append_left (by omega), List.getElem?_take_of_lt (by omega), List.getElem?_drop]
    · rw [if_neg (by omega), List.getElem?_append_right (by simp only [List.length_append]; omega), List.length_append, l1, l2, List.getElem?_drop]
      congr 2
      omega
/-- A file's bytes behind Write. -/
theorem write_fB (hC : Asc Ch.n V.C) (hi : okN ino = true) (hod : off + data.length ≤ 1048576) {b : Int} (hb : okN b = true) (i : Nat) (hI : i ≤ 4000000) :
    fB (writeV V (plGe []) ino off data).C b i = if b = ino ∧ off ≤ i ∧ i < off + data.length then data.getD (i - off) 0 else fB V.C b i := by
  unfold fB cB
  rw [write_vAt hC hi hod hb (show i / 32 ≤ 4294967295 by omega)]
  by_cases hc : b = ino ∧ off / 32 ≤ i / 32 ∧ i / 32 - off / 32 < pN off data.length
  · rw [if_pos hc]
    obtain ⟨rfl, h1, h2⟩ := hc
    obtain ⟨k, hk⟩ : ∃ k, k = i / 32 - off / 32 := ⟨_, rfl⟩
    rw [← hk] at h2 ⊢
    have hix := pIx_lt.2 h2
    have hnx := pIx_next h2
    have hpp := pIx_place off k
    have hlt := (pcK_ok h2).2
    have h32 : pTt off data.length k ≤ 32 := Nat.min_le_right _ _
    have hfr : pFr off k = (off + pIx off k) % 32 := rfl
    have htt : pTt off data.length k = min (pFr off k + (data.length - pIx off k)) 32 := rfl
    have hpx : pIx off k = 32 * (off / 32 + k) - off := rfl
    have hmn : min (pIx off (k + 1)) data.length ≤ data.length := Nat.min_le_right _ _
    have hF := fullP_length (wasP (plGe []) b V.C (pcK off data.length k))
    have e1 : newV data (fullP (wasP (plGe []) b V.C (pcK off data.length k))) (pcK off data.length k) = trimmed ((fullP (wasP (plGe []) b V.C (pcK off data.length k))).take (pFr off k) ++ (data.drop (pIx off k)).take (pTt off data.length k - pFr off k) ++ (fullP (wasP (plGe []) b V.C (pcK off data.length k))).drop (pTt off data.length k)) := by
      unfold newV
      have a1 : (pcK off data.length k).fr.toNat = pFr off k := rfl
      have a2 : (pcK off data.length k).ix.toNat = pIx off k := rfl
      have a3 : ((pcK off data.length k).tt - (pcK off data.length k).fr).toNat = pTt off data.length k - pFr off k := by
        show ((pTt off data.length k : Int) - (pFr off k : Int)).toNat = _
        omega
      have a4 : (pcK off data.length k).tt.toNat = pTt off data.length k := rfl
      rw [a1, a2, a3, a4]
    rw [e1, full_trimmed (mid_length (n := 0) hF (Nat.le_of_lt hlt) h32 (by omega)), mid_at hF (Nat.le_of_lt hlt) h32 (by omega) _ (by omega)]
    by_cases hin : pFr off k ≤ i % 32 ∧ i % 32 < pTt off data.length k
    · rw [if_pos hin, if_pos ⟨rfl, by omega, by omega⟩]
      congr 1
      omega
    · rw [if_neg hin, if_neg (by omega)]
      have hw : wasP (plGe []) b V.C (pcK off data.length k) = vAt V.C b ((i / 32 : Nat) : Int) := by
        unfold wasP
        have hnw : (pcK off data.length k).whole = false := by
          unfold Pc.whole
          refine decide_eq_false (fun e => ?_)
          have e' : (pTt off data.length k : Int) - (pFr off k : Int) = 32 := e
          omega
        rw [hnw]
        have hpl : (pcK off data.length k).pl = ((i / 32 : Nat) : Int) := by show ((off / 32 + k : Nat) : Int) = _; omega
        rw [hpl]
        exact vAt_get _ _ _
      rw [hw]
  · rw [if_neg hc, if_neg (fun q => hc ⟨q.1, by omega, pIx_lt.1 (by unfold pIx; omega)⟩)]
theorem write_ok (h : FileOk V.C) (hi : okN ino = true) (hod : off + data.length ≤ 1048576) : FileOk (writeV V (plGe []) ino off data).C := by
  unfold writeV
  refine chAll_ok _ (by rw [getG_C]; exact h) _ (fun p hp => ?_)
  unfold putG at hp
  obtain ⟨k, hk, rfl⟩ := List.mem_map.1 hp
  rw [List.mem_range] at hk
  refine ⟨ino, ((off / 32 + k : Nat) : Int), hi, okP_nat (by have := pIx_lt.2 hk; unfold pIx at this; omega), ?_, ?_⟩
  · rw [pcM_at hk]
    rfl
  · exact trimmed_twice _
end
end Go.Proofs.YtdmindhjmjnagabGreatDoor
