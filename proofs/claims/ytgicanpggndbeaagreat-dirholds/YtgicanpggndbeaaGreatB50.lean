import Derived.Test.YtgicanpggndbeaaGreatB49
/- DirHolds: the calls beside the lists; the inner loops (mathematics). -/
namespace Go.Proofs.YtgicanpggndbeaaGreat
set_option linter.unusedVariables false
set_option maxRecDepth 100000
open Go.RowKit

structure HoR (w : World) (q m : Nat) (C : List Ch) (v5 v6 v7 v8 : Value) (l5 : List (List UInt8)) (l6 l7 : List Int) (l8 : List (List UInt8)) (y : World) : Prop where
  ex : ∃ d : NV, d.q = q ∧ d.V.C = C ∧ d.x.n ≤ m ∧ Ls w d v5 v6 v7 l5 l6 l7 y ∧ Own encN 9 y w.heap.size v8 l8 ∧ offV d v8
section
variable {w y y' : World} {q m : Nat} {C : List Ch} {v5 v6 v7 v8 : Value} {l5 : List (List UInt8)} {l6 l7 : List Int} {l8 : List (List UInt8)}
theorem HoR.bel (h : HoR w q m C v5 v6 v7 v8 l5 l6 l7 l8 y) : Below w.heap.size w y := by
  obtain ⟨d, -, -, -, h, -⟩ := h.ex
  exact h.bel
theorem HoR.called (h : HoR w q m C v5 v6 v7 v8 l5 l6 l7 l8 y) (b : Below y.heap.size y y') : HoR w q m C v5 v6 v7 v8 l5 l6 l7 l8 y' := by
  obtain ⟨d, h1, h2, h3, h4, h5, h6⟩ := h.ex
  exact ⟨d, h1, h2, h3, h4.called b, h5.below b, h6⟩
theorem HoR.more {m' : Nat} (h : HoR w q m C v5 v6 v7 v8 l5 l6 l7 l8 y) (hm : m ≤ m') : HoR w q m' C v5 v6 v7 v8 l5 l6 l7 l8 y := by
  obtain ⟨d, h1, h2, h3, h4⟩ := h.ex
  exact ⟨d, h1, h2, by omega, h4⟩
theorem HoR.owns (h : HoR w q m C v5 v6 v7 v8 l5 l6 l7 l8 y) : Own encN 9 y w.heap.size v5 l5 ∧ Own encZ 3 y w.heap.size v6 l6 ∧ Own encZ 3 y w.heap.size v7 l7 ∧ Own encN 9 y w.heap.size v8 l8 := by
  obtain ⟨d, -, -, -, h4, h5, -⟩ := h.ex
  exact ⟨h4.n5, h4.n6, h4.n7, h5⟩
theorem HoR.find (h : HoR w q m C v5 v6 v7 v8 l5 l6 l7 l8 y) (hm : m ≤ 4000) {d : Int} {s : List UInt8} (hd : okN d = true) (hs : rightP s = true) :
    Calls Tryz.prog 21 #[.pointer (some ⟨q, 0, none⟩), .int .i64 d, .string (str s)] y fun e y' => (∃ o, NmIs (getV C (plGe []) (ekz d s)).1 o ∧ e = .returned (.tuple #[.int .i64 (findR (getV C (plGe []) (ekz d s)) o).1, .bool (findR (getV C (plGe []) (ekz d s)) o).2.1, .int .i64 (findR (getV C (plGe []) (ekz d s)) o).2.2])) ∧ HoR w q (m + 4) C v5 v6 v7 v8 l5 l6 l7 l8 y' := by
  obtain ⟨e, h1, h2, h3, h4, h5, h6⟩ := h.ex
  subst h1 h2
  refine (dfind_ok (ni_base _ _ _ _) w y 8 e.q e.x e.V (h4.at_.re 9) (by omega) d s (okE_right hd hs)).mono fun r y' t => ⟨t.1, ?_⟩
  obtain ⟨x', T⟩ := t.2
  exact ⟨{ e with x := x', V := _ }, rfl, getW_C _ _, by have := T.n; show x'.n ≤ _; omega, h4.ran T, (offV.ran T h5 h6).1, (offV.ran T h5 h6).2⟩
theorem HoR.put (h : HoR w q m C v5 v6 v7 v8 l5 l6 l7 l8 y) (hm : m ≤ 4000) {d i : Int} {s : List UInt8} (hd : okN d = true) (hs : rightP s = true) (hi : okNum i = true) :
    Calls Tryz.prog 10 #[.pointer (some ⟨q, 0, none⟩), .int .i64 d, .string (str s), .int .i64 i] y fun e y' => e = .returned (.int .i64 0) ∧ HoR w q (m + 4) (putA Ch.n C (enC d s i)) v5 v6 v7 v8 l5 l6 l7 l8 y' := by
  obtain ⟨e, h1, h2, h3, h4, h5, h6⟩ := h.ex
  subst h1 h2
  refine (dput_ok (ni_base _ _ _ _) w y 9 e.q e.x e.V h4.at_ (by omega) d s i (okE_right hd hs) hi).mono fun r y' t => ⟨t.1, ?_⟩
  obtain ⟨x', T⟩ := t.2
  exact ⟨{ e with x := x', V := _ }, rfl, rfl, by have := T.n; show x'.n ≤ _; omega, h4.ran T, (offV.ran T h5 h6).1, (offV.ran T h5 h6).2⟩
theorem HoR.drop (h : HoR w q m C v5 v6 v7 v8 l5 l6 l7 l8 y) (hm : m ≤ 4000) {d : Int} {s : List UInt8} (hd : okN d = true) (hs : rightP s = true) :
    Calls Tryz.prog 12 #[.pointer (some ⟨q, 0, none⟩), .int .i64 d, .string (str s)] y fun e y' => e = .returned (.int .i64 0) ∧ HoR w q (m + 4) (putA Ch.n C (goneC (ekz d s))) v5 v6 v7 v8 l5 l6 l7 l8 y' := by
  obtain ⟨e, h1, h2, h3, h4, h5, h6⟩ := h.ex
  subst h1 h2
  refine (ddrop_ok (ni_base _ _ _ _) w y 9 e.q e.x e.V h4.at_ (by omega) d s (okE_right hd hs)).mono fun r y' t => ⟨t.1, ?_⟩
  obtain ⟨x', T⟩ := t.2
  exact ⟨{ e with x := x', V := _ }, rfl, rfl, by have := T.n; show x'.n ≤ _; omega, h4.ran T, (offV.ran T h5 h6).1, (offV.ran T h5 h6).2⟩
theorem HoR.list (h : HoR w q m C v5 v6 v7 v8 l5 l6 l7 l8 y) (hm : m ≤ 3000) {d : Int} (hd : okN d = true) (hA : Asc Ch.n C) (hg : ∀ p ∈ lives C (entriesS d), goodK p.k = true) (hl : (lives C (entriesS d)).length ≤ 5000) :
    Calls Tryz.prog 14 #[.pointer (some ⟨q, 0, none⟩), .int .i64 d] y fun e y' => ∃ ad cap, e = .returned (.tuple #[.slice ad (lives C (entriesS d)).length cap, .int .i64 0]) ∧ HoR w q (m + 4) C v5 v6 v7 (.slice ad (lives C (entriesS d)).length cap) l5 l6 l7 (namesL (lives C (entriesS d))) y' := by
  obtain ⟨e, h1, h2, h3, h4, h5, h6⟩ := h.ex
  subst h1 h2
  refine (dlist_ok (ni_base _ _ _ _) w y 8 e.q e.x e.V (h4.at_.re 9) (by omega) d hd _ (scan_lives hA _) hl).mono fun r y' t => ?_
  obtain ⟨x', T, t⟩ := t
  rcases t with ⟨-, ad, cap, t, o, f⟩ | ⟨⟨p, hp, t⟩, -⟩
  · refine ⟨ad, cap, t, { e with x := x', V := { e.V with R := e.V.R ++ [entriesS d] } }, rfl, rfl, by have := T.n; show x'.n ≤ _; omega, h4.ran T, o.lower h4.bel.size, fun g hg r => ?_⟩
    rcases r with r | r
    · exact f g hg r
    · have h7 := (o.lt g hg).1
      have h8 := NV.lt h4.at_ (.inr r)
      omega
  · rw [hg p hp] at t
    cases t
theorem HoR.empty (h : HoR w q m C v5 v6 v7 v8 l5 l6 l7 l8 y) (hm : m ≤ 3000) {d : Int} (hd : okN d = true) (hA : Asc Ch.n C) (hl : (lives C (entriesS d)).length ≤ 5000) :
    Calls Tryz.prog 17 #[.pointer (some ⟨q, 0, none⟩), .int .i64 d] y fun e y' => e = .returned (.tuple #[.bool (decide ((lives C (entriesS d)).length = 0)), .int .i64 0]) ∧ HoR w q (m + 4) C v5 v6 v7 v8 l5 l6 l7 l8 y' := by
  obtain ⟨e, h1, h2, h3, h4, h5, h6⟩ := h.ex
  subst h1 h2
  refine (dempty_ok (ni_base _ _ _ _) w y 8 e.q e.x e.V (h4.at_.re 9) (by omega) d hd _ (scan_lives hA _) hl).mono fun r y' t => ⟨t.1, ?_⟩
  obtain ⟨x', T⟩ := t.2
  exact ⟨{ e with x := x', V := { e.V with R := e.V.R ++ [entriesS d] } }, rfl, rfl, by have := T.n; show x'.n ≤ _; omega, h4.ran T, (offV.ran T h5 h6).1, (offV.ran T h5 h6).2⟩
end
theorem HoR.start {w y : World} {d : NV} {q : Nat} (h : d.at_ w y) (hq : q = d.q) (hV : d.V = vs0) (hn : d.x.n = 0) : HoR w q 0 [] (.slice none 0 0) (.slice none 0 0) (.slice none 0 0) (.slice none 0 0) [] [] [] [] y :=
  ⟨d, hq.symm, by rw [hV]; rfl, by omega, Ls.start h, Own.nil _ _ _ _, (fun g hg => by cases hg)⟩
section
variable {w y y' : World} {q m : Nat} {C : List Ch} {v5 v6 v7 v' : Value} {l5 : List (List UInt8)} {l6 l7 : List Int}
theorem HoR.add5 (h : HoR w q m C v5 v6 v7 (.slice none 0 0) l5 l6 l7 [] y) {l' : List (List UInt8)} (o : Own encN 9 y' w.heap.size v' l') (g : y.grownBy y' v5.ownBlock) (hv : ∀ i, v'.ownBlock = some i → v5.ownBlock = some i ∨ i = y.heap.size) : HoR w q m C v' v6 v7 (.slice none 0 0) l' l6 l7 [] y' := by
  obtain ⟨d, h1, h2, h3, h4, h5, h6⟩ := h.ex
  exact ⟨d, h1, h2, h3, h4.grow5 o g hv, Own.nil _ _ _ _, h6⟩
theorem HoR.add6 (h : HoR w q m C v5 v6 v7 (.slice none 0 0) l5 l6 l7 [] y) {l' : List Int} (o : Own encZ 3 y' w.heap.size v' l') (g : y.grownBy y' v6.ownBlock) (hv : ∀ i, v'.ownBlock = some i → v6.ownBlock = some i ∨ i = y.heap.size) : HoR w q m C v5 v' v7 (.slice none 0 0) l5 l' l7 [] y' := by
  obtain ⟨d, h1, h2, h3, h4, h5, h6⟩ := h.ex
  exact ⟨d, h1, h2, h3, h4.grow6 o g hv, Own.nil _ _ _ _, h6⟩
theorem HoR.add7 (h : HoR w q m C v5 v6 v7 (.slice none 0 0) l5 l6 l7 [] y) {l' : List Int} (o : Own encZ 3 y' w.heap.size v' l') (g : y.grownBy y' v7.ownBlock) (hv : ∀ i, v'.ownBlock = some i → v7.ownBlock = some i ∨ i = y.heap.size) : HoR w q m C v5 v6 v' (.slice none 0 0) l5 l6 l' [] y' := by
  obtain ⟨d, h1, h2, h3, h4, h5, h6⟩ := h.ex
  exact ⟨d, h1, h2, h3, h4.grow7 o g hv, Own.nil _ _ _ _, h6⟩
end
theorem HoR.put7 {w y : World} {q m : Nat} {C : List Ch} {v5 v6 : Value} {g n cap : Nat} {l5 : List (List UInt8)} {l6 l7 : List Int} (h : HoR w q m C v5 v6 (.slice (some ⟨g, 0, none⟩) n cap) (.slice none 0 0) l5 l6 l7 [] y) (hn : n = l7.length) (i : Nat) (hi : i < l7.length) (t : Int) : HoR w q m C v5 v6 (.slice (some ⟨g, 0, none⟩) n cap) (.slice none 0 0) l5 l6 (l7.set i t) [] (y.setCell ⟨g, i, none⟩ (.int .i64 t)) := by
  obtain ⟨o1, o2⟩ := own_put1 h.owns.2.2.1 hn i hi t rfl
  exact h.add7 o1 o2 (fun i hi => .inl hi)
theorem own_ad {α : Type} {k : Nat} {E : Enc α k} {ty : TypeId} {w : World} {base n cap : Nat} {ad : Option Addr} {l : List α} (h : Own E ty w base (.slice ad n cap) l) (hl : 0 < l.length) : ∃ g, ad = some ⟨g, 0, none⟩ := by
  obtain ⟨g, cap', e, -⟩ := own_open h hl
  cases e
  exact ⟨g, rfl⟩
theorem own_formN {α : Type} {k : Nat} {E : Enc α k} {ty : TypeId} {w : World} {base : Nat} {v : Value} {l : List α} (h : Own E ty w base v l) {n : Nat} (hn : l.length = n) : ∃ ad cap, v = .slice ad n cap := by
  obtain ⟨ad, cap, e, -⟩ := h.slB
  exact ⟨ad, cap, by rw [e, hn]⟩

/-! The numbers while the names are looked through. -/
def l7at (T : List Tr) (t : Tr) (j : Nat) : List Int := ((T.take j).map t.upd ++ T.drop j).map Tr.i
theorem l7at_zero (T : List Tr) (t : Tr) : l7at T t 0 = T.map Tr.i := by simp [l7at]
theorem l7at_len (T : List Tr) (t : Tr) (j : Nat) : (l7at T t j).length = T.length := by simp [l7at]; omega
theorem l7at_all (T : List Tr) (t : Tr) {j : Nat} (hj : T.length ≤ j) : l7at T t j = (T.map t.upd).map Tr.i := by
  unfold l7at
  rw [List.take_of_length_le hj, List.drop_eq_nil_of_le hj, List.append_nil]
theorem l7at_step (T : List Tr) (t : Tr) {j : Nat} (hj : j < T.length) : l7at T t (j + 1) = if t.like T[j] = true then (l7at T t j).set j t.i else l7at T t j := by
  have e1 : l7at T t j = ((T.take j).map t.upd).map Tr.i ++ T[j].i :: (T.drop (j + 1)).map Tr.i := by
    unfold l7at
    rw [List.drop_eq_getElem_cons hj, List.map_append, List.map_cons]
  have e2 : l7at T t (j + 1) = ((T.take j).map t.upd).map Tr.i ++ (t.upd T[j]).i :: (T.drop (j + 1)).map Tr.i := by
    unfold l7at
    rw [List.take_succ_eq_append_getElem hj, List.map_append, List.map_append, List.map_append, List.append_assoc]
    rfl
  have e3 : (((T.take j).map t.upd).map Tr.i).length = j := by simp; omega
  rw [e1, e2]
  by_cases q : t.like T[j] = true
  · rw [if_pos q, List.set_append_right _ _ (by omega), e3, Nat.sub_self, show t.upd T[j] = t by unfold Tr.upd; rw [if_pos q]]
    rfl
  · rw [if_neg q, show t.upd T[j] = T[j] by unfold Tr.upd; rw [if_neg q]]
theorem any_step (T : List Tr) (t : Tr) {j : Nat} (hj : j < T.length) : (T.take (j + 1)).any t.like = ((T.take j).any t.like || t.like T[j]) := by
  rw [List.take_succ_eq_append_getElem hj, List.any_append]
  simp
theorem upd_s (T : List Tr) (t : Tr) : (T.map t.upd).map Tr.s = T.map Tr.s := by
  rw [List.map_map]
  refine List.map_congr_left fun u _ => ?_
  show (t.upd u).s = u.s
  unfold Tr.upd
  split
  · rename_i h; exact (Tr.like_iff.1 h).1.symm
  · rfl
theorem upd_d (T : List Tr) (t : Tr) : (T.map t.upd).map Tr.d = T.map Tr.d := by
  rw [List.map_map]
  refine List.map_congr_left fun u _ => ?_
  show (t.upd u).d = u.d
  unfold Tr.upd
  split
  · rename_i h; exact (Tr.like_iff.1 h).2.symm
  · rfl
theorem upd_none (T : List Tr) (t : Tr) (h : T.any t.like = false) : T.map t.upd = T := by
  refine (List.map_congr_left fun u hu => ?_).trans (List.map_id T)
  show t.upd u = u
  unfold Tr.upd
  rw [if_neg]
  intro e
  exact absurd (List.any_eq_true.2 ⟨u, hu, e⟩) (by rw [h]; decide)
theorem like_cond (t u : Tr) : t.like u = (((str u.s).toList == (str t.s).toList) && (u.d == t.d)) := by
  rw [str_ne]
  unfold Tr.like
  rw [Bool.eq_iff_iff]
  simp
/-- A round of DirHolds' first loop, known or not. -/
theorem step_known (T : List Tr) (t : Tr) (h : T.any t.like = true) : stepT T t = T.map t.upd := by unfold stepT; rw [if_pos h]
theorem step_new (T : List Tr) (t : Tr) (h : T.any t.like = false) : stepT T t = T ++ [t] := by unfold stepT; rw [if_neg (by rw [h]; decide)]
theorem cntT_step (d : Int) (T : List Tr) {j : Nat} (hj : j < T.length) : cntT d (T.take (j + 1)) = cntT d (T.take j) + if T[j].d = d ∧ T[j].i ≠ 0 then 1 else 0 := by
  unfold cntT
  rw [List.take_succ_eq_append_getElem hj, List.filter_append, List.length_append]
  congr 1
  rw [List.filter_cons]
  by_cases h : T[j].d = d ∧ T[j].i ≠ 0
  · rw [if_pos h, if_pos (by simpa using h)]
    rfl
  · rw [if_neg h, if_neg (by simpa using h)]
    rfl
theorem listed_any {C : List Ch} {T : List Tr} (h : Ho C T) {t : Tr} (ht : t ∈ T) : (namesL (lives C (entriesS t.d))).any (fun a => (str a).toList == (str t.s).toList) = decide (t.i ≠ 0) := by
  rw [Bool.eq_iff_iff, List.any_eq_true, decide_eq_true_eq, ← h.listed ht]
  constructor
  · rintro ⟨a, ha, e⟩
    rw [str_ne] at e
    have : a = t.s := by simpa using e
    rwa [← this]
  · intro hm
    exact ⟨t.s, hm, by rw [str_ne]; simp⟩
end Go.Proofs.YtgicanpggndbeaaGreat
