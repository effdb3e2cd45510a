import Derived.Test.YtdmindhjmjnagaaGreatDoorB30
import Derived.Test.YtdmindhjmjnagaaGreatDoorB23
import Derived.Test.YtdmindhjmjnagaaGreatDoorB18
import Derived.Test.YtdmindhjmjnagaaGreatDoorSi
/- FbQ CpA Vbm Pl12 X8M -/
namespace Go.Proofs.YtdmindhjmjnagaaGreatDoor
set_option linter.unusedVariables false
set_option maxRecDepth 1000000
set_option maxHeartbeats 32000000
section
open Go.RowKit
theorem putA_same (l : List Ch) (h : Asc Ch.n l) (c : Ch) (hc : (look Ch.n l c.n).isSome = true) : (putA Ch.n l c).length = l.length := by
 induction l with
 | nil => cases hc
 | cons a r ih =>
  obtain ⟨p1, p2⟩ := List.pairwise_cons.1 h
  unfold putA
  by_cases q : Ch.n a < Ch.n c
  · rw [if_pos q, List.length_cons, List.length_cons, ih p2 (by
      simp only [look] at hc
      rw [if_neg (by omega)] at hc
      exact hc)]
  · rw [if_neg q]
    by_cases e : Ch.n a = Ch.n c
    · rw [if_pos e]
      rfl
    · exfalso
      simp only [look] at hc
      rw [if_neg e, look_low Ch.n (fun b hb => by have := p1 b hb; omega)] at hc
      cases hc
theorem chAll_same (V : VS) (h : Asc Ch.n V.C) (l : List Pa) (hl : ∀ p ∈ l, (look Ch.n V.C p.n).isSome = true) : (chAll V l).C.length = V.C.length := by
 unfold chAll
 induction l generalizing V with
 | nil => rfl
 | cons p r ih =>
  rw [List.foldl_cons, ih (V.change (chgP p)) (putA_asc Ch.n _ h) (fun a ha => by
   show (look Ch.n (putA Ch.n V.C (chgP p)) a.n).isSome = true
   rw [putA_look Ch.n _ _ h]
   split
   · rfl
   · exact hl a (List.mem_cons_of_mem _ ha))]
  exact putA_same _ h _ (by rw [chgP_n]; exact hl p List.mem_cons_self)
theorem cutV_same {V : VS} (h : Asc Ch.n V.C) (ino size : Int) : (cutV V ino size).C.length = V.C.length := by
 unfold cutV
 refine chAll_same { V with R := V.R ++ [chsS ino (size / 32)] } h _ (fun p hp => ?_)
 unfold cutL at hp
 obtain ⟨x, hx, hxp⟩ := List.mem_filterMap.1 hp
 rw [(cutO_n hxp).1]
 unfold lives at hx
 obtain ⟨c, hc, rfl⟩ := List.mem_map.1 hx
 have hcm : c ∈ V.C := (List.mem_filter.1 (List.mem_filter.1 hc).1).1
 have := look_mem Ch.n h hcm
 show (look Ch.n V.C c.n).isSome = true
 rw [this]
 rfl
theorem pN_300 {off n : Nat} (h : n ≤ 300) : pN off n ≤ 11 := by
 unfold pN
 split <;> omega
theorem change_U (V : VS) (hU : V.U = []) (c : Ch) : (V.change c).U = [] := by
 show keepU V.C V.U _ = []
 rw [hU]
 rfl
theorem chAll_U (V : VS) (hU : V.U = []) (l : List Pa) : (chAll V l).U = [] := by
 unfold chAll
 induction l generalizing V with
 | nil => exact hU
 | cons p r ih => exact ih _ (change_U V hU _)
theorem getW_U (V : VS) (K : Kz) : (getW V K).U = V.U := by unfold getW; split <;> rfl
theorem getW_Rlen (V : VS) (K : Kz) : (getW V K).R.length ≤ V.R.length + 1 := by
 unfold getW
 split
 · omega
 · simp
theorem getG_U (V : VS) (ino : Int) (off : Nat) (data : List UInt8) (pre : List Nat) : (getG V ino off data pre).U = V.U := by
 unfold getG
 induction pre generalizing V with
 | nil => rfl
 | cons a l ih =>
  rw [List.foldl_cons, ih]
  unfold gotF
  split
  · rfl
  · exact getW_U _ _
theorem writeV_U {V : VS} (hU : V.U = []) (ino : Int) (off : Nat) (data : List UInt8) : (writeV V (plGe []) ino off data).U = [] := by
 unfold writeV
 exact chAll_U _ (by rw [getG_U]; exact hU) _
theorem cutV_U {V : VS} (hU : V.U = []) (ino size : Int) : (cutV V ino size).U = [] := by
 unfold cutV
 exact chAll_U { V with R := V.R ++ [chsS ino (size / 32)] } hU _
theorem cutV_R (V : VS) (ino size : Int) : (cutV V ino size).R.length = V.R.length + 1 := by
 unfold cutV
 rw [chAll_R]
 simp
theorem most_of {V : VS} {k : Nat} (hU : V.U = []) (h1 : V.C.length ≤ k) (h2 : V.R.length ≤ k) : V.most k := ⟨h1, h2, by rw [hU]; exact Nat.zero_le _, fun L hL => by rw [hU] at hL; cases hL⟩
end
section
open Go.RowKit
theorem SetFrom.selfs {lo : Int} {l : List Sp} (h : SetFrom lo l) : ∀ a ∈ l, a.inb (num a.F) = true := by
 induction l generalizing lo with
 | nil => intro a ha; cases ha
 | cons s r ih =>
  obtain ⟨h1, h2⟩ := h
  intro a ha
  rcases List.mem_cons.1 ha with rfl | hr
  · unfold Sp.inb
    rcases h2 with ⟨h3, -, -⟩ | ⟨h3, h4, -⟩
    · simp [h3]
    · simp [h4]
  · rcases h2 with ⟨_, rfl, _⟩ | ⟨_, _, h5⟩
    · cases hr
    · exact ih h5 a hr
theorem SetFrom.pairs {lo : Int} {l : List Sp} (h : SetFrom lo l) : l.Pairwise fun s t => s.e = false ∧ (num s.F : Int) < (num s.T : Int) ∧ (num s.T : Int) < (num t.F : Int) := by
 induction l generalizing lo with
 | nil => exact List.Pairwise.nil
 | cons s r ih =>
  obtain ⟨h1, h2⟩ := h
  rcases h2 with ⟨_, rfl, _⟩ | ⟨h3, h4, h5⟩
  · exact List.pairwise_cons.2 ⟨fun a ha => (by cases ha), List.Pairwise.nil⟩
  · refine List.pairwise_cons.2 ⟨fun a ha => ⟨h3, h4, ?_⟩, ih h5⟩
    have : mem r (num a.F) = true := by
     unfold mem
     rw [List.any_eq_true]
     exact ⟨a, ha, SetFrom.selfs h5 a ha⟩
    exact h5.lt this
theorem SetFrom.gap {lo : Int} {l : List Sp} (h : SetFrom lo l) {s : Sp} (hs : s ∈ l) (he : s.e = false) (hT : (num s.F : Int) < (num s.T : Int)) : mem l (num s.T) = false := by
 induction l generalizing lo with
 | nil => cases hs
 | cons a r ih =>
  have hp := List.pairwise_cons.1 (SetFrom.pairs h)
  obtain ⟨h1, h2⟩ := h
  rw [mem_cons, Bool.or_eq_false_iff]
  rcases List.mem_cons.1 hs with rfl | hr
  · refine ⟨by unfold Sp.inb; simp [he], ?_⟩
    rw [Bool.eq_false_iff]
    intro hm
    rcases h2 with ⟨_, rfl, _⟩ | ⟨_, _, h5⟩
    · cases hm
    · have := h5.lt hm
      omega
  · obtain ⟨q1, q2, q3⟩ := hp.1 s hr
    rcases h2 with ⟨_, rfl, _⟩ | ⟨_, _, h5⟩
    · cases hr
    · refine ⟨?_, ih h5 hr⟩
      unfold Sp.inb
      simp [q1]
      omega
theorem Is.len {R l : List Sp} (h : Is R (mem l)) : R.length ≤ l.length := by
 have hc : ∀ s : Sp, ∃ i : Nat, s ∈ R → ∃ hi : i < l.length, (l[i]).inb (num s.F) = true := fun s => by
  by_cases hs : s ∈ R
  · have h1 : mem R (num s.F) = true := by
      unfold mem
      rw [List.any_eq_true]
      exact ⟨s, hs, SetFrom.selfs h.1 s hs⟩
    rw [h.2 s.F s.hF] at h1
    unfold mem at h1
    rw [List.any_eq_true] at h1
    obtain ⟨t, ht, hi⟩ := h1
    obtain ⟨i, hl, rfl⟩ := List.getElem_of_mem ht
    exact ⟨i, fun _ => ⟨hl, hi⟩⟩
  · exact ⟨0, fun q => absurd q hs⟩
 have hn : (R.map fun s => (hc s).choose).length ≤ (List.range l.length).length := by
  refine nodup_le _ _ (List.pairwise_map.2 ?_) ?_
  · refine (SetFrom.pairs h.1).imp_of_mem fun {a b} ha hb hab e => ?_
    obtain ⟨hl, h1⟩ := (hc a).choose_spec ha
    obtain ⟨hl2, h2⟩ := (hc b).choose_spec hb
    have e2 : l[(hc a).choose] = l[(hc b).choose] := by simp only [e]
    rw [← e2] at h2
    have hg := SetFrom.gap h.1 ha hab.1 hab.2.1
    rw [h.2 a.T a.hT] at hg
    have : mem l (num a.T) = true := by
     unfold mem
     rw [List.any_eq_true]
     refine ⟨l[(hc a).choose], List.getElem_mem hl, ?_⟩
     unfold Sp.inb at h1 h2 ⊢
     simp only [Bool.and_eq_true, decide_eq_true_eq, Bool.or_eq_true] at h1 h2 ⊢
     have := hab.2.1
     have := hab.2.2
     refine ⟨by omega, ?_⟩
     rcases h2.2 with q | q
     · exact .inl q
     · exact .inr (by omega)
    rw [this] at hg
    cases hg
  · intro i hi
    obtain ⟨s, hs, rfl⟩ := List.mem_map.1 hi
    rw [List.mem_range]
    exact ((hc s).choose_spec hs).1
 simpa using hn
theorem pc_whole {off n k : Nat} (h0 : 0 < k) (h1 : k + 1 < pN off n) : (pcM off n k).whole = true := by
 rw [pcM_at (by omega)]
 unfold Pc.whole
 refine decide_eq_true ?_
 show (pTt off n k : Int) - (pFr off k : Int) = 32
 have q1 := pIx_lt.2 h1
 have h2 : pIx off k = 32 * (off / 32 + k) - off := rfl
 have h2' : pIx off (k + 1) = 32 * (off / 32 + (k + 1)) - off := rfl
 have h3 : pFr off k = (off + pIx off k) % 32 := rfl
 have h4 : pTt off n k = min (pFr off k + (n - pIx off k)) 32 := rfl
 omega
theorem getG_R2 (V : VS) (ino : Int) (off : Nat) (data : List UInt8) (k : Nat) (hk : k ≤ pN off data.length) : (getG V ino off data (List.range k)).R.length ≤ V.R.length + (if k = 0 then 0 else if k = pN off data.length then 2 else 1) := by
 induction k with
 | zero => simp [getG]
 | succ k ih =>
  have ih := ih (by omega)
  rw [List.range_succ, getG_snoc]
  have h1 : ∀ W : VS, (gotF ino W (pcM off data.length k)).R.length ≤ W.R.length + 1 := fun W => by
   unfold gotF
   split
   · omega
   · exact getW_Rlen _ _
  have h2 := h1 (getG V ino off data (List.range k))
  rw [if_neg (by omega)]
  by_cases h0 : k = 0
  · rw [if_pos h0] at ih
    split <;> omega
  · rw [if_neg h0, if_neg (by omega)] at ih
    by_cases he : k + 1 = pN off data.length
    · rw [if_pos he]
      omega
    · rw [if_neg he]
      unfold gotF
      rw [if_pos (pc_whole (by omega) (by omega))]
      exact ih
theorem writeV_R2 (V : VS) (ino : Int) (off : Nat) (data : List UInt8) : (writeV V (plGe []) ino off data).R.length ≤ V.R.length + 2 := by
 unfold writeV
 rw [chAll_R]
 have := getG_R2 V ino off data (pN off data.length) (Nat.le_refl _)
 split at this <;> (try split at this) <;> omega
def stepV (V : VS) (ino : Int) (off : Nat) (data : List UInt8) : Nat → VS
 | 0 => V
 | k + 1 => (gotF ino (stepV V ino off data k) (pcM off data.length k)).change (chgP (putP (plGe []) ino data V.C (pcM off data.length k)))
variable {V : VS} {ino : Int} {off : Nat} {data : List UInt8}
theorem stepV_C (k : Nat) : (stepV V ino off data k).C = (chAll V (putG (plGe []) ino off data V.C (List.range k))).C := by
 induction k with
 | zero => rfl
 | succ k ih =>
  rw [List.range_succ, putG_snoc]
  show putA Ch.n (gotF ino (stepV V ino off data k) _).C _ = _
  rw [gotF_C, ih]
  unfold chAll
  rw [List.foldl_append]
  rfl
theorem look_chAll (V : VS) (l : List Pa) (h : Asc Ch.n V.C) (x : Int) (hx : ∀ p ∈ l, p.n ≠ x) : look Ch.n (chAll V l).C x = look Ch.n V.C x := by
 unfold chAll
 induction l generalizing V with
 | nil => rfl
 | cons p r ih =>
  rw [List.foldl_cons, ih (V.change (chgP p)) (putA_asc Ch.n _ h) (fun a ha => hx a (List.mem_cons_of_mem _ ha))]
  show look Ch.n (putA Ch.n V.C (chgP p)) x = _
  rw [putA_look Ch.n _ _ h, chgP_n, if_neg (hx p List.mem_cons_self)]
theorem stepV_look (hC : Asc Ch.n V.C) (hi : okN ino = true) (hod : off + data.length ≤ 1048576) {k : Nat} (hk : k < pN off data.length) : look Ch.n (stepV V ino off data k).C (keyC ino (pcM off data.length k).pl).n = look Ch.n V.C (keyC ino (pcM off data.length k).pl).n := by
 rw [stepV_C]
 refine look_chAll _ _ hC _ fun p hp => ?_
 unfold putG at hp
 obtain ⟨j, hj, rfl⟩ := List.mem_map.1 hp
 rw [List.mem_range] at hj
 intro e
 have := (put_key (V := V) hi hod (k := j) (j := k) (by omega) hk).1 e
 omega
theorem stepV_R (hC : Asc Ch.n V.C) (hi : okN ino = true) (hod : off + data.length ≤ 1048576) {k : Nat} (hk : k ≤ pN off data.length) : (stepV V ino off data k).R = (getG V ino off data (List.range k)).R := by
 induction k with
 | zero => rfl
 | succ k ih =>
  have ih := ih (by omega)
  rw [List.range_succ, getG_snoc]
  show (gotF ino (stepV V ino off data k) _).R = _
  unfold gotF
  split
  · exact ih
  · have h1 := stepV_look hC hi hod (k := k) (by omega)
    have h2 : look Ch.n (getG V ino off data (List.range k)).C (keyC ino (pcM off data.length k).pl).n = look Ch.n V.C (keyC ino (pcM off data.length k).pl).n := by rw [getG_C]
    unfold getW
    rw [h1, h2]
    split
    · exact ih
    · show (stepV V ino off data k).R ++ _ = (getG V ino off data (List.range k)).R ++ _
      rw [ih]
theorem chAll_plain' (V W : VS) (hC : V.C = W.C) (l : List Pa) : (chAll V l).C = (chAll W l).C := by
 unfold chAll
 induction l generalizing V W with
 | nil => exact hC
 | cons p r ih =>
  refine ih _ _ ?_
  show putA Ch.n V.C _ = putA Ch.n W.C _
  rw [hC]
theorem stepV_all (hC : Asc Ch.n V.C) (hi : okN ino = true) (hod : off + data.length ≤ 1048576) (hU : V.U = []) : stepV V ino off data (pN off data.length) = writeV V (plGe []) ino off data := by
 have h1 := stepV_C (V := V) (ino := ino) (off := off) (data := data) (pN off data.length)
 have h2 := stepV_R hC hi hod (Nat.le_refl (pN off data.length))
 have h3 : (stepV V ino off data (pN off data.length)).U = [] := by
  have : ∀ k, (stepV V ino off data k).U = [] := fun k => by
   induction k with
   | zero => exact hU
   | succ k ih =>
    refine change_U _ ?_ _
    unfold gotF
    split
    · exact ih
    · rw [getW_U]; exact ih
  exact this _
 have e1 : (writeV V (plGe []) ino off data).C = (stepV V ino off data (pN off data.length)).C := by
  rw [h1]
  unfold writeV
  refine chAll_plain' _ _ (by rw [getG_C]) _
 have e2 : (writeV V (plGe []) ino off data).R = (stepV V ino off data (pN off data.length)).R := by
  rw [h2]
  unfold writeV
  rw [chAll_R]
 have e3 := writeV_U hU ino off data
 cases hq : stepV V ino off data (pN off data.length) with
 | mk C R U =>
  cases hw : writeV V (plGe []) ino off data with
  | mk C' R' U' =>
   rw [hq] at e1 e2 h3
   rw [hw] at e1 e2 e3
   dsimp only at e1 e2 e3 h3
   rw [e1, e2, e3, h3]
end
section
open Go.RowKit
structure BkInv (C0 : List Ch) (V : VS) (n : Nat) : Prop where
 ex : ∃ L, V.U = [L] ∧ Asc Fo.n L ∧ FoOk L ∧ L.length ≤ n ∧ ∀ x, look Ch.n C0 x = match look Fo.n L x with
  | none => look Ch.n V.C x
  | some f => if f.was then some f.c else none
 asc : Asc Ch.n V.C
 len : V.C.length ≤ n
 rd : V.R = []
theorem BkInv.change {C0 : List Ch} {V : VS} {n : Nat} (h : BkInv C0 V n) (c : Ch) : BkInv C0 (V.change c) (n + 1) := by
 obtain ⟨L, hU, hL, hf, hn, hx⟩ := h.ex
 have hCn : (putA Ch.n V.C c).length ≤ n + 1 := by have := putA_len Ch.n V.C c; have := h.len; omega
 have hU' : (V.change c).U = [keepL V.C L c.kz] := by
  show keepU V.C V.U c.kz = _
  unfold keepU
  rw [hU]
  rfl
 refine ⟨⟨keepL V.C L c.kz, hU', ?_, ?_, ?_, ?_⟩, putA_asc Ch.n c h.asc, hCn, h.rd⟩
 · unfold keepL
   split
   · exact hL
   · exact putA_asc Fo.n _ hL
 · unfold keepL
   split
   · exact hf
   · intro f hm hw
     rcases putA_mem Fo.n hm with hm | rfl
     · exact hf f hm hw
     · show ((look Ch.n V.C c.kz.n).getD ch0).n = c.kz.n
       have hw' : (look Ch.n V.C c.kz.n).isSome = true := hw
       obtain ⟨y, hy⟩ := Option.isSome_iff_exists.1 hw'
       rw [hy]
       exact (look_key Ch.n hy).2
 · unfold keepL
   split
   · omega
   · have := putA_len Fo.n L ⟨c.kz, (look Ch.n V.C c.kz.n).getD ch0, (look Ch.n V.C c.kz.n).isSome⟩
     omega
 · intro x
   show look Ch.n C0 x = match look Fo.n (keepL V.C L c.kz) x with
    | none => look Ch.n (putA Ch.n V.C c) x
    | some f => if f.was then some f.c else none
   rw [hx x, putA_look Ch.n c x h.asc]
   have hcn : c.kz.n = c.n := rfl
   unfold keepL
   by_cases hs : (look Fo.n L c.kz.n).isSome = true
   · rw [if_pos hs]
     by_cases e : c.n = x
     · subst e
       rw [hcn] at hs
       obtain ⟨f, hf'⟩ := Option.isSome_iff_exists.1 hs
       rw [hf']
     · rw [if_neg e]
   · rw [if_neg hs, putA_look Fo.n _ x hL]
     have hq : (⟨c.kz, (look Ch.n V.C c.kz.n).getD ch0, (look Ch.n V.C c.kz.n).isSome⟩ : Fo).n = c.n := rfl
     rw [hq]
     by_cases e : c.n = x
     · subst e
       rw [if_pos rfl]
       rw [hcn] at hs
       have hn' : look Fo.n L c.n = none := by
        cases q : look Fo.n L c.n with
        | none => rfl
        | some f => rw [q] at hs; exact absurd rfl hs
       rw [hn']
       simp only [hcn]
       cases look Ch.n V.C c.n <;> rfl
     · rw [if_neg e, if_neg e]
section
variable {lim : Nat} {S : Nat → Prop} {I : Nat → World → Prop} {iv : Value} {ge : Kz → List UInt8 × Bool × Int} {sn : Sp → List Pa × Int} {w0 y : World} {k q : Nat} {x : VR} {V : VS}
end
end
section
open Go.RowKit
theorem backC_append (C : List Ch) (Q T : List (List Fo)) : backC C (Q ++ T) = backC (backC C T) Q := by
 unfold backC
 rw [List.reverse_append, List.foldl_append]
theorem backC_one (C : List Ch) (L : List Fo) : backC C [L] = takeL C L := rfl
theorem takeL_change {C : List Ch} {L : List Fo} (c : Ch) (ha : Asc Ch.n C) (hL : Asc Fo.n L) (hf : FoOk L) : Asc Fo.n (keepL C L c.kz) ∧ FoOk (keepL C L c.kz) ∧ takeL (putA Ch.n C c) (keepL C L c.kz) = takeL C L := by
 obtain ⟨t1, t2⟩ := takeL_look ha hL hf
 have B : BkInv (takeL C L) { C := C, R := [], U := [L] } (C.length + L.length) := ⟨⟨L, rfl, hL, hf, Nat.le_add_left _ _, t2⟩, ha, Nat.le_add_right _ _, rfl⟩
 have hb := B.change c
 obtain ⟨L', h1, h2, h3, -, h4⟩ := hb.ex
 have h1' : [keepL C L c.kz] = [L'] := h1
 have e : keepL C L c.kz = L' := List.cons.inj h1' |>.1
 rw [e]
 refine ⟨h2, h3, ?_⟩
 obtain ⟨s1, s2⟩ := takeL_look (C := putA Ch.n C c) (putA_asc Ch.n c ha) h2 h3
 refine asc_ext Ch.n s1 t1 fun x => ?_
 rw [s2 x, h4 x]
 cases look Fo.n L' x <;> rfl
structure MkIs (V : VS) (D : List (List Ch)) : Prop where
 len : D.length = V.U.length
 asc : Asc Ch.n V.C
 ok : ∀ L ∈ V.U, Asc Fo.n L ∧ FoOk L
 at_ : ∀ i (h : i < D.length), backC V.C (V.U.drop i) = D[i]
theorem MkIs.start : MkIs vs0 [] := ⟨rfl, List.Pairwise.nil, (fun L h => by cases h), fun i h => absurd h (Nat.not_lt_zero _)⟩
theorem MkIs.change {V : VS} {D : List (List Ch)} (h : MkIs V D) (c : Ch) : MkIs (V.change c) D := by
 have hC : (V.change c).C = putA Ch.n V.C c := rfl
 rcases List.eq_nil_or_concat V.U with e | ⟨P, L, e⟩
 · have hU : (V.change c).U = [] := by
     show keepU V.C V.U c.kz = []
     unfold keepU
     rw [e]
     rfl
   have hD : D = [] := List.eq_nil_of_length_eq_zero (by rw [h.len, e]; rfl)
   subst hD
   refine ⟨by rw [hU]; rfl, by rw [hC]; exact putA_asc Ch.n c h.asc, fun L hL => ?_, fun i hi => absurd hi (Nat.not_lt_zero _)⟩
   rw [hU] at hL
   cases hL
 · rw [List.concat_eq_append] at e
   obtain ⟨hL, hf⟩ := h.ok L (by rw [e]; simp)
   obtain ⟨k1, k2, k3⟩ := takeL_change c h.asc hL hf
   have hU : (V.change c).U = P ++ [keepL V.C L c.kz] := by
    show keepU V.C V.U c.kz = _
    unfold keepU
    rw [e]
    have hl : (P ++ [L]).length - 1 = P.length := by simp
    rw [hl, List.set_append_right _ _ (Nat.le_refl _)]
    simp
   have hlen : D.length = P.length + 1 := by rw [h.len, e]; simp
   refine ⟨by rw [hU, hlen]; simp, by rw [hC]; exact putA_asc Ch.n c h.asc, fun M hM => ?_, fun i hi => ?_⟩
   · rw [hU, List.mem_append, List.mem_singleton] at hM
     rcases hM with hM | rfl
     · exact h.ok M (by rw [e]; simp [hM])
     · exact ⟨k1, k2⟩
   · have hi' : i ≤ P.length := by omega
     have ho := h.at_ i hi
     rw [e, List.drop_append_of_le_length hi', backC_append, backC_one] at ho
     rw [hC, hU, List.drop_append_of_le_length hi', backC_append, backC_one, k3]
     exact ho
end
section
open Go.RowKit
def endB : List UInt8 := List.replicate 25 255
structure Bd where
 b : List UInt8
 h : b.length = 24 ∨ b = endB
instance : Inhabited Bd := ⟨⟨zs 24, .inl rfl⟩⟩
def topV : Int := ((256 ^ 24 : Nat) : Int)
def Bd.v (x : Bd) : Int := if x.b.length = 24 then (num x.b : Int) else topV
theorem key_top (K : List UInt8) (h : K.length = 24) : (num K : Int) < topV := by
 have := num_lt K
 rw [h] at this
 unfold topV
 omega
theorem bless_app : ∀ (p q x y : List UInt8), p.length = q.length → Op.bytesLess (p ++ x) (q ++ y) = (Op.bytesLess p q || (p == q && Op.bytesLess x y))
 | [], [], x, y, _ => by simp [Op.bytesLess]
 | [], _ :: _, _, _, h => by cases h
 | _ :: _, [], _, _, h => by cases h
 | a :: p, b :: q, x, y, h => by
  have ih := bless_app p q x y (by simpa using h)
  simp only [List.cons_append, Op.bytesLess, ih]
  by_cases h1 : a < b
  · simp [h1]
  · by_cases h2 : a = b
    · subst h2; simp
    · have h3 : (a == b) = false := by simpa using h2
      simp [h1, h3]
theorem num_ffs : ∀ n, num (List.replicate n 255) + 1 = 256 ^ n
 | 0 => rfl
 | n + 1 => by
  rw [List.replicate_succ, num_cons, List.length_replicate, Nat.pow_succ]
  have := num_ffs n
  have e : (255 : UInt8).toNat = 255 := rfl
  rw [e]
  omega
theorem less_end (K : List UInt8) (h : K.length = 24) : Op.bytesLess K endB = true ∧ Op.bytesLess endB K = false := by
 have e : endB = List.replicate 24 255 ++ [255] := rfl
 have hl : (List.replicate 24 (255 : UInt8)).length = 24 := rfl
 have hn := num_lt K
 have hf := num_ffs 24
 rw [h] at hn
 have hK : K = K ++ [] := (List.append_nil K).symm
 refine ⟨?_, ?_⟩
 · rw [e, hK, bless_app K _ [] [255] (by rw [h, hl]), less_num K _ (by rw [h, hl])]
   clear e
   generalize hR : List.replicate 24 (255 : UInt8) = R at *
   by_cases q : num K < num R
   · rw [decide_eq_true q]; rfl
   · have : K = R := num_inj _ _ (by rw [h, hl]) (by omega)
     rw [this, decide_eq_false (by omega)]
     simp [Op.bytesLess]
 · rw [e, hK, bless_app _ K [255] [] (by rw [h, hl]), less_num _ K (by rw [h, hl])]
   clear e
   generalize hR : List.replicate 24 (255 : UInt8) = R at *
   have q : ¬ num R < num K := by omega
   simp [q, Op.bytesLess]
theorem Bd.less (x y : Bd) : Op.bytesLess x.b y.b = decide (x.v < y.v) := by
 obtain ⟨a, ha⟩ := x
 obtain ⟨b, hb⟩ := y
 unfold Bd.v
 simp only
 rcases ha with ha | rfl
 · rcases hb with hb | rfl
   · rw [if_pos ha, if_pos hb, less_num a b (by rw [ha, hb])]
     rw [Bool.eq_iff_iff]; simp
   · rw [if_pos ha, if_neg (by decide), (less_end a ha).1]
     have := key_top a ha
     simpa using this
 · rcases hb with hb | rfl
   · rw [if_neg (by decide), if_pos hb, (less_end b hb).2]
     have := key_top b hb
     simp
     omega
   · rw [if_neg (by decide)]
     simp
     decide
theorem Bd.inj {x y : Bd} (h : x.v = y.v) : x = y := by
 obtain ⟨a, ha⟩ := x
 obtain ⟨b, hb⟩ := y
 unfold Bd.v at h
 simp only at h
 rcases ha with ha | rfl
 · rcases hb with hb | rfl
   · rw [if_pos ha, if_pos hb] at h
     have := num_inj a b (by rw [ha, hb]) (by omega)
     subst this
     rfl
   · rw [if_pos ha, if_neg (by decide)] at h
     have := key_top a ha
     omega
 · rcases hb with hb | rfl
   · rw [if_neg (by decide), if_pos hb] at h
     have := key_top b hb
     omega
   · rfl
theorem Bd.eq_iff (x y : Bd) : (x.b == y.b) = decide (x.v = y.v) := by
 rw [Bool.eq_iff_iff]
 simp only [beq_iff_eq, decide_eq_true_eq]
 constructor
 · intro h
   have : x = y := by cases x; cases y; simp at h; subst h; rfl
   rw [this]
 · intro h; rw [Bd.inj h]
theorem Bd.low (x : Bd) : 0 ≤ x.v ∧ x.v ≤ topV := by
 obtain ⟨a, ha⟩ := x
 unfold Bd.v
 simp only
 rcases ha with ha | rfl
 · rw [if_pos ha]
   have := key_top a ha
   omega
 · rw [if_neg (by decide)]
   unfold topV
   omega
def endBd : Bd := ⟨endB, .inr rfl⟩
theorem end_v : endBd.v = topV := by unfold Bd.v endBd; rw [if_neg (by decide)]
theorem key_of {x : Bd} (h : x.v < topV) : x.b.length = 24 := by
 rcases x.h with q | q
 · exact q
 · have : x = endBd := by cases x; simp at q; subst q; rfl
   rw [this, end_v] at h
   omega
theorem key_v {x : Bd} (h : x.b.length = 24) : x.v = (num x.b : Int) := by unfold Bd.v; rw [if_pos h]
def Sp.bf (s : Sp) : Bd := ⟨s.F, .inl s.hF⟩
def Sp.bt (s : Sp) : Bd := if s.e then endBd else ⟨s.T, .inl s.hT⟩
theorem bf_v (s : Sp) : s.bf.v = (num s.F : Int) := key_v s.hF
theorem bt_v (s : Sp) : s.bt.v = if s.e then topV else (num s.T : Int) := by
 unfold Sp.bt
 cases s.e with
 | true => exact end_v
 | false => exact key_v s.hT
theorem inb_v (s : Sp) (x : Int) (hx : x < topV) : s.inb x = (decide (s.bf.v ≤ x) && decide (x < s.bt.v)) := by
 rw [bf_v, bt_v]
 unfold Sp.inb
 cases s.e with
 | true => simp [hx]
 | false => simp
def ofB (a b : Bd) (ha : a.b.length = 24) : Sp := if h : b.b.length = 24 then ⟨a.b, b.b, false, ha, h⟩ else ⟨a.b, zs 24, true, ha, rfl⟩
theorem ofB_f (a b : Bd) (ha : a.b.length = 24) : (ofB a b ha).bf = a := by unfold ofB; split <;> rfl
theorem ofB_t (a b : Bd) (ha : a.b.length = 24) : (ofB a b ha).bt = b := by
 unfold ofB
 split
 · rfl
 · rename_i h
   have : b = endBd := by
    rcases b.h with q | q
    · exact absurd q h
    · cases b; simp at q; subst q; rfl
   rw [this]
   rfl
theorem ofB_z (a b : Bd) (ha : a.b.length = 24) : (ofB a b ha).e = true → (ofB a b ha).T = zs 24 := by unfold ofB; split <;> simp
def kP (l : List Bd) (x : Bd) : Nat := (l.takeWhile fun y => decide (y.v < x.v)).length
def withP (l : List Bd) (x : Bd) : List Bd := if (l[kP l x]?).map Bd.v = some x.v then l else l.take (kP l x) ++ x :: l.drop (kP l x)
def Rise (l : List Bd) : Prop := l.Pairwise fun a b => a.v < b.v
theorem kP_le (l : List Bd) (x : Bd) : kP l x ≤ l.length := (List.takeWhile_prefix _).length_le
theorem take_kP (l : List Bd) (x : Bd) : ∀ y ∈ l.take (kP l x), y.v < x.v := by
 have e : l.take (kP l x) = l.takeWhile fun y => decide (y.v < x.v) := by
  unfold kP
  exact (List.prefix_iff_eq_take.1 (List.takeWhile_prefix _)).symm
 rw [e]
 intro y hy
 have : ∀ (m : List Bd), y ∈ m.takeWhile (fun y => decide (y.v < x.v)) → y.v < x.v := by
  intro m
  induction m with
  | nil => intro h; cases h
  | cons z r ih =>
   intro h
   by_cases hz : z.v < x.v
   · rw [List.takeWhile_cons_of_pos (by simpa using hz)] at h
     rcases List.mem_cons.1 h with rfl | h
     · exact hz
     · exact ih h
   · rw [List.takeWhile_cons_of_neg (by simpa using hz)] at h
     cases h
 exact this l hy
theorem drop_kP : ∀ (l : List Bd) (x : Bd), Rise l → ∀ y ∈ l.drop (kP l x), x.v ≤ y.v
 | [], _, _, y, hy => by simp at hy
 | z :: l, x, h, y, hy => by
  unfold kP at hy
  by_cases hz : z.v < x.v
  · rw [List.takeWhile_cons_of_pos (by simpa using hz), List.length_cons, List.drop_succ_cons] at hy
    exact drop_kP l x (List.pairwise_cons.1 h).2 y hy
  · rw [List.takeWhile_cons_of_neg (by simpa using hz)] at hy
    simp only [List.length_nil, List.drop_zero] at hy
    rcases List.mem_cons.1 hy with rfl | hy
    · omega
    · have := (List.pairwise_cons.1 h).1 y hy
      omega
theorem with_rise (l : List Bd) (x : Bd) (h : Rise l) : Rise (withP l x) := by
 unfold withP
 split
 · exact h
 · rename_i hne
   have h1 := take_kP l x
   have h2 := drop_kP l x h
   have h3 : ∀ y ∈ l.drop (kP l x), x.v < y.v := fun y hy => by
    have a := h2 y hy
    rcases Int.lt_or_eq_of_le a with q | q
    · exact q
    · exfalso
      cases hd : l.drop (kP l x) with
      | nil => rw [hd] at hy; cases hy
      | cons z r =>
       have hz : l[kP l x]? = some z := by
        have := congrArg (fun m => m[0]?) hd
        simpa using this
       have hzv := h2 z (by rw [hd]; simp)
       have hp : (z :: r).Pairwise fun a b => a.v < b.v := by rw [← hd]; exact List.Pairwise.sublist (List.drop_sublist _ _) h
       rw [hd] at hy
       apply hne
       rw [hz]
       rcases List.mem_cons.1 hy with rfl | hy
       · simp [q]
       · have := (List.pairwise_cons.1 hp).1 y hy
         omega
   refine List.pairwise_append.2 ⟨List.Pairwise.sublist (List.take_sublist _ _) h, List.pairwise_cons.2 ⟨h3, List.Pairwise.sublist (List.drop_sublist _ _) h⟩, fun a ha b hb => ?_⟩
   have := h1 a ha
   rcases List.mem_cons.1 hb with rfl | hb
   · exact this
   · have := h3 b hb
     omega
theorem with_mem (l : List Bd) (x y : Bd) : y ∈ withP l x ↔ y ∈ l ∨ y = x := by
 unfold withP
 split
 · rename_i h
   refine ⟨.inl, fun q => ?_⟩
   rcases q with q | rfl
   · exact q
   · cases hg : l[kP l y]? with
     | none => rw [hg] at h; cases h
     | some z =>
      rw [hg] at h
      simp only [Option.map_some, Option.some.injEq] at h
      rw [← Bd.inj h]
      exact List.mem_of_getElem? hg
 · have e : l = l.take (kP l x) ++ l.drop (kP l x) := (List.take_append_drop _ _).symm
   constructor
   · intro h
     rcases List.mem_append.1 h with h | h
     · exact .inl (List.mem_of_mem_take h)
     · rcases List.mem_cons.1 h with h | h
       · exact .inr h
       · exact .inl (List.mem_of_mem_drop h)
   · intro h
     rcases h with h | rfl
     · rw [e] at h
       rcases List.mem_append.1 h with h | h
       · exact List.mem_append.2 (.inl h)
       · exact List.mem_append.2 (.inr (List.mem_cons.2 (.inr h)))
     · exact List.mem_append.2 (.inr (List.mem_cons.2 (.inl rfl)))
theorem with_len (l : List Bd) (x : Bd) : (withP l x).length ≤ l.length + 1 := by
 unfold withP
 split
 · omega
 · simp; have := kP_le l x; omega
def boundsStep (out : List Bd) (s : Sp) : List Bd := if s.bf.v < s.bt.v then withP (withP out s.bf) s.bt else out
def boundsP (l : List Sp) : List Bd := l.foldl boundsStep []
theorem bounds_snoc (l : List Sp) (s : Sp) : boundsP (l ++ [s]) = boundsStep (boundsP l) s := by simp [boundsP]
theorem bounds_ok : ∀ (l : List Sp) (out : List Bd), Rise out → Rise (l.foldl boundsStep out) ∧ (l.foldl boundsStep out).length ≤ out.length + 2 * l.length ∧ ∀ y, y ∈ l.foldl boundsStep out ↔ y ∈ out ∨ ∃ s ∈ l, s.bf.v < s.bt.v ∧ (y = s.bf ∨ y = s.bt)
 | [], out, h => by simp [h]
 | s :: l, out, h => by
  rw [List.foldl_cons]
  unfold boundsStep
  by_cases q : s.bf.v < s.bt.v
  · rw [if_pos q]
    obtain ⟨a, b, c⟩ := bounds_ok l _ (with_rise _ s.bt (with_rise out s.bf h))
    refine ⟨a, ?_, fun y => ?_⟩
    · have h1 := with_len out s.bf
      have h2 := with_len (withP out s.bf) s.bt
      rw [List.length_cons]
      unfold boundsStep at b
      omega
    · have := c y
      unfold boundsStep at this
      rw [this, with_mem, with_mem]
      constructor
      · rintro (((h | h) | h) | ⟨u, hu, h⟩)
        · exact .inl h
        · exact .inr ⟨s, by simp, q, .inl h⟩
        · exact .inr ⟨s, by simp, q, .inr h⟩
        · exact .inr ⟨u, by simp [hu], h⟩
      · rintro (h | ⟨u, hu, hq, h⟩)
        · exact .inl (.inl (.inl h))
        · rcases List.mem_cons.1 hu with rfl | hu
          · rcases h with h | h
            · exact .inl (.inl (.inr h))
            · exact .inl (.inr h)
          · exact .inr ⟨u, hu, hq, h⟩
  · rw [if_neg q]
    obtain ⟨a, b, c⟩ := bounds_ok l out h
    refine ⟨a, by rw [List.length_cons]; unfold boundsStep at b; omega, fun y => ?_⟩
    have := c y
    unfold boundsStep at this
    rw [this]
    constructor
    · rintro (h | ⟨u, hu, h⟩)
      · exact .inl h
      · exact .inr ⟨u, by simp [hu], h⟩
    · rintro (h | ⟨u, hu, hq, h⟩)
      · exact .inl h
      · rcases List.mem_cons.1 hu with rfl | hu
        · exact absurd hq q
        · exact .inr ⟨u, hu, hq, h⟩
theorem bounds_rise (l : List Sp) : Rise (boundsP l) := (bounds_ok l [] List.Pairwise.nil).1
theorem bounds_len (l : List Sp) : (boundsP l).length ≤ 2 * l.length := by have := (bounds_ok l [] List.Pairwise.nil).2.1; simpa [boundsP] using this
theorem bounds_mem (l : List Sp) (y : Bd) : y ∈ boundsP l ↔ ∃ s ∈ l, s.bf.v < s.bt.v ∧ (y = s.bf ∨ y = s.bt) := by have := (bounds_ok l [] List.Pairwise.nil).2.2 y; simpa [boundsP] using this
def stepW (out : List Sp) (a b : Bd) (ha : a.b.length = 24) : List Sp := match out.getLast? with
 | some u => if u.bt.v = a.v then out.dropLast ++ [ofB u.bf b u.hF] else out ++ [ofB a b ha]
 | none => [ofB a b ha]
theorem stepW_len (out : List Sp) (a b : Bd) (ha : a.b.length = 24) : (stepW out a b ha).length ≤ out.length + 1 := by
 unfold stepW
 split
 · split
   · simp
   · simp
 · simp
structure SetV (l : List Sp) : Prop where
 p : l.Pairwise fun u s => u.bt.v < s.bf.v
 n : ∀ s ∈ l, s.bf.v < s.bt.v ∧ (s.e = true → s.T = zs 24)
theorem SetV.from : ∀ {l : List Sp} {lo : Int}, SetV l → (∀ s ∈ l, lo < s.bf.v) → SetFrom lo l
 | [], _, _, _ => trivial
 | s :: r, lo, h, hl => by
  have h1 := hl s (by simp)
  have h2 := h.n s (by simp)
  have hp := List.pairwise_cons.1 h.p
  rw [bf_v] at h1 h2
  refine ⟨h1, ?_⟩
  cases he : s.e with
  | true =>
   refine .inl ⟨rfl, ?_, h2.2 he⟩
   cases r with
   | nil => rfl
   | cons u q =>
    have a := hp.1 u (by simp)
    rw [bt_v, he, bf_v] at a
    have := key_top u.F u.hF
    simp at a
    omega
  | false =>
   rw [bt_v, he] at h2
   refine .inr ⟨rfl, by simpa using h2.1, SetV.from ⟨hp.2, fun u hu => h.n u (by simp [hu])⟩ fun u hu => ?_⟩
   have a := hp.1 u hu
   rw [bt_v, he] at a
   simpa using a
theorem SetV.is {l : List Sp} {g : Int → Bool} (h : SetV l) (hg : ∀ K : List UInt8, K.length = 24 → mem l (num K) = g (num K)) : Is l g :=
 ⟨h.from fun s _ => by rw [bf_v]; omega, hg⟩
structure Wi (g : Int → Bool) (out : List Sp) (a : Bd) : Prop where
 s : SetV out
 u : ∀ s ∈ out, s.bt.v ≤ a.v
 m : ∀ x : Int, 0 ≤ x → x < topV → mem out x = (decide (x < a.v) && g x)
theorem Wi.no {g : Int → Bool} {out : List Sp} {a b : Bd} (h : Wi g out a) (hab : a.v < b.v) (hg : ∀ x : Int, a.v ≤ x → x < b.v → g x = false) : Wi g out b := by
 refine ⟨h.s, fun s hs => by have := h.u s hs; omega, fun x h0 h1 => ?_⟩
 rw [h.m x h0 h1]
 by_cases q : x < a.v
 · have : x < b.v := by omega
   simp [q, this]
 · by_cases q2 : x < b.v
   · rw [hg x (by omega) q2]; simp
   · simp [q, q2]
theorem Wi.yes {g : Int → Bool} {out : List Sp} {a b : Bd} (h : Wi g out a) (ha : a.b.length = 24) (hab : a.v < b.v) (hg : ∀ x : Int, a.v ≤ x → x < b.v → g x = true) : Wi g (stepW out a b ha) b := by
 have key : ∀ (o' : List Sp) (f : Bd) (hf : f.b.length = 24), SetV o' → (∀ s ∈ o', s.bt.v < f.v) → f.v ≤ a.v → (∀ x : Int, 0 ≤ x → x < topV → mem out x = (mem o' x || (decide (f.v ≤ x) && decide (x < a.v)))) → Wi g (o' ++ [ofB f b hf]) b := fun o' f hf h1 h2 h3 h4 => by
  have hbf : (ofB f b hf).bf.v = f.v := by rw [ofB_f]
  have hbt : (ofB f b hf).bt.v = b.v := by rw [ofB_t]
  refine ⟨⟨List.pairwise_append.2 ⟨h1.p, by simp, fun u hu s hs => ?_⟩, fun s hs => ?_⟩, fun s hs => ?_, fun x h0 hx => ?_⟩
  · rw [List.mem_singleton] at hs
    subst hs
    rw [hbf]
    exact h2 u hu
  · rcases List.mem_append.1 hs with hs | hs
    · exact h1.n s hs
    · rw [List.mem_singleton] at hs
      subst hs
      rw [hbf, hbt]
      exact ⟨by omega, ofB_z f b hf⟩
  · rcases List.mem_append.1 hs with hs | hs
    · have := h2 s hs; omega
    · rw [List.mem_singleton] at hs
      subst hs
      rw [hbt]
      exact Int.le_refl _
  · have hm := h.m x h0 hx
    rw [h4 x h0 hx] at hm
    rw [mem_append, show mem [ofB f b hf] x = (ofB f b hf).inb x by simp [mem], inb_v _ x hx, hbf, hbt]
    have hno : a.v ≤ x → mem o' x = false := fun q => by
     unfold mem
     rw [List.any_eq_false]
     intro s hs
     have := h2 s hs
     rw [inb_v s x hx]
     simp
     omega
    by_cases q1 : x < a.v
    · have q2 : x < b.v := by omega
      simp only [q1, q2, decide_true, Bool.and_true, Bool.true_and] at hm ⊢
      exact hm
    · by_cases q2 : x < b.v
      · rw [hno (by omega), hg x (by omega) q2]
        have q3 : f.v ≤ x := by omega
        simp [q2, q3]
      · rw [hno (by omega)]
        simp [q2]
 unfold stepW
 rcases List.eq_nil_or_concat out with rfl | ⟨I, u, rfl⟩
 · simp only [List.getLast?_nil]
   have := key [] a ha ⟨List.Pairwise.nil, fun s hs => by cases hs⟩ (fun s hs => by cases hs) (Int.le_refl _) (fun x _ _ => by by_cases q : x < a.v <;> by_cases q2 : a.v ≤ x <;> simp [mem_nil, q, q2]; omega)
   simpa using this
 · rw [List.concat_eq_append] at *
   simp only [List.getLast?_append, List.getLast?_singleton, Option.some_or, List.dropLast_concat]
   have hpw := List.pairwise_append.1 h.s.p
   have hn := h.s.n u (by simp)
   split
   · rename_i hu
     refine key I u.bf u.hF ⟨hpw.1, fun s hs => h.s.n s (by simp [hs])⟩ (fun s hs => hpw.2.2 s hs u (by simp)) (by omega) fun x h0 hx => ?_
     rw [mem_append, show mem [u] x = u.inb x by simp [mem], inb_v u x hx, hu]
   · rename_i hu
     have hua := h.u u (by simp)
     refine key (I ++ [u]) a ha h.s (fun s hs => ?_) (Int.le_refl _) (fun x _ _ => by by_cases q : x < a.v <;> by_cases q2 : a.v ≤ x <;> simp [q, q2]; omega)
     rcases List.mem_append.1 hs with hs | hs
     · have := hpw.2.2 s hs u (by simp)
       omega
     · rw [List.mem_singleton] at hs
       subst hs
       omega
theorem piece_same (l : List Sp) (C : List Bd) (hC : ∀ s ∈ l, s.bf.v < s.bt.v → s.bf ∈ C ∧ s.bt ∈ C) (a b : Bd) (hab : ∀ y ∈ C, y.v ≤ a.v ∨ b.v ≤ y.v) (x : Int) (h1 : a.v ≤ x) (h2 : x < b.v) : mem l x = mem l a.v := by
 have hb := b.low
 have ha : a.v < topV := by omega
 unfold mem
 rw [Bool.eq_iff_iff, List.any_eq_true, List.any_eq_true]
 constructor
 · rintro ⟨s, hs, hi⟩
   rw [inb_v s x (by omega)] at hi
   simp only [Bool.and_eq_true, decide_eq_true_eq] at hi
   obtain ⟨c1, c2⟩ := hC s hs (by omega)
   refine ⟨s, hs, ?_⟩
   rw [inb_v s a.v ha]
   have := hab _ c1
   have := hab _ c2
   simp only [Bool.and_eq_true, decide_eq_true_eq]
   omega
 · rintro ⟨s, hs, hi⟩
   rw [inb_v s a.v ha] at hi
   simp only [Bool.and_eq_true, decide_eq_true_eq] at hi
   obtain ⟨c1, c2⟩ := hC s hs (by omega)
   refine ⟨s, hs, ?_⟩
   rw [inb_v s x (by omega)]
   have := hab _ c1
   have := hab _ c2
   simp only [Bool.and_eq_true, decide_eq_true_eq]
   omega
theorem out_none (l : List Sp) (C : List Bd) (hC : ∀ s ∈ l, s.bf.v < s.bt.v → s.bf ∈ C ∧ s.bt ∈ C) (x : Int) (hx : x < topV) (h : (∀ y ∈ C, x < y.v) ∨ (∀ y ∈ C, y.v ≤ x)) : mem l x = false := by
 unfold mem
 rw [List.any_eq_false]
 intro s hs hi
 rw [inb_v s x hx] at hi
 simp only [Bool.and_eq_true, decide_eq_true_eq] at hi
 obtain ⟨c1, c2⟩ := hC s hs (by omega)
 rcases h with h | h
 · have := h _ c1; omega
 · have := h _ c2; omega
end
end Go.Proofs.YtdmindhjmjnagaaGreatDoor
