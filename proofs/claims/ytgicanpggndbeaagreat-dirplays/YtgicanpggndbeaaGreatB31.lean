import Derived.Test.YtgicanpggndbeaaGreatB30
import Derived.Test.YtgicanpggndbeaaGreatB22
import Derived.Test.YtgicanpggndbeaaGreatSi
import Derived.Test.YtgicanpggndbeaaGreatB04
import Derived.Test.YtgicanpggndbeaaGreatB07
/- What the marks of a view stand for, whatever is done (mathematics): the changes as they were. -/
namespace Go.Proofs.YtgicanpggndbeaaGreat
set_option linter.unusedVariables false
set_option maxRecDepth 100000
open Go.RowKit

theorem backC_append (C : List Ch) (Q T : List (List Fo)) : backC C (Q ++ T) = backC (backC C T) Q := by
 unfold backC
 rw [List.reverse_append, List.foldl_append]
theorem backC_one (C : List Ch) (L : List Fo) : backC C [L] = takeL C L := rfl
/-- A change, and what the last mark keeps of it: taken back it is as it was. -/
theorem takeL_change {C : List Ch} {L : List Fo} (c : Ch) (ha : Asc Ch.n C) (hL : Asc Fo.n L) (hf : FoOk L) : Asc Fo.n (keepL C L c.kz) ∧ FoOk (keepL C L c.kz) ∧ takeL (putA Ch.n C c) (keepL C L c.kz) = takeL C L := by
 obtain ⟨t1, t2⟩ := takeL_look ha hL hf
 have B : BkInv (takeL C L) { C := C, R := [], U := [L] } (C.length + L.length) := ⟨⟨L, rfl, hL, hf, Nat.le_add_left _ _, t2⟩, ha, Nat.le_add_right _ _, rfl⟩
 have hb := B.change c
 obtain ⟨L', h1, h2, h3, -, h4⟩ := hb.ex
 have h1' : [keepL C L c.kz] = [L'] := h1
 have e : keepL C L c.kz = L' := List.cons.inj h1' |>.1
 rw [e]
 refine ⟨h2, h3, ?_⟩
 obtain ⟨s1, s2⟩ := takeL_look (C := putA Ch.n C c) (putA_asc Ch.n c ha) h2 h3
 refine asc_ext Ch.n s1 t1 fun x => ?_
 rw [s2 x, h4 x]
 cases look Fo.n L' x <;> rfl
/-- The marks, and the changes as they were at each. -/
structure MkIs (V : VS) (D : List (List Ch)) : Prop where
 len : D.length = V.U.length
 asc : Asc Ch.n V.C
 ok : ∀ L ∈ V.U, Asc Fo.n L ∧ FoOk L
 at_ : ∀ i (h : i < D.length), backC V.C (V.U.drop i) = D[i]
theorem MkIs.start : MkIs vs0 [] := ⟨rfl, List.Pairwise.nil, (fun L h => by cases h), fun i h => absurd h (Nat.not_lt_zero _)⟩
theorem MkIs.change {V : VS} {D : List (List Ch)} (h : MkIs V D) (c : Ch) : MkIs (V.change c) D := by
 have hC : (V.change c).C = putA Ch.n V.C c := rfl
 rcases List.eq_nil_or_concat V.U with e | ⟨P, L, e⟩
 · have hU : (V.change c).U = [] := by
     show keepU V.C V.U c.kz = []
     unfold keepU
     rw [e]
     rfl
   have hD : D = [] := List.eq_nil_of_length_eq_zero (by rw [h.len, e]; rfl)
   subst hD
   refine ⟨by rw [hU]; rfl, by rw [hC]; exact putA_asc Ch.n c h.asc, fun L hL => ?_, fun i hi => absurd hi (Nat.not_lt_zero _)⟩
   rw [hU] at hL
   cases hL
 · rw [List.concat_eq_append] at e
   obtain ⟨hL, hf⟩ := h.ok L (by rw [e]; simp)
   obtain ⟨k1, k2, k3⟩ := takeL_change c h.asc hL hf
   have hU : (V.change c).U = P ++ [keepL V.C L c.kz] := by
    show keepU V.C V.U c.kz = _
    unfold keepU
    rw [e]
    have hl : (P ++ [L]).length - 1 = P.length := by simp
    rw [hl, List.set_append_right _ _ (Nat.le_refl _)]
    simp
   have hlen : D.length = P.length + 1 := by rw [h.len, e]; simp
   refine ⟨by rw [hU, hlen]; simp, by rw [hC]; exact putA_asc Ch.n c h.asc, fun M hM => ?_, fun i hi => ?_⟩
   · rw [hU, List.mem_append, List.mem_singleton] at hM
     rcases hM with hM | rfl
     · exact h.ok M (by rw [e]; simp [hM])
     · exact ⟨k1, k2⟩
   · have hi' : i ≤ P.length := by omega
     have ho := h.at_ i hi
     rw [e, List.drop_append_of_le_length hi', backC_append, backC_one] at ho
     rw [hC, hU, List.drop_append_of_le_length hi', backC_append, backC_one, k3]
     exact ho
end Go.Proofs.YtgicanpggndbeaaGreat
/- The document's sets, as plain mathematics: bounds, the pieces between them, the set of those that are so. -/
namespace Go.Proofs.YtgicanpggndbeaaGreat
set_option linter.unusedVariables false
set_option maxRecDepth 100000
open Go.RowKit

def endB : List UInt8 := List.replicate 25 255
/-- A bound: a key's bytes, or the end. -/
structure Bd where
 b : List UInt8
 h : b.length = 24 ∨ b = endB
instance : Inhabited Bd := ⟨⟨zs 24, .inl rfl⟩⟩
def topV : Int := ((256 ^ 24 : Nat) : Int)
def Bd.v (x : Bd) : Int := if x.b.length = 24 then (num x.b : Int) else topV
theorem key_top (K : List UInt8) (h : K.length = 24) : (num K : Int) < topV := by
 have := num_lt K
 rw [h] at this
 unfold topV
 omega
theorem bless_app : ∀ (p q x y : List UInt8), p.length = q.length → Op.bytesLess (p ++ x) (q ++ y) = (Op.bytesLess p q || (p == q && Op.bytesLess x y))
 | [], [], x, y, _ => by simp [Op.bytesLess]
 | [], _ :: _, _, _, h => by cases h
 | _ :: _, [], _, _, h => by cases h
 | a :: p, b :: q, x, y, h => by
  have ih := bless_app p q x y (by simpa using h)
  simp only [List.cons_append, Op.bytesLess, ih]
  by_cases h1 : a < b
  · simp [h1]
  · by_cases h2 : a = b
    · subst h2; simp
    · have h3 : (a == b) = false := by simpa using h2
      simp [h1, h3]
theorem num_ffs : ∀ n, num (List.replicate n 255) + 1 = 256 ^ n
 | 0 => rfl
 | n + 1 => by
  rw [List.replicate_succ, num_cons, List.length_replicate, Nat.pow_succ]
  have := num_ffs n
  have e : (255 : UInt8).toNat = 255 := rfl
  rw [e]
  omega
theorem less_end (K : List UInt8) (h : K.length = 24) : Op.bytesLess K endB = true ∧ Op.bytesLess endB K = false := by
 have e : endB = List.replicate 24 255 ++ [255] := rfl
 have hl : (List.replicate 24 (255 : UInt8)).length = 24 := rfl
 have hn := num_lt K
 have hf := num_ffs 24
 rw [h] at hn
 have hK : K = K ++ [] := (List.append_nil K).symm
 refine ⟨?_, ?_⟩
 · rw [e, hK, bless_app K _ [] [255] (by rw [h, hl]), less_num K _ (by rw [h, hl])]
   clear e
   generalize hR : List.replicate 24 (255 : UInt8) = R at *
   by_cases q : num K < num R
   · rw [decide_eq_true q]; rfl
   · have : K = R := num_inj _ _ (by rw [h, hl]) (by omega)
     rw [this, decide_eq_false (by omega)]
     simp [Op.bytesLess]
 · rw [e, hK, bless_app _ K [255] [] (by rw [h, hl]), less_num _ K (by rw [h, hl])]
   clear e
   generalize hR : List.replicate 24 (255 : UInt8) = R at *
   have q : ¬ num R < num K := by omega
   simp [q, Op.bytesLess]
theorem Bd.less (x y : Bd) : Op.bytesLess x.b y.b = decide (x.v < y.v) := by
 obtain ⟨a, ha⟩ := x
 obtain ⟨b, hb⟩ := y
 unfold Bd.v
 simp only
 rcases ha with ha | rfl
 · rcases hb with hb | rfl
   · rw [if_pos ha, if_pos hb, less_num a b (by rw [ha, hb])]
     rw [Bool.eq_iff_iff]; simp
   · rw [if_pos ha, if_neg (by decide), (less_end a ha).1]
     have := key_top a ha
     simpa using this
 · rcases hb with hb | rfl
   · rw [if_neg (by decide), if_pos hb, (less_end b hb).2]
     have := key_top b hb
     simp
     omega
   · rw [if_neg (by decide)]
     simp
     decide
theorem Bd.inj {x y : Bd} (h : x.v = y.v) : x = y := by
 obtain ⟨a, ha⟩ := x
 obtain ⟨b, hb⟩ := y
 unfold Bd.v at h
 simp only at h
 rcases ha with ha | rfl
 · rcases hb with hb | rfl
   · rw [if_pos ha, if_pos hb] at h
     have := num_inj a b (by rw [ha, hb]) (by omega)
     subst this
     rfl
   · rw [if_pos ha, if_neg (by decide)] at h
     have := key_top a ha
     omega
 · rcases hb with hb | rfl
   · rw [if_neg (by decide), if_pos hb] at h
     have := key_top b hb
     omega
   · rfl
theorem Bd.eq_iff (x y : Bd) : (x.b == y.b) = decide (x.v = y.v) := by
 rw [Bool.eq_iff_iff]
 simp only [beq_iff_eq, decide_eq_true_eq]
 constructor
 · intro h
   have : x = y := by cases x; cases y; simp at h; subst h; rfl
   rw [this]
 · intro h; rw [Bd.inj h]
theorem Bd.low (x : Bd) : 0 ≤ x.v ∧ x.v ≤ topV := by
 obtain ⟨a, ha⟩ := x
 unfold Bd.v
 simp only
 rcases ha with ha | rfl
 · rw [if_pos ha]
   have := key_top a ha
   omega
 · rw [if_neg (by decide)]
   unfold topV
   omega
def endBd : Bd := ⟨endB, .inr rfl⟩
theorem end_v : endBd.v = topV := by unfold Bd.v endBd; rw [if_neg (by decide)]
theorem key_of {x : Bd} (h : x.v < topV) : x.b.length = 24 := by
 rcases x.h with q | q
 · exact q
 · have : x = endBd := by cases x; simp at q; subst q; rfl
   rw [this, end_v] at h
   omega
theorem key_v {x : Bd} (h : x.b.length = 24) : x.v = (num x.b : Int) := by unfold Bd.v; rw [if_pos h]
/-! A span's bounds. -/
def Sp.bf (s : Sp) : Bd := ⟨s.F, .inl s.hF⟩
def Sp.bt (s : Sp) : Bd := if s.e then endBd else ⟨s.T, .inl s.hT⟩
theorem bf_v (s : Sp) : s.bf.v = (num s.F : Int) := key_v s.hF
theorem bt_v (s : Sp) : s.bt.v = if s.e then topV else (num s.T : Int) := by
 unfold Sp.bt
 cases s.e with
 | true => exact end_v
 | false => exact key_v s.hT
theorem inb_v (s : Sp) (x : Int) (hx : x < topV) : s.inb x = (decide (s.bf.v ≤ x) && decide (x < s.bt.v)) := by
 rw [bf_v, bt_v]
 unfold Sp.inb
 cases s.e with
 | true => simp [hx]
 | false => simp
def ofB (a b : Bd) (ha : a.b.length = 24) : Sp := if h : b.b.length = 24 then ⟨a.b, b.b, false, ha, h⟩ else ⟨a.b, zs 24, true, ha, rfl⟩
theorem ofB_f (a b : Bd) (ha : a.b.length = 24) : (ofB a b ha).bf = a := by unfold ofB; split <;> rfl
theorem ofB_t (a b : Bd) (ha : a.b.length = 24) : (ofB a b ha).bt = b := by
 unfold ofB
 split
 · rfl
 · rename_i h
   have : b = endBd := by
    rcases b.h with q | q
    · exact absurd q h
    · cases b; simp at q; subst q; rfl
   rw [this]
   rfl
theorem ofB_z (a b : Bd) (ha : a.b.length = 24) : (ofB a b ha).e = true → (ofB a b ha).T = zs 24 := by unfold ofB; split <;> simp
/-! with: a rising row with one more. -/
def kP (l : List Bd) (x : Bd) : Nat := (l.takeWhile fun y => decide (y.v < x.v)).length
def withP (l : List Bd) (x : Bd) : List Bd := if (l[kP l x]?).map Bd.v = some x.v then l else l.take (kP l x) ++ x :: l.drop (kP l x)
def Rise (l : List Bd) : Prop := l.Pairwise fun a b => a.v < b.v
theorem kP_le (l : List Bd) (x : Bd) : kP l x ≤ l.length := (List.takeWhile_prefix _).length_le
theorem take_kP (l : List Bd) (x : Bd) : ∀ y ∈ l.take (kP l x), y.v < x.v := by
 have e : l.take (kP l x) = l.takeWhile fun y => decide (y.v < x.v) := by
  unfold kP
  exact (List.prefix_iff_eq_take.1 (List.takeWhile_prefix _)).symm
 rw [e]
 intro y hy
 have : ∀ (m : List Bd), y ∈ m.takeWhile (fun y => decide (y.v < x.v)) → y.v < x.v := by
  intro m
  induction m with
  | nil => intro h; cases h
  | cons z r ih =>
   intro h
   by_cases hz : z.v < x.v
   · rw [List.takeWhile_cons_of_pos (by simpa using hz)] at h
     rcases List.mem_cons.1 h with rfl | h
     · exact hz
     · exact ih h
   · rw [List.takeWhile_cons_of_neg (by simpa using hz)] at h
     cases h
 exact this l hy
theorem drop_kP : ∀ (l : List Bd) (x : Bd), Rise l → ∀ y ∈ l.drop (kP l x), x.v ≤ y.v
 | [], _, _, y, hy => by simp at hy
 | z :: l, x, h, y, hy => by
  unfold kP at hy
  by_cases hz : z.v < x.v
  · rw [List.takeWhile_cons_of_pos (by simpa using hz), List.length_cons, List.drop_succ_cons] at hy
    exact drop_kP l x (List.pairwise_cons.1 h).2 y hy
  · rw [List.takeWhile_cons_of_neg (by simpa using hz)] at hy
    simp only [List.length_nil, List.drop_zero] at hy
    rcases List.mem_cons.1 hy with rfl | hy
    · omega
    · have := (List.pairwise_cons.1 h).1 y hy
      omega
theorem with_rise (l : List Bd) (x : Bd) (h : Rise l) : Rise (withP l x) := by
 unfold withP
 split
 · exact h
 · rename_i hne
   have h1 := take_kP l x
   have h2 := drop_kP l x h
   have h3 : ∀ y ∈ l.drop (kP l x), x.v < y.v := fun y hy => by
    have a := h2 y hy
    rcases Int.lt_or_eq_of_le a with q | q
    · exact q
    · exfalso
      cases hd : l.drop (kP l x) with
      | nil => rw [hd] at hy; cases hy
      | cons z r =>
       have hz : l[kP l x]? = some z := by
        have := congrArg (fun m => m[0]?) hd
        simpa using this
       have hzv := h2 z (by rw [hd]; simp)
       have hp : (z :: r).Pairwise fun a b => a.v < b.v := by rw [← hd]; exact List.Pairwise.sublist (List.drop_sublist _ _) h
       rw [hd] at hy
       apply hne
       rw [hz]
       rcases List.mem_cons.1 hy with rfl | hy
       · simp [q]
       · have := (List.pairwise_cons.1 hp).1 y hy
         omega
   refine List.pairwise_append.2 ⟨List.Pairwise.sublist (List.take_sublist _ _) h, List.pairwise_cons.2 ⟨h3, List.Pairwise.sublist (List.drop_sublist _ _) h⟩, fun a ha b hb => ?_⟩
   have := h1 a ha
   rcases List.mem_cons.1 hb with rfl | hb
   · exact this
   · have := h3 b hb
     omega
theorem with_mem (l : List Bd) (x y : Bd) : y ∈ withP l x ↔ y ∈ l ∨ y = x := by
 unfold withP
 split
 · rename_i h
   refine ⟨.inl, fun q => ?_⟩
   rcases q with q | rfl
   · exact q
   · cases hg : l[kP l y]? with
     | none => rw [hg] at h; cases h
     | some z =>
      rw [hg] at h
      simp only [Option.map_some, Option.some.injEq] at h
      rw [← Bd.inj h]
      exact List.mem_of_getElem? hg
 · have e : l = l.take (kP l x) ++ l.drop (kP l x) := (List.take_append_drop _ _).symm
   constructor
   · intro h
     rcases List.mem_append.1 h with h | h
     · exact .inl (List.mem_of_mem_take h)
     · rcases List.mem_cons.1 h with h | h
       · exact .inr h
       · exact .inl (List.mem_of_mem_drop h)
   · intro h
     rcases h with h | rfl
     · rw [e] at h
       rcases List.mem_append.1 h with h | h
       · exact List.mem_append.2 (.inl h)
       · exact List.mem_append.2 (.inr (List.mem_cons.2 (.inr h)))
     · exact List.mem_append.2 (.inr (List.mem_cons.2 (.inl rfl)))
theorem with_len (l : List Bd) (x : Bd) : (withP l x).length ≤ l.length + 1 := by
 unfold withP
 split
 · omega
 · simp; have := kP_le l x; omega
def boundsStep (out : List Bd) (s : Sp) : List Bd := if s.bf.v < s.bt.v then withP (withP out s.bf) s.bt else out
def boundsP (l : List Sp) : List Bd := l.foldl boundsStep []
theorem bounds_snoc (l : List Sp) (s : Sp) : boundsP (l ++ [s]) = boundsStep (boundsP l) s := by simp [boundsP]
theorem bounds_ok : ∀ (l : List Sp) (out : List Bd), Rise out → Rise (l.foldl boundsStep out) ∧ (l.foldl boundsStep out).length ≤ out.length + 2 * l.length ∧ ∀ y, y ∈ l.foldl boundsStep out ↔ y ∈ out ∨ ∃ s ∈ l, s.bf.v < s.bt.v ∧ (y = s.bf ∨ y = s.bt)
 | [], out, h => by simp [h]
 | s :: l, out, h => by
  rw [List.foldl_cons]
  unfold boundsStep
  by_cases q : s.bf.v < s.bt.v
  · rw [if_pos q]
    obtain ⟨a, b, c⟩ := bounds_ok l _ (with_rise _ s.bt (with_rise out s.bf h))
    refine ⟨a, ?_, fun y => ?_⟩
    · have h1 := with_len out s.bf
      have h2 := with_len (withP out s.bf) s.bt
      rw [List.length_cons]
      unfold boundsStep at b
      omega
    · have := c y
      unfold boundsStep at this
      rw [this, with_mem, with_mem]
      constructor
      · rintro (((h | h) | h) | ⟨u, hu, h⟩)
        · exact .inl h
        · exact .inr ⟨s, by simp, q, .inl h⟩
        · exact .inr ⟨s, by simp, q, .inr h⟩
        · exact .inr ⟨u, by simp [hu], h⟩
      · rintro (h | ⟨u, hu, hq, h⟩)
        · exact .inl (.inl (.inl h))
        · rcases List.mem_cons.1 hu with rfl | hu
          · rcases h with h | h
            · exact .inl (.inl (.inr h))
            · exact .inl (.inr h)
          · exact .inr ⟨u, hu, hq, h⟩
  · rw [if_neg q]
    obtain ⟨a, b, c⟩ := bounds_ok l out h
    refine ⟨a, by rw [List.length_cons]; unfold boundsStep at b; omega, fun y => ?_⟩
    have := c y
    unfold boundsStep at this
    rw [this]
    constructor
    · rintro (h | ⟨u, hu, h⟩)
      · exact .inl h
      · exact .inr ⟨u, by simp [hu], h⟩
    · rintro (h | ⟨u, hu, hq, h⟩)
      · exact .inl h
      · rcases List.mem_cons.1 hu with rfl | hu
        · exact absurd hq q
        · exact .inr ⟨u, hu, hq, h⟩
theorem bounds_rise (l : List Sp) : Rise (boundsP l) := (bounds_ok l [] List.Pairwise.nil).1
theorem bounds_len (l : List Sp) : (boundsP l).length ≤ 2 * l.length := by have := (bounds_ok l [] List.Pairwise.nil).2.1; simpa [boundsP] using this
theorem bounds_mem (l : List Sp) (y : Bd) : y ∈ boundsP l ↔ ∃ s ∈ l, s.bf.v < s.bt.v ∧ (y = s.bf ∨ y = s.bt) := by have := (bounds_ok l [] List.Pairwise.nil).2.2 y; simpa [boundsP] using this
/-! where: the set of the pieces that are so. -/
def stepW (out : List Sp) (a b : Bd) (ha : a.b.length = 24) : List Sp := match out.getLast? with
 | some u => if u.bt.v = a.v then out.dropLast ++ [ofB u.bf b u.hF] else out ++ [ofB a b ha]
 | none => [ofB a b ha]
theorem stepW_len (out : List Sp) (a b : Bd) (ha : a.b.length = 24) : (stepW out a b ha).length ≤ out.length + 1 := by
 unfold stepW
 split
 · split
   · simp
   · simp
 · simp
/-- A set, by its bounds. -/
structure SetV (l : List Sp) : Prop where
 p : l.Pairwise fun u s => u.bt.v < s.bf.v
 n : ∀ s ∈ l, s.bf.v < s.bt.v ∧ (s.e = true → s.T = zs 24)
theorem SetV.from : ∀ {l : List Sp} {lo : Int}, SetV l → (∀ s ∈ l, lo < s.bf.v) → SetFrom lo l
 | [], _, _, _ => trivial
 | s :: r, lo, h, hl => by
  have h1 := hl s (by simp)
  have h2 := h.n s (by simp)
  have hp := List.pairwise_cons.1 h.p
  rw [bf_v] at h1 h2
  refine ⟨h1, ?_⟩
  cases he : s.e with
  | true =>
   refine .inl ⟨rfl, ?_, h2.2 he⟩
   cases r with
   | nil => rfl
   | cons u q =>
    have a := hp.1 u (by simp)
    rw [bt_v, he, bf_v] at a
    have := key_top u.F u.hF
    simp at a
    omega
  | false =>
   rw [bt_v, he] at h2
   refine .inr ⟨rfl, by simpa using h2.1, SetV.from ⟨hp.2, fun u hu => h.n u (by simp [hu])⟩ fun u hu => ?_⟩
   have a := hp.1 u hu
   rw [bt_v, he] at a
   simpa using a
theorem SetV.is {l : List Sp} {g : Int → Bool} (h : SetV l) (hg : ∀ K : List UInt8, K.length = 24 → mem l (num K) = g (num K)) : Is l g :=
 ⟨h.from fun s _ => by rw [bf_v]; omega, hg⟩
/-- What stands behind the pieces up to a bound. -/
structure Wi (g : Int → Bool) (out : List Sp) (a : Bd) : Prop where
 s : SetV out
 u : ∀ s ∈ out, s.bt.v ≤ a.v
 m : ∀ x : Int, 0 ≤ x → x < topV → mem out x = (decide (x < a.v) && g x)
theorem Wi.no {g : Int → Bool} {out : List Sp} {a b : Bd} (h : Wi g out a) (hab : a.v < b.v) (hg : ∀ x : Int, a.v ≤ x → x < b.v → g x = false) : Wi g out b := by
 refine ⟨h.s, fun s hs => by have := h.u s hs; omega, fun x h0 h1 => ?_⟩
 rw [h.m x h0 h1]
 by_cases q : x < a.v
 · have : x < b.v := by omega
   simp [q, this]
 · by_cases q2 : x < b.v
   · rw [hg x (by omega) q2]; simp
   · simp [q, q2]
theorem Wi.yes {g : Int → Bool} {out : List Sp} {a b : Bd} (h : Wi g out a) (ha : a.b.length = 24) (hab : a.v < b.v) (hg : ∀ x : Int, a.v ≤ x → x < b.v → g x = true) : Wi g (stepW out a b ha) b := by
 have key : ∀ (o' : List Sp) (f : Bd) (hf : f.b.length = 24), SetV o' → (∀ s ∈ o', s.bt.v < f.v) → f.v ≤ a.v → (∀ x : Int, 0 ≤ x → x < topV → mem out x = (mem o' x || (decide (f.v ≤ x) && decide (x < a.v)))) → Wi g (o' ++ [ofB f b hf]) b := fun o' f hf h1 h2 h3 h4 => by
  have hbf : (ofB f b hf).bf.v = f.v := by rw [ofB_f]
  have hbt : (ofB f b hf).bt.v = b.v := by rw [ofB_t]
  refine ⟨⟨List.pairwise_append.2 ⟨h1.p, by simp, fun u hu s hs => ?_⟩, fun s hs => ?_⟩, fun s hs => ?_, fun x h0 hx => ?_⟩
  · rw [List.mem_singleton] at hs
    subst hs
    rw [hbf]
    exact h2 u hu
  · rcases List.mem_append.1 hs with hs | hs
    · exact h1.n s hs
    · rw [List.mem_singleton] at hs
      subst hs
      rw [hbf, hbt]
      exact ⟨by omega, ofB_z f b hf⟩
  · rcases List.mem_append.1 hs with hs | hs
    · have := h2 s hs; omega
    · rw [List.mem_singleton] at hs
      subst hs
      rw [hbt]
      exact Int.le_refl _
  · have hm := h.m x h0 hx
    rw [h4 x h0 hx] at hm
    rw [mem_append, show mem [ofB f b hf] x = (ofB f b hf).inb x by simp [mem], inb_v _ x hx, hbf, hbt]
    have hno : a.v ≤ x → mem o' x = false := fun q => by
     unfold mem
     rw [List.any_eq_false]
     intro s hs
     have := h2 s hs
     rw [inb_v s x hx]
     simp
     omega
    by_cases q1 : x < a.v
    · have q2 : x < b.v := by omega
      simp only [q1, q2, decide_true, Bool.and_true, Bool.true_and] at hm ⊢
      exact hm
    · by_cases q2 : x < b.v
      · rw [hno (by omega), hg x (by omega) q2]
        have q3 : f.v ≤ x := by omega
        simp [q2, q3]
      · rw [hno (by omega)]
        simp [q2]
 unfold stepW
 rcases List.eq_nil_or_concat out with rfl | ⟨I, u, rfl⟩
 · simp only [List.getLast?_nil]
   have := key [] a ha ⟨List.Pairwise.nil, fun s hs => by cases hs⟩ (fun s hs => by cases hs) (Int.le_refl _) (fun x _ _ => by by_cases q : x < a.v <;> by_cases q2 : a.v ≤ x <;> simp [mem_nil, q, q2]; omega)
   simpa using this
 · rw [List.concat_eq_append] at *
   simp only [List.getLast?_append, List.getLast?_singleton, Option.some_or, List.dropLast_concat]
   have hpw := List.pairwise_append.1 h.s.p
   have hn := h.s.n u (by simp)
   split
   · rename_i hu
     refine key I u.bf u.hF ⟨hpw.1, fun s hs => h.s.n s (by simp [hs])⟩ (fun s hs => hpw.2.2 s hs u (by simp)) (by omega) fun x h0 hx => ?_
     rw [mem_append, show mem [u] x = u.inb x by simp [mem], inb_v u x hx, hu]
   · rename_i hu
     have hua := h.u u (by simp)
     refine key (I ++ [u]) a ha h.s (fun s hs => ?_) (Int.le_refl _) (fun x _ _ => by by_cases q : x < a.v <;> by_cases q2 : a.v ≤ x <;> simp [q, q2]; omega)
     rcases List.mem_append.1 hs with hs | hs
     · have := hpw.2.2 s hs u (by simp)
       omega
     · rw [List.mem_singleton] at hs
       subst hs
       omega
/-- Of the spans of a list whose bounds are all among the cuts what is meant is the same all through a piece. -/
theorem piece_same (l : List Sp) (C : List Bd) (hC : ∀ s ∈ l, s.bf.v < s.bt.v → s.bf ∈ C ∧ s.bt ∈ C) (a b : Bd) (hab : ∀ y ∈ C, y.v ≤ a.v ∨ b.v ≤ y.v) (x : Int) (h1 : a.v ≤ x) (h2 : x < b.v) : mem l x = mem l a.v := by
 have hb := b.low
 have ha : a.v < topV := by omega
 unfold mem
 rw [Bool.eq_iff_iff, List.any_eq_true, List.any_eq_true]
 constructor
 · rintro ⟨s, hs, hi⟩
   rw [inb_v s x (by omega)] at hi
   simp only [Bool.and_eq_true, decide_eq_true_eq] at hi
   obtain ⟨c1, c2⟩ := hC s hs (by omega)
   refine ⟨s, hs, ?_⟩
   rw [inb_v s a.v ha]
   have := hab _ c1
   have := hab _ c2
   simp only [Bool.and_eq_true, decide_eq_true_eq]
   omega
 · rintro ⟨s, hs, hi⟩
   rw [inb_v s a.v ha] at hi
   simp only [Bool.and_eq_true, decide_eq_true_eq] at hi
   obtain ⟨c1, c2⟩ := hC s hs (by omega)
   refine ⟨s, hs, ?_⟩
   rw [inb_v s x (by omega)]
   have := hab _ c1
   have := hab _ c2
   simp only [Bool.and_eq_true, decide_eq_true_eq]
   omega
theorem out_none (l : List Sp) (C : List Bd) (hC : ∀ s ∈ l, s.bf.v < s.bt.v → s.bf ∈ C ∧ s.bt ∈ C) (x : Int) (hx : x < topV) (h : (∀ y ∈ C, x < y.v) ∨ (∀ y ∈ C, y.v ≤ x)) : mem l x = false := by
 unfold mem
 rw [List.any_eq_false]
 intro s hs hi
 rw [inb_v s x hx] at hi
 simp only [Bool.and_eq_true, decide_eq_true_eq] at hi
 obtain ⟨c1, c2⟩ := hC s hs (by omega)
 rcases h with h | h
 · have := h _ c1; omega
 · have := h _ c2; omega
end Go.Proofs.YtgicanpggndbeaaGreat
/- The document's bounds in memory; its End, to, of, key, Has, Any. -/
namespace Go.Proofs.YtgicanpggndbeaaGreat
set_option linter.unusedVariables false
set_option maxRecDepth 100000
open Go.RowKit

def encT : Enc Bd 1 := ⟨fun x => [.string (str x.b)], fun _ => rfl, fun _ v hv => by rw [List.mem_singleton] at hv; subst hv; rfl⟩
def encB : Enc Bool 1 := ⟨fun x => [.bool x], fun _ => rfl, fun _ v hv => by rw [List.mem_singleton] at hv; subst hv; rfl⟩
theorem rowT : RowTy Tryz.prog encT 37 9 16 := ⟨Tryz.underlying37, ⟨.string ByteArray.empty, by kernel_rfl, rfl⟩, by decide⟩
theorem rowB : RowTy Tryz.prog encB 185 4 1 := ⟨Tryz.underlying185, ⟨.bool false, by kernel_rfl, rfl⟩, by decide⟩
theorem str_push (k : Nat) : str (List.replicate k 255) ++ (⟨#[255]⟩ : ByteArray) = str (List.replicate (k + 1) 255) := by
 apply ByteArray.ext
 rw [ByteArray.data_append, List.replicate_succ']
 exact List.append_toArray (List.replicate k (255 : UInt8)) [255]
set_option maxHeartbeats 1000000 in
theorem end_calls (w : World) : Calls Tryz.prog 165 #[] w fun e w' => e = .returned (.string (str endB)) ∧ w' = w := by
 go_enter Tryz.func165, Tryz.ntmps165
 go_wp2
 go_loopg [1, 2] 25 (fun gg s i wr => ∃ k : Nat, k + gg = 25 ∧ i = .int .i64 (k : Int) ∧ s = .string (str (List.replicate k 255)) ∧ wr = w)
 case atStart => exact ⟨0, by omega, rfl, rfl, rfl⟩
 case round =>
  obtain ⟨k, hk, rfl, rfl, rfl⟩ := hrel
  cases gk with
  | zero =>
   have hk2 : k = 25 := by omega
   subst hk2
   go_wp2
   go_ret
   exact ⟨rfl, rfl⟩
  | succ gg =>
   have hlt : (k : Int) < 25 := by omega
   have hp := str_push k
   have hq : (str (List.replicate k 255)).size = k := by rw [str_size, List.length_replicate]
   have hk25 : k < 25 := by omega
   go_wp2
   all_goals (try (exfalso; omega))
   go_roundg gg
   case measure => omega
   case rel => exact ⟨k + 1, by omega, congrArg (Value.int .i64) (show (k : Int) + 1 = ((k + 1 : Nat) : Int) by omega), by first | rfl | (rw [hp]) | (rw [← hp]), rfl⟩
set_option maxRecDepth 100000 in
set_option maxHeartbeats 1000000 in
theorem to_calls (w : World) (s : Sp) : Calls Tryz.prog 148 #[spv s] w fun e w' => e = .returned (.string (str s.bt.b)) ∧ Below w.heap.size w w' := by
 obtain ⟨F, T, e, hF, hT⟩ := s
 have h1 : HasS (w.alloc (.cells (sc F T e).toArray 96)) w.heap.size F T e := HasS.new w _ _ _ hF hT
 have cE := h1.ofE
 have conv : (convert 140 9 (.slice (some ⟨w.heap.size, 24, none⟩) 24 24)).run Tryz.prog (w.alloc (.cells (sc F T e).toArray 96)) = .ok (.string (str T)) (w.alloc (.cells (sc F T e).toArray 96)) := conv_part h1.ofT hT 24
 have HB : Hid (Below w.heap.size w (w.alloc (.cells (sc F T e).toArray 96))) := (Below.refl _ w).alloc (Nat.le_refl _) _
 have HT : Hid ((Sp.mk F T e hF hT).bt.b = if e then endB else T) := (show _ = _ by unfold Sp.bt; cases e <;> rfl)
 show Calls Tryz.prog 148 #[sv F T e] w _
 generalize (Sp.mk F T e hF hT).bt.b = RB at *
 cases e with
 | true =>
  clear h1 conv
  go_enter Tryz.func148, Tryz.ntmps148
  go_wp2_with (go_at_call 165; refine (end_calls _).mono ?_; rintro e w1 ⟨rfl, rfl⟩)
  go_ret
  exact ⟨by rw [HT.out]; rfl, HB.out⟩
 | false =>
  clear h1
  go_enter Tryz.func148, Tryz.ntmps148
  go_wp2_with (go_at_call 165; refine (end_calls _).mono ?_; rintro e w1 ⟨rfl, rfl⟩)
  (refine bodyPost_ret (v := .string (str T)) (by simp [results, go_sem]) rfl ?_)
  exact ⟨by rw [HT.out]; rfl, HB.out⟩
theorem copy_run (w : World) (g off : Nat) (s : List UInt8) (hl : s.length = 24) (cur : Array Value) (t ty : TypeId) (hg : w.heap[g]? = some (.cells cur t (0, 0))) (hfit : off + 24 ≤ cur.size) :
    (Builtin.copy_ #[140, 9] ty #[.slice (some ⟨g, off, none⟩) 24 24, .string (str s)]).run Tryz.prog w = .ok (goInt (24 : Nat)) (w.setRow g (cur.toList.take off ++ bc s ++ cur.toList.drop (off + 24)).toArray) := by
 have hsz : (Tryz.prog.info? 5).map (·.size) = some 1 := by kernel_rfl
 have hs24 : (str s).size = 24 := by rw [str_size, hl]
 have hrun := Lib.run_copy_row_string (P := Tryz.prog) w 140 9 ty 5 g off 24 24 (str s) cur t Tryz.underlying140 hsz hg (by rw [hs24]; exact Nat.le_refl _) (by rw [hs24]; exact hfit)
 rw [hs24, str_list, bc_map] at hrun
 exact hrun
theorem copyK (w : World) (g : Nat) (s K : List UInt8) (hl : s.length = 24) (hK : Has w g K) (ty : TypeId) : ∃ w', (Builtin.copy_ #[140, 9] ty #[.slice (some ⟨g, 0, none⟩) 24 24, .string (str s)]).run Tryz.prog w = .ok (goInt (24 : Nat)) w' ∧ Has w' g s ∧ Touch g none w w' ∧ w'.heap.size = w.heap.size := by
 have h := copy_run w g 0 s hl _ _ ty hK.blk (by rw [bc_size, hK.len]; exact Nat.le_refl _)
 have e : ((bc K).toArray.toList.take 0 ++ bc s ++ (bc K).toArray.toList.drop (0 + 24)).toArray = (bc s).toArray := by
  have hl' : (bc K).length = 24 := by rw [bc_length, hK.len]
  rw [List.take_zero, List.nil_append, List.drop_of_length_le (by simp [hl']), List.append_nil]
 rw [e] at h
 exact ⟨_, h, hK.setRow s hl, touch_setRow _ _ _, by simp⟩
theorem copyF (w : World) (g : Nat) (s F T : List UInt8) (e : Bool) (hl : s.length = 24) (hK : HasS w g F T e) (ty : TypeId) : ∃ w', (Builtin.copy_ #[140, 9] ty #[.slice (some ⟨g, 0, none⟩) 24 24, .string (str s)]).run Tryz.prog w = .ok (goInt (24 : Nat)) w' ∧ HasS w' g s T e ∧ Touch g none w w' ∧ w'.heap.size = w.heap.size := by
 have h := copy_run w g 0 s hl _ _ ty hK.blk (by rw [sv_size _ _ _ hK.f hK.t]; omega)
 have e1 := sc_F F s T e hK.f hl
 have e2 : (kv s).cells.toList = bc s := rfl
 rw [e2] at e1
 rw [e1] at h
 exact ⟨_, h, hK.row hl hK.t, touch_setRow _ _ _, by simp⟩
theorem copyT (w : World) (g : Nat) (s F T : List UInt8) (e : Bool) (hl : s.length = 24) (hK : HasS w g F T e) (ty : TypeId) : ∃ w', (Builtin.copy_ #[140, 9] ty #[.slice (some ⟨g, 24, none⟩) 24 24, .string (str s)]).run Tryz.prog w = .ok (goInt (24 : Nat)) w' ∧ HasS w' g F s e ∧ Touch g none w w' ∧ w'.heap.size = w.heap.size := by
 have h := copy_run w g 24 s hl _ _ ty hK.blk (by rw [sv_size _ _ _ hK.f hK.t]; omega)
 have e1 := sc_T F T s e hK.f hK.t
 have e2 : (kv s).cells.toList = bc s := rfl
 rw [e2] at e1
 rw [e1] at h
 exact ⟨_, h, hK.row hK.f hl, touch_setRow _ _ _, by simp⟩
theorem upon_run8 {P : Program} {o : Oper} {a : Act} {K : Act → World → Prop} {Q : Exit → Act → World → Prop} {m : Sem Value} {w w' : World} {v : Value} (hr : m.run P w = .ok v w') (h : K (a.put o.dst v) w') : Oper.upon P o a K Q ((m.run P w).andThen fun a w' => Result.ok (Next.value a) w') := by
 rw [hr]
 simp only [Result.andThen]
 rw [Oper.upon_value]
 exact h
set_option maxRecDepth 100000 in
set_option maxHeartbeats 1000000 in
/-- The key of a bound that is one. -/
theorem rkey_calls (w : World) (K : List UInt8) (hK : K.length = 24) : Calls Tryz.prog 120 #[.string (str K)] w fun e w' => e = .returned (kv K) ∧ Below w.heap.size w w' := by
 have h0 : Has ((w.alloc (.cells (bc (zs 24)).toArray 29)).alloc (.cells (bc (zs 24)).toArray 29)) w.heap.size (zs 24) := (Has.new w (zs 24) rfl).alloc _
 have h1 : Has ((w.alloc (.cells (bc (zs 24)).toArray 29)).alloc (.cells (bc (zs 24)).toArray 29)) (w.heap.size + 1) (zs 24) := by have := Has.new (w.alloc (.cells (bc (zs 24)).toArray 29)) (zs 24) rfl; simpa using this
 have HS : Hid (Has ((w.alloc (.cells (bc (zs 24)).toArray 29)).alloc (.cells (bc (zs 24)).toArray 29)) w.heap.size (zs 24) ∧ Has ((w.alloc (.cells (bc (zs 24)).toArray 29)).alloc (.cells (bc (zs 24)).toArray 29)) (w.heap.size + 1) (zs 24)) := ⟨h0, h1⟩
 clear h0 h1
 obtain ⟨w2, hr, h2, t2, s2⟩ := copyK _ (w.heap.size + 1) K (zs 24) hK HS.out.2 3
 have HR : Hid ((Builtin.copy_ #[140, 9] 3 #[.slice (some ⟨w.heap.size + 1, 0, none⟩) 24 24, .string (str K)]).run Tryz.prog ((w.alloc (.cells (bc (zs 24)).toArray 29)).alloc (.cells (bc (zs 24)).toArray 29)) = .ok (goInt (24 : Nat)) w2) := hr
 clear hr
 go_enter Tryz.func120, Tryz.ntmps120
 go_wp2
 refine upon_run8 HR.out ?_
 go_wp2_with (first
  | (refine load_key _ rfl (w.heap.size + 1) rfl rfl _ h2 ?_)
  | (refine store_key rfl _ _ rfl w.heap.size rfl _ rfl hK (zs 24) (HS.out.1.touch t2 (by omega)) ?_; intro w4 h4 t4 s4))
 refine ret_key rfl _ _ rfl h4 rfl ⟨rfl, ?_⟩
 exact below_touched (below_touched (below_made (below_made (Below.refl _ w) (Nat.le_refl _) _) (Nat.le_refl _) _) t2 (by omega) (Nat.le_refl _)) t4 (Nat.le_refl _) (Nat.le_refl _)
theorem hasS_end {w : World} {b : Nat} {F T : List UInt8} {e : Bool} (h : HasS w b F T e) : HasS (w.setCell ⟨b, 48, none⟩ (.bool true)) b F T true := by
 refine ⟨h.f, h.t, ?_⟩
 rw [setCell_eq_setRow w b 48 _ _ _ _ h.blk, setRow_heap w b _ _ _ _ h.blk]
 have hl : (bc F ++ bc T).length = 48 := by rw [List.length_append, bc_length, bc_length, h.f, h.t]
 congr 2
 simp only [sc, List.setIfInBounds_toArray]
 rw [List.set_append_right _ _ (by omega), hl]
 rfl
theorem hasS_other {w : World} {b p j : Nat} {F T : List UInt8} {e : Bool} {u : Value} (h : HasS w b F T e) (hp : b ≠ p) : HasS (w.setCell ⟨p, j, none⟩ u) b F T e := ⟨h.f, h.t, by rw [Below.heap_setCell _ _ _ _ (by simpa using hp)]; exact h.blk⟩
set_option maxRecDepth 100000 in
set_option maxHeartbeats 2000000 in
/-- The span from a bound to another one. -/
theorem rof_calls (w : World) (a b : Bd) (ha : a.b.length = 24) : Calls Tryz.prog 150 #[.string (str a.b), .string (str b.b)] w fun e w' => e = .returned (spv (ofB a b ha)) ∧ Below w.heap.size w w' := by
 have h0 : HasS ((w.alloc (.cells (sc (zs 24) (zs 24) false).toArray 96)).alloc (.cells (sc (zs 24) (zs 24) false).toArray 96)) w.heap.size (zs 24) (zs 24) false := (HasS.new w (zs 24) (zs 24) false rfl rfl).alloc _
 have h1 : HasS ((w.alloc (.cells (sc (zs 24) (zs 24) false).toArray 96)).alloc (.cells (sc (zs 24) (zs 24) false).toArray 96)) (w.heap.size + 1) (zs 24) (zs 24) false := by have := HasS.new (w.alloc (.cells (sc (zs 24) (zs 24) false).toArray 96)) (zs 24) (zs 24) false rfl rfl; simpa using this
 have HS : Hid (HasS ((w.alloc (.cells (sc (zs 24) (zs 24) false).toArray 96)).alloc (.cells (sc (zs 24) (zs 24) false).toArray 96)) w.heap.size (zs 24) (zs 24) false ∧ HasS ((w.alloc (.cells (sc (zs 24) (zs 24) false).toArray 96)).alloc (.cells (sc (zs 24) (zs 24) false).toArray 96)) (w.heap.size + 1) (zs 24) (zs 24) false) := ⟨h0, h1⟩
 have heq : ((str b.b).toList == (str endB).toList) = decide (¬ b.b.length = 24) := by
  rw [str_toList, str_toList]
  rcases b.h with h | h
  · have : ¬ b.b = endB := fun e => by rw [e] at h; cases h
    rw [Bool.eq_iff_iff]; simp [h, this]
  · rw [h]; rfl
 clear h0 h1
 by_cases hb : b.b.length = 24
 · have HR : Hid (ofB a b ha = ⟨a.b, b.b, false, ha, hb⟩) := (show _ = _ by unfold ofB; rw [dif_pos hb])
   rw [decide_eq_false (by simpa using hb)] at heq
   have HQ : Hid (((str b.b).toList == (str endB).toList) = false) := heq
   generalize ofB a b ha = R at *
   generalize a.b = A at *
   generalize b.b = Z at *
   obtain ⟨w2, hr, h2, t2, s2⟩ := copyF _ (w.heap.size + 1) A (zs 24) (zs 24) false ha HS.out.2 3
   have HC : Hid ((Builtin.copy_ #[140, 9] 3 #[.slice (some ⟨w.heap.size + 1, 0, none⟩) 24 24, .string (str A)]).run Tryz.prog ((w.alloc (.cells (sc (zs 24) (zs 24) false).toArray 96)).alloc (.cells (sc (zs 24) (zs 24) false).toArray 96)) = .ok (goInt (24 : Nat)) w2) := hr
   clear hr
   obtain ⟨w3, hr3, h3, t3, s3⟩ := copyT w2 (w.heap.size + 1) Z A (zs 24) false hb h2 3
   have HC3 : Hid ((Builtin.copy_ #[140, 9] 3 #[.slice (some ⟨w.heap.size + 1, 24, none⟩) 24 24, .string (str Z)]).run Tryz.prog w2 = .ok (goInt (24 : Nat)) w3) := hr3
   clear hr3
   go_enter Tryz.func150, Tryz.ntmps150
   go_wp2_with fail
   refine upon_run8 HC.out ?_
   go_wp2_with (go_at_call 165; refine (end_calls _).mono ?_; rintro e w1 ⟨rfl, rfl⟩)
   refine upon_run8 HC3.out ?_
   go_wp2_with (first
    | (refine load_el elS _ rfl (w.heap.size + 1) 0 rfl rfl (⟨A, Z, false, ha, hb⟩ : Sp) (HasS.inB (s := ⟨A, Z, false, ha, hb⟩) h3).range ?_)
    | (refine store_span rfl _ _ rfl w.heap.size rfl A Z false rfl ha hb (zs 24) (zs 24) false ((HS.out.1.touch t2 (by omega)).touch t3 (by omega)) ?_; intro w4 h4 t4 s4))
   refine ret_span rfl _ _ _ _ rfl h4 rfl ⟨by rw [HR.out], ?_⟩
   exact below_touched (below_touched (below_touched (below_made (below_made (Below.refl _ w) (Nat.le_refl _) _) (Nat.le_refl _) _) t2 (by omega) (Nat.le_refl _)) t3 (by omega) (Nat.le_refl _)) t4 (Nat.le_refl _) (Nat.le_refl _)
 · have HR : Hid (ofB a b ha = ⟨a.b, zs 24, true, ha, rfl⟩) := (show _ = _ by unfold ofB; rw [dif_neg hb])
   rw [decide_eq_true (by simpa using hb)] at heq
   generalize ofB a b ha = R at *
   generalize a.b = A at *
   generalize b.b = Z at *
   obtain ⟨w2, hr, h2, t2, s2⟩ := copyF _ (w.heap.size + 1) A (zs 24) (zs 24) false ha HS.out.2 3
   have HC : Hid ((Builtin.copy_ #[140, 9] 3 #[.slice (some ⟨w.heap.size + 1, 0, none⟩) 24 24, .string (str A)]).run Tryz.prog ((w.alloc (.cells (sc (zs 24) (zs 24) false).toArray 96)).alloc (.cells (sc (zs 24) (zs 24) false).toArray 96)) = .ok (goInt (24 : Nat)) w2) := hr
   clear hr
   have cE := h2.ofE
   have fE : w2.frozen? ⟨w.heap.size + 1, 48, none⟩ = false := by simp [World.frozen?, h2.blk]
   go_enter Tryz.func150, Tryz.ntmps150
   go_wp2_with fail
   refine upon_run8 HC.out ?_
   go_wp2_with (first
    | (go_at_call 165; refine (end_calls _).mono ?_; rintro e w1 ⟨rfl, rfl⟩)
    | (refine load_el elS _ rfl (w.heap.size + 1) 0 rfl rfl (⟨A, zs 24, true, ha, rfl⟩ : Sp) (HasS.inB (s := ⟨A, zs 24, true, ha, rfl⟩) (hasS_end h2)).range ?_)
    | (refine store_span rfl _ _ rfl w.heap.size rfl A (zs 24) true rfl ha rfl (zs 24) (zs 24) false (hasS_other (HS.out.1.touch t2 (by omega)) (by omega)) ?_; intro w4 h4 t4 s4))
   refine ret_span rfl _ _ _ _ rfl h4 rfl ⟨by rw [HR.out], ?_⟩
   exact below_touched ((below_touched (below_made (below_made (Below.refl _ w) (Nat.le_refl _) _) (Nat.le_refl _) _) t2 (by omega) (Nat.le_refl _)).setCell (by simp) _) t4 (Nat.le_refl _) (Nat.le_refl _)
end Go.Proofs.YtgicanpggndbeaaGreat
