import Derived.Test.YtbbelhkdpmcoeaaGreatB18
import Derived.Test.YtbbelhkdpmcoeaaGreatSi
import Derived.Test.YtbbelhkdpmcoeaaGreatB07
/- The document's sets, as plain mathematics: bounds, the pieces between them, the set of those that are so. -/
namespace Go.Proofs.YtbbelhkdpmcoeaaGreat
set_option linter.unusedVariables false
set_option maxRecDepth 100000
open Go.RowKit

def endB : List UInt8 := List.replicate 25 255
/-- A bound: a key's bytes, or the end. -/
structure Bd where
  b : List UInt8
  h : b.length = 24 ∨ b = endB
instance : Inhabited Bd := ⟨⟨zs 24, .inl rfl⟩⟩
def topV : Int := ((256 ^ 24 : Nat) : Int)
def Bd.v (x : Bd) : Int := if x.b.length = 24 then (num x.b : Int) else topV
theorem endB_length : endB.length = 25 := rfl
theorem key_top (K : List UInt8) (h : K.length = 24) : (num K : Int) < topV := by
  have := num_lt K
  rw [h] at this
  unfold topV
  omega
theorem bless_app : ∀ (p q x y : List UInt8), p.length = q.length → Op.bytesLess (p ++ x) (q ++ y) = (Op.bytesLess p q || (p == q && Op.bytesLess x y))
  | [], [], x, y, _ => by simp [Op.bytesLess]
  | [], _ :: _, _, _, h => by cases h
  | _ :: _, [], _, _, h => by cases h
  | a :: p, b :: q, x, y, h => by
    have ih := bless_app p q x y (by simpa using h)
    simp only [List.cons_append, Op.bytesLess, ih]
    by_cases h1 : a < b
    · simp [h1]
    · by_cases h2 : a = b
      · subst h2; simp
      · have h3 : (a == b) = false := by simpa using h2
        simp [h1, h3]
theorem num_ffs : ∀ n, num (List.replicate n 255) + 1 = 256 ^ n
  | 0 => rfl
  | n + 1 => by
    rw [List.replicate_succ, num_cons, List.length_replicate, Nat.pow_succ]
    have := num_ffs n
    have e : (255 : UInt8).toNat = 255 := rfl
    rw [e]
    omega
theorem less_end (K : List UInt8) (h : K.length = 24) : Op.bytesLess K endB = true ∧ Op.bytesLess endB K = false := by
  have e : endB = List.replicate 24 255 ++ [255] := rfl
  have hl : (List.replicate 24 (255 : UInt8)).length = 24 := rfl
  have hn := num_lt K
  have hf := num_ffs 24
  rw [h] at hn
  have hK : K = K ++ [] := (List.append_nil K).symm
  refine ⟨?_, ?_⟩
  · rw [e, hK, bless_app K _ [] [255] (by rw [h, hl]), less_num K _ (by rw [h, hl])]
    clear e
    generalize hR : List.replicate 24 (255 : UInt8) = R at *
    by_cases q : num K < num R
    · rw [decide_eq_true q]; rfl
    · have : K = R := num_inj _ _ (by rw [h, hl]) (by omega)
      rw [this, decide_eq_false (by omega)]
      simp [Op.bytesLess]
  · rw [e, hK, bless_app _ K [255] [] (by rw [h, hl]), less_num _ K (by rw [h, hl])]
    clear e
    generalize hR : List.replicate 24 (255 : UInt8) = R at *
    have q : ¬ num R < num K := by omega
    simp [q, Op.bytesLess]
theorem Bd.less (x y : Bd) : Op.bytesLess x.b y.b = decide (x.v < y.v) := by
  obtain ⟨a, ha⟩ := x
  obtain ⟨b, hb⟩ := y
  unfold Bd.v
  simp only
  rcases ha with ha | rfl
  · rcases hb with hb | rfl
    · rw [if_pos ha, if_pos hb, less_num a b (by rw [ha, hb])]
      rw [Bool.eq_iff_iff]; simp
    · rw [if_pos ha, if_neg (by decide), (less_end a ha).1]
      have := key_top a ha
      simpa using this
  · rcases hb with hb | rfl
    · rw [if_neg (by decide), if_pos hb, (less_end b hb).2]
      have := key_top b hb
      simp
      omega
    · rw [if_neg (by decide)]
      simp
      decide
theorem Bd.inj {x y : Bd} (h : x.v = y.v) : x = y := by
  obtain ⟨a, ha⟩ := x
  obtain ⟨b, hb⟩ := y
  unfold Bd.v at h
  simp only at h
  rcases ha with ha | rfl
  · rcases hb with hb | rfl
    · rw [if_pos ha, if_pos hb] at h
      have := num_inj a b (by rw [ha, hb]) (by omega)
      subst this
      rfl
    · rw [if_pos ha, if_neg (by decide)] at h
      have := key_top a ha
      omega
  · rcases hb with hb | rfl
    · rw [if_neg (by decide), if_pos hb] at h
      have := key_top b hb
      omega
    · rfl
theorem Bd.eq_iff (x y : Bd) : (x.b == y.b) = decide (x.v = y.v) := by
  rw [Bool.eq_iff_iff]
  simp only [beq_iff_eq, decide_eq_true_eq]
  constructor
  · intro h
    have : x = y := by cases x; cases y; simp at h; subst h; rfl
    rw [this]
  · intro h; rw [Bd.inj h]
theorem Bd.low (x : Bd) : 0 ≤ x.v ∧ x.v ≤ topV := by
  obtain ⟨a, ha⟩ := x
  unfold Bd.v
  simp only
  rcases ha with ha | rfl
  · rw [if_pos ha]
    have := key_top a ha
    omega
  · rw [if_neg (by decide)]
    unfold topV
    omega
def endBd : Bd := ⟨endB, .inr rfl⟩
theorem end_v : endBd.v = topV := by unfold Bd.v endBd; rw [if_neg (by decide)]
theorem key_of {x : Bd} (h : x.v < topV) : x.b.length = 24 := by
  rcases x.h with q | q
  · exact q
  · have : x = endBd := by cases x; simp at q; subst q; rfl
    rw [this, end_v] at h
    omega
theorem key_v {x : Bd} (h : x.b.length = 24) : x.v = (num x.b : Int) := by unfold Bd.v; rw [if_pos h]
/-! A span's bounds. -/
def Sp.bf (s : Sp) : Bd := ⟨s.F, .inl s.hF⟩
def Sp.bt (s : Sp) : Bd := if s.e then endBd else ⟨s.T, .inl s.hT⟩
theorem bf_v (s : Sp) : s.bf.v = (num s.F : Int) := key_v s.hF
theorem bt_v (s : Sp) : s.bt.v = if s.e then topV else (num s.T : Int) := by
  unfold Sp.bt
  cases s.e with
  | true => exact end_v
  | false => exact key_v s.hT
theorem inb_v (s : Sp) (x : Int) (hx : x < topV) : s.inb x = (decide (s.bf.v ≤ x) && decide (x < s.bt.v)) := by
  rw [bf_v, bt_v]
  unfold Sp.inb
  cases s.e with
  | true => simp [hx]
  | false => simp
def ofB (a b : Bd) (ha : a.b.length = 24) : Sp := if h : b.b.length = 24 then ⟨a.b, b.b, false, ha, h⟩ else ⟨a.b, zs 24, true, ha, rfl⟩
theorem ofB_f (a b : Bd) (ha : a.b.length = 24) : (ofB a b ha).bf = a := by unfold ofB; split <;> rfl
theorem ofB_t (a b : Bd) (ha : a.b.length = 24) : (ofB a b ha).bt = b := by
  unfold ofB
  split
  · rfl
  · rename_i h
    have : b = endBd := by
      rcases b.h with q | q
      · exact absurd q h
      · cases b; simp at q; subst q; rfl
    rw [this]
    rfl
theorem ofB_z (a b : Bd) (ha : a.b.length = 24) : (ofB a b ha).e = true → (ofB a b ha).T = zs 24 := by unfold ofB; split <;> simp
/-! with: a rising row with one more. -/
def kP (l : List Bd) (x : Bd) : Nat := (l.takeWhile fun y => decide (y.v < x.v)).length
def withP (l : List Bd) (x : Bd) : List Bd := if (l[kP l x]?).map Bd.v = some x.v then l else l.take (kP l x) ++ x :: l.drop (kP l x)
def Rise (l : List Bd) : Prop := l.Pairwise fun a b => a.v < b.v
theorem kP_le (l : List Bd) (x : Bd) : kP l x ≤ l.length := (List.takeWhile_prefix _).length_le
theorem take_kP (l : List Bd) (x : Bd) : ∀ y ∈ l.take (kP l x), y.v < x.v := by
  have e : l.take (kP l x) = l.takeWhile fun y => decide (y.v < x.v) := by
    unfold kP
    exact (List.prefix_iff_eq_take.1 (List.takeWhile_prefix _)).symm
  rw [e]
  intro y hy
  have : ∀ (m : List Bd), y ∈ m.takeWhile (fun y => decide (y.v < x.v)) → y.v < x.v := by
    intro m
    induction m with
    | nil => intro h; cases h
    | cons z r ih =>
      intro h
      by_cases hz : z.v < x.v
      · rw [List.takeWhile_cons_of_pos (by simpa using hz)] at h
        rcases List.mem_cons.1 h with rfl | h
        · exact hz
        · exact ih h
      · rw [List.takeWhile_cons_of_neg (by simpa using hz)] at h
        cases h
  exact this l hy
theorem drop_kP : ∀ (l : List Bd) (x : Bd), Rise l → ∀ y ∈ l.drop (kP l x), x.v ≤ y.v
  | [], _, _, y, hy => by simp at hy
  | z :: l, x, h, y, hy => by
    unfold kP at hy
    by_cases hz : z.v < x.v
    · rw [List.takeWhile_cons_of_pos (by simpa using hz), List.length_cons, List.drop_succ_cons] at hy
      exact drop_kP l x (List.pairwise_cons.1 h).2 y hy
    · rw [List.takeWhile_cons_of_neg (by simpa using hz)] at hy
      simp only [List.length_nil, List.drop_zero] at hy
      rcases List.mem_cons.1 hy with rfl | hy
      · omega
      · have := (List.pairwise_cons.1 h).1 y hy
        omega
theorem with_rise (l : List Bd) (x : Bd) (h : Rise l) : Rise (withP l x) := by
  unfold withP
  split
  · exact h
  · rename_i hne
    have h1 := take_kP l x
    have h2 := drop_kP l x h
    have h3 : ∀ y ∈ l.drop (kP l x), x.v < y.v := fun y hy => by
      have a := h2 y hy
      rcases Int.lt_or_eq_of_le a with q | q
      · exact q
      · exfalso
        cases hd : l.drop (kP l x) with
        | nil => rw [hd] at hy; cases hy
        | cons z r =>
          have hz : l[kP l x]? = some z := by
            have := congrArg (fun m => m[0]?) hd
            simpa using this
          have hzv := h2 z (by rw [hd]; simp)
          have hp : (z :: r).Pairwise fun a b => a.v < b.v := by rw [← hd]; exact List.Pairwise.sublist (List.drop_sublist _ _) h
          rw [hd] at hy
          apply hne
          rw [hz]
          rcases List.mem_cons.1 hy with rfl | hy
          · simp [q]
          · have := (List.pairwise_cons.1 hp).1 y hy
            omega
    refine List.pairwise_append.2 ⟨List.Pairwise.sublist (List.take_sublist _ _) h, List.pairwise_cons.2 ⟨h3, List.Pairwise.sublist (List.drop_sublist _ _) h⟩, fun a ha b hb => ?_⟩
    have := h1 a ha
    rcases List.mem_cons.1 hb with rfl | hb
    · exact this
    · have := h3 b hb
      omega
theorem with_mem (l : List Bd) (x y : Bd) : y ∈ withP l x ↔ y ∈ l ∨ y = x := by
  unfold withP
  split
  · rename_i h
    refine ⟨.inl, fun q => ?_⟩
    rcases q with q | rfl
    · exact q
    · cases hg : l[kP l y]? with
      | none => rw [hg] at h; cases h
      | some z =>
        rw [hg] at h
        simp only [Option.map_some, Option.some.injEq] at h
        rw [← Bd.inj h]
        exact List.mem_of_getElem? hg
  · have e : l = l.take (kP l x) ++ l.drop (kP l x) := (List.take_append_drop _ _).symm
    constructor
    · intro h
      rcases List.mem_append.1 h with h | h
      · exact .inl (List.mem_of_mem_take h)
      · rcases List.mem_cons.1 h with h | h
        · exact .inr h
        · exact .inl (List.mem_of_mem_drop h)
    · intro h
      rcases h with h | rfl
      · rw [e] at h
        rcases List.mem_append.1 h with h | h
        · exact List.mem_append.2 (.inl h)
        · exact List.mem_append.2 (.inr (List.mem_cons.2 (.inr h)))
      · exact List.mem_append.2 (.inr (List.mem_cons.2 (.inl rfl)))
theorem with_len (l : List Bd) (x : Bd) : (withP l x).length ≤ l.length + 1 := by
  unfold withP
  split
  · omega
  · simp; have := kP_le l x; omega
def boundsStep (out : List Bd) (s : Sp) : List Bd := if s.bf.v < s.bt.v then withP (withP out s.bf) s.bt else out
def boundsP (l : List Sp) : List Bd := l.foldl boundsStep []
theorem bounds_snoc (l : List Sp) (s : Sp) : boundsP (l ++ [s]) = boundsStep (boundsP l) s := by simp [boundsP]
theorem bounds_ok : ∀ (l : List Sp) (out : List Bd), Rise out → Rise (l.foldl boundsStep out) ∧ (l.foldl boundsStep out).length ≤ out.length + 2 * l.length ∧ ∀ y, y ∈ l.foldl boundsStep out ↔ y ∈ out ∨ ∃ s ∈ l, s.bf.v < s.bt.v ∧ (y = s.bf ∨ y = s.bt)
  | [], out, h => by simp [h]
  | s :: l, out, h => by
    rw [List.foldl_cons]
    unfold boundsStep
    by_cases q : s.bf.v < s.bt.v
    · rw [if_pos q]
      obtain ⟨a, b, c⟩ := bounds_ok l _ (with_rise _ s.bt (with_rise out s.bf h))
      refine ⟨a, ?_, fun y => ?_⟩
      · have h1 := with_len out s.bf
        have h2 := with_len (withP out s.bf) s.bt
        rw [List.length_cons]
        unfold boundsStep at b
        omega
      · have := c y
        unfold boundsStep at this
        rw [this, with_mem, with_mem]
        constructor
        · rintro (((h | h) | h) | ⟨u, hu, h⟩)
          · exact .inl h
          · exact .inr ⟨s, by simp, q, .inl h⟩
          · exact .inr ⟨s, by simp, q, .inr h⟩
          · exact .inr ⟨u, by simp [hu], h⟩
        · rintro (h | ⟨u, hu, hq, h⟩)
          · exact .inl (.inl (.inl h))
          · rcases List.mem_cons.1 hu with rfl | hu
            · rcases h with h | h
              · exact .inl (.inl (.inr h))
              · exact .inl (.inr h)
            · exact .inr ⟨u, hu, hq, h⟩
    · rw [if_neg q]
      obtain ⟨a, b, c⟩ := bounds_ok l out h
      refine ⟨a, by rw [List.length_cons]; unfold boundsStep at b; omega, fun y => ?_⟩
      have := c y
      unfold boundsStep at this
      rw [this]
      constructor
      · rintro (h | ⟨u, hu, h⟩)
        · exact .inl h
        · exact .inr ⟨u, by simp [hu], h⟩
      · rintro (h | ⟨u, hu, hq, h⟩)
        · exact .inl h
        · rcases List.mem_cons.1 hu with rfl | hu
          · exact absurd hq q
          · exact .inr ⟨u, hu, hq, h⟩
theorem bounds_rise (l : List Sp) : Rise (boundsP l) := (bounds_ok l [] List.Pairwise.nil).1
theorem bounds_len (l : List Sp) : (boundsP l).length ≤ 2 * l.length := by have := (bounds_ok l [] List.Pairwise.nil).2.1; simpa [boundsP] using this
theorem bounds_mem (l : List Sp) (y : Bd) : y ∈ boundsP l ↔ ∃ s ∈ l, s.bf.v < s.bt.v ∧ (y = s.bf ∨ y = s.bt) := by have := (bounds_ok l [] List.Pairwise.nil).2.2 y; simpa [boundsP] using this
/-! where: the set of the pieces that are so. -/
def stepW (out : List Sp) (a b : Bd) (ha : a.b.length = 24) : List Sp := match out.getLast? with
  | some u => if u.bt.v = a.v then out.dropLast ++ [ofB u.bf b u.hF] else out ++ [ofB a b ha]
  | none => [ofB a b ha]
theorem stepW_len (out : List Sp) (a b : Bd) (ha : a.b.length = 24) : (stepW out a b ha).length ≤ out.length + 1 := by
  unfold stepW
  split
  · split
    · simp
    · simp
  · simp
/-- A set, by its bounds. -/
structure SetV (l : List Sp) : Prop where
  p : l.Pairwise fun u s => u.bt.v < s.bf.v
  n : ∀ s ∈ l, s.bf.v < s.bt.v ∧ (s.e = true → s.T = zs 24)
theorem SetV.from : ∀ {l : List Sp} {lo : Int}, SetV l → (∀ s ∈ l, lo < s.bf.v) → SetFrom lo l
  | [], _, _, _ => trivial
  | s :: r, lo, h, hl => by
    have h1 := hl s (by simp)
    have h2 := h.n s (by simp)
    have hp := List.pairwise_cons.1 h.p
    rw [bf_v] at h1 h2
    refine ⟨h1, ?_⟩
    cases he : s.e with
    | true =>
      refine .inl ⟨rfl, ?_, h2.2 he⟩
      cases r with
      | nil => rfl
      | cons u q =>
        have a := hp.1 u (by simp)
        rw [bt_v, he, bf_v] at a
        have := key_top u.F u.hF
        simp at a
        omega
    | false =>
      rw [bt_v, he] at h2
      refine .inr ⟨rfl, by simpa using h2.1, SetV.from ⟨hp.2, fun u hu => h.n u (by simp [hu])⟩ fun u hu => ?_⟩
      have a := hp.1 u hu
      rw [bt_v, he] at a
      simpa using a
theorem SetV.is {l : List Sp} {g : Int → Bool} (h : SetV l) (hg : ∀ K : List UInt8, K.length = 24 → mem l (num K) = g (num K)) : Is l g :=
  ⟨h.from fun s _ => by rw [bf_v]; omega, hg⟩
/-- What stands behind the pieces up to a bound. -/
structure Wi (g : Int → Bool) (out : List Sp) (a : Bd) : Prop where
  s : SetV out
  u : ∀ s ∈ out, s.bt.v ≤ a.v
  m : ∀ x : Int, 0 ≤ x → x < topV → mem out x = (decide (x < a.v) && g x)
theorem Wi.no {g : Int → Bool} {out : List Sp} {a b : Bd} (h : Wi g out a) (hab : a.v < b.v) (hg : ∀ x : Int, a.v ≤ x → x < b.v → g x = false) : Wi g out b := by
  refine ⟨h.s, fun s hs => by have := h.u s hs; omega, fun x h0 h1 => ?_⟩
  rw [h.m x h0 h1]
  by_cases q : x < a.v
  · have : x < b.v := by omega
    simp [q, this]
  · by_cases q2 : x < b.v
    · rw [hg x (by omega) q2]; simp
    · simp [q, q2]
theorem Wi.yes {g : Int → Bool} {out : List Sp} {a b : Bd} (h : Wi g out a) (ha : a.b.length = 24) (hab : a.v < b.v) (hg : ∀ x : Int, a.v ≤ x → x < b.v → g x = true) : Wi g (stepW out a b ha) b := by
  have key : ∀ (o' : List Sp) (f : Bd) (hf : f.b.length = 24), SetV o' → (∀ s ∈ o', s.bt.v < f.v) → f.v ≤ a.v → (∀ x : Int, 0 ≤ x → x < topV → mem out x = (mem o' x || (decide (f.v ≤ x) && decide (x < a.v)))) → Wi g (o' ++ [ofB f b hf]) b := fun o' f hf h1 h2 h3 h4 => by
    have hbf : (ofB f b hf).bf.v = f.v := by rw [ofB_f]
    have hbt : (ofB f b hf).bt.v = b.v := by rw [ofB_t]
    refine ⟨⟨List.pairwise_append.2 ⟨h1.p, by simp, fun u hu s hs => ?_⟩, fun s hs => ?_⟩, fun s hs => ?_, fun x h0 hx => ?_⟩
    · rw [List.mem_singleton] at hs
      subst hs
      rw [hbf]
      exact h2 u hu
    · rcases List.mem_append.1 hs with hs | hs
      · exact h1.n s hs
      · rw [List.mem_singleton] at hs
        subst hs
        rw [hbf, hbt]
        exact ⟨by omega, ofB_z f b hf⟩
    · rcases List.mem_append.1 hs with hs | hs
      · have := h2 s hs; omega
      · rw [List.mem_singleton] at hs
        subst hs
        rw [hbt]
        exact Int.le_refl _
    · have hm := h.m x h0 hx
      rw [h4 x h0 hx] at hm
      rw [mem_append, show mem [ofB f b hf] x = (ofB f b hf).inb x by simp [mem], inb_v _ x hx, hbf, hbt]
      have hno : a.v ≤ x → mem o' x = false := fun q => by
        unfold mem
        rw [List.any_eq_false]
        intro s hs
        have := h2 s hs
        rw [inb_v s x hx]
        simp
        omega
      by_cases q1 : x < a.v
      · have q2 : x < b.v := by omega
        simp only [q1, q2, decide_true, Bool.and_true, Bool.true_and] at hm ⊢
        exact hm
      · by_cases q2 : x < b.v
        · rw [hno (by omega), hg x (by omega) q2]
          have q3 : f.v ≤ x := by omega
          simp [q2, q3]
        · rw [hno (by omega)]
          simp [q2]
  unfold stepW
  rcases List.eq_nil_or_concat out with rfl | ⟨I, u, rfl⟩
  · simp only [List.getLast?_nil]
    have := key [] a ha ⟨List.Pairwise.nil, fun s hs => by cases hs⟩ (fun s hs => by cases hs) (Int.le_refl _) (fun x _ _ => by by_cases q : x < a.v <;> by_cases q2 : a.v ≤ x <;> simp [mem_nil, q, q2]; omega)
    simpa using this
  · rw [List.concat_eq_append] at *
    simp only [List.getLast?_append, List.getLast?_singleton, Option.some_or, List.dropLast_concat]
    have hpw := List.pairwise_append.1 h.s.p
    have hn := h.s.n u (by simp)
    split
    · rename_i hu
      refine key I u.bf u.hF ⟨hpw.1, fun s hs => h.s.n s (by simp [hs])⟩ (fun s hs => hpw.2.2 s hs u (by simp)) (by omega) fun x h0 hx => ?_
      rw [mem_append, show mem [u] x = u.inb x by simp [mem], inb_v u x hx, hu]
    · rename_i hu
      have hua := h.u u (by simp)
      refine key (I ++ [u]) a ha h.s (fun s hs => ?_) (Int.le_refl _) (fun x _ _ => by by_cases q : x < a.v <;> by_cases q2 : a.v ≤ x <;> simp [q, q2]; omega)
      rcases List.mem_append.1 hs with hs | hs
      · have := hpw.2.2 s hs u (by simp)
        omega
      · rw [List.mem_singleton] at hs
        subst hs
        omega
/-- Of the spans of a list whose bounds are all among the cuts what is meant is the same all through a piece. -/
theorem piece_same (l : List Sp) (C : List Bd) (hC : ∀ s ∈ l, s.bf.v < s.bt.v → s.bf ∈ C ∧ s.bt ∈ C) (a b : Bd) (hab : ∀ y ∈ C, y.v ≤ a.v ∨ b.v ≤ y.v) (x : Int) (h1 : a.v ≤ x) (h2 : x < b.v) : mem l x = mem l a.v := by
  have hb := b.low
  have ha : a.v < topV := by omega
  unfold mem
  rw [Bool.eq_iff_iff, List.any_eq_true, List.any_eq_true]
  constructor
  · rintro ⟨s, hs, hi⟩
    rw [inb_v s x (by omega)] at hi
    simp only [Bool.and_eq_true, decide_eq_true_eq] at hi
    obtain ⟨c1, c2⟩ := hC s hs (by omega)
    refine ⟨s, hs, ?_⟩
    rw [inb_v s a.v ha]
    have := hab _ c1
    have := hab _ c2
    simp only [Bool.and_eq_true, decide_eq_true_eq]
    omega
  · rintro ⟨s, hs, hi⟩
    rw [inb_v s a.v ha] at hi
    simp only [Bool.and_eq_true, decide_eq_true_eq] at hi
    obtain ⟨c1, c2⟩ := hC s hs (by omega)
    refine ⟨s, hs, ?_⟩
    rw [inb_v s x (by omega)]
    have := hab _ c1
    have := hab _ c2
    simp only [Bool.and_eq_true, decide_eq_true_eq]
    omega
theorem out_none (l : List Sp) (C : List Bd) (hC : ∀ s ∈ l, s.bf.v < s.bt.v → s.bf ∈ C ∧ s.bt ∈ C) (x : Int) (hx : x < topV) (h : (∀ y ∈ C, x < y.v) ∨ (∀ y ∈ C, y.v ≤ x)) : mem l x = false := by
  unfold mem
  rw [List.any_eq_false]
  intro s hs hi
  rw [inb_v s x hx] at hi
  simp only [Bool.and_eq_true, decide_eq_true_eq] at hi
  obtain ⟨c1, c2⟩ := hC s hs (by omega)
  rcases h with h | h
  · have := h _ c1; omega
  · have := h _ c2; omega
end Go.Proofs.YtbbelhkdpmcoeaaGreat
/- The document's own keys held against one another, and its spans (as KeyS, over KeyD alone). -/
namespace Go.Proofs.YtbbelhkdpmcoeaaGreat
set_option linter.unusedVariables false
set_option maxRecDepth 100000
open Go.RowKit

theorem conv_part {w : World} {b o : Nat} {K : List UInt8} (hr : w.rangeAt b o (bc K)) (hl : K.length = 24) (cap : Nat) : (convert 156 9 (.slice (some ⟨b, o, none⟩) 24 cap)).run Tryz.prog w = .ok (.string (str K)) w := by
  have := run_convert_bytes_arg (P := Tryz.prog) w 156 5 Tryz.underlying156 Tryz.underlying5 b o 24 cap (K.map fun b => (b.toNat : Int)) (by simp [hl]) (fun i hi => by
    have hi' : i < K.length := by omega
    rw [hr i (.int .u8 ((K[i]).toNat : Int)) (by simp [bc, hi'])]
    simp [hi']) 9 Tryz.underlying9
  rw [str_of] at this
  exact this

/-- What stands while two keys are held against one another. -/
structure Two (w : World) (b c : Nat) (K L : List UInt8) (w' : World) : Prop where
  k : Has w' b K
  l : Has w' c L
  bel : Below w.heap.size w w'
theorem Two.drew {w : World} {b c : Nat} {K L : List UInt8} {w' : World} (h : Two w b c K L w') : Two w b c K L w'.drew := ⟨⟨h.k.len, h.k.blk⟩, ⟨h.l.len, h.l.blk⟩, h.bel.drew⟩
theorem Two.out {w : World} {b c : Nat} {K L : List UInt8} {w' : World} (h : Two w b c K L w') : (convert 156 9 (.slice (some ⟨b, 0, none⟩) 24 24)).run Tryz.prog w' = .ok (.string (str K)) w' ∧ (convert 156 9 (.slice (some ⟨c, 0, none⟩) 24 24)).run Tryz.prog w' = .ok (.string (str L)) w' ∧ Two w b c K L w' :=
  ⟨conv_part h.k.range h.k.len 24, conv_part h.l.range h.l.len 24, h⟩

set_option maxHeartbeats 1000000 in
theorem rless_calls (w : World) (K L : List UInt8) (hK : K.length = 24) (hL : L.length = 24) :
    Calls Tryz.prog 91 #[kv K, kv L] w fun e w' => e = .returned (.bool (Op.bytesLess K L)) ∧ Below w.heap.size w w' := by
  have h0 : Two w w.heap.size (w.heap.size + 1) K L ((w.alloc (.cells (bc K).toArray 29)).alloc (.cells (bc L).toArray 29)) := ⟨(Has.new w K hK).alloc _, by have := Has.new (w.alloc (.cells (bc K).toArray 29)) L hL; simpa using this, below_made (below_made (Below.refl _ w) (Nat.le_refl _) _) (Nat.le_refl _) _⟩
  go_enter Tryz.func91, Tryz.ntmps91
  go_wp2
  generalize (w.alloc (.cells (bc K).toArray 29)).alloc (.cells (bc L).toArray 29) = W at *
  go_region_held3 (fun w' => (convert 156 9 (.slice (some ⟨w.heap.size, 0, none⟩) 24 24)).run Tryz.prog w' = .ok (.string (str K)) w' ∧ (convert 156 9 (.slice (some ⟨w.heap.size + 1, 0, none⟩) 24 24)).run Tryz.prog w' = .ok (.string (str L)) w' ∧ Two w w.heap.size (w.heap.size + 1) K L w') (first | exact h0.drew.out | assumption) (fail)
  go_wp2_with fail
  go_ret
  refine ⟨?_, h0.drew.bel⟩
  show Ending.returned (Value.bool (Op.bytesLess (str K).toList (str L).toList)) = _
  rw [str_toList, str_toList]

/-- What stands while a key is held against a span. -/
structure Tri (w : World) (b c : Nat) (F T : List UInt8) (e : Bool) (K : List UInt8) (w' : World) : Prop where
  s : HasS w' b F T e
  k : Has w' c K
  bel : Below w.heap.size w w'
theorem Tri.drew {w : World} {b c : Nat} {F T : List UInt8} {e : Bool} {K : List UInt8} {w' : World} (h : Tri w b c F T e K w') : Tri w b c F T e K w'.drew := ⟨⟨h.s.f, h.s.t, h.s.blk⟩, ⟨h.k.len, h.k.blk⟩, h.bel.drew⟩
theorem Tri.out {w : World} {b c : Nat} {F T : List UInt8} {e : Bool} {K : List UInt8} {w' : World} (h : Tri w b c F T e K w') : (convert 156 9 (.slice (some ⟨c, 0, none⟩) 24 24)).run Tryz.prog w' = .ok (.string (str K)) w' ∧ (convert 156 9 (.slice (some ⟨b, 0, none⟩) 24 24)).run Tryz.prog w' = .ok (.string (str F)) w' ∧ (convert 156 9 (.slice (some ⟨b, 24, none⟩) 24 24)).run Tryz.prog w' = .ok (.string (str T)) w' ∧ w'.cell? ⟨b, 48, none⟩ = some (.bool e) ∧ Tri w b c F T e K w' :=
  ⟨conv_part h.k.range h.k.len 24, conv_part h.s.ofF h.s.f 24, conv_part h.s.ofT h.s.t 24, h.s.ofE, h⟩

set_option maxRecDepth 100000 in
set_option maxHeartbeats 4000000 in
theorem rin_calls (w : World) (F T : List UInt8) (e : Bool) (K : List UInt8) (hF : F.length = 24) (hT : T.length = 24) (hK : K.length = 24) :
    Calls Tryz.prog 76 #[sv F T e, kv K] w fun x w' => x = .returned (.bool (inS F T e K)) ∧ Below w.heap.size w w' := by
  have h0 : Tri w w.heap.size (w.heap.size + 1) F T e K ((w.alloc (.cells (sc F T e).toArray 44)).alloc (.cells (bc K).toArray 29)) := ⟨(HasS.new w F T e hF hT).alloc _, by have := Has.new (w.alloc (.cells (sc F T e).toArray 44)) K hK; simpa using this, below_made (below_made (Below.refl _ w) (Nat.le_refl _) _) (Nat.le_refl _) _⟩
  have HIN : Hid (inS F T e K = (!Op.bytesLess K F && (e || Op.bytesLess K T))) := rfl
  cases hlf : Op.bytesLess K F with
  | true =>
    have hl1 : Op.bytesLess (str K).toList (str F).toList = true := by rw [str_toList, str_toList]; exact hlf
    go_enter Tryz.func76, Tryz.ntmps76
    go_wp2
    generalize (w.alloc (.cells (sc F T e).toArray 44)).alloc (.cells (bc K).toArray 29) = W at *
    have q1 : ∀ n, (convert 156 9 (.slice (some ⟨w.heap.size + 1, 0, none⟩) 24 24)).run Tryz.prog (W.drewN n) = .ok (.string (str K)) (W.drewN n) := fun n => conv_part (w := W.drewN n) h0.k.range h0.k.len 24
    have q2 : ∀ n, (convert 156 9 (.slice (some ⟨w.heap.size, 0, none⟩) 24 24)).run Tryz.prog (W.drewN n) = .ok (.string (str F)) (W.drewN n) := fun n => conv_part (w := W.drewN n) h0.s.ofF h0.s.f 24
    have HB : Hid (Below w.heap.size w W) := h0.bel
    clear h0
    go_quiet (fail)
    go_wp2_with fail
    go_ret
    exact ⟨by rw [HIN.out, hlf]; rfl, below_drewN HB.out _⟩
  | false =>
    have hl1 : Op.bytesLess (str K).toList (str F).toList = false := by rw [str_toList, str_toList]; exact hlf
    cases e with
    | true =>
      go_enter Tryz.func76, Tryz.ntmps76
      go_wp2
      generalize (w.alloc (.cells (sc F T true).toArray 44)).alloc (.cells (bc K).toArray 29) = W at *
      have q1 : ∀ n, (convert 156 9 (.slice (some ⟨w.heap.size + 1, 0, none⟩) 24 24)).run Tryz.prog (W.drewN n) = .ok (.string (str K)) (W.drewN n) := fun n => conv_part (w := W.drewN n) h0.k.range h0.k.len 24
      have q2 : ∀ n, (convert 156 9 (.slice (some ⟨w.heap.size, 0, none⟩) 24 24)).run Tryz.prog (W.drewN n) = .ok (.string (str F)) (W.drewN n) := fun n => conv_part (w := W.drewN n) h0.s.ofF h0.s.f 24
      have cE := h0.s.ofE
      have HB : Hid (Below w.heap.size w W) := h0.bel
      clear h0
      go_quiet (fail)
      go_wp2_with fail
      go_ret
      exact ⟨by rw [HIN.out, hlf]; rfl, below_drewN HB.out _⟩
    | false =>
      go_enter Tryz.func76, Tryz.ntmps76
      go_wp2
      generalize (w.alloc (.cells (sc F T false).toArray 44)).alloc (.cells (bc K).toArray 29) = W at *
      have q1 : ∀ n, (convert 156 9 (.slice (some ⟨w.heap.size + 1, 0, none⟩) 24 24)).run Tryz.prog (W.drewN n) = .ok (.string (str K)) (W.drewN n) := fun n => conv_part (w := W.drewN n) h0.k.range h0.k.len 24
      have q2 : ∀ n, (convert 156 9 (.slice (some ⟨w.heap.size, 0, none⟩) 24 24)).run Tryz.prog (W.drewN n) = .ok (.string (str F)) (W.drewN n) := fun n => conv_part (w := W.drewN n) h0.s.ofF h0.s.f 24
      have q3 : ∀ n, (convert 156 9 (.slice (some ⟨w.heap.size, 24, none⟩) 24 24)).run Tryz.prog (W.drewN n) = .ok (.string (str T)) (W.drewN n) := fun n => conv_part (w := W.drewN n) h0.s.ofT h0.s.t 24
      have cE := h0.s.ofE
      have HB : Hid (Below w.heap.size w W) := h0.bel
      clear h0
      go_quiet (fail)
      go_wp2_with fail
      go_ret
      refine ⟨?_, below_drewN HB.out _⟩
      show Ending.returned (Value.bool (Op.bytesLess (str K).toList (str T).toList)) = _
      rw [HIN.out, hlf, str_toList, str_toList]
      simp

end Go.Proofs.YtbbelhkdpmcoeaaGreat
