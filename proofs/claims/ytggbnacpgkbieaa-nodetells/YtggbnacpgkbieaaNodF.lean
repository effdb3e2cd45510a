/- The bytes of a node; Bytes. -/
import Derived.Test.YtggbnacpgkbieaaNodE
namespace Go.Proofs.Ytggbnacpgkbieaa
set_option linter.unusedVariables false
open Go.RowKit

def encP (l : List Pr) : List UInt8 := l.flatMap fun p => p.k ++ (be p.s.size 1 ++ p.s.data.toList)
def encK (l : List Kd) : List UInt8 := l.flatMap fun p => p.k ++ be p.n.toNat 4
def encH (x : Nod) : List UInt8 := [87, 84] ++ (be x.lv.toNat 1 ++ be (x.ps.length + x.ks.length) 1)
def encB (x : Nod) : List UInt8 := encH x ++ (encP x.ps ++ encK x.ks)
def enc (x : Nod) : List UInt8 := encB x ++ List.replicate (512 - (encB x).length) 0
/-- A node whose keys have 24 bytes each. -/
def Keyed (x : Nod) : Prop := (∀ p ∈ x.ps, p.k.length = 24) ∧ ∀ p ∈ x.ks, p.k.length = 24
theorem encP_cons (p : Pr) (l : List Pr) : encP (p :: l) = p.k ++ (be p.s.size 1 ++ p.s.data.toList) ++ encP l := by simp [encP]
theorem encK_cons (p : Kd) (l : List Kd) : encK (p :: l) = p.k ++ be p.n.toNat 4 ++ encK l := by simp [encK]
theorem encP_length (l : List Pr) (hk : ∀ p ∈ l, p.k.length = 24) (hs : ∀ p ∈ l, p.s.size ≤ 40) : (encP l).length ≤ 65 * l.length := by
  induction l with
  | nil => simp [encP]
  | cons p l ih =>
    have h1 := ih (fun q hq => hk q (by simp [hq])) (fun q hq => hs q (by simp [hq]))
    have h2 := hk p (by simp)
    have h3 := hs p (by simp)
    rw [encP_cons]
    simp only [List.length_append, be_length, List.length_cons, Array.length_toList, ByteArray.size_data]
    omega
theorem encK_length (l : List Kd) (hk : ∀ p ∈ l, p.k.length = 24) : (encK l).length = 28 * l.length := by
  induction l with
  | nil => simp [encK]
  | cons p l ih =>
    have h1 := ih (fun q hq => hk q (by simp [hq]))
    have h2 := hk p (by simp)
    rw [encK_cons]
    simp only [List.length_append, be_length, List.length_cons]
    omega
/-- A right node, in numbers. -/
structure Fits (x : Nod) : Prop where
  l0 : 0 ≤ x.lv
  l1 : x.lv ≤ 11
  np : x.ps.length ≤ 7
  nk : x.ks.length ≤ 18
  one : (x.lv = 0 ∧ x.ks = [] ∧ 1 ≤ x.ps.length) ∨ (x.lv ≠ 0 ∧ x.ps = [] ∧ 2 ≤ x.ks.length)
  vs : ∀ p ∈ x.ps, p.s.size ≤ 40
  bs : ∀ p ∈ x.ks, 2 ≤ p.n ∧ p.n ≤ 4294967295
theorem anyP_no {l : List Pr} (h : anyP l = false) : ∀ p ∈ l, p.s.size ≤ 40 := fun p hp => by
  rw [anyP, List.any_eq_false] at h
  have := h p hp
  simp [badP] at this
  omega
theorem anyK_no {l : List Kd} (h : anyK l = false) : ∀ p ∈ l, 2 ≤ p.n ∧ p.n ≤ 4294967295 := fun p hp => by
  rw [anyK, List.any_eq_false] at h
  have := h p hp
  simp [badK] at this
  omega
theorem fits {x : Nod} (h : rightN x = true) : Fits x := by
  rw [rightN] at h
  by_cases h1 : x.lv < 0 ∨ 12 ≤ x.lv
  · rw [if_pos h1] at h; cases h
  rw [if_neg h1] at h
  by_cases h2 : x.lv = 0
  · rw [if_pos h2] at h
    simp only [okPairs, Bool.and_eq_true, decide_eq_true_eq, Bool.not_eq_true'] at h
    obtain ⟨k0, ⟨⟨a, b⟩, c⟩, d⟩ := h
    have e := List.eq_nil_of_length_eq_zero k0
    exact ⟨by omega, by omega, b, by omega, .inl ⟨h2, e, a⟩, anyP_no c, by rw [e]; simp⟩
  · rw [if_neg h2] at h
    simp only [okKids, Bool.and_eq_true, decide_eq_true_eq, Bool.not_eq_true'] at h
    obtain ⟨k0, ⟨⟨⟨a, b⟩, c⟩, d⟩, _⟩ := h
    have e := List.eq_nil_of_length_eq_zero k0
    exact ⟨by omega, by omega, by omega, b, .inr ⟨h2, e, a⟩, by rw [e]; simp, anyK_no c⟩
theorem encH_length (x : Nod) : (encH x).length = 4 := by simp [encH, be_length]
theorem Fits.encB {x : Nod} (h : Fits x) (hk : Keyed x) : (encB x).length ≤ 508 := by
  rw [Go.Proofs.Ytggbnacpgkbieaa.encB, List.length_append, List.length_append, encH_length, encK_length _ hk.2]
  have h1 := encP_length _ hk.1 h.vs
  have := h.np
  have := h.nk
  rcases h.one with ⟨_, e, _⟩ | ⟨_, e, _⟩
  · rw [e]; simp; omega
  · rw [e]
    have z : (encP ([] : List Pr)).length = 0 := rfl
    rw [z]
    omega
theorem Fits.enc {x : Nod} (h : Fits x) (hk : Keyed x) : (enc x).length = 512 := by
  have := h.encB hk
  simp [Go.Proofs.Ytggbnacpgkbieaa.enc]
  omega
theorem pair_fits (L : List UInt8) (p : Pr) (hk : p.k.length = 24) (hs : p.s.size ≤ 40) (hL : L.length + 65 ≤ 512) : (⟨512, L, false⟩ : WS).pair p = ⟨512, L ++ (p.k ++ (be p.s.size 1 ++ p.s.data.toList)), false⟩ := by
  have hd : p.s.data.toList.length = p.s.size := by simp
  rw [WS.pair, put_fits _ _ (by omega), WS.text, WS.byte, if_neg (by omega), put_fits _ _ (by rw [cat_length, be_length]; omega), put_fits _ _ (by rw [cat_length, cat_length, be_length, hd]; omega)]
  simp [cat]
theorem kid_fits (L : List UInt8) (p : Kd) (hk : p.k.length = 24) (hs : 0 ≤ p.n ∧ p.n ≤ 4294967295) (hL : L.length + 28 ≤ 512) : (⟨512, L, false⟩ : WS).kid p = ⟨512, L ++ (p.k ++ be p.n.toNat 4), false⟩ := by
  rw [WS.kid, put_fits _ _ (by omega), WS.word, if_neg (by omega), put_fits _ _ (by rw [cat_length, be_length]; omega)]
  simp [cat]
theorem pairs_fit : ∀ (l : List Pr) (L : List UInt8), (∀ p ∈ l, p.k.length = 24) → (∀ p ∈ l, p.s.size ≤ 40) → L.length + 65 * l.length ≤ 512 → l.foldl WS.pair ⟨512, L, false⟩ = ⟨512, L ++ encP l, false⟩
  | [], L, _, _, _ => by simp [encP]
  | p :: l, L, hk, hs, hL => by
    have h1 := hk p (by simp)
    have h2 := hs p (by simp)
    simp only [List.length_cons] at hL
    have hd : p.s.data.toList.length = p.s.size := by simp
    rw [List.foldl_cons, pair_fits L p h1 h2 (by omega), pairs_fit l _ (fun q hq => hk q (by simp [hq])) (fun q hq => hs q (by simp [hq])) (by simp only [List.length_append, be_length, h1, hd]; omega), encP_cons]
    simp
theorem kids_fit : ∀ (l : List Kd) (L : List UInt8), (∀ p ∈ l, p.k.length = 24) → (∀ p ∈ l, 0 ≤ p.n ∧ p.n ≤ 4294967295) → L.length + 28 * l.length ≤ 512 → l.foldl WS.kid ⟨512, L, false⟩ = ⟨512, L ++ encK l, false⟩
  | [], L, _, _, _ => by simp [encK]
  | p :: l, L, hk, hs, hL => by
    have h1 := hk p (by simp)
    have h2 := hs p (by simp)
    simp only [List.length_cons] at hL
    rw [List.foldl_cons, kid_fits L p h1 h2 (by omega), kids_fit l _ (fun q hq => hk q (by simp [hq])) (fun q hq => hs q (by simp [hq])) (by simp only [List.length_append, be_length, h1]; omega), encK_cons]
    simp
theorem fill_fits (L : List UInt8) (h : L.length ≤ 512) : (⟨512, L, false⟩ : WS).fill 512 = ⟨512, L ++ List.replicate (512 - L.length) 0, false⟩ := by
  rw [WS.fill, if_neg (by simp only; omega), put_fits _ _ (by simp; omega)]
  simp only [cat]
  congr 3
  omega
theorem Parts.keyed {w : World} {x : Nod} {pv qv : Value} (h : Parts w x pv qv) : Keyed x := by
  constructor
  · intro p hp
    obtain ⟨r, ⟨ad, cap, _, _, _, ho, _⟩, _⟩ := h.p
    obtain ⟨i, hi, rfl⟩ := List.getElem_of_mem hp
    have := (ho i (by simpa using hi)).len
    simpa [Pr.el] using this
  · intro p hp
    obtain ⟨r, ⟨ad, cap, _, _, _, ho, _⟩, _⟩ := h.q
    obtain ⟨i, hi, rfl⟩ := List.getElem_of_mem hp
    have := (ho i (by simpa using hi)).len
    simpa [Kd.el] using this

/-- What Bytes comes to. -/
def BytesTo (w : World) (x : Nod) (e : Ending) (w' : World) : Prop :=
  Below w.heap.size w w' ∧ ((rightN x = false ∧ e = .returned (.tuple #[.slice none 0 0, .int .i64 1])) ∨ (rightN x = true ∧ ∃ a c, e = .returned (.tuple #[.slice a 512 c, .int .i64 0]) ∧ w'.ownsRow w.heap.size 5 1 (.slice a 512 c) 512 (bc (enc x))))
theorem own_lower {w : World} {base base' : Nat} {e : TypeId} {size n : Nat} {v : Value} {xs : List Value} (h : w.ownsRow base e size v n xs) (hb : base' ≤ base) : w.ownsRow base' e size v n xs := by
  refine ⟨h.1, ?_⟩
  rcases h.2 with h2 | ⟨g, cap, cur, h3, h4, h5⟩
  · exact .inl h2
  · exact .inr ⟨g, cap, cur, h3, by omega, h5⟩
/-- What the walk of Bytes holds: the writer with the bytes L, its pointer, the node and what it is made of. -/
structure BSt (w y : World) (x : Nod) (pv qv : Value) (p c : Nat) (s : WS) (r : Option Nat) : Prop where
  wr : WrS y p s r
  ptr : ptrAt y c p 45
  node : HasN y w.heap.size x pv qv
  bel : Below w.heap.size w y
  hp : w.heap.size < p
  cp : c ≠ p
  cr : r ≠ some c
theorem BSt.to {w y z : World} {x : Nod} {pv qv : Value} {p c : Nat} {s s' : WS} {r : Option Nat} (h : BSt w y x pv qv p c s r) (g : WrG p y r s' z) : ∃ r', BSt w z x pv qv p c s' r' := by
  obtain ⟨r', g1, g2, g3⟩ := g
  have hl := h.wr.lt
  have hc := lt_of_block h.ptr
  refine ⟨r', g1, (g2.block c hc h.cp h.cr).trans h.ptr, h.node.same (g2.block _ h.node.lt (by have := h.hp; omega) fun e => by have := hl.2 _ e; have := h.hp; omega), h.bel.trans (g2.below h.bel.size (by have := h.hp; omega) fun k hk => by have := hl.2 k hk; have := h.hp; omega), h.hp, h.cp, fun e => ?_⟩
  rcases g3 c e with e | e
  · exact h.cr e
  · omega
theorem els_at {w y : World} {sv : Value} {l : List El} (h : Els w sv l) (b : Below w.heap.size w y) : ∃ r, ElsIn y sv l r ∧ ∀ k, r = some k → k < w.heap.size := by
  obtain ⟨r, h1, h2⟩ := h
  exact ⟨r, h1.below b h2, h2⟩
set_option maxHeartbeats 8000000 in
set_option maxRecDepth 100000 in
theorem bytes_calls (w : World) (x : Nod) (pv qv : Value) (h : Parts w x pv qv) : Calls Try.prog 6 #[nv x pv qv] w (BytesTo w x) := by
  have B1 : Below w.heap.size w (w.alloc (.cells (nc x pv qv) 25)) := (Below.refl _ w).alloc (Nat.le_refl _) _
  have hR := right_calls _ x pv qv (h.below B1)
  have H1 : Hid (HasN (w.alloc (.cells (nc x pv qv) 25)) w.heap.size x pv qv) := HasN.new w x pv qv _ rfl h.p.one h.q.one
  cases hr : rightN x with
  | false =>
    rw [hr] at hR
    have HR : Hid (rightN x = false) := hr
    clear hr
    go_enter Try.func6, Try.ntmps6
    go_wp2_with (first
      | (refine load_node _ rfl w.heap.size rfl rfl _ _ _ H1.out ?_)
      | (go_at_call 14; refine hR.mono ?_; rintro e w1 ⟨rfl, b1⟩))
    go_ret2
    exact ⟨B1.trans (b1.mono B1.size), .inl ⟨HR.out, rfl⟩⟩
  | true =>
    rw [hr] at hR
    have HR : Hid (rightN x = true) := hr
    have F : Hid (Fits x) := fits hr
    have KX : Hid (Keyed x) := h.keyed
    have HS : Hid (Parts w x pv qv) := h
    obtain ⟨ap, cp, rfl⟩ := h.lenP
    obtain ⟨aq, cq, rfl⟩ := h.lenQ
    clear hr h
    go_enter Try.func6, Try.ntmps6
    go_upto_region 3 with (first
      | (refine load_node _ rfl w.heap.size rfl rfl _ _ _ H1.out ?_)
      | (go_at_call 14; refine hR.mono ?_; rintro e w1 ⟨rfl, b1⟩))
    have N1 : Hid (HasN w1 w.heap.size x (.slice ap x.ps.length cp) (.slice aq x.ks.length cq)) := H1.out.below b1 (by simp)
    have C1 : Below w.heap.size w w1 := B1.trans (b1.mono B1.size)
    have s1 := N1.out.lt
    clear H1 b1 B1 hR
    go_upto_region 4 with (go_at_call 16; refine (new_calls _ 512 (by omega) (by omega)).mono ?_; rintro e w2 ⟨rfl, h2, b2⟩)
    have s2 := h2.lt.1
    have S2 : BSt w (w2.alloc (.cells #[.pointer (some ⟨w1.heap.size, 0, none⟩)] 45)) x (.slice ap x.ps.length cp) (.slice aq x.ks.length cq) w1.heap.size w2.heap.size ⟨512, [], false⟩ none :=
      ⟨h2.called ((Below.refl _ _).alloc (Nat.le_refl _) _), heap_alloc_new _ _, (N1.out.below b2 s1).alloc _, (C1.trans (b2.mono C1.size)).alloc (by have := C1.size; have := b2.size; omega) _, s1, by omega, by simp⟩
    have S2' : Hid (∃ r, BSt w (w2.alloc (.cells #[.pointer (some ⟨w1.heap.size, 0, none⟩)] 45)) x (.slice ap x.ps.length cp) (.slice aq x.ks.length cq) w1.heap.size w2.heap.size ⟨512, [], false⟩ r) := ⟨_, S2⟩
    clear S2 h2 b2 N1 C1 s2
    generalize w2.alloc (.cells #[.pointer (some ⟨w1.heap.size, 0, none⟩)] 45) = y2 at *
    generalize w1.heap.size = p at *
    generalize w2.heap.size = c at *
    obtain ⟨r2, S2⟩ := S2'.out
    clear S2'
    have c2 := cell_of_one S2.ptr
    have hw2 := S2.wr
    have B2 : Hid (BSt w y2 x (.slice ap x.ps.length cp) (.slice aq x.ks.length cq) p c ⟨512, [], false⟩ r2) := S2
    clear S2
    go_upto_region 5 with (go_at_call 17; refine (raw_calls _ p ⟨#[87, 84]⟩ _ r2 hw2 (by decide)).mono ?_; rintro e w3 ⟨rfl, g3⟩)
    obtain ⟨r3, S3⟩ := B2.out.to g3
    have e3 : (⟨512, [], false⟩ : WS).put (⟨#[87, 84]⟩ : ByteArray).data.toList = ⟨512, [87, 84], false⟩ := by rw [put_fits _ _ (by decide)]; rfl
    rw [e3] at S3
    clear g3 B2 hw2 c2 e3
    have c3 := cell_of_one S3.ptr
    have hw3 := S3.wr
    obtain ⟨k0, k1, k2⟩ := S3.node.cells
    have B3 : Hid (BSt w w3 x (.slice ap x.ps.length cp) (.slice aq x.ks.length cq) p c ⟨512, [87, 84], false⟩ r3) := S3
    clear S3
    have hl0 := F.out.l0
    have hl1 := F.out.l1
    go_upto_region 6 with (go_at_call 18; refine (byte_calls _ p _ _ r3 hw3 (by omega)).mono ?_; rintro e w4 ⟨rfl, g4⟩)
    obtain ⟨r4, S4⟩ := B3.out.to g4
    have e4 : (⟨512, [87, 84], false⟩ : WS).byte x.lv = ⟨512, [87, 84] ++ be x.lv.toNat 1, false⟩ := by rw [WS.byte, if_neg (by omega), put_fits _ _ (by rw [be_length]; decide)]; rfl
    rw [e4] at S4
    clear g4 B3 hw3 c3 k0 k1 k2 e4
    have c4 := cell_of_one S4.ptr
    obtain ⟨k0, k1, k2⟩ := S4.node.cells
    have B4 : Hid (BSt w w4 x (.slice ap x.ps.length cp) (.slice aq x.ks.length cq) p c ⟨512, [87, 84] ++ be x.lv.toNat 1, false⟩ r4) := S4
    clear S4
    have fin : ∀ (wz : World) (rz : Option Nat), BSt w wz x (.slice ap x.ps.length cp) (.slice aq x.ks.length cq) p c ⟨512, encB x, false⟩ rz → Calls Try.prog 27 #[.pointer (some ⟨p, 0, none⟩), .int .i64 512] wz fun e w' => e = .returned (.tuple #[]) ∧ ∃ r', BSt w w' x (.slice ap x.ps.length cp) (.slice aq x.ks.length cq) p c ⟨512, enc x, false⟩ r' := fun wz rz hz => by
      refine (fill_calls wz p 512 _ rz hz.wr (by omega)).mono ?_
      rintro e w' ⟨rfl, g⟩
      obtain ⟨r', h'⟩ := hz.to g
      rw [fill_fits _ (by have := F.out.encB KX.out; omega)] at h'
      exact ⟨rfl, r', h'⟩
    have FIN : Hid (∀ (wz : World) (rz : Option Nat), BSt w wz x (.slice ap x.ps.length cp) (.slice aq x.ks.length cq) p c ⟨512, encB x, false⟩ rz → Calls Try.prog 27 #[.pointer (some ⟨p, 0, none⟩), .int .i64 512] wz fun e w' => e = .returned (.tuple #[]) ∧ ∃ r', BSt w w' x (.slice ap x.ps.length cp) (.slice aq x.ks.length cq) p c ⟨512, enc x, false⟩ r') := fin
    clear fin
    have HEL : Hid ((enc x).length = 512) := F.out.enc KX.out
    by_cases hz : x.lv = 0
    · obtain ⟨rl, hel, hrl⟩ := els_at HS.out.p B4.out.bel
      have hW := writeP_calls w4 c p _ r4 _ x.ps rl B4.out.wr B4.out.ptr B4.out.cp B4.out.cr hel (fun k hk => by have := hrl k hk; have := B4.out.hp; omega) F.out.vs (by have := F.out.np; omega)
      have hks : x.ks = [] := by rcases F.out.one with ⟨_, e, _⟩ | ⟨e, _⟩; exact e; exact absurd hz e
      have hb : x.ps.foldl WS.pair ((⟨512, [87, 84] ++ be x.lv.toNat 1, false⟩ : WS).byte (x.ps.length : Int)) = ⟨512, encB x, false⟩ := by
        have hnp := F.out.np
        rw [WS.byte, if_neg (by omega), put_fits _ _ (by simp [be_length]), pairs_fit _ _ KX.out.1 F.out.vs (by rw [cat_length]; simp [be_length]; omega), encB, encH, hks]
        simp [cat, encK]
      rw [hb] at hW
      have HW : Hid (Calls Try.prog 19 #[.pointer (some ⟨p, 0, none⟩), .slice ap x.ps.length cp, .func (Fn.func 20) #[] #[], .func (Fn.func 21) #[] #[.pointer (some ⟨c, 0, none⟩)]] w4 fun e w' => e = .returned (.tuple #[]) ∧ WrG p w4 r4 ⟨512, encB x, false⟩ w') := hW
      clear hW hb hks hel hrl
      have hz2 : (x.lv == 0) = true := by simpa using hz
      go_upto_region 9 with (go_at_call 19; refine HW.out.mono ?_; rintro e w5 ⟨rfl, g5⟩)
      obtain ⟨r5, S5⟩ := B4.out.to g5
      have c5 := cell_of_one S5.ptr
      have hF5 := FIN.out w5 r5 S5
      clear S5 g5 HW B4 c4 k0 k1 k2 FIN
      go_upto_region 10 with (go_at_call 27; refine hF5.mono ?_; rintro e w6 ⟨rfl, r6, S6⟩)
      have c6 := cell_of_one S6.ptr
      have hD := done_ok w6 p _ r6 S6.wr rfl
      simp only [HEL.out] at hD
      have B6 := S6.bel
      clear S6 hF5 c5
      go_wp2_with (go_at_call 28; refine hD.mono ?_; rintro e w7 ⟨a7, q7, rfl, o7, b7⟩)
      go_ret2
      exact ⟨B6.trans (b7.mono B6.size), .inr ⟨HR.out, a7, q7, rfl, own_lower o7 B6.size⟩⟩
    · obtain ⟨rl, hel, hrl⟩ := els_at HS.out.q B4.out.bel
      have hbs : ∀ e ∈ x.ks, 0 ≤ e.n ∧ e.n ≤ 4294967295 := fun e he => by have := F.out.bs e he; omega
      have hW := writeK_calls w4 c p _ r4 _ x.ks rl B4.out.wr B4.out.ptr B4.out.cp B4.out.cr hel (fun k hk => by have := hrl k hk; have := B4.out.hp; omega) hbs F.out.nk
      have hks : x.ps = [] := by rcases F.out.one with ⟨e, _⟩ | ⟨_, e, _⟩; exact absurd e hz; exact e
      have hb : x.ks.foldl WS.kid ((⟨512, [87, 84] ++ be x.lv.toNat 1, false⟩ : WS).byte (x.ks.length : Int)) = ⟨512, encB x, false⟩ := by
        have hnk := F.out.nk
        rw [WS.byte, if_neg (by omega), put_fits _ _ (by simp [be_length]), kids_fit _ _ KX.out.2 hbs (by rw [cat_length]; simp [be_length]; omega), encB, encH, hks]
        simp [cat, encP]
      rw [hb] at hW
      have HW : Hid (Calls Try.prog 23 #[.pointer (some ⟨p, 0, none⟩), .slice aq x.ks.length cq, .func (Fn.func 24) #[] #[], .func (Fn.func 25) #[] #[.pointer (some ⟨c, 0, none⟩)]] w4 fun e w' => e = .returned (.tuple #[]) ∧ WrG p w4 r4 ⟨512, encB x, false⟩ w') := hW
      clear hW hb hks hel hrl hbs
      have hz2 : (x.lv == 0) = false := by simpa using hz
      go_upto_region 9 with (go_at_call 23; refine HW.out.mono ?_; rintro e w5 ⟨rfl, g5⟩)
      obtain ⟨r5, S5⟩ := B4.out.to g5
      have c5 := cell_of_one S5.ptr
      have hF5 := FIN.out w5 r5 S5
      clear S5 g5 HW B4 c4 k0 k1 k2 FIN
      go_upto_region 10 with (go_at_call 27; refine hF5.mono ?_; rintro e w6 ⟨rfl, r6, S6⟩)
      have c6 := cell_of_one S6.ptr
      have hD := done_ok w6 p _ r6 S6.wr rfl
      simp only [HEL.out] at hD
      have B6 := S6.bel
      clear S6 hF5 c5
      go_wp2_with (go_at_call 28; refine hD.mono ?_; rintro e w7 ⟨a7, q7, rfl, o7, b7⟩)
      go_ret2
      exact ⟨B6.trans (b7.mono B6.size), .inr ⟨HR.out, a7, q7, rfl, own_lower o7 B6.size⟩⟩
end Go.Proofs.Ytggbnacpgkbieaa
