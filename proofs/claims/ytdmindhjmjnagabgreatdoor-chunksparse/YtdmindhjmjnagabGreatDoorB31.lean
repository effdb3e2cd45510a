import Derived.Test.YtdmindhjmjnagabGreatDoorB04
import Derived.Test.YtdmindhjmjnagabGreatDoorB30
/- What keys say and how they are ordered: plain mathematics. -/
namespace Go.Proofs.YtdmindhjmjnagabGreatDoor
set_option linter.unusedVariables false
set_option maxRecDepth 100000
open Go.RowKit

theorem be4 (n : Nat) : be n 4 = [UInt8.ofNat (n / 256 ^ 3), UInt8.ofNat (n / 256 ^ 2), UInt8.ofNat (n / 256 ^ 1), UInt8.ofNat (n / 256 ^ 0)] := rfl
theorem num_be4 (n : Nat) (h : n < 4294967296) : num [UInt8.ofNat (n / 256 ^ 3), UInt8.ofNat (n / 256 ^ 2), UInt8.ofNat (n / 256 ^ 1), UInt8.ofNat (n / 256 ^ 0)] = n := by
  rw [← be4]
  exact num_be 4 n (by rw [p4]; exact h)
theorem pIno_of (n : Nat) (h : n < 4294967296) (r : List UInt8) : pIno (be n 4 ++ r) = n := by
  show ((num [_, _, _, _] : Nat) : Int) = n
  exact congrArg _ (num_be4 n h)
theorem pKind_of (n : Nat) (k : UInt8) (r : List UInt8) : pKind (be n 4 ++ k :: r) = k.toNat := rfl

theorem okN_lt {n : Int} (h : okN n = true) : 0 ≤ n ∧ n.toNat < 4294967296 ∧ ((n.toNat : Nat) : Int) = n := by
  have : 1 ≤ n ∧ n < 1073741824 := of_decide_eq_true h
  omega
theorem okP_lt {n : Int} (h : okP n = true) : 0 ≤ n ∧ n.toNat < 4294967296 ∧ ((n.toNat : Nat) : Int) = n := by
  have : 0 ≤ n ∧ n ≤ 4294967295 := of_decide_eq_true h
  omega
theorem okS_out {s : List UInt8} (h : okS s = true) : 1 ≤ s.length ∧ s.length ≤ 18 ∧ (0 : UInt8) ∉ s := of_decide_eq_true h

theorem head_says {n : Int} (h : okN n = true) (k : UInt8) : pIno (headK n.toNat k) = n ∧ pKind (headK n.toNat k) = k.toNat := by
  obtain ⟨h0, h1, h2⟩ := okN_lt h
  exact ⟨by rw [headK, pIno_of _ h1, h2], pKind_of _ _ _⟩
theorem chunk_says {n p : Int} (h : okN n = true) (hp : okP p = true) : pIno (chunkK n.toNat p.toNat) = n ∧ pKind (chunkK n.toNat p.toNat) = 3 ∧ pPlace (chunkK n.toNat p.toNat) = p := by
  obtain ⟨h0, h1, h2⟩ := okN_lt h
  obtain ⟨q0, q1, q2⟩ := okP_lt hp
  refine ⟨by rw [chunkK, pIno_of _ h1, h2], pKind_of _ _ _, ?_⟩
  have : pPlace (chunkK n.toNat p.toNat) = ((num [UInt8.ofNat (p.toNat / 256 ^ 3), UInt8.ofNat (p.toNat / 256 ^ 2), UInt8.ofNat (p.toNat / 256 ^ 1), UInt8.ofNat (p.toNat / 256 ^ 0)] : Nat) : Int) := rfl
  rw [this, num_be4 _ q1, q2]
theorem entry_last (n : Nat) (s : List UInt8) (h : s.length ≤ 18) : (entryK n s).getD 23 0 = UInt8.ofNat s.length := by
  have e : entryK n s = (be n 4 ++ 2 :: (s ++ zs (18 - s.length))) ++ [UInt8.ofNat s.length] := by simp [entryK]
  rw [e, List.getD, List.getElem?_append_right (by simp [be_length, zs_length]; omega)]
  have : 23 - (be n 4 ++ 2 :: (s ++ zs (18 - s.length))).length = 0 := by simp [be_length, zs_length]; omega
  rw [this]
  rfl
theorem entry_nm (n : Nat) (s : List UInt8) (h : s.length ≤ 18) : nm (entryK n s) = s := by
  have h1 : nmLen (entryK n s) = s.length := by
    rw [nmLen, entry_last n s h, UInt8.toNat_ofNat']
    omega
  have h2 : (entryK n s).drop 5 = s ++ zs (18 - s.length) ++ [UInt8.ofNat s.length] := rfl
  rw [nm, h1, h2, List.append_assoc, List.take_left']
  rfl
theorem entry_says {n : Int} {s : List UInt8} (h : okN n = true) (hs : okS s = true) : pIno (entryK n.toNat s) = n ∧ pKind (entryK n.toNat s) = 2 ∧ pName (entryK n.toNat s) = s := by
  obtain ⟨h0, h1, h2⟩ := okN_lt h
  have hk : pKind (entryK n.toNat s) = 2 := pKind_of _ _ _
  refine ⟨by rw [entryK, pIno_of _ h1, h2], hk, ?_⟩
  rw [pName, if_pos hk, entry_nm _ _ (okS_out hs).2.1]

/-! Keys that are made say what they are made of. -/
theorem inode_right {n : Int} (h : okN n = true) : right (inodeR n) = true ∧ ofV (inodeR n) = pv n 1 [] 0 := by
  have e : inodeR n = headK n.toNat 1 := by rw [inodeR, if_pos h]
  obtain ⟨h1, h2⟩ := head_says h 1
  have h2 : pKind (headK n.toNat 1) = 1 := h2
  have hN : pName (headK n.toNat 1) = [] := by rw [pName, h2]; rfl
  have hP : pPlace (headK n.toNat 1) = 0 := by rw [pPlace, h2]; rfl
  have hr : right (headK n.toNat 1) = true := by
    rw [right, h1, h2, hN, hP]
    simp [madeB, madeK, h, inodeR]
  rw [e]
  refine ⟨hr, ?_⟩
  rw [ofV, if_pos hr, h1, h2, hN, hP]
theorem entry_right {n : Int} {s : List UInt8} (h : okN n = true) (hs : okS s = true) : right (entryR n s) = true ∧ ofV (entryR n s) = pv n 2 s 0 := by
  have e : entryR n s = entryK n.toNat s := by rw [entryR, h, hs]; rfl
  obtain ⟨h1, h2, h3⟩ := entry_says h hs
  have hP : pPlace (entryK n.toNat s) = 0 := by rw [pPlace, h2]; rfl
  have hr : right (entryK n.toNat s) = true := by
    rw [right, h1, h2, h3, hP]
    simp [madeB, madeK, h, hs, entryR]
  rw [e]
  refine ⟨hr, ?_⟩
  rw [ofV, if_pos hr, h1, h2, h3, hP]
theorem chunk_right {n p : Int} (h : okN n = true) (hp : okP p = true) : right (chunkR n p) = true ∧ ofV (chunkR n p) = pv n 3 [] p := by
  have e : chunkR n p = chunkK n.toNat p.toNat := by rw [chunkR, h, hp]; rfl
  obtain ⟨h1, h2, h3⟩ := chunk_says h hp
  have hN : pName (chunkK n.toNat p.toNat) = [] := by rw [pName, h2]; rfl
  have hr : right (chunkK n.toNat p.toNat) = true := by
    rw [right, h1, h2, h3, hN]
    simp [madeB, madeK, h, hp, chunkR]
  rw [e]
  refine ⟨hr, ?_⟩
  rw [ofV, if_pos hr, h1, h2, h3, hN]

theorem entry_inj {a b : Int} {s t : List UInt8} (ha : okN a = true) (hs : okS s = true) (hb : okN b = true) (ht : okS t = true) : (entryR a s == entryR b t) = (a == b && s == t) := by
  have ea : entryR a s = entryK a.toNat s := by rw [entryR, ha, hs]; rfl
  have eb : entryR b t = entryK b.toNat t := by rw [entryR, hb, ht]; rfl
  obtain ⟨p1, p2, p3⟩ := entry_says ha hs
  obtain ⟨q1, q2, q3⟩ := entry_says hb ht
  rw [Bool.eq_iff_iff]
  simp only [beq_iff_eq, Bool.and_eq_true]
  constructor
  · intro h
    rw [ea, eb] at h
    rw [h] at p1 p3
    exact ⟨p1.symm.trans q1, p3.symm.trans q3⟩
  · rintro ⟨rfl, rfl⟩
    rfl
theorem chunk_inj {a b p q : Int} (ha : okN a = true) (hp : okP p = true) (hb : okN b = true) (hq : okP q = true) : (chunkR a p == chunkR b q) = (a == b && p == q) := by
  have ea : chunkR a p = chunkK a.toNat p.toNat := by rw [chunkR, ha, hp]; rfl
  have eb : chunkR b q = chunkK b.toNat q.toNat := by rw [chunkR, hb, hq]; rfl
  obtain ⟨p1, p2, p3⟩ := chunk_says ha hp
  obtain ⟨q1, q2, q3⟩ := chunk_says hb hq
  rw [Bool.eq_iff_iff]
  simp only [beq_iff_eq, Bool.and_eq_true]
  constructor
  · intro h
    rw [ea, eb] at h
    rw [h] at p1 p3
    exact ⟨p1.symm.trans q1, p3.symm.trans q3⟩
  · rintro ⟨rfl, rfl⟩
    rfl
theorem inode_inj {a b : Int} (ha : okN a = true) (hb : okN b = true) : (inodeR a == inodeR b) = (a == b) := by
  have ea : inodeR a = headK a.toNat 1 := by rw [inodeR, if_pos ha]
  have eb : inodeR b = headK b.toNat 1 := by rw [inodeR, if_pos hb]
  obtain ⟨p1, p2⟩ := head_says ha 1
  obtain ⟨q1, q2⟩ := head_says hb 1
  rw [Bool.eq_iff_iff]
  simp only [beq_iff_eq]
  constructor
  · intro h
    rw [ea, eb] at h
    rw [h] at p1
    exact p1.symm.trans q1
  · rintro rfl
    rfl
theorem kinds_apart {K L : List UInt8} {i j : Int} (hK : pKind K = i) (hL : pKind L = j) (h : i ≠ j) : (K == L) = false := by
  rw [beq_eq_false_iff_ne]
  intro e
  subst e
  exact h (hK.symm.trans hL)
theorem entry_chunk {a b p : Int} {s : List UInt8} (ha : okN a = true) (hs : okS s = true) (hb : okN b = true) (hp : okP p = true) : (entryR a s == chunkR b p) = false := by
  rw [show entryR a s = entryK a.toNat s by rw [entryR, ha, hs]; rfl, show chunkR b p = chunkK b.toNat p.toNat by rw [chunkR, hb, hp]; rfl]
  exact kinds_apart (entry_says ha hs).2.1 (chunk_says hb hp).2.1 (by decide)
theorem entry_inode {a b : Int} {s : List UInt8} (ha : okN a = true) (hs : okS s = true) (hb : okN b = true) : (entryR a s == inodeR b) = false := by
  rw [show entryR a s = entryK a.toNat s by rw [entryR, ha, hs]; rfl, show inodeR b = headK b.toNat 1 by rw [inodeR, if_pos hb]]
  exact kinds_apart (entry_says ha hs).2.1 (head_says hb 1).2 (by decide)
theorem chunk_inode {a b p : Int} (ha : okN a = true) (hp : okP p = true) (hb : okN b = true) : (chunkR a p == inodeR b) = false := by
  rw [show chunkR a p = chunkK a.toNat p.toNat by rw [chunkR, ha, hp]; rfl, show inodeR b = headK b.toNat 1 by rw [inodeR, if_pos hb]]
  exact kinds_apart (chunk_says ha hp).2.1 (head_says hb 1).2 (by decide)
end Go.Proofs.YtdmindhjmjnagabGreatDoor
/- dir: a view over nothing, and dir's calls on it; the statements' shown. -/
namespace Go.Proofs.YtdmindhjmjnagabGreatDoor
set_option linter.unusedVariables false
set_option maxRecDepth 100000
open Go.RowKit

/-- A view over nothing. -/
abbrev NI (lim p : Nat) (pv : Value) (base : Nat) : Nat → World → Prop := fun _ w => PlC lim w p pv [] base
abbrev nI (p : Nat) : Value := .iface 43 (.pointer (some ⟨p, 0, none⟩))
abbrev nSn : Sp → List Pa × Int := fun s => (scanL s [], 0)
theorem ni_base (lim p : Nat) (pv : Value) (base : Nat) : Baser lim noB (NI lim p pv base) (nI p) (plGe []) nSn := plainC_base lim p pv [] base (Nat.zero_le _)
set_option maxHeartbeats 4000000 in
theorem vnewNil_calls (w0 y : World) (hb : Below w0.heap.size w0 y) :
    Calls Tryz.prog 5 #[.nilIface] y fun e y' => ∃ lim p pv base q x, e = .returned (.pointer (some ⟨q, 0, none⟩)) ∧ VAt w0 lim (NI lim p pv base) 9 (nI p) q x vs0 y' ∧ x.n = 0 ∧ (∀ i, x.own q i → y.heap.size ≤ i) ∧ y.heap.size ≤ p ∧ (∀ g, pv.ownBlock = some g → y.heap.size ≤ g) ∧ (∀ i, x.own q i → i ≠ p ∧ pv.ownBlock ≠ some i) ∧ Below y.heap.size y y' := by
  have hN := newPlainO_calls y (.slice none 0 0) [] (SlB.nil _ _ _) (Nat.zero_le _)
  have hmm := @run_makeMap Tryz.prog
  have HB : Hid (Below w0.heap.size w0 y) := hb
  clear hb
  go_enter Tryz.func5, Tryz.ntmps5
  go_upto_region 3 with (go_at_call 11; refine hN.mono ?_; clear hN; rintro e z ⟨p, pv, m, rfl, hp, ho, hm, hl, hpl, b⟩)
  have hm0 : m = [] := List.eq_nil_of_length_eq_zero (Nat.le_zero.1 hl)
  subst hm0
  have HP : Hid (PlC z.heap.size z p pv [] y.heap.size ∧ y.heap.size ≤ p ∧ Below y.heap.size y z) := ⟨PlC.of hp ho hm.1, hpl, b⟩
  have HV := vnew_in z (nI p)
  clear hp ho hm hl hpl b
  go_wp2_with fail
  go_ret
  obtain ⟨q1, q2, q3⟩ := HV _ rfl
  have hz := HP.out.2.2.size
  have hown : ∀ i, (⟨z.heap.size, z.heap.size + 1, .slice none 0 0, [], 0⟩ : VR).own (z.heap.size + 2) i → z.heap.size ≤ i := fun i hi => by
    rcases hi with rfl | rfl | rfl | hi | hi
    · show z.heap.size ≤ z.heap.size + 2
      omega
    · exact Nat.le_refl _
    · show z.heap.size ≤ z.heap.size + 1
      omega
    · cases hi
    · cases hi
  refine ⟨z.heap.size, p, pv, y.heap.size, _, _, rfl, ⟨q1, HP.out.1.mono q2, hown, HB.out.trans ((HP.out.2.2.trans (q2.mono hz)).mono HB.out.size), Nat.le_trans HB.out.size hz, q2.size⟩, rfl, fun i hi => Nat.le_trans hz (hown i hi), HP.out.2.1, fun g hg => (HP.out.1.own.lt g hg).1, fun i hi => ⟨fun e => ?_, fun e => ?_⟩, HP.out.2.2.trans (q2.mono hz)⟩
  · have := hown i hi
    have := HP.out.1.lo
    omega
  · have := hown i hi
    have := HP.out.1.lov i e
    omega
end Go.Proofs.YtdmindhjmjnagabGreatDoor
/- dir: the statements' shown. -/
namespace Go.Proofs.YtdmindhjmjnagabGreatDoor
set_option linter.unusedVariables false
set_option maxRecDepth 100000
open Go.RowKit

theorem VAt.re {w0 y : World} {lim p base k q : Nat} {pv iv : Value} {x : VR} {V : VS} (k' : Nat) (h : VAt w0 lim (NI lim p pv base) k iv q x V y) : VAt w0 lim (NI lim p pv base) k' iv q x V y := ⟨h.vw, h.base, h.own, h.bel, h.le, h.limy⟩
def sh1 : VS := vs0.change (enC 1 [98] 2)
def sh2 : VS := sh1.change (enC 1 [97] 3)
def sh3 : VS := { sh2 with R := sh2.R ++ [entriesS 1] }
def sh4 : VS := getW sh3 (ekz 1 [97])
def sh5 : VS := sh4.change (goneC (ekz 1 [97]))
def shL : List Pa := (scanV sh2.C nSn (entriesS 1)).1
theorem sh_okb : okE 1 [98] = true := by kernel_rfl
theorem sh_oka : okE 1 [97] = true := by kernel_rfl
theorem sh_L : scanV sh2.C nSn (entriesS 1) = (shL, 0) := rfl
theorem sh_len : shL.length = 2 := by kernel_rfl
theorem sh_names : namesL shL = [[97], [98]] := by kernel_rfl
theorem sh_good : shL.all (fun p => goodK p.k) = true := by kernel_rfl
theorem sh_get : getV sh3.C (plGe []) (ekz 1 [97]) = (be 3 4, true, 0) := by kernel_rfl
theorem sh_none : scanV sh5.C nSn (entriesS 2) = ([], 0) := by kernel_rfl
theorem nm_three {o : Option Int} (h : NmIs (be 3 4) o) : o = some 3 := (h 3).2 ⟨rfl, rfl⟩
end Go.Proofs.YtdmindhjmjnagabGreatDoor
/- How keys are ordered, and which lie in a span: plain mathematics. -/
namespace Go.Proofs.YtdmindhjmjnagabGreatDoor
set_option linter.unusedVariables false
set_option maxRecDepth 100000
open Go.RowKit

theorem less_self (l : List UInt8) : Op.bytesLess l l = false := by
  induction l with
  | nil => rfl
  | cons a l ih => rw [Op.bytesLess, ih]; simp
theorem less_app : ∀ (p q x y : List UInt8), p.length = q.length → Op.bytesLess (p ++ x) (q ++ y) = (Op.bytesLess p q || (p == q && Op.bytesLess x y))
  | [], [], x, y, _ => by simp [Op.bytesLess]
  | a :: p, b :: q, x, y, h => by
    have ih := less_app p q x y (by simpa using h)
    rw [List.cons_append, List.cons_append, Op.bytesLess, Op.bytesLess, ih, List.cons_beq_cons]
    cases decide (a < b) <;> cases (a == b) <;> simp
  | [], _ :: _, _, _, h => by simp at h
  | _ :: _, [], _, _, h => by simp at h
theorem less_zs : ∀ (n : Nat) (x : List UInt8), x.length = n → Op.bytesLess x (zs n) = false
  | 0, [], _ => rfl
  | n + 1, a :: x, h => by
    have ih := less_zs n x (by simpa using h)
    have e : zs (n + 1) = 0 :: zs n := rfl
    rw [e, Op.bytesLess, ih]
    simp
  | 0, _ :: _, h => by simp at h
  | _ + 1, [], h => by simp at h
theorem less_tops : ∀ (n : Nat) (x : List UInt8), x.length = n → Op.bytesLess (List.replicate n 255) x = false
  | 0, [], _ => rfl
  | n + 1, a :: x, h => by
    have ih := less_tops n x (by simpa using h)
    have ha : ¬ (255 : UInt8) < a := by
      rw [UInt8.lt_iff_toNat_lt]
      have := a.toNat_lt
      have e : (255 : UInt8).toNat = 255 := rfl
      omega
    rw [List.replicate_succ, Op.bytesLess, ih]
    simp [ha]
  | 0, _ :: _, h => by simp at h
  | _ + 1, [], h => by simp at h
theorem less_tri : ∀ (x y : List UInt8), x.length = y.length → (!Op.bytesLess x y) = (Op.bytesLess y x || x == y)
  | [], [], _ => rfl
  | a :: x, b :: y, h => by
    have ih := less_tri x y (by simpa using h)
    rw [Op.bytesLess, Op.bytesLess, List.cons_beq_cons]
    rcases Nat.lt_trichotomy a.toNat b.toNat with h1 | h1 | h1
    · have h2 : a < b := UInt8.lt_iff_toNat_lt.2 h1
      have h3 : ¬ b < a := fun e => by have := UInt8.lt_iff_toNat_lt.1 e; omega
      have h4 : ¬ a = b := fun e => by subst e; omega
      have h5 : ¬ b = a := fun e => h4 e.symm
      simp [h2, h3, h4, h5]
    · have h2 : a = b := UInt8.toNat_inj.1 h1
      subst h2
      simp [ih]
    · have h2 : b < a := UInt8.lt_iff_toNat_lt.2 h1
      have h3 : ¬ a < b := fun e => by have := UInt8.lt_iff_toNat_lt.1 e; omega
      have h4 : ¬ a = b := fun e => by subst e; omega
      simp [h2, h3, h4]
  | [], _ :: _, h => by simp at h
  | _ :: _, [], h => by simp at h

theorem less_be {i d : Nat} (hi : i < 4294967296) (hd : d < 4294967296) (x y : List UInt8) : Op.bytesLess (be i 4 ++ x) (be d 4 ++ y) = (decide (i < d) || (decide (i = d) && Op.bytesLess x y)) := by
  rw [less_app _ _ _ _ (by rw [be_length, be_length]), be_less 4 i d (by rw [p4]; exact hi) (by rw [p4]; exact hd)]
  have : (be i 4 == be d 4) = decide (i = d) := by
    rw [Bool.eq_iff_iff, beq_iff_eq, decide_eq_true_iff]
    exact be_inj (by rw [p4]; exact hi) (by rw [p4]; exact hd)
  rw [this]

/-- Names that are filled up with noughts are ordered as they were. -/
theorem less_names : ∀ (s t : List UInt8) (n m : Nat) (x y : UInt8), (0 : UInt8) ∉ s → (0 : UInt8) ∉ t → s.length + n = t.length + m → (s.length = t.length → x = y) → Op.bytesLess (s ++ zs n ++ [x]) (t ++ zs m ++ [y]) = Op.bytesLess s t
  | [], [], n, m, x, y, _, _, h, hx => by
    have e : n = m := by simpa using h
    subst e
    have := hx rfl
    subst this
    rw [less_self]
    rfl
  | [], b :: t, n, m, x, y, _, ht, h, _ => by
    obtain ⟨k, rfl⟩ : ∃ k, n = k + 1 := ⟨n - 1, by simp at h; omega⟩
    have hb : (0 : UInt8) < b := by
      rw [UInt8.lt_iff_toNat_lt]
      have h0 : b ≠ 0 := fun e => ht (by simp [e])
      have : b.toNat ≠ 0 := fun e => h0 (UInt8.toNat_inj.1 e)
      have e0 : (0 : UInt8).toNat = 0 := rfl
      omega
    show Op.bytesLess (0 :: _) (b :: _) = true
    rw [Op.bytesLess]
    simp [hb]
  | a :: s, [], n, m, x, y, hs, _, h, _ => by
    obtain ⟨k, rfl⟩ : ∃ k, m = k + 1 := ⟨m - 1, by simp at h; omega⟩
    have ha : a ≠ 0 := fun e => hs (by simp [e])
    have h0 : ¬ a < 0 := fun e => by have := UInt8.lt_iff_toNat_lt.1 e; have e0 : (0 : UInt8).toNat = 0 := rfl; omega
    show Op.bytesLess (a :: _) (0 :: _) = false
    rw [Op.bytesLess]
    simp [ha, h0]
  | a :: s, b :: t, n, m, x, y, hs, ht, h, hx => by
    have ih := less_names s t n m x y (fun e => hs (by simp [e])) (fun e => ht (by simp [e])) (by simp at h; omega) (fun e => hx (by simp [e]))
    show Op.bytesLess (a :: (s ++ zs n ++ [x])) (b :: (t ++ zs m ++ [y])) = Op.bytesLess (a :: s) (b :: t)
    rw [Op.bytesLess, Op.bytesLess, ih]

theorem entry_less {n : Int} {s t : List UInt8} (hn : okN n = true) (hs : okS s = true) (ht : okS t = true) : Op.bytesLess (entryR n s) (entryR n t) = Op.bytesLess s t := by
  obtain ⟨h0, h1, h2⟩ := okN_lt hn
  obtain ⟨s1, s2, s3⟩ := okS_out hs
  obtain ⟨t1, t2, t3⟩ := okS_out ht
  rw [show entryR n s = entryK n.toNat s by rw [entryR, hn, hs]; rfl, show entryR n t = entryK n.toNat t by rw [entryR, hn, ht]; rfl, entryK, entryK, less_be h1 h1, Op.bytesLess, less_names s t _ _ _ _ s3 t3 (by omega) (fun e => by rw [e])]
  simp
theorem chunk_less {n m p q : Int} (hn : okN n = true) (hm : okN m = true) (hp : okP p = true) (hq : okP q = true) : Op.bytesLess (chunkR n p) (chunkR m q) = (decide (n < m) || (decide (n = m) && decide (p < q))) := by
  obtain ⟨h0, h1, h2⟩ := okN_lt hn
  obtain ⟨m0, m1, m2⟩ := okN_lt hm
  obtain ⟨p0, p1, p2⟩ := okP_lt hp
  obtain ⟨q0, q1, q2⟩ := okP_lt hq
  have e : Op.bytesLess (be p.toNat 4) (be q.toNat 4) = decide (p < q) := by
    rw [be_less 4 _ _ (by rw [p4]; exact p1) (by rw [p4]; exact q1), decide_eq_decide]
    omega
  rw [show chunkR n p = chunkK n.toNat p.toNat by rw [chunkR, hn, hp]; rfl, show chunkR m q = chunkK m.toNat q.toNat by rw [chunkR, hm, hq]; rfl, chunkK, chunkK, less_be h1 m1, Op.bytesLess, less_app _ _ _ _ rfl, e, less_self]
  rw [show decide (n.toNat < m.toNat) = decide (n < m) by rw [decide_eq_decide]; omega, show decide (n.toNat = m.toNat) = decide (n = m) by rw [decide_eq_decide]; omega]
  simp
theorem inode_entry {n : Int} {s : List UInt8} (hn : okN n = true) (hs : okS s = true) : Op.bytesLess (inodeR n) (entryR n s) = true := by
  obtain ⟨h0, h1, h2⟩ := okN_lt hn
  rw [show inodeR n = headK n.toNat 1 by rw [inodeR, if_pos hn], show entryR n s = entryK n.toNat s by rw [entryR, hn, hs]; rfl, headK, entryK, less_be h1 h1, Op.bytesLess]
  simp
theorem entry_before {n p : Int} {s : List UInt8} (hn : okN n = true) (hs : okS s = true) (hp : okP p = true) : Op.bytesLess (entryR n s) (chunkR n p) = true := by
  obtain ⟨h0, h1, h2⟩ := okN_lt hn
  rw [show entryR n s = entryK n.toNat s by rw [entryR, hn, hs]; rfl, show chunkR n p = chunkK n.toNat p.toNat by rw [chunkR, hn, hp]; rfl, chunkK, entryK, less_be h1 h1, Op.bytesLess]
  simp

/-! Of two keys the one behind a key. -/
theorem nxt_tells (L : List UInt8) (hL : L.length = 24) : ∀ (i : Nat) (K : List UInt8), i ≤ 24 → K.length = 24 → K.drop i = zs (24 - i) →
    ((nxt K i).2 = true → Op.bytesLess L (nxt K i).1 = !Op.bytesLess (K.take i ++ List.replicate (24 - i) 255) L) ∧ ((nxt K i).2 = false → Op.bytesLess (K.take i ++ List.replicate (24 - i) 255) L = false)
  | 0, K, _, hK, _ => by
    refine ⟨fun h => (by cases h), fun _ => ?_⟩
    rw [List.take_zero, List.nil_append]
    exact less_tops 24 L hL
  | i + 1, K, hi, hK, hz => by
    have hlt : i < K.length := by omega
    have hg : K.getD i 0 = K[i] := by rw [List.getD_eq_getElem?_getD, List.getElem?_eq_getElem hlt]; rfl
    have hst : ∀ x, K.set i x = K.take i ++ x :: zs (24 - (i + 1)) := fun x => by
      rw [← hz, List.set_eq_take_append_cons_drop, if_pos hlt]
    have htk : K.take (i + 1) = K.take i ++ [K[i]] := List.take_succ_eq_append_getElem hlt
    have hl : (K.take i).length = i := by simp; omega
    rw [nxt]
    split
    · rename_i hx
      rw [hg] at hx
      have hx := u8_back hx
      have ih := nxt_tells L hL i (K.set i 0) (by omega) (by simpa using hK) (by
        rw [hst, List.drop_append_of_le_length (by omega), List.drop_of_length_le (by omega), List.nil_append, show 24 - i = (24 - (i + 1)) + 1 by omega]
        rfl)
      have e : (K.set i 0).take i ++ List.replicate (24 - i) 255 = K.take (i + 1) ++ List.replicate (24 - (i + 1)) 255 := by
        rw [hst, List.take_append_of_le_length (by omega), List.take_take, Nat.min_self, htk, hx, show 24 - i = (24 - (i + 1)) + 1 by omega, List.replicate_succ]
        simp
      rw [e] at ih
      exact ih
    · rename_i hx
      rw [hg] at hx ⊢
      refine ⟨fun _ => ?_, fun h => (by cases h)⟩
      have hLs : L = L.take i ++ L[i]'(by omega) :: L.drop (i + 1) := by
        rw [← List.drop_eq_getElem_cons, List.take_append_drop]
      have hLl : (L.take i).length = i := by simp; omega
      have hr1 : (L.drop (i + 1)).length = 24 - (i + 1) := by rw [List.length_drop, hL]
      have hp := u8_plus hx
      have hlx := u8_less hx
      generalize L[i]'(by omega) = y at hLs
      generalize L.drop (i + 1) = R at hLs hr1
      generalize L.take i = P at hLs hLl
      subst hLs
      rw [hst, htk, List.append_assoc, less_app _ _ _ _ (by rw [hl, hLl]), less_app _ _ _ _ (by rw [hl, hLl]), List.singleton_append, Op.bytesLess, Op.bytesLess, less_zs _ R hr1, less_tops _ R hr1]
      have ht := less_tri (K.take i) P (by rw [hl, hLl])
      have hy := y.toNat_lt
      have e1 : decide (y < K[i] + 1) = !decide (K[i] < y) := by
        rw [Bool.eq_iff_iff]
        simp only [Bool.not_eq_true', decide_eq_true_eq, decide_eq_false_iff_not, UInt8.lt_iff_toNat_lt]
        omega
      rw [e1]
      by_cases hPP : K.take i = P
      · subst hPP
        simp [less_self]
      · have hPP' : ¬ P = K.take i := fun e => hPP e.symm
        have e2 : (K.take i == P) = false := by simpa using hPP
        have e3 : (P == K.take i) = false := by simpa using hPP'
        rw [e2, Bool.or_false] at ht
        rw [e2, e3, ← ht]
        simp

theorem one_in (K L : List UInt8) (hK : K.length = 24) (hL : L.length = 24) : inS K (oneT K) (oneE K) L = (K == L) := by
  have h := nxt_tells L hL 24 K (Nat.le_refl _) hK (by rw [List.drop_of_length_le (by omega)]; rfl)
  rw [List.take_of_length_le (by omega), show 24 - 24 = 0 from rfl, List.replicate_zero, List.append_nil] at h
  have ht := less_tri L K (by rw [hK, hL])
  have ht' := less_tri K L (by rw [hK, hL])
  rw [inS, oneE, oneT]
  cases hn : (nxt K 24).2 with
  | true =>
    rw [h.1 hn]
    by_cases hKL : K = L
    · subst hKL
      simp [less_self]
    · have e1 : (K == L) = false := by simpa using hKL
      have e2 : (L == K) = false := by simpa using fun e : L = K => hKL e.symm
      rw [e1] at ht' ⊢
      rw [e2] at ht
      simp at ht ht' ⊢
      rw [ht]
      simp
  | false =>
    rw [h.2 hn] at ht
    by_cases hKL : K = L
    · subst hKL
      simp [less_self]
    · have e1 : (K == L) = false := by simpa using hKL
      have e2 : (L == K) = false := by simpa using fun e : L = K => hKL e.symm
      rw [e1]
      rw [e2] at ht
      simp at ht
      simp [ht]
end Go.Proofs.YtdmindhjmjnagabGreatDoor
/- dir: names and keys (mathematics); several views beside one another. -/
namespace Go.Proofs.YtdmindhjmjnagabGreatDoor
set_option linter.unusedVariables false
set_option maxRecDepth 100000
open Go.RowKit

theorem okH_zero (L : List UInt8) (h : okH L = true) : ∀ b ∈ L.take (dec L).2, b ≠ 0 := by
  simp only [okH, Bool.and_eq_true, decide_eq_true_eq] at h
  obtain ⟨h0, h32, _, _⟩ := h
  have hd : (dec L).2 = (chr L).1 := by unfold dec; rw [if_neg h0]
  rw [hd]
  intro x hx e
  subst e
  rcases chr_cases L with h' | ⟨a, r, rfl, h1, h'⟩ | ⟨a, b, r, rfl, h1, h2, h3, h4, h'⟩ | ⟨a, b, c, r, rfl, h1, h2, h3, h4, h5, h6, h'⟩ | ⟨a, b, c, d, r, rfl, h1, h2, h3, h4, h5, h6, h7, h'⟩
  · rw [h'] at h0; exact h0 rfl
  · rw [h'] at hx h32
    simp at hx
    subst hx
    simp at h32
  · rw [h'] at hx
    rw [tlB_iff] at h3
    simp at hx
    rcases hx with hx | hx <;> subst hx <;> simp at *
  · rw [h'] at hx
    rw [tlB_iff] at h3 h4
    simp at hx
    rcases hx with hx | hx | hx <;> subst hx <;> simp at *
  · rw [h'] at hx
    rw [tlB_iff] at h3 h4 h5
    simp at hx
    rcases hx with hx | hx | hx | hx <;> subst hx <;> simp at *
theorem okC_zero : ∀ (m : Nat) (L : List UInt8), L.length = m → okC L = true → (0 : UInt8) ∉ L := by
  intro m
  induction m using Nat.strongRecOn with
  | _ m ih =>
    intro L hm h
    by_cases hL : L = []
    · subst hL; simp
    have hd := dec_le L hL
    have hp := dec_pos L
    rw [okC_cons L hL, Bool.and_eq_true] at h
    have h2 := ih (L.drop (dec L).2).length (by simp only [List.length_drop]; omega) _ rfl h.2
    intro hmem
    rw [← List.take_append_drop (dec L).2 L, List.mem_append] at hmem
    rcases hmem with hm | hm
    · exact okH_zero L h.1 _ hm rfl
    · exact h2 hm
theorem rightP_okS {L : List UInt8} (h : rightP L = true) : okS L = true := by
  simp only [rightP, Bool.and_eq_true, decide_eq_true_eq] at h
  exact decide_eq_true ⟨h.1, h.2.1, okC_zero _ L rfl h.2.2.2.2⟩
theorem okE_right {n : Int} (hn : okN n = true) {L : List UInt8} (h : rightP L = true) : okE n L = true := by unfold okE; rw [hn, rightP_okS h, h]; rfl
theorem ekz_inj {n : Int} (hn : okN n = true) {a b : List UInt8} (ha : rightP a = true) (hb : rightP b = true) (h : a ≠ b) : ekz n a ≠ ekz n b := fun e => by
  have h1 := entry_inj hn (rightP_okS ha) hn (rightP_okS hb)
  have h2 : entryR n a = entryR n b := congrArg Kz.k e
  rw [h2] at h1
  simp at h1
  exact h h1
theorem mem_oneE (K A : Kz) : mem [oneSp K] (num A.k) = decide (A = K) := by
  have h1 : mem [oneSp K] (num A.k) = (oneSp K).inb (num A.k) := by simp [mem]
  have h2 : (oneSp K).inb (num A.k) = inS (oneSp K).F (oneSp K).T (oneSp K).e A.k := (in_num (oneSp K) A.k A.h).symm
  rw [h1, h2, show inS (oneSp K).F (oneSp K).T (oneSp K).e A.k = inS K.k (oneT K.k) (oneE K.k) A.k from rfl, one_in K.k A.k K.h A.h, Bool.eq_iff_iff, beq_iff_eq, decide_eq_true_eq]
  exact ⟨fun e => by cases K; cases A; cases e; rfl, fun e => by rw [e]⟩
theorem less_headE {i d : Nat} (hi : i < 4294967296) (hd : d < 4294967296) (kb c : UInt8) (r : List UInt8) (hr : r.length = 19) : Op.bytesLess (be i 4 ++ kb :: r) (headK d c) = (decide (i < d) || (decide (i = d) && decide (kb < c))) := by
  rw [headK, less_be hi hd, Op.bytesLess, less_zs 19 r hr]
  simp
theorem in_dirs {n d : Int} (hn : okN n = true) (hd : okN d = true) {s : List UInt8} (hs : okS s = true) : inS (entriesF d) (entriesT d) false (entryR n s) = decide (n = d) := by
  obtain ⟨i0, i1, i2⟩ := okN_lt hn
  obtain ⟨d0, d1, d2⟩ := okN_lt hd
  have hl := (okS_out hs).2.1
  have he : entryR n s = be n.toNat 4 ++ 2 :: (s ++ zs (18 - s.length) ++ [UInt8.ofNat s.length]) := by unfold entryR; rw [hn, hs]; rfl
  have hr : (s ++ zs (18 - s.length) ++ [UInt8.ofNat s.length]).length = 19 := by simp [zs_length]; omega
  rw [entriesF, entriesT, if_pos hd, if_pos hd, inS, he, less_headE i1 d1 _ _ _ hr, less_headE i1 d1 _ _ _ hr]
  rcases Int.lt_trichotomy n d with hlt | heq | hgt
  · have h1 : n.toNat < d.toNat := by omega
    have h2 : ¬ n = d := by omega
    simp [h1, h2]
  · subst heq
    simp
  · have h1 : ¬ n.toNat < d.toNat := by omega
    have h2 : ¬ n.toNat = d.toNat := by omega
    have h3 : ¬ n = d := by omega
    simp [h1, h2, h3]
theorem mem_dir {n : Int} (hn : okN n = true) {s : List UInt8} (hs : rightP s = true) : mem [entriesS n] (num (ekz n s).k) = true := by
  have h1 : mem [entriesS n] (num (ekz n s).k) = (entriesS n).inb (num (ekz n s).k) := by simp [mem]
  have h2 : (entriesS n).inb (num (ekz n s).k) = inS (entriesF n) (entriesT n) false (entryR n s) := (in_num (entriesS n) (ekz n s).k (ekz n s).h).symm
  rw [h1, h2, in_dirs hn hn (rightP_okS hs)]
  exact decide_eq_true rfl

/-! Views over nothing, beside one another. -/
structure NV where
  lim : Nat
  p : Nat
  pv : Value
  base : Nat
  q : Nat
  x : VR
  V : VS
def NV.at_ (d : NV) (w0 y : World) : Prop := VAt w0 d.lim (NI d.lim d.p d.pv d.base) 9 (nI d.p) d.q d.x d.V y
def NV.foot (d : NV) (i : Nat) : Prop := d.x.own d.q i ∨ i = d.p ∨ d.pv.ownBlock = some i
def NV.off (d e : NV) : Prop := ∀ i, d.x.own d.q i → ¬ e.foot i
theorem NV.lt {d : NV} {w0 y : World} (h : d.at_ w0 y) {i : Nat} (hi : d.foot i) : i < y.heap.size := by
  have hb : PlC d.lim y d.p d.pv [] d.base := h.base
  rcases hi with hi | rfl | hi
  · exact h.vw.lt hi
  · exact Nat.lt_of_lt_of_le hb.lo hb.le
  · exact Nat.lt_of_lt_of_le (hb.lov i hi) hb.le
/-- A step on one view leaves another one. -/
theorem NV.aside {d e : NV} {w0 y y' : World} {x' : VR} {V' : VS} {k nb : Nat} (hd : d.at_ w0 y) (he : e.at_ w0 y) (h1 : d.off e) (h2 : e.off d) (t : VRan noB w0 d.lim (NI d.lim d.p d.pv d.base) k (nI d.p) d.q d.x nb V' y x' y') :
    NV.at_ { d with x := x', V := V' } w0 y' ∧ e.at_ w0 y' ∧ NV.off { d with x := x', V := V' } e ∧ e.off { d with x := x', V := V' } := by
  have hb : PlC e.lim y e.p e.pv [] e.base := he.base
  refine ⟨t.at_.re 9, VAt.aside he t.fr (fun i hi => hi.elim (fun q => ⟨Nat.le_trans hd.le (hd.own i q), fun r => h1 i q (.inl r)⟩) (fun q => q.elim)) (hb.kept t.fr.size fun i hi => t.fr.block i (NV.lt he (.inr hi)) (fun q => q.elim (fun q => h1 i q (.inr hi)) (fun q => q))), fun i hi r => ?_, fun i hi r => ?_⟩
  · rcases t.own i hi with q | q
    · exact h1 i q r
    · have := NV.lt he r
      omega
  · rcases r with r | r
    · rcases t.own i r with q | q
      · exact h2 i hi (.inl q)
      · have := NV.lt he (.inl hi)
        omega
    · exact h2 i hi (.inr r)
theorem NV.called {d : NV} {w0 y y' : World} (h : d.at_ w0 y) (b : Below y.heap.size y y') : d.at_ w0 y' := VAt.called (ni_base _ _ _ _) h b
/-- Three of them. -/
structure Tri3 (w0 y : World) (a b c : NV) : Prop where
  at1 : a.at_ w0 y
  at2 : b.at_ w0 y
  at3 : c.at_ w0 y
  ab : a.off b
  ba : b.off a
  ac : a.off c
  ca : c.off a
  bc : b.off c
  cb : c.off b
theorem Tri3.rot {w0 y : World} {a b c : NV} (h : Tri3 w0 y a b c) : Tri3 w0 y b c a := ⟨h.at2, h.at3, h.at1, h.bc, h.cb, h.ba, h.ab, h.ca, h.ac⟩
theorem Tri3.fst {w0 y y' : World} {a b c : NV} {x' : VR} {V' : VS} {k nb : Nat} (h : Tri3 w0 y a b c) (t : VRan noB w0 a.lim (NI a.lim a.p a.pv a.base) k (nI a.p) a.q a.x nb V' y x' y') : Tri3 w0 y' { a with x := x', V := V' } b c := by
  obtain ⟨p1, p2, p3, p4⟩ := NV.aside h.at1 h.at2 h.ab h.ba t
  obtain ⟨q1, q2, q3, q4⟩ := NV.aside h.at1 h.at3 h.ac h.ca t
  exact ⟨p1, p2, q2, p3, p4, q3, q4, h.bc, h.cb⟩
theorem Tri3.called {w0 y y' : World} {a b c : NV} (h : Tri3 w0 y a b c) (b1 : Below y.heap.size y y') : Tri3 w0 y' a b c := ⟨NV.called h.at1 b1, NV.called h.at2 b1, NV.called h.at3 b1, h.ab, h.ba, h.ac, h.ca, h.bc, h.cb⟩
theorem NV.apart {d e : NV} {B : Nat} (hd : ∀ i, d.foot i → i < B) (he : ∀ i, e.foot i → B ≤ i) : d.off e ∧ e.off d :=
  ⟨fun i hi r => by have := hd i (.inl hi); have := he i r; omega, fun i hi r => by have := he i (.inl hi); have := hd i r; omega⟩
theorem nvNew_calls (w0 y : World) (hb : Below w0.heap.size w0 y) :
    Calls Tryz.prog 5 #[.nilIface] y fun e y' => ∃ d : NV, e = .returned (.pointer (some ⟨d.q, 0, none⟩)) ∧ d.at_ w0 y' ∧ d.V = vs0 ∧ d.x.n = 0 ∧ (∀ i, d.foot i → y.heap.size ≤ i) ∧ Below y.heap.size y y' :=
  (vnewNil_calls w0 y hb).mono fun e y' h => by
    obtain ⟨lim, p, pv, base, q, x, h1, h2, h3, h4, h5, h6, -, h8⟩ := h
    refine ⟨⟨lim, p, pv, base, q, x, vs0⟩, h1, h2, rfl, h3, fun i hi => ?_, h8⟩
    rcases hi with hi | rfl | hi
    · exact h4 i hi
    · exact h5
    · exact h6 i hi
end Go.Proofs.YtdmindhjmjnagabGreatDoor
