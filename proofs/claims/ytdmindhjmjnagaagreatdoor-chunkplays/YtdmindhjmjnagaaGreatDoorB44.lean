import Derived.Test.YtdmindhjmjnagaaGreatDoorSi
import Derived.Test.YtdmindhjmjnagaaGreatDoorB31
import Derived.Test.YtdmindhjmjnagaaGreatDoorB43
import Derived.Test.YtdmindhjmjnagaaGreatDoorB41
import Derived.Test.YtdmindhjmjnagaaGreatDoorB23
import Derived.Test.YtdmindhjmjnagaaGreatDoorSi
import Derived.Test.YtdmindhjmjnagaaGreatDoorB01
/- CpB CpC Mk13 Pc13 CpD -/
namespace Go.Proofs.YtdmindhjmjnagaaGreatDoor
set_option linter.unusedVariables false
set_option maxRecDepth 1000000
set_option maxHeartbeats 32000000
section
open Go.RowKit
theorem bnum_append (a b : List UInt8) : num (a ++ b) = num a * 256 ^ b.length + num b := by
 rw [num, List.foldl_append, foldl_split]
 rfl
theorem bnum_zs (n : Nat) : num (zs n) = 0 := by
 induction n with
 | zero => rfl
 | succ n ih =>
  have : zs (n + 1) = 0 :: zs n := rfl
  rw [this, num_cons, ih]
  simp
theorem bnum_chunk (n p : Nat) (hn : n < 4294967296) (hp : p < 4294967296) : num (chunkK n p) = (256 * n + 3) * 256 ^ 19 + p := by
 have h4 : n < 256 ^ 4 := by rw [p4]; exact hn
 have h5 : p < 256 ^ 4 := by rw [p4]; exact hp
 have hl : (zs 15 ++ be p 4).length = 19 := by simp [zs_length, be_length]
 rw [chunkK, bnum_append, num_be 4 n h4, num_cons, bnum_append, bnum_zs, num_be 4 p h5, List.length_cons, hl, Nat.pow_succ]
 generalize 256 ^ 19 = P
 have e : (3 : UInt8).toNat = 3 := rfl
 rw [e, Nat.add_mul, Nat.zero_mul, Nat.zero_add, ← Nat.mul_assoc, Nat.mul_comm 256 n, Nat.mul_assoc n 256 P, Nat.mul_assoc n P 256, Nat.mul_comm P 256, Nat.add_assoc]
theorem one_chunk {a : Int} (ha : okN a = true) {l : Nat} (hl : l < 4294967295) : oneT (chunkR a (l : Int)) = chunkR a ((l : Int) + 1) := by
 have hp := okP_nat (n := l) (by omega)
 have hp2 : okP ((l : Int) + 1) = true := by have := okP_nat (n := l + 1) (by omega); rwa [show ((l + 1 : Nat) : Int) = (l : Int) + 1 by omega] at this
 have hK := chunkR_length a (l : Int)
 have hL := chunkR_length a ((l : Int) + 1)
 have hT := oneT_length _ hK
 have hm : Op.bytesLess (chunkR a (l : Int)) (chunkR a ((l : Int) + 1)) = true := by rw [chunk_less ha ha hp hp2]; simp; omega
 have h1 := one_less hK hL hm hL
 have h2 := one_less hK hL hm hK
 rw [hm, less_num _ _ (by rw [hL, hT])] at h1
 rw [less_num _ _ (by rw [hK, hT]), less_num _ _ rfl] at h2
 have e1 : num (chunkR a (l : Int)) = (256 * a.toNat + 3) * 256 ^ 19 + l := by
  have : chunkR a (l : Int) = chunkK a.toNat l := by unfold chunkR; rw [ha, hp]; rfl
  rw [this, bnum_chunk _ _ (okN_lt ha).2.1 (by omega)]
 have e2 : num (chunkR a ((l : Int) + 1)) = (256 * a.toNat + 3) * 256 ^ 19 + (l + 1) := by
  have : chunkR a ((l : Int) + 1) = chunkK a.toNat (l + 1) := by unfold chunkR; rw [ha, hp2]; rfl
  rw [this, bnum_chunk _ _ (okN_lt ha).2.1 (by omega)]
 refine num_inj _ _ (by rw [hT, hL]) ?_
 simp at h1 h2
 rw [e1] at h2
 rw [e2] at h1 ⊢
 omega
theorem betS_doc {a : Int} (ha : okN a = true) (f : Int) {l : Nat} (hl : l < 4294967295) : spv (betS a f (l : Int)) = sv (chunkR a f) (chunkR a ((l : Int) + 1)) false := by
 show sv (chunkR a f) (oneT (chunkR a (l : Int))) false = _
 rw [one_chunk ha hl]
theorem rmay_calls (ino off n : Int) (hn : n ≤ 9223372036854775807) (ho : off ≤ 9223372036854775807) (w : World) : Calls Tryz.prog 33 #[.int .i64 ino, .int .i64 off, .int .i64 n] w fun e w' => e = .returned (.bool (okNum ino && okW off n)) ∧ w' = w := by
 go_enter Tryz.func33, Tryz.ntmps33
 unfold okW okNum
 by_cases g1 : 1 ≤ ino
 · by_cases g2 : ino < 1073741824
   · by_cases h1 : 0 ≤ off
     · by_cases h2 : 0 ≤ n
       · by_cases h5 : off ≤ 1048576
         · have hw : IntKind.i64.wrap (1048576 - off) = 1048576 - off := by rw [IntKind.wrap_i64]; omega
           by_cases h3 : n ≤ 1048576 - off
           · go_wp2
             go_ret
             simp [g1, g2, h1, h2, h3, h5] <;> intros <;> omega
           · go_wp2
             go_ret
             simp [h3] <;> intros <;> omega
         · go_wp2
           go_ret
           simp <;> intros <;> omega
       · go_wp2
         go_ret
         simp <;> intros <;> omega
     · go_wp2
       go_ret
       simp <;> intros <;> omega
   · go_wp2
     go_ret
     simp <;> intros <;> omega
 · go_wp2
   go_ret
   simp <;> intros <;> omega
theorem rspan13_calls (ino f l : Int) (hl : l ≤ 1000000000) (hl0 : 0 ≤ l) (w : World) :
    Calls Tryz.prog 46 #[.int .i64 ino, .int .i64 f, .int .i64 l] w fun e w' => e = .returned (sv (chunkR ino f) (chunkR ino (l + 1)) false) ∧ Below w.heap.size w w' := by
 have h1 := fun y => rchunk_calls ino f y
 have h2 := fun y => rchunk_calls ino (l + 1) y
 have k1 := chunkR_length ino f
 have k2 := chunkR_length ino (l + 1)
 have HZ : Hid (HasS (w.alloc (.cells (sc (zs 24) (zs 24) false).toArray 56)) w.heap.size (zs 24) (zs 24) false ∧ Below w.heap.size w (w.alloc (.cells (sc (zs 24) (zs 24) false).toArray 56))) := ⟨HasS.new w _ _ _ rfl rfl, (Below.refl _ w).alloc (Nat.le_refl _) _⟩
 generalize chunkR ino f = K1 at *
 generalize chunkR ino (l + 1) = K2 at *
 go_enter Tryz.func46, Tryz.ntmps46
 go_upto_region 1 with fail
 change Code.wp _ _ _ _ (w.alloc (.cells (sc (zs 24) (zs 24) false).toArray 56))
 generalize hW0 : w.alloc (.cells (sc (zs 24) (zs 24) false).toArray 56) = w0 at *
 clear hW0
 go_upto_region 2 with (first
  | (go_at_call 34; refine (h1 _).mono ?_; clear h1; rintro e w1 ⟨rfl, b1⟩)
  | (refine store_key rfl _ _ rfl _ rfl _ rfl k1 (zs 24) (zero_has w1 w1.heap.size rfl) ?_; intro w2 q2 t2 s2))
 have B2 : Below w0.heap.size w0 w2 := b1.trans (((Below.refl _ w1).alloc (Nat.le_refl _) _).trans (t2.below (by simp) (Nat.le_refl _) (by simp)) |>.mono b1.size)
 have HB2 : Hid (Below w0.heap.size w0 w2 ∧ Has w2 w1.heap.size K1) := ⟨B2, q2⟩
 clear B2 q2 t2 s2 b1
 generalize w1.heap.size = b1 at *
 go_upto_region 3 with (first
  | (go_at_call 34; refine (h2 _).mono ?_; clear h2; rintro e w3 ⟨rfl, b3⟩)
  | (refine store_key rfl _ _ rfl _ rfl _ rfl k2 (zs 24) (zero_has w3 w3.heap.size rfl) ?_; intro w4 q4 t4 s4))
 have B4 : Below w2.heap.size w2 w4 := b3.trans (((Below.refl _ w3).alloc (Nat.le_refl _) _).trans (t4.below (by simp) (Nat.le_refl _) (by simp)) |>.mono b3.size)
 have HB4 : Hid (Below w0.heap.size w0 w4 ∧ Has w4 b1 K1 ∧ Has w4 w3.heap.size K2) := ⟨HB2.out.1.trans (B4.mono HB2.out.1.size), HB2.out.2.below B4 HB2.out.2.lt, q4⟩
 have HS4 : Hid (HasS w4 w.heap.size (zs 24) (zs 24) false ∧ Below w.heap.size w w4) := ⟨HZ.out.1.below HB4.out.1 (lt_of_block HZ.out.1.blk), HZ.out.2.trans (HB4.out.1.mono HZ.out.2.size)⟩
 clear B4 q4 t4 s4 b3 HB2
 generalize w3.heap.size = b3 at *
 go_wp2_with (first
  | (refine load_key _ rfl b1 rfl rfl K1 HB4.out.2.1 ?_)
  | (refine load_key _ rfl b3 rfl rfl K2 HB4.out.2.2 ?_)
  | (refine build_any rfl _ rfl [(0, kv K1), (1, kv K2)] (by simp only [List.map_toArray, List.map_cons, List.map_nil]; rfl) _ (built2 K1 K2 k1 k2) ?_)
  | (refine store_span rfl _ _ rfl _ rfl _ _ _ rfl k1 k2 (zs 24) (zs 24) false HS4.out.1 ?_; intro w5 q5 t5 s5))
 refine ret_span rfl _ _ _ _ rfl q5 rfl ⟨rfl, ?_⟩
 exact HS4.out.2.trans ⟨t5.os, t5.tape, t5.output, Nat.le_of_eq s5.symm, fun k hk => t5.block k (Nat.lt_of_lt_of_le hk HS4.out.2.size) (Nat.ne_of_lt hk) (by simp)⟩
end
section
open Go.RowKit
abbrev nilW : Value := .slice none 0 0
theorem rput13_del (w : World) (p : Nat) (ino pl : Int) (L T K : List UInt8) (hK : K.length = 24) (hCh : ∀ y, Calls Tryz.prog 34 #[.int .i64 ino, .int .i64 pl] y fun e w' => e = .returned (.tuple #[kv K, .bool true]) ∧ Below y.heap.size y w')
    (hT : ∀ y, Calls Tryz.prog 43 #[.string (str L)] y fun e w' => e = .returned (.string (str T)) ∧ w' = y) (hq : (T == []) = true) (A : World → Prop)
    (hD0 : ∀ y, Below w.heap.size w y → Calls Tryz.prog 79 #[.pointer (some ⟨p, 0, none⟩), kv K] y fun e z => (∃ x, e = .returned x) ∧ A z) :
    Calls Tryz.prog 37 #[.pointer (some ⟨p, 0, none⟩), .int .i64 ino, .int .i64 pl, .string (str L)] w fun e w' => (∃ x, e = .returned x) ∧ A w' := by
 have HD : Hid (∀ y, Below w.heap.size w y → Calls Tryz.prog 79 #[.pointer (some ⟨p, 0, none⟩), kv K] y fun e z => (∃ x, e = .returned x) ∧ A z) := hD0
 clear hD0
 go_enter Tryz.func37, Tryz.ntmps37
 go_upto_region 1 with (first
  | (go_at_call 34; refine (hCh _).mono ?_; clear hCh; rintro e w1 ⟨rfl, b1⟩)
  | (refine store_key rfl _ _ rfl _ rfl _ rfl hK (zs 24) (zero_has w1 w1.heap.size rfl) ?_; intro w2 q2 t2 s2))
 have B2 : Below w.heap.size w w2 := b1.trans (((Below.refl _ w1).alloc (Nat.le_refl _) _).trans (t2.below (by simp) (Nat.le_refl _) (by simp)) |>.mono b1.size)
 have HW : Hid (Below w.heap.size w w2 ∧ Has w2 w1.heap.size K) := ⟨B2, q2⟩
 clear B2 q2 t2 s2 b1
 generalize w1.heap.size = b1 at *
 have hT2 := hT w2
 clear hT
 go_upto_region 2 with (go_at_call 43; refine hT2.mono ?_; clear hT2; rintro e w3 ⟨rfl, rfl⟩)
 have hD := HD.out w3 HW.out.1
 have hqs : ((str T).toList == []) = true := by rw [str_toList]; exact hq
 go_wp2_with (first
  | (refine load_key _ rfl b1 rfl rfl K HW.out.2 ?_)
  | (go_at_call 79; refine hD.mono ?_; clear hD; rintro e w4 ⟨⟨x, rfl⟩, r4⟩))
 go_end0
 exact ⟨⟨_, rfl⟩, r4⟩
theorem rput13_put (w : World) (p : Nat) (ino pl : Int) (L T K : List UInt8) (hK : K.length = 24) (hCh : ∀ y, Calls Tryz.prog 34 #[.int .i64 ino, .int .i64 pl] y fun e w' => e = .returned (.tuple #[kv K, .bool true]) ∧ Below y.heap.size y w')
    (hT : ∀ y, Calls Tryz.prog 43 #[.string (str L)] y fun e w' => e = .returned (.string (str T)) ∧ w' = y) (hq : (T == []) = false) (A : World → Prop)
    (hD0 : ∀ y, Below w.heap.size w y → Calls Tryz.prog 80 #[.pointer (some ⟨p, 0, none⟩), kv K, .string (str T)] y fun e z => (∃ x : Value, e = .returned x) ∧ A z) :
    Calls Tryz.prog 37 #[.pointer (some ⟨p, 0, none⟩), .int .i64 ino, .int .i64 pl, .string (str L)] w fun e w' => (∃ x, e = .returned x) ∧ A w' := by
 have HD : Hid (∀ y, Below w.heap.size w y → Calls Tryz.prog 80 #[.pointer (some ⟨p, 0, none⟩), kv K, .string (str T)] y fun e z => (∃ x : Value, e = .returned x) ∧ A z) := hD0
 clear hD0
 go_enter Tryz.func37, Tryz.ntmps37
 go_upto_region 1 with (first
  | (go_at_call 34; refine (hCh _).mono ?_; clear hCh; rintro e w1 ⟨rfl, b1⟩)
  | (refine store_key rfl _ _ rfl _ rfl _ rfl hK (zs 24) (zero_has w1 w1.heap.size rfl) ?_; intro w2 q2 t2 s2))
 have B2 : Below w.heap.size w w2 := b1.trans (((Below.refl _ w1).alloc (Nat.le_refl _) _).trans (t2.below (by simp) (Nat.le_refl _) (by simp)) |>.mono b1.size)
 have HW : Hid (Below w.heap.size w w2 ∧ Has w2 w1.heap.size K) := ⟨B2, q2⟩
 clear B2 q2 t2 s2 b1
 generalize w1.heap.size = b1 at *
 have hT2 := hT w2
 clear hT
 go_upto_region 2 with (go_at_call 43; refine hT2.mono ?_; clear hT2; rintro e w3 ⟨rfl, rfl⟩)
 have hD := HD.out w3 HW.out.1
 have hqs : ((str T).toList == []) = false := by rw [str_toList]; exact hq
 go_wp2_with (first
  | (refine load_key _ rfl b1 rfl rfl K HW.out.2 ?_)
  | (go_at_call 80; refine hD.mono ?_; clear hD; rintro e w4 ⟨⟨x, rfl⟩, r4⟩))
 go_end0
 exact ⟨⟨_, rfl⟩, r4⟩
theorem rput13_calls (w : World) (p : Nat) (bv cv rv : Value) (C : List Ch) (R : List Sp) (h : RvIn w p bv cv rv nilW [] C R []) (hC : C.length ≤ 1000) (ino pl : Int) (hi : okN ino = true) (hpl : okP pl = true) (L : List UInt8) (hL : L.length ≤ 1000000) :
    Calls Tryz.prog 37 #[.pointer (some ⟨p, 0, none⟩), .int .i64 ino, .int .i64 pl, .string (str L)] w fun e w' => (∃ x, e = .returned x) ∧ FrV (fun i => i = p) w w' ∧ ∃ cv' d, RvIn w' p bv cv' rv nilW [] d R [] ∧ NewV w.heap.size cv' ∧ JoinIs (C ++ [chgP ⟨chunkR ino pl, chunkR_length ino pl, trimmed L⟩]) d := by
 have hCh := fun y => rchunk_calls ino pl y
 rw [hi, hpl] at hCh
 have hT := fun y => rtrim_calls y L (by omega)
 have hlen := trimmed_length L
 have hK := chunkR_length ino pl
 have HF : ∀ y z : World, Below w.heap.size w y → FrV (fun i => i = p) y z → FrV (fun i => i = p) w z := fun y z b f => (FrV.of_below b).trans f (fun i e => .inl e)
 have HN : ∀ (y : World) (v : Value), Below w.heap.size w y → NewV y.heap.size v → NewV w.heap.size v := fun y v b nv g hg => Nat.le_trans b.size (nv g hg)
 cases hq : (trimmed L == ([] : List UInt8)) with
 | true =>
  have h0 : trimmed L = [] := by simpa using hq
  refine rput13_del w p ino pl L _ _ hK hCh hT hq _ fun y b => ?_
  refine (rvdelete_calls y p bv cv rv nilW [] C R [] (h.called b) (fun g off n cap e => by cases e) hC ⟨chunkR ino pl, hK⟩).mono fun e z t => ?_
  obtain ⟨e1, F, cv', d, t1, t2, t3, -⟩ := t
  refine ⟨e1, HF y z b F, cv', d, t1, HN y cv' b t2, ?_⟩
  unfold chgP
  rw [if_pos h0]
  exact t3
 | false =>
  have h0 : trimmed L ≠ [] := by simpa using hq
  have hv : okV (trimmed L) = true := (okV_short hlen).resolve_left h0
  refine rput13_put w p ino pl L _ _ hK hCh hT hq _ fun y b => ?_
  refine (rvput_calls y p bv cv rv nilW [] C R [] (h.called b) (fun g off n cap e => by cases e) hC ⟨chunkR ino pl, hK, trimmed L, false⟩ rfl hv).mono fun e z t => ?_
  obtain ⟨e1, F, cv', d, t1, t2, t3, -⟩ := t
  refine ⟨⟨_, e1⟩, HF y z b F, cv', d, t1, HN y cv' b t2, ?_⟩
  unfold chgP
  rw [if_neg h0]
  exact t3
def DcTo (w : World) (rp : Nat) (bv cv rv : Value) (V : VS) (j : Nat) (y : World) : Prop :=
 ∃ (cv' rv' : Value) (C : List Ch) (R : List Sp), RvIn y rp bv cv' rv' nilW [] C R [] ∧ (cv' = cv ∨ NewV w.heap.size cv') ∧ (rv' = rv ∨ NewV w.heap.size rv') ∧ PlOk [] V C R [] [] j ∧ FrV (fun i => i = rp) w y
section
variable {w y z : World} {rp : Nat} {bv cv rv : Value} {V : VS} {j : Nat}
theorem DcTo.called (h : DcTo w rp bv cv rv V j y) (b : Below y.heap.size y z) : DcTo w rp bv cv rv V j z := by
 obtain ⟨cv', rv', C, R, h1, h2, h3, h4, h5⟩ := h
 exact ⟨cv', rv', C, R, h1.called b, h2, h3, h4, h5.trans (FrV.of_below (S := fun _ => False) b) (fun i e => e.elim)⟩
theorem DcTo.size (h : DcTo w rp bv cv rv V j y) : w.heap.size ≤ y.heap.size := by
 obtain ⟨cv', rv', C, R, h1, h2, h3, h4, h5⟩ := h
 exact h5.size
theorem newV_up {a b : Nat} (hab : a ≤ b) {v : Value} (h : NewV b v) : NewV a v := fun g hg => Nat.le_trans hab (h g hg)
theorem DcTo.put (h : DcTo w rp bv cv rv V j y) (hC : V.C.length ≤ 900) (ino pl : Int) (hi : okN ino = true) (hpl : okP pl = true) (L : List UInt8) (hL : L.length ≤ 1000000) :
    Calls Tryz.prog 37 #[.pointer (some ⟨rp, 0, none⟩), .int .i64 ino, .int .i64 pl, .string (str L)] y fun e y' => (∃ x, e = .returned x) ∧ DcTo w rp bv cv rv (V.change (chgP ⟨chunkR ino pl, chunkR_length ino pl, trimmed L⟩)) (j + 1) y' := by
 obtain ⟨cv', rv', C, R, h1, h2, h3, h4, h5⟩ := h
 refine (rput13_calls y rp bv cv' rv' C R h1 (by rw [h4.c, List.length_map]; omega) ino pl hi hpl L hL).mono fun e y' t => ⟨t.1, ?_⟩
 obtain ⟨-, F, cv2, d, t1, t2, t3⟩ := t
 exact ⟨cv2, rv', d, R, t1, .inr (newV_up h5.size t2), h3, h4.change _ (fun hg => by rw [chgP_v]; exact (chgP_g _).1 hg) t3, h5.trans F (fun i e => .inl e)⟩
theorem DcTo.get (h : DcTo w rp bv cv rv V j y) (hC : V.C.length ≤ 900) (hR : V.R.length ≤ 300) (K : Kz) :
    Calls Tryz.prog 35 #[.pointer (some ⟨rp, 0, none⟩), kv K.k] y fun e y' => ∃ b, e = .returned (.tuple #[.string (str (getV V.C (plGe []) K).1), .bool b]) ∧ DcTo w rp bv cv rv (getW V K) (j + 1) y' := by
 obtain ⟨cv', rv', C, R, h1, h2, h3, h4, h5⟩ := h
 refine (rvget_calls y rp bv cv' rv' nilW [] C R [] h1 (fun g off n cap e => by cases e) (Nat.le_trans (Is.len h4.rd) hR) (Nat.zero_le _) (by rw [h4.c, List.length_map]; omega) K).mono fun e y' t => ?_
 obtain ⟨mm, i3, e2, F, rv2, R2, hd, hT, hF⟩ := t
 have hgd := get_doc h4.asc h4.mi.asc h4.g (by rw [← h4.c]; exact i3) K
 have hg9 : gotV9 mm K = (getV V.C (plGe []) K).1 := by
  rw [hgd, gotV9]
  cases look Pa.n mm K.n <;> rfl
 rw [hg9] at e2
 refine ⟨_, e2, ?_⟩
 have hlk : (look Ch.n C K.n).isSome = (look Ch.n V.C K.n).isSome := by rw [h4.c, plains_look]; cases look Ch.n V.C K.n <;> rfl
 have F2 := h5.trans F (fun i e => .inl e)
 cases hq : (look Ch.n V.C K.n).isSome with
 | true =>
  obtain ⟨q1, q2⟩ := hT (by rw [hlk]; exact hq)
  subst q1
  subst q2
  have hV : getW V K = V := by unfold getW; rw [if_pos hq]
  rw [hV]
  exact ⟨cv', _, C, _, hd, h2, h3, h4.up, F2⟩
 | false =>
  obtain ⟨n3, r3⟩ := hF (by rw [hlk]; exact hq)
  have hV : getW V K = { V with R := V.R ++ [oneSp K] } := by unfold getW; rw [if_neg (by rw [hq]; decide)]
  rw [hV]
  exact ⟨cv', rv2, C, R2, hd, h2, .inr (newV_up h5.size n3), h4.read (oneSp K) r3, F2⟩
theorem DcTo.scan (h : DcTo w rp bv cv rv V j y) (hC : V.C.length ≤ 900) (hR : V.R.length ≤ 300) (s : Sp) :
    Calls Tryz.prog 40 #[.pointer (some ⟨rp, 0, none⟩), spv s] y fun e y' => ∃ v, e = .returned v ∧ Own encP 62 y' y.heap.size v (lives V.C s) ∧ DcTo w rp bv cv rv { V with R := V.R ++ [s] } (j + 1) y' := by
 obtain ⟨cv', rv', C, R, h1, h2, h3, h4, h5⟩ := h
 refine (rvscan_calls y rp bv cv' rv' nilW [] C R [] h1 (fun g off n cap e => by cases e) (Nat.le_trans (Is.len h4.rd) hR) (Nat.zero_le _) (by rw [h4.c, List.length_map]; omega) s).mono fun e y' t => ?_
 obtain ⟨v, mm, e2, o, i3, -, F, rv2, R2, hd, n3, r3⟩ := t
 have hs := scan_doc h4.asc h4.mi.asc (by rw [← h4.c]; exact i3) s
 have hs2 := scan_lives h4.mi.asc s
 have hsl : scanL s mm = lives V.C s := by
  have e1 : scanV V.C (fun s => (scanL s [], 0)) s = scanV V.C nSn s := rfl
  rw [e1, hs2] at hs
  exact (congrArg Prod.fst hs).symm
 rw [hsl] at o
 exact ⟨v, e2, o, cv', rv2, C, R2, hd, h2, .inr (newV_up h5.size n3), h4.read s r3, h5.trans F (fun i e => .inl e)⟩
end
end
section
end
section
open Go.RowKit
theorem str_cut300 (v : List UInt8) : (str v).extract 0 (min ((str v).size : Int) 300).toNat = str (v.take 300) := by
 have h : (min ((str v).size : Int) 300).toNat = min v.length 300 := by rw [str_size]; omega
 rw [h]
 apply ByteArray.ext
 apply Array.ext'
 rw [ByteArray.data_extract]
 simp only [Array.toList_extract, str_list, List.extract_eq_take_drop, List.drop_zero, Nat.sub_zero]
 by_cases q : v.length ≤ 300
 · rw [Nat.min_eq_left q, List.take_length, List.take_of_length_le q]
 · rw [Nat.min_eq_right (by omega)]
structure Kp (P : Prop) : Prop where
 out : P
theorem str_take (v : List UInt8) (k : Nat) : (str v).extract 0 k = str (v.take k) := by
 apply ByteArray.ext
 apply Array.ext'
 rw [ByteArray.data_extract]
 simp only [Array.toList_extract, str_list, List.extract_eq_take_drop, List.drop_zero, Nat.sub_zero]
theorem str_drop (v : List UInt8) (k : Nat) : (str v).extract k (str v).size = str (v.drop k) := by
 apply ByteArray.ext
 apply Array.ext'
 rw [ByteArray.data_extract]
 simp only [Array.toList_extract, str_list, List.extract_eq_take_drop, str_size]
 rw [List.take_of_length_le (by rw [List.length_drop]; omega)]
end
section
open Go.RowKit
theorem step_part {off k : Nat} {data FU : List UInt8} (hk : k < pN off data.length) : trimmed (FU.take (pFr off k) ++ (data.drop (pIx off k)).take (pTt off data.length k - pFr off k) ++ FU.drop (pTt off data.length k)) = newV data FU (pcM off data.length k) := by
 rw [pcM_at hk]
 have e : ((pcK off data.length k).tt - (pcK off data.length k).fr).toNat = pTt off data.length k - pFr off k := by
  show ((pTt off data.length k : Int) - (pFr off k : Int)).toNat = _
  omega
 unfold newV
 rw [e]
 rfl
theorem step_whole {off k : Nat} {data : List UInt8} (hk : k < pN off data.length) (hw : (pcM off data.length k).whole = true) : trimmed ((data.drop (pIx off k)).take 32) = newV data (fullP []) (pcM off data.length k) := by
 have hs := step_part (FU := fullP []) hk
 rw [pcM_at hk] at hw
 have h1 : (pTt off data.length k : Int) - (pFr off k : Int) = 32 := of_decide_eq_true hw
 have h2 : pTt off data.length k ≤ 32 := Nat.min_le_right _ _
 rw [show pFr off k = 0 by omega, show pTt off data.length k = 32 by omega, List.take_zero, List.nil_append, Nat.sub_zero, List.drop_of_length_le (l := fullP []) (by rw [fullP_length]; exact Nat.le_refl _), List.append_nil] at hs
 exact hs
theorem pa_eq {k k' : List UInt8} {h : k.length = 24} {h' : k'.length = 24} {v v' : List UInt8} (e1 : k = k') (e2 : v = v') : (⟨k, h, v⟩ : Pa) = ⟨k', h', v'⟩ := by
 subst e1 e2
 rfl
theorem getV_look {C C' : List Ch} {ge : Kz → List UInt8 × Bool × Int} {K : Kz} (h : look Ch.n C K.n = look Ch.n C' K.n) : getV C ge K = getV C' ge K := by
 unfold getV
 rw [h]
theorem stepV_len (V : VS) (ino : Int) (off : Nat) (data : List UInt8) (k : Nat) : (stepV V ino off data k).C.length ≤ V.C.length + k := by
 rw [stepV_C]
 have h1 := chAll_len V (putG (plGe []) ino off data V.C (List.range k))
 rw [putG_length, List.length_range] at h1
 exact h1
theorem getG_R3 (V : VS) (ino : Int) (off : Nat) (data : List UInt8) (k : Nat) (hk : k ≤ pN off data.length) : (getG V ino off data (List.range k)).R.length ≤ V.R.length + 2 := by
 have := getG_R2 V ino off data k hk
 split at this <;> (try split at this) <;> omega
theorem DcTo.up {w y : World} {rp : Nat} {bv cv rv : Value} {V : VS} {j : Nat} (h : DcTo w rp bv cv rv V j y) : DcTo w rp bv cv rv V (j + 1) y := by
 obtain ⟨cv', rv', C, R, h1, h2, h3, h4, h5⟩ := h
 exact ⟨cv', rv', C, R, h1, h2, h3, h4.up, h5⟩
theorem rwrite13_ok (w y : World) (rp : Nat) (bv cv rv : Value) (V : VS) (j : Nat) (h : DcTo w rp bv cv rv V j y) (hA : Asc Ch.n V.C) (hU : V.U = []) (hC : V.C.length ≤ 850) (hR : V.R.length ≤ 298) (ino : Int) (h1 : okNum ino = true) (hi : okN ino = true) (off : Nat) (data : List UInt8) (hs : data.length ≤ 300) (hod : off + data.length ≤ 1048576) :
    Calls Tryz.prog 13 #[.pointer (some ⟨rp, 0, none⟩), .int .i64 ino, .int .i64 (off : Int), .string (str data)] y fun e y' => e = .returned (.int .i64 0) ∧ DcTo w rp bv cv rv (writeV V (plGe []) ino off data) (j + 2 * pN off data.length) y' := by
 have hM := fun z => rmay_calls ino (off : Int) (data.length : Int) (by omega) (by omega) z
 rw [h1, okW_nat hod] at hM
 have HA : Hid (Asc Ch.n V.C ∧ V.U = [] ∧ V.C.length ≤ 850 ∧ V.R.length ≤ 298 ∧ okN ino = true ∧ data.length ≤ 300 ∧ off + data.length ≤ 1048576) := ⟨hA, hU, hC, hR, hi, hs, hod⟩
 have HST : Hid (DcTo w rp bv cv rv V j y) := h
 have hss : (str data).size = data.length := str_size data
 have HP11 : Hid (pN off data.length ≤ 11) := pN_300 hs
 obtain ⟨N, hN⟩ : ∃ N : Nat, N = pN off data.length := ⟨_, rfl⟩
 have HN : Hid (N = pN off data.length) := hN
 have HD0 : Hid (data = data.drop (pIx off 0)) := (show _ = _ by rw [pIx_zero]; rfl)
 clear h hA hU hC hR hi hs hod h1 hN
 go_enter Tryz.func13, Tryz.ntmps13
 go_wp2_with (go_at_call 33; refine (hM _).mono ?_; clear hM; rintro e y1 ⟨rfl, rfl⟩)
 go_loopg [2, 3] N (fun gg o d wr => ∃ k X : Nat, k + gg = N ∧ X = off + min (pIx off k) data.length ∧ o = .int .i64 (X : Int) ∧ d = .string (str (data.drop (pIx off k))) ∧ Hid (DcTo w rp bv cv rv (stepV V ino off data k) (j + 2 * k) wr))
 case atStart => exact ⟨0, off, by omega, by rw [pIx_zero]; simp, rfl, by rw [← HD0.out], HST.out⟩
 case round =>
  clear HST HD0
  (try clear hss)
  obtain ⟨k, X, hkg, hX, rfl, rfl, HE⟩ := hrel
  cases gk with
  | zero =>
   have hk : k = pN off data.length := by have := HN.out; omega
   have hd : data.drop (pIx off k) = [] := by
    refine List.drop_of_length_le ?_
    rw [hk]
    exact Nat.not_lt.1 (fun e => Nat.lt_irrefl _ (pIx_lt.1 e))
   have HF : Hid (DcTo w rp bv cv rv (writeV V (plGe []) ino off data) (j + 2 * pN off data.length) wr) := (show DcTo _ _ _ _ _ _ _ _ by
    rw [← stepV_all HA.out.1 HA.out.2.2.2.2.1 HA.out.2.2.2.2.2.2 HA.out.2.1, ← hk]
    exact HE.out)
   have hne : ((str ([] : List UInt8)).toList == ([] : List UInt8)) = true := by rw [str_toList]; rfl
   rw [hd]
   clear hd hk HE hX hkg
   go_wp2_with fail
   go_ret
   exact ⟨rfl, HF.out⟩
  | succ gg =>
   have hk : k < pN off data.length := by have := HN.out; omega
   have hix := pIx_lt.2 hk
   have hnx := pIx_next hk
   have hXX : X = off + pIx off k := by omega
   have hpl0 := pIx_place off k
   have hfr : pFr off k = (off + pIx off k) % 32 := rfl
   have htt : pTt off data.length k = min (pFr off k + (data.length - pIx off k)) 32 := rfl
   have hlt := (pcK_ok hk).2
   have HKN : Hid (k < pN off data.length) := hk
   obtain ⟨D, hD⟩ : ∃ D, D = data.drop (pIx off k) := ⟨_, rfl⟩
   have HDD : Hid (D = data.drop (pIx off k)) := hD
   have hDl : D.length = data.length - pIx off k := by rw [hD, List.length_drop]
   rw [← hD]
   obtain ⟨PL, hPL⟩ : ∃ PL : Nat, PL = off / 32 + k := ⟨_, rfl⟩
   obtain ⟨AT, hAT⟩ : ∃ AT : Nat, AT = pFr off k := ⟨_, rfl⟩
   obtain ⟨NK, hNK⟩ : ∃ NK : Nat, NK = pTt off data.length k - pFr off k := ⟨_, rfl⟩
   have q1 : (X : Int) / 32 = (PL : Int) := by omega
   have q2 : (X : Int) % 32 = (AT : Int) := by omega
   have hDs : ((str D).size : Int) = (D.length : Int) := by rw [str_size]
   have q3 : min ((str D).size : Int) (32 - (AT : Int)) = (NK : Int) := by omega
   have q4 : (NK : Int) ≤ ((str D).size : Int) := by omega
   have q6 : (AT : Int) ≤ 31 := by omega
   have q7 : (X : Int) ≤ 1048576 := by have := HA.out.2.2.2.2.2.2; omega
   have q8 : (NK : Int) + (AT : Int) ≤ 32 := by omega
   have HNX : Hid (X + NK = off + min (pIx off (k + 1)) data.length ∧ D.drop NK = data.drop (pIx off (k + 1))) := ⟨by omega, by
    rw [hD, List.drop_drop, show pIx off k + NK = min (pIx off (k + 1)) data.length by omega]
    by_cases c : pIx off (k + 1) ≤ data.length
    · rw [Nat.min_eq_left c]
    · rw [Nat.min_eq_right (by omega), List.drop_of_length_le (Nat.le_refl _), List.drop_of_length_le (by omega)]⟩
   have hne : ((str D).toList == ([] : List UInt8)) = false := by
    rw [str_toList, beq_eq_false_iff_ne]
    intro e
    rw [e] at hDl
    simp at hDl
    omega
   have HPL : Hid (okP (PL : Int) = true ∧ PL = off / 32 + k ∧ AT = pFr off k ∧ NK = pTt off data.length k - pFr off k ∧ D.length ≤ 300) := ⟨okP_nat (by have := HA.out.2.2.2.2.2.2; omega), hPL, hAT, hNK, by have := HA.out.2.2.2.2.2.1; omega⟩
   have HCL : Hid ((stepV V ino off data k).C.length ≤ 900) := (show _ ≤ _ by have := stepV_len V ino off data k; have := HA.out.2.2.1; have := HP11.out; omega)
   have HRL : Hid ((stepV V ino off data k).R.length ≤ 300) := (show _ ≤ _ by rw [stepV_R HA.out.1 HA.out.2.2.2.2.1 HA.out.2.2.2.2.2.2 (Nat.le_of_lt hk)]; have := getG_R3 V ino off data k (Nat.le_of_lt hk); have := HA.out.2.2.2.1; omega)
   have HPT : Hid (pTt off data.length k = AT + NK) := (show _ = _ by omega)
   have hDl2 : D.length = (str D).size := (str_size D).symm
   clear hDs hDl2
   have st1 := str_take D NK
   have st2 := str_drop D NK
   cases hw : (pcM off data.length k).whole with
   | true =>
    have hn32 : NK = 32 := by
     rw [pcM_at hk] at hw
     have h1 : (pTt off data.length k : Int) - (pFr off k : Int) = 32 := of_decide_eq_true hw
     omega
    have HW : Hid ((stepV V ino off data k).change (chgP ⟨chunkR ino (PL : Int), chunkR_length ino (PL : Int), trimmed (D.take NK)⟩) = stepV V ino off data (k + 1)) := (show _ = _ by
     show _ = (gotF ino (stepV V ino off data k) _).change (chgP (putP (plGe []) ino data V.C _))
     unfold gotF
     rw [if_pos hw]
     congr 2
     unfold putP wasP
     simp only [hw, if_true]
     rw [← step_whole hk hw, pcM_at hk, hn32, hD, hPL]
     rfl)
    have hPu := fun z (b : DcTo w rp bv cv rv (stepV V ino off data k) (j + 2 * k) z) => DcTo.put b HCL.out ino (PL : Int) HA.out.2.2.2.2.1 HPL.out.1 (D.take NK) (by rw [List.length_take]; have := HPL.out; omega)
    rw [HW.out] at hPu
    have hp1 := hPu wr HE.out
    have HSL : Hid (D.drop NK = data.drop (pIx off (k + 1))) := HNX.out.2
    have hnk : (32 : Int) ≤ (NK : Int) := by omega
    clear hPu hD hDl hPL hAT hNK hk hix hnx hpl0 hfr htt hlt hX hXX HE hw hn32
    go_upto_region 14 with (go_at_call 37; (try rw [st1]); refine hp1.mono ?_; clear hp1; rintro e z1 ⟨⟨xx, rfl⟩, P1⟩)
    have HP1 : Hid (DcTo w rp bv cv rv (stepV V ino off data (k + 1)) (j + 2 * (k + 1)) z1) := DcTo.up P1
    clear P1
    go_wp2_with fail
    (try rw [st2])
    rw [HSL.out]
    go_roundg gg
    case measure => omega
    case rel => exact ⟨k + 1, X + NK, by omega, HNX.out.1, congrArg (Value.int .i64) (by omega), rfl, HP1.out⟩
   | false =>
    have hn32 : NK < 32 := by
     rw [pcM_at hk] at hw
     have h1 : ¬ (pTt off data.length k : Int) - (pFr off k : Int) = 32 := of_decide_eq_false hw
     omega
    have hGe := fun z (b : DcTo w rp bv cv rv (stepV V ino off data k) (j + 2 * k) z) => DcTo.get b HCL.out HRL.out (keyC ino (PL : Int))
    have hGC : (getW (stepV V ino off data k) (keyC ino (PL : Int))).C.length ≤ 900 := by rw [getW_C]; exact HCL.out
    have hPu := fun (FU : List UInt8) (hF : FU.length = 32) z (b : DcTo w rp bv cv rv (getW (stepV V ino off data k) (keyC ino (PL : Int))) (j + 2 * k + 1) z) => DcTo.put b hGC ino (PL : Int) HA.out.2.2.2.2.1 HPL.out.1 (FU.take AT ++ D.take NK ++ FU.drop (AT + NK)) (by simp [hF]; have := HPL.out; omega)
    have HW : Hid ((getW (stepV V ino off data k) (keyC ino (PL : Int))).change (chgP ⟨chunkR ino (PL : Int), chunkR_length ino (PL : Int), trimmed ((fullP (getV (stepV V ino off data k).C (plGe []) (keyC ino (PL : Int))).1).take AT ++ D.take NK ++ (fullP (getV (stepV V ino off data k).C (plGe []) (keyC ino (PL : Int))).1).drop (AT + NK))⟩) = stepV V ino off data (k + 1)) := (show _ = _ by
     have hlk := stepV_look (V := V) HA.out.1 HA.out.2.2.2.2.1 HA.out.2.2.2.2.2.2 hk
     show _ = (gotF ino (stepV V ino off data k) _).change (chgP (putP (plGe []) ino data V.C _))
     have epl : (pcM off data.length k).pl = (PL : Int) := by rw [pcM_at hk, hPL]; rfl
     unfold gotF
     rw [hw, epl]
     rw [epl] at hlk
     congr 2
     unfold putP wasP
     simp only [hw, Bool.false_eq_true, if_false]
     rw [getV_look hlk, ← step_part hk]
     refine pa_eq (by rw [epl]) ?_
     rw [epl, ← hNK, HPT.out, ← hAT, ← hD])
    have hCh := fun z => rchunk_calls ino (PL : Int) z
    rw [HA.out.2.2.2.2.1, HPL.out.1] at hCh
    have hKl := chunkR_length ino (PL : Int)
    have hFu := fun z => rfull_calls z (getV (stepV V ino off data k).C (plGe []) (keyC ino (PL : Int))).1
    have HFL : Hid ((fullP (getV (stepV V ino off data k).C (plGe []) (keyC ino (PL : Int))).1).length = 32) := fullP_length _
    have HGe : Hid (∀ z, DcTo w rp bv cv rv (stepV V ino off data k) (j + 2 * k) z → Calls Tryz.prog 35 #[.pointer (some ⟨rp, 0, none⟩), kv (chunkR ino (PL : Int))] z fun e y' => ∃ b, e = .returned (.tuple #[.string (str (getV (stepV V ino off data k).C (plGe []) (keyC ino (PL : Int))).1), .bool b]) ∧ DcTo w rp bv cv rv (getW (stepV V ino off data k) (keyC ino (PL : Int))) (j + 2 * k + 1) y') := hGe
    have HPu : Hid (∀ z, DcTo w rp bv cv rv (getW (stepV V ino off data k) (keyC ino (PL : Int))) (j + 2 * k + 1) z → Calls Tryz.prog 37 #[.pointer (some ⟨rp, 0, none⟩), .int .i64 ino, .int .i64 (PL : Int), .string (str ((fullP (getV (stepV V ino off data k).C (plGe []) (keyC ino (PL : Int))).1).take AT ++ D.take NK ++ (fullP (getV (stepV V ino off data k).C (plGe []) (keyC ino (PL : Int))).1).drop (AT + NK)))] z fun e y' => (∃ x, e = .returned x) ∧ DcTo w rp bv cv rv (stepV V ino off data (k + 1)) (j + 2 * k + 1 + 1) y') := fun z b => by
     have := hPu _ HFL.out z b
     rw [HW.out] at this
     exact this
    have HSL : Hid (D.drop NK = data.drop (pIx off (k + 1))) := HNX.out.2
    have hnk : (NK : Int) < 32 := by omega
    obtain ⟨AN, hAN⟩ : ∃ AN : Nat, AN = AT + NK := ⟨_, rfl⟩
    have hANI : (AT : Int) + (NK : Int) = (AN : Int) := by omega
    have hAN32 : (AN : Int) ≤ 32 := by omega
    rw [← hAN] at HPu
    have HDL : Hid (D.length ≤ 300) := HPL.out.2.2.2.2
    clear hPu hGe hGC HW hD hDl hPL hAT hNK hk hix hnx hpl0 hfr htt hlt hX hXX hw hn32 hAN HPT HPL
    generalize (getV (stepV V ino off data k).C (plGe []) (keyC ino (PL : Int))).1 = vv at *
    generalize getW (stepV V ino off data k) (keyC ino (PL : Int)) = VG at *
    generalize chunkR ino (PL : Int) = K at *
    go_upto_region 10 with (first
     | (go_at_call 34; refine (hCh _).mono ?_; clear hCh; rintro e w1 ⟨rfl, b1⟩)
     | (refine store_key rfl _ _ rfl _ rfl _ rfl hKl (zs 24) (zero_has w1 w1.heap.size rfl) ?_; intro w2 q2' t2 s2))
    have B2 : Below wr.heap.size wr w2 := b1.trans (((Below.refl _ w1).alloc (Nat.le_refl _) _).trans (t2.below (by simp) (Nat.le_refl _) (by simp)) |>.mono b1.size)
    have HB2 : Hid (DcTo w rp bv cv rv (stepV V ino off data k) (j + 2 * k) w2 ∧ Has w2 w1.heap.size K) := ⟨HE.out.called B2, q2'⟩
    clear B2 q2' t2 s2 b1 HE
    generalize w1.heap.size = b1 at *
    have hG2 := HGe.out w2 HB2.out.1
    go_upto_region 11 with (first
     | (refine load_key _ rfl b1 rfl rfl K HB2.out.2 ?_)
     | (go_at_call 35; refine hG2.mono ?_; clear hG2; rintro e w3 ⟨bb, rfl, P3⟩))
    have HP3 : Hid (DcTo w rp bv cv rv VG (j + 2 * k + 1) w3) := P3
    have hFu3 := hFu w3
    clear P3 hFu HB2
    go_upto_region 12 with (go_at_call 36; refine hFu3.mono ?_; clear hFu3; rintro e w4 ⟨rfl, b4⟩)
    have HP4 : Hid (DcTo w rp bv cv rv VG (j + 2 * k + 1) w4.drew) := (HP3.out.called b4).called ⟨rfl, rfl, rfl, Nat.le_refl _, fun _ _ => rfl⟩
    clear b4 HP3
    generalize fullP vv = FU at *
    have f1 := str_take FU AT
    have f2 := str_drop FU AN
    have q6b : (AT : Int) ≤ 32 := by omega
    have hANw : IntKind.i64.wrap (AN : Int) = (AN : Int) := by rw [IntKind.wrap_i64]; omega
    have hsF : ((str FU).size : Int) = 32 := by rw [str_size, HFL.out]; rfl
    have ad1 := add_strs (FU.take AT) (D.take NK) (by rw [List.length_take]; have := HFL.out; omega) (by rw [List.length_take]; have := HDL.out; omega)
    have ad2 := add_strs (FU.take AT ++ D.take NK) (FU.drop AN) (by rw [List.length_append, List.length_take, List.length_take]; have := HFL.out; have := HDL.out; omega) (by rw [List.length_drop]; have := HFL.out; omega)
    refine wp_region_noPanic ?_
    refine wp_region_held_drew (S := (fun yy => True)) (by kernel_rfl) trivial (fun hh => ?_)
    refine tl ?_ 0 rfl hh ⟨by rfl, ?_⟩ ?_
    case refine_2 => (intro w hSw; go_simp; try with_reducible rfl)
    (try simp only [gs])
    refine tl ?_ 1 rfl hh ⟨by rfl, ?_⟩ ?_
    case refine_2 => (intro w hSw; go_simp; try with_reducible rfl)
    (try simp only [gs])
    refine tl ?_ 2 rfl hh ⟨by rfl, ?_⟩ ?_
    case refine_2 => (intro w hSw; go_simp; try with_reducible rfl)
    (try simp only [gs])
    refine tl ?_ 3 rfl hh ⟨by rfl, ?_⟩ ?_
    case refine_2 => (intro w hSw; go_simp; try with_reducible rfl)
    (try simp only [gs])
    refine tl ?_ 4 rfl hh ⟨by rfl, ?_⟩ ?_
    case refine_2 => (intro w hSw; go_simp; try with_reducible rfl)
    (try simp only [gs])
    refine tl ?_ 5 rfl hh ⟨by rfl, ?_⟩ ?_
    case refine_2 => (intro w hSw; go_simp; try with_reducible rfl)
    (try simp only [gs])
    refine tl ?_ 6 rfl hh ⟨by rfl, ?_⟩ ?_
    case refine_2 => (intro w hSw; go_simp; try with_reducible rfl)
    (try simp only [gs])
    refine tl ?_ 7 rfl hh ⟨by rfl, ?_⟩ ?_
    case refine_2 => (intro w hSw; go_simp; try with_reducible rfl)
    (try simp only [gs])
    refine tl ?_ 8 rfl hh ⟨by rfl, ?_⟩ ?_
    case refine_2 => (intro w hSw; go_simp; try with_reducible rfl)
    (try simp only [gs])
    refine tl ?_ 9 rfl hh ⟨by rfl, ?_⟩ ?_
    case refine_2 => (intro w hSw; go_simp; try with_reducible rfl)
    (try simp only [gs])
    refine tl ?_ 10 rfl hh ⟨by rfl, ?_⟩ ?_
    case refine_2 => (intro w hSw; go_simp; try with_reducible rfl)
    (try simp only [gs])
    refine tl ?_ 11 rfl hh ⟨by rfl, ?_⟩ ?_
    case refine_2 => (intro w hSw; go_simp; try with_reducible rfl)
    (try simp only [gs])
    refine tl ?_ 12 rfl hh ⟨by rfl, ?_⟩ ?_
    case refine_2 => (intro w hSw; go_simp; try with_reducible rfl)
    (try simp only [gs])
    refine tl ?_ 13 rfl hh ⟨by rfl, ?_⟩ ?_
    case refine_2 => (intro w hSw; go_simp; try with_reducible rfl)
    (try simp only [gs])
    refine wpAnyH_done (by kernel_rfl) ?_ _
    refine NoPanic.normal ?_
    clear hh
    have hp1 := HPu.out _ HP4.out
    rw [List.append_assoc] at hp1
    generalize w4.drew = w5 at *
    clear ad1 ad2 f1 f2 hsF HPu HGe HP4
    go_upto_region 14 with (go_at_call 37; refine hp1.mono ?_; clear hp1; rintro e z1 ⟨⟨xx, rfl⟩, P1⟩)
    have HP1 : Hid (DcTo w rp bv cv rv (stepV V ino off data (k + 1)) (j + 2 * (k + 1)) z1) := P1
    clear P1
    go_wp2_with fail
    (try rw [st2])
    rw [HSL.out]
    go_roundg gg
    case measure => omega
    case rel => exact ⟨k + 1, X + NK, by omega, HNX.out.1, congrArg (Value.int .i64) (by omega), rfl, HP1.out⟩
end
end Go.Proofs.YtdmindhjmjnagaaGreatDoor
