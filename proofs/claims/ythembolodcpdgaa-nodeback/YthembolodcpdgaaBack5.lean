/- NodeBack, walked. -/
import Derived.Test.YthembolodcpdgaaNodV
import Derived.Test.YthembolodcpdgaaNodX
namespace Go.Proofs.Ythembolodcpdgaa
set_option linter.unusedVariables false
open Go.RowKit

set_option maxHeartbeats 16000000 in
set_option maxRecDepth 100000 in
theorem back5_walk (w : World) (X : Nod) (pv qv : Value) (at_ : Int) (t : UInt8) (hs : Parts w X pv qv) (hn1 : NilOk pv) (hn2 : NilOk qv) : Calls Try.prog 4 #[nv X pv qv, .int .i64 at_, .int .u8 (t.toNat : Int)] w fun e w' => e = .returned (.bool true) ∧ Below w.heap.size w w' := by
  have HU0 : Hid (HasN (w.alloc (.cells (nc X pv qv) 25)) w.heap.size X pv qv) := HasN.new w X pv qv _ rfl hs.p.one hs.q.one
  have B0 : Below w.heap.size w (w.alloc (.cells (nc X pv qv) 25)) := (Below.refl _ w).alloc (Nat.le_refl _) _
  have HS : Hid (Parts w X pv qv) := hs
  have HNI : Hid (NilOk pv ∧ NilOk qv) := ⟨hn1, hn2⟩
  clear hs hn1 hn2
  go_enter Try.func4, Try.ntmps4
  go_upto_region 2 with (go_at_call 9; refine (shown_calls _).mono ?_; rintro e w1 ⟨rfl, b1⟩)
  have U1 := HU0.out.below b1 (by simp)
  have B1 : Below w.heap.size w w1 := B0.trans (b1.mono (by simp))
  have s1 := b1.size
  simp at s1
  have S1 : Parts w1 X pv qv := HS.out.below B1
  have HU1 : Hid (HasN w1 w.heap.size X pv qv) := U1
  have HC : Hid (Calls Try.prog 10 #[nv X pv qv] w1 (CutTo w1 X)) := cut_calls w1 X pv qv S1 HNI.out.1 HNI.out.2
  clear b1 U1 HU0 B0 HS S1
  go_upto_region 3 with (first
    | (refine load_node _ rfl w.heap.size rfl rfl _ _ _ HU1.out ?_)
    | (go_at_call 10; refine HC.out.mono ?_; rintro e w2 ⟨tp, tq, rfl, ep2, eq2, b2⟩)
    | (refine store_node rfl _ _ rfl w.heap.size rfl (cutN X) tp tq rfl ep2.els.one eq2.els.one X pv qv (HU1.out.below b2 HU1.out.lt) ?_; intro x2 hu2 tx2 sx2))
  have B2 : Below w.heap.size w x2 := below_touched (B1.trans (b2.mono B1.size)) tx2 (Nat.le_refl _) (Nat.le_refl _)
  have hsz2 := tx2.size
  have P2 : Parts x2 (cutN X) tp tq := ⟨(ep2.kept (y := x2) (fun k hk hl => tx2.block k hl (by omega) (by simp)) hsz2).els, (eq2.kept (y := x2) (fun k hk hl => tx2.block k hl (by omega) (by simp)) hsz2).els⟩
  have H2 : Held w x2 [(w.heap.size, cutN X, tp, tq)] [] [(cutN X, tp, tq)] := ⟨B2, (fun e he => by rcases List.mem_singleton.1 he with rfl; exact hu2), (fun e he => by cases he), (fun e he => by rcases List.mem_singleton.1 he with rfl; exact P2)⟩
  clear HU1 B1 s1 b2 ep2 eq2 hu2 tx2 sx2 B2 HC P2 hsz2 HNI
  generalize cutN X = T at *
  have u2 := H2.u (w.heap.size, T, tp, tq) (by simp)
  have hB := bytes_nod (H2.s (T, tp, tq) (by simp))
  have hRt : ∀ y, Held w y [(w.heap.size, T, tp, tq)] [] [(T, tp, tq)] → True := fun _ _ => trivial
  clear hRt
  cases hr : rightN T with
  | false =>
    rw [hr] at hB
    go_upto_region 4 with (first
      | (refine load_node _ rfl w.heap.size rfl rfl _ _ _ u2 ?_)
      | (go_at_call 11; refine hB.mono ?_; rintro e w3 ⟨b3, ⟨_, rfl⟩ | ⟨hf, _⟩⟩; rotate_left; · cases hf))
    have H3 := H2.called b3
    clear H2 b3 u2 hB
    have u3 := H3.u (w.heap.size, T, tp, tq) (by simp)
    have hR := right_calls w3 T tp tq (H3.s (T, tp, tq) (by simp))
    rw [hr] at hR
    go_wp2_with (first
      | (refine load_node _ rfl w.heap.size rfl rfl _ _ _ u3 ?_)
      | (go_at_call 19; refine hR.mono ?_; rintro e w4 ⟨rfl, b4⟩))
    go_ret
    exact ⟨rfl, (H3.called b4).bel⟩
  | true =>
    rw [hr] at hB
    have HK : Hid (Keyed T) := (H2.s (T, tp, tq) (by simp)).keyed
    go_upto_region 4 with (first
      | (refine load_node _ rfl w.heap.size rfl rfl _ _ _ u2 ?_)
      | (go_at_call 11; refine hB.mono ?_; rintro e w3 ⟨b3, ⟨hf, _⟩ | ⟨_, a, c, rfl, _, by3⟩⟩; · cases hf))
    have H3 := (H2.called b3).addB by3
    clear H2 b3 u2 hB
    obtain ⟨hq, hc512, hform⟩ := byt_form by3
    clear hq
    obtain ⟨ga, oa, rfl, _⟩ := hform (by omega)
    clear by3 hform
    have HL : Hid ((enc T).length = 512) := (fits hr).enc HK.out
    have OF1 : Hid (ofN (enc T) = some T) := of_enc T HK.out hr
    have OF2 : Hid (ofN ((enc T).take 511) = none) := ofN_len (by simp; have := HL.out; omega)
    have OF3 : Hid (ofN (enc T ++ [0]) = none) := ofN_len (by simp; have := HL.out; omega)
    have HRR : Hid (rightN T = true) := hr
    have u3 := H3.u (w.heap.size, T, tp, tq) (by simp)
    have hR := right_calls w3 T tp tq (H3.s (T, tp, tq) (by simp))
    rw [hr] at hR
    go_upto_region 6 with (first
      | (refine load_node _ rfl w.heap.size rfl rfl _ _ _ u3 ?_)
      | (go_at_call 19; refine hR.mono ?_; rintro e w4 ⟨rfl, b4⟩))
    have H4 := H3.called b4
    clear H3 b4 u3 hR
    have hcall5 := of_byt (H4.b (Value.slice (some ⟨ga, oa, none⟩) 512 c, enc T) (by simp)) (by show (enc T).length ≤ 1000; rw [HL.out]; decide)
    rw [OF1.out] at hcall5
    go_upto_region 7 with (first
      | (go_at_call 13; refine hcall5.mono ?_; rintro e w5 ⟨pv5, qv5, rfl, pa5, b5⟩)
      | (refine store_node rfl _ _ rfl w5.heap.size rfl T pv5 qv5 rfl pa5.p.one pa5.q.one nilN (.slice none 0 0) (.slice none 0 0) (HasN.new w5 nilN _ _ _ rfl rfl rfl) ?_; intro x5 hu5 tx5 sx5))
    clear hcall5
    have H5 := ((H4.called b5).addS pa5).stored hu5 tx5
    clear H4 b5 pa5 hu5 tx5 sx5
    generalize w5.heap.size = d5 at *
    have u5 := H5.u (w.heap.size, T, tp, tq) (by simp)
    have v5 := H5.u (d5, T, pv5, qv5) (by simp)
    have hsame := same_calls x5 T T tp tq pv5 qv5 (H5.s (T, tp, tq) (by simp)) (H5.s (T, pv5, qv5) (by simp))
    rw [decide_eq_true (rfl : T = T)] at hsame
    have ec : ∀ Y, codeN (some Y) = 0 := fun _ => rfl
    have en : codeN none = 12 := rfl
    go_upto_region 9 with (first
      | (refine load_node _ rfl w.heap.size rfl rfl _ _ _ u5 ?_)
      | (refine load_node _ rfl d5 rfl rfl _ _ _ v5 ?_)
      | (go_at_call 15; refine hsame.mono ?_; rintro e w6 ⟨rfl, b6⟩))
    have H6 := H5.called b6
    clear H5 b6 u5 v5 hsame
    have hc511 : (511 : Int) ≤ (c : Int) := by omega
    have bc511 : Byt w6 (.slice (some ⟨ga, oa, none⟩) 511 c) ((enc T).take 511) := byt_cut (a := some ⟨ga, oa, none⟩) (c := c) (L := enc T) 511 (H6.b (Value.slice (some ⟨ga, oa, none⟩) 512 c, enc T) (by simp)) (by rw [HL.out]; omega) (by rw [HL.out]; omega)
    have hcall7 := of_byt bc511 (by simp; omega)
    rw [OF2.out] at hcall7
    go_upto_region 10 with (first
      | (go_at_call 13; refine hcall7.mono ?_; rintro e w7 ⟨pv7, qv7, rfl, pa7, b7⟩)
      | (refine store_node rfl _ _ rfl w7.heap.size rfl nilN pv7 qv7 rfl pa7.p.one pa7.q.one nilN (.slice none 0 0) (.slice none 0 0) (HasN.new w7 nilN _ _ _ rfl rfl rfl) ?_; intro x7 hu7 tx7 sx7))
    clear hcall7
    have H7 := (H6.called b7).stored hu7 tx7
    clear H6 b7 pa7 hu7 tx7 sx7 bc511 hc511
    generalize w7.heap.size = d7 at *
    have own0 := own_empty x7 x7.heap.size (Nat.le_refl _)
    have bel0 : Below x7.heap.size x7 (x7.alloc (.cells #[] 5)) := (Below.refl _ _).alloc (Nat.le_refl _) _
    have by7 : Byt (x7.alloc (.cells #[] 5)) (.slice (some ⟨ga, oa, none⟩) 512 c) (enc T) := (H7.b (Value.slice (some ⟨ga, oa, none⟩) 512 c, enc T) (by simp)).below bel0
    have OW0 : Hid ((x7.alloc (.cells #[] 5)).ownsRow x7.heap.size 5 1 (.slice (some ⟨x7.heap.size, 0, none⟩) 0 0) 0 (bc [])) := own0
    clear own0
    go_upto_region 11 with (first
      | (at_builtin; refine append_byt rfl (.tmp 69) (.tmp 70) rfl x7.heap.size 0 512 _ [] rfl OW0.out _ (enc T) rfl by7 (by have := HL.out; simpa using this) (by have := HL.out; omega) (by omega) (by simp) x7 bel0 ?_; intro a8 c8 w8 ho8 b8; have OW8 : Hid (w8.ownsRow x7.heap.size 5 1 (.slice a8 512 c8) 512 (bc ([] ++ enc T))) := ho8; clear ho8)
      | (at_builtin; refine append_byt rfl (.tmp 71) (.tmp 72) rfl x7.heap.size 512 513 _ ([] ++ enc T) rfl (OW8.out.alloc _) _ [0] rfl (byt_one w8 0) (by have := HL.out; simpa using this) (by simp) (by omega) (by have := b8.size; simp; omega) x7 (b8.alloc b8.size _) ?_; intro a9 c9 w9 ho9 b9; have CA9 : Hid (Calls Try.prog 13 #[.slice a9 513 c9] w9 (OfTo w9 none)) := (by have := of_byt (own_byt ho9) (by have := HL.out; simp; omega); rw [List.nil_append, OF3.out] at this; exact this); clear ho9)
      | (go_at_call 13; refine (Hid.out CA9).mono ?_; rintro e w10 ⟨pv10, qv10, rfl, pa10, b10⟩)
      | (refine store_node rfl _ _ rfl w10.heap.size rfl nilN pv10 qv10 rfl pa10.p.one pa10.q.one nilN (.slice none 0 0) (.slice none 0 0) (HasN.new w10 nilN _ _ _ rfl rfl rfl) ?_; intro x10 hu10 tx10 sx10))
    have H10 := ((H7.called b9).called b10).stored hu10 tx10
    clear H7 b8 b9 b10 pa10 hu10 tx10 sx10 OW0 OW8 CA9 bel0 by7
    generalize w10.heap.size = d10 at *
    by_cases ht : t = 0
    · subst ht
      have e0 : ((0 : UInt8).toNat : Int) = 0 := rfl
      rw [e0]
      have BB := H10.bel
      clear H10
      go_wp2
      go_ret
      exact ⟨rfl, BB⟩
    have ht0 : ((t.toNat : Int) == 0) = false := by
      have : t.toNat ≠ 0 := fun e => ht (UInt8.toNat_inj.1 (by simpa using e))
      simp
      omega
    have HT : Hid (¬ t = 0) := ht
    clear ht
    go_upto_region 13 with fail
    have own0 := own_empty x10 x10.heap.size (Nat.le_refl _)
    have bel0 : Below x10.heap.size x10 (x10.alloc (.cells #[] 5)) := (Below.refl _ _).alloc (Nat.le_refl _) _
    have by7 : Byt (x10.alloc (.cells #[] 5)) (.slice (some ⟨ga, oa, none⟩) 512 c) (enc T) := (H10.b (Value.slice (some ⟨ga, oa, none⟩) 512 c, enc T) (by simp)).below bel0
    have OW0 : Hid ((x10.alloc (.cells #[] 5)).ownsRow x10.heap.size 5 1 (.slice (some ⟨x10.heap.size, 0, none⟩) 0 0) 0 (bc [])) := own0
    clear own0
    go_upto_region 14 with (at_builtin; refine append_byt rfl (.tmp 96) (.tmp 97) rfl x10.heap.size 0 512 _ [] rfl OW0.out _ (enc T) rfl by7 (by have := HL.out; simpa using this) (by have := HL.out; omega) (by omega) (by simp) x10 bel0 ?_; intro a8 c8 w8 ho8 b8; have OW8 : Hid (w8.ownsRow x10.heap.size 5 1 (.slice a8 512 c8) 512 (bc ([] ++ enc T))) := ho8; clear ho8)
    obtain ⟨gb, rfl⟩ : ∃ gb, a8 = some ⟨gb, 0, none⟩ := by
      rcases OW8.out.2 with ⟨_, h0⟩ | ⟨g, cap, cur, e, _⟩
      · cases h0
      · cases e; exact ⟨g, rfl⟩
    obtain ⟨i, hi⟩ : ∃ i : Nat, at_ % 512 = (i : Int) := ⟨(at_ % 512).toNat, by omega⟩
    have hi5 : i < 512 := by omega
    have hil : i < (enc T).length := by rw [HL.out]; exact hi5
    have m511 := and511 at_
    rw [hi] at m511
    have HI : Hid (at_ % 512 = (i : Int)) := hi
    have cc : w8.cell? ⟨gb, i, none⟩ = some (.int .u8 ((enc T)[i].toNat : Int)) := by
      rw [OW8.out.cellAt i (by omega), List.nil_append, bc_at _ i hil]
    have ff : w8.frozen? ⟨gb, i, none⟩ = false := OW8.out.frozenAt i
    obtain ⟨x, hx⟩ : ∃ x : UInt8, x = (enc T)[i] ^^^ t := ⟨_, rfl⟩
    have hxor := xor_u8 (enc T)[i] t
    rw [← hx] at hxor
    have HNE : Hid ((enc T).set i x ≠ enc T) := (fun e => by
      have := congrArg (fun l => l[i]?) e
      simp [hil] at this
      exact xor_ne _ _ HT.out (hx ▸ this))
    clear hx
    have OW9 : Hid ((w8.setCell ⟨gb, i, none⟩ (.int .u8 (x.toNat : Int))).ownsRow x10.heap.size 5 1 (.slice (some ⟨gb, 0, none⟩) 512 c8) 512 (bc ((enc T).set i x))) := (by
      have := (OW8.out.stored i (.int .u8 (x.toNat : Int))).1
      have e : (bc (enc T)).set i (.int .u8 (x.toNat : Int)) = bc ((enc T).set i x) := by simp only [bc, List.map_set]
      rw [List.nil_append, e] at this
      exact this)
    have B9 : Below x10.heap.size x10 (w8.setCell ⟨gb, i, none⟩ (.int .u8 (x.toNat : Int))) := b8.setCell (by have := OW8.out.lt gb rfl; simpa using this.1) _
    generalize (enc T)[i] = y at *
    clear hi
    go_upto_region 15 with fail
    generalize w8.setCell ⟨gb, i, none⟩ (.int .u8 (x.toNat : Int)) = x11 at *
    have H11 := H10.called B9
    have hcall := of_byt (own_byt OW9.out) (by simp; have := HL.out; omega)
    have HD : Hid (decide ((ofN ((enc T).set i x)).getD nilN = T) = false) := decide_eq_false (other_of HRR.out HK.out HNE.out)
    have HCO := codeN_ok (ofN ((enc T).set i x))
    generalize ofN ((enc T).set i x) = R at *
    clear H10 B9 OW8 OW9 OW0 b8 bel0 by7 cc ff hxor m511 HNE
    go_upto_region 16 with (first
      | (go_at_call 13; refine hcall.mono ?_; rintro e w12 ⟨pv12, qv12, rfl, pa12, b12⟩)
      | (refine store_node rfl _ _ rfl w12.heap.size rfl (R.getD nilN) pv12 qv12 rfl pa12.p.one pa12.q.one nilN (.slice none 0 0) (.slice none 0 0) (HasN.new w12 nilN _ _ _ rfl rfl rfl) ?_; intro x12 hu12 tx12 sx12))
    clear hcall
    have H12 := ((H11.called b12).addS pa12).stored hu12 tx12
    clear H11 b12 pa12 hu12 tx12 sx12
    generalize w12.heap.size = d12 at *
    have u5 := H12.u (w.heap.size, T, tp, tq) (by simp)
    have v5 := H12.u (d12, R.getD nilN, pv12, qv12) (by simp)
    have hsame := same_calls x12 (R.getD nilN) T pv12 qv12 tp tq (H12.s (R.getD nilN, pv12, qv12) (by simp)) (H12.s (T, tp, tq) (by simp))
    rw [HD.out] at hsame
    generalize codeN R = q at *
    rcases HCO with rfl | rfl
    · go_wp2_with (first
        | (refine load_node _ rfl d12 rfl rfl _ _ _ v5 ?_)
        | (refine load_node _ rfl w.heap.size rfl rfl _ _ _ u5 ?_)
        | (go_at_call 15; refine hsame.mono ?_; rintro e w13 ⟨rfl, b13⟩))
      go_ret
      exact ⟨rfl, (H12.called b13).bel⟩
    · go_wp2_with (first
        | (refine load_node _ rfl d12 rfl rfl _ _ _ v5 ?_)
        | (refine load_node _ rfl w.heap.size rfl rfl _ _ _ u5 ?_)
        | (go_at_call 15; refine hsame.mono ?_; rintro e w13 ⟨rfl, b13⟩))
      go_ret
      exact ⟨rfl, (H12.called b13).bel⟩
theorem back5_walk' (w : World) (X : Nod) (pv qv : Value) (at_ t : Int) (hs : Parts w X pv qv) (h1 : NilOk pv) (h2 : NilOk qv) (ht : 0 ≤ t ∧ t ≤ 255) : Calls Try.prog 4 #[nv X pv qv, .int .i64 at_, .int .u8 t] w fun e w' => e = .returned (.bool true) ∧ Below w.heap.size w w' := by
  have e : t = ((UInt8.ofNat t.toNat).toNat : Int) := by
    rw [UInt8.toNat_ofNat']
    omega
  rw [e]
  exact back5_walk w X pv qv at_ _ hs h1 h2
end Go.Proofs.Ythembolodcpdgaa
