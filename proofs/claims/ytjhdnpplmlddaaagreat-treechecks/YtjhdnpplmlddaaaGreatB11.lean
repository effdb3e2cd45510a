import Derived.Test.YtjhdnpplmlddaaaGreatB08
/- narrow and lastKey of package tree. -/
namespace Go.Proofs.YtjhdnpplmlddaaaGreat
set_option linter.unusedVariables false
open Go.RowKit

/-- A span as plain data. -/
structure Sp where
  F : List UInt8
  T : List UInt8
  e : Bool
def Sp.Ok (s : Sp) : Prop := s.F.length = 24 ∧ s.T.length = 24
abbrev spv (s : Sp) : Value := sv s.F s.T s.e
def keyAt (l : List Kd) (i : Nat) : List UInt8 := (l[i]?.map Kd.k).getD (zs 24)
theorem keyAt_eq {l : List Kd} {i : Nat} (h : i < l.length) : keyAt l i = (l[i]).k := by simp [keyAt, h]
/-- The part of a span that belongs to a kid. -/
def narF (s : Sp) (l : List Kd) (i : Nat) : List UInt8 := if decide (0 < i) && Op.bytesLess s.F (keyAt l i) then keyAt l i else s.F
def narT (s : Sp) (l : List Kd) (i : Nat) : List UInt8 := if i + 1 = l.length then s.T else if s.e || Op.bytesLess (keyAt l (i + 1)) s.T then keyAt l (i + 1) else s.T
def narE (s : Sp) (l : List Kd) (i : Nat) : Bool := if i + 1 = l.length then s.e else if s.e || Op.bytesLess (keyAt l (i + 1)) s.T then false else s.e
def narS (s : Sp) (l : List Kd) (i : Nat) : Sp := ⟨narF s l i, narT s l i, narE s l i⟩
/-- What narrow holds in memory: the span that was handed in, and the result's. -/
structure NS (w y : World) (F T : List UInt8) (e : Bool) : Prop where
  s : SpIn y w.heap.size F T e
  r : HasS y (w.heap.size + 1) (zs 24) (zs 24) false
  bel : Below w.heap.size w y
section
variable {w y z : World} {F T : List UInt8} {e : Bool}
theorem NS.called (h : NS w y F T e) (b : Below y.heap.size y z) : NS w z F T e := ⟨h.s.below b h.s.lt, h.r.below b h.r.lt, h.bel.trans (b.mono h.bel.size)⟩
theorem NS.stored (h : NS w y F T e) {o : Obj} (t : Touch y.heap.size none (y.alloc o) z) : NS w z F T e := h.called (step_below (Below.refl _ y) o t)
theorem NS.setF (h : NS w y F T e) {K : List UInt8} (hs : SpIn z w.heap.size K T e) (t : Touch w.heap.size none y z) : NS w z K T e := ⟨hs, h.r.touch t (by omega), below_touched h.bel t (Nat.le_refl _) (Nat.le_refl _)⟩
theorem NS.setT (h : NS w y F T e) {K : List UInt8} (hs : SpIn z w.heap.size F K e) (t : Touch w.heap.size none y z) : NS w z F K e := ⟨hs, h.r.touch t (by omega), below_touched h.bel t (Nat.le_refl _) (Nat.le_refl _)⟩
theorem NS.setE (h : NS w y F T e) (x : Bool) : NS w (y.setCell ⟨w.heap.size, 48, none⟩ (.bool x)) F T x := ⟨h.s.setE x, h.r.touch (touch_set _ _ _ _) (by omega), h.bel.setCell (Nat.le_refl _) _⟩
end
theorem span_cells : (sc (zs 24) (zs 24) false).toArray = #[.int .u8 0, .int .u8 0, .int .u8 0, .int .u8 0, .int .u8 0, .int .u8 0, .int .u8 0, .int .u8 0, .int .u8 0, .int .u8 0, .int .u8 0, .int .u8 0, .int .u8 0, .int .u8 0, .int .u8 0, .int .u8 0, .int .u8 0, .int .u8 0, .int .u8 0, .int .u8 0, .int .u8 0, .int .u8 0, .int .u8 0, .int .u8 0, .int .u8 0, .int .u8 0, .int .u8 0, .int .u8 0, .int .u8 0, .int .u8 0, .int .u8 0, .int .u8 0, .int .u8 0, .int .u8 0, .int .u8 0, .int .u8 0, .int .u8 0, .int .u8 0, .int .u8 0, .int .u8 0, .int .u8 0, .int .u8 0, .int .u8 0, .int .u8 0, .int .u8 0, .int .u8 0, .int .u8 0, .int .u8 0, .bool false] := rfl
theorem NS.start (w : World) (F T : List UInt8) (e : Bool) (hF : F.length = 24) (hT : T.length = 24) : NS w ((w.alloc (.cells (sc F T e).toArray 27)).alloc (.cells (sc (zs 24) (zs 24) false).toArray 27)) F T e :=
  ⟨((HasS.new w F T e hF hT).alloc _).sp, (by have := HasS.new (w.alloc (.cells (sc F T e).toArray 27)) (zs 24) (zs 24) false rfl rfl; simpa using this), ((Below.refl _ w).alloc (Nat.le_refl _) _).alloc (by simp) _⟩
set_option maxHeartbeats 8000000 in
set_option maxRecDepth 100000 in
theorem narrow_zl (w : World) (F T : List UInt8) (e : Bool) (hF : F.length = 24) (hT : T.length = 24) (ad : Option Addr) (cap : Nat) (l : List Kd) (h : Els w (.slice ad l.length cap) (l.map Kd.el)) (i : Nat) (hi : i < l.length) (h0 : i = 0) (h2 : i + 1 = l.length) :
    Calls Tryz.prog 59 #[sv F T e, .slice ad l.length cap, .int .i64 (i : Int)] w fun x w' => x = .returned (spv (narS ⟨F, T, e⟩ l i)) ∧ Below w.heap.size w w' := by
  have HRES : Hid (narS ⟨F, T, e⟩ l i = ⟨F, T, e⟩) := (show _ = _ by simp [narS, narF, narT, narE, (show ¬ 0 < i by omega), h2])
  have hmx := (els_max h).2
  obtain ⟨g, off, rfl, hg, hat, ok⟩ := els_get h i hi
  have HRK : Hid (∀ y, Below w.heap.size w y → y.rangeAt g (off + i * 25) (bc (keyAt l i))) := fun y hy => by
    rw [keyAt_eq hi]
    exact range_key (e := Kd.el l[i]) (range_same hat (hy.block g hg))
  have hlK : (keyAt l i).length = 24 := by rw [keyAt_eq hi]; exact ok.len
  have HLK : Hid ((keyAt l i).length = 24) := hlK
  have HLF : Hid (F.length = 24) := hF
  have HLT : Hid (T.length = 24) := hT
  obtain ⟨N, hN⟩ : ∃ N : Nat, N = l.length := ⟨_, rfl⟩
  have hiN : (i : Int) < (N : Int) := by omega
  have hmN : (N : Int) ≤ 9223372036854775807 := by unfold maxLen at hmx; omega
  have hJ2 : ((i : Int) + 1 == (N : Int)) = true := by
    have : (i : Int) + 1 = (N : Int) := by omega
    simpa using this
  have hz : ¬ (0 : Int) < (i : Int) := by omega
  rw [← hN]
  have HS0 : Hid (NS w ((w.alloc (.cells (sc F T e).toArray 27)).alloc (.cells #[.int .u8 0, .int .u8 0, .int .u8 0, .int .u8 0, .int .u8 0, .int .u8 0, .int .u8 0, .int .u8 0, .int .u8 0, .int .u8 0, .int .u8 0, .int .u8 0, .int .u8 0, .int .u8 0, .int .u8 0, .int .u8 0, .int .u8 0, .int .u8 0, .int .u8 0, .int .u8 0, .int .u8 0, .int .u8 0, .int .u8 0, .int .u8 0, .int .u8 0, .int .u8 0, .int .u8 0, .int .u8 0, .int .u8 0, .int .u8 0, .int .u8 0, .int .u8 0, .int .u8 0, .int .u8 0, .int .u8 0, .int .u8 0, .int .u8 0, .int .u8 0, .int .u8 0, .int .u8 0, .int .u8 0, .int .u8 0, .int .u8 0, .int .u8 0, .int .u8 0, .int .u8 0, .int .u8 0, .int .u8 0, .bool false] 27)) F T e) := (show NS _ _ _ _ _ by have := NS.start w F T e hF hT; rw [span_cells] at this; exact this)
  clear h hat ok hmx hlK hF hT hN hi h0 h2
  obtain ⟨K, hKd⟩ : ∃ K, K = keyAt l i := ⟨_, rfl⟩
  rw [← hKd] at HRK HLK
  clear hKd
  go_enter Tryz.func59, Tryz.ntmps59
  go_upto_region 1 with fail
  go_upto_region 2 with (first
    | (refine load_part _ rfl g (off + i * 25) rfl rfl K HLK.out (HRK.out _ HS0.out.bel) ?_)
    | (refine store_key rfl _ _ rfl (w.heap.size + 2) rfl K rfl HLK.out (zs 24) (zero_has _ _ (by simp)) ?_; intro x1 hk1 tx1 sx1))
  have N1 : NS w x1 F T e := HS0.out.called (step_below (Below.refl _ _) _ (by simpa using tx1))
  have sz1 : w.heap.size + 2 < x1.heap.size := hk1.lt
  clear tx1 sx1 HS0
  go_upto_region 4 with fail
  go_wp2_with (first
    | (refine load_span _ rfl w.heap.size rfl rfl F T e N1.s ?_)
    | (refine store_span rfl _ _ rfl (w.heap.size + 1) rfl F T e rfl N1.s.f N1.s.t (zs 24) (zs 24) false N1.r ?_; intro z hz9 tz9 sz9))
  refine ret_span rfl _ _ _ _ rfl hz9 rfl ⟨?_, ?_⟩
  · rw [HRES.out]
  · exact below_touched N1.bel tz9 (by omega) (Nat.le_refl _)
set_option maxHeartbeats 8000000 in
set_option maxRecDepth 100000 in
theorem narrow_ze (w : World) (F T : List UInt8) (e : Bool) (hF : F.length = 24) (hT : T.length = 24) (ad : Option Addr) (cap : Nat) (l : List Kd) (h : Els w (.slice ad l.length cap) (l.map Kd.el)) (i : Nat) (hi : i < l.length) (h0 : i = 0) (h2 : i + 1 < l.length) (h3 : e = true) :
    Calls Tryz.prog 59 #[sv F T e, .slice ad l.length cap, .int .i64 (i : Int)] w fun x w' => x = .returned (spv (narS ⟨F, T, e⟩ l i)) ∧ Below w.heap.size w w' := by
  have HRES : Hid (narS ⟨F, T, e⟩ l i = ⟨F, keyAt l (i + 1), false⟩) := (show _ = _ by simp [narS, narF, narT, narE, (show ¬ 0 < i by omega), h3, (show ¬ i + 1 = l.length by omega)])
  have hmx := (els_max h).2
  obtain ⟨g, off, rfl, hg, hat, ok⟩ := els_get h i hi
  have HRK : Hid (∀ y, Below w.heap.size w y → y.rangeAt g (off + i * 25) (bc (keyAt l i))) := fun y hy => by
    rw [keyAt_eq hi]
    exact range_key (e := Kd.el l[i]) (range_same hat (hy.block g hg))
  have hlK : (keyAt l i).length = 24 := by rw [keyAt_eq hi]; exact ok.len
  have HLK : Hid ((keyAt l i).length = 24) := hlK
  have HLF : Hid (F.length = 24) := hF
  have HLT : Hid (T.length = 24) := hT
  obtain ⟨N, hN⟩ : ∃ N : Nat, N = l.length := ⟨_, rfl⟩
  have hiN : (i : Int) < (N : Int) := by omega
  have hmN : (N : Int) ≤ 9223372036854775807 := by unfold maxLen at hmx; omega
  obtain ⟨g', off', e1, _, hat2, ok2⟩ := els_get h (i + 1) h2
  cases e1
  have HRL : Hid (∀ y, Below w.heap.size w y → y.rangeAt g (off + (i + 1) * 25) (bc (keyAt l (i + 1)))) := fun y hy => by
    rw [keyAt_eq h2]
    exact range_key (e := Kd.el l[i + 1]) (range_same hat2 (hy.block g hg))
  have HLL : Hid ((keyAt l (i + 1)).length = 24) := (show _ = _ by rw [keyAt_eq h2]; exact ok2.len)
  have hJ1 : (i : Int) + 1 < (N : Int) := by omega
  have hJ2 : ((i : Int) + 1 == (N : Int)) = false := by
    have : ¬ (i : Int) + 1 = (N : Int) := by omega
    simpa using this
  have hJ3 : ((i : Int) + 1).toNat = i + 1 := by omega
  have hz : ¬ (0 : Int) < (i : Int) := by omega
  rw [← hN]
  have HS0 : Hid (NS w ((w.alloc (.cells (sc F T e).toArray 27)).alloc (.cells #[.int .u8 0, .int .u8 0, .int .u8 0, .int .u8 0, .int .u8 0, .int .u8 0, .int .u8 0, .int .u8 0, .int .u8 0, .int .u8 0, .int .u8 0, .int .u8 0, .int .u8 0, .int .u8 0, .int .u8 0, .int .u8 0, .int .u8 0, .int .u8 0, .int .u8 0, .int .u8 0, .int .u8 0, .int .u8 0, .int .u8 0, .int .u8 0, .int .u8 0, .int .u8 0, .int .u8 0, .int .u8 0, .int .u8 0, .int .u8 0, .int .u8 0, .int .u8 0, .int .u8 0, .int .u8 0, .int .u8 0, .int .u8 0, .int .u8 0, .int .u8 0, .int .u8 0, .int .u8 0, .int .u8 0, .int .u8 0, .int .u8 0, .int .u8 0, .int .u8 0, .int .u8 0, .int .u8 0, .int .u8 0, .bool false] 27)) F T e) := (show NS _ _ _ _ _ by have := NS.start w F T e hF hT; rw [span_cells] at this; exact this)
  clear h hat ok hmx hlK hF hT hN hi h0 hat2 ok2 h2
  obtain ⟨K, hKd⟩ : ∃ K, K = keyAt l i := ⟨_, rfl⟩
  rw [← hKd] at HRK HLK
  clear hKd
  obtain ⟨L, hLd⟩ : ∃ L, L = keyAt l (i + 1) := ⟨_, rfl⟩
  rw [← hLd] at HRL HLL HRES
  clear hLd
  subst h3
  go_enter Tryz.func59, Tryz.ntmps59
  go_upto_region 1 with fail
  go_upto_region 2 with (first
    | (refine load_part _ rfl g (off + i * 25) rfl rfl K HLK.out (HRK.out _ HS0.out.bel) ?_)
    | (refine store_key rfl _ _ rfl (w.heap.size + 2) rfl K rfl HLK.out (zs 24) (zero_has _ _ (by simp)) ?_; intro x1 hk1 tx1 sx1))
  have N1 : NS w x1 F T true := HS0.out.called (step_below (Below.refl _ _) _ (by simpa using tx1))
  have sz1 : w.heap.size + 2 < x1.heap.size := hk1.lt
  clear tx1 sx1 HS0
  go_upto_region 4 with fail
  go_upto_region 6 with fail
  go_upto_region 7 with (first
    | (refine load_part _ rfl g (off + (i + 1) * 25) rfl rfl L HLL.out (HRL.out _ N1.bel) ?_)
    | (refine store_key rfl _ _ rfl x1.heap.size rfl L rfl HLL.out (zs 24) (zero_has _ _ rfl) ?_; intro x5 hk5 tx5 sx5))
  have N5 := N1.stored tx5
  have lt5 : x1.heap.size < x5.heap.size := hk5.lt
  clear N1 tx5 sx5
  generalize x1.heap.size = d at *
  have cE := N5.s.ofE
  go_upto_region 8 with fail
  have N6 := N5
  have hk6 := hk5
  clear N5 hk5 cE
  go_upto_region 9 with (first
    | (refine load_key _ rfl d rfl rfl L hk6 ?_)
    | (refine store_T rfl _ _ rfl w.heap.size rfl L rfl HLL.out _ _ _ N6.s ?_; intro x7 hs7 t7 s7; have N7 := NS.setT N6 hs7 t7; have cE7 := N7.s.ofE; have fE7 := N7.s.freeE))
  have N8 := N7.setE false
  clear N6 hk6 hs7 t7 s7 cE7 fE7 N7
  generalize x7.setCell ⟨w.heap.size, 48, none⟩ (.bool false) = x8 at *
  go_wp2_with (first
    | (refine load_span _ rfl w.heap.size rfl rfl F L false N8.s ?_)
    | (refine store_span rfl _ _ rfl (w.heap.size + 1) rfl F L false rfl N8.s.f N8.s.t (zs 24) (zs 24) false N8.r ?_; intro z hz9 tz9 sz9))
  refine ret_span rfl _ _ _ _ rfl hz9 rfl ⟨?_, ?_⟩
  · rw [HRES.out]
  · exact below_touched N8.bel tz9 (by omega) (Nat.le_refl _)
set_option maxHeartbeats 8000000 in
set_option maxRecDepth 100000 in
theorem narrow_zt (w : World) (F T : List UInt8) (e : Bool) (hF : F.length = 24) (hT : T.length = 24) (ad : Option Addr) (cap : Nat) (l : List Kd) (h : Els w (.slice ad l.length cap) (l.map Kd.el)) (i : Nat) (hi : i < l.length) (h0 : i = 0) (h2 : i + 1 < l.length) (h3 : e = false) (h4 : Op.bytesLess (keyAt l (i + 1)) T = true) :
    Calls Tryz.prog 59 #[sv F T e, .slice ad l.length cap, .int .i64 (i : Int)] w fun x w' => x = .returned (spv (narS ⟨F, T, e⟩ l i)) ∧ Below w.heap.size w w' := by
  have HRES : Hid (narS ⟨F, T, e⟩ l i = ⟨F, keyAt l (i + 1), false⟩) := (show _ = _ by simp [narS, narF, narT, narE, (show ¬ 0 < i by omega), h3, (show ¬ i + 1 = l.length by omega), h4])
  have hmx := (els_max h).2
  obtain ⟨g, off, rfl, hg, hat, ok⟩ := els_get h i hi
  have HRK : Hid (∀ y, Below w.heap.size w y → y.rangeAt g (off + i * 25) (bc (keyAt l i))) := fun y hy => by
    rw [keyAt_eq hi]
    exact range_key (e := Kd.el l[i]) (range_same hat (hy.block g hg))
  have hlK : (keyAt l i).length = 24 := by rw [keyAt_eq hi]; exact ok.len
  have HLK : Hid ((keyAt l i).length = 24) := hlK
  have HLF : Hid (F.length = 24) := hF
  have HLT : Hid (T.length = 24) := hT
  obtain ⟨N, hN⟩ : ∃ N : Nat, N = l.length := ⟨_, rfl⟩
  have hiN : (i : Int) < (N : Int) := by omega
  have hmN : (N : Int) ≤ 9223372036854775807 := by unfold maxLen at hmx; omega
  obtain ⟨g', off', e1, _, hat2, ok2⟩ := els_get h (i + 1) h2
  cases e1
  have HRL : Hid (∀ y, Below w.heap.size w y → y.rangeAt g (off + (i + 1) * 25) (bc (keyAt l (i + 1)))) := fun y hy => by
    rw [keyAt_eq h2]
    exact range_key (e := Kd.el l[i + 1]) (range_same hat2 (hy.block g hg))
  have HLL : Hid ((keyAt l (i + 1)).length = 24) := (show _ = _ by rw [keyAt_eq h2]; exact ok2.len)
  have hJ1 : (i : Int) + 1 < (N : Int) := by omega
  have hJ2 : ((i : Int) + 1 == (N : Int)) = false := by
    have : ¬ (i : Int) + 1 = (N : Int) := by omega
    simpa using this
  have hJ3 : ((i : Int) + 1).toNat = i + 1 := by omega
  have hz : ¬ (0 : Int) < (i : Int) := by omega
  rw [← hN]
  have HS0 : Hid (NS w ((w.alloc (.cells (sc F T e).toArray 27)).alloc (.cells #[.int .u8 0, .int .u8 0, .int .u8 0, .int .u8 0, .int .u8 0, .int .u8 0, .int .u8 0, .int .u8 0, .int .u8 0, .int .u8 0, .int .u8 0, .int .u8 0, .int .u8 0, .int .u8 0, .int .u8 0, .int .u8 0, .int .u8 0, .int .u8 0, .int .u8 0, .int .u8 0, .int .u8 0, .int .u8 0, .int .u8 0, .int .u8 0, .int .u8 0, .int .u8 0, .int .u8 0, .int .u8 0, .int .u8 0, .int .u8 0, .int .u8 0, .int .u8 0, .int .u8 0, .int .u8 0, .int .u8 0, .int .u8 0, .int .u8 0, .int .u8 0, .int .u8 0, .int .u8 0, .int .u8 0, .int .u8 0, .int .u8 0, .int .u8 0, .int .u8 0, .int .u8 0, .int .u8 0, .int .u8 0, .bool false] 27)) F T e) := (show NS _ _ _ _ _ by have := NS.start w F T e hF hT; rw [span_cells] at this; exact this)
  clear h hat ok hmx hlK hF hT hN hi h0 hat2 ok2 h2
  obtain ⟨K, hKd⟩ : ∃ K, K = keyAt l i := ⟨_, rfl⟩
  rw [← hKd] at HRK HLK
  clear hKd
  obtain ⟨L, hLd⟩ : ∃ L, L = keyAt l (i + 1) := ⟨_, rfl⟩
  rw [← hLd] at HRL HLL HRES h4
  clear hLd
  subst h3
  go_enter Tryz.func59, Tryz.ntmps59
  go_upto_region 1 with fail
  go_upto_region 2 with (first
    | (refine load_part _ rfl g (off + i * 25) rfl rfl K HLK.out (HRK.out _ HS0.out.bel) ?_)
    | (refine store_key rfl _ _ rfl (w.heap.size + 2) rfl K rfl HLK.out (zs 24) (zero_has _ _ (by simp)) ?_; intro x1 hk1 tx1 sx1))
  have N1 : NS w x1 F T false := HS0.out.called (step_below (Below.refl _ _) _ (by simpa using tx1))
  have sz1 : w.heap.size + 2 < x1.heap.size := hk1.lt
  clear tx1 sx1 HS0
  go_upto_region 4 with fail
  go_upto_region 6 with fail
  go_upto_region 7 with (first
    | (refine load_part _ rfl g (off + (i + 1) * 25) rfl rfl L HLL.out (HRL.out _ N1.bel) ?_)
    | (refine store_key rfl _ _ rfl x1.heap.size rfl L rfl HLL.out (zs 24) (zero_has _ _ rfl) ?_; intro x5 hk5 tx5 sx5))
  have N5 := N1.stored tx5
  have lt5 : x1.heap.size < x5.heap.size := hk5.lt
  clear N1 tx5 sx5
  generalize x1.heap.size = d at *
  have cE := N5.s.ofE
  go_upto_region 8 with (first
    | (refine load_key _ rfl d rfl rfl L hk5 ?_)
    | (refine load_part _ rfl w.heap.size 24 rfl rfl T HLT.out N5.s.ofT ?_)
    | (go_at_call 68; refine (tless_calls _ _ _ HLL.out HLT.out).mono ?_; rintro e1 w6 ⟨rfl, b6⟩; rw [h4]))
  have N6 := N5.called b6
  have hk6 := hk5.below b6 lt5
  clear N5 hk5 b6 cE
  go_upto_region 9 with (first
    | (refine load_key _ rfl d rfl rfl L hk6 ?_)
    | (refine store_T rfl _ _ rfl w.heap.size rfl L rfl HLL.out _ _ _ N6.s ?_; intro x7 hs7 t7 s7; have N7 := NS.setT N6 hs7 t7; have cE7 := N7.s.ofE; have fE7 := N7.s.freeE))
  have N8 := N7.setE false
  clear N6 hk6 hs7 t7 s7 cE7 fE7 N7
  generalize x7.setCell ⟨w.heap.size, 48, none⟩ (.bool false) = x8 at *
  go_wp2_with (first
    | (refine load_span _ rfl w.heap.size rfl rfl F L false N8.s ?_)
    | (refine store_span rfl _ _ rfl (w.heap.size + 1) rfl F L false rfl N8.s.f N8.s.t (zs 24) (zs 24) false N8.r ?_; intro z hz9 tz9 sz9))
  refine ret_span rfl _ _ _ _ rfl hz9 rfl ⟨?_, ?_⟩
  · rw [HRES.out]
  · exact below_touched N8.bel tz9 (by omega) (Nat.le_refl _)
set_option maxHeartbeats 8000000 in
set_option maxRecDepth 100000 in
theorem narrow_zf (w : World) (F T : List UInt8) (e : Bool) (hF : F.length = 24) (hT : T.length = 24) (ad : Option Addr) (cap : Nat) (l : List Kd) (h : Els w (.slice ad l.length cap) (l.map Kd.el)) (i : Nat) (hi : i < l.length) (h0 : i = 0) (h2 : i + 1 < l.length) (h3 : e = false) (h4 : Op.bytesLess (keyAt l (i + 1)) T = false) :
    Calls Tryz.prog 59 #[sv F T e, .slice ad l.length cap, .int .i64 (i : Int)] w fun x w' => x = .returned (spv (narS ⟨F, T, e⟩ l i)) ∧ Below w.heap.size w w' := by
  have HRES : Hid (narS ⟨F, T, e⟩ l i = ⟨F, T, false⟩) := (show _ = _ by simp [narS, narF, narT, narE, (show ¬ 0 < i by omega), h3, (show ¬ i + 1 = l.length by omega), h4])
  have hmx := (els_max h).2
  obtain ⟨g, off, rfl, hg, hat, ok⟩ := els_get h i hi
  have HRK : Hid (∀ y, Below w.heap.size w y → y.rangeAt g (off + i * 25) (bc (keyAt l i))) := fun y hy => by
    rw [keyAt_eq hi]
    exact range_key (e := Kd.el l[i]) (range_same hat (hy.block g hg))
  have hlK : (keyAt l i).length = 24 := by rw [keyAt_eq hi]; exact ok.len
  have HLK : Hid ((keyAt l i).length = 24) := hlK
  have HLF : Hid (F.length = 24) := hF
  have HLT : Hid (T.length = 24) := hT
  obtain ⟨N, hN⟩ : ∃ N : Nat, N = l.length := ⟨_, rfl⟩
  have hiN : (i : Int) < (N : Int) := by omega
  have hmN : (N : Int) ≤ 9223372036854775807 := by unfold maxLen at hmx; omega
  obtain ⟨g', off', e1, _, hat2, ok2⟩ := els_get h (i + 1) h2
  cases e1
  have HRL : Hid (∀ y, Below w.heap.size w y → y.rangeAt g (off + (i + 1) * 25) (bc (keyAt l (i + 1)))) := fun y hy => by
    rw [keyAt_eq h2]
    exact range_key (e := Kd.el l[i + 1]) (range_same hat2 (hy.block g hg))
  have HLL : Hid ((keyAt l (i + 1)).length = 24) := (show _ = _ by rw [keyAt_eq h2]; exact ok2.len)
  have hJ1 : (i : Int) + 1 < (N : Int) := by omega
  have hJ2 : ((i : Int) + 1 == (N : Int)) = false := by
    have : ¬ (i : Int) + 1 = (N : Int) := by omega
    simpa using this
  have hJ3 : ((i : Int) + 1).toNat = i + 1 := by omega
  have hz : ¬ (0 : Int) < (i : Int) := by omega
  rw [← hN]
  have HS0 : Hid (NS w ((w.alloc (.cells (sc F T e).toArray 27)).alloc (.cells #[.int .u8 0, .int .u8 0, .int .u8 0, .int .u8 0, .int .u8 0, .int .u8 0, .int .u8 0, .int .u8 0, .int .u8 0, .int .u8 0, .int .u8 0, .int .u8 0, .int .u8 0, .int .u8 0, .int .u8 0, .int .u8 0, .int .u8 0, .int .u8 0, .int .u8 0, .int .u8 0, .int .u8 0, .int .u8 0, .int .u8 0, .int .u8 0, .int .u8 0, .int .u8 0, .int .u8 0, .int .u8 0, .int .u8 0, .int .u8 0, .int .u8 0, .int .u8 0, .int .u8 0, .int .u8 0, .int .u8 0, .int .u8 0, .int .u8 0, .int .u8 0, .int .u8 0, .int .u8 0, .int .u8 0, .int .u8 0, .int .u8 0, .int .u8 0, .int .u8 0, .int .u8 0, .int .u8 0, .int .u8 0, .bool false] 27)) F T e) := (show NS _ _ _ _ _ by have := NS.start w F T e hF hT; rw [span_cells] at this; exact this)
  clear h hat ok hmx hlK hF hT hN hi h0 hat2 ok2 h2
  obtain ⟨K, hKd⟩ : ∃ K, K = keyAt l i := ⟨_, rfl⟩
  rw [← hKd] at HRK HLK
  clear hKd
  obtain ⟨L, hLd⟩ : ∃ L, L = keyAt l (i + 1) := ⟨_, rfl⟩
  rw [← hLd] at HRL HLL h4
  clear hLd
  subst h3
  go_enter Tryz.func59, Tryz.ntmps59
  go_upto_region 1 with fail
  go_upto_region 2 with (first
    | (refine load_part _ rfl g (off + i * 25) rfl rfl K HLK.out (HRK.out _ HS0.out.bel) ?_)
    | (refine store_key rfl _ _ rfl (w.heap.size + 2) rfl K rfl HLK.out (zs 24) (zero_has _ _ (by simp)) ?_; intro x1 hk1 tx1 sx1))
  have N1 : NS w x1 F T false := HS0.out.called (step_below (Below.refl _ _) _ (by simpa using tx1))
  have sz1 : w.heap.size + 2 < x1.heap.size := hk1.lt
  clear tx1 sx1 HS0
  go_upto_region 4 with fail
  go_upto_region 6 with fail
  go_upto_region 7 with (first
    | (refine load_part _ rfl g (off + (i + 1) * 25) rfl rfl L HLL.out (HRL.out _ N1.bel) ?_)
    | (refine store_key rfl _ _ rfl x1.heap.size rfl L rfl HLL.out (zs 24) (zero_has _ _ rfl) ?_; intro x5 hk5 tx5 sx5))
  have N5 := N1.stored tx5
  have lt5 : x1.heap.size < x5.heap.size := hk5.lt
  clear N1 tx5 sx5
  generalize x1.heap.size = d at *
  have cE := N5.s.ofE
  go_upto_region 9 with (first
    | (refine load_key _ rfl d rfl rfl L hk5 ?_)
    | (refine load_part _ rfl w.heap.size 24 rfl rfl T HLT.out N5.s.ofT ?_)
    | (go_at_call 68; refine (tless_calls _ _ _ HLL.out HLT.out).mono ?_; rintro e1 w6 ⟨rfl, b6⟩; rw [h4]))
  have N6 := N5.called b6
  have hk6 := hk5.below b6 lt5
  clear N5 hk5 b6 cE
  go_wp2_with (first
    | (refine load_span _ rfl w.heap.size rfl rfl F T false N6.s ?_)
    | (refine store_span rfl _ _ rfl (w.heap.size + 1) rfl F T false rfl N6.s.f N6.s.t (zs 24) (zs 24) false N6.r ?_; intro z hz9 tz9 sz9))
  refine ret_span rfl _ _ _ _ rfl hz9 rfl ⟨?_, ?_⟩
  · rw [HRES.out]
  · exact below_touched N6.bel tz9 (by omega) (Nat.le_refl _)
set_option maxHeartbeats 8000000 in
set_option maxRecDepth 100000 in
theorem narrow_tl (w : World) (F T : List UInt8) (e : Bool) (hF : F.length = 24) (hT : T.length = 24) (ad : Option Addr) (cap : Nat) (l : List Kd) (h : Els w (.slice ad l.length cap) (l.map Kd.el)) (i : Nat) (hi : i < l.length) (h0 : 0 < i) (h1 : Op.bytesLess F (keyAt l i) = true) (h2 : i + 1 = l.length) :
    Calls Tryz.prog 59 #[sv F T e, .slice ad l.length cap, .int .i64 (i : Int)] w fun x w' => x = .returned (spv (narS ⟨F, T, e⟩ l i)) ∧ Below w.heap.size w w' := by
  have HRES : Hid (narS ⟨F, T, e⟩ l i = ⟨keyAt l i, T, e⟩) := (show _ = _ by simp [narS, narF, narT, narE, h0, h1, h2])
  have hmx := (els_max h).2
  obtain ⟨g, off, rfl, hg, hat, ok⟩ := els_get h i hi
  have HRK : Hid (∀ y, Below w.heap.size w y → y.rangeAt g (off + i * 25) (bc (keyAt l i))) := fun y hy => by
    rw [keyAt_eq hi]
    exact range_key (e := Kd.el l[i]) (range_same hat (hy.block g hg))
  have hlK : (keyAt l i).length = 24 := by rw [keyAt_eq hi]; exact ok.len
  have HLK : Hid ((keyAt l i).length = 24) := hlK
  have HLF : Hid (F.length = 24) := hF
  have HLT : Hid (T.length = 24) := hT
  obtain ⟨N, hN⟩ : ∃ N : Nat, N = l.length := ⟨_, rfl⟩
  have hiN : (i : Int) < (N : Int) := by omega
  have hmN : (N : Int) ≤ 9223372036854775807 := by unfold maxLen at hmx; omega
  have hJ2 : ((i : Int) + 1 == (N : Int)) = true := by
    have : (i : Int) + 1 = (N : Int) := by omega
    simpa using this
  have hz : (0 : Int) < (i : Int) := by omega
  rw [← hN]
  have HS0 : Hid (NS w ((w.alloc (.cells (sc F T e).toArray 27)).alloc (.cells #[.int .u8 0, .int .u8 0, .int .u8 0, .int .u8 0, .int .u8 0, .int .u8 0, .int .u8 0, .int .u8 0, .int .u8 0, .int .u8 0, .int .u8 0, .int .u8 0, .int .u8 0, .int .u8 0, .int .u8 0, .int .u8 0, .int .u8 0, .int .u8 0, .int .u8 0, .int .u8 0, .int .u8 0, .int .u8 0, .int .u8 0, .int .u8 0, .int .u8 0, .int .u8 0, .int .u8 0, .int .u8 0, .int .u8 0, .int .u8 0, .int .u8 0, .int .u8 0, .int .u8 0, .int .u8 0, .int .u8 0, .int .u8 0, .int .u8 0, .int .u8 0, .int .u8 0, .int .u8 0, .int .u8 0, .int .u8 0, .int .u8 0, .int .u8 0, .int .u8 0, .int .u8 0, .int .u8 0, .int .u8 0, .bool false] 27)) F T e) := (show NS _ _ _ _ _ by have := NS.start w F T e hF hT; rw [span_cells] at this; exact this)
  clear h hat ok hmx hlK hF hT hN hi h0 h2
  obtain ⟨K, hKd⟩ : ∃ K, K = keyAt l i := ⟨_, rfl⟩
  rw [← hKd] at HRK HLK HRES h1
  clear hKd
  go_enter Tryz.func59, Tryz.ntmps59
  go_upto_region 1 with fail
  go_upto_region 2 with (first
    | (refine load_part _ rfl g (off + i * 25) rfl rfl K HLK.out (HRK.out _ HS0.out.bel) ?_)
    | (refine store_key rfl _ _ rfl (w.heap.size + 2) rfl K rfl HLK.out (zs 24) (zero_has _ _ (by simp)) ?_; intro x1 hk1 tx1 sx1))
  have N1 : NS w x1 F T e := HS0.out.called (step_below (Below.refl _ _) _ (by simpa using tx1))
  have sz1 : w.heap.size + 2 < x1.heap.size := hk1.lt
  clear tx1 sx1 HS0
  go_upto_region 3 with (first
    | (refine load_part _ rfl w.heap.size 0 rfl rfl F HLF.out N1.s.ofF ?_)
    | (refine load_key _ rfl (w.heap.size + 2) rfl rfl K hk1 ?_)
    | (go_at_call 68; refine (tless_calls _ _ _ HLF.out HLK.out).mono ?_; rintro e1 w2 ⟨rfl, b2⟩; rw [h1]))
  have N2 := N1.called b2
  have hk2 := hk1.below b2 sz1
  clear N1 hk1 b2 sz1
  go_upto_region 4 with (first
    | (refine load_key _ rfl (w.heap.size + 2) rfl rfl K hk2 ?_)
    | (refine store_F rfl _ _ rfl w.heap.size rfl K rfl HLK.out _ _ _ N2.s ?_; intro x3 hs3 t3 s3))
  have N3 := N2.setF hs3 t3
  clear N2 hk2 hs3 t3 s3
  go_wp2_with (first
    | (refine load_span _ rfl w.heap.size rfl rfl K T e N3.s ?_)
    | (refine store_span rfl _ _ rfl (w.heap.size + 1) rfl K T e rfl N3.s.f N3.s.t (zs 24) (zs 24) false N3.r ?_; intro z hz9 tz9 sz9))
  refine ret_span rfl _ _ _ _ rfl hz9 rfl ⟨?_, ?_⟩
  · rw [HRES.out]
  · exact below_touched N3.bel tz9 (by omega) (Nat.le_refl _)
set_option maxHeartbeats 8000000 in
set_option maxRecDepth 100000 in
theorem narrow_te (w : World) (F T : List UInt8) (e : Bool) (hF : F.length = 24) (hT : T.length = 24) (ad : Option Addr) (cap : Nat) (l : List Kd) (h : Els w (.slice ad l.length cap) (l.map Kd.el)) (i : Nat) (hi : i < l.length) (h0 : 0 < i) (h1 : Op.bytesLess F (keyAt l i) = true) (h2 : i + 1 < l.length) (h3 : e = true) :
    Calls Tryz.prog 59 #[sv F T e, .slice ad l.length cap, .int .i64 (i : Int)] w fun x w' => x = .returned (spv (narS ⟨F, T, e⟩ l i)) ∧ Below w.heap.size w w' := by
  have HRES : Hid (narS ⟨F, T, e⟩ l i = ⟨keyAt l i, keyAt l (i + 1), false⟩) := (show _ = _ by simp [narS, narF, narT, narE, h0, h1, h3, (show ¬ i + 1 = l.length by omega)])
  have hmx := (els_max h).2
  obtain ⟨g, off, rfl, hg, hat, ok⟩ := els_get h i hi
  have HRK : Hid (∀ y, Below w.heap.size w y → y.rangeAt g (off + i * 25) (bc (keyAt l i))) := fun y hy => by
    rw [keyAt_eq hi]
    exact range_key (e := Kd.el l[i]) (range_same hat (hy.block g hg))
  have hlK : (keyAt l i).length = 24 := by rw [keyAt_eq hi]; exact ok.len
  have HLK : Hid ((keyAt l i).length = 24) := hlK
  have HLF : Hid (F.length = 24) := hF
  have HLT : Hid (T.length = 24) := hT
  obtain ⟨N, hN⟩ : ∃ N : Nat, N = l.length := ⟨_, rfl⟩
  have hiN : (i : Int) < (N : Int) := by omega
  have hmN : (N : Int) ≤ 9223372036854775807 := by unfold maxLen at hmx; omega
  obtain ⟨g', off', e1, _, hat2, ok2⟩ := els_get h (i + 1) h2
  cases e1
  have HRL : Hid (∀ y, Below w.heap.size w y → y.rangeAt g (off + (i + 1) * 25) (bc (keyAt l (i + 1)))) := fun y hy => by
    rw [keyAt_eq h2]
    exact range_key (e := Kd.el l[i + 1]) (range_same hat2 (hy.block g hg))
  have HLL : Hid ((keyAt l (i + 1)).length = 24) := (show _ = _ by rw [keyAt_eq h2]; exact ok2.len)
  have hJ1 : (i : Int) + 1 < (N : Int) := by omega
  have hJ2 : ((i : Int) + 1 == (N : Int)) = false := by
    have : ¬ (i : Int) + 1 = (N : Int) := by omega
    simpa using this
  have hJ3 : ((i : Int) + 1).toNat = i + 1 := by omega
  have hz : (0 : Int) < (i : Int) := by omega
  rw [← hN]
  have HS0 : Hid (NS w ((w.alloc (.cells (sc F T e).toArray 27)).alloc (.cells #[.int .u8 0, .int .u8 0, .int .u8 0, .int .u8 0, .int .u8 0, .int .u8 0, .int .u8 0, .int .u8 0, .int .u8 0, .int .u8 0, .int .u8 0, .int .u8 0, .int .u8 0, .int .u8 0, .int .u8 0, .int .u8 0, .int .u8 0, .int .u8 0, .int .u8 0, .int .u8 0, .int .u8 0, .int .u8 0, .int .u8 0, .int .u8 0, .int .u8 0, .int .u8 0, .int .u8 0, .int .u8 0, .int .u8 0, .int .u8 0, .int .u8 0, .int .u8 0, .int .u8 0, .int .u8 0, .int .u8 0, .int .u8 0, .int .u8 0, .int .u8 0, .int .u8 0, .int .u8 0, .int .u8 0, .int .u8 0, .int .u8 0, .int .u8 0, .int .u8 0, .int .u8 0, .int .u8 0, .int .u8 0, .bool false] 27)) F T e) := (show NS _ _ _ _ _ by have := NS.start w F T e hF hT; rw [span_cells] at this; exact this)
  clear h hat ok hmx hlK hF hT hN hi h0 hat2 ok2 h2
  obtain ⟨K, hKd⟩ : ∃ K, K = keyAt l i := ⟨_, rfl⟩
  rw [← hKd] at HRK HLK HRES h1
  clear hKd
  obtain ⟨L, hLd⟩ : ∃ L, L = keyAt l (i + 1) := ⟨_, rfl⟩
  rw [← hLd] at HRL HLL HRES
  clear hLd
  subst h3
  go_enter Tryz.func59, Tryz.ntmps59
  go_upto_region 1 with fail
  go_upto_region 2 with (first
    | (refine load_part _ rfl g (off + i * 25) rfl rfl K HLK.out (HRK.out _ HS0.out.bel) ?_)
    | (refine store_key rfl _ _ rfl (w.heap.size + 2) rfl K rfl HLK.out (zs 24) (zero_has _ _ (by simp)) ?_; intro x1 hk1 tx1 sx1))
  have N1 : NS w x1 F T true := HS0.out.called (step_below (Below.refl _ _) _ (by simpa using tx1))
  have sz1 : w.heap.size + 2 < x1.heap.size := hk1.lt
  clear tx1 sx1 HS0
  go_upto_region 3 with (first
    | (refine load_part _ rfl w.heap.size 0 rfl rfl F HLF.out N1.s.ofF ?_)
    | (refine load_key _ rfl (w.heap.size + 2) rfl rfl K hk1 ?_)
    | (go_at_call 68; refine (tless_calls _ _ _ HLF.out HLK.out).mono ?_; rintro e1 w2 ⟨rfl, b2⟩; rw [h1]))
  have N2 := N1.called b2
  have hk2 := hk1.below b2 sz1
  clear N1 hk1 b2 sz1
  go_upto_region 4 with (first
    | (refine load_key _ rfl (w.heap.size + 2) rfl rfl K hk2 ?_)
    | (refine store_F rfl _ _ rfl w.heap.size rfl K rfl HLK.out _ _ _ N2.s ?_; intro x3 hs3 t3 s3))
  have N3 := N2.setF hs3 t3
  clear N2 hk2 hs3 t3 s3
  go_upto_region 6 with fail
  go_upto_region 7 with (first
    | (refine load_part _ rfl g (off + (i + 1) * 25) rfl rfl L HLL.out (HRL.out _ N3.bel) ?_)
    | (refine store_key rfl _ _ rfl x3.heap.size rfl L rfl HLL.out (zs 24) (zero_has _ _ rfl) ?_; intro x5 hk5 tx5 sx5))
  have N5 := N3.stored tx5
  have lt5 : x3.heap.size < x5.heap.size := hk5.lt
  clear N3 tx5 sx5
  generalize x3.heap.size = d at *
  have cE := N5.s.ofE
  go_upto_region 8 with fail
  have N6 := N5
  have hk6 := hk5
  clear N5 hk5 cE
  go_upto_region 9 with (first
    | (refine load_key _ rfl d rfl rfl L hk6 ?_)
    | (refine store_T rfl _ _ rfl w.heap.size rfl L rfl HLL.out _ _ _ N6.s ?_; intro x7 hs7 t7 s7; have N7 := NS.setT N6 hs7 t7; have cE7 := N7.s.ofE; have fE7 := N7.s.freeE))
  have N8 := N7.setE false
  clear N6 hk6 hs7 t7 s7 cE7 fE7 N7
  generalize x7.setCell ⟨w.heap.size, 48, none⟩ (.bool false) = x8 at *
  go_wp2_with (first
    | (refine load_span _ rfl w.heap.size rfl rfl K L false N8.s ?_)
    | (refine store_span rfl _ _ rfl (w.heap.size + 1) rfl K L false rfl N8.s.f N8.s.t (zs 24) (zs 24) false N8.r ?_; intro z hz9 tz9 sz9))
  refine ret_span rfl _ _ _ _ rfl hz9 rfl ⟨?_, ?_⟩
  · rw [HRES.out]
  · exact below_touched N8.bel tz9 (by omega) (Nat.le_refl _)
set_option maxHeartbeats 8000000 in
set_option maxRecDepth 100000 in
theorem narrow_tt (w : World) (F T : List UInt8) (e : Bool) (hF : F.length = 24) (hT : T.length = 24) (ad : Option Addr) (cap : Nat) (l : List Kd) (h : Els w (.slice ad l.length cap) (l.map Kd.el)) (i : Nat) (hi : i < l.length) (h0 : 0 < i) (h1 : Op.bytesLess F (keyAt l i) = true) (h2 : i + 1 < l.length) (h3 : e = false) (h4 : Op.bytesLess (keyAt l (i + 1)) T = true) :
    Calls Tryz.prog 59 #[sv F T e, .slice ad l.length cap, .int .i64 (i : Int)] w fun x w' => x = .returned (spv (narS ⟨F, T, e⟩ l i)) ∧ Below w.heap.size w w' := by
  have HRES : Hid (narS ⟨F, T, e⟩ l i = ⟨keyAt l i, keyAt l (i + 1), false⟩) := (show _ = _ by simp [narS, narF, narT, narE, h0, h1, h3, (show ¬ i + 1 = l.length by omega), h4])
  have hmx := (els_max h).2
  obtain ⟨g, off, rfl, hg, hat, ok⟩ := els_get h i hi
  have HRK : Hid (∀ y, Below w.heap.size w y → y.rangeAt g (off + i * 25) (bc (keyAt l i))) := fun y hy => by
    rw [keyAt_eq hi]
    exact range_key (e := Kd.el l[i]) (range_same hat (hy.block g hg))
  have hlK : (keyAt l i).length = 24 := by rw [keyAt_eq hi]; exact ok.len
  have HLK : Hid ((keyAt l i).length = 24) := hlK
  have HLF : Hid (F.length = 24) := hF
  have HLT : Hid (T.length = 24) := hT
  obtain ⟨N, hN⟩ : ∃ N : Nat, N = l.length := ⟨_, rfl⟩
  have hiN : (i : Int) < (N : Int) := by omega
  have hmN : (N : Int) ≤ 9223372036854775807 := by unfold maxLen at hmx; omega
  obtain ⟨g', off', e1, _, hat2, ok2⟩ := els_get h (i + 1) h2
  cases e1
  have HRL : Hid (∀ y, Below w.heap.size w y → y.rangeAt g (off + (i + 1) * 25) (bc (keyAt l (i + 1)))) := fun y hy => by
    rw [keyAt_eq h2]
    exact range_key (e := Kd.el l[i + 1]) (range_same hat2 (hy.block g hg))
  have HLL : Hid ((keyAt l (i + 1)).length = 24) := (show _ = _ by rw [keyAt_eq h2]; exact ok2.len)
  have hJ1 : (i : Int) + 1 < (N : Int) := by omega
  have hJ2 : ((i : Int) + 1 == (N : Int)) = false := by
    have : ¬ (i : Int) + 1 = (N : Int) := by omega
    simpa using this
  have hJ3 : ((i : Int) + 1).toNat = i + 1 := by omega
  have hz : (0 : Int) < (i : Int) := by omega
  rw [← hN]
  have HS0 : Hid (NS w ((w.alloc (.cells (sc F T e).toArray 27)).alloc (.cells #[.int .u8 0, .int .u8 0, .int .u8 0, .int .u8 0, .int .u8 0, .int .u8 0, .int .u8 0, .int .u8 0, .int .u8 0, .int .u8 0, .int .u8 0, .int .u8 0, .int .u8 0, .int .u8 0, .int .u8 0, .int .u8 0, .int .u8 0, .int .u8 0, .int .u8 0, .int .u8 0, .int .u8 0, .int .u8 0, .int .u8 0, .int .u8 0, .int .u8 0, .int .u8 0, .int .u8 0, .int .u8 0, .int .u8 0, .int .u8 0, .int .u8 0, .int .u8 0, .int .u8 0, .int .u8 0, .int .u8 0, .int .u8 0, .int .u8 0, .int .u8 0, .int .u8 0, .int .u8 0, .int .u8 0, .int .u8 0, .int .u8 0, .int .u8 0, .int .u8 0, .int .u8 0, .int .u8 0, .int .u8 0, .bool false] 27)) F T e) := (show NS _ _ _ _ _ by have := NS.start w F T e hF hT; rw [span_cells] at this; exact this)
  clear h hat ok hmx hlK hF hT hN hi h0 hat2 ok2 h2
  obtain ⟨K, hKd⟩ : ∃ K, K = keyAt l i := ⟨_, rfl⟩
  rw [← hKd] at HRK HLK HRES h1
  clear hKd
  obtain ⟨L, hLd⟩ : ∃ L, L = keyAt l (i + 1) := ⟨_, rfl⟩
  rw [← hLd] at HRL HLL HRES h4
  clear hLd
  subst h3
  go_enter Tryz.func59, Tryz.ntmps59
  go_upto_region 1 with fail
  go_upto_region 2 with (first
    | (refine load_part _ rfl g (off + i * 25) rfl rfl K HLK.out (HRK.out _ HS0.out.bel) ?_)
    | (refine store_key rfl _ _ rfl (w.heap.size + 2) rfl K rfl HLK.out (zs 24) (zero_has _ _ (by simp)) ?_; intro x1 hk1 tx1 sx1))
  have N1 : NS w x1 F T false := HS0.out.called (step_below (Below.refl _ _) _ (by simpa using tx1))
  have sz1 : w.heap.size + 2 < x1.heap.size := hk1.lt
  clear tx1 sx1 HS0
  go_upto_region 3 with (first
    | (refine load_part _ rfl w.heap.size 0 rfl rfl F HLF.out N1.s.ofF ?_)
    | (refine load_key _ rfl (w.heap.size + 2) rfl rfl K hk1 ?_)
    | (go_at_call 68; refine (tless_calls _ _ _ HLF.out HLK.out).mono ?_; rintro e1 w2 ⟨rfl, b2⟩; rw [h1]))
  have N2 := N1.called b2
  have hk2 := hk1.below b2 sz1
  clear N1 hk1 b2 sz1
  go_upto_region 4 with (first
    | (refine load_key _ rfl (w.heap.size + 2) rfl rfl K hk2 ?_)
    | (refine store_F rfl _ _ rfl w.heap.size rfl K rfl HLK.out _ _ _ N2.s ?_; intro x3 hs3 t3 s3))
  have N3 := N2.setF hs3 t3
  clear N2 hk2 hs3 t3 s3
  go_upto_region 6 with fail
  go_upto_region 7 with (first
    | (refine load_part _ rfl g (off + (i + 1) * 25) rfl rfl L HLL.out (HRL.out _ N3.bel) ?_)
    | (refine store_key rfl _ _ rfl x3.heap.size rfl L rfl HLL.out (zs 24) (zero_has _ _ rfl) ?_; intro x5 hk5 tx5 sx5))
  have N5 := N3.stored tx5
  have lt5 : x3.heap.size < x5.heap.size := hk5.lt
  clear N3 tx5 sx5
  generalize x3.heap.size = d at *
  have cE := N5.s.ofE
  go_upto_region 8 with (first
    | (refine load_key _ rfl d rfl rfl L hk5 ?_)
    | (refine load_part _ rfl w.heap.size 24 rfl rfl T HLT.out N5.s.ofT ?_)
    | (go_at_call 68; refine (tless_calls _ _ _ HLL.out HLT.out).mono ?_; rintro e1 w6 ⟨rfl, b6⟩; rw [h4]))
  have N6 := N5.called b6
  have hk6 := hk5.below b6 lt5
  clear N5 hk5 b6 cE
  go_upto_region 9 with (first
    | (refine load_key _ rfl d rfl rfl L hk6 ?_)
    | (refine store_T rfl _ _ rfl w.heap.size rfl L rfl HLL.out _ _ _ N6.s ?_; intro x7 hs7 t7 s7; have N7 := NS.setT N6 hs7 t7; have cE7 := N7.s.ofE; have fE7 := N7.s.freeE))
  have N8 := N7.setE false
  clear N6 hk6 hs7 t7 s7 cE7 fE7 N7
  generalize x7.setCell ⟨w.heap.size, 48, none⟩ (.bool false) = x8 at *
  go_wp2_with (first
    | (refine load_span _ rfl w.heap.size rfl rfl K L false N8.s ?_)
    | (refine store_span rfl _ _ rfl (w.heap.size + 1) rfl K L false rfl N8.s.f N8.s.t (zs 24) (zs 24) false N8.r ?_; intro z hz9 tz9 sz9))
  refine ret_span rfl _ _ _ _ rfl hz9 rfl ⟨?_, ?_⟩
  · rw [HRES.out]
  · exact below_touched N8.bel tz9 (by omega) (Nat.le_refl _)
set_option maxHeartbeats 8000000 in
set_option maxRecDepth 100000 in
theorem narrow_tf (w : World) (F T : List UInt8) (e : Bool) (hF : F.length = 24) (hT : T.length = 24) (ad : Option Addr) (cap : Nat) (l : List Kd) (h : Els w (.slice ad l.length cap) (l.map Kd.el)) (i : Nat) (hi : i < l.length) (h0 : 0 < i) (h1 : Op.bytesLess F (keyAt l i) = true) (h2 : i + 1 < l.length) (h3 : e = false) (h4 : Op.bytesLess (keyAt l (i + 1)) T = false) :
    Calls Tryz.prog 59 #[sv F T e, .slice ad l.length cap, .int .i64 (i : Int)] w fun x w' => x = .returned (spv (narS ⟨F, T, e⟩ l i)) ∧ Below w.heap.size w w' := by
  have HRES : Hid (narS ⟨F, T, e⟩ l i = ⟨keyAt l i, T, false⟩) := (show _ = _ by simp [narS, narF, narT, narE, h0, h1, h3, (show ¬ i + 1 = l.length by omega), h4])
  have hmx := (els_max h).2
  obtain ⟨g, off, rfl, hg, hat, ok⟩ := els_get h i hi
  have HRK : Hid (∀ y, Below w.heap.size w y → y.rangeAt g (off + i * 25) (bc (keyAt l i))) := fun y hy => by
    rw [keyAt_eq hi]
    exact range_key (e := Kd.el l[i]) (range_same hat (hy.block g hg))
  have hlK : (keyAt l i).length = 24 := by rw [keyAt_eq hi]; exact ok.len
  have HLK : Hid ((keyAt l i).length = 24) := hlK
  have HLF : Hid (F.length = 24) := hF
  have HLT : Hid (T.length = 24) := hT
  obtain ⟨N, hN⟩ : ∃ N : Nat, N = l.length := ⟨_, rfl⟩
  have hiN : (i : Int) < (N : Int) := by omega
  have hmN : (N : Int) ≤ 9223372036854775807 := by unfold maxLen at hmx; omega
  obtain ⟨g', off', e1, _, hat2, ok2⟩ := els_get h (i + 1) h2
  cases e1
  have HRL : Hid (∀ y, Below w.heap.size w y → y.rangeAt g (off + (i + 1) * 25) (bc (keyAt l (i + 1)))) := fun y hy => by
    rw [keyAt_eq h2]
    exact range_key (e := Kd.el l[i + 1]) (range_same hat2 (hy.block g hg))
  have HLL : Hid ((keyAt l (i + 1)).length = 24) := (show _ = _ by rw [keyAt_eq h2]; exact ok2.len)
  have hJ1 : (i : Int) + 1 < (N : Int) := by omega
  have hJ2 : ((i : Int) + 1 == (N : Int)) = false := by
    have : ¬ (i : Int) + 1 = (N : Int) := by omega
    simpa using this
  have hJ3 : ((i : Int) + 1).toNat = i + 1 := by omega
  have hz : (0 : Int) < (i : Int) := by omega
  rw [← hN]
  have HS0 : Hid (NS w ((w.alloc (.cells (sc F T e).toArray 27)).alloc (.cells #[.int .u8 0, .int .u8 0, .int .u8 0, .int .u8 0, .int .u8 0, .int .u8 0, .int .u8 0, .int .u8 0, .int .u8 0, .int .u8 0, .int .u8 0, .int .u8 0, .int .u8 0, .int .u8 0, .int .u8 0, .int .u8 0, .int .u8 0, .int .u8 0, .int .u8 0, .int .u8 0, .int .u8 0, .int .u8 0, .int .u8 0, .int .u8 0, .int .u8 0, .int .u8 0, .int .u8 0, .int .u8 0, .int .u8 0, .int .u8 0, .int .u8 0, .int .u8 0, .int .u8 0, .int .u8 0, .int .u8 0, .int .u8 0, .int .u8 0, .int .u8 0, .int .u8 0, .int .u8 0, .int .u8 0, .int .u8 0, .int .u8 0, .int .u8 0, .int .u8 0, .int .u8 0, .int .u8 0, .int .u8 0, .bool false] 27)) F T e) := (show NS _ _ _ _ _ by have := NS.start w F T e hF hT; rw [span_cells] at this; exact this)
  clear h hat ok hmx hlK hF hT hN hi h0 hat2 ok2 h2
  obtain ⟨K, hKd⟩ : ∃ K, K = keyAt l i := ⟨_, rfl⟩
  rw [← hKd] at HRK HLK HRES h1
  clear hKd
  obtain ⟨L, hLd⟩ : ∃ L, L = keyAt l (i + 1) := ⟨_, rfl⟩
  rw [← hLd] at HRL HLL h4
  clear hLd
  subst h3
  go_enter Tryz.func59, Tryz.ntmps59
  go_upto_region 1 with fail
  go_upto_region 2 with (first
    | (refine load_part _ rfl g (off + i * 25) rfl rfl K HLK.out (HRK.out _ HS0.out.bel) ?_)
    | (refine store_key rfl _ _ rfl (w.heap.size + 2) rfl K rfl HLK.out (zs 24) (zero_has _ _ (by simp)) ?_; intro x1 hk1 tx1 sx1))
  have N1 : NS w x1 F T false := HS0.out.called (step_below (Below.refl _ _) _ (by simpa using tx1))
  have sz1 : w.heap.size + 2 < x1.heap.size := hk1.lt
  clear tx1 sx1 HS0
  go_upto_region 3 with (first
    | (refine load_part _ rfl w.heap.size 0 rfl rfl F HLF.out N1.s.ofF ?_)
    | (refine load_key _ rfl (w.heap.size + 2) rfl rfl K hk1 ?_)
    | (go_at_call 68; refine (tless_calls _ _ _ HLF.out HLK.out).mono ?_; rintro e1 w2 ⟨rfl, b2⟩; rw [h1]))
  have N2 := N1.called b2
  have hk2 := hk1.below b2 sz1
  clear N1 hk1 b2 sz1
  go_upto_region 4 with (first
    | (refine load_key _ rfl (w.heap.size + 2) rfl rfl K hk2 ?_)
    | (refine store_F rfl _ _ rfl w.heap.size rfl K rfl HLK.out _ _ _ N2.s ?_; intro x3 hs3 t3 s3))
  have N3 := N2.setF hs3 t3
  clear N2 hk2 hs3 t3 s3
  go_upto_region 6 with fail
  go_upto_region 7 with (first
    | (refine load_part _ rfl g (off + (i + 1) * 25) rfl rfl L HLL.out (HRL.out _ N3.bel) ?_)
    | (refine store_key rfl _ _ rfl x3.heap.size rfl L rfl HLL.out (zs 24) (zero_has _ _ rfl) ?_; intro x5 hk5 tx5 sx5))
  have N5 := N3.stored tx5
  have lt5 : x3.heap.size < x5.heap.size := hk5.lt
  clear N3 tx5 sx5
  generalize x3.heap.size = d at *
  have cE := N5.s.ofE
  go_upto_region 9 with (first
    | (refine load_key _ rfl d rfl rfl L hk5 ?_)
    | (refine load_part _ rfl w.heap.size 24 rfl rfl T HLT.out N5.s.ofT ?_)
    | (go_at_call 68; refine (tless_calls _ _ _ HLL.out HLT.out).mono ?_; rintro e1 w6 ⟨rfl, b6⟩; rw [h4]))
  have N6 := N5.called b6
  have hk6 := hk5.below b6 lt5
  clear N5 hk5 b6 cE
  go_wp2_with (first
    | (refine load_span _ rfl w.heap.size rfl rfl K T false N6.s ?_)
    | (refine store_span rfl _ _ rfl (w.heap.size + 1) rfl K T false rfl N6.s.f N6.s.t (zs 24) (zs 24) false N6.r ?_; intro z hz9 tz9 sz9))
  refine ret_span rfl _ _ _ _ rfl hz9 rfl ⟨?_, ?_⟩
  · rw [HRES.out]
  · exact below_touched N6.bel tz9 (by omega) (Nat.le_refl _)
set_option maxHeartbeats 8000000 in
set_option maxRecDepth 100000 in
theorem narrow_fl (w : World) (F T : List UInt8) (e : Bool) (hF : F.length = 24) (hT : T.length = 24) (ad : Option Addr) (cap : Nat) (l : List Kd) (h : Els w (.slice ad l.length cap) (l.map Kd.el)) (i : Nat) (hi : i < l.length) (h0 : 0 < i) (h1 : Op.bytesLess F (keyAt l i) = false) (h2 : i + 1 = l.length) :
    Calls Tryz.prog 59 #[sv F T e, .slice ad l.length cap, .int .i64 (i : Int)] w fun x w' => x = .returned (spv (narS ⟨F, T, e⟩ l i)) ∧ Below w.heap.size w w' := by
  have HRES : Hid (narS ⟨F, T, e⟩ l i = ⟨F, T, e⟩) := (show _ = _ by simp [narS, narF, narT, narE, h0, h1, h2])
  have hmx := (els_max h).2
  obtain ⟨g, off, rfl, hg, hat, ok⟩ := els_get h i hi
  have HRK : Hid (∀ y, Below w.heap.size w y → y.rangeAt g (off + i * 25) (bc (keyAt l i))) := fun y hy => by
    rw [keyAt_eq hi]
    exact range_key (e := Kd.el l[i]) (range_same hat (hy.block g hg))
  have hlK : (keyAt l i).length = 24 := by rw [keyAt_eq hi]; exact ok.len
  have HLK : Hid ((keyAt l i).length = 24) := hlK
  have HLF : Hid (F.length = 24) := hF
  have HLT : Hid (T.length = 24) := hT
  obtain ⟨N, hN⟩ : ∃ N : Nat, N = l.length := ⟨_, rfl⟩
  have hiN : (i : Int) < (N : Int) := by omega
  have hmN : (N : Int) ≤ 9223372036854775807 := by unfold maxLen at hmx; omega
  have hJ2 : ((i : Int) + 1 == (N : Int)) = true := by
    have : (i : Int) + 1 = (N : Int) := by omega
    simpa using this
  have hz : (0 : Int) < (i : Int) := by omega
  rw [← hN]
  have HS0 : Hid (NS w ((w.alloc (.cells (sc F T e).toArray 27)).alloc (.cells #[.int .u8 0, .int .u8 0, .int .u8 0, .int .u8 0, .int .u8 0, .int .u8 0, .int .u8 0, .int .u8 0, .int .u8 0, .int .u8 0, .int .u8 0, .int .u8 0, .int .u8 0, .int .u8 0, .int .u8 0, .int .u8 0, .int .u8 0, .int .u8 0, .int .u8 0, .int .u8 0, .int .u8 0, .int .u8 0, .int .u8 0, .int .u8 0, .int .u8 0, .int .u8 0, .int .u8 0, .int .u8 0, .int .u8 0, .int .u8 0, .int .u8 0, .int .u8 0, .int .u8 0, .int .u8 0, .int .u8 0, .int .u8 0, .int .u8 0, .int .u8 0, .int .u8 0, .int .u8 0, .int .u8 0, .int .u8 0, .int .u8 0, .int .u8 0, .int .u8 0, .int .u8 0, .int .u8 0, .int .u8 0, .bool false] 27)) F T e) := (show NS _ _ _ _ _ by have := NS.start w F T e hF hT; rw [span_cells] at this; exact this)
  clear h hat ok hmx hlK hF hT hN hi h0 h2
  obtain ⟨K, hKd⟩ : ∃ K, K = keyAt l i := ⟨_, rfl⟩
  rw [← hKd] at HRK HLK h1
  clear hKd
  go_enter Tryz.func59, Tryz.ntmps59
  go_upto_region 1 with fail
  go_upto_region 2 with (first
    | (refine load_part _ rfl g (off + i * 25) rfl rfl K HLK.out (HRK.out _ HS0.out.bel) ?_)
    | (refine store_key rfl _ _ rfl (w.heap.size + 2) rfl K rfl HLK.out (zs 24) (zero_has _ _ (by simp)) ?_; intro x1 hk1 tx1 sx1))
  have N1 : NS w x1 F T e := HS0.out.called (step_below (Below.refl _ _) _ (by simpa using tx1))
  have sz1 : w.heap.size + 2 < x1.heap.size := hk1.lt
  clear tx1 sx1 HS0
  go_upto_region 4 with (first
    | (refine load_part _ rfl w.heap.size 0 rfl rfl F HLF.out N1.s.ofF ?_)
    | (refine load_key _ rfl (w.heap.size + 2) rfl rfl K hk1 ?_)
    | (go_at_call 68; refine (tless_calls _ _ _ HLF.out HLK.out).mono ?_; rintro e1 w2 ⟨rfl, b2⟩; rw [h1]))
  have N2 := N1.called b2
  have hk2 := hk1.below b2 sz1
  clear N1 hk1 b2 sz1
  go_wp2_with (first
    | (refine load_span _ rfl w.heap.size rfl rfl F T e N2.s ?_)
    | (refine store_span rfl _ _ rfl (w.heap.size + 1) rfl F T e rfl N2.s.f N2.s.t (zs 24) (zs 24) false N2.r ?_; intro z hz9 tz9 sz9))
  refine ret_span rfl _ _ _ _ rfl hz9 rfl ⟨?_, ?_⟩
  · rw [HRES.out]
  · exact below_touched N2.bel tz9 (by omega) (Nat.le_refl _)
set_option maxHeartbeats 8000000 in
set_option maxRecDepth 100000 in
theorem narrow_fe (w : World) (F T : List UInt8) (e : Bool) (hF : F.length = 24) (hT : T.length = 24) (ad : Option Addr) (cap : Nat) (l : List Kd) (h : Els w (.slice ad l.length cap) (l.map Kd.el)) (i : Nat) (hi : i < l.length) (h0 : 0 < i) (h1 : Op.bytesLess F (keyAt l i) = false) (h2 : i + 1 < l.length) (h3 : e = true) :
    Calls Tryz.prog 59 #[sv F T e, .slice ad l.length cap, .int .i64 (i : Int)] w fun x w' => x = .returned (spv (narS ⟨F, T, e⟩ l i)) ∧ Below w.heap.size w w' := by
  have HRES : Hid (narS ⟨F, T, e⟩ l i = ⟨F, keyAt l (i + 1), false⟩) := (show _ = _ by simp [narS, narF, narT, narE, h0, h1, h3, (show ¬ i + 1 = l.length by omega)])
  have hmx := (els_max h).2
  obtain ⟨g, off, rfl, hg, hat, ok⟩ := els_get h i hi
  have HRK : Hid (∀ y, Below w.heap.size w y → y.rangeAt g (off + i * 25) (bc (keyAt l i))) := fun y hy => by
    rw [keyAt_eq hi]
    exact range_key (e := Kd.el l[i]) (range_same hat (hy.block g hg))
  have hlK : (keyAt l i).length = 24 := by rw [keyAt_eq hi]; exact ok.len
  have HLK : Hid ((keyAt l i).length = 24) := hlK
  have HLF : Hid (F.length = 24) := hF
  have HLT : Hid (T.length = 24) := hT
  obtain ⟨N, hN⟩ : ∃ N : Nat, N = l.length := ⟨_, rfl⟩
  have hiN : (i : Int) < (N : Int) := by omega
  have hmN : (N : Int) ≤ 9223372036854775807 := by unfold maxLen at hmx; omega
  obtain ⟨g', off', e1, _, hat2, ok2⟩ := els_get h (i + 1) h2
  cases e1
  have HRL : Hid (∀ y, Below w.heap.size w y → y.rangeAt g (off + (i + 1) * 25) (bc (keyAt l (i + 1)))) := fun y hy => by
    rw [keyAt_eq h2]
    exact range_key (e := Kd.el l[i + 1]) (range_same hat2 (hy.block g hg))
  have HLL : Hid ((keyAt l (i + 1)).length = 24) := (show _ = _ by rw [keyAt_eq h2]; exact ok2.len)
  have hJ1 : (i : Int) + 1 < (N : Int) := by omega
  have hJ2 : ((i : Int) + 1 == (N : Int)) = false := by
    have : ¬ (i : Int) + 1 = (N : Int) := by omega
    simpa using this
  have hJ3 : ((i : Int) + 1).toNat = i + 1 := by omega
  have hz : (0 : Int) < (i : Int) := by omega
  rw [← hN]
  have HS0 : Hid (NS w ((w.alloc (.cells (sc F T e).toArray 27)).alloc (.cells #[.int .u8 0, .int .u8 0, .int .u8 0, .int .u8 0, .int .u8 0, .int .u8 0, .int .u8 0, .int .u8 0, .int .u8 0, .int .u8 0, .int .u8 0, .int .u8 0, .int .u8 0, .int .u8 0, .int .u8 0, .int .u8 0, .int .u8 0, .int .u8 0, .int .u8 0, .int .u8 0, .int .u8 0, .int .u8 0, .int .u8 0, .int .u8 0, .int .u8 0, .int .u8 0, .int .u8 0, .int .u8 0, .int .u8 0, .int .u8 0, .int .u8 0, .int .u8 0, .int .u8 0, .int .u8 0, .int .u8 0, .int .u8 0, .int .u8 0, .int .u8 0, .int .u8 0, .int .u8 0, .int .u8 0, .int .u8 0, .int .u8 0, .int .u8 0, .int .u8 0, .int .u8 0, .int .u8 0, .int .u8 0, .bool false] 27)) F T e) := (show NS _ _ _ _ _ by have := NS.start w F T e hF hT; rw [span_cells] at this; exact this)
  clear h hat ok hmx hlK hF hT hN hi h0 hat2 ok2 h2
  obtain ⟨K, hKd⟩ : ∃ K, K = keyAt l i := ⟨_, rfl⟩
  rw [← hKd] at HRK HLK h1
  clear hKd
  obtain ⟨L, hLd⟩ : ∃ L, L = keyAt l (i + 1) := ⟨_, rfl⟩
  rw [← hLd] at HRL HLL HRES
  clear hLd
  subst h3
  go_enter Tryz.func59, Tryz.ntmps59
  go_upto_region 1 with fail
  go_upto_region 2 with (first
    | (refine load_part _ rfl g (off + i * 25) rfl rfl K HLK.out (HRK.out _ HS0.out.bel) ?_)
    | (refine store_key rfl _ _ rfl (w.heap.size + 2) rfl K rfl HLK.out (zs 24) (zero_has _ _ (by simp)) ?_; intro x1 hk1 tx1 sx1))
  have N1 : NS w x1 F T true := HS0.out.called (step_below (Below.refl _ _) _ (by simpa using tx1))
  have sz1 : w.heap.size + 2 < x1.heap.size := hk1.lt
  clear tx1 sx1 HS0
  go_upto_region 4 with (first
    | (refine load_part _ rfl w.heap.size 0 rfl rfl F HLF.out N1.s.ofF ?_)
    | (refine load_key _ rfl (w.heap.size + 2) rfl rfl K hk1 ?_)
    | (go_at_call 68; refine (tless_calls _ _ _ HLF.out HLK.out).mono ?_; rintro e1 w2 ⟨rfl, b2⟩; rw [h1]))
  have N2 := N1.called b2
  have hk2 := hk1.below b2 sz1
  clear N1 hk1 b2 sz1
  go_upto_region 6 with fail
  go_upto_region 7 with (first
    | (refine load_part _ rfl g (off + (i + 1) * 25) rfl rfl L HLL.out (HRL.out _ N2.bel) ?_)
    | (refine store_key rfl _ _ rfl w2.heap.size rfl L rfl HLL.out (zs 24) (zero_has _ _ rfl) ?_; intro x5 hk5 tx5 sx5))
  have N5 := N2.stored tx5
  have lt5 : w2.heap.size < x5.heap.size := hk5.lt
  clear N2 tx5 sx5
  generalize w2.heap.size = d at *
  have cE := N5.s.ofE
  go_upto_region 8 with fail
  have N6 := N5
  have hk6 := hk5
  clear N5 hk5 cE
  go_upto_region 9 with (first
    | (refine load_key _ rfl d rfl rfl L hk6 ?_)
    | (refine store_T rfl _ _ rfl w.heap.size rfl L rfl HLL.out _ _ _ N6.s ?_; intro x7 hs7 t7 s7; have N7 := NS.setT N6 hs7 t7; have cE7 := N7.s.ofE; have fE7 := N7.s.freeE))
  have N8 := N7.setE false
  clear N6 hk6 hs7 t7 s7 cE7 fE7 N7
  generalize x7.setCell ⟨w.heap.size, 48, none⟩ (.bool false) = x8 at *
  go_wp2_with (first
    | (refine load_span _ rfl w.heap.size rfl rfl F L false N8.s ?_)
    | (refine store_span rfl _ _ rfl (w.heap.size + 1) rfl F L false rfl N8.s.f N8.s.t (zs 24) (zs 24) false N8.r ?_; intro z hz9 tz9 sz9))
  refine ret_span rfl _ _ _ _ rfl hz9 rfl ⟨?_, ?_⟩
  · rw [HRES.out]
  · exact below_touched N8.bel tz9 (by omega) (Nat.le_refl _)
set_option maxHeartbeats 8000000 in
set_option maxRecDepth 100000 in
theorem narrow_ft (w : World) (F T : List UInt8) (e : Bool) (hF : F.length = 24) (hT : T.length = 24) (ad : Option Addr) (cap : Nat) (l : List Kd) (h : Els w (.slice ad l.length cap) (l.map Kd.el)) (i : Nat) (hi : i < l.length) (h0 : 0 < i) (h1 : Op.bytesLess F (keyAt l i) = false) (h2 : i + 1 < l.length) (h3 : e = false) (h4 : Op.bytesLess (keyAt l (i + 1)) T = true) :
    Calls Tryz.prog 59 #[sv F T e, .slice ad l.length cap, .int .i64 (i : Int)] w fun x w' => x = .returned (spv (narS ⟨F, T, e⟩ l i)) ∧ Below w.heap.size w w' := by
  have HRES : Hid (narS ⟨F, T, e⟩ l i = ⟨F, keyAt l (i + 1), false⟩) := (show _ = _ by simp [narS, narF, narT, narE, h0, h1, h3, (show ¬ i + 1 = l.length by omega), h4])
  have hmx := (els_max h).2
  obtain ⟨g, off, rfl, hg, hat, ok⟩ := els_get h i hi
  have HRK : Hid (∀ y, Below w.heap.size w y → y.rangeAt g (off + i * 25) (bc (keyAt l i))) := fun y hy => by
    rw [keyAt_eq hi]
    exact range_key (e := Kd.el l[i]) (range_same hat (hy.block g hg))
  have hlK : (keyAt l i).length = 24 := by rw [keyAt_eq hi]; exact ok.len
  have HLK : Hid ((keyAt l i).length = 24) := hlK
  have HLF : Hid (F.length = 24) := hF
  have HLT : Hid (T.length = 24) := hT
  obtain ⟨N, hN⟩ : ∃ N : Nat, N = l.length := ⟨_, rfl⟩
  have hiN : (i : Int) < (N : Int) := by omega
  have hmN : (N : Int) ≤ 9223372036854775807 := by unfold maxLen at hmx; omega
  obtain ⟨g', off', e1, _, hat2, ok2⟩ := els_get h (i + 1) h2
  cases e1
  have HRL : Hid (∀ y, Below w.heap.size w y → y.rangeAt g (off + (i + 1) * 25) (bc (keyAt l (i + 1)))) := fun y hy => by
    rw [keyAt_eq h2]
    exact range_key (e := Kd.el l[i + 1]) (range_same hat2 (hy.block g hg))
  have HLL : Hid ((keyAt l (i + 1)).length = 24) := (show _ = _ by rw [keyAt_eq h2]; exact ok2.len)
  have hJ1 : (i : Int) + 1 < (N : Int) := by omega
  have hJ2 : ((i : Int) + 1 == (N : Int)) = false := by
    have : ¬ (i : Int) + 1 = (N : Int) := by omega
    simpa using this
  have hJ3 : ((i : Int) + 1).toNat = i + 1 := by omega
  have hz : (0 : Int) < (i : Int) := by omega
  rw [← hN]
  have HS0 : Hid (NS w ((w.alloc (.cells (sc F T e).toArray 27)).alloc (.cells #[.int .u8 0, .int .u8 0, .int .u8 0, .int .u8 0, .int .u8 0, .int .u8 0, .int .u8 0, .int .u8 0, .int .u8 0, .int .u8 0, .int .u8 0, .int .u8 0, .int .u8 0, .int .u8 0, .int .u8 0, .int .u8 0, .int .u8 0, .int .u8 0, .int .u8 0, .int .u8 0, .int .u8 0, .int .u8 0, .int .u8 0, .int .u8 0, .int .u8 0, .int .u8 0, .int .u8 0, .int .u8 0, .int .u8 0, .int .u8 0, .int .u8 0, .int .u8 0, .int .u8 0, .int .u8 0, .int .u8 0, .int .u8 0, .int .u8 0, .int .u8 0, .int .u8 0, .int .u8 0, .int .u8 0, .int .u8 0, .int .u8 0, .int .u8 0, .int .u8 0, .int .u8 0, .int .u8 0, .int .u8 0, .bool false] 27)) F T e) := (show NS _ _ _ _ _ by have := NS.start w F T e hF hT; rw [span_cells] at this; exact this)
  clear h hat ok hmx hlK hF hT hN hi h0 hat2 ok2 h2
  obtain ⟨K, hKd⟩ : ∃ K, K = keyAt l i := ⟨_, rfl⟩
  rw [← hKd] at HRK HLK h1
  clear hKd
  obtain ⟨L, hLd⟩ : ∃ L, L = keyAt l (i + 1) := ⟨_, rfl⟩
  rw [← hLd] at HRL HLL HRES h4
  clear hLd
  subst h3
  go_enter Tryz.func59, Tryz.ntmps59
  go_upto_region 1 with fail
  go_upto_region 2 with (first
    | (refine load_part _ rfl g (off + i * 25) rfl rfl K HLK.out (HRK.out _ HS0.out.bel) ?_)
    | (refine store_key rfl _ _ rfl (w.heap.size + 2) rfl K rfl HLK.out (zs 24) (zero_has _ _ (by simp)) ?_; intro x1 hk1 tx1 sx1))
  have N1 : NS w x1 F T false := HS0.out.called (step_below (Below.refl _ _) _ (by simpa using tx1))
  have sz1 : w.heap.size + 2 < x1.heap.size := hk1.lt
  clear tx1 sx1 HS0
  go_upto_region 4 with (first
    | (refine load_part _ rfl w.heap.size 0 rfl rfl F HLF.out N1.s.ofF ?_)
    | (refine load_key _ rfl (w.heap.size + 2) rfl rfl K hk1 ?_)
    | (go_at_call 68; refine (tless_calls _ _ _ HLF.out HLK.out).mono ?_; rintro e1 w2 ⟨rfl, b2⟩; rw [h1]))
  have N2 := N1.called b2
  have hk2 := hk1.below b2 sz1
  clear N1 hk1 b2 sz1
  go_upto_region 6 with fail
  go_upto_region 7 with (first
    | (refine load_part _ rfl g (off + (i + 1) * 25) rfl rfl L HLL.out (HRL.out _ N2.bel) ?_)
    | (refine store_key rfl _ _ rfl w2.heap.size rfl L rfl HLL.out (zs 24) (zero_has _ _ rfl) ?_; intro x5 hk5 tx5 sx5))
  have N5 := N2.stored tx5
  have lt5 : w2.heap.size < x5.heap.size := hk5.lt
  clear N2 tx5 sx5
  generalize w2.heap.size = d at *
  have cE := N5.s.ofE
  go_upto_region 8 with (first
    | (refine load_key _ rfl d rfl rfl L hk5 ?_)
    | (refine load_part _ rfl w.heap.size 24 rfl rfl T HLT.out N5.s.ofT ?_)
    | (go_at_call 68; refine (tless_calls _ _ _ HLL.out HLT.out).mono ?_; rintro e1 w6 ⟨rfl, b6⟩; rw [h4]))
  have N6 := N5.called b6
  have hk6 := hk5.below b6 lt5
  clear N5 hk5 b6 cE
  go_upto_region 9 with (first
    | (refine load_key _ rfl d rfl rfl L hk6 ?_)
    | (refine store_T rfl _ _ rfl w.heap.size rfl L rfl HLL.out _ _ _ N6.s ?_; intro x7 hs7 t7 s7; have N7 := NS.setT N6 hs7 t7; have cE7 := N7.s.ofE; have fE7 := N7.s.freeE))
  have N8 := N7.setE false
  clear N6 hk6 hs7 t7 s7 cE7 fE7 N7
  generalize x7.setCell ⟨w.heap.size, 48, none⟩ (.bool false) = x8 at *
  go_wp2_with (first
    | (refine load_span _ rfl w.heap.size rfl rfl F L false N8.s ?_)
    | (refine store_span rfl _ _ rfl (w.heap.size + 1) rfl F L false rfl N8.s.f N8.s.t (zs 24) (zs 24) false N8.r ?_; intro z hz9 tz9 sz9))
  refine ret_span rfl _ _ _ _ rfl hz9 rfl ⟨?_, ?_⟩
  · rw [HRES.out]
  · exact below_touched N8.bel tz9 (by omega) (Nat.le_refl _)
set_option maxHeartbeats 8000000 in
set_option maxRecDepth 100000 in
theorem narrow_ff (w : World) (F T : List UInt8) (e : Bool) (hF : F.length = 24) (hT : T.length = 24) (ad : Option Addr) (cap : Nat) (l : List Kd) (h : Els w (.slice ad l.length cap) (l.map Kd.el)) (i : Nat) (hi : i < l.length) (h0 : 0 < i) (h1 : Op.bytesLess F (keyAt l i) = false) (h2 : i + 1 < l.length) (h3 : e = false) (h4 : Op.bytesLess (keyAt l (i + 1)) T = false) :
    Calls Tryz.prog 59 #[sv F T e, .slice ad l.length cap, .int .i64 (i : Int)] w fun x w' => x = .returned (spv (narS ⟨F, T, e⟩ l i)) ∧ Below w.heap.size w w' := by
  have HRES : Hid (narS ⟨F, T, e⟩ l i = ⟨F, T, false⟩) := (show _ = _ by simp [narS, narF, narT, narE, h0, h1, h3, (show ¬ i + 1 = l.length by omega), h4])
  have hmx := (els_max h).2
  obtain ⟨g, off, rfl, hg, hat, ok⟩ := els_get h i hi
  have HRK : Hid (∀ y, Below w.heap.size w y → y.rangeAt g (off + i * 25) (bc (keyAt l i))) := fun y hy => by
    rw [keyAt_eq hi]
    exact range_key (e := Kd.el l[i]) (range_same hat (hy.block g hg))
  have hlK : (keyAt l i).length = 24 := by rw [keyAt_eq hi]; exact ok.len
  have HLK : Hid ((keyAt l i).length = 24) := hlK
  have HLF : Hid (F.length = 24) := hF
  have HLT : Hid (T.length = 24) := hT
  obtain ⟨N, hN⟩ : ∃ N : Nat, N = l.length := ⟨_, rfl⟩
  have hiN : (i : Int) < (N : Int) := by omega
  have hmN : (N : Int) ≤ 9223372036854775807 := by unfold maxLen at hmx; omega
  obtain ⟨g', off', e1, _, hat2, ok2⟩ := els_get h (i + 1) h2
  cases e1
  have HRL : Hid (∀ y, Below w.heap.size w y → y.rangeAt g (off + (i + 1) * 25) (bc (keyAt l (i + 1)))) := fun y hy => by
    rw [keyAt_eq h2]
    exact range_key (e := Kd.el l[i + 1]) (range_same hat2 (hy.block g hg))
  have HLL : Hid ((keyAt l (i + 1)).length = 24) := (show _ = _ by rw [keyAt_eq h2]; exact ok2.len)
  have hJ1 : (i : Int) + 1 < (N : Int) := by omega
  have hJ2 : ((i : Int) + 1 == (N : Int)) = false := by
    have : ¬ (i : Int) + 1 = (N : Int) := by omega
    simpa using this
  have hJ3 : ((i : Int) + 1).toNat = i + 1 := by omega
  have hz : (0 : Int) < (i : Int) := by omega
  rw [← hN]
  have HS0 : Hid (NS w ((w.alloc (.cells (sc F T e).toArray 27)).alloc (.cells #[.int .u8 0, .int .u8 0, .int .u8 0, .int .u8 0, .int .u8 0, .int .u8 0, .int .u8 0, .int .u8 0, .int .u8 0, .int .u8 0, .int .u8 0, .int .u8 0, .int .u8 0, .int .u8 0, .int .u8 0, .int .u8 0, .int .u8 0, .int .u8 0, .int .u8 0, .int .u8 0, .int .u8 0, .int .u8 0, .int .u8 0, .int .u8 0, .int .u8 0, .int .u8 0, .int .u8 0, .int .u8 0, .int .u8 0, .int .u8 0, .int .u8 0, .int .u8 0, .int .u8 0, .int .u8 0, .int .u8 0, .int .u8 0, .int .u8 0, .int .u8 0, .int .u8 0, .int .u8 0, .int .u8 0, .int .u8 0, .int .u8 0, .int .u8 0, .int .u8 0, .int .u8 0, .int .u8 0, .int .u8 0, .bool false] 27)) F T e) := (show NS _ _ _ _ _ by have := NS.start w F T e hF hT; rw [span_cells] at this; exact this)
  clear h hat ok hmx hlK hF hT hN hi h0 hat2 ok2 h2
  obtain ⟨K, hKd⟩ : ∃ K, K = keyAt l i := ⟨_, rfl⟩
  rw [← hKd] at HRK HLK h1
  clear hKd
  obtain ⟨L, hLd⟩ : ∃ L, L = keyAt l (i + 1) := ⟨_, rfl⟩
  rw [← hLd] at HRL HLL h4
  clear hLd
  subst h3
  go_enter Tryz.func59, Tryz.ntmps59
  go_upto_region 1 with fail
  go_upto_region 2 with (first
    | (refine load_part _ rfl g (off + i * 25) rfl rfl K HLK.out (HRK.out _ HS0.out.bel) ?_)
    | (refine store_key rfl _ _ rfl (w.heap.size + 2) rfl K rfl HLK.out (zs 24) (zero_has _ _ (by simp)) ?_; intro x1 hk1 tx1 sx1))
  have N1 : NS w x1 F T false := HS0.out.called (step_below (Below.refl _ _) _ (by simpa using tx1))
  have sz1 : w.heap.size + 2 < x1.heap.size := hk1.lt
  clear tx1 sx1 HS0
  go_upto_region 4 with (first
    | (refine load_part _ rfl w.heap.size 0 rfl rfl F HLF.out N1.s.ofF ?_)
    | (refine load_key _ rfl (w.heap.size + 2) rfl rfl K hk1 ?_)
    | (go_at_call 68; refine (tless_calls _ _ _ HLF.out HLK.out).mono ?_; rintro e1 w2 ⟨rfl, b2⟩; rw [h1]))
  have N2 := N1.called b2
  have hk2 := hk1.below b2 sz1
  clear N1 hk1 b2 sz1
  go_upto_region 6 with fail
  go_upto_region 7 with (first
    | (refine load_part _ rfl g (off + (i + 1) * 25) rfl rfl L HLL.out (HRL.out _ N2.bel) ?_)
    | (refine store_key rfl _ _ rfl w2.heap.size rfl L rfl HLL.out (zs 24) (zero_has _ _ rfl) ?_; intro x5 hk5 tx5 sx5))
  have N5 := N2.stored tx5
  have lt5 : w2.heap.size < x5.heap.size := hk5.lt
  clear N2 tx5 sx5
  generalize w2.heap.size = d at *
  have cE := N5.s.ofE
  go_upto_region 9 with (first
    | (refine load_key _ rfl d rfl rfl L hk5 ?_)
    | (refine load_part _ rfl w.heap.size 24 rfl rfl T HLT.out N5.s.ofT ?_)
    | (go_at_call 68; refine (tless_calls _ _ _ HLL.out HLT.out).mono ?_; rintro e1 w6 ⟨rfl, b6⟩; rw [h4]))
  have N6 := N5.called b6
  have hk6 := hk5.below b6 lt5
  clear N5 hk5 b6 cE
  go_wp2_with (first
    | (refine load_span _ rfl w.heap.size rfl rfl F T false N6.s ?_)
    | (refine store_span rfl _ _ rfl (w.heap.size + 1) rfl F T false rfl N6.s.f N6.s.t (zs 24) (zs 24) false N6.r ?_; intro z hz9 tz9 sz9))
  refine ret_span rfl _ _ _ _ rfl hz9 rfl ⟨?_, ?_⟩
  · rw [HRES.out]
  · exact below_touched N6.bel tz9 (by omega) (Nat.le_refl _)
theorem narrow_calls (w : World) (s : Sp) (hs : s.Ok) (av : Value) (l : List Kd) (h : Els w av (l.map Kd.el)) (i : Nat) (hi : i < l.length) :
    Calls Tryz.prog 59 #[spv s, av, .int .i64 (i : Int)] w fun x w' => x = .returned (spv (narS s l i)) ∧ Below w.heap.size w w' := by
  obtain ⟨F, T, e⟩ := s
  obtain ⟨hF, hT⟩ := hs
  obtain ⟨ad, cap, rfl⟩ : ∃ ad cap, av = .slice ad l.length cap := by obtain ⟨r, ⟨ad, cap, e1, _⟩, _⟩ := h; exact ⟨ad, cap, by simpa using e1⟩
  simp only at hF hT
  by_cases h0 : i = 0
  · by_cases h2 : i + 1 = l.length
    · exact narrow_zl w F T e hF hT ad cap l h i hi h0 h2
    · have h2' : i + 1 < l.length := by omega
      cases h3 : e with
      | true => exact narrow_ze w F T true hF hT ad cap l h i hi h0 h2' rfl
      | false =>
        cases h4 : Op.bytesLess (keyAt l (i + 1)) T with
        | true => exact narrow_zt w F T false hF hT ad cap l h i hi h0 h2' rfl h4
        | false => exact narrow_zf w F T false hF hT ad cap l h i hi h0 h2' rfl h4
  · have h0' : 0 < i := by omega
    cases h1 : Op.bytesLess F (keyAt l i) with
    | true =>
      by_cases h2 : i + 1 = l.length
      · exact narrow_tl w F T e hF hT ad cap l h i hi h0' h1 h2
      · have h2' : i + 1 < l.length := by omega
        cases h3 : e with
        | true => exact narrow_te w F T true hF hT ad cap l h i hi h0' h1 h2' rfl
        | false =>
          cases h4 : Op.bytesLess (keyAt l (i + 1)) T with
          | true => exact narrow_tt w F T false hF hT ad cap l h i hi h0' h1 h2' rfl h4
          | false => exact narrow_tf w F T false hF hT ad cap l h i hi h0' h1 h2' rfl h4
    | false =>
      by_cases h2 : i + 1 = l.length
      · exact narrow_fl w F T e hF hT ad cap l h i hi h0' h1 h2
      · have h2' : i + 1 < l.length := by omega
        cases h3 : e with
        | true => exact narrow_fe w F T true hF hT ad cap l h i hi h0' h1 h2' rfl
        | false =>
          cases h4 : Op.bytesLess (keyAt l (i + 1)) T with
          | true => exact narrow_ft w F T false hF hT ad cap l h i hi h0' h1 h2' rfl h4
          | false => exact narrow_ff w F T false hF hT ad cap l h i hi h0' h1 h2' rfl h4
end Go.Proofs.YtjhdnpplmlddaaaGreat
