/- Of. -/
import Derived.Test.YtggbnacpgkbieaaNodG
namespace Go.Proofs.Ytggbnacpgkbieaa
set_option linter.unusedVariables false
open Go.RowKit

/-- Bytes that lie below the heap's end. -/
def Byt (x : World) (sv : Value) (L : List UInt8) : Prop := ∃ r, BytesIn x sv L r ∧ ∀ k, r = some k → k < x.heap.size
theorem Byt.below {x y : World} {sv : Value} {L : List UInt8} (h : Byt x sv L) (b : Below x.heap.size x y) : Byt y sv L := by
  obtain ⟨r, h1, h2⟩ := h
  exact ⟨r, h1.kept fun k hk => b.block k (h2 k hk), fun k hk => by have := h2 k hk; have := b.size; omega⟩
theorem Byt.nil (x : World) : Byt x (.slice none 0 0) [] := ⟨none, ⟨none, 0, rfl, Nat.le_refl _, .inl ⟨rfl, rfl, rfl⟩⟩, fun k hk => by cases hk⟩
theorem Byt.conv {x : World} {sv : Value} {L : List UInt8} (h : Byt x sv L) : (convert 26 9 sv).run Try.prog x = .ok (.string (str L)) x := by
  obtain ⟨r, h1, _⟩ := h
  exact conv_bytes h1
/-- What Of reads: the node, and the reader behind it. -/
def psOf (s : RS) : List Pr := if 18 < num (s.got 1) then [] else readsP (num (s.got 1)) (s.take 1)
def ksOf (s : RS) : List Kd := if 18 < num (s.got 1) then [] else readsK (num (s.got 1)) (s.take 1)
def endP (s : RS) : RS := if 18 < num (s.got 1) then s.take 1 else afterP (num (s.got 1)) (s.take 1)
def endK (s : RS) : RS := if 18 < num (s.got 1) then s.take 1 else afterK (num (s.got 1)) (s.take 1)
def s0 (L : List UInt8) : RS := ⟨L, false⟩
def lvOf (L : List UInt8) : Nat := num (((s0 L).take 2).got 1)
def s2 (L : List UInt8) : RS := ((s0 L).take 2).take 1
def rdN (L : List UInt8) : Nod := if lvOf L = 0 then ⟨0, psOf (s2 L), []⟩ else ⟨lvOf L, [], ksOf (s2 L)⟩
def rdEnd (L : List UInt8) : RS := if lvOf L = 0 then endP (s2 L) else endK (s2 L)
def ofN (L : List UInt8) : Option Nod := if L.length = 512 ∧ (s0 L).got 2 = [87, 84] ∧ ((!(rdEnd L).bad && (rdEnd L).l.all (· == 0)) = true) ∧ rightN (rdN L) = true then some (rdN L) else none
def codeN (o : Option Nod) : Int := match o with | some _ => 0 | none => 12
/-- What Of comes to. -/
def OfTo (w : World) (o : Option Nod) (e : Ending) (w' : World) : Prop := ∃ pv qv, e = .returned (.tuple #[nv (o.getD nilN) pv qv, .int .i64 (codeN o)]) ∧ Parts w' (o.getD nilN) pv qv ∧ Below w.heap.size w w'
theorem Parts.nil (w : World) : Parts w nilN (.slice none 0 0) (.slice none 0 0) := ⟨Els.nil w, Els.nil w⟩
theorem Try.node0 : Try.prog.built 25 [] = some (nc nilN (.slice none 0 0) (.slice none 0 0)) := by kernel_rfl
theorem Try.node1 (n : Int) : Try.prog.built 25 [(0, .int .i64 n)] = some (nc ⟨n, [], []⟩ (.slice none 0 0) (.slice none 0 0)) := by kernel_rfl
theorem build_node {ops : Array Oper} {rest : List Oper} {o : Oper} {a : Act} {w : World} {Q : Exit → Act → World → Prop} (hg : o.guard = none) (parts : Array (Nat × Operand)) (ho : o.op = .build 25 parts) (vs : List (Nat × Value)) (hv : (parts.map fun x => (x.1, a.eval x.2)).toList = vs) (C : Array Value) (hb : Try.prog.built 25 vs = some C)
    (h : wpList Try.prog ops Q rest (a.put o.dst (.agg C)) w) : wpList Try.prog ops Q (o :: rest) a w := Great.wpList_runTo hg _ rfl _ _ (build_run 25 parts ho vs hv C hb) h
/-- How long what is left can be. -/
theorem take_len (s : RS) (n : Int) : (s.take n).l.length ≤ s.l.length := by
  unfold RS.take
  split
  · simp
  · simp
theorem nextP_len (s : RS) : (nextP s).l.length ≤ s.l.length := by
  unfold nextP RS.atext
  exact Nat.le_trans (take_len _ _) (Nat.le_trans (take_len _ _) (take_len _ _))
theorem nextK_len (s : RS) : (nextK s).l.length ≤ s.l.length := by
  unfold nextK
  exact Nat.le_trans (take_len _ _) (take_len _ _)
theorem afterP_len : ∀ (n : Nat) (s : RS), (afterP n s).l.length ≤ s.l.length
  | 0, s => Nat.le_refl _
  | n + 1, s => Nat.le_trans (afterP_len n _) (nextP_len s)
theorem afterK_len : ∀ (n : Nat) (s : RS), (afterK n s).l.length ≤ s.l.length
  | 0, s => Nat.le_refl _
  | n + 1, s => Nat.le_trans (afterK_len n _) (nextK_len s)
theorem endP_len (s : RS) : (endP s).l.length ≤ s.l.length := by
  unfold endP
  split
  · exact take_len _ _
  · exact Nat.le_trans (afterP_len _ _) (take_len _ _)
theorem endK_len (s : RS) : (endK s).l.length ≤ s.l.length := by
  unfold endK
  split
  · exact take_len _ _
  · exact Nat.le_trans (afterK_len _ _) (take_len _ _)
theorem s2_len (L : List UInt8) : (s2 L).l.length ≤ L.length := Nat.le_trans (take_len _ _) (take_len _ _)
/-- What the walk of Of holds. -/
structure OSt (w y : World) (q c : Nat) (s : RS) (r : Option Nat) : Prop where
  rd : RdS y q s r
  ptr : ptrAt y c q 60
  res : HasN y w.heap.size nilN (.slice none 0 0) (.slice none 0 0)
  bel : Below w.heap.size w y
  hq : w.heap.size < q
  cq : c ≠ q
  hc : w.heap.size < c
  hr : ∀ k, r = some k → w.heap.size < k ∧ k < y.heap.size
section
variable {w y z : World} {q c : Nat} {s s' : RS} {r : Option Nat}
theorem OSt.read (h : OSt w y q c s r) (g : RdG q y r s' z) : OSt w z q c s' r :=
  ⟨g.1, (g.2.block c (lt_of_block h.ptr) h.cq (by simp)).trans h.ptr, h.res.same (g.2.block _ h.res.lt (by have := h.hq; omega) (by simp)), h.bel.trans (g.2.below h.bel.size (by have := h.hq; omega) (by simp)), h.hq, h.cq, h.hc, fun k hk => ⟨(h.hr k hk).1, by have := (h.hr k hk).2; have := g.2.size; omega⟩⟩
theorem OSt.called (h : OSt w y q c s r) (b : Below y.heap.size y z) : OSt w z q c s r :=
  ⟨h.rd.called (fun k hk => (h.hr k hk).2) b, (b.block c (lt_of_block h.ptr)).trans h.ptr, h.res.below b h.res.lt, h.bel.trans (b.mono h.bel.size), h.hq, h.cq, h.hc, fun k hk => ⟨(h.hr k hk).1, by have := (h.hr k hk).2; have := b.size; omega⟩⟩
theorem OSt.other {d : Nat} (h : OSt w y q c s r) (t : Touch d none y z) (hd : w.heap.size < d) (hdq : d ≠ q) (hdc : d ≠ c) (hdr : r ≠ some d) : OSt w z q c s r :=
  ⟨h.rd.kept (t.block q h.rd.lt (fun e => hdq e.symm) (by simp)) (fun k hk => t.block k (h.hr k hk).2 (fun e => hdr (by rw [← e]; exact hk)) (by simp)), (t.block c (lt_of_block h.ptr) (fun e => hdc e.symm) (by simp)).trans h.ptr, h.res.same (t.block _ h.res.lt (by omega) (by simp)), h.bel.trans (t.below h.bel.size (by omega) (by simp)), h.hq, h.cq, h.hc, fun k hk => ⟨(h.hr k hk).1, by have := (h.hr k hk).2; have := t.size; omega⟩⟩
end
theorem HasN.set1 {w : World} {b : Nat} {x : Nod} {pv qv : Value} (h : HasN w b x pv qv) (ps : List Pr) (v : Value) (hv : v.oneCell' = true) : HasN (w.setCell ⟨b, 1, none⟩ v) b ⟨x.lv, ps, x.ks⟩ v qv := by
  refine ⟨?_, hv, h.2.2⟩
  rw [setCell_eq_setRow w b 1 _ _ _ _ h.1, setRow_heap w b _ _ _ _ h.1]
  rfl
theorem HasN.set2 {w : World} {b : Nat} {x : Nod} {pv qv : Value} (h : HasN w b x pv qv) (ks : List Kd) (v : Value) (hv : v.oneCell' = true) : HasN (w.setCell ⟨b, 2, none⟩ v) b ⟨x.lv, x.ps, ks⟩ pv v := by
  refine ⟨?_, h.2.1, hv⟩
  rw [setCell_eq_setRow w b 2 _ _ _ _ h.1, setRow_heap w b _ _ _ _ h.1]
  rfl
set_option maxHeartbeats 8000000 in
set_option maxRecDepth 100000 in
theorem of_calls (w : World) (sv : Value) (L : List UInt8) (h : Byt w sv L) (hL : L.length ≤ 1000) : Calls Try.prog 8 #[sv] w (OfTo w (ofN L)) := by
  have B1 : Below w.heap.size w (w.alloc (.cells #[.int .i64 0, .slice none 0 0, .slice none 0 0] 25)) := (Below.refl _ w).alloc (Nat.le_refl _) _
  have H1 : HasN (w.alloc (.cells #[.int .i64 0, .slice none 0 0, .slice none 0 0] 25)) w.heap.size nilN (.slice none 0 0) (.slice none 0 0) := HasN.new w nilN _ _ _ rfl rfl rfl
  have by1 := h.below B1
  have s1 : (w.alloc (.cells #[.int .i64 0, .slice none 0 0, .slice none 0 0] 25)).heap.size = w.heap.size + 1 := by simp
  have HH : Hid (HasN (w.alloc (.cells #[.int .i64 0, .slice none 0 0, .slice none 0 0] 25)) w.heap.size nilN (.slice none 0 0) (.slice none 0 0)) := H1
  obtain ⟨r0, hb0, hr0⟩ := by1
  obtain ⟨ad, cap, rfl, hcap, hcs⟩ := id hb0
  have HB0 : Hid (BytesIn (w.alloc (.cells #[.int .i64 0, .slice none 0 0, .slice none 0 0] 25)) (.slice ad L.length cap) L r0) := hb0
  clear hb0 hcs H1 h hr0
  generalize hN : L.length = N at *
  have HN : Hid (L.length = N) := hN
  clear hN
  by_cases h512 : N = 512
  rotate_left
  · have hne : ((N : Int) == 512) = false := by simp; omega
    have HF : Hid (ofN L = none) := (show _ = _ by rw [ofN, if_neg (by rw [HN.out]; exact fun h => h512 h.1)])
    go_enter Try.func8, Try.ntmps8
    go_wp2_with (first
      | (refine build_node rfl _ rfl [] rfl _ Try.node0 ?_)
      | (refine store_node rfl _ _ rfl w.heap.size rfl nilN (.slice none 0 0) (.slice none 0 0) rfl rfl rfl nilN (.slice none 0 0) (.slice none 0 0) HH.out ?_; intro x2 hu2 tx2 sx2))
    refine ret_node_ok rfl w.heap.size nilN _ _ _ rfl rfl hu2 rfl ⟨_, _, by rw [HF.out]; rfl, by rw [HF.out]; exact Parts.nil _, ?_⟩
    exact below_touched B1 tx2 (Nat.le_refl _) (Nat.le_refl _)
  subst h512
  go_enter Try.func8, Try.ntmps8
  go_upto_region 3 with fail
  generalize w.alloc (.cells #[.int .i64 0, .slice none 0 0, .slice none 0 0] 25) = W at *
  have hq0 : 0 = 0 := rfl
  go_upto_region 4 with (go_at_call 30; refine (read_calls _ _ L r0 HB0.out (by have := HN.out; omega)).mono ?_; rintro e w2 ⟨q, r, rfl, rd2, b2, hq, hr2⟩)
  have O2 : OSt w (w2.alloc (.cells #[.pointer (some ⟨q, 0, none⟩)] 60)) q w2.heap.size (s0 L) r := by
    have hql := rd2.lt
    have hb2 := b2.size
    refine ⟨rd2.called (fun k hk => (hr2 k hk).2) ((Below.refl _ _).alloc (Nat.le_refl _) _), heap_alloc_new _ _, (HH.out.below b2 HH.out.lt).alloc _, (B1.trans (b2.mono B1.size)).alloc (by omega) _, by omega, by omega, by omega, fun k hk => ?_⟩
    have := hr2 k hk
    simp
    omega
  have H2 : Hid (OSt w (w2.alloc (.cells #[.pointer (some ⟨q, 0, none⟩)] 60)) q w2.heap.size (s0 L) r) := O2
  clear O2 rd2 b2 hq hr2 HH HB0 B1 s1
  generalize w2.alloc (.cells #[.pointer (some ⟨q, 0, none⟩)] 60) = y2 at *
  generalize w2.heap.size = c at *
  have c2 := cell_of_one H2.out.ptr
  have rd2 := H2.out.rd
  go_upto_region 5 with (go_at_call 31; refine (raw_reads _ q 2 (s0 L) r rd2).mono ?_; rintro e y3 ⟨rfl, g3⟩)
  have H3 : Hid (OSt w y3 q c ((s0 L).take 2) r) := H2.out.read g3
  clear H2 c2 rd2 g3
  have c3 := cell_of_one H3.out.ptr
  have rd3 := H3.out.rd
  go_upto_region 6 with (first
    | (go_at_call 32; refine (byte_reads _ q _ r rd3).mono ?_; rintro e y4 ⟨rfl, g4⟩)
    | (refine build_node rfl _ rfl [(0, .int .i64 (num (((s0 L).take 2).got 1) : Int))] (by simp only [List.map_toArray, List.map_cons, List.map_nil]; rfl) _ (Try.node1 _) ?_)
    | (refine store_node rfl _ _ rfl y4.heap.size rfl ⟨(num (((s0 L).take 2).got 1) : Int), [], []⟩ (.slice none 0 0) (.slice none 0 0) rfl rfl rfl nilN (.slice none 0 0) (.slice none 0 0) (HasN.new y4 nilN _ _ _ rfl rfl rfl) ?_; intro y5 hu5 tx5 sx5))
  have O4 := H3.out.read g4
  have H5 : Hid (OSt w y5 q c (s2 L) r) := O4.called (step_below (Below.refl _ y4) _ tx5)
  have hdw : w.heap.size < y4.heap.size := by have := O4.bel.size; have := O4.res.lt; omega
  have hdq : y4.heap.size ≠ q := by have := O4.rd.lt; omega
  have hdc : y4.heap.size ≠ c := by have := lt_of_block O4.ptr; omega
  have hdr : r ≠ some y4.heap.size := fun e => by have := (O4.hr _ e).2; omega
  clear H3 g4 O4 tx5 sx5 c3 rd3
  generalize y4.heap.size = d at *
  have HS3 : Hid (s2 L = s2 L) := rfl
  obtain ⟨lv, hlv⟩ : ∃ lv : Nat, lv = lvOf L := ⟨_, rfl⟩
  have hlv' : num (((s0 L).take 2).got 1) = lv := hlv.symm
  have HLVE : Hid (lvOf L = lv) := hlv.symm
  rw [hlv'] at hu5 ⊢
  clear hlv hlv'
  have HN5 : Hid (HasN y5 d ⟨(lv : Int), [], []⟩ (.slice none 0 0) (.slice none 0 0)) := hu5
  obtain ⟨e0, e1, e2⟩ := hu5.cells
  have c5 := cell_of_one H5.out.ptr
  clear hu5
  generalize hs3 : s2 L = s3 at *
  have HS3' : Hid (s2 L = s3) := hs3
  clear HS3 hs3
  by_cases hz : lv = 0
  · have hz2 : ((lv : Int) == 0) = true := by simp [hz]
    have HZ : Hid (lv = 0) := hz
    clear hz
    have hRd := readP_calls y5 c q s3 r H5.out.rd (fun k hk => (H5.out.hr k hk).2) H5.out.ptr H5.out.cq
    have HRd : Hid (Calls Try.prog 33 #[.pointer (some ⟨q, 0, none⟩), .func (Fn.func 34) #[] #[.pointer (some ⟨c, 0, none⟩)]] y5 (ReadP y5 q r s3)) := hRd
    clear hRd
    go_upto_region 9 with (go_at_call 33; refine HRd.out.mono ?_; rintro e y6 ⟨u6, rfl, rd6, t6, _, rr6, in6, hr6⟩; obtain ⟨ad6, n6, cap6, rfl⟩ : ∃ a n c, u6 = Value.slice a n c := (by obtain ⟨a, c, e, _⟩ := in6; exact ⟨a, _, c, e⟩); have N6 := HN5.out.touch t6 hdq; obtain ⟨k0, k1, k2⟩ := N6.cells; have f1 := N6.free 1; have f2 := N6.free 2; have IN6 : Hid (ElsIn y6 (.slice ad6 n6 cap6) ((psOf s3).map Pr.el) rr6 ∧ RdS y6 q (endP s3) r) := ⟨in6, rd6⟩; clear in6 rd6)
    obtain ⟨in6, rd6⟩ := IN6.out
    have O6 : OSt w y6 q c (endP s3) r := H5.out.read ⟨rd6, t6⟩
    have one6 := in6.one
    have N7 := N6.set1 (psOf s3) (.slice ad6 n6 cap6) one6
    have T7 : Touch d none y6 (y6.setCell ⟨d, 1, none⟩ (.slice ad6 n6 cap6)) := touch_set y6 d 1 (.slice ad6 n6 cap6)
    have O7 := O6.other T7 hdw hdq hdc hdr
    have E7 : Els (y6.setCell ⟨d, 1, none⟩ (.slice ad6 n6 cap6)) (.slice ad6 n6 cap6) ((psOf s3).map Pr.el) := ⟨rr6, in6.kept fun k hk => T7.block k (hr6 k hk).2 (by have := (hr6 k hk).1; have := HN5.out.lt; omega) (by simp), fun k hk => by have := (hr6 k hk).2; have := T7.size; omega⟩
    have PA7 : Hid (Parts (y6.setCell ⟨d, 1, none⟩ (.slice ad6 n6 cap6)) ⟨(lv : Int), psOf s3, []⟩ (.slice ad6 n6 cap6) (.slice none 0 0)) := ⟨E7, Els.nil _⟩
    have HX : Hid (rdN L = ⟨(lv : Int), psOf s3, []⟩ ∧ rdEnd L = endP s3) := (by
      have e1 : lvOf L = lv := HLVE.out
      rw [rdN, rdEnd, e1, if_pos HZ.out, if_pos HZ.out, HS3'.out]
      exact ⟨by rw [HZ.out]; rfl, rfl⟩)
    have PE : Hid (∀ y, (∀ k, rr6 = some k → y.heap[k]? = (y6.setCell ⟨d, 1, none⟩ (.slice ad6 n6 cap6)).heap[k]?) → (∀ k, rr6 = some k → k < y.heap.size) → Parts y ⟨(lv : Int), psOf s3, []⟩ (.slice ad6 n6 cap6) (.slice none 0 0)) := fun y h1 h2 => by
      have ee : Els y (.slice ad6 n6 cap6) ((psOf s3).map Pr.el) := ⟨rr6, (in6.kept fun k hk => T7.block k (hr6 k hk).2 (by have := (hr6 k hk).1; have := HN5.out.lt; omega) (by simp)).kept h1, h2⟩
      exact ⟨ee, Els.nil _⟩
    have HRL : Hid (∀ k, rr6 = some k → k < (y6.setCell ⟨d, 1, none⟩ (.slice ad6 n6 cap6)).heap.size) := fun k hk => by have := (hr6 k hk).2; have := T7.size; omega
    have HRR : Hid (∀ k, rr6 = some k → d < k) := fun k hk => by have := (hr6 k hk).1; have := HN5.out.lt; omega
    have HDW : Hid (w.heap.size < d) := hdw
    have N7' : Hid (HasN (y6.setCell ⟨d, 1, none⟩ (.slice ad6 n6 cap6)) d ⟨(lv : Int), psOf s3, []⟩ (.slice ad6 n6 cap6) (.slice none 0 0)) := N7
    have hno := noughts_reads _ q (endP s3) r O7.rd (fun k hk => (O7.hr k hk).2) (by
      have h1 := endP_len s3
      have h2 := s2_len L
      rw [HS3'.out, HN.out] at h2
      omega)
    have H7 : Hid (OSt w (y6.setCell ⟨d, 1, none⟩ (.slice ad6 n6 cap6)) q c (endP s3) r) := O7
    have c7 := cell_of_one O7.ptr
    have hxx : ∀ (y : World) (X : Nod) (pv qv : Value), HasN y w.heap.size X pv qv → Below w.heap.size w y → ofN L = some X → Parts y X pv qv → OfTo w (ofN L) (.returned (.tuple #[nv X pv qv, .int .i64 0])) y := fun y X pv qv _ b e p => ⟨pv, qv, by rw [e]; rfl, by rw [e]; exact p, b⟩
    clear N6 k0 k1 k2 f1 f2 N7 rd6 t6 in6 IN6 hr6 O6 T7 E7 HRd HN5 H5 O7 e0 e1 e2 c5 hxx
    generalize y6.setCell ⟨d, 1, none⟩ (.slice ad6 n6 cap6) = y7 at *
    have HNONE : Hid (∀ y, HasN y w.heap.size nilN (.slice none 0 0) (.slice none 0 0) → Below w.heap.size w y → ofN L = none → OfTo w (ofN L) (.returned (.tuple #[nv nilN (.slice none 0 0) (.slice none 0 0), .int .i64 12])) y) := fun y _ b e => ⟨_, _, by rw [e]; rfl, by rw [e]; exact Parts.nil _, b⟩
    by_cases hG : (s0 L).got 2 = [87, 84]
    rotate_left
    · have hgb : ((str ((s0 L).got 2)).toList == [87, 84]) = false := by rw [str_toList]; simpa using hG
      have HF : Hid (ofN L = none) := (show _ = _ by rw [ofN, if_neg (fun h => hG h.2.1)])
      have RS := H7.out.res
      go_wp2_with (first
        | (refine build_node rfl _ rfl [] rfl _ Try.node0 ?_)
        | (refine store_node rfl _ _ rfl w.heap.size rfl nilN (.slice none 0 0) (.slice none 0 0) rfl rfl rfl nilN (.slice none 0 0) (.slice none 0 0) RS ?_; intro x2 hu2 tx2 sx2))
      refine ret_node_ok rfl w.heap.size nilN _ _ _ rfl rfl hu2 rfl (HNONE.out _ hu2 ?_ HF.out)
      exact below_touched H7.out.bel tx2 (Nat.le_refl _) (Nat.le_refl _)
    have hgb : ((str ((s0 L).got 2)).toList == [87, 84]) = true := by rw [str_toList, hG]; rfl
    have HG : Hid ((s0 L).got 2 = [87, 84]) := hG
    clear hG
    cases hn : (!(endP s3).bad && (endP s3).l.all (· == 0)) with
    | false =>
      rw [hn] at hno
      have HF : Hid (ofN L = none) := (show _ = _ by rw [ofN, if_neg (fun h => by have := h.2.2.1; rw [HX.out.2, hn] at this; cases this)])
      clear hn
      go_wp2_with (first
        | (go_at_call 39; refine hno.mono ?_; rintro e y8 ⟨rfl, b8⟩; have O8 := H7.out.called b8; have RS := O8.res)
        | (refine build_node rfl _ rfl [] rfl _ Try.node0 ?_)
        | (refine store_node rfl _ _ rfl w.heap.size rfl nilN (.slice none 0 0) (.slice none 0 0) rfl rfl rfl nilN (.slice none 0 0) (.slice none 0 0) RS ?_; intro x2 hu2 tx2 sx2))
      refine ret_node_ok rfl w.heap.size nilN _ _ _ rfl rfl hu2 rfl (HNONE.out _ hu2 ?_ HF.out)
      exact below_touched O8.bel tx2 (Nat.le_refl _) (Nat.le_refl _)
    | true =>
      rw [hn] at hno
      have HNN : Hid ((!(endP s3).bad && (endP s3).l.all (· == 0)) = true) := hn
      clear hn
      have hri : ∀ y, Below y7.heap.size y7 y → Calls Try.prog 14 #[nv ⟨(lv : Int), psOf s3, []⟩ (.slice ad6 n6 cap6) (.slice none 0 0)] y fun e w' => e = .returned (.bool (rightN ⟨(lv : Int), psOf s3, []⟩)) ∧ Below y.heap.size y w' := fun y hy => right_calls y _ _ _ (PA7.out.below hy)
      have HRI : Hid (∀ y, Below y7.heap.size y7 y → Calls Try.prog 14 #[nv ⟨(lv : Int), psOf s3, []⟩ (.slice ad6 n6 cap6) (.slice none 0 0)] y fun e w' => e = .returned (.bool (rightN ⟨(lv : Int), psOf s3, []⟩)) ∧ Below y.heap.size y w') := hri
      clear hri
      cases hr9 : rightN ⟨(lv : Int), psOf s3, []⟩ with
      | false =>
        have HF : Hid (ofN L = none) := (show _ = _ by rw [ofN, if_neg (fun h => by have := h.2.2.2; rw [HX.out.1, hr9] at this; cases this)])
        go_wp2_with (first
          | (go_at_call 39; refine hno.mono ?_; rintro e y8 ⟨rfl, b8⟩; have O8 := H7.out.called b8; have N8 := N7'.out.below b8 N7'.out.lt)
          | (refine load_node _ rfl d rfl rfl _ _ _ N8 ?_)
          | (go_at_call 14; refine (HRI.out _ b8).mono ?_; rintro e y9 ⟨rfl, b9⟩; rw [hr9]; have O9 := O8.called b9; have RS := O9.res)
          | (refine build_node rfl _ rfl [] rfl _ Try.node0 ?_)
          | (refine store_node rfl _ _ rfl w.heap.size rfl nilN (.slice none 0 0) (.slice none 0 0) rfl rfl rfl nilN (.slice none 0 0) (.slice none 0 0) RS ?_; intro x2 hu2 tx2 sx2))
        refine ret_node_ok rfl w.heap.size nilN _ _ _ rfl rfl hu2 rfl (HNONE.out _ hu2 ?_ HF.out)
        exact below_touched O9.bel tx2 (Nat.le_refl _) (Nat.le_refl _)
      | true =>
        have HF : Hid (ofN L = some ⟨(lv : Int), psOf s3, []⟩) := (show _ = _ by rw [ofN, if_pos ⟨HN.out, HG.out, by rw [HX.out.2]; exact HNN.out, by rw [HX.out.1]; exact hr9⟩, HX.out.1])
        go_wp2_with (first
          | (go_at_call 39; refine hno.mono ?_; rintro e y8 ⟨rfl, b8⟩; have O8 := H7.out.called b8; have N8 := N7'.out.below b8 N7'.out.lt)
          | (have _q := b9; first
            | (refine load_node _ rfl d rfl rfl _ _ _ N9 ?_)
            | (refine store_node rfl _ _ rfl w.heap.size rfl ⟨(lv : Int), psOf s3, []⟩ (.slice ad6 n6 cap6) (.slice none 0 0) rfl one6 rfl nilN (.slice none 0 0) (.slice none 0 0) RS ?_; intro x2 hu2 tx2 sx2))
          | (refine load_node _ rfl d rfl rfl _ _ _ N8 ?_)
          | (go_at_call 14; refine (HRI.out _ b8).mono ?_; rintro e y9 ⟨rfl, b9⟩; rw [hr9]; have O9 := O8.called b9; have RS := O9.res; have N9 := N8.below b9 N8.lt))
        refine ret_node_ok rfl w.heap.size ⟨(lv : Int), psOf s3, []⟩ _ _ _ rfl rfl hu2 rfl ?_
        have hs9 := b9.size
        have hs8 := b8.size
        have PX : Parts x2 ⟨(lv : Int), psOf s3, []⟩ (.slice ad6 n6 cap6) (.slice none 0 0) := PE.out x2 (fun k hk => by
          have q1 := HRL.out k hk
          have q2 := HRR.out k hk
          have q3 := HDW.out
          exact (tx2.block k (by omega) (by omega) (by simp)).trans ((b9.block k (by omega)).trans (b8.block k q1))) (fun k hk => by have := HRL.out k hk; omega)
        exact ⟨_, _, by rw [HF.out]; rfl, by rw [HF.out]; exact PX, below_touched O9.bel tx2 (Nat.le_refl _) (Nat.le_refl _)⟩
  · have hz2 : ((lv : Int) == 0) = false := by simp; omega
    have HZ : Hid (¬ lv = 0) := hz
    clear hz
    have hRd := readK_calls y5 c q s3 r H5.out.rd (fun k hk => (H5.out.hr k hk).2) H5.out.ptr H5.out.cq
    have HRd : Hid (Calls Try.prog 36 #[.pointer (some ⟨q, 0, none⟩), .func (Fn.func 37) #[] #[.pointer (some ⟨c, 0, none⟩)]] y5 (ReadK y5 q r s3)) := hRd
    clear hRd
    go_upto_region 9 with (go_at_call 36; refine HRd.out.mono ?_; rintro e y6 ⟨u6, rfl, rd6, t6, _, rr6, in6, hr6⟩; obtain ⟨ad6, n6, cap6, rfl⟩ : ∃ a n c, u6 = Value.slice a n c := (by obtain ⟨a, c, e, _⟩ := in6; exact ⟨a, _, c, e⟩); have N6 := HN5.out.touch t6 hdq; obtain ⟨k0, k1, k2⟩ := N6.cells; have f1 := N6.free 1; have f2 := N6.free 2; have IN6 : Hid (ElsIn y6 (.slice ad6 n6 cap6) ((ksOf s3).map Kd.el) rr6 ∧ RdS y6 q (endK s3) r) := ⟨in6, rd6⟩; clear in6 rd6)
    obtain ⟨in6, rd6⟩ := IN6.out
    have O6 : OSt w y6 q c (endK s3) r := H5.out.read ⟨rd6, t6⟩
    have one6 := in6.one
    have N7 := N6.set2 (ksOf s3) (.slice ad6 n6 cap6) one6
    have T7 : Touch d none y6 (y6.setCell ⟨d, 2, none⟩ (.slice ad6 n6 cap6)) := touch_set y6 d 2 (.slice ad6 n6 cap6)
    have O7 := O6.other T7 hdw hdq hdc hdr
    have E7 : Els (y6.setCell ⟨d, 2, none⟩ (.slice ad6 n6 cap6)) (.slice ad6 n6 cap6) ((ksOf s3).map Kd.el) := ⟨rr6, in6.kept fun k hk => T7.block k (hr6 k hk).2 (by have := (hr6 k hk).1; have := HN5.out.lt; omega) (by simp), fun k hk => by have := (hr6 k hk).2; have := T7.size; omega⟩
    have PA7 : Hid (Parts (y6.setCell ⟨d, 2, none⟩ (.slice ad6 n6 cap6)) ⟨(lv : Int), [], ksOf s3⟩ (.slice none 0 0) (.slice ad6 n6 cap6)) := ⟨Els.nil _, E7⟩
    have HX : Hid (rdN L = ⟨(lv : Int), [], ksOf s3⟩ ∧ rdEnd L = endK s3) := (by
      have e1 : lvOf L = lv := HLVE.out
      rw [rdN, rdEnd, e1, if_neg HZ.out, if_neg HZ.out, HS3'.out]
      exact ⟨by rfl, rfl⟩)
    have PE : Hid (∀ y, (∀ k, rr6 = some k → y.heap[k]? = (y6.setCell ⟨d, 2, none⟩ (.slice ad6 n6 cap6)).heap[k]?) → (∀ k, rr6 = some k → k < y.heap.size) → Parts y ⟨(lv : Int), [], ksOf s3⟩ (.slice none 0 0) (.slice ad6 n6 cap6)) := fun y h1 h2 => by
      have ee : Els y (.slice ad6 n6 cap6) ((ksOf s3).map Kd.el) := ⟨rr6, (in6.kept fun k hk => T7.block k (hr6 k hk).2 (by have := (hr6 k hk).1; have := HN5.out.lt; omega) (by simp)).kept h1, h2⟩
      exact ⟨Els.nil _, ee⟩
    have HRL : Hid (∀ k, rr6 = some k → k < (y6.setCell ⟨d, 2, none⟩ (.slice ad6 n6 cap6)).heap.size) := fun k hk => by have := (hr6 k hk).2; have := T7.size; omega
    have HRR : Hid (∀ k, rr6 = some k → d < k) := fun k hk => by have := (hr6 k hk).1; have := HN5.out.lt; omega
    have HDW : Hid (w.heap.size < d) := hdw
    have N7' : Hid (HasN (y6.setCell ⟨d, 2, none⟩ (.slice ad6 n6 cap6)) d ⟨(lv : Int), [], ksOf s3⟩ (.slice none 0 0) (.slice ad6 n6 cap6)) := N7
    have hno := noughts_reads _ q (endK s3) r O7.rd (fun k hk => (O7.hr k hk).2) (by
      have h1 := endK_len s3
      have h2 := s2_len L
      rw [HS3'.out, HN.out] at h2
      omega)
    have H7 : Hid (OSt w (y6.setCell ⟨d, 2, none⟩ (.slice ad6 n6 cap6)) q c (endK s3) r) := O7
    have c7 := cell_of_one O7.ptr
    have hxx : ∀ (y : World) (X : Nod) (pv qv : Value), HasN y w.heap.size X pv qv → Below w.heap.size w y → ofN L = some X → Parts y X pv qv → OfTo w (ofN L) (.returned (.tuple #[nv X pv qv, .int .i64 0])) y := fun y X pv qv _ b e p => ⟨pv, qv, by rw [e]; rfl, by rw [e]; exact p, b⟩
    clear N6 k0 k1 k2 f1 f2 N7 rd6 t6 in6 IN6 hr6 O6 T7 E7 HRd HN5 H5 O7 e0 e1 e2 c5 hxx
    generalize y6.setCell ⟨d, 2, none⟩ (.slice ad6 n6 cap6) = y7 at *
    have HNONE : Hid (∀ y, HasN y w.heap.size nilN (.slice none 0 0) (.slice none 0 0) → Below w.heap.size w y → ofN L = none → OfTo w (ofN L) (.returned (.tuple #[nv nilN (.slice none 0 0) (.slice none 0 0), .int .i64 12])) y) := fun y _ b e => ⟨_, _, by rw [e]; rfl, by rw [e]; exact Parts.nil _, b⟩
    by_cases hG : (s0 L).got 2 = [87, 84]
    rotate_left
    · have hgb : ((str ((s0 L).got 2)).toList == [87, 84]) = false := by rw [str_toList]; simpa using hG
      have HF : Hid (ofN L = none) := (show _ = _ by rw [ofN, if_neg (fun h => hG h.2.1)])
      have RS := H7.out.res
      go_wp2_with (first
        | (refine build_node rfl _ rfl [] rfl _ Try.node0 ?_)
        | (refine store_node rfl _ _ rfl w.heap.size rfl nilN (.slice none 0 0) (.slice none 0 0) rfl rfl rfl nilN (.slice none 0 0) (.slice none 0 0) RS ?_; intro x2 hu2 tx2 sx2))
      refine ret_node_ok rfl w.heap.size nilN _ _ _ rfl rfl hu2 rfl (HNONE.out _ hu2 ?_ HF.out)
      exact below_touched H7.out.bel tx2 (Nat.le_refl _) (Nat.le_refl _)
    have hgb : ((str ((s0 L).got 2)).toList == [87, 84]) = true := by rw [str_toList, hG]; rfl
    have HG : Hid ((s0 L).got 2 = [87, 84]) := hG
    clear hG
    cases hn : (!(endK s3).bad && (endK s3).l.all (· == 0)) with
    | false =>
      rw [hn] at hno
      have HF : Hid (ofN L = none) := (show _ = _ by rw [ofN, if_neg (fun h => by have := h.2.2.1; rw [HX.out.2, hn] at this; cases this)])
      clear hn
      go_wp2_with (first
        | (go_at_call 39; refine hno.mono ?_; rintro e y8 ⟨rfl, b8⟩; have O8 := H7.out.called b8; have RS := O8.res)
        | (refine build_node rfl _ rfl [] rfl _ Try.node0 ?_)
        | (refine store_node rfl _ _ rfl w.heap.size rfl nilN (.slice none 0 0) (.slice none 0 0) rfl rfl rfl nilN (.slice none 0 0) (.slice none 0 0) RS ?_; intro x2 hu2 tx2 sx2))
      refine ret_node_ok rfl w.heap.size nilN _ _ _ rfl rfl hu2 rfl (HNONE.out _ hu2 ?_ HF.out)
      exact below_touched O8.bel tx2 (Nat.le_refl _) (Nat.le_refl _)
    | true =>
      rw [hn] at hno
      have HNN : Hid ((!(endK s3).bad && (endK s3).l.all (· == 0)) = true) := hn
      clear hn
      have hri : ∀ y, Below y7.heap.size y7 y → Calls Try.prog 14 #[nv ⟨(lv : Int), [], ksOf s3⟩ (.slice none 0 0) (.slice ad6 n6 cap6)] y fun e w' => e = .returned (.bool (rightN ⟨(lv : Int), [], ksOf s3⟩)) ∧ Below y.heap.size y w' := fun y hy => right_calls y _ _ _ (PA7.out.below hy)
      have HRI : Hid (∀ y, Below y7.heap.size y7 y → Calls Try.prog 14 #[nv ⟨(lv : Int), [], ksOf s3⟩ (.slice none 0 0) (.slice ad6 n6 cap6)] y fun e w' => e = .returned (.bool (rightN ⟨(lv : Int), [], ksOf s3⟩)) ∧ Below y.heap.size y w') := hri
      clear hri
      cases hr9 : rightN ⟨(lv : Int), [], ksOf s3⟩ with
      | false =>
        have HF : Hid (ofN L = none) := (show _ = _ by rw [ofN, if_neg (fun h => by have := h.2.2.2; rw [HX.out.1, hr9] at this; cases this)])
        go_wp2_with (first
          | (go_at_call 39; refine hno.mono ?_; rintro e y8 ⟨rfl, b8⟩; have O8 := H7.out.called b8; have N8 := N7'.out.below b8 N7'.out.lt)
          | (refine load_node _ rfl d rfl rfl _ _ _ N8 ?_)
          | (go_at_call 14; refine (HRI.out _ b8).mono ?_; rintro e y9 ⟨rfl, b9⟩; rw [hr9]; have O9 := O8.called b9; have RS := O9.res)
          | (refine build_node rfl _ rfl [] rfl _ Try.node0 ?_)
          | (refine store_node rfl _ _ rfl w.heap.size rfl nilN (.slice none 0 0) (.slice none 0 0) rfl rfl rfl nilN (.slice none 0 0) (.slice none 0 0) RS ?_; intro x2 hu2 tx2 sx2))
        refine ret_node_ok rfl w.heap.size nilN _ _ _ rfl rfl hu2 rfl (HNONE.out _ hu2 ?_ HF.out)
        exact below_touched O9.bel tx2 (Nat.le_refl _) (Nat.le_refl _)
      | true =>
        have HF : Hid (ofN L = some ⟨(lv : Int), [], ksOf s3⟩) := (show _ = _ by rw [ofN, if_pos ⟨HN.out, HG.out, by rw [HX.out.2]; exact HNN.out, by rw [HX.out.1]; exact hr9⟩, HX.out.1])
        go_wp2_with (first
          | (go_at_call 39; refine hno.mono ?_; rintro e y8 ⟨rfl, b8⟩; have O8 := H7.out.called b8; have N8 := N7'.out.below b8 N7'.out.lt)
          | (have _q := b9; first
            | (refine load_node _ rfl d rfl rfl _ _ _ N9 ?_)
            | (refine store_node rfl _ _ rfl w.heap.size rfl ⟨(lv : Int), [], ksOf s3⟩ (.slice none 0 0) (.slice ad6 n6 cap6) rfl rfl one6 nilN (.slice none 0 0) (.slice none 0 0) RS ?_; intro x2 hu2 tx2 sx2))
          | (refine load_node _ rfl d rfl rfl _ _ _ N8 ?_)
          | (go_at_call 14; refine (HRI.out _ b8).mono ?_; rintro e y9 ⟨rfl, b9⟩; rw [hr9]; have O9 := O8.called b9; have RS := O9.res; have N9 := N8.below b9 N8.lt))
        refine ret_node_ok rfl w.heap.size ⟨(lv : Int), [], ksOf s3⟩ _ _ _ rfl rfl hu2 rfl ?_
        have hs9 := b9.size
        have hs8 := b8.size
        have PX : Parts x2 ⟨(lv : Int), [], ksOf s3⟩ (.slice none 0 0) (.slice ad6 n6 cap6) := PE.out x2 (fun k hk => by
          have q1 := HRL.out k hk
          have q2 := HRR.out k hk
          have q3 := HDW.out
          exact (tx2.block k (by omega) (by omega) (by simp)).trans ((b9.block k (by omega)).trans (b8.block k q1))) (fun k hk => by have := HRL.out k hk; omega)
        exact ⟨_, _, by rw [HF.out]; rfl, by rw [HF.out]; exact PX, below_touched O9.bel tx2 (Nat.le_refl _) (Nat.le_refl _)⟩
end Go.Proofs.Ytggbnacpgkbieaa
