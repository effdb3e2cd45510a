import Derived.Test.YtjhdnpplmlddaaaGreatB11
import Derived.Test.YtjhdnpplmlddaaaGreatB09
import Derived.Test.YtjhdnpplmlddaaaGreatB06
import Derived.Deep.RegionHeld3
/- lastKey of package tree; what checkKids tells, as plain functions. -/
namespace Go.Proofs.YtjhdnpplmlddaaaGreat
set_option linter.unusedVariables false
open Go.RowKit

def lastN (x : Nod) : List UInt8 := if x.lv = 0 then (x.ps[x.ps.length - 1]?.map Pr.k).getD (zs 24) else keyAt x.ks (x.ks.length - 1)
set_option maxHeartbeats 8000000 in
set_option maxRecDepth 100000 in
theorem lastKey_calls (w : World) (x : Nod) (pv qv : Value) (h : Parts w x pv qv) (hp : x.lv = 0 → 1 ≤ x.ps.length) (hk : ¬ x.lv = 0 → 1 ≤ x.ks.length) :
    Calls Tryz.prog 63 #[nv x pv qv] w fun e w' => e = .returned (kv (lastN x)) ∧ (lastN x).length = 24 ∧ Below w.heap.size w w' := by
  obtain ⟨ap, cp, rfl⟩ := h.lenP
  obtain ⟨aq, cq, rfl⟩ := h.lenQ
  have mP := (els_max h.p).2
  have mQ := (els_max h.q).2
  have N0 : HasN (w.alloc (.cells (nc x (.slice ap x.ps.length cp) (.slice aq x.ks.length cq)) 60)) w.heap.size x (.slice ap x.ps.length cp) (.slice aq x.ks.length cq) := HasN.new w x _ _ _ rfl rfl rfl
  have B0 : Below w.heap.size w (w.alloc (.cells (nc x (.slice ap x.ps.length cp) (.slice aq x.ks.length cq)) 60)) := (Below.refl _ w).alloc (Nat.le_refl _) _
  by_cases hl : x.lv = 0
  · have h1 := hp hl
    obtain ⟨J, hJ⟩ : ∃ J, J = x.ps.length - 1 := ⟨_, rfl⟩
    have hJl : J < x.ps.length := by omega
    obtain ⟨g, off, rfl, hg, hat, ok⟩ := els_get h.p J hJl
    have HRES : Hid (lastN x = (x.ps[J]).k) := (show _ = _ by rw [lastN, if_pos hl, ← hJ]; simp [hJl])
    have HLK : Hid ((x.ps[J]).k.length = 24) := ok.len
    have HRK : Hid (∀ y, Below w.heap.size w y → y.rangeAt g (off + J * 25) (bc (x.ps[J]).k)) := fun y hy => range_key (e := Pr.el x.ps[J]) (range_same hat (hy.block g hg))
    obtain ⟨P, hP⟩ : ∃ P : Nat, P = x.ps.length := ⟨_, rfl⟩
    have hJP : (J : Int) < (P : Int) := by omega
    have hw0 : (P : Int) - 1 = (J : Int) := by omega
    have hmN : (P : Int) ≤ 9223372036854775807 := by unfold maxLen at mP; omega
    have hlv : (x.lv == 0) = true := by simpa using hl
    rw [← hP] at N0 B0 ⊢
    obtain ⟨c0, c1, c2⟩ := N0.cells
    have HB0 : Hid (Below w.heap.size w (w.alloc (.cells (nc x (.slice (some ⟨g, off, none⟩) P cp) (.slice aq x.ks.length cq)) 60))) := B0
    obtain ⟨K, hK⟩ : ∃ K, K = (x.ps[J]).k := ⟨_, rfl⟩
    rw [← hK] at HRES HLK HRK
    clear h hat ok hJ hP h1 hl hp hk hK hJl mP mQ N0 B0
    go_enter Tryz.func63, Tryz.ntmps63
    go_upto_region 1 with fail
    go_wp2_with (first
      | (refine load_part _ rfl g (off + J * 25) rfl rfl K HLK.out (HRK.out _ (HB0.out.alloc (by simp) _)) ?_)
      | (refine store_key rfl _ _ rfl (w.heap.size + 1) rfl K rfl HLK.out (zs 24) (zero_has _ _ (by simp)) ?_; intro x1 hk1 tx1 sx1))
    refine ret_key rfl _ _ rfl hk1 rfl ⟨by rw [HRES.out], by rw [HRES.out]; exact HLK.out, ?_⟩
    exact below_touched (HB0.out.alloc (by simp) _) tx1 (by omega) (Nat.le_refl _)
  · have h1 := hk hl
    obtain ⟨J, hJ⟩ : ∃ J, J = x.ks.length - 1 := ⟨_, rfl⟩
    have hJl : J < x.ks.length := by omega
    obtain ⟨g, off, rfl, hg, hat, ok⟩ := els_get h.q J hJl
    have HRES : Hid (lastN x = (x.ks[J]).k) := (show _ = _ by rw [lastN, if_neg hl, ← hJ, keyAt_eq hJl])
    have HLK : Hid ((x.ks[J]).k.length = 24) := ok.len
    have HRK : Hid (∀ y, Below w.heap.size w y → y.rangeAt g (off + J * 25) (bc (x.ks[J]).k)) := fun y hy => range_key (e := Kd.el x.ks[J]) (range_same hat (hy.block g hg))
    obtain ⟨P, hP⟩ : ∃ P : Nat, P = x.ks.length := ⟨_, rfl⟩
    have hJP : (J : Int) < (P : Int) := by omega
    have hw0 : (P : Int) - 1 = (J : Int) := by omega
    have hmN : (P : Int) ≤ 9223372036854775807 := by unfold maxLen at mQ; omega
    have hlv : (x.lv == 0) = false := by simpa using hl
    rw [← hP] at N0 B0 ⊢
    obtain ⟨c0, c1, c2⟩ := N0.cells
    have HB0 : Hid (Below w.heap.size w (w.alloc (.cells (nc x (.slice ap x.ps.length cp) (.slice (some ⟨g, off, none⟩) P cq)) 60))) := B0
    obtain ⟨K, hK⟩ : ∃ K, K = (x.ks[J]).k := ⟨_, rfl⟩
    rw [← hK] at HRES HLK HRK
    clear h hat ok hJ hP h1 hl hp hk hK hJl mP mQ N0 B0
    go_enter Tryz.func63, Tryz.ntmps63
    go_upto_region 1 with fail
    go_wp2_with (first
      | (refine load_part _ rfl g (off + J * 25) rfl rfl K HLK.out (HRK.out _ (HB0.out.alloc (by simp) _)) ?_)
      | (refine store_key rfl _ _ rfl (w.heap.size + 1) rfl K rfl HLK.out (zs 24) (zero_has _ _ (by simp)) ?_; intro x1 hk1 tx1 sx1))
    refine ret_key rfl _ _ rfl hk1 rfl ⟨by rw [HRES.out], by rw [HRES.out]; exact HLK.out, ?_⟩
    exact below_touched (HB0.out.alloc (by simp) _) tx1 (by omega) (Nat.le_refl _)
/-- Is what stands at a kid's place none that a right tree has there? -/
def badKid (y : Nod) (K : List UInt8) (p : Sp) : Bool := shortB y.ps.length y.ks.length || ((!(firstN y == K)) || !inS p.F p.T p.e (lastN y))
/-- What checkKids tells of the last m kids. -/
def checkGo (g : Int → Nod × Int) (rec : Nod → Sp → Int) (x : Nod) (s : Sp) : Nat → Int
  | 0 => 0
  | m + 1 =>
    if (readP g (nAt x.ks (x.ks.length - (m + 1))) (x.lv - 1)).2 = 0 then
      (if badKid (readP g (nAt x.ks (x.ks.length - (m + 1))) (x.lv - 1)).1 (keyAt x.ks (x.ks.length - (m + 1))) (narS s x.ks (x.ks.length - (m + 1))) then 12
       else if rec (readP g (nAt x.ks (x.ks.length - (m + 1))) (x.lv - 1)).1 (narS s x.ks (x.ks.length - (m + 1))) = 0 then checkGo g rec x s m
       else rec (readP g (nAt x.ks (x.ks.length - (m + 1))) (x.lv - 1)).1 (narS s x.ks (x.ks.length - (m + 1))))
    else (readP g (nAt x.ks (x.ks.length - (m + 1))) (x.lv - 1)).2
def checkP (g : Int → Nod × Int) : Nat → Nod → Sp → Int
  | 0, _, _ => 0
  | k + 1, x, s => checkGo g (checkP g k) x s x.ks.length
theorem narS_ok {s : Sp} (h : s.Ok) {l : List Kd} (hl : ∀ i (hi : i < l.length), (l[i]).k.length = 24) (i : Nat) (hi : i < l.length) : (narS s l i).Ok := by
  have h1 : (keyAt l i).length = 24 := by rw [keyAt_eq hi]; exact hl i hi
  refine ⟨?_, ?_⟩
  · show (narF s l i).length = 24
    unfold narF
    split
    · exact h1
    · exact h.1
  · show (narT s l i).length = 24
    unfold narT
    split
    · exact h.2
    · rename_i q
      split
      · rw [keyAt_eq (show i + 1 < l.length by omega)]
        exact hl _ _
      · exact h.2
theorem readP_ok {g : Int → Nod × Int} {n lvl : Int} (h : (readP g n lvl).2 = 0) (hl : lvl ≠ -1) : rightN (readP g n lvl).1 = true ∧ (readP g n lvl).1.lv = lvl := by
  unfold readP at h ⊢
  split at h
  · rename_i h1
    rw [if_pos h1]
    split at h
    · rename_i h2
      rw [if_pos h2]
      exact ⟨h2.1, h2.2.resolve_left hl⟩
    · simp at h
  · rename_i h1
    exact absurd h h1
end Go.Proofs.YtjhdnpplmlddaaaGreat
/- A slice of bytes that came in. -/
namespace Go.Proofs.YtjhdnpplmlddaaaGreat
set_option linter.unusedVariables false
open Go.RowKit

theorem own_byt {x : World} {base n : Nat} {sv : Value} {L : List UInt8} (h : x.ownsRow base 5 1 sv n (bc L)) : Byt x sv L := own_in h (Below.refl _ _)
theorem bytes_nil (w : World) (r : Option Nat) : BytesIn w (.slice none 0 0) [] r := ⟨none, 0, rfl, Nat.le_refl _, .inl ⟨rfl, rfl, rfl⟩⟩
theorem own_empty (W : World) (base : Nat) (hb : base ≤ W.heap.size) : (W.alloc (.cells #[] 5)).ownsRow base 5 1 (.slice (some ⟨W.heap.size, 0, none⟩) 0 0) 0 (bc []) := World.ownsRow_made (base := base) (e := 5) (size := 1) W #[] 0 hb (by unfold maxLen; omega) rfl
/-- A slice of bytes that came in, or was cut. -/
def ArgB (w : World) (a : Option Addr) (n cap : Nat) (L : List UInt8) : Prop :=
  n = L.length ∧ n ≤ cap ∧ (a = none → L = [] ∧ cap = 0) ∧ ∀ x, a = some x → ∀ j u, (bc L)[j]? = some u → x.block < w.heap.size ∧ w.cell? (x.add j) = some u
theorem ArgB.below {w w' : World} {a : Option Addr} {n cap : Nat} {L : List UInt8} (h : ArgB w a n cap L) (hb : Below w.heap.size w w') : ArgB w' a n cap L :=
  ⟨h.1, h.2.1, h.2.2.1, fun x hx j u hu => by
    obtain ⟨h1, h2⟩ := h.2.2.2 x hx j u hu
    have e : (x.add j).block = x.block := by unfold Addr.add; split <;> rfl
    exact ⟨by have := hb.size; omega, (World.cell?_of_block (by rw [e]; exact hb.block x.block h1)).trans h2⟩⟩
theorem ArgB.cut {w : World} {a : Option Addr} {n cap : Nat} {L : List UInt8} (h : ArgB w a n cap L) (m : Nat) (hm : m ≤ n) : ArgB w a m cap (L.take m) := by
  obtain ⟨h1, h2, h3, h4⟩ := h
  refine ⟨by simp; omega, by omega, fun e => by rw [(h3 e).1]; simp [(h3 e).2], fun x hx j u hu => h4 x hx j u (bc_take hu)⟩
/-- append of such bytes behind an empty slice of its own. -/
theorem append_arg {ops : Array Oper} {rest : List Oper} {o : Oper} {a : Act} {w : World} {Q : Exit → Act → World → Prop} (hgd : o.guard = none) (s x : Operand) (ho : o.op = .call { callee := .builtin .append, args := #[s, x], argTypes := #[119, 119] })
    (W : World) (hw : w = W.alloc (.cells #[] 5)) (hs : a.eval s = .slice (some ⟨W.heap.size, 0, none⟩) 0 0) (ad : Option Addr) (n cap : Nat) (L : List UInt8) (hx : a.eval x = .slice ad n cap) (hL : ArgB w ad n cap L) (hn : n ≤ 600)
    (h : ∀ v' w', Byt w' v' L → (∃ a' c', v' = .slice a' n c') → Below W.heap.size W w' → wpList Tryz.prog ops Q rest (a.put o.dst v') w') : wpList Tryz.prog ops Q (o :: rest) a w := by
  obtain ⟨i0, hi, hz0, hz1, hz2⟩ := info_parts Tryz.info_u8
  obtain ⟨h1, h2, h3, h4⟩ := hL
  subst hw
  have own0 := own_empty W W.heap.size (Nat.le_refl _)
  have bel0 : Below W.heap.size W (W.alloc (.cells #[] 5)) := (Below.refl _ _).alloc (Nat.le_refl _) _
  cases ad with
  | none =>
    obtain ⟨rfl, rfl⟩ := h3 rfl
    simp only [List.length_nil] at h1
    subst h1
    refine wpList_append_own_none hgd s x 119 ho W.heap.size 5 i0 1 Tryz.underlying119 hi (.slice (some ⟨W.heap.size, 0, none⟩) 0 0) 0 [] hs own0 hx ?_
    exact h _ _ (own_byt own0) ⟨_, _, rfl⟩ bel0
  | some y =>
    subst h1
    refine wpList_append_own _ hgd s x 119 ho W.heap.size 5 i0 (.int .u8 0) 1 1 Tryz.underlying119 hi hz0 hz1 hz2 rfl (by decide) (.slice (some ⟨W.heap.size, 0, none⟩) 0 0) 0 [] hs own0 y L.length cap (bc L) hx (by rw [bc_length]; omega) (fun j u hu => (h4 y rfl j u hu).2) (bc_one L) (by unfold maxLen; omega) (by omega) (by simp) ?_
    intro v' w' hown' hgrow _
    have hown : w'.ownsRow W.heap.size 5 1 v' L.length (bc L) := by simpa using hown'
    refine h v' w' (own_byt hown) (own_form hown) (bel0.grown hgrow (by simp) (fun k hk => by simp [Value.ownBlock] at hk; omega))
theorem conv_arg {w : World} {ad : Option Addr} {n cap : Nat} {L : List UInt8} (h : ArgB w ad n cap L) : (convert 119 9 (.slice ad n cap)).run Tryz.prog w = .ok (.string (str L)) w := by
  obtain ⟨h1, h2, h3, h4⟩ := h
  subst h1
  cases ad with
  | none =>
    obtain ⟨rfl, rfl⟩ := h3 rfl
    exact conv_bytes (r := none) (bytes_nil w none)
  | some y =>
    by_cases h0 : L = []
    · subst h0
      have hl : (loadCells y 0).run Tryz.prog w = .ok #[] w := by simpa using run_loadCells_list (P := Tryz.prog) w y [] (by simp)
      rw [List.length_nil, run_convert_bytes_string w 119 9 5 _ 0 cap Tryz.underlying119 Tryz.underlying5 Tryz.underlying9]
      simp [Conv.bytesToString, hl]
      rfl
    · have hl : 0 < L.length := by cases L; exact absurd rfl h0; simp
      have hc := (h4 y rfl 0 _ (bc_at L 0 hl))
      have spotless : y.spot = none := by simpa [Addr.add] using World.cell?_spot hc.2
      obtain ⟨g, off, sp⟩ := y
      simp only at spotless
      subst spotless
      exact conv_bytes (r := some g) ⟨some ⟨g, off, none⟩, cap, rfl, h2, .inr ⟨g, off, rfl, rfl, hc.1, fun j u hu => by have := (h4 _ rfl j u hu).2; rwa [add_lit] at this⟩⟩
end Go.Proofs.YtjhdnpplmlddaaaGreat
/- Masks; bytes behind bytes. -/
namespace Go.Proofs.YtjhdnpplmlddaaaGreat
set_option linter.unusedVariables false
open Go.RowKit

theorem and_ones (n : Int) (m j : Nat) (hm : (BitVec.ofInt 64 (m : Int)).toNat = 2 ^ j - 1) : (BitVec.ofInt 64 n &&& BitVec.ofInt 64 (m : Int)).toNat = (n % ((2 ^ 64 : Nat) : Int)).toNat % 2 ^ j := by
  rw [BitVec.toNat_and, BitVec.toNat_ofInt, hm, Nat.and_two_pow_sub_one_eq_mod]
theorem and15 (n : Int) : bits .and .i64 n 15 = n % 16 := by
  show IntKind.i64.wrap ((BitVec.ofInt 64 n &&& BitVec.ofInt 64 ((15 : Nat) : Int)).toNat : Nat) = n % 16
  rw [and_ones n 15 4 (by decide), IntKind.wrap_i64]
  omega
theorem and31 (n : Int) : bits .and .i64 n 31 = n % 32 := by
  show IntKind.i64.wrap ((BitVec.ofInt 64 n &&& BitVec.ofInt 64 ((31 : Nat) : Int)).toNat : Nat) = n % 32
  rw [and_ones n 31 5 (by decide), IntKind.wrap_i64]
  omega
theorem and63 (n : Int) : bits .and .i64 n 63 = n % 64 := by
  show IntKind.i64.wrap ((BitVec.ofInt 64 n &&& BitVec.ofInt 64 ((63 : Nat) : Int)).toNat : Nat) = n % 64
  rw [and_ones n 63 6 (by decide), IntKind.wrap_i64]
  omega
theorem and511 (n : Int) : bits .and .i64 n 511 = n % 512 := by
  show IntKind.i64.wrap ((BitVec.ofInt 64 n &&& BitVec.ofInt 64 ((511 : Nat) : Int)).toNat : Nat) = n % 512
  rw [and_ones n 511 9 (by decide), IntKind.wrap_i64]
  omega
theorem and65535 (n : Int) : bits .and .i64 n 65535 = n % 65536 := by
  show IntKind.i64.wrap ((BitVec.ofInt 64 n &&& BitVec.ofInt 64 ((65535 : Nat) : Int)).toNat : Nat) = n % 65536
  rw [and_ones n 65535 16 (by decide), IntKind.wrap_i64]
  omega
theorem append_byt {ops : Array Oper} {rest : List Oper} {o : Oper} {a : Act} {w : World} {Q : Exit → Act → World → Prop} (hgd : o.guard = none) (s x : Operand) (ho : o.op = .call { callee := .builtin .append, args := #[s, x], argTypes := #[119, 119] })
    (base nL n : Nat) (sv : Value) (L : List UInt8) (hs : a.eval s = sv) (hown : w.ownsRow base 5 1 sv nL (bc L)) (xv : Value) (M : List UInt8) (hx : a.eval x = xv) (hM : Byt w xv M) (hn : L.length + M.length = n) (hM0 : 0 < M.length) (hlen : n ≤ 100000) (hb : base ≤ w.heap.size) (w0 : World) (hw0 : Below base w0 w)
    (h : ∀ a' c' w', w'.ownsRow base 5 1 (.slice a' n c') n (bc (L ++ M)) → Below base w0 w' → wpList Tryz.prog ops Q rest (a.put o.dst (.slice a' n c')) w') : wpList Tryz.prog ops Q (o :: rest) a w := by
  obtain ⟨i0, hi, hz0, hz1, hz2⟩ := info_parts Tryz.info_u8
  have e : nL = L.length := by have := hown.1; rw [bc_length] at this; omega
  subst e hn
  obtain ⟨r, ⟨ad, cap, rfl, hcap, hh⟩, hr⟩ := hM
  rcases hh with ⟨_, e, _⟩ | ⟨g, off, rfl, _, hg, hat⟩
  · rw [e] at hM0
    simp at hM0
  · refine wpList_append_own _ hgd s x 119 ho base 5 i0 (.int .u8 0) 1 1 Tryz.underlying119 hi hz0 hz1 hz2 rfl (by decide) sv L.length (bc L) hs hown ⟨g, off, none⟩ M.length cap (bc M) hx (by rw [bc_length]; omega) (fun j u hu => by rw [add_lit]; exact hat j u hu) (bc_one M) (by unfold maxLen; omega) (by omega) hb ?_
    intro v' w' hown' hgrow _
    rw [← bc_append] at hown'
    obtain ⟨a', c', rfl⟩ := own_form hown'
    exact h a' c' w' hown' (hw0.grown hgrow hb (fun k hk => (hown.lt k hk).1))
theorem byt_one (W : World) (b : UInt8) : Byt (W.alloc (.cells #[.int .u8 (b.toNat : Int)] 5)) (.slice (some ⟨W.heap.size, 0, none⟩) 1 1) [b] := by
  refine ⟨some W.heap.size, ⟨_, 1, rfl, Nat.le_refl _, .inr ⟨W.heap.size, 0, rfl, rfl, by simp, fun j u hu => ?_⟩⟩, fun k hk => by cases hk; simp⟩
  rw [Nat.zero_add, cell_of_row _ _ _ _ _ _ (heap_alloc_new _ _)]
  simpa [bc] using hu
theorem xor_u8 (b t : UInt8) : bits .xor .u8 (b.toNat : Int) (t.toNat : Int) = ((b ^^^ t).toNat : Int) := by
  have hb := b.toNat_lt
  have ht := t.toNat_lt
  have hx : b.toNat ^^^ t.toNat < 2 ^ 8 := Nat.xor_lt_two_pow (by omega) (by omega)
  have e1 : (BitVec.ofInt 8 (b.toNat : Int)).toNat = b.toNat := by rw [BitVec.toNat_ofInt]; omega
  have e2 : (BitVec.ofInt 8 (t.toNat : Int)).toNat = t.toNat := by rw [BitVec.toNat_ofInt]; omega
  show IntKind.u8.wrap ((BitVec.ofInt 8 (b.toNat : Int) ^^^ BitVec.ofInt 8 (t.toNat : Int)).toNat : Int) = _
  rw [BitVec.toNat_xor, e1, e2, IntKind.wrap_u8, UInt8.toNat_xor]
  omega
theorem xor_ne (b t : UInt8) (h : t ≠ 0) : b ^^^ t ≠ b := fun e => h (by
  have := congrArg (fun z => b ^^^ z) e
  simpa [← UInt8.xor_assoc] using this)
end Go.Proofs.YtjhdnpplmlddaaaGreat
/- NodeOrder, walked. -/
namespace Go.Proofs.YtjhdnpplmlddaaaGreat
set_option linter.unusedVariables false
open Go.RowKit

/-- Elements in a row of their own, in whose midst one may be stored. -/
structure RowAt (y : World) (g off n : Nat) (l : List El) : Prop where
  len : l.length = n
  ok : ∀ i (hi : i < l.length), (l[i]).Ok
  el : ∀ i (hi : i < l.length), y.rangeAt g (off + i * 25) (ec l[i])
  th : y.there g off (n * 25)
  lt : g < y.heap.size
theorem RowAt.same {y z : World} {g off n : Nat} {l : List El} (h : RowAt y g off n l) (e : z.heap[g]? = y.heap[g]?) (hs : y.heap.size ≤ z.heap.size) : RowAt z g off n l :=
  ⟨h.len, h.ok, fun i hi => range_same (h.el i hi) e, there_same h.th e, by have := h.lt; omega⟩
theorem RowAt.set {y : World} {g off n : Nat} {l : List El} (h : RowAt y g off n l) (k : Nat) (hk : k < n) (e : El) (he : e.Ok) : RowAt (y.setCells g (off + k * 25) (ec e)) g off n (l.set k e) := by
  have hl := h.len
  have le := ec_length he
  refine ⟨by simp [hl], fun i hi => ?_, fun i hi => ?_, World.there_setCells h.th _ _ _, by rw [size_setCells]; exact h.lt⟩
  · rw [List.getElem_set]
    split
    · exact he
    · exact h.ok i (by simpa using hi)
  · rw [List.getElem_set]
    split
    · rename_i hki
      subst hki
      refine World.rangeAt_setCells_same _ _ _ _ (fun j hj => ?_)
      have := h.th (k * 25 + j) (by rw [le] at hj; have : (k + 1) * 25 ≤ n * 25 := Nat.mul_le_mul_right 25 (by omega); omega)
      rw [Nat.add_assoc]
      exact this
    · have hi' : i < l.length := by simpa using hi
      have l2 := ec_length (h.ok i hi')
      refine World.rangeAt_setCells_apart (h.el i hi') _ _ _ (.inr ?_)
      rcases Nat.lt_or_gt_of_ne ‹_› with q | q
      · right
        have : (k + 1) * 25 ≤ i * 25 := Nat.mul_le_mul_right 25 (by omega)
        omega
      · left
        have : (i + 1) * 25 ≤ k * 25 := Nat.mul_le_mul_right 25 (by omega)
        omega
theorem RowAt.els {y : World} {g off n c : Nat} {l : List El} (h : RowAt y g off n l) (hc : n ≤ c) (hm : n ≤ maxLen) : Els y (.slice (some ⟨g, off, none⟩) n c) l := by
  have := h.len
  exact ⟨some g, ⟨some ⟨g, off, none⟩, c, by rw [this], by omega, by omega, h.ok, .inr ⟨g, off, rfl, rfl, h.lt, h.el⟩⟩, fun k hk => by cases hk; exact h.lt⟩
theorem less_all : ∀ (x y : List UInt8), (Op.bytesLess x y || x == y) = (!Op.bytesLess y x)
  | [], [] => rfl
  | [], _ :: _ => rfl
  | _ :: _, [] => rfl
  | a :: x, b :: y => by
    have ih := less_all x y
    rw [Op.bytesLess, Op.bytesLess, List.cons_beq_cons]
    by_cases h1 : a = b
    · subst h1
      have h2 : ¬ a < a := UInt8.lt_irrefl a
      simp only [decide_eq_false h2, Bool.false_or, beq_self_eq_true, Bool.true_and]
      exact ih
    · have e1 : (a == b) = false := by simpa using h1
      have e2 : (b == a) = false := by simpa using fun e : b = a => h1 e.symm
      rw [e1, e2]
      have h3 : a.toNat ≠ b.toNat := fun e => h1 (UInt8.toNat_inj.1 e)
      simp only [Bool.false_and, Bool.or_false, UInt8.lt_iff_toNat_lt]
      by_cases h4 : a.toNat < b.toNat
      · rw [decide_eq_true h4, decide_eq_false (by omega)]; rfl
      · rw [decide_eq_false h4, decide_eq_true (by omega)]; rfl
theorem RowAt.setv {y : World} {g off n : Nat} {l : List El} (h : RowAt y g off n l) (k : Nat) (hk : k < l.length) (v : Value) (hv : v.oneCell' = true) : RowAt (y.setCell ⟨g, off + k * 25 + 24, none⟩ v) g off n (l.set k ⟨(l[k]).k, v⟩) := by
  have hl := h.len
  have okk := h.ok k hk
  have okn : (⟨(l[k]).k, v⟩ : El).Ok := ⟨okk.len, hv⟩
  have T := touch_set y g (off + k * 25 + 24) v
  have hth := h.th (k * 25 + 24) (by have : (k + 1) * 25 ≤ n * 25 := Nat.mul_le_mul_right 25 (by omega); omega)
  rw [← Nat.add_assoc] at hth
  have out : ∀ o, o ≠ off + k * 25 + 24 → (y.setCell ⟨g, off + k * 25 + 24, none⟩ v).cell? ⟨g, o, none⟩ = y.cell? ⟨g, o, none⟩ := fun o ho => by
    have := World.cell?_setCells_out g [v] (off + k * 25 + 24) y ⟨g, o, none⟩ (fun _ _ => by simp; omega)
    simpa [World.setCells] using this
  have inn : (y.setCell ⟨g, off + k * 25 + 24, none⟩ v).cell? ⟨g, off + k * 25 + 24, none⟩ = some v := by
    have ht : y.there g (off + k * 25 + 24) [v].length := fun j hj => by
      have e : j = 0 := by simpa using hj
      subst e
      simpa using hth
    have := World.rangeAt_setCells_same y g (off + k * 25 + 24) [v] ht 0 v rfl
    simpa [World.setCells] using this
  have th2 : (y.setCell ⟨g, off + k * 25 + 24, none⟩ v).there g off (n * 25) := by
    have := World.there_setCells h.th g (off + k * 25 + 24) [v]
    simpa [World.setCells] using this
  refine ⟨by simp [hl], fun i hi => ?_, fun i hi => ?_, th2, by have := T.size; have := h.lt; omega⟩
  · rw [List.getElem_set]
    split
    · exact okn
    · exact h.ok i (by simpa using hi)
  · rw [List.getElem_set]
    split
    · rename_i hki
      subst hki
      intro j u hu
      have hj : j < 25 := by have := (List.getElem?_eq_some_iff.1 hu).1; rw [ec_length okn] at this; exact this
      by_cases h24 : j = 24
      · subst h24
        have e : u = v := by
          rw [ec, List.getElem?_append_right (by simp [bc_length, okk.len])] at hu
          simp [bc_length, okk.len] at hu
          exact hu.symm
        rw [e]
        exact inn
      · rw [out _ (by omega)]
        refine h.el k hk j u ?_
        rw [ec, List.getElem?_append_left (by simp [bc_length, okk.len]; omega)] at hu ⊢
        exact hu
    · have hi' : i < l.length := by simpa using hi
      have l2 := ec_length (h.ok i hi')
      intro j u hu
      have hj : j < 25 := by have := (List.getElem?_eq_some_iff.1 hu).1; omega
      rw [out _ (by
        rcases Nat.lt_or_gt_of_ne ‹_› with q | q
        · have : (k + 1) * 25 ≤ i * 25 := Nat.mul_le_mul_right 25 (by omega)
          omega
        · have : (i + 1) * 25 ≤ k * 25 := Nat.mul_le_mul_right 25 (by omega)
          omega)]
      exact h.el i hi' j u hu

theorem RowAt.at_ {y : World} {g off n : Nat} {l : List El} (h : RowAt y g off n l) (k : Nat) (hk : k < n) {e : El} (he : e.Ok) : y.there g (off + k * 25) (ec e).toArray.size := fun j hj => by
  rw [ec_size he] at hj
  have := h.th (k * 25 + j) (by have : (k + 1) * 25 ≤ n * 25 := Nat.mul_le_mul_right 25 (by omega); omega)
  rw [Nat.add_assoc]
  exact this
theorem HasN.re {w : World} {b : Nat} {x : Nod} {pv qv : Value} (h : HasN w b x pv qv) (x' : Nod) (hl : x'.lv = x.lv) : HasN w b x' pv qv := ⟨by rw [nc, hl]; exact h.1, h.2⟩
theorem els_empty {w y : World} {sv : Value} {l : List El} {B : Nat} (h : ElsN w sv l B) (hl : l = []) : Els y sv [] := by
  subst hl
  obtain ⟨⟨r, ⟨ad, cap, rfl, h1, h2, _, _⟩, _⟩, _⟩ := h
  exact ⟨none, ⟨ad, cap, rfl, h1, h2, (fun i hi => by cases hi), .inl rfl⟩, fun k hk => by cases hk⟩
/-! What is not right any more. -/
theorem less_irrefl (a : List UInt8) : Op.bytesLess a a = false := by
  have := less_all a a
  cases h : Op.bytesLess a a with
  | false => rfl
  | true => rw [h] at this; simp at this
theorem less_asym {a b : List UInt8} (h : Op.bytesLess a b = true) : Op.bytesLess b a = false := by
  have := less_all b a
  rw [h] at this
  cases h2 : Op.bytesLess b a with
  | false => rfl
  | true => rw [h2] at this; simp at this
theorem rises_at : ∀ (l : List (List UInt8)) (k : Nat) (h : k + 1 < l.length), rises l = true → Op.bytesLess (l[k]'(by omega)) l[k + 1] = true
  | [], k, h, _ => by simp at h
  | [a], k, h, _ => by simp at h
  | a :: b :: l, 0, h, hr => by
    simp only [rises, Bool.and_eq_true] at hr
    exact hr.1
  | a :: b :: l, k + 1, h, hr => by
    simp only [rises, Bool.and_eq_true] at hr
    exact rises_at (b :: l) k (by simpa using h) hr.2
theorem rises_no (l : List (List UInt8)) (k : Nat) (h : k + 1 < l.length) (hn : Op.bytesLess (l[k]'(by omega)) l[k + 1] = false) : rises l = false := by
  cases hr : rises l with
  | false => rfl
  | true => rw [rises_at l k h hr] at hn; cases hn
theorem right_pairs {lv : Int} {ps : List Pr} {ks : List Kd} (h : rises (ps.map Pr.k) = false) (z : lv = 0) : rightN ⟨lv, ps, ks⟩ = false := by
  rw [rightN]
  simp only [okPairs, h, Bool.and_false]
  split <;> simp_all
theorem right_kids {lv : Int} {ps : List Pr} {ks : List Kd} (h : rises (ks.map Kd.k) = false ∨ apart ks = false) (z : ¬ lv = 0) : rightN ⟨lv, ps, ks⟩ = false := by
  rw [rightN]
  rcases h with h | h <;> simp [okKids, h, z]
theorem rises_of_right {x : Nod} (h : rightN x = true) : (x.lv = 0 → rises (x.ps.map Pr.k) = true) ∧ (¬ x.lv = 0 → rises (x.ks.map Kd.k) = true) := by
  rw [rightN] at h
  split at h
  · cases h
  · split at h
    · rename_i z
      simp only [okPairs, Bool.and_eq_true] at h
      exact ⟨fun _ => h.2.2, fun q => absurd z q⟩
    · rename_i z
      simp only [okKids, Bool.and_eq_true] at h
      exact ⟨fun q => absurd q z, fun _ => h.2.1.2⟩
/-- Neighbours changed about; one twice. -/
theorem swap_no (l : List (List UInt8)) (k : Nat) (h : k + 1 < l.length) (hr : rises l = true) : rises ((l.set k l[k + 1]).set (k + 1) (l[k]'(by omega))) = false := by
  refine rises_no _ k (by simpa using h) ?_
  have := less_asym (rises_at l k h hr)
  simpa [List.getElem_set] using this
theorem twice_no (l : List (List UInt8)) (k : Nat) (h : k + 1 < l.length) : rises (l.set (k + 1) (l[k]'(by omega))) = false := by
  refine rises_no _ k (by simpa using h) ?_
  have := less_irrefl (l[k]'(by omega))
  simpa [List.getElem_set] using this
theorem apart_twice (l : List Kd) (k : Nat) (h : k + 1 < l.length) : apart (l.set (k + 1) ⟨(l[k + 1]).k, (l[k]'(by omega)).n⟩) = false := by
  refine apart_no _ (k + 1) (by simpa using h) (apartAt_no _ (k + 1) k (by omega) (by simpa using h) ?_)
  rw [nAt_eq _ _ (by simp; omega), nAt_eq _ _ (by simpa using h)]
  simp
end Go.Proofs.YtjhdnpplmlddaaaGreat
