/- Bytes behind bytes, at one operation of a region. -/
import Derived.Test.YtnpohjbhfoebcaaSupW
import Derived.Test.YtnpohjbhfoebcaaSupX
namespace Go.Proofs.Ytnpohjbhfoebcaa
set_option linter.unusedVariables false
open Go.RowKit

theorem wp_append_bytes {o : Oper} {a : Act} {w : World} {K : Act → World → Prop} {Q : Exit → Act → World → Prop} (s x : Operand) (ho : o.op = .call { callee := .builtin .append, args := #[s, x], argTypes := #[25, 25] })
    (base nL n : Nat) (sv : Value) (L : List UInt8) (hs : a.eval s = sv) (hown : w.ownsRow base 5 1 sv nL (bc L)) (ad : Addr) (m c : Nat) (M : List UInt8) (hx : a.eval x = .slice (some ad) m c) (hm : M.length = m) (hcell : ∀ j u, (bc M)[j]? = some u → w.cell? (ad.add j) = some u) (hn : L.length + M.length = n) (hlen : n ≤ 100000) (hb : base ≤ w.heap.size)
    (h : ∀ a' c' w', w'.ownsRow base 5 1 (.slice a' n c') n (bc (L ++ M)) → w.grownBy w' sv.ownBlock → K (a.put o.dst (.slice a' n c')) w') : o.wp Try.prog a w K Q := by
  obtain ⟨i0, hi, hz0, hz1, hz2⟩ := info_parts Try.info_u8
  have e : nL = L.length := by have := hown.1; rw [bc_length] at this; omega
  subst e hn hm
  refine wp_append_own _ s x 25 ho base 5 i0 (.int .u8 0) 1 1 Try.underlying25 hi hz0 hz1 hz2 rfl (by decide) sv L.length (bc L) hs hown ad M.length c (bc M) hx (by rw [bc_length]; omega) hcell (bc_one M) (by unfold maxLen; omega) (by omega) hb ?_
  intro v' w' hown' hgrow _
  rw [← bc_append] at hown'
  obtain ⟨a', c', rfl⟩ := own_form hown'
  exact h a' c' w' hown' hgrow
theorem own_apart {w : World} {b base n : Nat} {S : Sup} {sv v : Value} {xs : List Value} (h : HasU w b S sv) (ho : w.ownsRow base 5 1 v n xs) : some b ≠ v.ownBlock := fun e => by
  rcases ho.2 with ⟨rfl, _⟩ | ⟨g, cap, cur, rfl, _, hg, _⟩
  · cases e
  · cases e
    rw [h.1] at hg
    simp at hg
/-- A block of bytes: where its cells are, from a place on. -/
theorem byt_cells {x : World} {g off c : Nat} {L : List UInt8} (h : Byt x (.slice (some ⟨g, off, none⟩) 512 c) L) : L.length = 512 ∧ g < x.heap.size ∧ ∀ j u, (bc L)[j]? = some u → x.cell? ⟨g, off + j, none⟩ = some u := by
  obtain ⟨r, ⟨ad, cap, e, hcap, hh⟩, h2⟩ := h
  simp only [Value.slice.injEq] at e
  obtain ⟨rfl, hl, rfl⟩ := e
  have hl : L.length = 512 := hl.symm
  rcases hh with ⟨e, _, _⟩ | ⟨g', off', e, _, h4, h5⟩
  · cases e
  · cases e
    exact ⟨hl, h4, h5⟩
theorem cells_take {x : World} {g off c a : Nat} {L : List UInt8} (h : Byt x (.slice (some ⟨g, off, none⟩) 512 c) L) : ∀ j u, (bc (L.take a))[j]? = some u → x.cell? ((⟨g, off, none⟩ : Addr).add j) = some u := fun j u hu => by
  rw [add_lit]
  exact (byt_cells h).2.2 j u (bc_take hu)
theorem cells_drop {x : World} {g off c a : Nat} {L : List UInt8} (h : Byt x (.slice (some ⟨g, off, none⟩) 512 c) L) : ∀ j u, (bc (L.drop a))[j]? = some u → x.cell? ((⟨g, off + a, none⟩ : Addr).add j) = some u := fun j u hu => by
  rw [add_lit, Nat.add_assoc]
  exact (byt_cells h).2.2 _ u (bc_drop hu)
/-- Held through a row's growth. -/
theorem Held.grown {w x y : World} {us : List (Nat × Sup × Value)} {bs : List (Value × List UInt8)} {ss : List (Value × List Snp)} {B : Nat} {v : Value} {n : Nat} {xs : List Value} {x0 : World} (h0 : Held w x0 us bs ss) (hB : B = x0.heap.size) (hb : Below B x0 x) (ho : x.ownsRow B 5 1 v n xs) (hg : x.grownBy y v.ownBlock) : Held w y us bs ss ∧ Below B x0 y := by
  have hb2 : Below B x0 y := hb.grown hg (by have := hb.size; omega) (fun k hk => (ho.lt k hk).1)
  subst hB
  exact ⟨h0.called hb2, hb2⟩
theorem store_sup_op {o : Oper} {a : Act} {w : World} {K : Act → World → Prop} {Q : Exit → Act → World → Prop} (x y : Operand) (ho : o.op = .store 24 x y) (b : Nat) (hx : a.eval x = .pointer (some ⟨b, 0, none⟩)) (T : Sup) (tv : Value) (hy : a.eval y = uv T tv) (ht : tv.oneCell' = true) (S : Sup) (sv : Value) (hF : HasU w b S sv)
    (h : ∀ w', HasU w' b T tv → Touch b none w w' → w'.heap.size = w.heap.size → K (a.put o.dst undef) w') : o.wp Try.prog a w K Q :=
  wp_store_row _ x y ho b _ hx hy _ _ hF.1 Try.sup_info rfl (uc_all _ _ ht) (h _ (hF.setRow T tv ht) (touch_row _ _ _) (by simp))
end Go.Proofs.Ytnpohjbhfoebcaa
