/- pack.Read: a reader of a copy of the bytes that it is given. -/
import Derived.Test.YtgijkgcekfbgeaaDoorPackQ
namespace Go.Proofs.YtgijkgcekfbgeaaDoor
set_option linter.unusedVariables false
open Go.RowKit

theorem own_bytes {w : World} {base : Nat} {sv : Value} {L : List UInt8} (h : w.ownsRow base 5 1 sv L.length (bc L)) : BytesIn w sv L sv.ownBlock := by
  rcases h.2 with ⟨rfl, h0⟩ | ⟨g, cap, cur, rfl, hb, hg, hn, _⟩
  · exact ⟨none, 0, by rw [h0], by omega, .inl ⟨rfl, List.eq_nil_of_length_eq_zero h0, rfl⟩⟩
  · refine ⟨_, cap, rfl, hn, .inr ⟨g, 0, rfl, rfl, (h.lt g rfl).2, fun j u hu => ?_⟩⟩
    have := h.cells (g := g) rfl j u hu
    rw [add_lit] at this
    exact this

/-- What Read comes to. -/
def RdNew (w : World) (L : List UInt8) (e : Ending) (w' : World) : Prop :=
  ∃ q r, e = .returned (.pointer (some ⟨q, 0, none⟩)) ∧ RdS w' q ⟨L, false⟩ r ∧ Below w.heap.size w w' ∧ w.heap.size ≤ q ∧ ∀ k, r = some k → w.heap.size ≤ k ∧ k < w'.heap.size
theorem rd_new {w w1 : World} {a : Option Addr} {c : Nat} {L : List UInt8} (hown : w1.ownsRow w.heap.size 5 1 (.slice a L.length c) L.length (bc L)) (hb : Below w.heap.size w w1) {n : Nat} (hn : w1.heap.size = n) :
    RdNew w L (.returned (.pointer (some ⟨n, 0, none⟩))) (w1.alloc (.cells #[.slice a L.length c, .bool false] 79)) := by
  subst hn
  have hlt := hown.lt
  refine ⟨_, (Value.slice a L.length c).ownBlock, rfl, ⟨_, heap_alloc_new _ _, (own_bytes hown).kept (fun k hk => Below.heap_alloc _ _ _ (hlt k hk).2), (fun e => by cases e), fun e => ?_⟩, hb.alloc hb.size _, hb.size, fun k hk => ⟨(hlt k hk).1, by have := (hlt k hk).2; simp; omega⟩⟩
  have := (hlt _ e).2
  omega

set_option maxHeartbeats 400000 in
theorem read_none (w : World) : Calls Tryd.prog 47 #[.slice none 0 0] w fun e w' => RdNew w [] e w' := by
  obtain ⟨i0, hi, hz0, hz1, hz2⟩ := info_parts Tryd.info_u8
  have hm := World.ownsRow_made (base := w.heap.size) (e := 5) (size := 1) w #[] 0 (Nat.le_refl _) (by unfold maxLen; omega) rfl
  have R := rd_new (w := w) (L := []) hm ((Below.refl _ _).alloc (Nat.le_refl _) _) (n := w.heap.size + 1) (by simp)
  go_enter Tryd.func47, Tryd.ntmps47
  go_wp2_with (at_builtin; refine wpList_append_own_none rfl (.tmp 3) (.tmp 4) 55 rfl w.heap.size 5 i0 1 Tryd.underlying55 hi (.slice (some ⟨w.heap.size, 0, none⟩) 0 0) 0 [] rfl hm rfl ?_)
  go_ret
  exact R
set_option maxHeartbeats 400000 in
theorem read_some (w : World) (g off cap : Nat) (L : List UInt8) (hg : g < w.heap.size) (hl : L.length ≤ 140737488351232) (hcell : ∀ j u, (bc L)[j]? = some u → w.cell? ⟨g, off + j, none⟩ = some u) :
    Calls Tryd.prog 47 #[.slice (some ⟨g, off, none⟩) L.length cap] w fun e w' => RdNew w L e w' := by
  obtain ⟨i0, hi, hz0, hz1, hz2⟩ := info_parts Tryd.info_u8
  have hm := World.ownsRow_made (base := w.heap.size) (e := 5) (size := 1) w #[] 0 (Nat.le_refl _) (by unfold maxLen; omega) rfl
  have hcs : ∀ j u, (bc L)[j]? = some u → (w.alloc (.cells #[] 5)).cell? ((⟨g, off, none⟩ : Addr).add j) = some u := fun j u hu => by
    rw [add_lit, World.cell?_alloc_past _ _ _ hg]
    exact hcell j u hu
  clear hcell
  go_enter Tryd.func47, Tryd.ntmps47
  go_wp2_with (at_builtin; refine wpList_append_own _ rfl (.tmp 3) (.tmp 4) 55 rfl w.heap.size 5 i0 (.int .u8 0) 1 1 Tryd.underlying55 hi hz0 hz1 hz2 rfl (by decide) (.slice (some ⟨w.heap.size, 0, none⟩) 0 0) 0 [] rfl hm ⟨g, off, none⟩ L.length cap (bc L) rfl (by rw [bc_length]; omega) hcs (bc_one L) (by unfold maxLen; omega) (by omega) (by simp) ?_; intro v' w1 hown0 hgrow _; have hown : w1.ownsRow w.heap.size 5 1 v' L.length (bc L) := (by simpa using hown0); clear hown0; obtain ⟨a', c', rfl⟩ := own_form hown)
  go_ret
  exact rd_new hown (((Below.refl _ _).alloc (Nat.le_refl _) _).grown hgrow (by simp) (fun k hk => by simp [Value.ownBlock] at hk; omega)) rfl
theorem read_calls (w : World) (sv : Value) (L : List UInt8) (r : Option Nat) (h : BytesIn w sv L r) (hl : L.length ≤ 140737488351232) :
    Calls Tryd.prog 47 #[sv] w fun e w' => RdNew w L e w' := by
  obtain ⟨ad, cap, rfl, hcap, hcs⟩ := h
  rcases hcs with ⟨rfl, rfl, rfl⟩ | ⟨g, off, rfl, _, hg, hcell⟩
  · exact read_none w
  · exact read_some w g off cap L hg hl hcell
end Go.Proofs.YtgijkgcekfbgeaaDoor
