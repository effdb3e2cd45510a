/- Of: the superblock of a block. -/
import Derived.Test.YtnpohjbhfoebcaaSupK
namespace Go.Proofs.Ytnpohjbhfoebcaa
set_option linter.unusedVariables false
open Go.RowKit

def heldOf (L : List UInt8) : Nat := if L.length = 512 then rdHeld ⟨L.take 504, false⟩ else 0
theorem readF_len (L : List UInt8) : (readF L).1.l.length = 8 := by
  unfold readF
  split
  · have : rdHeld ⟨L.take 504, false⟩ ≤ 8 := Nat.min_le_right _ _
    simp [rdF, rdN_length]
    omega
  · rfl
theorem readF_held (L : List UInt8) : min (readF L).1.n 8 = (heldOf L : Int) := by
  unfold readF heldOf
  split
  · show min (rdCount _ : Int) 8 = ((min (rdCount _) 8 : Nat) : Int)
    omega
  · rfl
/-- The superblock whose block these bytes are. -/
def ofP (L : List UInt8) : Option Sup := if ((readF L).2 && right (says (readF L).1 (heldOf L)) && (fieldsOf (says (readF L).1 (heldOf L)) == (readF L).1)) = true then some (says (readF L).1 (heldOf L)) else none
theorem read_any (w : World) (sv : Value) (L : List UInt8) (r : Option Nat) (h : BytesIn w sv L r) :
    Calls Try.prog 18 #[sv] w fun e w' => e = .returned (.tuple #[fv (readF L).1, .bool (readF L).2]) ∧ Below w.heap.size w w' := by
  obtain ⟨ad, cap, rfl, hcap, hc⟩ := h
  by_cases hl : L.length = 512
  · rcases hc with ⟨_, e, _⟩ | ⟨g, off, rfl, _, hg, hat⟩
    · rw [e] at hl
      simp at hl
    · have := read_full w g off cap L ⟨hl, by omega, hg, hat⟩
      rw [hl]
      exact this
  · have := read_wrong w ad L.length cap hl
    have e : readF L = (zeroF, false) := by rw [readF, if_neg hl]
    rw [e]
    exact this

/-- What tells whether there is one. -/
def code (o : Option Sup) : Int := if o.isSome then 0 else 12
/-- What Of and its like come to. -/
def OfTo (w : World) (o : Option Sup) (e : Ending) (w' : World) : Prop :=
  ∃ sv r, e = .returned (.tuple #[uv (o.getD nilU) sv, .int .i64 (code o)]) ∧ SnapsIn w' sv (o.getD nilU).l r ∧ (∀ k, r = some k → w.heap.size ≤ k ∧ k < w'.heap.size) ∧ Below w.heap.size w w'

theorem HasU.range {w : World} {b : Nat} {S : Sup} {sv : Value} (h : HasU w b S sv) : w.rangeAt b 0 [.int .i64 S.g, .int .i64 S.r, .int .i64 S.x, .int .i64 S.c, sv] := fun j v hj => by
  rw [Nat.zero_add, cell_of_row w b j _ _ _ h.1]
  simpa using hj
/-- What Of's walk holds. -/
structure OSt (w x : World) (b4 b6 : Nat) (F : Fld) (S : Sup) (sv : Value) (r : Option Nat) : Prop where
  f : HasF x b4 F
  u : HasU x b6 S sv
  z : HasU x w.heap.size nilU (.slice none 0 0)
  sn : SnapsIn x sv S.l r
  bel : Below w.heap.size w x
  rr : ∀ k, r = some k → w.heap.size < k ∧ k < b6
  rlt : ∀ k, r = some k → k < x.heap.size
theorem OSt.same {w x y : World} {b4 b6 : Nat} {F : Fld} {S : Sup} {sv : Value} {r : Option Nat} (h : OSt w x b4 b6 F S sv r) (e1 : y.os = x.os) (e2 : y.tape = x.tape) (e3 : y.output = x.output) (e4 : y.heap.size = x.heap.size) (e : ∀ k, k < x.heap.size → y.heap[k]? = x.heap[k]?) : OSt w y b4 b6 F S sv r :=
  ⟨h.f.same (e _ h.f.lt), h.u.same (e _ h.u.lt), h.z.same (e _ h.z.lt), h.sn.kept fun k hk => e _ (h.rlt k hk), h.bel.trans ⟨e1, e2, e3, by omega, fun k hk => e k (by have := h.bel.size; omega)⟩, h.rr, fun k hk => by have := h.rlt k hk; omega⟩
theorem OSt.called {w x y : World} {b4 b6 : Nat} {F : Fld} {S : Sup} {sv : Value} {r : Option Nat} (h : OSt w x b4 b6 F S sv r) (b : Below x.heap.size x y) : OSt w y b4 b6 F S sv r :=
  ⟨h.f.below b h.f.lt, h.u.below b h.u.lt, h.z.below b h.z.lt, h.sn.below b h.rlt, h.bel.trans (b.mono h.bel.size), h.rr, fun k hk => by have := h.rlt k hk; have := b.size; omega⟩

set_option maxHeartbeats 8000000 in
set_option maxRecDepth 100000 in
theorem of_calls (w : World) (bv : Value) (L : List UInt8) (rb : Option Nat) (h : BytesIn w bv L rb) (hrb : ∀ k, rb = some k → k < w.heap.size) :
    Calls Try.prog 12 #[bv] w (OfTo w (ofP L)) := by
  have hC : ∀ o, Calls Try.prog 18 #[bv] (w.alloc o) fun e w' => e = .returned (.tuple #[fv (readF L).1, .bool (readF L).2]) ∧ Below (w.alloc o).heap.size (w.alloc o) w' := fun o => read_any _ bv L rb (h.kept fun k hk => Below.heap_alloc _ _ _ (hrb k hk))
  clear h hrb
  have hF8 := readF_len L
  have hm := readF_held L
  have HO : Hid (ofP L = if ((readF L).2 && right (says (readF L).1 (heldOf L)) && (fieldsOf (says (readF L).1 (heldOf L)) == (readF L).1)) = true then some (says (readF L).1 (heldOf L)) else none) := rfl
  generalize ofP L = R at *
  generalize (readF L).2 = ok at *
  generalize (readF L).1 = F at *
  generalize heldOf L = m at *
  have hsay := fun w => says_calls w F m hF8 hm
  have h8 : (says F m).l.length ≤ 8 := by
    simp only [says, List.length_take]
    omega
  clear hm
  generalize says F m = S at *
  have HZ0 : HasU (w.alloc (.cells (uc nilU (.slice none 0 0)) 24)) w.heap.size nilU (.slice none 0 0) := HasU.new w nilU _ _ rfl rfl
  have B0 : Below w.heap.size w (w.alloc (.cells (uc nilU (.slice none 0 0)) 24)) := (Below.refl _ w).alloc (Nat.le_refl _) _
  have HZ : Hid (HasU (w.alloc (.cells (uc nilU (.slice none 0 0)) 24)) w.heap.size nilU (.slice none 0 0)) := HZ0
  clear HZ0
  go_enter Try.func12, Try.ntmps12
  go_upto_region 2 with (first
    | (go_at_call 18; refine (hC _).mono ?_; rintro e w1 ⟨rfl, b1⟩)
    | (refine store_fld rfl _ _ rfl _ rfl F rfl hF8 zeroF (zero_hasF _ _ (by simp)) ?_; intro w2 hf2 t2 s2))
  have hs1 := b1.size
  simp at hs1 s2
  have z1 : HasU w1 w.heap.size nilU (.slice none 0 0) := HZ.out.below b1 (by simp)
  have z2 : HasU w2 w.heap.size nilU (.slice none 0 0) := (z1.alloc _).touch t2 (by omega)
  have B1 : Below w.heap.size w w1 := B0.trans (b1.mono (by simp))
  have B2 : Below w.heap.size w w2 := below_rowed (B1.alloc B1.size _) t2 B1.size (Nat.le_refl _)
  have Z2 : Hid (HasU w2 w.heap.size nilU (.slice none 0 0)) := z2
  have F2 : Hid (HasF w2 w1.heap.size F) := hf2
  clear z1 z2 hf2 t2 b1 B1 HZ B0 hC
  generalize w1.heap.size = b4 at *
  go_upto_region 3 with (first
    | (refine load_fld _ rfl b4 rfl rfl _ F2.out ?_)
    | (go_at_call 19; refine (hsay _).mono ?_; rintro e w3 ⟨v, rfl, sv, r, rfl, sn3, b3, r3⟩)
    | (refine store_sup rfl _ _ rfl w3.heap.size rfl S sv rfl sn3.one nilU (.slice none 0 0) (HasU.new w3 nilU (.slice none 0 0) _ rfl rfl) ?_; intro x hu tx sx))
  have hs3 := b3.size
  simp at sx
  have H2 : OSt w x b4 w3.heap.size F S sv r := by
    have f3 := F2.out.below b3 F2.out.lt
    have z3 := Z2.out.below b3 Z2.out.lt
    have l1 := f3.lt
    have l2 := z3.lt
    refine ⟨(f3.alloc _).touch tx (by omega), hu, (z3.alloc _).touch tx (by omega), sn3.kept fun k hk => (tx.block k (by have := r3 k hk; simp; omega) (by have := r3 k hk; omega) (by simp)).trans (Below.heap_alloc _ _ _ (r3 k hk).2), below_rowed ((B2.trans (b3.mono B2.size)).alloc (by have := B2.size; omega) _) tx (by have := B2.size; omega) (Nat.le_refl _), fun k hk => ⟨by have := r3 k hk; have := Z2.out.lt; omega, (r3 k hk).2⟩, fun k hk => by have := r3 k hk; omega⟩
  clear sn3 b3 r3 F2 Z2 B2 hs1 s2 hs3 hsay hu tx sx
  generalize w3.heap.size = b6 at *
  have hi5 : (Try.prog.info? 24).map (·.size) = some [Value.int .i64 S.g, .int .i64 S.r, .int .i64 S.x, .int .i64 S.c, sv].length := Try.sup_info
  have hi31 : (Try.prog.info? 48).map (·.size) = some (fc F).length := by rw [fc_length F hF8]; exact Try.fld_info
  cases ok with
  | false =>
    have HO2 : R = none := HO.out
    clear HO
    have HO : Hid (R = none) := HO2
    clear HO2
    refine wp_region_noPanic ?_
    refine wp_region_held_drew (S := (fun x => OSt w x b4 b6 F S sv r)) (by kernel_rfl) (H2.same rfl rfl rfl rfl fun _ _ => rfl) (fun hHeld => ?_)
    refine wpAnyH_take (i := 0) (v := ?_) rfl (by kernel_rfl) (by kernel_rfl) (by kernel_rfl) (fun _ _ _ h => h) (Or.inl ⟨by rfl, ?_⟩) hHeld ?_
    case refine_2 => (intro w hSw; (try dsimp only at hSw); go_simp; try (with_reducible rfl))
    ((try simp only); (try simp only [List.getElem_toArray]); (try simp only [List.getElem_cons_succ]); (try simp only [List.getElem_cons_zero]); (try simp only [Act.put]); (try simp only [List.setIfInBounds_toArray]); (try simp only [List.set_cons_succ]); (try simp only [List.set_cons_zero]))
    refine wpAnyH_take (i := 1) (v := ?_) rfl (by kernel_rfl) (by kernel_rfl) (by kernel_rfl) (fun _ _ _ h => h) (Or.inl ⟨by rfl, ?_⟩) hHeld ?_
    case refine_2 => (intro w hSw; (try dsimp only at hSw); go_simp; try (with_reducible rfl))
    ((try simp only); (try simp only [List.getElem_toArray]); (try simp only [List.getElem_cons_succ]); (try simp only [List.getElem_cons_zero]); (try simp only [Act.put]); (try simp only [List.setIfInBounds_toArray]); (try simp only [List.set_cons_succ]); (try simp only [List.set_cons_zero]))
    refine wpAnyH_take (i := 2) (v := ?_) rfl (by kernel_rfl) (by kernel_rfl) (by kernel_rfl) (fun _ _ _ h => h) (Or.inl ⟨by rfl, ?_⟩) hHeld ?_
    case refine_2 => (intro w hSw; (try dsimp only at hSw); go_simp; try (with_reducible rfl))
    ((try simp only); (try simp only [List.getElem_toArray]); (try simp only [List.getElem_cons_succ]); (try simp only [List.getElem_cons_zero]); (try simp only [Act.put]); (try simp only [List.setIfInBounds_toArray]); (try simp only [List.set_cons_succ]); (try simp only [List.set_cons_zero]))
    refine wpAnyH_take (i := 3) (v := undef) rfl (by kernel_rfl) (by kernel_rfl) (by kernel_rfl) (fun _ _ _ h => h) (Or.inr ⟨by rfl, rfl⟩) hHeld ?_
    ((try simp only); (try simp only [List.getElem_toArray]); (try simp only [List.getElem_cons_succ]); (try simp only [List.getElem_cons_zero]); (try simp only [Act.put]); (try simp only [List.setIfInBounds_toArray]); (try simp only [List.set_cons_succ]); (try simp only [List.set_cons_zero]))
    refine wpAnyH_take (i := 4) (v := undef) rfl (by kernel_rfl) (by kernel_rfl) (by kernel_rfl) (fun _ _ _ h => h) (Or.inr ⟨by rfl, rfl⟩) hHeld ?_
    ((try simp only); (try simp only [List.getElem_toArray]); (try simp only [List.getElem_cons_succ]); (try simp only [List.getElem_cons_zero]); (try simp only [Act.put]); (try simp only [List.setIfInBounds_toArray]); (try simp only [List.set_cons_succ]); (try simp only [List.set_cons_zero]))
    refine wpAnyH_take (i := 5) (v := undef) rfl (by kernel_rfl) (by kernel_rfl) (by kernel_rfl) (fun _ _ _ h => h) (Or.inr ⟨by rfl, rfl⟩) hHeld ?_
    ((try simp only); (try simp only [List.getElem_toArray]); (try simp only [List.getElem_cons_succ]); (try simp only [List.getElem_cons_zero]); (try simp only [Act.put]); (try simp only [List.setIfInBounds_toArray]); (try simp only [List.set_cons_succ]); (try simp only [List.set_cons_zero]))
    refine wpAnyH_take (i := 6) (v := ?_) rfl (by kernel_rfl) (by kernel_rfl) (by kernel_rfl) (fun _ _ _ h => h) (Or.inl ⟨by rfl, ?_⟩) hHeld ?_
    case refine_2 => (intro w hSw; (try dsimp only at hSw); go_simp; try (with_reducible rfl))
    ((try simp only); (try simp only [List.getElem_toArray]); (try simp only [List.getElem_cons_succ]); (try simp only [List.getElem_cons_zero]); (try simp only [Act.put]); (try simp only [List.setIfInBounds_toArray]); (try simp only [List.set_cons_succ]); (try simp only [List.set_cons_zero]))
    refine wpAnyH_take (i := 7) (v := ?_) rfl (by kernel_rfl) (by kernel_rfl) (by kernel_rfl) (fun _ _ _ h => h) (Or.inl ⟨by rfl, ?_⟩) hHeld ?_
    case refine_2 => (intro w hSw; (try dsimp only at hSw); go_simp; try (with_reducible rfl))
    ((try simp only); (try simp only [List.getElem_toArray]); (try simp only [List.getElem_cons_succ]); (try simp only [List.getElem_cons_zero]); (try simp only [Act.put]); (try simp only [List.setIfInBounds_toArray]); (try simp only [List.set_cons_succ]); (try simp only [List.set_cons_zero]))
    refine wpAnyH_take (i := 8) (v := undef) rfl (by kernel_rfl) (by kernel_rfl) (by kernel_rfl) (fun _ _ _ h => h) (Or.inr ⟨by rfl, rfl⟩) hHeld ?_
    ((try simp only); (try simp only [List.getElem_toArray]); (try simp only [List.getElem_cons_succ]); (try simp only [List.getElem_cons_zero]); (try simp only [Act.put]); (try simp only [List.setIfInBounds_toArray]); (try simp only [List.set_cons_succ]); (try simp only [List.set_cons_zero]))
    refine wpAnyH_take (i := 9) (v := undef) rfl (by kernel_rfl) (by kernel_rfl) (by kernel_rfl) (fun _ _ _ h => h) (Or.inr ⟨by rfl, rfl⟩) hHeld ?_
    ((try simp only); (try simp only [List.getElem_toArray]); (try simp only [List.getElem_cons_succ]); (try simp only [List.getElem_cons_zero]); (try simp only [Act.put]); (try simp only [List.setIfInBounds_toArray]); (try simp only [List.set_cons_succ]); (try simp only [List.set_cons_zero]))
    refine wpAnyH_take (i := 10) (v := undef) rfl (by kernel_rfl) (by kernel_rfl) (by kernel_rfl) (fun _ _ _ h => h) (Or.inr ⟨by rfl, rfl⟩) hHeld ?_
    ((try simp only); (try simp only [List.getElem_toArray]); (try simp only [List.getElem_cons_succ]); (try simp only [List.getElem_cons_zero]); (try simp only [Act.put]); (try simp only [List.setIfInBounds_toArray]); (try simp only [List.set_cons_succ]); (try simp only [List.set_cons_zero]))
    refine wpAnyH_take (i := 11) (v := undef) rfl (by kernel_rfl) (by kernel_rfl) (by kernel_rfl) (fun _ _ _ h => h) (Or.inr ⟨by rfl, rfl⟩) hHeld ?_
    ((try simp only); (try simp only [List.getElem_toArray]); (try simp only [List.getElem_cons_succ]); (try simp only [List.getElem_cons_zero]); (try simp only [Act.put]); (try simp only [List.setIfInBounds_toArray]); (try simp only [List.set_cons_succ]); (try simp only [List.set_cons_zero]))
    refine wpAnyH_take (i := 12) (v := ?_) rfl (by kernel_rfl) (by kernel_rfl) (by kernel_rfl) (fun _ _ _ h => h) (Or.inl ⟨by rfl, ?_⟩) hHeld ?_
    case refine_2 => (intro w hSw; (try dsimp only at hSw); go_simp; try (with_reducible rfl))
    ((try simp only); (try simp only [List.getElem_toArray]); (try simp only [List.getElem_cons_succ]); (try simp only [List.getElem_cons_zero]); (try simp only [Act.put]); (try simp only [List.setIfInBounds_toArray]); (try simp only [List.set_cons_succ]); (try simp only [List.set_cons_zero]))
    refine wpAnyH_done (by kernel_rfl) ?_ _
    refine NoPanic.normal ?_
    have G := hHeld
    clear hHeld
    go_wp2_with (refine store_sup rfl _ _ rfl w.heap.size rfl nilU (.slice none 0 0) rfl rfl nilU (.slice none 0 0) G.z ?_; intro y hy ty sy)
    refine ret_sup_ok rfl _ _ _ _ rfl rfl hy rfl ?_
    rw [HO.out]
    exact ⟨.slice none 0 0, none, rfl, ⟨none, 0, rfl, by simp [nilU], by simp [nilU], .inl rfl⟩, (fun k hk => by cases hk), below_rowed G.bel ty (Nat.le_refl _) (Nat.le_refl _)⟩
  | true =>
  cases hS : right S with
  | false =>
    have HO2 : R = none := by have := HO.out; rw [hS] at this; exact this
    clear HO
    have HO : Hid (R = none) := HO2
    clear HO2
    refine wp_region_noPanic ?_
    refine wp_region_held_drew (S := (fun x => OSt w x b4 b6 F S sv r)) (by kernel_rfl) (H2.same rfl rfl rfl rfl fun _ _ => rfl) (fun hHeld => ?_)
    refine wpAnyH_take (i := 0) (v := ?_) rfl (by kernel_rfl) (by kernel_rfl) (by kernel_rfl) (fun _ _ _ h => h) (Or.inl ⟨by rfl, ?_⟩) hHeld ?_
    case refine_2 => (intro w hSw; (try dsimp only at hSw); go_simp; try (with_reducible rfl))
    ((try simp only); (try simp only [List.getElem_toArray]); (try simp only [List.getElem_cons_succ]); (try simp only [List.getElem_cons_zero]); (try simp only [Act.put]); (try simp only [List.setIfInBounds_toArray]); (try simp only [List.set_cons_succ]); (try simp only [List.set_cons_zero]))
    refine wpAnyH_take (i := 1) (v := ?_) rfl (by kernel_rfl) (by kernel_rfl) (by kernel_rfl) (fun _ _ _ h => h) (Or.inl ⟨by rfl, ?_⟩) hHeld ?_
    case refine_2 => (intro w hSw; (try dsimp only at hSw); go_simp; try (with_reducible rfl))
    ((try simp only); (try simp only [List.getElem_toArray]); (try simp only [List.getElem_cons_succ]); (try simp only [List.getElem_cons_zero]); (try simp only [Act.put]); (try simp only [List.setIfInBounds_toArray]); (try simp only [List.set_cons_succ]); (try simp only [List.set_cons_zero]))
    refine wpAnyH_take (i := 2) (v := ?_) rfl (by kernel_rfl) (by kernel_rfl) (by kernel_rfl) (fun _ _ _ h => h) (Or.inl ⟨by rfl, ?_⟩) hHeld ?_
    case refine_2 => (intro w hSw; (try dsimp only at hSw); go_simp; try (with_reducible rfl))
    ((try simp only); (try simp only [List.getElem_toArray]); (try simp only [List.getElem_cons_succ]); (try simp only [List.getElem_cons_zero]); (try simp only [Act.put]); (try simp only [List.setIfInBounds_toArray]); (try simp only [List.set_cons_succ]); (try simp only [List.set_cons_zero]))
    refine wpAnyH_take (i := 3) rfl (by kernel_rfl) (by kernel_rfl) (by kernel_rfl) (fun _ _ _ h => h) (yieldsIf_load_mid (by rfl) _ _ rfl _ _ rfl _ _ (fun _ h => h.u.range) Try.underlying24 rfl hi5) hHeld ?_
    ((try simp only); (try simp only [List.getElem_toArray]); (try simp only [List.getElem_cons_succ]); (try simp only [List.getElem_cons_zero]); (try simp only [Act.put]); (try simp only [List.setIfInBounds_toArray]); (try simp only [List.set_cons_succ]); (try simp only [List.set_cons_zero]))
    refine wpAnyH_ready (rs := [4]) (by kernel_rfl) (by simp) (AllReadyH.cons rfl (fun K hK => ?_) AllReadyH.nil)
    rw [if_pos (by rfl)]
    ((try simp only); (try simp only [List.getElem_toArray]); (try simp only [List.getElem_cons_succ]); (try simp only [List.getElem_cons_zero]); (try simp only [Act.put]); (try simp only [List.setIfInBounds_toArray]); (try simp only [List.set_cons_succ]); (try simp only [List.set_cons_zero]))
    go_simp
    refine (right_calls _ sv S r hHeld.sn hHeld.rlt).mono ?_
    rintro e x1 ⟨rfl, b1⟩
    rw [hS]
    refine hK.out _ _ (hHeld.called b1) (fun g1 => ?_)
    clear hK K
    ((try simp only); (try simp only [List.getElem_toArray]); (try simp only [List.getElem_cons_succ]); (try simp only [List.getElem_cons_zero]); (try simp only [Act.put]); (try simp only [List.setIfInBounds_toArray]); (try simp only [List.set_cons_succ]); (try simp only [List.set_cons_zero]))
    refine wpAnyH_take (i := 5) (v := ?_) rfl (by kernel_rfl) (by kernel_rfl) (by kernel_rfl) (fun _ _ _ h => h) (Or.inl ⟨by rfl, ?_⟩) g1 ?_
    case refine_2 => (intro w hSw; (try dsimp only at hSw); go_simp; try (with_reducible rfl))
    ((try simp only); (try simp only [List.getElem_toArray]); (try simp only [List.getElem_cons_succ]); (try simp only [List.getElem_cons_zero]); (try simp only [Act.put]); (try simp only [List.setIfInBounds_toArray]); (try simp only [List.set_cons_succ]); (try simp only [List.set_cons_zero]))
    refine wpAnyH_take (i := 6) (v := ?_) rfl (by kernel_rfl) (by kernel_rfl) (by kernel_rfl) (fun _ _ _ h => h) (Or.inl ⟨by rfl, ?_⟩) g1 ?_
    case refine_2 => (intro w hSw; (try dsimp only at hSw); go_simp; try (with_reducible rfl))
    ((try simp only); (try simp only [List.getElem_toArray]); (try simp only [List.getElem_cons_succ]); (try simp only [List.getElem_cons_zero]); (try simp only [Act.put]); (try simp only [List.setIfInBounds_toArray]); (try simp only [List.set_cons_succ]); (try simp only [List.set_cons_zero]))
    refine wpAnyH_take (i := 7) (v := ?_) rfl (by kernel_rfl) (by kernel_rfl) (by kernel_rfl) (fun _ _ _ h => h) (Or.inl ⟨by rfl, ?_⟩) g1 ?_
    case refine_2 => (intro w hSw; (try dsimp only at hSw); go_simp; try (with_reducible rfl))
    ((try simp only); (try simp only [List.getElem_toArray]); (try simp only [List.getElem_cons_succ]); (try simp only [List.getElem_cons_zero]); (try simp only [Act.put]); (try simp only [List.setIfInBounds_toArray]); (try simp only [List.set_cons_succ]); (try simp only [List.set_cons_zero]))
    refine wpAnyH_take (i := 8) (v := undef) rfl (by kernel_rfl) (by kernel_rfl) (by kernel_rfl) (fun _ _ _ h => h) (Or.inr ⟨by rfl, rfl⟩) g1 ?_
    ((try simp only); (try simp only [List.getElem_toArray]); (try simp only [List.getElem_cons_succ]); (try simp only [List.getElem_cons_zero]); (try simp only [Act.put]); (try simp only [List.setIfInBounds_toArray]); (try simp only [List.set_cons_succ]); (try simp only [List.set_cons_zero]))
    refine wpAnyH_take (i := 9) (v := undef) rfl (by kernel_rfl) (by kernel_rfl) (by kernel_rfl) (fun _ _ _ h => h) (Or.inr ⟨by rfl, rfl⟩) g1 ?_
    ((try simp only); (try simp only [List.getElem_toArray]); (try simp only [List.getElem_cons_succ]); (try simp only [List.getElem_cons_zero]); (try simp only [Act.put]); (try simp only [List.setIfInBounds_toArray]); (try simp only [List.set_cons_succ]); (try simp only [List.set_cons_zero]))
    refine wpAnyH_take (i := 10) (v := undef) rfl (by kernel_rfl) (by kernel_rfl) (by kernel_rfl) (fun _ _ _ h => h) (Or.inr ⟨by rfl, rfl⟩) g1 ?_
    ((try simp only); (try simp only [List.getElem_toArray]); (try simp only [List.getElem_cons_succ]); (try simp only [List.getElem_cons_zero]); (try simp only [Act.put]); (try simp only [List.setIfInBounds_toArray]); (try simp only [List.set_cons_succ]); (try simp only [List.set_cons_zero]))
    refine wpAnyH_take (i := 11) (v := undef) rfl (by kernel_rfl) (by kernel_rfl) (by kernel_rfl) (fun _ _ _ h => h) (Or.inr ⟨by rfl, rfl⟩) g1 ?_
    ((try simp only); (try simp only [List.getElem_toArray]); (try simp only [List.getElem_cons_succ]); (try simp only [List.getElem_cons_zero]); (try simp only [Act.put]); (try simp only [List.setIfInBounds_toArray]); (try simp only [List.set_cons_succ]); (try simp only [List.set_cons_zero]))
    refine wpAnyH_take (i := 12) (v := ?_) rfl (by kernel_rfl) (by kernel_rfl) (by kernel_rfl) (fun _ _ _ h => h) (Or.inl ⟨by rfl, ?_⟩) g1 ?_
    case refine_2 => (intro w hSw; (try dsimp only at hSw); go_simp; try (with_reducible rfl))
    ((try simp only); (try simp only [List.getElem_toArray]); (try simp only [List.getElem_cons_succ]); (try simp only [List.getElem_cons_zero]); (try simp only [Act.put]); (try simp only [List.setIfInBounds_toArray]); (try simp only [List.set_cons_succ]); (try simp only [List.set_cons_zero]))
    refine wpAnyH_done (by kernel_rfl) ?_ _
    refine NoPanic.normal ?_
    have G := g1
    clear g1
    go_wp2_with (refine store_sup rfl _ _ rfl w.heap.size rfl nilU (.slice none 0 0) rfl rfl nilU (.slice none 0 0) G.z ?_; intro y hy ty sy)
    refine ret_sup_ok rfl _ _ _ _ rfl rfl hy rfl ?_
    rw [HO.out]
    exact ⟨.slice none 0 0, none, rfl, ⟨none, 0, rfl, by simp [nilU], by simp [nilU], .inl rfl⟩, (fun k hk => by cases hk), below_rowed G.bel ty (Nat.le_refl _) (Nat.le_refl _)⟩
  | true =>
  have h8f := fieldsOf_length S h8
  cases hE : (fieldsOf S == F) with
  | false =>
    have HO2 : R = none := by have := HO.out; rw [hS, hE] at this; exact this
    clear HO
    have HO : Hid (R = none) := HO2
    clear HO2
    refine wp_region_noPanic ?_
    refine wp_region_held_drew (S := (fun x => OSt w x b4 b6 F S sv r)) (by kernel_rfl) (H2.same rfl rfl rfl rfl fun _ _ => rfl) (fun hHeld => ?_)
    refine wpAnyH_take (i := 0) (v := ?_) rfl (by kernel_rfl) (by kernel_rfl) (by kernel_rfl) (fun _ _ _ h => h) (Or.inl ⟨by rfl, ?_⟩) hHeld ?_
    case refine_2 => (intro w hSw; (try dsimp only at hSw); go_simp; try (with_reducible rfl))
    ((try simp only); (try simp only [List.getElem_toArray]); (try simp only [List.getElem_cons_succ]); (try simp only [List.getElem_cons_zero]); (try simp only [Act.put]); (try simp only [List.setIfInBounds_toArray]); (try simp only [List.set_cons_succ]); (try simp only [List.set_cons_zero]))
    refine wpAnyH_take (i := 1) (v := ?_) rfl (by kernel_rfl) (by kernel_rfl) (by kernel_rfl) (fun _ _ _ h => h) (Or.inl ⟨by rfl, ?_⟩) hHeld ?_
    case refine_2 => (intro w hSw; (try dsimp only at hSw); go_simp; try (with_reducible rfl))
    ((try simp only); (try simp only [List.getElem_toArray]); (try simp only [List.getElem_cons_succ]); (try simp only [List.getElem_cons_zero]); (try simp only [Act.put]); (try simp only [List.setIfInBounds_toArray]); (try simp only [List.set_cons_succ]); (try simp only [List.set_cons_zero]))
    refine wpAnyH_take (i := 2) (v := ?_) rfl (by kernel_rfl) (by kernel_rfl) (by kernel_rfl) (fun _ _ _ h => h) (Or.inl ⟨by rfl, ?_⟩) hHeld ?_
    case refine_2 => (intro w hSw; (try dsimp only at hSw); go_simp; try (with_reducible rfl))
    ((try simp only); (try simp only [List.getElem_toArray]); (try simp only [List.getElem_cons_succ]); (try simp only [List.getElem_cons_zero]); (try simp only [Act.put]); (try simp only [List.setIfInBounds_toArray]); (try simp only [List.set_cons_succ]); (try simp only [List.set_cons_zero]))
    refine wpAnyH_take (i := 3) rfl (by kernel_rfl) (by kernel_rfl) (by kernel_rfl) (fun _ _ _ h => h) (yieldsIf_load_mid (by rfl) _ _ rfl _ _ rfl _ _ (fun _ h => h.u.range) Try.underlying24 rfl hi5) hHeld ?_
    ((try simp only); (try simp only [List.getElem_toArray]); (try simp only [List.getElem_cons_succ]); (try simp only [List.getElem_cons_zero]); (try simp only [Act.put]); (try simp only [List.setIfInBounds_toArray]); (try simp only [List.set_cons_succ]); (try simp only [List.set_cons_zero]))
    refine wpAnyH_ready (rs := [4]) (by kernel_rfl) (by simp) (AllReadyH.cons rfl (fun K hK => ?_) AllReadyH.nil)
    rw [if_pos (by rfl)]
    ((try simp only); (try simp only [List.getElem_toArray]); (try simp only [List.getElem_cons_succ]); (try simp only [List.getElem_cons_zero]); (try simp only [Act.put]); (try simp only [List.setIfInBounds_toArray]); (try simp only [List.set_cons_succ]); (try simp only [List.set_cons_zero]))
    go_simp
    refine (right_calls _ sv S r hHeld.sn hHeld.rlt).mono ?_
    rintro e x1 ⟨rfl, b1⟩
    rw [hS]
    refine hK.out _ _ (hHeld.called b1) (fun g1 => ?_)
    clear hK K
    ((try simp only); (try simp only [List.getElem_toArray]); (try simp only [List.getElem_cons_succ]); (try simp only [List.getElem_cons_zero]); (try simp only [Act.put]); (try simp only [List.setIfInBounds_toArray]); (try simp only [List.set_cons_succ]); (try simp only [List.set_cons_zero]))
    refine wpAnyH_take (i := 5) (v := ?_) rfl (by kernel_rfl) (by kernel_rfl) (by kernel_rfl) (fun _ _ _ h => h) (Or.inl ⟨by rfl, ?_⟩) g1 ?_
    case refine_2 => (intro w hSw; (try dsimp only at hSw); go_simp; try (with_reducible rfl))
    ((try simp only); (try simp only [List.getElem_toArray]); (try simp only [List.getElem_cons_succ]); (try simp only [List.getElem_cons_zero]); (try simp only [Act.put]); (try simp only [List.setIfInBounds_toArray]); (try simp only [List.set_cons_succ]); (try simp only [List.set_cons_zero]))
    refine wpAnyH_take (i := 6) (v := ?_) rfl (by kernel_rfl) (by kernel_rfl) (by kernel_rfl) (fun _ _ _ h => h) (Or.inl ⟨by rfl, ?_⟩) g1 ?_
    case refine_2 => (intro w hSw; (try dsimp only at hSw); go_simp; try (with_reducible rfl))
    ((try simp only); (try simp only [List.getElem_toArray]); (try simp only [List.getElem_cons_succ]); (try simp only [List.getElem_cons_zero]); (try simp only [Act.put]); (try simp only [List.setIfInBounds_toArray]); (try simp only [List.set_cons_succ]); (try simp only [List.set_cons_zero]))
    refine wpAnyH_take (i := 7) (v := ?_) rfl (by kernel_rfl) (by kernel_rfl) (by kernel_rfl) (fun _ _ _ h => h) (Or.inl ⟨by rfl, ?_⟩) g1 ?_
    case refine_2 => (intro w hSw; (try dsimp only at hSw); go_simp; try (with_reducible rfl))
    ((try simp only); (try simp only [List.getElem_toArray]); (try simp only [List.getElem_cons_succ]); (try simp only [List.getElem_cons_zero]); (try simp only [Act.put]); (try simp only [List.setIfInBounds_toArray]); (try simp only [List.set_cons_succ]); (try simp only [List.set_cons_zero]))
    refine wpAnyH_take (i := 8) rfl (by kernel_rfl) (by kernel_rfl) (by kernel_rfl) (fun _ _ _ h => h) (yieldsIf_load_mid (by rfl) _ _ rfl _ _ rfl _ _ (fun _ h => h.u.range) Try.underlying24 rfl hi5) g1 ?_
    ((try simp only); (try simp only [List.getElem_toArray]); (try simp only [List.getElem_cons_succ]); (try simp only [List.getElem_cons_zero]); (try simp only [Act.put]); (try simp only [List.setIfInBounds_toArray]); (try simp only [List.set_cons_succ]); (try simp only [List.set_cons_zero]))
    refine wpAnyH_take (i := 10) rfl (by kernel_rfl) (by kernel_rfl) (by kernel_rfl) (fun _ _ _ h => h) (yieldsIf_load_mid (by rfl) _ _ rfl _ _ rfl _ _ (fun _ h => h.f.range) Try.underlying48 rfl hi31) g1 ?_
    ((try simp only); (try simp only [List.getElem_toArray]); (try simp only [List.getElem_cons_succ]); (try simp only [List.getElem_cons_zero]); (try simp only [Act.put]); (try simp only [List.setIfInBounds_toArray]); (try simp only [List.set_cons_succ]); (try simp only [List.set_cons_zero]))
    refine wpAnyH_ready (rs := [9]) (by kernel_rfl) (by simp) (AllReadyH.cons rfl (fun K hK => ?_) AllReadyH.nil)
    rw [if_pos (by rfl)]
    ((try simp only); (try simp only [List.getElem_toArray]); (try simp only [List.getElem_cons_succ]); (try simp only [List.getElem_cons_zero]); (try simp only [Act.put]); (try simp only [List.setIfInBounds_toArray]); (try simp only [List.set_cons_succ]); (try simp only [List.set_cons_zero]))
    go_simp
    refine (fieldsOf_calls _ sv S r g1.sn g1.rlt h8).mono ?_
    rintro e x2 ⟨rfl, b2⟩
    refine hK.out _ _ (g1.called b2) (fun g2 => ?_)
    clear hK K
    ((try simp only); (try simp only [List.getElem_toArray]); (try simp only [List.getElem_cons_succ]); (try simp only [List.getElem_cons_zero]); (try simp only [Act.put]); (try simp only [List.setIfInBounds_toArray]); (try simp only [List.set_cons_succ]); (try simp only [List.set_cons_zero]))
    refine wpAnyH_take (i := 11) (v := .bool (!(fieldsOf S == F))) rfl (by kernel_rfl) (by kernel_rfl) (by kernel_rfl) (fun _ _ _ h => h) (Or.inl ⟨by rfl, fun w _ => exec_ne_fld _ _ _ rfl (fieldsOf S) F rfl rfl h8f hF8 w⟩) g2 ?_
    ((try simp only); (try simp only [List.getElem_toArray]); (try simp only [List.getElem_cons_succ]); (try simp only [List.getElem_cons_zero]); (try simp only [Act.put]); (try simp only [List.setIfInBounds_toArray]); (try simp only [List.set_cons_succ]); (try simp only [List.set_cons_zero]))
    rw [hE]
    refine wpAnyH_take (i := 12) (v := ?_) rfl (by kernel_rfl) (by kernel_rfl) (by kernel_rfl) (fun _ _ _ h => h) (Or.inl ⟨by rfl, ?_⟩) g2 ?_
    case refine_2 => (intro w hSw; (try dsimp only at hSw); go_simp; try (with_reducible rfl))
    ((try simp only); (try simp only [List.getElem_toArray]); (try simp only [List.getElem_cons_succ]); (try simp only [List.getElem_cons_zero]); (try simp only [Act.put]); (try simp only [List.setIfInBounds_toArray]); (try simp only [List.set_cons_succ]); (try simp only [List.set_cons_zero]))
    refine wpAnyH_done (by kernel_rfl) ?_ _
    refine NoPanic.normal ?_
    have G := g2
    clear g2
    go_wp2_with (refine store_sup rfl _ _ rfl w.heap.size rfl nilU (.slice none 0 0) rfl rfl nilU (.slice none 0 0) G.z ?_; intro y hy ty sy)
    refine ret_sup_ok rfl _ _ _ _ rfl rfl hy rfl ?_
    rw [HO.out]
    exact ⟨.slice none 0 0, none, rfl, ⟨none, 0, rfl, by simp [nilU], by simp [nilU], .inl rfl⟩, (fun k hk => by cases hk), below_rowed G.bel ty (Nat.le_refl _) (Nat.le_refl _)⟩
  | true =>
    have HO2 : R = some S := by have := HO.out; rw [hS, hE] at this; exact this
    clear HO
    have HO : Hid (R = some S) := HO2
    clear HO2
    refine wp_region_noPanic ?_
    refine wp_region_held_drew (S := (fun x => OSt w x b4 b6 F S sv r)) (by kernel_rfl) (H2.same rfl rfl rfl rfl fun _ _ => rfl) (fun hHeld => ?_)
    refine wpAnyH_take (i := 0) (v := ?_) rfl (by kernel_rfl) (by kernel_rfl) (by kernel_rfl) (fun _ _ _ h => h) (Or.inl ⟨by rfl, ?_⟩) hHeld ?_
    case refine_2 => (intro w hSw; (try dsimp only at hSw); go_simp; try (with_reducible rfl))
    ((try simp only); (try simp only [List.getElem_toArray]); (try simp only [List.getElem_cons_succ]); (try simp only [List.getElem_cons_zero]); (try simp only [Act.put]); (try simp only [List.setIfInBounds_toArray]); (try simp only [List.set_cons_succ]); (try simp only [List.set_cons_zero]))
    refine wpAnyH_take (i := 1) (v := ?_) rfl (by kernel_rfl) (by kernel_rfl) (by kernel_rfl) (fun _ _ _ h => h) (Or.inl ⟨by rfl, ?_⟩) hHeld ?_
    case refine_2 => (intro w hSw; (try dsimp only at hSw); go_simp; try (with_reducible rfl))
    ((try simp only); (try simp only [List.getElem_toArray]); (try simp only [List.getElem_cons_succ]); (try simp only [List.getElem_cons_zero]); (try simp only [Act.put]); (try simp only [List.setIfInBounds_toArray]); (try simp only [List.set_cons_succ]); (try simp only [List.set_cons_zero]))
    refine wpAnyH_take (i := 2) (v := ?_) rfl (by kernel_rfl) (by kernel_rfl) (by kernel_rfl) (fun _ _ _ h => h) (Or.inl ⟨by rfl, ?_⟩) hHeld ?_
    case refine_2 => (intro w hSw; (try dsimp only at hSw); go_simp; try (with_reducible rfl))
    ((try simp only); (try simp only [List.getElem_toArray]); (try simp only [List.getElem_cons_succ]); (try simp only [List.getElem_cons_zero]); (try simp only [Act.put]); (try simp only [List.setIfInBounds_toArray]); (try simp only [List.set_cons_succ]); (try simp only [List.set_cons_zero]))
    refine wpAnyH_take (i := 3) rfl (by kernel_rfl) (by kernel_rfl) (by kernel_rfl) (fun _ _ _ h => h) (yieldsIf_load_mid (by rfl) _ _ rfl _ _ rfl _ _ (fun _ h => h.u.range) Try.underlying24 rfl hi5) hHeld ?_
    ((try simp only); (try simp only [List.getElem_toArray]); (try simp only [List.getElem_cons_succ]); (try simp only [List.getElem_cons_zero]); (try simp only [Act.put]); (try simp only [List.setIfInBounds_toArray]); (try simp only [List.set_cons_succ]); (try simp only [List.set_cons_zero]))
    refine wpAnyH_ready (rs := [4]) (by kernel_rfl) (by simp) (AllReadyH.cons rfl (fun K hK => ?_) AllReadyH.nil)
    rw [if_pos (by rfl)]
    ((try simp only); (try simp only [List.getElem_toArray]); (try simp only [List.getElem_cons_succ]); (try simp only [List.getElem_cons_zero]); (try simp only [Act.put]); (try simp only [List.setIfInBounds_toArray]); (try simp only [List.set_cons_succ]); (try simp only [List.set_cons_zero]))
    go_simp
    refine (right_calls _ sv S r hHeld.sn hHeld.rlt).mono ?_
    rintro e x1 ⟨rfl, b1⟩
    rw [hS]
    refine hK.out _ _ (hHeld.called b1) (fun g1 => ?_)
    clear hK K
    ((try simp only); (try simp only [List.getElem_toArray]); (try simp only [List.getElem_cons_succ]); (try simp only [List.getElem_cons_zero]); (try simp only [Act.put]); (try simp only [List.setIfInBounds_toArray]); (try simp only [List.set_cons_succ]); (try simp only [List.set_cons_zero]))
    refine wpAnyH_take (i := 5) (v := ?_) rfl (by kernel_rfl) (by kernel_rfl) (by kernel_rfl) (fun _ _ _ h => h) (Or.inl ⟨by rfl, ?_⟩) g1 ?_
    case refine_2 => (intro w hSw; (try dsimp only at hSw); go_simp; try (with_reducible rfl))
    ((try simp only); (try simp only [List.getElem_toArray]); (try simp only [List.getElem_cons_succ]); (try simp only [List.getElem_cons_zero]); (try simp only [Act.put]); (try simp only [List.setIfInBounds_toArray]); (try simp only [List.set_cons_succ]); (try simp only [List.set_cons_zero]))
    refine wpAnyH_take (i := 6) (v := ?_) rfl (by kernel_rfl) (by kernel_rfl) (by kernel_rfl) (fun _ _ _ h => h) (Or.inl ⟨by rfl, ?_⟩) g1 ?_
    case refine_2 => (intro w hSw; (try dsimp only at hSw); go_simp; try (with_reducible rfl))
    ((try simp only); (try simp only [List.getElem_toArray]); (try simp only [List.getElem_cons_succ]); (try simp only [List.getElem_cons_zero]); (try simp only [Act.put]); (try simp only [List.setIfInBounds_toArray]); (try simp only [List.set_cons_succ]); (try simp only [List.set_cons_zero]))
    refine wpAnyH_take (i := 7) (v := ?_) rfl (by kernel_rfl) (by kernel_rfl) (by kernel_rfl) (fun _ _ _ h => h) (Or.inl ⟨by rfl, ?_⟩) g1 ?_
    case refine_2 => (intro w hSw; (try dsimp only at hSw); go_simp; try (with_reducible rfl))
    ((try simp only); (try simp only [List.getElem_toArray]); (try simp only [List.getElem_cons_succ]); (try simp only [List.getElem_cons_zero]); (try simp only [Act.put]); (try simp only [List.setIfInBounds_toArray]); (try simp only [List.set_cons_succ]); (try simp only [List.set_cons_zero]))
    refine wpAnyH_take (i := 8) rfl (by kernel_rfl) (by kernel_rfl) (by kernel_rfl) (fun _ _ _ h => h) (yieldsIf_load_mid (by rfl) _ _ rfl _ _ rfl _ _ (fun _ h => h.u.range) Try.underlying24 rfl hi5) g1 ?_
    ((try simp only); (try simp only [List.getElem_toArray]); (try simp only [List.getElem_cons_succ]); (try simp only [List.getElem_cons_zero]); (try simp only [Act.put]); (try simp only [List.setIfInBounds_toArray]); (try simp only [List.set_cons_succ]); (try simp only [List.set_cons_zero]))
    refine wpAnyH_take (i := 10) rfl (by kernel_rfl) (by kernel_rfl) (by kernel_rfl) (fun _ _ _ h => h) (yieldsIf_load_mid (by rfl) _ _ rfl _ _ rfl _ _ (fun _ h => h.f.range) Try.underlying48 rfl hi31) g1 ?_
    ((try simp only); (try simp only [List.getElem_toArray]); (try simp only [List.getElem_cons_succ]); (try simp only [List.getElem_cons_zero]); (try simp only [Act.put]); (try simp only [List.setIfInBounds_toArray]); (try simp only [List.set_cons_succ]); (try simp only [List.set_cons_zero]))
    refine wpAnyH_ready (rs := [9]) (by kernel_rfl) (by simp) (AllReadyH.cons rfl (fun K hK => ?_) AllReadyH.nil)
    rw [if_pos (by rfl)]
    ((try simp only); (try simp only [List.getElem_toArray]); (try simp only [List.getElem_cons_succ]); (try simp only [List.getElem_cons_zero]); (try simp only [Act.put]); (try simp only [List.setIfInBounds_toArray]); (try simp only [List.set_cons_succ]); (try simp only [List.set_cons_zero]))
    go_simp
    refine (fieldsOf_calls _ sv S r g1.sn g1.rlt h8).mono ?_
    rintro e x2 ⟨rfl, b2⟩
    refine hK.out _ _ (g1.called b2) (fun g2 => ?_)
    clear hK K
    ((try simp only); (try simp only [List.getElem_toArray]); (try simp only [List.getElem_cons_succ]); (try simp only [List.getElem_cons_zero]); (try simp only [Act.put]); (try simp only [List.setIfInBounds_toArray]); (try simp only [List.set_cons_succ]); (try simp only [List.set_cons_zero]))
    refine wpAnyH_take (i := 11) (v := .bool (!(fieldsOf S == F))) rfl (by kernel_rfl) (by kernel_rfl) (by kernel_rfl) (fun _ _ _ h => h) (Or.inl ⟨by rfl, fun w _ => exec_ne_fld _ _ _ rfl (fieldsOf S) F rfl rfl h8f hF8 w⟩) g2 ?_
    ((try simp only); (try simp only [List.getElem_toArray]); (try simp only [List.getElem_cons_succ]); (try simp only [List.getElem_cons_zero]); (try simp only [Act.put]); (try simp only [List.setIfInBounds_toArray]); (try simp only [List.set_cons_succ]); (try simp only [List.set_cons_zero]))
    rw [hE]
    refine wpAnyH_take (i := 12) (v := ?_) rfl (by kernel_rfl) (by kernel_rfl) (by kernel_rfl) (fun _ _ _ h => h) (Or.inl ⟨by rfl, ?_⟩) g2 ?_
    case refine_2 => (intro w hSw; (try dsimp only at hSw); go_simp; try (with_reducible rfl))
    ((try simp only); (try simp only [List.getElem_toArray]); (try simp only [List.getElem_cons_succ]); (try simp only [List.getElem_cons_zero]); (try simp only [Act.put]); (try simp only [List.setIfInBounds_toArray]); (try simp only [List.set_cons_succ]); (try simp only [List.set_cons_zero]))
    refine wpAnyH_done (by kernel_rfl) ?_ _
    refine NoPanic.normal ?_
    have G := g2
    clear g2
    go_wp2_with (first | (refine load_sup _ rfl b6 rfl rfl _ _ G.u ?_) | (refine store_sup rfl _ _ rfl w.heap.size rfl S sv rfl G.u.2 nilU (.slice none 0 0) G.z ?_; intro y hy ty sy))
    refine ret_sup_ok rfl _ _ _ _ rfl rfl hy rfl ?_
    rw [HO.out]
    exact ⟨sv, r, rfl, G.sn.kept fun k hk => ty.block k (G.rlt k hk) (by have := G.rr k hk; omega) (by simp), fun k hk => ⟨by have := G.rr k hk; omega, by have := G.rlt k hk; omega⟩, below_rowed G.bel ty (Nat.le_refl _) (Nat.le_refl _)⟩
end Go.Proofs.Ytnpohjbhfoebcaa
