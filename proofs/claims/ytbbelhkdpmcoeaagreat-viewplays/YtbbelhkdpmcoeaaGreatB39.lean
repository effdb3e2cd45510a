import Derived.Test.YtbbelhkdpmcoeaaGreatSi
import Derived.Test.YtbbelhkdpmcoeaaGreatB35
import Derived.Test.YtbbelhkdpmcoeaaGreatB38
import Derived.Test.YtbbelhkdpmcoeaaGreatB29
/- The document's View (layer 12) in memory; its New and Map. -/
namespace Go.Proofs.YtbbelhkdpmcoeaaGreat
set_option linter.unusedVariables false
set_option maxRecDepth 100000
open Go.RowKit

/-- The document's view: its map, its changes, what was read, the marks. -/
structure RvIn (w : World) (p : Nat) (bv cv rv mv : Value) (B : List Pa) (C : List Ch) (R : List Sp) (M : List (Value × List Ch)) : Prop where
  blk : w.heap[p]? = some (.cells #[bv, cv, rv, mv] 41 (0, 0))
  b : Sl encP w bv B
  c : Sl encC w cv C
  r : Sl encS w rv R
  m : SlS w w.heap.size mv M
theorem SlS.nil (w : World) (B : Nat) : SlS w B (.slice none 0 0) [] := ⟨⟨none, 0, rfl, Nat.le_refl _, Nat.zero_le _, .inl rfl⟩, fun e he => by cases he⟩
theorem SlS.called {w w' : World} {u : Value} {cs : List (Value × List Ch)} (h : SlS w w.heap.size u cs) (b : Below w.heap.size w w') : SlS w' w'.heap.size u cs := by
  obtain ⟨ad, cap, e1, e2, e3, e4⟩ := h.out
  refine ⟨⟨ad, cap, e1, e2, e3, e4.imp id fun q => ?_⟩, fun e he => Sl.called (h.each e he) b⟩
  obtain ⟨g, off, a1, a2, a3⟩ := q
  exact ⟨g, off, a1, Nat.lt_of_lt_of_le a2 b.size, fun i hi => (World.cell?_of_block (b.block g a2)).trans (a3 i hi)⟩
section
variable {w w' : World} {p : Nat} {bv cv rv mv : Value} {B : List Pa} {C : List Ch} {R : List Sp} {M : List (Value × List Ch)}
theorem RvIn.lt (h : RvIn w p bv cv rv mv B C R M) : p < w.heap.size := lt_of_block h.blk
theorem RvIn.called (h : RvIn w p bv cv rv mv B C R M) (b : Below w.heap.size w w') : RvIn w' p bv cv rv mv B C R M :=
  ⟨(b.block p h.lt).trans h.blk, h.b.called b, h.c.called b, h.r.called b, h.m.called b⟩
end
/-- What a region on the document's view holds. -/
structure RvC (y : World) (p : Nat) (bv cv rv mv : Value) : Prop where
  blk : y.heap[p]? = some (.cells #[bv, cv, rv, mv] 41 (0, 0))
section
variable {y : World} {p : Nat} {bv cv rv mv : Value}
theorem RvC.c0 (h : RvC y p bv cv rv mv) : y.cell? ⟨p, 0, none⟩ = some bv := by rw [cell_of_row _ _ _ _ _ _ h.blk]; rfl
theorem RvC.c1 (h : RvC y p bv cv rv mv) : y.cell? ⟨p, 1, none⟩ = some cv := by rw [cell_of_row _ _ _ _ _ _ h.blk]; rfl
theorem RvC.c2 (h : RvC y p bv cv rv mv) : y.cell? ⟨p, 2, none⟩ = some rv := by rw [cell_of_row _ _ _ _ _ _ h.blk]; rfl
theorem RvC.c3 (h : RvC y p bv cv rv mv) : y.cell? ⟨p, 3, none⟩ = some mv := by rw [cell_of_row _ _ _ _ _ _ h.blk]; rfl
end
set_option maxHeartbeats 1000000 in
theorem rvnew_calls (w : World) (u : Value) (l : List Pa) (h : Sl encP w u l) (hl : l.length ≤ 5000) :
    Calls Tryz.prog 8 #[u] w fun e w' => ∃ p bv m, e = .returned (.pointer (some ⟨p, 0, none⟩)) ∧ RvIn w' p bv (.slice none 0 0) (.slice none 0 0) (.slice none 0 0) m [] [] [] ∧ NewV w.heap.size bv ∧ MapIs l m ∧ m.length ≤ l.length ∧ w.heap.size ≤ p ∧ Below w.heap.size w w' := by
  have hM := rmapN_calls w u l h hl
  clear h
  go_enter Tryz.func8, Tryz.ntmps8
  go_wp2_with (first
    | (go_at_call 23; refine hM.mono ?_; clear hM; rintro e w1 ⟨v, m, rfl, ⟨s1, n1⟩, i1, l1, b1⟩
       obtain ⟨ad, cap, rfl, hcap, hmax, -, -⟩ := id s1))
  go_ret
  have BX : Below w1.heap.size w1 (w1.alloc (.cells #[.slice ad m.length cap, .slice none 0 0, .slice none 0 0, .slice none 0 0] 41)) := (Below.refl _ w1).alloc (Nat.le_refl _) _
  exact ⟨_, _, m, rfl, ⟨heap_alloc_new _ _, Sl.called s1 BX, SlB.nil _ _ _, SlB.nil _ _ _, SlS.nil _ _⟩, n1, i1, l1, b1.size, b1.trans (BX.mono b1.size)⟩
set_option maxHeartbeats 4000000 in
theorem rvmap_calls (w : World) (p : Nat) (bv cv rv mv : Value) (B : List Pa) (C : List Ch) (R : List Sp) (M : List (Value × List Ch)) (h : RvIn w p bv cv rv mv B C R M) (hB : B.length ≤ 2000) (hC : C.length ≤ 2000) :
    Calls Tryz.prog 52 #[.pointer (some ⟨p, 0, none⟩)] w fun e w' => ∃ v m, e = .returned v ∧ Sl encP w' v m ∧ ApplyIs B C m ∧ m.length ≤ B.length + C.length ∧ Below w.heap.size w w' := by
  have HD : Hid (RvIn w.drew p bv cv rv mv B C R M ∧ Below w.heap.size w w.drew) := ⟨h.called ⟨rfl, rfl, rfl, Nat.le_refl _, fun _ _ => rfl⟩, ⟨rfl, rfl, rfl, Nat.le_refl _, fun _ _ => rfl⟩⟩
  have hA := rapply_calls w.drew bv cv B C HD.out.1.b HD.out.1.c hB hC
  have HC : Hid (RvC w.drew p bv cv rv mv) := ⟨HD.out.1.blk⟩
  have HC0 : Hid (∀ y, RvC y p bv cv rv mv → y.cell? ⟨p, 0, none⟩ = some bv) := fun y hy => hy.c0
  have HC1 : Hid (∀ y, RvC y p bv cv rv mv → y.cell? ⟨p, 1, none⟩ = some cv) := fun y hy => hy.c1
  have HPL : Hid (∀ y, Below w.drew.heap.size w.drew y → RvC y p bv cv rv mv) := fun y b => ⟨(b.block p HD.out.1.lt).trans HD.out.1.blk⟩
  obtain ⟨ad0, cap0, rfl, -, -, -, -⟩ := id h.b
  obtain ⟨ad1, cap1, rfl, -, -, -, -⟩ := id h.c
  clear h
  go_enter Tryz.func52, Tryz.ntmps52
  go_upto_region 1 with fail
  refine wp_region_noPanic ?_
  refine wp_region_held_drew (S := (fun y => RvC y p (.slice ad0 B.length cap0) (.slice ad1 C.length cap1) rv mv)) (by kernel_rfl) (HC.out) (fun hHeld => ?_)
  refine wpAnyH_take (i := 0) (v := ?_) rfl (by kernel_rfl) (by kernel_rfl) (by kernel_rfl) (fun _ _ _ h => h) (Or.inl ⟨by rfl, ?_⟩) hHeld ?_
  case refine_2 => (intro w hSw; (try dsimp only at hSw); go_simp; try (with_reducible rfl))
  (try simp only [gs])
  refine wpAnyH_take (i := 1) (v := ?_) rfl (by kernel_rfl) (by kernel_rfl) (by kernel_rfl) (fun _ _ _ h => h) (Or.inl ⟨by rfl, ?_⟩) hHeld ?_
  case refine_2 => (intro w hSw; (try dsimp only at hSw); go_simp; try (with_reducible rfl))
  (try simp only [gs])
  refine wpAnyH_take (i := 2) (v := ?_) rfl (by kernel_rfl) (by kernel_rfl) (by kernel_rfl) (fun _ _ _ h => h) (Or.inl ⟨by rfl, ?_⟩) hHeld ?_
  case refine_2 => (intro w hSw; (try dsimp only at hSw); go_simp; try (with_reducible rfl))
  (try simp only [gs])
  refine wpAnyH_take (i := 3) (v := ?_) rfl (by kernel_rfl) (by kernel_rfl) (by kernel_rfl) (fun _ _ _ h => h) (Or.inl ⟨by rfl, ?_⟩) hHeld ?_
  case refine_2 => (intro w hSw; (try dsimp only at hSw); have hc := HC0.out _ hSw; go_simp; try (with_reducible rfl))
  (try simp only [gs])
  refine wpAnyH_take (i := 4) (v := ?_) rfl (by kernel_rfl) (by kernel_rfl) (by kernel_rfl) (fun _ _ _ h => h) (Or.inl ⟨by rfl, ?_⟩) hHeld ?_
  case refine_2 => (intro w hSw; (try dsimp only at hSw); go_simp; try (with_reducible rfl))
  (try simp only [gs])
  refine wpAnyH_take (i := 5) (v := ?_) rfl (by kernel_rfl) (by kernel_rfl) (by kernel_rfl) (fun _ _ _ h => h) (Or.inl ⟨by rfl, ?_⟩) hHeld ?_
  case refine_2 => (intro w hSw; (try dsimp only at hSw); go_simp; try (with_reducible rfl))
  (try simp only [gs])
  refine wpAnyH_take (i := 6) (v := ?_) rfl (by kernel_rfl) (by kernel_rfl) (by kernel_rfl) (fun _ _ _ h => h) (Or.inl ⟨by rfl, ?_⟩) hHeld ?_
  case refine_2 => (intro w hSw; (try dsimp only at hSw); go_simp; try (with_reducible rfl))
  (try simp only [gs])
  refine wpAnyH_take (i := 7) (v := ?_) rfl (by kernel_rfl) (by kernel_rfl) (by kernel_rfl) (fun _ _ _ h => h) (Or.inl ⟨by rfl, ?_⟩) hHeld ?_
  case refine_2 => (intro w hSw; (try dsimp only at hSw); have hc := HC1.out _ hSw; go_simp; try (with_reducible rfl))
  (try simp only [gs])
  generalize w.drew = w1 at *
  refine wpAnyH_ready (rs := [8]) (by kernel_rfl) (by simp) (AllReadyH.cons rfl (fun K0 hK => ?_) AllReadyH.nil)
  rw [if_pos (by rfl)]
  (try simp only [gs])
  go_simp
  refine hA.mono ?_
  clear hA
  rintro e w2 ⟨v, m, rfl, s2, i2, l2, b2⟩
  refine hK.out _ _ (HPL.out w2 b2) (fun g1 => ?_)
  clear hK K0 hHeld
  have hHeld := HPL.out w2 b2
  (try simp only [gs])
  obtain ⟨ad2, cap2, rfl, -, -, -, -⟩ := id s2
  refine wpAnyH_take (i := 9) (v := ?_) rfl (by kernel_rfl) (by kernel_rfl) (by kernel_rfl) (fun _ _ _ h => h) (Or.inl ⟨by rfl, ?_⟩) hHeld ?_
  case refine_2 => (intro w hSw; (try dsimp only at hSw); go_simp; try (with_reducible rfl))
  (try simp only [gs])
  refine wpAnyH_done (by kernel_rfl) ?_ _
  refine NoPanic.normal ?_
  clear g1 hHeld
  go_wp2_with fail
  go_ret
  exact ⟨_, m, rfl, s2, i2, l2, HD.out.2.trans (b2.mono HD.out.2.size)⟩
end Go.Proofs.YtbbelhkdpmcoeaaGreat
/- The document's View: own. -/
namespace Go.Proofs.YtbbelhkdpmcoeaaGreat
set_option linter.unusedVariables false
set_option maxRecDepth 100000
open Go.RowKit

set_option maxHeartbeats 4000000 in
theorem rvown_calls (w : World) (p : Nat) (bv cv rv mv : Value) (B : List Pa) (C : List Ch) (R : List Sp) (M : List (Value × List Ch)) (h : RvIn w p bv cv rv mv B C R M) (hC : C.length ≤ 1000) (K : Kz) :
    Calls Tryz.prog 53 #[.pointer (some ⟨p, 0, none⟩), kv K.k] w fun e w' => e = .returned (.bool (look Ch.n C K.n).isSome) ∧ Below w.heap.size w w' := by
  have b1 : Below w.heap.size w (w.alloc (.cells (bc K.k).toArray 29)) := (Below.refl _ w).alloc (Nat.le_refl _) _
  have HK : Hid (Has (w.alloc (.cells (bc K.k).toArray 29)) w.heap.size K.k) := Has.new w K.k K.h
  have HB : Hid (Below w.heap.size w (w.alloc (.cells (bc K.k).toArray 29))) := b1
  have hInfo : ∀ J : Kz, (Tryz.prog.info? 29).map (·.size) = some (bc J.k).length := fun J => by rw [bc_length, J.h]; exact Tryz.key_info
  obtain ⟨ad, cap, rfl, hcap, hmax, -, -⟩ := id h.c
  have HI : Hid (∀ i (hi : i < C.length), ∃ g off, ad = some ⟨g, off, none⟩ ∧ g < w.heap.size ∧ w.rangeAt g (off + i * 26) (encC.c C[i])) := fun i hi => SlB.at h.c i hi
  obtain ⟨N, hN⟩ : ∃ N : Nat, N = C.length := ⟨_, rfl⟩
  have HN : Hid (N = C.length ∧ N ≤ 1000) := ⟨hN, by omega⟩
  rw [← hN] at hcap hmax h
  have HP : Hid (p < w.heap.size ∧ RvC w p bv (.slice ad N cap) rv mv) := ⟨h.lt, ⟨h.blk⟩⟩
  clear b1 hN h
  go_enter Tryz.func53, Tryz.ntmps53
  go_upto_region 1 with fail
  generalize hW : w.alloc (.cells (bc K.k).toArray 29) = W at *
  have hbW := HK.out.lt
  go_wp2_with fail
  go_loopg [5] N (fun gg i wr => ∃ k : Nat, k + gg = N ∧ i = .int .i64 (k : Int) ∧ Hid (Below W.heap.size W wr ∧ ∀ j (hj : j < C.length), j < k → (C[j]).n ≠ K.n))
  case atStart => exact ⟨0, by omega, rfl, ⟨Below.refl _ _, fun j hj h => absurd h (Nat.not_lt_zero _)⟩⟩
  case round =>
    obtain ⟨k, hkg, rfl, HL⟩ := hrel
    have HRC : Hid (RvC wr p bv (.slice ad N cap) rv mv) := ⟨(HL.out.1.block p (Nat.lt_of_lt_of_le HP.out.1 HB.out.size)).trans ((HB.out.block p HP.out.1).trans HP.out.2.blk)⟩
    have hc1 := HRC.out.c1
    cases gk with
    | zero =>
      have hkN : k = N := by omega
      subst hkN
      go_wp2_with fail
      go_ret
      have h1 : look Ch.n C K.n = none := (look_none Ch.n).2 fun c hc => by
        obtain ⟨j, hj, rfl⟩ := List.mem_iff_getElem.1 hc
        exact HL.out.2 j hj (by have := HN.out.1; omega)
      exact ⟨by rw [h1]; rfl, HB.out.trans (HL.out.1.mono HB.out.size)⟩
    | succ gg =>
      have hlt : k < N := by omega
      have hltI : (k : Int) < (N : Int) := by omega
      have hk0 : (0 : Int) ≤ (k : Int) := by omega
      have hkb : (k : Int) ≤ 1000 := by have := HN.out.2; omega
      have hkl : k < C.length := by have := HN.out.1; omega
      obtain ⟨g, off, rfl, hg, hr⟩ := HI.out k hkl
      have rC : wr.rangeAt g (off + k * 26) (bc (C[k]).kz.k) := range_kC (range_same' (range_same' hr (HB.out.block g hg)) (HL.out.1.block g (Nat.lt_of_lt_of_le hg HB.out.size)))
      have rK : wr.rangeAt w.heap.size 0 (bc K.k) := range_has (HK.out.below HL.out.1 hbW)
      have HSTEP : Hid ((C[k]).kz ≠ K → ∀ j (hj : j < C.length), j < k + 1 → (C[j]).n ≠ K.n) := fun q j hj hjk e => by
        rcases Nat.lt_or_ge j k with z | z
        · exact HL.out.2 j hj z e
        · have : j = k := by omega
          subst this
          exact q (Kz.same e)
      have HHIT : Hid ((C[k]).kz = K → (look Ch.n C K.n).isSome = true) := fun q => by
        cases e : look Ch.n C K.n with
        | some x => rfl
        | none => exact absurd (congrArg Kz.n q) ((look_none Ch.n).1 e C[k] (List.getElem_mem hkl))
      have HRG : Hid (RvC wr p bv (.slice (some ⟨g, off, none⟩) N cap) rv mv ∧ wr.rangeAt g (off + k * 26) (bc (C[k]).kz.k) ∧ wr.rangeAt w.heap.size 0 (bc K.k)) := ⟨HRC.out, rC, rK⟩
      have HBL : Hid (Below W.heap.size W wr) := HL.out.1
      have HQ : ∀ c : Ch, c = C[k] → True := fun _ _ => trivial
      obtain ⟨c, hcc⟩ : ∃ c, c = C[k] := ⟨_, rfl⟩
      rw [← hcc] at HSTEP HHIT HRG rC
      clear hcc HQ hr hkl HI HL rC rK HRC
      go_upto_region 4 with fail
      refine wp_region_noPanic ?_
      refine wp_region_held_drew (S := (fun yy => RvC yy p bv (.slice (some ⟨g, off, none⟩) N cap) rv mv ∧ yy.rangeAt g (off + k * 26) (bc c.kz.k) ∧ yy.rangeAt w.heap.size 0 (bc K.k))) (by kernel_rfl) (⟨⟨HRG.out.1.blk⟩, HRG.out.2.1, HRG.out.2.2⟩) (fun hHeld => ?_)
      refine wpAnyH_take (i := 0) (v := ?_) rfl (by kernel_rfl) (by kernel_rfl) (by kernel_rfl) (fun _ _ _ h => h) (Or.inl ⟨by rfl, ?_⟩) hHeld ?_
      case refine_2 => (intro w hSw; (try dsimp only at hSw); go_simp; try (with_reducible rfl))
      (try simp only [gs])
      refine wpAnyH_take (i := 1) (v := ?_) rfl (by kernel_rfl) (by kernel_rfl) (by kernel_rfl) (fun _ _ _ h => h) (Or.inl ⟨by rfl, ?_⟩) hHeld ?_
      case refine_2 => (intro w hSw; (try dsimp only at hSw); go_simp; try (with_reducible rfl))
      (try simp only [gs])
      refine wpAnyH_take (i := 2) (v := ?_) rfl (by kernel_rfl) (by kernel_rfl) (by kernel_rfl) (fun _ _ _ h => h) (Or.inl ⟨by rfl, ?_⟩) hHeld ?_
      case refine_2 => (intro w hSw; (try dsimp only at hSw); go_simp; try (with_reducible rfl))
      (try simp only [gs])
      refine wpAnyH_take (i := 3) (v := ?_) rfl (by kernel_rfl) (by kernel_rfl) (by kernel_rfl) (fun _ _ _ h => h) (Or.inl ⟨by rfl, ?_⟩) hHeld ?_
      case refine_2 => (intro w hSw; (try dsimp only at hSw); have hc := hSw.1.c1; go_simp; try (with_reducible rfl))
      (try simp only [gs])
      refine wpAnyH_take (i := 4) (v := ?_) rfl (by kernel_rfl) (by kernel_rfl) (by kernel_rfl) (fun _ _ _ h => h) (Or.inl ⟨by rfl, ?_⟩) hHeld ?_
      case refine_2 => (intro w hSw; (try dsimp only at hSw); go_simp; try (with_reducible rfl))
      (try simp only [gs])
      refine wpAnyH_take (i := 5) (v := ?_) rfl (by kernel_rfl) (by kernel_rfl) (by kernel_rfl) (fun _ _ _ h => h) (Or.inl ⟨by rfl, ?_⟩) hHeld ?_
      case refine_2 => (intro w hSw; (try dsimp only at hSw); go_simp; try (with_reducible rfl))
      (try simp only [gs])
      refine wpAnyH_take (i := 6) (v := ?_) rfl (by kernel_rfl) (by kernel_rfl) (by kernel_rfl) (fun _ _ _ h => h) (Or.inl ⟨by rfl, ?_⟩) hHeld ?_
      case refine_2 => (intro w hSw; (try dsimp only at hSw); go_simp; try (with_reducible rfl))
      (try simp only [gs])
      refine wpAnyH_take (i := 7) rfl (by kernel_rfl) (by kernel_rfl) (by kernel_rfl) (fun _ _ _ h => h) (yieldsIf_load_mid (by rfl) _ _ rfl _ _ rfl _ _ (fun _ h => h.2.1) Tryz.underlying29 rfl (hInfo c.kz)) hHeld ?_
      (try simp only [gs])
      refine wpAnyH_take (i := 8) rfl (by kernel_rfl) (by kernel_rfl) (by kernel_rfl) (fun _ _ _ h => h) (yieldsIf_load_mid (by rfl) _ _ rfl _ _ rfl _ _ (fun _ h => h.2.2) Tryz.underlying29 rfl (hInfo K)) hHeld ?_
      (try simp only [gs])
      refine wpAnyH_take (i := 9) (v := .bool (decide (c.kz = K))) rfl (by kernel_rfl) (by kernel_rfl) (by kernel_rfl) (fun _ _ _ h => h) (Or.inl ⟨by rfl, fun w _ => exec_eq_K _ _ _ rfl c.kz K rfl rfl w⟩) hHeld ?_
      (try simp only [gs])
      refine wpAnyH_done (by kernel_rfl) ?_ _
      refine NoPanic.normal ?_
      have HBD : Hid (Below W.heap.size W wr.drew) := HBL.out.trans ⟨rfl, rfl, rfl, Nat.le_refl _, fun _ _ => rfl⟩
      clear hHeld HBL HRG
      generalize wr.drew = y1 at *
      by_cases hq : c.kz = K
      · have hd : decide (c.kz = K) = true := decide_eq_true hq
        have HS : Hid ((look Ch.n C K.n).isSome = true) := HHIT.out hq
        go_wp2_with fail
        go_ret
        exact ⟨by rw [HS.out]; rfl, HB.out.trans (HBD.out.mono HB.out.size)⟩
      · have hd : decide (c.kz = K) = false := decide_eq_false hq
        have HS := HSTEP.out hq
        go_wp2_with fail
        go_roundg gg
        case measure => omega
        case rel => exact ⟨k + 1, by omega, congrArg (Value.int .i64) (by omega), HBD.out, HS⟩
end Go.Proofs.YtbbelhkdpmcoeaaGreat
/- The document's In of pairs (layer 12). -/
namespace Go.Proofs.YtbbelhkdpmcoeaaGreat
set_option linter.unusedVariables false
set_option maxRecDepth 100000
open Go.RowKit

set_option maxHeartbeats 4000000 in
theorem rvin_calls (w : World) (u : Value) (l : List Pa) (s : Sp) (h : Sl encP w u l) (hl : l.length ≤ 1000) :
    Calls Tryz.prog 51 #[u, spv s] w fun e w' => ∃ v, e = .returned v ∧ Own encP 31 w' w.heap.size v (scanL s l) ∧ Below w.heap.size w w' := by
  have b1 : Below w.heap.size w (w.alloc (.cells (sc s.F s.T s.e).toArray 44)) := (Below.refl _ w).alloc (Nat.le_refl _) _
  have HK : Hid (HasS (w.alloc (.cells (sc s.F s.T s.e).toArray 44)) w.heap.size s.F s.T s.e) := HasS.new w _ _ _ s.hF s.hT
  have HB : Hid (Below w.heap.size w (w.alloc (.cells (sc s.F s.T s.e).toArray 44))) := b1
  have hInfo : ∀ J : Kz, (Tryz.prog.info? 29).map (·.size) = some (bc J.k).length := fun J => by rw [bc_length, J.h]; exact Tryz.key_info
  have hInfoS : (Tryz.prog.info? 44).map (·.size) = some (encS.c s).length := by rw [encS.len]; exact Tryz.span_info
  obtain ⟨ad, cap, rfl, hcap, hmax, -, -⟩ := id h
  have HI : Hid (∀ i (hi : i < l.length), ∃ g off, ad = some ⟨g, off, none⟩ ∧ g < w.heap.size ∧ w.rangeAt g (off + i * 25) (encP.c l[i])) := fun i hi => SlB.at h i hi
  obtain ⟨N, hN⟩ : ∃ N : Nat, N = l.length := ⟨_, rfl⟩
  have HN : Hid (N = l.length ∧ N ≤ 1000) := ⟨hN, by omega⟩
  rw [← hN] at hcap hmax ⊢
  clear b1 hN h
  go_enter Tryz.func51, Tryz.ntmps51
  go_upto_region 1 with fail
  generalize hW : w.alloc (.cells (sc s.F s.T s.e).toArray 44) = W at *
  have hbW := HK.out.lt
  go_wp2_with fail
  have HST : Hid (Below W.heap.size W W ∧ Own encP 31 W W.heap.size (.slice none 0 0) (scanL s (l.take 0))) := ⟨Below.refl _ _, Own.nil _ _ _ _⟩
  go_loopg [5, 6] N (fun gg s5 i wr => ∃ k : Nat, k + gg = N ∧ i = .int .i64 (k : Int) ∧ Hid (Below W.heap.size W wr ∧ Own encP 31 wr W.heap.size s5 (scanL s (l.take k))))
  case atStart => exact ⟨0, by omega, rfl, HST.out⟩
  case round =>
    clear HST
    obtain ⟨k, hkg, rfl, HL⟩ := hrel
    cases gk with
    | zero =>
      have hkN : k = N := by omega
      subst hkN
      go_wp2_with fail
      go_ret
      have h1 := HL.out.2
      rw [List.take_of_length_le (by have := HN.out.1; omega)] at h1
      exact ⟨_, rfl, h1.lower HB.out.size, HB.out.trans (HL.out.1.mono HB.out.size)⟩
    | succ gg =>
      have hlt : k < N := by omega
      have hltI : (k : Int) < (N : Int) := by omega
      have hk0 : (0 : Int) ≤ (k : Int) := by omega
      have hkb : (k : Int) ≤ 1000 := by have := HN.out.2; omega
      have hkl : k < l.length := by have := HN.out.1; omega
      obtain ⟨g, off, rfl, hg, hr⟩ := HI.out k hkl
      have HAT : Hid (∀ yy, Below W.heap.size W yy → yy.rangeAt g (off + k * 25) (encP.c l[k])) := fun yy hb => range_same' (range_same' hr (HB.out.block g hg)) (hb.block g (Nat.lt_of_lt_of_le hg HB.out.size))
      have HSP : Hid (∀ yy, Below W.heap.size W yy → yy.rangeAt w.heap.size 0 (encS.c s)) := fun yy hb => (HK.out.below hb hbW).inB.range
      have HTK : Hid (scanL s (l.take (k + 1)) = scanL s (l.take k) ++ if s.inb (l[k]).n = true then [l[k]] else []) := (show _ = _ by
        unfold scanL
        rw [List.take_succ_eq_append_getElem hkl, List.filter_append, List.filter_cons, List.filter_nil])
      have HLN : Hid ((scanL s (l.take k)).length ≤ 1000) := (show _ ≤ _ by
        have := scanL_len s (l.take k)
        rw [List.length_take] at this
        omega)
      have hin := fun y => rin_calls y s.F s.T s.e (l[k]).k s.hF s.hT (l[k]).h
      rw [in_num s (l[k]).k (l[k]).h] at hin
      have HIN : Hid (∀ y, Calls Tryz.prog 76 #[spv s, kv (l[k]).kz.k] y fun x w' => x = .returned (.bool (s.inb (l[k]).n)) ∧ Below y.heap.size y w') := hin
      obtain ⟨c, hcc⟩ : ∃ c, c = l[k] := ⟨_, rfl⟩
      rw [← hcc] at HAT HTK HIN
      clear hcc hr hkl HI hin
      have HRG : Hid (wr.rangeAt g (off + k * 25) (bc c.kz.k) ∧ wr.rangeAt w.heap.size 0 (encS.c s)) := ⟨range_kP (HAT.out _ HL.out.1), HSP.out _ HL.out.1⟩
      go_upto_region 5 with fail
      refine wp_region_noPanic ?_
      refine wp_region_held_drew (S := (fun yy => yy.rangeAt g (off + k * 25) (bc c.kz.k) ∧ yy.rangeAt w.heap.size 0 (encS.c s))) (by kernel_rfl) (HRG.out) (fun hHeld => ?_)
      refine wpAnyH_take (i := 0) rfl (by kernel_rfl) (by kernel_rfl) (by kernel_rfl) (fun _ _ _ h => h) (yieldsIf_load_mid (by rfl) _ _ rfl _ _ rfl _ _ (fun _ h => h.2) Tryz.underlying44 rfl hInfoS) hHeld ?_
      (try simp only [gs])
      refine wpAnyH_take (i := 1) (v := ?_) rfl (by kernel_rfl) (by kernel_rfl) (by kernel_rfl) (fun _ _ _ h => h) (Or.inl ⟨by rfl, ?_⟩) hHeld ?_
      case refine_2 => (intro w hSw; (try dsimp only at hSw); go_simp; try (with_reducible rfl))
      (try simp only [gs])
      refine wpAnyH_take (i := 2) (v := ?_) rfl (by kernel_rfl) (by kernel_rfl) (by kernel_rfl) (fun _ _ _ h => h) (Or.inl ⟨by rfl, ?_⟩) hHeld ?_
      case refine_2 => (intro w hSw; (try dsimp only at hSw); go_simp; try (with_reducible rfl))
      (try simp only [gs])
      refine wpAnyH_take (i := 3) (v := ?_) rfl (by kernel_rfl) (by kernel_rfl) (by kernel_rfl) (fun _ _ _ h => h) (Or.inl ⟨by rfl, ?_⟩) hHeld ?_
      case refine_2 => (intro w hSw; (try dsimp only at hSw); go_simp; try (with_reducible rfl))
      (try simp only [gs])
      refine wpAnyH_take (i := 4) (v := ?_) rfl (by kernel_rfl) (by kernel_rfl) (by kernel_rfl) (fun _ _ _ h => h) (Or.inl ⟨by rfl, ?_⟩) hHeld ?_
      case refine_2 => (intro w hSw; (try dsimp only at hSw); go_simp; try (with_reducible rfl))
      (try simp only [gs])
      refine wpAnyH_take (i := 5) rfl (by kernel_rfl) (by kernel_rfl) (by kernel_rfl) (fun _ _ _ h => h) (yieldsIf_load_mid (by rfl) _ _ rfl _ _ rfl _ _ (fun _ h => h.1) Tryz.underlying29 rfl (hInfo c.kz)) hHeld ?_
      (try simp only [gs])
      have HBD : Hid (Below W.heap.size W wr.drew ∧ Own encP 31 wr.drew W.heap.size u5 (scanL s (l.take k))) := ⟨HL.out.1.trans ⟨rfl, rfl, rfl, Nat.le_refl _, fun _ _ => rfl⟩, HL.out.2.below ⟨rfl, rfl, rfl, Nat.le_refl _, fun _ _ => rfl⟩⟩
      clear HRG HL
      generalize wr.drew = y1 at *
      have hIn := HIN.out y1
      refine wpAnyH_ready (rs := [6]) (by kernel_rfl) (by simp) (AllReadyH.cons rfl (fun K0 hK => ?_) AllReadyH.nil)
      rw [if_pos (by rfl)]
      (try simp only [gs])
      go_simp
      refine hIn.mono ?_
      clear hIn
      rintro e y2 ⟨rfl, b2⟩
      have HBE : Hid (Below W.heap.size W y2 ∧ Own encP 31 y2 W.heap.size u5 (scanL s (l.take k))) := ⟨HBD.out.1.trans (b2.mono HBD.out.1.size), HBD.out.2.below b2⟩
      refine hK.out _ _ ⟨range_kP (HAT.out _ HBE.out.1), HSP.out _ HBE.out.1⟩ (fun g1 => ?_)
      clear hK K0 hHeld HBD b2
      have hHeld : y2.rangeAt g (off + k * 25) (bc c.kz.k) ∧ y2.rangeAt w.heap.size 0 (encS.c s) := ⟨range_kP (HAT.out _ HBE.out.1), HSP.out _ HBE.out.1⟩
      (try simp only [gs])
      refine wpAnyH_take (i := 7) (v := ?_) rfl (by kernel_rfl) (by kernel_rfl) (by kernel_rfl) (fun _ _ _ h => h) (Or.inl ⟨by rfl, ?_⟩) hHeld ?_
      case refine_2 => (intro w hSw; (try dsimp only at hSw); go_simp; try (with_reducible rfl))
      (try simp only [gs])
      refine wpAnyH_done (by kernel_rfl) ?_ _
      refine NoPanic.normal ?_
      clear hHeld g1
      have HRP : Hid (y2.rangeAt g (off + k * 25) (encP.c c)) := HAT.out _ HBE.out.1
      cases hq : s.inb c.n with
      | true =>
        have HTK1 : Hid (scanL s (l.take (k + 1)) = scanL s (l.take k) ++ [c]) := (show _ = _ by rw [HTK.out, if_pos hq])
        generalize scanL s (l.take k) = L1 at *
        have hs3 := HBE.out.2
        go_wp2_with (first
          | (refine load_el elP _ rfl g (off + k * 25) rfl rfl c HRP.out ?_)
          | (refine build_el1 rowP rfl _ rfl c rfl (by decide) ?_; intro y3 o3 b3 z3 hb3
             have hs4 := hs3.below b3
             clear hs3 o3 z3)
          | (at_builtin; refine append_one rowP rfl _ _ rfl W.heap.size _ L1 rfl hs4 y2.heap.size c rfl (0, 0) _ hb3 (by have := HLN.out; omega) (by decide) (by have := b3.size; have := HBE.out.1.size; omega) ?_
             intro g4 cap4 y4 o4 gr4 gg4 lt4
             have HO4 : Hid (Own encP 31 y4 W.heap.size (.slice (some ⟨g4, 0, none⟩) (L1.length + 1) cap4) (L1 ++ [c]) ∧ Below W.heap.size W y4) := ⟨o4, (HBE.out.1.trans (b3.mono HBE.out.1.size)).grown gr4 (Nat.le_trans HBE.out.1.size b3.size) (fun j hj => (hs4.lt j hj).1)⟩
             clear o4 gr4 gg4 lt4 hs4 hb3 b3))
        go_roundg gg
        case measure => omega
        case rel =>
          refine ⟨k + 1, by omega, congrArg (Value.int .i64) (by omega), (show Below W.heap.size W y4 ∧ _ from ⟨HO4.out.2, ?_⟩)⟩
          rw [HTK1.out]
          exact HO4.out.1
      | false =>
        have HTK1 : Hid (scanL s (l.take (k + 1)) = scanL s (l.take k)) := (show _ = _ by rw [HTK.out, if_neg (by rw [hq]; decide), List.append_nil])
        go_wp2_with fail
        go_roundg gg
        case measure => omega
        case rel =>
          refine ⟨k + 1, by omega, congrArg (Value.int .i64) (by omega), (show Below W.heap.size W y2 ∧ _ from ⟨HBE.out.1, ?_⟩)⟩
          rw [HTK1.out]
          exact HBE.out.2
end Go.Proofs.YtbbelhkdpmcoeaaGreat
/- What the document's View tells, and ours (mathematics). -/
namespace Go.Proofs.YtbbelhkdpmcoeaaGreat
set_option linter.unusedVariables false
set_option maxRecDepth 100000
open Go.RowKit

/-- The document's changes behind a change. -/
theorem join_change {C d : List Ch} (hC : Asc Ch.n C) (c : Ch) (hd : JoinIs (C.map Ch.plain ++ [c]) d) : d = (putA Ch.n C c).map Ch.plain := by
  refine asc_ext Ch.n hd.1 (plains_asc (putA_asc Ch.n c hC)) fun x => ?_
  rw [hd.2, lastA_snoc, plains_look, putA_look Ch.n c x hC, lastA_asc Ch.n (plains_asc hC), plains_look]
  by_cases e : c.n = x
  · rw [if_pos e, if_pos e]
  · rw [if_neg e, if_neg e]
    cases look Ch.n C x with
    | none => rfl
    | some y => simp [Ch.plain_plain]
/-- Scan of the document's View is ours. -/
theorem scan_doc {m mm : List Pa} {C : List Ch} (hm : Asc Pa.n m) (hC : Asc Ch.n C) (h : ApplyIs m (C.map Ch.plain) mm) (s : Sp) : scanV C (fun s => (scanL s m, 0)) s = (scanL s mm, 0) := by
  have e1 : scanV C (fun s => (scanL s m, 0)) s = (applyL (scanL s m) (inL C s), 0) := rfl
  have hs : ∀ {l : List Pa}, Asc Pa.n l → Asc Pa.n (scanL s l) := fun ha => List.Pairwise.sublist List.filter_sublist ha
  have hk : ∀ {l : List Pa} (x : Int), look Pa.n (scanL s l) x = if s.inb x then look Pa.n l x else none := by
    intro l x
    unfold scanL
    induction l with
    | nil => simp [look]
    | cons a r ih =>
      rw [List.filter_cons]
      by_cases ha : s.inb a.n = true
      · rw [if_pos ha]
        simp only [look]
        rw [ih]
        by_cases e : a.n = x
        · rw [if_pos e, if_pos e, ← e, if_pos ha]
        · rw [if_neg e, if_neg e]
      · rw [if_neg ha, ih]
        simp only [look]
        by_cases e : a.n = x
        · rw [if_pos e, ← e, if_neg ha, if_neg ha]
        · rw [if_neg e]
  rw [e1]
  refine congrArg (·, (0 : Int)) (asc_ext Pa.n (applyL_is _ _).1 (hs h.1) fun x => ?_)
  rw [(applyL_is _ _).2, hk, h.2, lastA_asc Ch.n (plains_asc hC), plains_look, doneA_plain, lastA_asc Ch.n (inL_asc hC s), look_filter, lastA_asc Pa.n (hs hm), hk, lastA_asc Pa.n hm]
  by_cases hb : s.inb x = true
  · rw [if_pos hb, if_pos hb, if_pos hb]
  · rw [if_neg hb, if_neg hb, if_neg hb]
    rfl
/-- A key's pair in the document's map, and ours. -/
theorem get_doc {m mm : List Pa} {C : List Ch} (hm : Asc Pa.n m) (hC : Asc Ch.n C) (hg : ∀ c ∈ C, c.g = true → c.v = []) (h : ApplyIs m (C.map Ch.plain) mm) (K : Kz) : getV C (plGe m) K = match look Pa.n mm K.n with
    | none => ([], false, 0)
    | some p => (p.v, true, 0) := by
  rw [h.2, lastA_asc Ch.n (plains_asc hC), plains_look, doneA_plain, lastA_asc Pa.n hm]
  unfold getV
  cases e : look Ch.n C K.n with
  | none =>
    unfold plGe
    cases look Pa.n m K.n <;> rfl
  | some c =>
    have hc := hg c (look_key Ch.n e).1
    simp only [doneA]
    cases q : c.g with
    | true => rw [hc q]; rfl
    | false => rfl
/-- A gone change of a view has no value. -/
def GoneOk (C : List Ch) : Prop := ∀ c ∈ C, c.g = true → c.v = []
theorem GoneOk.put {C : List Ch} (h : GoneOk C) (c : Ch) (hc : c.g = true → c.v = []) : GoneOk (putA Ch.n C c) := fun x hx => by
  rcases putA_mem Ch.n hx with hx | rfl
  · exact h x hx
  · exact hc
end Go.Proofs.YtbbelhkdpmcoeaaGreat
/- A store into the document's View: its four slices stand. -/
namespace Go.Proofs.YtbbelhkdpmcoeaaGreat
set_option linter.unusedVariables false
set_option maxRecDepth 100000
open Go.RowKit

def Value.isSlice : Value → Bool
  | .slice _ _ _ => true
  | _ => false
/-- A row whose elements open with a number does not lie among slices. -/
theorem SlB.off {α : Type} {k : Nat} {E : Enc α k} (hE : ∀ x : α, ∃ i n, (E.c x)[0]? = some (.int i n)) {w w' : World} {B p : Nat} {s : Array Value} {ty : TypeId} {q : Nat × Nat} {v : Value} {l : List α} (h : SlB E w B v l) (hb : w.heap[p]? = some (.cells s ty q)) (hs : ∀ x ∈ s.toList, Value.isSlice x = true) (hk : ∀ g, g < B → g ≠ p → w'.heap[g]? = w.heap[g]?) : SlB E w' B v l := by
  obtain ⟨ad, cap, h1, h2, h3, h4, h5⟩ := h
  refine ⟨ad, cap, h1, h2, h3, h4, ?_⟩
  rcases h5 with h5 | ⟨g, off, e, hg, hr⟩
  · exact .inl h5
  · match l, hr with
    | [], _ => exact .inl rfl
    | x :: r, hr =>
      refine .inr ⟨g, off, e, hg, fun i hi => range_same' (hr i hi) (hk g hg fun hgp => ?_)⟩
      subst hgp
      obtain ⟨j, n, hx⟩ := hE x
      have h0 := hr 0 (Nat.zero_lt_succ _) 0 (.int j n) hx
      rw [cell_of_row _ _ _ _ _ _ hb] at h0
      have hm : Value.int j n ∈ s.toList := by
        have := Array.mem_of_getElem? h0
        simpa using this
      have := hs _ hm
      cases this
theorem enc0P (x : Pa) : ∃ i n, (encP.c x)[0]? = some (.int i n) := by
  obtain ⟨k, hk, v⟩ := x
  match k, hk with
  | b :: r, _ => exact ⟨.u8, (b.toNat : Int), rfl⟩
theorem enc0C (x : Ch) : ∃ i n, (encC.c x)[0]? = some (.int i n) := by
  obtain ⟨k, hk, v, g⟩ := x
  match k, hk with
  | b :: r, _ => exact ⟨.u8, (b.toNat : Int), rfl⟩
theorem enc0S (x : Sp) : ∃ i n, (encS.c x)[0]? = some (.int i n) := by
  obtain ⟨F, T, e, hF, hT⟩ := x
  match F, hF with
  | b :: r, _ => exact ⟨.u8, (b.toNat : Int), rfl⟩
theorem SlB.isSlice {α : Type} {k : Nat} {E : Enc α k} {w : World} {B : Nat} {v : Value} {l : List α} (h : SlB E w B v l) : Value.isSlice v = true := by
  obtain ⟨ad, cap, rfl, -⟩ := h
  rfl
theorem RvIn.slices {w : World} {p : Nat} {bv cv rv mv : Value} {B : List Pa} {C : List Ch} {R : List Sp} {M : List (Value × List Ch)} (h : RvIn w p bv cv rv mv B C R M) : ∀ x ∈ (#[bv, cv, rv, mv] : Array Value).toList, Value.isSlice x = true := by
  obtain ⟨ad, cap, hm, -⟩ := h.m.out
  intro x hx
  simp only [List.mem_cons, List.not_mem_nil, or_false] at hx
  rcases hx with rfl | rfl | rfl | rfl
  · exact SlB.isSlice h.b
  · exact SlB.isSlice h.c
  · exact SlB.isSlice h.r
  · rw [hm]
    rfl
/-- Behind stores into the document's View: changes, spans and marks that lay there already. -/
theorem RvIn.stored {w w' : World} {p : Nat} {bv cv rv mv cv' rv' mv' : Value} {B : List Pa} {C C' : List Ch} {R R' : List Sp} {M M' : List (Value × List Ch)} (h : RvIn w p bv cv rv mv B C R M) (hb : w'.heap[p]? = some (.cells #[bv, cv', rv', mv'] 41 (0, 0))) (hk : ∀ g, g < w.heap.size → g ≠ p → w'.heap[g]? = w.heap[g]?) (hz : w.heap.size ≤ w'.heap.size)
    (hc : Sl encC w cv' C') (hr : Sl encS w rv' R') (hm : SlS w w.heap.size mv' M') (hp : ∀ g off n cap, mv' = .slice (some ⟨g, off, none⟩) n cap → g ≠ p) : RvIn w' p bv cv' rv' mv' B C' R' M' := by
  have hs := h.slices
  refine ⟨hb, (SlB.off enc0P h.b h.blk hs hk).wide hz, (SlB.off enc0C hc h.blk hs hk).wide hz, (SlB.off enc0S hr h.blk hs hk).wide hz, ?_⟩
  obtain ⟨ad, cap, e1, e2, e3, e4⟩ := hm.out
  refine ⟨⟨ad, cap, e1, e2, e3, e4.imp id fun q => ?_⟩, fun e he => (SlB.off enc0C (hm.each e he) h.blk hs hk).wide hz⟩
  obtain ⟨g, off, a1, a2, a3⟩ := q
  have hne : g ≠ p := hp g off M'.length cap (by rw [e1, a1])
  exact ⟨g, off, a1, Nat.lt_of_lt_of_le a2 hz, fun i hi => (World.cell?_of_block (hk g a2 hne)).trans (a3 i hi)⟩
end Go.Proofs.YtbbelhkdpmcoeaaGreat
