/- read, walked. -/
import Derived.Test.YtnpohjbhfoebcaaSupI
namespace Go.Proofs.Ytnpohjbhfoebcaa
set_option linter.unusedVariables false
open Go.RowKit

theorem sub_lit (L : List UInt8) (n : Nat) (g off : Nat) {w : World} (h : ∀ j u, (bc L)[j]? = some u → w.cell? ⟨g, off + j, none⟩ = some u) : ∀ j u, (bc (L.drop n))[j]? = some u → w.cell? ⟨g, off + n + j, none⟩ = some u := fun j u hu => by
  rw [Nat.add_assoc]
  exact h _ _ (bc_drop hu)
/-- A slice of 512 bytes. -/
structure Full (w : World) (g off cap : Nat) (L : List UInt8) : Prop where
  len : L.length = 512
  cap : 512 ≤ cap
  lt : g < w.heap.size
  cell : ∀ j u, (bc L)[j]? = some u → w.cell? ⟨g, off + j, none⟩ = some u
theorem bytes_take {w w' : World} {g off cap : Nat} {L : List UInt8} (h : Full w g off cap L) (hb : Below w.heap.size w w') : BytesIn w' (.slice (some ⟨g, off, none⟩) 504 cap) (L.take 504) (some g) := by
  have h1 := h.len
  have h2 := h.cap
  have h3 := h.lt
  have h4 := hb.size
  refine ⟨_, cap, by simp [h1], by simp; omega, .inr ⟨g, off, rfl, rfl, by omega, fun j u hu => ?_⟩⟩
  rw [World.cell?_of_block (hb.block g h3)]
  exact h.cell j u (bc_take hu)
theorem bytes_drop {w w' : World} {g off cap : Nat} {L : List UInt8} (h : Full w g off cap L) (hb : Below w.heap.size w w') : BytesIn w' (.slice (some ⟨g, off + 504, none⟩) 8 (cap - 504)) (L.drop 504) (some g) := by
  have h1 := h.len
  have h2 := h.cap
  have h3 := h.lt
  have h4 := hb.size
  refine ⟨_, cap - 504, by simp [h1], by simp; omega, .inr ⟨g, off + 504, rfl, rfl, by omega, sub_lit L 504 g off fun j u hu => ?_⟩⟩
  rw [World.cell?_of_block (hb.block g h3)]
  exact h.cell j u hu

theorem take_le (s : RS) (n : Int) : (s.take n).l.length ≤ s.l.length := by
  unfold RS.take
  split
  · simp
  · simp
theorem rdRest_le (s : RS) : (rdRest s).l.length ≤ s.l.length := Nat.le_trans (take_le _ _) (Nat.le_trans (take_le _ _) (Nat.le_trans (take_le _ _) (take_le _ _)))
theorem rdR_le (k : Nat) : ∀ s, (rdR k s).l.length ≤ s.l.length := by
  induction k with
  | zero => intro s; exact Nat.le_refl _
  | succ k ih => intro s; exact Nat.le_trans (ih _) (rdRest_le s)
theorem rd6_le (s : RS) : (rd6 s).l.length ≤ s.l.length := Nat.le_trans (take_le _ _) (Nat.le_trans (take_le _ _) (Nat.le_trans (take_le _ _) (Nat.le_trans (take_le _ _) (Nat.le_trans (take_le _ _) (take_le _ _)))))
theorem rdF_set (s : RS) (k : Nat) (e : Int) (hk : k < 8) : ({ rdF s k e with l := (rdF s k e).l.set k (rdSnap (rdR k (rd6 s))) } : Fld) = rdF s (k + 1) e := by
  have h1 := rdN_length k (rd6 s)
  have h2 : (rdF s k e).l.set k (rdSnap (rdR k (rd6 s))) = (rdF s (k + 1) e).l := by
    simp only [rdF, rdN_succ]
    rw [List.set_append_right _ _ (by omega), h1, Nat.sub_self, show 8 - k = (8 - (k + 1)) + 1 by omega, List.replicate_succ, List.set_cons_zero]
    simp
  rw [h2]
  rfl
theorem fc_setE (F : Fld) (v : Int) (hl : F.l.length = 8) : fc { F with e := v } = (fc F).set 30 (.int .i64 v) := by
  have := sncs_length F.l
  simp only [fc, List.set_cons_succ]
  rw [List.set_append_right _ _ (by omega), this, hl]
  rfl
theorem rdF_with (s : RS) (k : Nat) (a v : Int) : ({ rdF s k a with e := v } : Fld) = rdF s k v := by simp only [rdF]
theorem rdF_setE (s : RS) (k : Nat) (a v : Int) (h : (rdF s k a).l.length = 8) : fc (rdF s k v) = (fc (rdF s k a)).set 30 (.int .i64 v) := by
  rw [← rdF_with s k a v]
  exact fc_setE (rdF s k a) v h
theorem rdF_len (s : RS) (k : Nat) (a v : Int) (h : (rdF s k a).l.length = 8) : (rdF s k v).l.length = 8 := by
  rw [← rdF_with s k a v]
  exact h
theorem RSt.readQ {w wr w' : World} {p q nb b : Nat} {r rq : Option Nat} {s t t' : RS} {F : Fld} (h : RSt w wr p q nb b r rq s t F) (g : RdG q wr rq t' w') : RSt w w' p q nb b r rq s t' F := by
  obtain ⟨o1, o2, o3, o4⟩ := h.ord
  have hb := h.f.lt
  have hh : ∀ k, k < wr.heap.size → k ≠ q → w'.heap[k]? = wr.heap[k]? := fun k hk hp => g.2.block k hk hp (by simp)
  refine ⟨h.hp.kept (hh _ (by omega) (by omega)) fun k hk => hh _ (by have := h.rr k hk; omega) (by have := h.rr k hk; omega), g.1, (hh _ (by omega) (by omega)).trans h.lg, h.z.same (hh _ (by omega) (by omega)), h.f.same (hh _ hb (by omega)), h.bel.trans (g.2.below h.bel.size (by omega) (by simp)), h.ord, h.rr, h.rs⟩
set_option maxHeartbeats 4000000 in
theorem read_wrong (w : World) (a : Option Addr) (len cap : Nat) (h : len ≠ 512) :
    Calls Try.prog 18 #[.slice a len cap] w fun e w' => e = .returned (.tuple #[fv zeroF, .bool false]) ∧ Below w.heap.size w w' := by
  have h1 : (((len : Int)) == 512) = false := by simp; omega
  have HZ : Hid (HasF (w.alloc (.cells (fc zeroF).toArray 48)) w.heap.size zeroF) := zero_hasF w _ rfl
  go_enter Try.func18, Try.ntmps18
  go_wp2_with (first
    | (refine build_fld0 rfl rfl ?_)
    | (refine store_fld rfl _ _ rfl w.heap.size rfl zeroF rfl rfl zeroF HZ.out ?_; intro w1 h1 t1 s1))
  refine ret_fld_ok rfl _ _ _ rfl rfl h1 rfl ⟨rfl, ?_⟩
  exact below_rowed ((Below.refl _ w).alloc (Nat.le_refl _) _) t1 (Nat.le_refl _) (Nat.le_refl _)

set_option maxHeartbeats 4000000 in
set_option maxRecDepth 100000 in
theorem read_full (w : World) (g off cap : Nat) (L : List UInt8) (h : Full w g off cap L) :
    Calls Try.prog 18 #[.slice (some ⟨g, off, none⟩) 512 cap] w fun e w' => e = .returned (.tuple #[fv (readF L).1, .bool (readF L).2]) ∧ Below w.heap.size w w' := by
  have hcap := h.cap
  have hin : Hid (Full w g off cap L) := h
  have HL : Hid (L.length = 512) := h.len
  have HZ : Hid (HasF (w.alloc (.cells (fc zeroF).toArray 48)) w.heap.size zeroF) := zero_hasF w _ rfl
  have B0 : Below w.heap.size w (w.alloc (.cells (fc zeroF).toArray 48)) := (Below.refl _ w).alloc (Nat.le_refl _) _
  have hc1 : (504 : Int) ≤ (cap : Int) := by omega
  have hc2 : ¬ cap = 504 := by omega
  clear h
  go_enter Try.func18, Try.ntmps18
  go_upto_region 3 with fail
  refine wp_region_noPanic ?_
  refine wp_region_held_drew (S := (fun w2 => Below w.heap.size w w2 ∧ HasF w2 w.heap.size zeroF)) (by kernel_rfl) ⟨below_drewN B0 1, HZ.out.same rfl⟩ (fun hHeld => ?_)
  refine wpAnyH_take (i := 0) (v := ?_) rfl (by kernel_rfl) (by kernel_rfl) (by kernel_rfl) (fun _ _ _ h => h) (Or.inl ⟨by rfl, ?_⟩) hHeld ?_
  case refine_2 => (intro w hSw; (try dsimp only at hSw); go_simp; try (with_reducible rfl))
  ((try simp only); (try simp only [List.getElem_toArray]); (try simp only [List.getElem_cons_succ]); (try simp only [List.getElem_cons_zero]); (try simp only [Act.put]); (try simp only [List.setIfInBounds_toArray]); (try simp only [List.set_cons_succ]); (try simp only [List.set_cons_zero]))
  refine wpAnyH_take (i := 1) (v := ?_) rfl (by kernel_rfl) (by kernel_rfl) (by kernel_rfl) (fun _ _ _ h => h) (Or.inl ⟨by rfl, ?_⟩) hHeld ?_
  case refine_2 => (intro w hSw; (try dsimp only at hSw); go_simp; try (with_reducible rfl))
  ((try simp only); (try simp only [List.getElem_toArray]); (try simp only [List.getElem_cons_succ]); (try simp only [List.getElem_cons_zero]); (try simp only [Act.put]); (try simp only [List.setIfInBounds_toArray]); (try simp only [List.set_cons_succ]); (try simp only [List.set_cons_zero]))
  refine wpAnyH_take (i := 3) (v := ?_) rfl (by kernel_rfl) (by kernel_rfl) (by kernel_rfl) (fun _ _ _ h => h) (Or.inl ⟨by rfl, ?_⟩) hHeld ?_
  case refine_2 => (intro w hSw; (try dsimp only at hSw); go_simp; try (with_reducible rfl))
  ((try simp only); (try simp only [List.getElem_toArray]); (try simp only [List.getElem_cons_succ]); (try simp only [List.getElem_cons_zero]); (try simp only [Act.put]); (try simp only [List.setIfInBounds_toArray]); (try simp only [List.set_cons_succ]); (try simp only [List.set_cons_zero]))
  refine wpAnyH_take (i := 4) (v := ?_) rfl (by kernel_rfl) (by kernel_rfl) (by kernel_rfl) (fun _ _ _ h => h) (Or.inl ⟨by rfl, ?_⟩) hHeld ?_
  case refine_2 => (intro w hSw; (try dsimp only at hSw); go_simp; try (with_reducible rfl))
  ((try simp only); (try simp only [List.getElem_toArray]); (try simp only [List.getElem_cons_succ]); (try simp only [List.getElem_cons_zero]); (try simp only [Act.put]); (try simp only [List.setIfInBounds_toArray]); (try simp only [List.set_cons_succ]); (try simp only [List.set_cons_zero]))
  refine wpAnyH_ready (rs := [2]) (by kernel_rfl) (by simp) (AllReadyH.cons rfl (fun K hK => ?_) AllReadyH.nil)
  rw [if_pos (by rfl)]
  ((try simp only); (try simp only [List.getElem_toArray]); (try simp only [List.getElem_cons_succ]); (try simp only [List.getElem_cons_zero]); (try simp only [Act.put]); (try simp only [List.setIfInBounds_toArray]); (try simp only [List.set_cons_succ]); (try simp only [List.set_cons_zero]))
  go_simp
  refine (read_calls _ _ (L.take 504) (some g) (bytes_take hin.out hHeld.1) (by have := HL.out; simp; omega)).mono ?_
  rintro e w1 ⟨p, r1, rfl, h1, b1, hp, hr1⟩
  refine hK.out _ _ ⟨hHeld.1.trans (b1.mono hHeld.1.size), hHeld.2.below b1 hHeld.2.lt⟩ (fun g1 => ?_)
  clear hK K
  ((try simp only); (try simp only [List.getElem_toArray]); (try simp only [List.getElem_cons_succ]); (try simp only [List.getElem_cons_zero]); (try simp only [Act.put]); (try simp only [List.setIfInBounds_toArray]); (try simp only [List.set_cons_succ]); (try simp only [List.set_cons_zero]))
  refine wpAnyH_ready (rs := [5]) (by kernel_rfl) (by simp) (AllReadyH.cons rfl (fun K hK => ?_) AllReadyH.nil)
  rw [if_pos (by rfl)]
  ((try simp only); (try simp only [List.getElem_toArray]); (try simp only [List.getElem_cons_succ]); (try simp only [List.getElem_cons_zero]); (try simp only [Act.put]); (try simp only [List.setIfInBounds_toArray]); (try simp only [List.set_cons_succ]); (try simp only [List.set_cons_zero]))
  go_simp
  refine (read_calls _ _ (L.drop 504) (some g) (bytes_drop hin.out g1.1) (by have := HL.out; simp; omega)).mono ?_
  rintro e w2 ⟨q, r2, rfl, h2, b2, hq, hr2⟩
  refine hK.out _ _ ⟨g1.1.trans (b2.mono g1.1.size), g1.2.below b2 g1.2.lt⟩ (fun g2 => ?_)
  clear hK K
  ((try simp only); (try simp only [List.getElem_toArray]); (try simp only [List.getElem_cons_succ]); (try simp only [List.getElem_cons_zero]); (try simp only [Act.put]); (try simp only [List.setIfInBounds_toArray]); (try simp only [List.set_cons_succ]); (try simp only [List.set_cons_zero]))
  refine wpAnyH_take (i := 6) (v := ?_) rfl (by kernel_rfl) (by kernel_rfl) (by kernel_rfl) (fun _ _ _ h => h) (Or.inl ⟨by rfl, ?_⟩) g2 ?_
  case refine_2 => (intro w hSw; (try dsimp only at hSw); go_simp; try (with_reducible rfl))
  ((try simp only); (try simp only [List.getElem_toArray]); (try simp only [List.getElem_cons_succ]); (try simp only [List.getElem_cons_zero]); (try simp only [Act.put]); (try simp only [List.setIfInBounds_toArray]); (try simp only [List.set_cons_succ]); (try simp only [List.set_cons_zero]))
  refine wpAnyH_take (i := 7) (v := ?_) rfl (by kernel_rfl) (by kernel_rfl) (by kernel_rfl) (fun _ _ _ h => h) (Or.inl ⟨by rfl, ?_⟩) g2 ?_
  case refine_2 => (intro w hSw; (try dsimp only at hSw); go_simp; try (with_reducible rfl))
  ((try simp only); (try simp only [List.getElem_toArray]); (try simp only [List.getElem_cons_succ]); (try simp only [List.getElem_cons_zero]); (try simp only [Act.put]); (try simp only [List.setIfInBounds_toArray]); (try simp only [List.set_cons_succ]); (try simp only [List.set_cons_zero]))
  refine wpAnyH_done (by kernel_rfl) ?_ _
  refine NoPanic.normal ?_
  have hp1 := h1.lt
  have hq1 := h2.lt
  have s1 := g1.1.size
  have sb1 := b1.size
  have sb2 := b2.size
  simp at hp hr1 sb1
  have h1' := h1.kept (w' := w2) (b2.block _ hp1) fun k hk => b2.block _ (hr1 k hk).2
  go_upto_region 5 with (go_at_call 32; refine (numberOf_calls _ p).mono ?_; rintro e w3 ⟨rfl, hl3, b3, s3⟩)
  go_upto_region 6 with fail
  have B3 : Below w.heap.size w w3 := g2.1.trans (b3.mono g2.1.size)
  have H0 : RSt w (w3.alloc (.cells (fc zeroF).toArray 48)) p q w2.heap.size (w2.heap.size + 1) r1 r2 ⟨L.take 504, false⟩ ⟨L.drop 504, false⟩ zeroF := by
    have hh : ∀ k, k < w2.heap.size → (w3.alloc (.cells (fc zeroF).toArray 48)).heap[k]? = w2.heap[k]? := fun k hk => (Below.heap_alloc _ _ _ (by omega)).trans (b3.block k hk)
    have h1lt := h1'.lt
    refine ⟨h1'.kept (hh _ h1lt) (fun k hk => hh _ (by have := hr1 k hk; omega)), h2.kept (hh _ hq1) (fun k hk => hh _ (hr2 k hk).2), (Below.heap_alloc _ _ _ (by omega)).trans hl3, (g2.2.same (hh _ (by omega))), zero_hasF w3 _ (by omega), B3.alloc B3.size _, ⟨by omega, by omega, by omega, by omega⟩, fun k hk => ⟨by have := hr1 k hk; omega, by have := hr1 k hk; omega, fun e => ?_, by have := hr1 k hk; omega⟩, fun k hk => ⟨by have := hr2 k hk; omega, (hr2 k hk).2, by have := hr2 k hk; omega, fun e => ?_⟩⟩
    · obtain ⟨sv, _, _, _, ne⟩ := h1
      exact ne (e ▸ hk)
    · obtain ⟨sv, _, _, _, ne⟩ := h2
      exact ne (e ▸ hk)
  have H0' : RSt w (w3.alloc (.cells #[.int .i64 0, .string ⟨#[]⟩, .int .i64 0, .int .i64 0, .int .i64 0, .int .i64 0, .string ⟨#[]⟩, .int .i64 0, .int .i64 0, .string ⟨#[]⟩, .int .i64 0, .int .i64 0, .string ⟨#[]⟩, .int .i64 0, .int .i64 0, .string ⟨#[]⟩, .int .i64 0, .int .i64 0, .string ⟨#[]⟩, .int .i64 0, .int .i64 0, .string ⟨#[]⟩, .int .i64 0, .int .i64 0, .string ⟨#[]⟩, .int .i64 0, .int .i64 0, .string ⟨#[]⟩, .int .i64 0, .int .i64 0, .int .i64 0] 48)) p q w2.heap.size (w2.heap.size + 1) r1 r2 ⟨L.take 504, false⟩ ⟨L.drop 504, false⟩ zeroF := H0
  clear H0
  generalize w3.alloc (.cells #[.int .i64 0, .string ⟨#[]⟩, .int .i64 0, .int .i64 0, .int .i64 0, .int .i64 0, .string ⟨#[]⟩, .int .i64 0, .int .i64 0, .string ⟨#[]⟩, .int .i64 0, .int .i64 0, .string ⟨#[]⟩, .int .i64 0, .int .i64 0, .string ⟨#[]⟩, .int .i64 0, .int .i64 0, .string ⟨#[]⟩, .int .i64 0, .int .i64 0, .string ⟨#[]⟩, .int .i64 0, .int .i64 0, .string ⟨#[]⟩, .int .i64 0, .int .i64 0, .string ⟨#[]⟩, .int .i64 0, .int .i64 0, .int .i64 0] 48) = w4 at *
  rename RSt _ _ _ _ _ _ _ _ _ _ _ => H0
  obtain ⟨s, hs⟩ : ∃ s : RS, s = ⟨L.take 504, false⟩ := ⟨_, rfl⟩
  obtain ⟨t, ht⟩ : ∃ t : RS, t = ⟨L.drop 504, false⟩ := ⟨_, rfl⟩
  rw [← hs, ← ht] at H0
  have HR : Hid (readF L = (rdF s (rdHeld s) (i64 (num (t.got 8))), !(rdR (rdHeld s) (rd6 s)).bad && (rdR (rdHeld s) (rd6 s)).l.all (· == 0))) := (show _ = _ by rw [readF, if_pos HL.out, hs, ht])
  have HT : Hid ((rdR (rdHeld s) (rd6 s)).l.length ≤ 504) := (show _ ≤ _ by
    refine Nat.le_trans (rdR_le _ _) (Nat.le_trans (rd6_le _) ?_)
    rw [hs]
    simp
    omega)
  clear hs ht h1 h1' h2 b1 b2 b3 hl3 g1 g2 HZ B0 B3 hin HL hp hq hr1 hr2 hp1 hq1 s1 sb1 sb2 hcap hHeld hc1 hc2 s3
  generalize w2.heap.size = nb at *
  go_upto_region 7 with (go_at_call 43; refine (long_of _ p nb s r1 H0.hp H0.lg).mono ?_; rintro e v1 ⟨rfl, g1⟩; have T1 := H0.read g1; have c1 := T1.f.cell 0 rfl; have f1 := T1.f.free 0)
  have H1 := T1.put ({ zeroF with g := i64 (num (s.got 8)) }) 0 (.int .i64 (i64 (num (s.got 8)))) rfl rfl
  clear T1 g1 c1 f1 H0
  generalize v1.setCell ⟨nb + 1, 0, none⟩ (.int .i64 (i64 (num (s.got 8)))) = u1 at *
  go_upto_region 8 with (go_at_call 34; refine (raw_reads _ p 4 (rd1 s) r1 H1.hp).mono ?_; rintro e v2 ⟨rfl, g2⟩; have T2 := H1.read g2; have c2 := T2.f.cell 1 rfl; have f2 := T2.f.free 1)
  have H2 := T2.put ({ zeroF with g := i64 (num (s.got 8)), lt := str ((rd1 s).got 4) }) 1 (.string (str ((rd1 s).got 4))) rfl rfl
  clear T2 g2 c2 f2 H1
  generalize v2.setCell ⟨nb + 1, 1, none⟩ (.string (str ((rd1 s).got 4))) = u2 at *
  go_upto_region 9 with (go_at_call 30; refine (word_reads _ p (rd2 s) r1 H2.hp).mono ?_; rintro e v3 ⟨rfl, g3⟩; have T3 := H2.read g3; have c3 := T3.f.cell 2 rfl; have f3 := T3.f.free 2)
  have H3 := T3.put ({ zeroF with g := i64 (num (s.got 8)), lt := str ((rd1 s).got 4), r := (num ((rd2 s).got 4) : Int) }) 2 (.int .i64 (num ((rd2 s).got 4) : Int)) rfl rfl
  clear T3 g3 c3 f3 H2
  generalize v3.setCell ⟨nb + 1, 2, none⟩ (.int .i64 (num ((rd2 s).got 4) : Int)) = u3 at *
  go_upto_region 10 with (go_at_call 30; refine (word_reads _ p (rd3 s) r1 H3.hp).mono ?_; rintro e v4 ⟨rfl, g4⟩; have T4 := H3.read g4; have c4 := T4.f.cell 3 rfl; have f4 := T4.f.free 3)
  have H4 := T4.put ({ zeroF with g := i64 (num (s.got 8)), lt := str ((rd1 s).got 4), r := (num ((rd2 s).got 4) : Int), x := (num ((rd3 s).got 4) : Int) }) 3 (.int .i64 (num ((rd3 s).got 4) : Int)) rfl rfl
  clear T4 g4 c4 f4 H3
  generalize v4.setCell ⟨nb + 1, 3, none⟩ (.int .i64 (num ((rd3 s).got 4) : Int)) = u4 at *
  go_upto_region 11 with (go_at_call 43; refine (long_of _ p nb (rd4 s) r1 H4.hp H4.lg).mono ?_; rintro e v5 ⟨rfl, g5⟩; have T5 := H4.read g5; have c5 := T5.f.cell 4 rfl; have f5 := T5.f.free 4)
  have H5 := T5.put ({ zeroF with g := i64 (num (s.got 8)), lt := str ((rd1 s).got 4), r := (num ((rd2 s).got 4) : Int), x := (num ((rd3 s).got 4) : Int), c := i64 (num ((rd4 s).got 8)) }) 4 (.int .i64 (i64 (num ((rd4 s).got 8)))) rfl rfl
  clear T5 g5 c5 f5 H4
  generalize v5.setCell ⟨nb + 1, 4, none⟩ (.int .i64 (i64 (num ((rd4 s).got 8)))) = u5 at *
  go_upto_region 12 with (go_at_call 35; refine (byte_reads _ p (rd5 s) r1 H5.hp).mono ?_; rintro e v6 ⟨rfl, g6⟩; have T6 := H5.read g6; have c6 := T6.f.cell 5 rfl; have f6 := T6.f.free 5)
  have H6 := T6.put (rdF s 0 0) 5 (.int .i64 (num ((rd5 s).got 1) : Int)) rfl rfl
  clear T6 g6 c6 f6 H5
  generalize v6.setCell ⟨nb + 1, 5, none⟩ (.int .i64 (num ((rd5 s).got 1) : Int)) = u6 at *
  have hM : rdHeld s ≤ 8 := Nat.min_le_right _ _
  have hH : ∀ w, Calls Try.prog 25 #[fv (rdF s 0 0)] w fun e w' => e = .returned (.int .i64 (rdHeld s : Int)) ∧ Below w.heap.size w w' := fun w => by
    have e : min (rdF s 0 0).n 8 = (rdHeld s : Int) := by
      show min (rdCount s : Int) 8 = ((min (rdCount s) 8 : Nat) : Int)
      omega
    rw [← e]
    exact held_calls w _ rfl
  generalize rdHeld s = M at *
  go_upto_region 13 with (first | (refine load_fld _ rfl (nb + 1) rfl rfl _ H6.f ?_) | (go_at_call 25; refine (hH _).mono ?_; rintro e w7 ⟨rfl, b7⟩))
  have H7 := H6.called b7
  clear H6 b7 hH
  go_loopw [48] (fun i wr => ∃ (k : Nat), k ≤ M ∧ i = .int .i64 (k : Int) ∧ RSt w wr p q nb (nb + 1) r1 r2 (rdR k (rd6 s)) t (rdF s k 0)) (fun i _ => M - (intOf i).toNat)
  case atStart => exact ⟨0, Nat.zero_le _, rfl, H7⟩
  case round =>
    clear H7
    obtain ⟨k, hk, rfl, H⟩ := hrel
    by_cases hlt : k < M
    · go_wp2_with (first
        | (go_at_call 36; refine (snapBy_calls _ p nb (rdR k (rd6 s)) r1 H.hp H.lg (fun j hj => by have := H.rr j hj; have := H.f.lt; omega) (by have := H.ord; omega)).mono ?_; rintro e v ⟨rfl, gv⟩; have T := H.read gv)
        | (refine store_snp rfl _ _ rfl (nb + 1) k rfl (rdSnap (rdR k (rd6 s))) rfl (rdF s k 0) T.f (by omega) ?_; intro v2 hf2 ht2))
      have T2 := T.touch hf2 ht2
      rw [rdF_set s k 0 (by omega)] at T2
      rw [← rdR_succ] at T2
      have TT : Hid (RSt w v2 p q nb (nb + 1) r1 r2 (rdR (k + 1) (rd6 s)) t (rdF s (k + 1) 0)) := T2
      clear T2 T gv hf2 ht2
      go_round
      case rel => exact ⟨k + 1, by omega, by go_num, TT.out⟩
      case measure => simp [intOf]; omega
    · have e : k = M := by omega
      subst e
      go_upto_region 18 with (first
        | (go_at_call 32; refine (numberOf_calls _ q).mono ?_; rintro e x1 ⟨rfl, l1, b1, s1⟩; have H1 := H.called b1)
        | (go_at_call 43; refine (long_of _ q _ t r2 H1.hq l1).mono ?_; rintro e x2 ⟨rfl, g2⟩; have H2 := H1.readQ g2; have c2 := H2.f.six.2.2.2.2.2.2; have f2 := H2.f.free 30))
      have H3 := H2.put (rdF s k (i64 (num (t.got 8)))) 30 (.int .i64 (i64 (num (t.got 8)))) (rdF_len s k 0 _ H2.f.len) (rdF_setE s k 0 _ H2.f.len)
      clear H H1 H2 c2 f2 l1 b1 s1 g2
      generalize x2.setCell ⟨nb + 1, 30, none⟩ (.int .i64 (i64 (num (t.got 8)))) = x3 at *
      have hi31 : (Try.prog.info? 48).map (·.size) = some (fc (rdF s k (i64 (num (t.got 8))))).length := by rw [fc_length _ H3.f.len]; exact Try.fld_info
      have HH : Hid (RSt w x3 p q nb (nb + 1) r1 r2 (rdR k (rd6 s)) (t.take 8) (rdF s k (i64 (num (t.got 8))))) := H3
      clear H3
      generalize hF : rdF s k (i64 (num (t.got 8))) = F at *
      refine wp_region_noPanic ?_
      refine wp_region_held_drew (S := (fun x => HasF x (nb + 1) F)) (by kernel_rfl) (HH.out.f.same rfl) (fun hHeld => ?_)
      refine wpAnyH_take (i := 0) rfl (by kernel_rfl) (by kernel_rfl) (by kernel_rfl) (fun _ _ _ h => h) (yieldsIf_load_mid (by rfl) _ _ rfl _ _ rfl _ _ (fun _ h => h.range) Try.underlying48 rfl hi31) hHeld ?_
      ((try simp only); (try simp only [List.getElem_toArray]); (try simp only [List.getElem_cons_succ]); (try simp only [List.getElem_cons_zero]); (try simp only [Act.put]); (try simp only [List.setIfInBounds_toArray]); (try simp only [List.set_cons_succ]); (try simp only [List.set_cons_zero]))
      refine wpAnyH_take (i := 1) (v := ?_) rfl (by kernel_rfl) (by kernel_rfl) (by kernel_rfl) (fun _ _ _ h => h) (Or.inl ⟨by rfl, ?_⟩) hHeld ?_
      case refine_2 => (intro w hSw; (try dsimp only at hSw); go_simp; try (with_reducible rfl))
      ((try simp only); (try simp only [List.getElem_toArray]); (try simp only [List.getElem_cons_succ]); (try simp only [List.getElem_cons_zero]); (try simp only [Act.put]); (try simp only [List.setIfInBounds_toArray]); (try simp only [List.set_cons_succ]); (try simp only [List.set_cons_zero]))
      refine wpAnyH_ready (rs := [2]) (by kernel_rfl) (by simp) (AllReadyH.cons rfl (fun K hK => ?_) AllReadyH.nil)
      rw [if_pos (by rfl)]
      ((try simp only); (try simp only [List.getElem_toArray]); (try simp only [List.getElem_cons_succ]); (try simp only [List.getElem_cons_zero]); (try simp only [Act.put]); (try simp only [List.setIfInBounds_toArray]); (try simp only [List.set_cons_succ]); (try simp only [List.set_cons_zero]))
      go_simp
      refine (noughts_reads x3.drew p (rdR k (rd6 s)) r1 (HH.out.hp.kept rfl fun _ _ => rfl) (fun j hj => by have := HH.out.rr j hj; have := HH.out.f.lt; simp; omega) (by have := HT.out; omega)).mono ?_
      rintro e x4 ⟨rfl, b4⟩
      refine hK.out _ _ (hHeld.below b4 hHeld.lt) (fun g4 => ?_)
      clear hK K
      ((try simp only); (try simp only [List.getElem_toArray]); (try simp only [List.getElem_cons_succ]); (try simp only [List.getElem_cons_zero]); (try simp only [Act.put]); (try simp only [List.setIfInBounds_toArray]); (try simp only [List.set_cons_succ]); (try simp only [List.set_cons_zero]))
      have z4 : HasF x4 w.heap.size zeroF := HH.out.z.same (b4.block _ (by have := HH.out.z.lt; simpa using this))
      refine wpAnyH_ready (rs := [3]) (by kernel_rfl) (by simp) (AllReadyH.cons rfl (fun K hK => ?_) AllReadyH.nil)
      rw [if_pos (by rfl)]
      ((try simp only); (try simp only [List.getElem_toArray]); (try simp only [List.getElem_cons_succ]); (try simp only [List.getElem_cons_zero]); (try simp only [Act.put]); (try simp only [List.setIfInBounds_toArray]); (try simp only [List.set_cons_succ]); (try simp only [List.set_cons_zero]))
      refine wp_store_row 48 _ _ rfl w.heap.size (fc F).toArray rfl rfl _ _ z4.blk (by rw [fc_size F g4.len]; exact Try.fld_info) (by rw [fc_size F g4.len, fc_size zeroF rfl]) (fc_all F) ?_
      refine hK.out _ _ (g4.same (setRow_other _ _ _ _ (by have := HH.out.ord; omega))) (fun g5 => ?_)
      clear hK K
      ((try simp only); (try simp only [List.getElem_toArray]); (try simp only [List.getElem_cons_succ]); (try simp only [List.getElem_cons_zero]); (try simp only [Act.put]); (try simp only [List.setIfInBounds_toArray]); (try simp only [List.set_cons_succ]); (try simp only [List.set_cons_zero]))
      refine wpAnyH_take (i := 4) (v := ?_) rfl (by kernel_rfl) (by kernel_rfl) (by kernel_rfl) (fun _ _ _ h => h) (Or.inl ⟨by rfl, ?_⟩) g5 ?_
      case refine_2 => (intro w hSw; (try dsimp only at hSw); go_simp; try (with_reducible rfl))
      ((try simp only); (try simp only [List.getElem_toArray]); (try simp only [List.getElem_cons_succ]); (try simp only [List.getElem_cons_zero]); (try simp only [Act.put]); (try simp only [List.setIfInBounds_toArray]); (try simp only [List.set_cons_succ]); (try simp only [List.set_cons_zero]))
      refine wpAnyH_done (by kernel_rfl) ?_ _
      refine NoPanic.normal ?_
      go_wp2
      refine ret_fld_ok rfl w.heap.size F _ rfl rfl (z4.setRow F g4.len) rfl ⟨by rw [HR.out]; rfl, ?_⟩
      exact below_rowed (HH.out.bel.trans ((⟨b4.os, b4.tape, b4.output, b4.size, b4.block⟩ : Below x3.heap.size x3 x4).mono HH.out.bel.size)) (touch_row _ _ _) (Nat.le_refl _) (Nat.le_refl _)
end Go.Proofs.Ytnpohjbhfoebcaa
