import Derived.Test.YtjhdnpplmlddaaaGreatSi
import Derived.Test.YtjhdnpplmlddaaaGreatB35
/- staying, lacks and ahead of package tree. -/
namespace Go.Proofs.YtjhdnpplmlddaaaGreat
set_option linter.unusedVariables false
open Go.RowKit

def stayV (K : List UInt8) (h : K.length = 24) (n : Int) : Pv := ⟨K, h, n, nil3, nil3⟩
set_option maxRecDepth 100000 in
set_option maxHeartbeats 2000000 in
theorem staying_calls (w : World) (e : Kd) (h : e.k.length = 24) :
    Calls Tryz.prog 81 #[ev e.el] w fun x w' => x = .returned (.agg (encPv.c (stayV e.k h e.n)).toArray) ∧ Below w.heap.size w w' := by
  have hok : e.el.Ok := ⟨h, rfl⟩
  have h1 : HasK ((w.alloc (.cells (ec e.el).toArray 93)).alloc (.cells (encPv.c pv0).toArray 85)) w.heap.size e.el := (HasK.new w e.el _ rfl hok).alloc _
  have h2 : InB encPv 85 ((w.alloc (.cells (ec e.el).toArray 93)).alloc (.cells (encPv.c pv0).toArray 85)) (w.heap.size + 1) pv0 := InB.new _ _ _ _ _ (by simp)
  have hb : Below w.heap.size w ((w.alloc (.cells (ec e.el).toArray 93)).alloc (.cells (encPv.c pv0).toArray 85)) := ((Below.refl _ w).alloc (Nat.le_refl _) _).alloc (by simp) _
  have HH : Hid (HasK ((w.alloc (.cells (ec e.el).toArray 93)).alloc (.cells (encPv.c pv0).toArray 85)) w.heap.size e.el ∧ InB encPv 85 ((w.alloc (.cells (ec e.el).toArray 93)).alloc (.cells (encPv.c pv0).toArray 85)) (w.heap.size + 1) pv0 ∧ Below w.heap.size w ((w.alloc (.cells (ec e.el).toArray 93)).alloc (.cells (encPv.c pv0).toArray 85))) := ⟨h1, h2, hb⟩
  clear h1 h2 hb
  go_enter Tryz.func81, Tryz.ntmps81
  go_upto_region 1 with fail
  change Code.wp _ _ _ _ ((w.alloc (.cells (ec e.el).toArray 93)).alloc (.cells (encPv.c pv0).toArray 85))
  generalize (w.alloc (.cells (ec e.el).toArray 93)).alloc (.cells (encPv.c pv0).toArray 85) = W at *
  have hv : W.cell? ⟨w.heap.size, 24, none⟩ = some (.int .i64 e.n) := HH.out.1.val
  have HR : Hid (W.rangeAt w.heap.size 0 (bc e.k)) := range_key HH.out.1.range
  generalize hq : w.heap.size = q at *
  have HQ : Hid (w.heap.size = q) := hq
  clear hq
  go_wp2_with (first
    | (refine load_part _ rfl q 0 rfl rfl _ h HR.out ?_)
    | (refine build_stay rfl _ _ rfl e.k h e.n rfl rfl ?_)
    | (refine store_el elPv rfl _ _ rfl (q + 1) rfl (stayV e.k h e.n) rfl pv0 HH.out.2.1 ?_; intro x1 hu1 tx1 sx1))
  refine ret_el elPv rfl (q + 1) (stayV e.k h e.n) rfl hu1 rfl ⟨rfl, ?_⟩
  have h3 := HH.out.2.2
  rw [HQ.out]
  exact h3.trans (tx1.below (by have := h3.size; rw [HQ.out] at this; exact this) (by omega) (by simp))
/-- Whether a piece lacks something, as it lies. -/
def lacksV (x : Pv) : Bool := decide (x.b = 0) && shortB x.ps.2.1 x.ks.2.1
theorem lacks_pc {w : World} {B : Nat} : ∀ {d : Nat} {p : Pc Pq} {x : Pv}, PcIn w B d p x → lacksV x = p.lacks
  | d, .stay _ _, x, h => by
    have h' : x.b ≠ 0 := by cases d <;> (rw [h.2.1]; exact h.2.2.1)
    simp [lacksV, h', Pc.lacks]
  | d, .leaf _ ps, x, h => by
    have h1 : x.b = 0 := by cases d <;> exact h.2.1
    have h2 : x.ps.2.1 = ps.length := by cases d <;> (obtain ⟨_, _, e, _⟩ := h.2.2.1; injection e)
    have h3 : x.ks.2.1 = 0 := by cases d <;> (obtain ⟨_, _, e, _⟩ := h.2.2.2; injection e)
    simp only [lacksV, h1, h2, h3, Pc.lacks, shortB]
    simp
    omega
  | 0, .inner _ _, _, h => h.elim
  | d + 1, .inner _ ks, x, h => by
    obtain ⟨_, h1, ⟨_, _, e1, _⟩, xs, ⟨_, _, e2, _⟩, h5, _⟩ := h
    have q1 : x.ps.2.1 = 0 := by injection e1
    have q2 : x.ks.2.1 = ks.length := by injection e2 with a b c; rw [b, h5]
    simp only [lacksV, h1, q1, q2, Pc.lacks, shortB]
    simp
    omega
set_option maxRecDepth 100000 in
set_option maxHeartbeats 2000000 in
theorem lacks_calls (w : World) (x : Pv) :
    Calls Tryz.prog 82 #[.agg (encPv.c x).toArray] w fun e w' => e = .returned (.bool (lacksV x)) ∧ Below w.heap.size w w' := by
  have hI : InB encPv 85 (w.alloc (.cells (encPv.c x).toArray 85)) w.heap.size x := InB.new _ _ _ _ _ rfl
  obtain ⟨c24, c25, c26⟩ := range_vV hI.range
  simp only [Nat.zero_add, slv] at c24 c25 c26
  have HB : Hid (Below w.heap.size w (w.alloc (.cells (encPv.c x).toArray 85))) := (Below.refl _ w).alloc (Nat.le_refl _) _
  have HS := fun w => isShort_calls w x.ps.2.1 x.ks.2.1
  obtain ⟨b, hb⟩ : ∃ b, b = lacksV x := ⟨_, rfl⟩
  rw [← hb]
  have hb' : (if x.b = 0 then shortB x.ps.2.1 x.ks.2.1 else false) = b := by
    rw [hb, lacksV]
    by_cases h0 : x.b = 0 <;> simp [h0]
  clear hI hb
  obtain ⟨K, hK, B, ⟨ap, np, cp⟩, ⟨ak, nk, ck⟩⟩ := x
  simp only at c24 c25 c26 hb' HS
  by_cases h0 : B = 0
  · subst h0
    rw [if_pos rfl] at hb'
    rw [hb'] at HS
    clear hb'
    go_enter Tryz.func82, Tryz.ntmps82
    go_upto_region 1 with fail
    change Code.wp _ _ _ _ (w.alloc (.cells (encPv.c ⟨K, hK, 0, (ap, np, cp), (ak, nk, ck)⟩).toArray 85))
    generalize w.alloc (.cells (encPv.c ⟨K, hK, 0, (ap, np, cp), (ak, nk, ck)⟩).toArray 85) = W at *
    go_wp2_with fail
    refine (HS _).mono ?_
    rintro e w1 ⟨rfl, hw⟩
    rw [hw]
    clear hw HS
    go_wp2
    go_ret
    exact ⟨rfl, HB.out⟩
  · rw [if_neg h0] at hb'
    subst hb'
    have h0' : (B == 0) = false := by simpa using h0
    go_enter Tryz.func82, Tryz.ntmps82
    go_upto_region 1 with fail
    change Code.wp _ _ _ _ (w.alloc (.cells (encPv.c ⟨K, hK, B, (ap, np, cp), (ak, nk, ck)⟩).toArray 85))
    generalize w.alloc (.cells (encPv.c ⟨K, hK, B, (ap, np, cp), (ak, nk, ck)⟩).toArray 85) = W at *
    go_wp2
    go_ret
    exact ⟨rfl, HB.out⟩
/-! ahead -/
theorem ahead_le (C : List Cq) (x : Int) : aheadP Cq.n C x ≤ C.length := (List.takeWhile_sublist _).length_le
theorem ahead_at (C : List Cq) (x : Int) : ∀ (j : Nat) (_ : j < aheadP Cq.n C x) (h : j < C.length), decide (C[j].n < x) = true := by
  induction C with
  | nil => intro j hj h; cases h
  | cons a r ih =>
    intro j hj h
    unfold aheadP at hj
    rw [List.takeWhile_cons] at hj
    split at hj
    · rename_i q
      cases j with
      | zero => exact q
      | succ j => exact ih j (by unfold aheadP; simpa using hj) (by simpa using h)
    · cases hj
theorem ahead_end (C : List Cq) (x : Int) : ∀ (h : aheadP Cq.n C x < C.length), decide ((C[aheadP Cq.n C x]).n < x) = false := by
  induction C with
  | nil => intro h; cases h
  | cons a r ih =>
    intro h
    by_cases q : decide (a.n < x) = true
    · have e : aheadP Cq.n (a :: r) x = aheadP Cq.n r x + 1 := by unfold aheadP; rw [List.takeWhile_cons, if_pos q]; rfl
      have h2 : aheadP Cq.n r x < r.length := by rw [e] at h; simpa using h
      have := ih h2
      simp only [e, List.getElem_cons_succ]
      exact this
    · have e : aheadP Cq.n (a :: r) x = 0 := by unfold aheadP; rw [List.takeWhile_cons, if_neg q]; rfl
      simp only [e, List.getElem_cons_zero]
      simpa using q
theorem less_ck (c : Cq) (K : List UInt8) (hK : K.length = 24) : Op.bytesLess c.k K = decide (c.n < (num K : Int)) := by
  rw [less_num c.k K (by rw [c.h, hK]), Cq.n]
  simp
set_option maxRecDepth 100000 in
set_option maxHeartbeats 4000000 in
theorem ahead_calls (w : World) (cv : Value) (C : List Cq) (KA : List UInt8) (h : Sl encCq w cv C) (hC : C.length ≤ 100000) (hK : KA.length = 24) :
    Calls Tryz.prog 80 #[cv, kv KA] w fun e w' => e = .returned (.int .i64 (aheadP Cq.n C (num KA) : Int)) ∧ Below w.heap.size w w' := by
  have h' := h
  obtain ⟨a0, c0, rfl, hcap, _⟩ := h'
  obtain ⟨n0, hn0⟩ : ∃ n0 : Nat, n0 = C.length := ⟨_, rfl⟩
  rw [← hn0] at hC hcap ⊢
  have HN0 : Hid (n0 = C.length) := hn0
  have HRS : Hid (SlB encCq w w.heap.size (.slice a0 n0 c0) C) := (by rw [hn0]; exact h)
  obtain ⟨LN, hLN⟩ : ∃ LN, LN = aheadP Cq.n C (num KA) := ⟨_, rfl⟩
  have HLN : Hid (LN = aheadP Cq.n C (num KA)) := hLN
  have hLle : LN ≤ n0 := by rw [hLN, hn0]; exact ahead_le _ _
  rw [← hLN]
  have hHK : Has (w.alloc (.cells (bc KA).toArray 25)) w.heap.size KA := Has.new w KA hK
  have HU : Hid (Has (w.alloc (.cells (bc KA).toArray 25)) w.heap.size KA ∧ Below w.heap.size w (w.alloc (.cells (bc KA).toArray 25))) := ⟨hHK, (Below.refl _ w).alloc (Nat.le_refl _) _⟩
  have HC24 : Hid (KA.length = 24) := hK
  have hn0b : (n0 : Int) ≤ 1000000 := by omega
  clear h hn0 hLN hHK hcap
  go_enter Tryz.func80, Tryz.ntmps80
  go_upto_region 1 with fail
  generalize w.alloc (.cells (bc KA).toArray 25) = x1 at *
  go_wp2_with fail
  go_loopg [5] LN (fun g3 v5 wr => ∃ j : Nat, j + g3 = LN ∧ v5 = .int .i64 (j : Int) ∧ Hid (Below x1.heap.size x1 wr))
  case atStart => exact ⟨0, by omega, rfl, Below.refl _ _⟩
  case round =>
    obtain ⟨j, hjg, rfl, HB3⟩ := hrel
    have HCK : Hid (∀ y, Below x1.heap.size x1 y → y.rangeAt w.heap.size 0 (bc KA)) := fun y hy => (HU.out.1.below hy HU.out.1.lt).range
    cases gk with
    | succ g3 =>
      have hjn : j < n0 := by omega
      have hjR : j < C.length := by rw [← HN0.out]; exact hjn
      have hjI : (j : Int) < (n0 : Int) := by omega
      obtain ⟨g0, off0, rfl, hg0, hat⟩ := SlB.at HRS.out j hjR
      have HK : Hid (C[j].k.length = 24) := C[j].h
      have HRK : Hid (∀ y, Below x1.heap.size x1 y → y.rangeAt g0 (off0 + j * 26) (bc C[j].k)) := fun y hy => range_kG (range_same' hat ((hy.block g0 (by have := HU.out.2.size; omega)).trans (HU.out.2.block g0 hg0)))
      have hls : Op.bytesLess C[j].k KA = true := by rw [less_ck _ _ hK]; exact ahead_at C _ j (by rw [← HLN.out]; omega) hjR
      clear hat
      generalize C[j].k = KJ at HK HRK hls
      go_upto_region 2 with fail
      refine wp_region_noPanic ?_
      refine wp_region_held_drew (S := (fun y => Below x1.heap.size x1 y)) (by kernel_rfl) (HB3.out.trans ⟨rfl, rfl, rfl, Nat.le_refl _, fun _ _ => rfl⟩) (fun hHeld => ?_)
      refine wpAnyH_take (i := 0) (v := ?_) rfl (by kernel_rfl) (by kernel_rfl) (by kernel_rfl) (fun _ _ _ h => h) (Or.inl ⟨by rfl, ?_⟩) hHeld ?_
      case refine_2 => (intro w hSw; (try dsimp only at hSw); go_simp; try (with_reducible rfl))
      (try simp only [gs])
      refine wpAnyH_take (i := 1) (v := ?_) rfl (by kernel_rfl) (by kernel_rfl) (by kernel_rfl) (fun _ _ _ h => h) (Or.inl ⟨by rfl, ?_⟩) hHeld ?_
      case refine_2 => (intro w hSw; (try dsimp only at hSw); go_simp; try (with_reducible rfl))
      (try simp only [gs])
      refine wpAnyH_take (i := 2) (v := ?_) rfl (by kernel_rfl) (by kernel_rfl) (by kernel_rfl) (fun _ _ _ h => h) (Or.inl ⟨by rfl, ?_⟩) hHeld ?_
      case refine_2 => (intro w hSw; (try dsimp only at hSw); go_simp; try (with_reducible rfl))
      (try simp only [gs])
      refine wpAnyH_take (i := 3) (v := ?_) rfl (by kernel_rfl) (by kernel_rfl) (by kernel_rfl) (fun _ _ _ h => h) (Or.inl ⟨by rfl, ?_⟩) hHeld ?_
      case refine_2 => (intro w hSw; (try dsimp only at hSw); go_simp; try (with_reducible rfl))
      (try simp only [gs])
      refine wpAnyH_take (i := 4) (v := .bool true) rfl (by kernel_rfl) (by kernel_rfl) (by kernel_rfl) (fun _ _ _ h => h) (Or.inl ⟨by rfl, ?_⟩) hHeld ?_
      case refine_1 => (intro w hSw; (try dsimp only at hSw); go_simp; first | done | rfl)
      (try simp only [gs])
      refine wpAnyH_take (i := 5) (v := ?_) rfl (by kernel_rfl) (by kernel_rfl) (by kernel_rfl) (fun _ _ _ h => h) (Or.inl ⟨by rfl, ?_⟩) hHeld ?_
      case refine_2 => (intro w hSw; (try dsimp only at hSw); go_simp; try (with_reducible rfl))
      (try simp only [gs])
      refine wpAnyH_take (i := 6) (v := ?_) rfl (by kernel_rfl) (by kernel_rfl) (by kernel_rfl) (fun _ _ _ h => h) (Or.inl ⟨by rfl, ?_⟩) hHeld ?_
      case refine_2 => (intro w hSw; (try dsimp only at hSw); go_simp; try (with_reducible rfl))
      (try simp only [gs])
      refine wpAnyH_take (i := 7) (v := ?_) rfl (by kernel_rfl) (by kernel_rfl) (by kernel_rfl) (fun _ _ _ h => h) (Or.inl ⟨by rfl, ?_⟩) hHeld ?_
      case refine_2 => (intro w hSw; (try dsimp only at hSw); go_simp; try (with_reducible rfl))
      (try simp only [gs])
      refine wpAnyH_take (i := 8) (v := ?_) rfl (by kernel_rfl) (by kernel_rfl) (by kernel_rfl) (fun _ _ _ h => h) (Or.inl ⟨by rfl, ?_⟩) hHeld ?_
      case refine_2 => (intro w hSw; (try dsimp only at hSw); go_simp; try (with_reducible rfl))
      (try simp only [gs])
      refine wpAnyH_take (i := 9) rfl (by kernel_rfl) (by kernel_rfl) (by kernel_rfl) (fun _ _ _ h => h) (yieldsIf_load_mid (by rfl) _ _ rfl _ _ rfl _ _ (fun _ h => HRK.out _ h) Tryz.underlying25 rfl (by rw [bc_length, HK.out]; exact Tryz.key_info)) hHeld ?_
      (try simp only [gs])
      refine wpAnyH_take (i := 10) rfl (by kernel_rfl) (by kernel_rfl) (by kernel_rfl) (fun _ _ _ h => h) (yieldsIf_load_mid (by rfl) _ _ rfl _ _ rfl _ _ (fun _ h => HCK.out _ h) Tryz.underlying25 rfl (by rw [bc_length, HC24.out]; exact Tryz.key_info)) hHeld ?_
      (try simp only [gs])
      refine wpAnyH_ready (rs := [11]) (by kernel_rfl) (by simp) (AllReadyH.cons rfl (fun K hK => ?_) AllReadyH.nil)
      rw [if_pos (by rfl)]
      (try simp only [gs])
      go_simp
      refine (tless_calls _ KJ KA HK.out HC24.out).mono ?_
      rintro e y1 ⟨rfl, b1⟩
      rw [hls]
      refine hK.out _ _ (hHeld.trans (b1.mono hHeld.size)) (fun g1 => ?_)
      clear hK K
      (try simp only [gs])
      refine wpAnyH_take (i := 12) (v := ?_) rfl (by kernel_rfl) (by kernel_rfl) (by kernel_rfl) (fun _ _ _ h => h) (Or.inl ⟨by rfl, ?_⟩) g1 ?_
      case refine_2 => (intro w hSw; (try dsimp only at hSw); go_simp; try (with_reducible rfl))
      (try simp only [gs])
      refine wpAnyH_done (by kernel_rfl) ?_ _
      refine NoPanic.normal ?_
      go_wp2_with fail
      go_roundg g3
      case measure => omega
      case rel => exact ⟨j + 1, by omega, congrArg _ (by first | omega | (unfold wrap64; omega)), g1⟩
    | zero =>
      have hjL : j = LN := by omega
      subst hjL
      clear hjg
      by_cases hend : j = n0
      · have hI0 : ¬ (j : Int) < (n0 : Int) := by omega
        clear hend
        go_upto_region 2 with fail
        refine wp_region_noPanic ?_
        refine wp_region_held_drew (S := (fun y => Below x1.heap.size x1 y)) (by kernel_rfl) (HB3.out.trans ⟨rfl, rfl, rfl, Nat.le_refl _, fun _ _ => rfl⟩) (fun hHeld => ?_)
        refine wpAnyH_take (i := 0) (v := ?_) rfl (by kernel_rfl) (by kernel_rfl) (by kernel_rfl) (fun _ _ _ h => h) (Or.inl ⟨by rfl, ?_⟩) hHeld ?_
        case refine_2 => (intro w hSw; (try dsimp only at hSw); go_simp; try (with_reducible rfl))
        (try simp only [gs])
        refine wpAnyH_take (i := 1) (v := ?_) rfl (by kernel_rfl) (by kernel_rfl) (by kernel_rfl) (fun _ _ _ h => h) (Or.inl ⟨by rfl, ?_⟩) hHeld ?_
        case refine_2 => (intro w hSw; (try dsimp only at hSw); go_simp; try (with_reducible rfl))
        (try simp only [gs])
        refine wpAnyH_take (i := 2) (v := ?_) rfl (by kernel_rfl) (by kernel_rfl) (by kernel_rfl) (fun _ _ _ h => h) (Or.inl ⟨by rfl, ?_⟩) hHeld ?_
        case refine_2 => (intro w hSw; (try dsimp only at hSw); go_simp; try (with_reducible rfl))
        (try simp only [gs])
        refine wpAnyH_take (i := 3) (v := ?_) rfl (by kernel_rfl) (by kernel_rfl) (by kernel_rfl) (fun _ _ _ h => h) (Or.inl ⟨by rfl, ?_⟩) hHeld ?_
        case refine_2 => (intro w hSw; (try dsimp only at hSw); go_simp; try (with_reducible rfl))
        (try simp only [gs])
        refine wpAnyH_take (i := 4) (v := .bool false) rfl (by kernel_rfl) (by kernel_rfl) (by kernel_rfl) (fun _ _ _ h => h) (Or.inl ⟨by rfl, ?_⟩) hHeld ?_
        case refine_1 => (intro w hSw; (try dsimp only at hSw); go_simp; first | done | rfl)
        (try simp only [gs])
        refine wpAnyH_take (i := 5) (v := undef) rfl (by kernel_rfl) (by kernel_rfl) (by kernel_rfl) (fun _ _ _ h => h) (Or.inr ⟨by rfl, rfl⟩) hHeld ?_
        (try simp only [gs])
        refine wpAnyH_take (i := 6) (v := undef) rfl (by kernel_rfl) (by kernel_rfl) (by kernel_rfl) (fun _ _ _ h => h) (Or.inr ⟨by rfl, rfl⟩) hHeld ?_
        (try simp only [gs])
        refine wpAnyH_take (i := 7) (v := undef) rfl (by kernel_rfl) (by kernel_rfl) (by kernel_rfl) (fun _ _ _ h => h) (Or.inr ⟨by rfl, rfl⟩) hHeld ?_
        (try simp only [gs])
        refine wpAnyH_take (i := 8) (v := undef) rfl (by kernel_rfl) (by kernel_rfl) (by kernel_rfl) (fun _ _ _ h => h) (Or.inr ⟨by rfl, rfl⟩) hHeld ?_
        (try simp only [gs])
        refine wpAnyH_take (i := 9) (v := undef) rfl (by kernel_rfl) (by kernel_rfl) (by kernel_rfl) (fun _ _ _ h => h) (Or.inr ⟨by rfl, rfl⟩) hHeld ?_
        (try simp only [gs])
        refine wpAnyH_take (i := 10) (v := undef) rfl (by kernel_rfl) (by kernel_rfl) (by kernel_rfl) (fun _ _ _ h => h) (Or.inr ⟨by rfl, rfl⟩) hHeld ?_
        (try simp only [gs])
        refine wpAnyH_take (i := 11) (v := undef) rfl (by kernel_rfl) (by kernel_rfl) (by kernel_rfl) (fun _ _ _ h => h) (Or.inr ⟨by rfl, rfl⟩) hHeld ?_
        (try simp only [gs])
        refine wpAnyH_take (i := 12) (v := ?_) rfl (by kernel_rfl) (by kernel_rfl) (by kernel_rfl) (fun _ _ _ h => h) (Or.inl ⟨by rfl, ?_⟩) hHeld ?_
        case refine_2 => (intro w hSw; (try dsimp only at hSw); go_simp; try (with_reducible rfl))
        (try simp only [gs])
        refine wpAnyH_done (by kernel_rfl) ?_ _
        refine NoPanic.normal ?_
        go_wp2_with fail
        go_ret
        exact ⟨rfl, HU.out.2.trans (hHeld.mono HU.out.2.size)⟩
      · have hjR : j < C.length := by rw [← HN0.out]; omega
        have hjI : (j : Int) < (n0 : Int) := by omega
        obtain ⟨g0, off0, rfl, hg0, hat⟩ := SlB.at HRS.out j hjR
        have HK : Hid (C[j].k.length = 24) := C[j].h
        have HRK : Hid (∀ y, Below x1.heap.size x1 y → y.rangeAt g0 (off0 + j * 26) (bc C[j].k)) := fun y hy => range_kG (range_same' hat ((hy.block g0 (by have := HU.out.2.size; omega)).trans (HU.out.2.block g0 hg0)))
        have hls : Op.bytesLess C[j].k KA = false := by
          rw [less_ck _ _ hK]
          have h1 := ahead_end C (num KA) (by rw [← HLN.out]; exact hjR)
          have e : C[aheadP Cq.n C (num KA)]'(by rw [← HLN.out]; exact hjR) = C[j] := by congr 1; exact HLN.out.symm
          rw [e] at h1
          exact h1
        clear hat
        generalize C[j].k = KJ at HK HRK hls
        go_upto_region 2 with fail
        refine wp_region_noPanic ?_
        refine wp_region_held_drew (S := (fun y => Below x1.heap.size x1 y)) (by kernel_rfl) (HB3.out.trans ⟨rfl, rfl, rfl, Nat.le_refl _, fun _ _ => rfl⟩) (fun hHeld => ?_)
        refine wpAnyH_take (i := 0) (v := ?_) rfl (by kernel_rfl) (by kernel_rfl) (by kernel_rfl) (fun _ _ _ h => h) (Or.inl ⟨by rfl, ?_⟩) hHeld ?_
        case refine_2 => (intro w hSw; (try dsimp only at hSw); go_simp; try (with_reducible rfl))
        (try simp only [gs])
        refine wpAnyH_take (i := 1) (v := ?_) rfl (by kernel_rfl) (by kernel_rfl) (by kernel_rfl) (fun _ _ _ h => h) (Or.inl ⟨by rfl, ?_⟩) hHeld ?_
        case refine_2 => (intro w hSw; (try dsimp only at hSw); go_simp; try (with_reducible rfl))
        (try simp only [gs])
        refine wpAnyH_take (i := 2) (v := ?_) rfl (by kernel_rfl) (by kernel_rfl) (by kernel_rfl) (fun _ _ _ h => h) (Or.inl ⟨by rfl, ?_⟩) hHeld ?_
        case refine_2 => (intro w hSw; (try dsimp only at hSw); go_simp; try (with_reducible rfl))
        (try simp only [gs])
        refine wpAnyH_take (i := 3) (v := ?_) rfl (by kernel_rfl) (by kernel_rfl) (by kernel_rfl) (fun _ _ _ h => h) (Or.inl ⟨by rfl, ?_⟩) hHeld ?_
        case refine_2 => (intro w hSw; (try dsimp only at hSw); go_simp; try (with_reducible rfl))
        (try simp only [gs])
        refine wpAnyH_take (i := 4) (v := .bool true) rfl (by kernel_rfl) (by kernel_rfl) (by kernel_rfl) (fun _ _ _ h => h) (Or.inl ⟨by rfl, ?_⟩) hHeld ?_
        case refine_1 => (intro w hSw; (try dsimp only at hSw); go_simp; first | done | rfl)
        (try simp only [gs])
        refine wpAnyH_take (i := 5) (v := ?_) rfl (by kernel_rfl) (by kernel_rfl) (by kernel_rfl) (fun _ _ _ h => h) (Or.inl ⟨by rfl, ?_⟩) hHeld ?_
        case refine_2 => (intro w hSw; (try dsimp only at hSw); go_simp; try (with_reducible rfl))
        (try simp only [gs])
        refine wpAnyH_take (i := 6) (v := ?_) rfl (by kernel_rfl) (by kernel_rfl) (by kernel_rfl) (fun _ _ _ h => h) (Or.inl ⟨by rfl, ?_⟩) hHeld ?_
        case refine_2 => (intro w hSw; (try dsimp only at hSw); go_simp; try (with_reducible rfl))
        (try simp only [gs])
        refine wpAnyH_take (i := 7) (v := ?_) rfl (by kernel_rfl) (by kernel_rfl) (by kernel_rfl) (fun _ _ _ h => h) (Or.inl ⟨by rfl, ?_⟩) hHeld ?_
        case refine_2 => (intro w hSw; (try dsimp only at hSw); go_simp; try (with_reducible rfl))
        (try simp only [gs])
        refine wpAnyH_take (i := 8) (v := ?_) rfl (by kernel_rfl) (by kernel_rfl) (by kernel_rfl) (fun _ _ _ h => h) (Or.inl ⟨by rfl, ?_⟩) hHeld ?_
        case refine_2 => (intro w hSw; (try dsimp only at hSw); go_simp; try (with_reducible rfl))
        (try simp only [gs])
        refine wpAnyH_take (i := 9) rfl (by kernel_rfl) (by kernel_rfl) (by kernel_rfl) (fun _ _ _ h => h) (yieldsIf_load_mid (by rfl) _ _ rfl _ _ rfl _ _ (fun _ h => HRK.out _ h) Tryz.underlying25 rfl (by rw [bc_length, HK.out]; exact Tryz.key_info)) hHeld ?_
        (try simp only [gs])
        refine wpAnyH_take (i := 10) rfl (by kernel_rfl) (by kernel_rfl) (by kernel_rfl) (fun _ _ _ h => h) (yieldsIf_load_mid (by rfl) _ _ rfl _ _ rfl _ _ (fun _ h => HCK.out _ h) Tryz.underlying25 rfl (by rw [bc_length, HC24.out]; exact Tryz.key_info)) hHeld ?_
        (try simp only [gs])
        refine wpAnyH_ready (rs := [11]) (by kernel_rfl) (by simp) (AllReadyH.cons rfl (fun K hK => ?_) AllReadyH.nil)
        rw [if_pos (by rfl)]
        (try simp only [gs])
        go_simp
        refine (tless_calls _ KJ KA HK.out HC24.out).mono ?_
        rintro e y1 ⟨rfl, b1⟩
        rw [hls]
        refine hK.out _ _ (hHeld.trans (b1.mono hHeld.size)) (fun g1 => ?_)
        clear hK K
        (try simp only [gs])
        refine wpAnyH_take (i := 12) (v := ?_) rfl (by kernel_rfl) (by kernel_rfl) (by kernel_rfl) (fun _ _ _ h => h) (Or.inl ⟨by rfl, ?_⟩) g1 ?_
        case refine_2 => (intro w hSw; (try dsimp only at hSw); go_simp; try (with_reducible rfl))
        (try simp only [gs])
        refine wpAnyH_done (by kernel_rfl) ?_ _
        refine NoPanic.normal ?_
        go_wp2_with fail
        go_ret
        exact ⟨rfl, HU.out.2.trans (g1.mono HU.out.2.size)⟩
end Go.Proofs.YtjhdnpplmlddaaaGreat
