import Derived.Test.YtkaoehmkmnkmaaaSi
import Derived.Test.YtkaoehmkmnkmaaaB27
import Derived.Test.YtkaoehmkmnkmaaaB28
import Derived.Test.YtkaoehmkmnkmaaaB29
/- ViewReads. -/
namespace Go.Proofs.Ytkaoehmkmnkmaaa
set_option linter.unusedVariables false
set_option maxRecDepth 100000
open Go.RowKit

/-- What ViewReads' walk holds. -/
structure RvAt (w0 : World) (lim p : Nat) (pv : Value) (m : List Pa) (q : Nat) (x : VR) (V : VS) (b : Nat) (K A : Kz) (s : Sp) (y : World) : Prop where
  at_ : VAt w0 lim (fun _ w => PlB lim w p pv m) 9 (.iface 40 (.pointer (some ⟨p, 0, none⟩))) q x V y
  bk : Has y b K.k
  bs : InB encS 25 y (b + 1) s
  ba : Has y (b + 2) A.k
  lt : b + 2 < lim
section
variable {w0 : World} {lim p : Nat} {pv : Value} {m : List Pa} {q : Nat} {x : VR} {V : VS} {b : Nat} {K A : Kz} {s : Sp} {y : World}
theorem RvAt.called (h : RvAt w0 lim p pv m q x V b K A s y) (hm : m.length ≤ 40) {y' : World} (bb : Below y.heap.size y y') : RvAt w0 lim p pv m q x V b K A s y' :=
  ⟨h.at_.called (plain_base lim p pv m (by omega)) bb, h.bk.below bb h.bk.lt, h.bs.below bb h.bs.lt, h.ba.below bb h.ba.lt, h.lt⟩
theorem RvAt.drew (h : RvAt w0 lim p pv m q x V b K A s y) (hm : m.length ≤ 40) : RvAt w0 lim p pv m q x V b K A s y.drew := h.called hm ⟨rfl, rfl, rfl, Nat.le_refl _, fun _ _ => rfl⟩
theorem RvAt.to (h : RvAt w0 lim p pv m q x V b K A s y) {V' : VS} {x' : VR} {y' : World} {k : Nat} (t : VTo noB w0 lim (fun _ w => PlB lim w p pv m) k (.iface 40 (.pointer (some ⟨p, 0, none⟩))) q x V' y x' y') : RvAt w0 lim p pv m q x' V' b K A s y' :=
  ⟨⟨t.at_.vw, t.at_.base, t.at_.own, t.at_.bel, t.at_.le, t.at_.limy⟩, ⟨K.h, (t.old h.at_ (by have := h.lt; omega) (fun e => e)).trans h.bk.blk⟩, h.bs.same (t.old h.at_ (by have := h.lt; omega) (fun e => e)), ⟨A.h, (t.old h.at_ h.lt (fun e => e)).trans h.ba.blk⟩, h.lt⟩
theorem RvAt.rk (h : RvAt w0 lim p pv m q x V b K A s y) : y.rangeAt b 0 (bc K.k) := fun j v hv => by
  rw [Nat.zero_add, cell_of_row _ _ _ _ _ _ h.bk.blk]
  simpa using hv
theorem RvAt.ra (h : RvAt w0 lim p pv m q x V b K A s y) : y.rangeAt (b + 2) 0 (bc A.k) := fun j v hv => by
  rw [Nat.zero_add, cell_of_row _ _ _ _ _ _ h.ba.blk]
  simpa using hv
end
theorem num_eq {A K : Kz} : decide (A = K) = decide ((num A.k : Int) = num K.k) := by
  rw [Bool.eq_iff_iff, decide_eq_true_eq, decide_eq_true_eq]
  exact ⟨fun h => by rw [h], fun h => Kz.same h⟩
theorem mem_one (K A : Kz) : mem [oneSp K] (num A.k) = decide (A = K) := by
  have h1 : mem [oneSp K] (num A.k) = (oneSp K).inb (num A.k) := by simp [mem]
  have h2 : (oneSp K).inb (num A.k) = inS (oneSp K).F (oneSp K).T (oneSp K).e A.k := (in_num (oneSp K) A.k A.h).symm
  rw [h1, h2, show inS (oneSp K).F (oneSp K).T (oneSp K).e A.k = inS K.k (oneT K.k) (oneE K.k) A.k from rfl, one_in K.k A.k K.h A.h, Bool.eq_iff_iff, beq_iff_eq, decide_eq_true_eq]
  exact ⟨fun e => ((Kz.eq_iff A K).2 e.symm), fun e => by rw [e]⟩
/-- The view behind the first Get. -/
def rdV (K : Kz) (first : Bool) : VS := if first then ⟨[⟨K.k, K.h, [120], false⟩], [], []⟩ else ⟨[], [oneSp K], []⟩
theorem rdV_mem (K A : Kz) (first : Bool) : mem (rdV K first).R (num A.k) = (decide (A = K) && !first) := by
  cases first with
  | true => simp [rdV, mem]
  | false => rw [show (rdV K false).R = [oneSp K] from rfl, mem_one]; simp
theorem rdV_scan (K A : Kz) (s : Sp) (first : Bool) : mem ((rdV K first).R ++ [s]) (num A.k) = (decide (A = K) && !first || s.inb (num A.k)) := by
  rw [mem_append, rdV_mem]
  simp [mem]
theorem rdV_get0 (K : Kz) : getW vs0 K = rdV K false := rfl
theorem rdV_put (K : Kz) : vs0.change ⟨K.k, K.h, [120], false⟩ = ⟨[⟨K.k, K.h, [120], false⟩], [], []⟩ := rfl
theorem rdV_get1 (K : Kz) : getW ⟨[⟨K.k, K.h, [120], false⟩], [], []⟩ K = rdV K true := by
  have e : look Ch.n [(⟨K.k, K.h, [120], false⟩ : Ch)] K.n = some ⟨K.k, K.h, [120], false⟩ := if_pos rfl
  unfold getW
  rw [show (⟨[⟨K.k, K.h, [120], false⟩], [], []⟩ : VS).C = [⟨K.k, K.h, [120], false⟩] from rfl, e]
  rfl
set_option maxRecDepth 100000 in
set_option maxHeartbeats 16000000 in
theorem viewReads_walk (w : World) (u : Value) (l : List Pa) (h : Sl encP w u l) (K : Kz) (s : Sp) (A : Kz) (first : Bool) :
    Calls Try.prog 5 #[u, kv K.k, spv s, kv A.k, .bool first] w fun e w' => e = .returned (.bool true) ∧ Below w.heap.size w w' := by
  have B0 : Below w.heap.size w (((w.alloc (.cells (bc K.k).toArray 23)).alloc (.cells (sc s.F s.T s.e).toArray 25)).alloc (.cells (bc A.k).toArray 23)) := (((Below.refl _ w).alloc (Nat.le_refl _) _).alloc (by simp) _).alloc (by simp; omega) _
  have HB0 : Hid (Below w.heap.size w (((w.alloc (.cells (bc K.k).toArray 23)).alloc (.cells (sc s.F s.T s.e).toArray 25)).alloc (.cells (bc A.k).toArray 23)) ∧ Has (((w.alloc (.cells (bc K.k).toArray 23)).alloc (.cells (sc s.F s.T s.e).toArray 25)).alloc (.cells (bc A.k).toArray 23)) w.heap.size K.k ∧ InB encS 25 (((w.alloc (.cells (bc K.k).toArray 23)).alloc (.cells (sc s.F s.T s.e).toArray 25)).alloc (.cells (bc A.k).toArray 23)) (w.heap.size + 1) s ∧ Has (((w.alloc (.cells (bc K.k).toArray 23)).alloc (.cells (sc s.F s.T s.e).toArray 25)).alloc (.cells (bc A.k).toArray 23)) (w.heap.size + 2) A.k) :=
    ⟨B0, ⟨K.h, ((Below.heap_alloc _ _ _ (by simp; omega)).trans (Below.heap_alloc _ _ _ (by simp))).trans (heap_alloc_new w _)⟩, (InB.new encS _ (w.alloc (.cells (bc K.k).toArray 23)) s (w.heap.size + 1) (by simp)).alloc _, by
      have := Has.new ((w.alloc (.cells (bc K.k).toArray 23)).alloc (.cells (sc s.F s.T s.e).toArray 25)) A.k A.h
      rwa [show ((w.alloc (.cells (bc K.k).toArray 23)).alloc (.cells (sc s.F s.T s.e).toArray 25)).heap.size = w.heap.size + 2 by simp] at this⟩
  have HU : Hid (Sl encP w u l) := h
  have HCK : Hid ((Try.prog.info? 23).map (·.size) = some 24) := Try.key_info
  have HKA : Hid ((bc A.k).length = 24) := (show _ = _ by rw [bc_length, A.h])
  have HKK : Hid ((bc K.k).length = 24) := (show _ = _ by rw [bc_length, K.h])
  clear B0 h
  go_enter Try.func5, Try.ntmps5
  go_upto_region 1 with fail
  generalize (((w.alloc (.cells (bc K.k).toArray 23)).alloc (.cells (sc s.F s.T s.e).toArray 25)).alloc (.cells (bc A.k).toArray 23)) = w1 at *
  have hsh := shown12_calls w1
  go_upto_region 2 with (go_at_call 6; refine hsh.mono ?_; clear hsh; rintro e x1 ⟨rfl, b1⟩)
  have hC := cutP_calls x1 u l ((Sl.called HU.out HB0.out.1).called b1)
  have HB1 : Hid (Below w1.heap.size w1 x1) := b1
  clear b1 HU
  go_upto_region 5 with (first
    | (go_at_call 7; refine hV.mono ?_; clear hV; rintro e x4 ⟨q, x, rfl, Av, hn, -, b4⟩)
    | (go_at_call 12; refine hN.mono ?_; clear hN; rintro e x3 ⟨p, pv, m, rfl, hp, -, hml, -, b3⟩
       have hm40 : m.length ≤ 40 := Nat.le_trans hml (cutP_len l)
       have HX3 : Hid (Below w1.heap.size w1 x3 ∧ Below w.heap.size w x3 ∧ m.length ≤ 40) := ⟨HB2.out.trans (b3.mono HB2.out.size), HB0.out.1.trans ((HB2.out.trans (b3.mono HB2.out.size)).mono HB0.out.1.size), hm40⟩
       have hV := VAt.new (plain_base x3.heap.size p pv m (by omega)) w x3 9 (PlB.of hp) HX3.out.2.1.size HX3.out.2.1
       clear hp hml b3 hm40)
    | (go_at_call 11; refine hC.mono ?_; clear hC; rintro e x2 ⟨uv, rfl, o2, b2⟩
       have hN := newPlain_calls x2 uv (cutP l) o2.slB (by have := cutP_len l; omega)
       have HB2 : Hid (Below w1.heap.size w1 x2) := HB1.out.trans (b2.mono HB1.out.size)
       clear b2 o2))
  have HR4 : Hid (RvAt w x3.heap.size p pv m q x vs0 w.heap.size K A s x4 ∧ x.n = 0 ∧ m.length ≤ 40) := by
    have h3 := HX3.out
    have h0 := HB0.out
    have hbb := h3.1.trans (b4.mono h3.1.size)
    exact ⟨⟨Av, h0.2.1.below hbb h0.2.1.lt, h0.2.2.1.below hbb h0.2.2.1.lt, h0.2.2.2.below hbb h0.2.2.2.lt, Nat.lt_of_lt_of_le h0.2.2.2.lt h3.1.size⟩, hn, h3.2.2⟩
  have HD : Hid (Baser x3.heap.size noB (fun _ w => PlB x3.heap.size w p pv m) (.iface 40 (.pointer (some ⟨p, 0, none⟩))) (plGe m) (fun s => (scanL s m, 0))) := plain_base _ p pv m (by have := HX3.out.2.2; omega)
  clear Av hn b4 HB0 HX3 HB2 HB1
  generalize w.heap.size = bb at *
  have HAK : Hid (∀ r, mem (rdV K first).R (num A.k) = r ↔ (decide (A = K) && !first) = r) := fun r => by rw [rdV_mem]
  cases first with
  | true =>
    have hkb := HR4.out.1.bk
    have hPu := HR4.out.1.at_.put HD.out (fun i h => h.elim) (by have := HR4.out.2.1; omega) ⟨K.k, K.h, [120], false⟩ rfl (show okV [120] = true by decide)
    rw [rdV_put] at hPu
    simp only at hPu
    rw [show str [120] = (⟨#[120]⟩ : ByteArray) from rfl] at hPu
    go_upto_region 7 with (first
      | (refine load_key _ rfl bb rfl rfl K.k hkb ?_)
      | (go_at_call 10; refine hPu.mono ?_; clear hPu; rintro e x5 ⟨rfl, r5, T5⟩))
    have HR5 : Hid (RvAt w x3.heap.size p pv m q r5 ⟨[⟨K.k, K.h, [120], false⟩], [], []⟩ bb K A s x5 ∧ r5.n ≤ 100 ∧ m.length ≤ 40) := ⟨HR4.out.1.to T5, by have := T5.n; have := HR4.out.2.1; omega, HR4.out.2.2⟩
    clear hkb T5 HR4
    have hkb := HR5.out.1.bk
    have hGe := HR5.out.1.at_.get HD.out (fun i h => h.elim) (by have := HR5.out.2.1; omega) K
    rw [rdV_get1] at hGe
    go_upto_region 8 with (first
      | (refine load_key _ rfl bb rfl rfl K.k hkb ?_)
      | (go_at_call 8; refine hGe.mono ?_; clear hGe; rintro e x6 ⟨rfl, T6⟩))
    have HR6 : Hid (RvAt w x3.heap.size p pv m q { r5 with n := r5.n + 1 } (rdV K true) bb K A s x6 ∧ r5.n + 1 ≤ 101 ∧ m.length ≤ 40) := ⟨HR5.out.1.to T6, by have := HR5.out.2.1; omega, HR5.out.2.2⟩
    clear hkb T6 HR5
    obtain ⟨X6, hX6⟩ : ∃ X6 : VR, X6 = { r5 with n := r5.n + 1 } := ⟨_, rfl⟩
    rw [← hX6] at HR6
    have HN6 : Hid (X6.n ≤ 101) := (show _ ≤ _ by rw [hX6]; exact HR6.out.2.1)
    clear hX6
    have HML : Hid (m.length ≤ 40) := HR6.out.2.2
    cases hak : decide (A = K) with
    | true =>
      have HEQ : Hid (∀ (f : Operand → Value) (o : Oper) (a b : Operand) (t' : TypeId), o.op = .binOp .eql 23 a b t' → f a = kv A.k → f b = kv K.k → ∀ w, (execOp f o).run Try.prog w = .ok (.value (.bool true)) w) := fun f o a b t' ho ha hb w => by
        have := exec_eq_K a b t' ho A K ha hb w
        rw [hak] at this
        exact this
      have HAKE : Hid (decide (A = K) = true) := hak
      have HMR : Hid (mem (rdV K true).R (num A.k) = false) := (show _ = _ by rw [rdV_mem, HAKE.out]; rfl)
      refine wp_region_noPanic ?_
      refine wp_region_held_drew (S := (fun y => RvAt w x3.heap.size p pv m q X6 (rdV K true) bb K A s y)) (by kernel_rfl) (HR6.out.1.drew HR6.out.2.2) (fun hHeld => ?_)
      refine wpAnyH_take (i := 0) (v := ?_) rfl (by kernel_rfl) (by kernel_rfl) (by kernel_rfl) (fun _ _ _ h => h) (Or.inl ⟨by rfl, ?_⟩) hHeld ?_
      case refine_2 => (intro w hSw; (try dsimp only at hSw); go_simp; try (with_reducible rfl))
      (try simp only [gs])
      refine wpAnyH_take (i := 2) rfl (by kernel_rfl) (by kernel_rfl) (by kernel_rfl) (fun _ _ _ h => h) (yieldsIf_load_mid (by rfl) _ _ rfl _ _ rfl _ _ (fun y h => RvAt.ra h) Try.underlying23 rfl (by rw [HKA.out]; exact HCK.out)) hHeld ?_
      (try simp only [gs])
      refine wpAnyH_take (i := 4) rfl (by kernel_rfl) (by kernel_rfl) (by kernel_rfl) (fun _ _ _ h => h) (yieldsIf_load_mid (by rfl) _ _ rfl _ _ rfl _ _ (fun y h => RvAt.ra h) Try.underlying23 rfl (by rw [HKA.out]; exact HCK.out)) hHeld ?_
      (try simp only [gs])
      refine wpAnyH_take (i := 5) rfl (by kernel_rfl) (by kernel_rfl) (by kernel_rfl) (fun _ _ _ h => h) (yieldsIf_load_mid (by rfl) _ _ rfl _ _ rfl _ _ (fun y h => RvAt.rk h) Try.underlying23 rfl (by rw [HKK.out]; exact HCK.out)) hHeld ?_
      (try simp only [gs])
      refine wpAnyH_take (i := 6) (v := .bool true) rfl (by kernel_rfl) (by kernel_rfl) (by kernel_rfl) (fun _ _ _ h => h) (Or.inl ⟨by rfl, fun w _ => HEQ.out _ _ _ _ _ rfl rfl rfl w⟩) hHeld ?_
      (try simp only [gs])
      generalize x6.drew = y1 at *
      refine wpAnyH_ready (rs := [1]) (by kernel_rfl) (by simp) (AllReadyH.cons rfl (fun K0 hK => ?_) AllReadyH.nil)
      rw [if_pos (by rfl)]
      (try simp only [gs])
      go_simp
      refine (vreads_at hHeld.at_ (show X6.n ≤ 50000 by have := HN6.out; omega)).mono ?_
      rintro e y2 ⟨vr, RR, rfl, o2, b2, i2, -⟩
      have hh := rhas_calls y2 vr RR o2.slB A.k A.h
      rw [i2.2 A.k A.h, HMR.out] at hh
      obtain ⟨adr, capr, rfl, -, -, -, -⟩ := id o2.slB
      refine hK.out _ _ (hHeld.called HML.out b2) (fun g1 => ?_)
      clear hK K0 i2
      (try simp only [gs])
      refine wpAnyH_ready (rs := [3]) (by kernel_rfl) (by simp) (AllReadyH.cons rfl (fun K0 hK => ?_) AllReadyH.nil)
      rw [if_pos (by rfl)]
      (try simp only [gs])
      go_simp
      refine hh.mono ?_
      clear hh
      rintro e y3 ⟨rfl, b3⟩
      refine hK.out _ _ (g1.called HML.out b3) (fun g2 => ?_)
      clear hK K0
      (try simp only [gs])
      refine wpAnyH_take (i := 7) (v := .bool true) rfl (by kernel_rfl) (by kernel_rfl) (by kernel_rfl) (fun _ _ _ h => h) (Or.inl ⟨by rfl, ?_⟩) g2 ?_
      case refine_1 => (intro w hSw; (try dsimp only at hSw); go_simp; first | done | rfl)
      (try simp only [gs])
      refine wpAnyH_take (i := 8) (v := .bool true) rfl (by kernel_rfl) (by kernel_rfl) (by kernel_rfl) (fun _ _ _ h => h) (Or.inl ⟨by rfl, ?_⟩) g2 ?_
      case refine_1 => (intro w hSw; (try dsimp only at hSw); go_simp; first | done | rfl)
      (try simp only [gs])
      refine wpAnyH_take (i := 9) (v := .bool false) rfl (by kernel_rfl) (by kernel_rfl) (by kernel_rfl) (fun _ _ _ h => h) (Or.inl ⟨by rfl, ?_⟩) g2 ?_
      case refine_1 => (intro w hSw; (try dsimp only at hSw); go_simp; first | done | rfl)
      (try simp only [gs])
      refine wpAnyH_take (i := 10) (v := .bool false) rfl (by kernel_rfl) (by kernel_rfl) (by kernel_rfl) (fun _ _ _ h => h) (Or.inl ⟨by rfl, ?_⟩) g2 ?_
      case refine_1 => (intro w hSw; (try dsimp only at hSw); go_simp; first | done | rfl)
      (try simp only [gs])
      refine wpAnyH_take (i := 11) (v := .bool true) rfl (by kernel_rfl) (by kernel_rfl) (by kernel_rfl) (fun _ _ _ h => h) (Or.inl ⟨by rfl, ?_⟩) g2 ?_
      case refine_1 => (intro w hSw; (try dsimp only at hSw); go_simp; first | done | rfl)
      (try simp only [gs])
      refine wpAnyH_take (i := 12) (v := .bool true) rfl (by kernel_rfl) (by kernel_rfl) (by kernel_rfl) (fun _ _ _ h => h) (Or.inl ⟨by rfl, ?_⟩) g2 ?_
      case refine_1 => (intro w hSw; (try dsimp only at hSw); go_simp; first | done | rfl)
      (try simp only [gs])
      refine wpAnyH_done (by kernel_rfl) ?_ _
      refine NoPanic.normal ?_
      have HR7 : Hid (RvAt w x3.heap.size p pv m q X6 (rdV K true) bb K A s y3 ∧ m.length ≤ 40) := ⟨g2, HR6.out.2.2⟩
      clear g2 g1 hHeld b2 b3 HR6 HMR o2
      clear hak
      have hsb := HR7.out.1.bs.range
      have hSc := HR7.out.1.at_.scan HD.out (fun i h => h.elim) (by have := HN6.out; omega) s
      go_upto_region 10 with (first
        | (refine load_el elS _ rfl (bb + 1) 0 rfl rfl s hsb ?_)
        | (go_at_call 9; refine hSc.mono ?_; clear hSc; rintro e x8 ⟨ad, cap, rfl, -, T8⟩))
      have HR8 : Hid (RvAt w x3.heap.size p pv m q { X6 with n := X6.n + 1 } { rdV K true with R := (rdV K true).R ++ [s] } bb K A s x8) := HR7.out.1.to T8
      have HN9 : Hid (X6.n + 1 ≤ 102) := (show _ ≤ _ by have := HN6.out; omega)
      clear hsb T8 HR7
      have hsb := HR8.out.bs.range
      have hab := HR8.out.ba
      have hIn := rin_calls x8 s.F s.T s.e A.k s.hF s.hT A.h
      rw [in_num s A.k A.h] at hIn
      go_upto_region 11 with (first
        | (refine load_el elS _ rfl (bb + 1) 0 rfl rfl s hsb ?_)
        | (refine load_key _ rfl (bb + 2) rfl rfl A.k hab ?_)
        | (go_at_call 18; refine hIn.mono ?_; clear hIn; rintro e x9 ⟨rfl, b9⟩))
      have HR9 : Hid (RvAt w x3.heap.size p pv m q { X6 with n := X6.n + 1 } { rdV K true with R := (rdV K true).R ++ [s] } bb K A s x9 ∧ m.length ≤ 40) := ⟨HR8.out.called HML.out b9, HML.out⟩
      clear hsb hab b9 HR8
      cases hib : s.inb (num A.k) with
      | true =>
        have HIB : Hid (s.inb (num A.k) = true) := hib
        clear hib
        have HMR : Hid (mem ({ rdV K true with R := (rdV K true).R ++ [s] } : VS).R (num A.k) = true) := (show _ = _ by show mem ((rdV K true).R ++ [s]) (num A.k) = _; rw [rdV_scan, HAKE.out, HIB.out]; rfl)
        refine wp_region_noPanic ?_
        refine wp_region_held_drew (S := (fun y => RvAt w x3.heap.size p pv m q { X6 with n := X6.n + 1 } { rdV K true with R := (rdV K true).R ++ [s] } bb K A s y)) (by kernel_rfl) (HR9.out.1.drew HML.out) (fun hHeld => ?_)
        refine wpAnyH_take (i := 0) (v := ?_) rfl (by kernel_rfl) (by kernel_rfl) (by kernel_rfl) (fun _ _ _ h => h) (Or.inl ⟨by rfl, ?_⟩) hHeld ?_
        case refine_2 => (intro w hSw; (try dsimp only at hSw); go_simp; try (with_reducible rfl))
        (try simp only [gs])
        refine wpAnyH_take (i := 2) rfl (by kernel_rfl) (by kernel_rfl) (by kernel_rfl) (fun _ _ _ h => h) (yieldsIf_load_mid (by rfl) _ _ rfl _ _ rfl _ _ (fun y h => RvAt.ra h) Try.underlying23 rfl (by rw [HKA.out]; exact HCK.out)) hHeld ?_
        (try simp only [gs])
        refine wpAnyH_take (i := 4) rfl (by kernel_rfl) (by kernel_rfl) (by kernel_rfl) (fun _ _ _ h => h) (yieldsIf_load_mid (by rfl) _ _ rfl _ _ rfl _ _ (fun y h => RvAt.ra h) Try.underlying23 rfl (by rw [HKA.out]; exact HCK.out)) hHeld ?_
        (try simp only [gs])
        refine wpAnyH_take (i := 5) rfl (by kernel_rfl) (by kernel_rfl) (by kernel_rfl) (fun _ _ _ h => h) (yieldsIf_load_mid (by rfl) _ _ rfl _ _ rfl _ _ (fun y h => RvAt.rk h) Try.underlying23 rfl (by rw [HKK.out]; exact HCK.out)) hHeld ?_
        (try simp only [gs])
        refine wpAnyH_take (i := 6) (v := .bool true) rfl (by kernel_rfl) (by kernel_rfl) (by kernel_rfl) (fun _ _ _ h => h) (Or.inl ⟨by rfl, fun w _ => HEQ.out _ _ _ _ _ rfl rfl rfl w⟩) hHeld ?_
        (try simp only [gs])
        generalize x9.drew = y1 at *
        refine wpAnyH_ready (rs := [1]) (by kernel_rfl) (by simp) (AllReadyH.cons rfl (fun K0 hK => ?_) AllReadyH.nil)
        rw [if_pos (by rfl)]
        (try simp only [gs])
        go_simp
        refine (vreads_at hHeld.at_ (show X6.n + 1 ≤ 50000 by have := HN9.out; omega)).mono ?_
        rintro e y2 ⟨vr, RR, rfl, o2, b2, i2, -⟩
        have hh := rhas_calls y2 vr RR o2.slB A.k A.h
        rw [i2.2 A.k A.h, HMR.out] at hh
        obtain ⟨adr, capr, rfl, -, -, -, -⟩ := id o2.slB
        refine hK.out _ _ (hHeld.called HML.out b2) (fun g1 => ?_)
        clear hK K0 i2
        (try simp only [gs])
        refine wpAnyH_ready (rs := [3]) (by kernel_rfl) (by simp) (AllReadyH.cons rfl (fun K0 hK => ?_) AllReadyH.nil)
        rw [if_pos (by rfl)]
        (try simp only [gs])
        go_simp
        refine hh.mono ?_
        clear hh
        rintro e y3 ⟨rfl, b3⟩
        refine hK.out _ _ (g1.called HML.out b3) (fun g2 => ?_)
        clear hK K0
        (try simp only [gs])
        refine wpAnyH_take (i := 7) (v := .bool true) rfl (by kernel_rfl) (by kernel_rfl) (by kernel_rfl) (fun _ _ _ h => h) (Or.inl ⟨by rfl, ?_⟩) g2 ?_
        case refine_1 => (intro w hSw; (try dsimp only at hSw); go_simp; first | done | rfl)
        (try simp only [gs])
        refine wpAnyH_take (i := 8) (v := .bool true) rfl (by kernel_rfl) (by kernel_rfl) (by kernel_rfl) (fun _ _ _ h => h) (Or.inl ⟨by rfl, ?_⟩) g2 ?_
        case refine_1 => (intro w hSw; (try dsimp only at hSw); go_simp; first | done | rfl)
        (try simp only [gs])
        refine wpAnyH_take (i := 9) (v := .bool false) rfl (by kernel_rfl) (by kernel_rfl) (by kernel_rfl) (fun _ _ _ h => h) (Or.inl ⟨by rfl, ?_⟩) g2 ?_
        case refine_1 => (intro w hSw; (try dsimp only at hSw); go_simp; first | done | rfl)
        (try simp only [gs])
        refine wpAnyH_take (i := 10) (v := .bool false) rfl (by kernel_rfl) (by kernel_rfl) (by kernel_rfl) (fun _ _ _ h => h) (Or.inl ⟨by rfl, ?_⟩) g2 ?_
        case refine_1 => (intro w hSw; (try dsimp only at hSw); go_simp; first | done | rfl)
        (try simp only [gs])
        refine wpAnyH_take (i := 11) (v := .bool false) rfl (by kernel_rfl) (by kernel_rfl) (by kernel_rfl) (fun _ _ _ h => h) (Or.inl ⟨by rfl, ?_⟩) g2 ?_
        case refine_1 => (intro w hSw; (try dsimp only at hSw); go_simp; first | done | rfl)
        (try simp only [gs])
        refine wpAnyH_take (i := 12) (v := .bool true) rfl (by kernel_rfl) (by kernel_rfl) (by kernel_rfl) (fun _ _ _ h => h) (Or.inl ⟨by rfl, ?_⟩) g2 ?_
        case refine_1 => (intro w hSw; (try dsimp only at hSw); go_simp; first | done | rfl)
        (try simp only [gs])
        refine wpAnyH_take (i := 13) (v := .bool true) rfl (by kernel_rfl) (by kernel_rfl) (by kernel_rfl) (fun _ _ _ h => h) (Or.inl ⟨by rfl, ?_⟩) g2 ?_
        case refine_1 => (intro w hSw; (try dsimp only at hSw); go_simp; first | done | rfl)
        (try simp only [gs])
        refine wpAnyH_take (i := 14) (v := .bool true) rfl (by kernel_rfl) (by kernel_rfl) (by kernel_rfl) (fun _ _ _ h => h) (Or.inl ⟨by rfl, ?_⟩) g2 ?_
        case refine_1 => (intro w hSw; (try dsimp only at hSw); go_simp; first | done | rfl)
        (try simp only [gs])
        refine wpAnyH_take (i := 15) (v := .bool true) rfl (by kernel_rfl) (by kernel_rfl) (by kernel_rfl) (fun _ _ _ h => h) (Or.inl ⟨by rfl, ?_⟩) g2 ?_
        case refine_1 => (intro w hSw; (try dsimp only at hSw); go_simp; first | done | rfl)
        (try simp only [gs])
        refine wpAnyH_done (by kernel_rfl) ?_ _
        refine NoPanic.normal ?_
        have HR10 : Hid (Below w.heap.size w y3) := g2.at_.bel
        clear g2 g1 hHeld b2 b3 HR9 HMR o2
        go_wp2_with fail
        go_ret
        exact ⟨rfl, HR10.out⟩
      | false =>
        have HIB : Hid (s.inb (num A.k) = false) := hib
        clear hib
        have HMR : Hid (mem ({ rdV K true with R := (rdV K true).R ++ [s] } : VS).R (num A.k) = false) := (show _ = _ by show mem ((rdV K true).R ++ [s]) (num A.k) = _; rw [rdV_scan, HAKE.out, HIB.out]; rfl)
        refine wp_region_noPanic ?_
        refine wp_region_held_drew (S := (fun y => RvAt w x3.heap.size p pv m q { X6 with n := X6.n + 1 } { rdV K true with R := (rdV K true).R ++ [s] } bb K A s y)) (by kernel_rfl) (HR9.out.1.drew HML.out) (fun hHeld => ?_)
        refine wpAnyH_take (i := 0) (v := ?_) rfl (by kernel_rfl) (by kernel_rfl) (by kernel_rfl) (fun _ _ _ h => h) (Or.inl ⟨by rfl, ?_⟩) hHeld ?_
        case refine_2 => (intro w hSw; (try dsimp only at hSw); go_simp; try (with_reducible rfl))
        (try simp only [gs])
        refine wpAnyH_take (i := 2) rfl (by kernel_rfl) (by kernel_rfl) (by kernel_rfl) (fun _ _ _ h => h) (yieldsIf_load_mid (by rfl) _ _ rfl _ _ rfl _ _ (fun y h => RvAt.ra h) Try.underlying23 rfl (by rw [HKA.out]; exact HCK.out)) hHeld ?_
        (try simp only [gs])
        refine wpAnyH_take (i := 4) rfl (by kernel_rfl) (by kernel_rfl) (by kernel_rfl) (fun _ _ _ h => h) (yieldsIf_load_mid (by rfl) _ _ rfl _ _ rfl _ _ (fun y h => RvAt.ra h) Try.underlying23 rfl (by rw [HKA.out]; exact HCK.out)) hHeld ?_
        (try simp only [gs])
        refine wpAnyH_take (i := 5) rfl (by kernel_rfl) (by kernel_rfl) (by kernel_rfl) (fun _ _ _ h => h) (yieldsIf_load_mid (by rfl) _ _ rfl _ _ rfl _ _ (fun y h => RvAt.rk h) Try.underlying23 rfl (by rw [HKK.out]; exact HCK.out)) hHeld ?_
        (try simp only [gs])
        refine wpAnyH_take (i := 6) (v := .bool true) rfl (by kernel_rfl) (by kernel_rfl) (by kernel_rfl) (fun _ _ _ h => h) (Or.inl ⟨by rfl, fun w _ => HEQ.out _ _ _ _ _ rfl rfl rfl w⟩) hHeld ?_
        (try simp only [gs])
        generalize x9.drew = y1 at *
        refine wpAnyH_ready (rs := [1]) (by kernel_rfl) (by simp) (AllReadyH.cons rfl (fun K0 hK => ?_) AllReadyH.nil)
        rw [if_pos (by rfl)]
        (try simp only [gs])
        go_simp
        refine (vreads_at hHeld.at_ (show X6.n + 1 ≤ 50000 by have := HN9.out; omega)).mono ?_
        rintro e y2 ⟨vr, RR, rfl, o2, b2, i2, -⟩
        have hh := rhas_calls y2 vr RR o2.slB A.k A.h
        rw [i2.2 A.k A.h, HMR.out] at hh
        obtain ⟨adr, capr, rfl, -, -, -, -⟩ := id o2.slB
        refine hK.out _ _ (hHeld.called HML.out b2) (fun g1 => ?_)
        clear hK K0 i2
        (try simp only [gs])
        refine wpAnyH_ready (rs := [3]) (by kernel_rfl) (by simp) (AllReadyH.cons rfl (fun K0 hK => ?_) AllReadyH.nil)
        rw [if_pos (by rfl)]
        (try simp only [gs])
        go_simp
        refine hh.mono ?_
        clear hh
        rintro e y3 ⟨rfl, b3⟩
        refine hK.out _ _ (g1.called HML.out b3) (fun g2 => ?_)
        clear hK K0
        (try simp only [gs])
        refine wpAnyH_take (i := 7) (v := .bool true) rfl (by kernel_rfl) (by kernel_rfl) (by kernel_rfl) (fun _ _ _ h => h) (Or.inl ⟨by rfl, ?_⟩) g2 ?_
        case refine_1 => (intro w hSw; (try dsimp only at hSw); go_simp; first | done | rfl)
        (try simp only [gs])
        refine wpAnyH_take (i := 8) (v := .bool true) rfl (by kernel_rfl) (by kernel_rfl) (by kernel_rfl) (fun _ _ _ h => h) (Or.inl ⟨by rfl, ?_⟩) g2 ?_
        case refine_1 => (intro w hSw; (try dsimp only at hSw); go_simp; first | done | rfl)
        (try simp only [gs])
        refine wpAnyH_take (i := 9) (v := .bool false) rfl (by kernel_rfl) (by kernel_rfl) (by kernel_rfl) (fun _ _ _ h => h) (Or.inl ⟨by rfl, ?_⟩) g2 ?_
        case refine_1 => (intro w hSw; (try dsimp only at hSw); go_simp; first | done | rfl)
        (try simp only [gs])
        refine wpAnyH_take (i := 10) (v := .bool false) rfl (by kernel_rfl) (by kernel_rfl) (by kernel_rfl) (fun _ _ _ h => h) (Or.inl ⟨by rfl, ?_⟩) g2 ?_
        case refine_1 => (intro w hSw; (try dsimp only at hSw); go_simp; first | done | rfl)
        (try simp only [gs])
        refine wpAnyH_take (i := 11) (v := .bool false) rfl (by kernel_rfl) (by kernel_rfl) (by kernel_rfl) (fun _ _ _ h => h) (Or.inl ⟨by rfl, ?_⟩) g2 ?_
        case refine_1 => (intro w hSw; (try dsimp only at hSw); go_simp; first | done | rfl)
        (try simp only [gs])
        refine wpAnyH_take (i := 12) (v := .bool false) rfl (by kernel_rfl) (by kernel_rfl) (by kernel_rfl) (fun _ _ _ h => h) (Or.inl ⟨by rfl, ?_⟩) g2 ?_
        case refine_1 => (intro w hSw; (try dsimp only at hSw); go_simp; first | done | rfl)
        (try simp only [gs])
        refine wpAnyH_take (i := 13) (v := .bool false) rfl (by kernel_rfl) (by kernel_rfl) (by kernel_rfl) (fun _ _ _ h => h) (Or.inl ⟨by rfl, ?_⟩) g2 ?_
        case refine_1 => (intro w hSw; (try dsimp only at hSw); go_simp; first | done | rfl)
        (try simp only [gs])
        refine wpAnyH_take (i := 14) (v := .bool true) rfl (by kernel_rfl) (by kernel_rfl) (by kernel_rfl) (fun _ _ _ h => h) (Or.inl ⟨by rfl, ?_⟩) g2 ?_
        case refine_1 => (intro w hSw; (try dsimp only at hSw); go_simp; first | done | rfl)
        (try simp only [gs])
        refine wpAnyH_take (i := 15) (v := .bool true) rfl (by kernel_rfl) (by kernel_rfl) (by kernel_rfl) (fun _ _ _ h => h) (Or.inl ⟨by rfl, ?_⟩) g2 ?_
        case refine_1 => (intro w hSw; (try dsimp only at hSw); go_simp; first | done | rfl)
        (try simp only [gs])
        refine wpAnyH_done (by kernel_rfl) ?_ _
        refine NoPanic.normal ?_
        have HR10 : Hid (Below w.heap.size w y3) := g2.at_.bel
        clear g2 g1 hHeld b2 b3 HR9 HMR o2
        go_wp2_with fail
        go_ret
        exact ⟨rfl, HR10.out⟩
    | false =>
      have HEQ : Hid (∀ (f : Operand → Value) (o : Oper) (a b : Operand) (t' : TypeId), o.op = .binOp .eql 23 a b t' → f a = kv A.k → f b = kv K.k → ∀ w, (execOp f o).run Try.prog w = .ok (.value (.bool false)) w) := fun f o a b t' ho ha hb w => by
        have := exec_eq_K a b t' ho A K ha hb w
        rw [hak] at this
        exact this
      have HAKE : Hid (decide (A = K) = false) := hak
      have HMR : Hid (mem (rdV K true).R (num A.k) = false) := (show _ = _ by rw [rdV_mem, HAKE.out]; rfl)
      refine wp_region_noPanic ?_
      refine wp_region_held_drew (S := (fun y => RvAt w x3.heap.size p pv m q X6 (rdV K true) bb K A s y)) (by kernel_rfl) (HR6.out.1.drew HR6.out.2.2) (fun hHeld => ?_)
      refine wpAnyH_take (i := 0) (v := ?_) rfl (by kernel_rfl) (by kernel_rfl) (by kernel_rfl) (fun _ _ _ h => h) (Or.inl ⟨by rfl, ?_⟩) hHeld ?_
      case refine_2 => (intro w hSw; (try dsimp only at hSw); go_simp; try (with_reducible rfl))
      (try simp only [gs])
      refine wpAnyH_take (i := 2) rfl (by kernel_rfl) (by kernel_rfl) (by kernel_rfl) (fun _ _ _ h => h) (yieldsIf_load_mid (by rfl) _ _ rfl _ _ rfl _ _ (fun y h => RvAt.ra h) Try.underlying23 rfl (by rw [HKA.out]; exact HCK.out)) hHeld ?_
      (try simp only [gs])
      refine wpAnyH_take (i := 4) rfl (by kernel_rfl) (by kernel_rfl) (by kernel_rfl) (fun _ _ _ h => h) (yieldsIf_load_mid (by rfl) _ _ rfl _ _ rfl _ _ (fun y h => RvAt.ra h) Try.underlying23 rfl (by rw [HKA.out]; exact HCK.out)) hHeld ?_
      (try simp only [gs])
      refine wpAnyH_take (i := 5) rfl (by kernel_rfl) (by kernel_rfl) (by kernel_rfl) (fun _ _ _ h => h) (yieldsIf_load_mid (by rfl) _ _ rfl _ _ rfl _ _ (fun y h => RvAt.rk h) Try.underlying23 rfl (by rw [HKK.out]; exact HCK.out)) hHeld ?_
      (try simp only [gs])
      refine wpAnyH_take (i := 6) (v := .bool false) rfl (by kernel_rfl) (by kernel_rfl) (by kernel_rfl) (fun _ _ _ h => h) (Or.inl ⟨by rfl, fun w _ => HEQ.out _ _ _ _ _ rfl rfl rfl w⟩) hHeld ?_
      (try simp only [gs])
      generalize x6.drew = y1 at *
      refine wpAnyH_ready (rs := [1]) (by kernel_rfl) (by simp) (AllReadyH.cons rfl (fun K0 hK => ?_) AllReadyH.nil)
      rw [if_pos (by rfl)]
      (try simp only [gs])
      go_simp
      refine (vreads_at hHeld.at_ (show X6.n ≤ 50000 by have := HN6.out; omega)).mono ?_
      rintro e y2 ⟨vr, RR, rfl, o2, b2, i2, -⟩
      have hh := rhas_calls y2 vr RR o2.slB A.k A.h
      rw [i2.2 A.k A.h, HMR.out] at hh
      obtain ⟨adr, capr, rfl, -, -, -, -⟩ := id o2.slB
      refine hK.out _ _ (hHeld.called HML.out b2) (fun g1 => ?_)
      clear hK K0 i2
      (try simp only [gs])
      refine wpAnyH_ready (rs := [3]) (by kernel_rfl) (by simp) (AllReadyH.cons rfl (fun K0 hK => ?_) AllReadyH.nil)
      rw [if_pos (by rfl)]
      (try simp only [gs])
      go_simp
      refine hh.mono ?_
      clear hh
      rintro e y3 ⟨rfl, b3⟩
      refine hK.out _ _ (g1.called HML.out b3) (fun g2 => ?_)
      clear hK K0
      (try simp only [gs])
      refine wpAnyH_take (i := 7) (v := .bool false) rfl (by kernel_rfl) (by kernel_rfl) (by kernel_rfl) (fun _ _ _ h => h) (Or.inl ⟨by rfl, ?_⟩) g2 ?_
      case refine_1 => (intro w hSw; (try dsimp only at hSw); go_simp; first | done | rfl)
      (try simp only [gs])
      refine wpAnyH_take (i := 8) (v := undef) rfl (by kernel_rfl) (by kernel_rfl) (by kernel_rfl) (fun _ _ _ h => h) (Or.inr ⟨by rfl, rfl⟩) g2 ?_
      (try simp only [gs])
      refine wpAnyH_take (i := 9) (v := undef) rfl (by kernel_rfl) (by kernel_rfl) (by kernel_rfl) (fun _ _ _ h => h) (Or.inr ⟨by rfl, rfl⟩) g2 ?_
      (try simp only [gs])
      refine wpAnyH_take (i := 10) (v := .bool false) rfl (by kernel_rfl) (by kernel_rfl) (by kernel_rfl) (fun _ _ _ h => h) (Or.inl ⟨by rfl, ?_⟩) g2 ?_
      case refine_1 => (intro w hSw; (try dsimp only at hSw); go_simp; first | done | rfl)
      (try simp only [gs])
      refine wpAnyH_take (i := 11) (v := .bool true) rfl (by kernel_rfl) (by kernel_rfl) (by kernel_rfl) (fun _ _ _ h => h) (Or.inl ⟨by rfl, ?_⟩) g2 ?_
      case refine_1 => (intro w hSw; (try dsimp only at hSw); go_simp; first | done | rfl)
      (try simp only [gs])
      refine wpAnyH_take (i := 12) (v := .bool true) rfl (by kernel_rfl) (by kernel_rfl) (by kernel_rfl) (fun _ _ _ h => h) (Or.inl ⟨by rfl, ?_⟩) g2 ?_
      case refine_1 => (intro w hSw; (try dsimp only at hSw); go_simp; first | done | rfl)
      (try simp only [gs])
      refine wpAnyH_done (by kernel_rfl) ?_ _
      refine NoPanic.normal ?_
      have HR7 : Hid (RvAt w x3.heap.size p pv m q X6 (rdV K true) bb K A s y3 ∧ m.length ≤ 40) := ⟨g2, HR6.out.2.2⟩
      clear g2 g1 hHeld b2 b3 HR6 HMR o2
      clear hak
      have hsb := HR7.out.1.bs.range
      have hSc := HR7.out.1.at_.scan HD.out (fun i h => h.elim) (by have := HN6.out; omega) s
      go_upto_region 10 with (first
        | (refine load_el elS _ rfl (bb + 1) 0 rfl rfl s hsb ?_)
        | (go_at_call 9; refine hSc.mono ?_; clear hSc; rintro e x8 ⟨ad, cap, rfl, -, T8⟩))
      have HR8 : Hid (RvAt w x3.heap.size p pv m q { X6 with n := X6.n + 1 } { rdV K true with R := (rdV K true).R ++ [s] } bb K A s x8) := HR7.out.1.to T8
      have HN9 : Hid (X6.n + 1 ≤ 102) := (show _ ≤ _ by have := HN6.out; omega)
      clear hsb T8 HR7
      have hsb := HR8.out.bs.range
      have hab := HR8.out.ba
      have hIn := rin_calls x8 s.F s.T s.e A.k s.hF s.hT A.h
      rw [in_num s A.k A.h] at hIn
      go_upto_region 11 with (first
        | (refine load_el elS _ rfl (bb + 1) 0 rfl rfl s hsb ?_)
        | (refine load_key _ rfl (bb + 2) rfl rfl A.k hab ?_)
        | (go_at_call 18; refine hIn.mono ?_; clear hIn; rintro e x9 ⟨rfl, b9⟩))
      have HR9 : Hid (RvAt w x3.heap.size p pv m q { X6 with n := X6.n + 1 } { rdV K true with R := (rdV K true).R ++ [s] } bb K A s x9 ∧ m.length ≤ 40) := ⟨HR8.out.called HML.out b9, HML.out⟩
      clear hsb hab b9 HR8
      cases hib : s.inb (num A.k) with
      | true =>
        have HIB : Hid (s.inb (num A.k) = true) := hib
        clear hib
        have HMR : Hid (mem ({ rdV K true with R := (rdV K true).R ++ [s] } : VS).R (num A.k) = true) := (show _ = _ by show mem ((rdV K true).R ++ [s]) (num A.k) = _; rw [rdV_scan, HAKE.out, HIB.out]; rfl)
        refine wp_region_noPanic ?_
        refine wp_region_held_drew (S := (fun y => RvAt w x3.heap.size p pv m q { X6 with n := X6.n + 1 } { rdV K true with R := (rdV K true).R ++ [s] } bb K A s y)) (by kernel_rfl) (HR9.out.1.drew HML.out) (fun hHeld => ?_)
        refine wpAnyH_take (i := 0) (v := ?_) rfl (by kernel_rfl) (by kernel_rfl) (by kernel_rfl) (fun _ _ _ h => h) (Or.inl ⟨by rfl, ?_⟩) hHeld ?_
        case refine_2 => (intro w hSw; (try dsimp only at hSw); go_simp; try (with_reducible rfl))
        (try simp only [gs])
        refine wpAnyH_take (i := 2) rfl (by kernel_rfl) (by kernel_rfl) (by kernel_rfl) (fun _ _ _ h => h) (yieldsIf_load_mid (by rfl) _ _ rfl _ _ rfl _ _ (fun y h => RvAt.ra h) Try.underlying23 rfl (by rw [HKA.out]; exact HCK.out)) hHeld ?_
        (try simp only [gs])
        refine wpAnyH_take (i := 4) rfl (by kernel_rfl) (by kernel_rfl) (by kernel_rfl) (fun _ _ _ h => h) (yieldsIf_load_mid (by rfl) _ _ rfl _ _ rfl _ _ (fun y h => RvAt.ra h) Try.underlying23 rfl (by rw [HKA.out]; exact HCK.out)) hHeld ?_
        (try simp only [gs])
        refine wpAnyH_take (i := 5) rfl (by kernel_rfl) (by kernel_rfl) (by kernel_rfl) (fun _ _ _ h => h) (yieldsIf_load_mid (by rfl) _ _ rfl _ _ rfl _ _ (fun y h => RvAt.rk h) Try.underlying23 rfl (by rw [HKK.out]; exact HCK.out)) hHeld ?_
        (try simp only [gs])
        refine wpAnyH_take (i := 6) (v := .bool false) rfl (by kernel_rfl) (by kernel_rfl) (by kernel_rfl) (fun _ _ _ h => h) (Or.inl ⟨by rfl, fun w _ => HEQ.out _ _ _ _ _ rfl rfl rfl w⟩) hHeld ?_
        (try simp only [gs])
        generalize x9.drew = y1 at *
        refine wpAnyH_ready (rs := [1]) (by kernel_rfl) (by simp) (AllReadyH.cons rfl (fun K0 hK => ?_) AllReadyH.nil)
        rw [if_pos (by rfl)]
        (try simp only [gs])
        go_simp
        refine (vreads_at hHeld.at_ (show X6.n + 1 ≤ 50000 by have := HN9.out; omega)).mono ?_
        rintro e y2 ⟨vr, RR, rfl, o2, b2, i2, -⟩
        have hh := rhas_calls y2 vr RR o2.slB A.k A.h
        rw [i2.2 A.k A.h, HMR.out] at hh
        obtain ⟨adr, capr, rfl, -, -, -, -⟩ := id o2.slB
        refine hK.out _ _ (hHeld.called HML.out b2) (fun g1 => ?_)
        clear hK K0 i2
        (try simp only [gs])
        refine wpAnyH_ready (rs := [3]) (by kernel_rfl) (by simp) (AllReadyH.cons rfl (fun K0 hK => ?_) AllReadyH.nil)
        rw [if_pos (by rfl)]
        (try simp only [gs])
        go_simp
        refine hh.mono ?_
        clear hh
        rintro e y3 ⟨rfl, b3⟩
        refine hK.out _ _ (g1.called HML.out b3) (fun g2 => ?_)
        clear hK K0
        (try simp only [gs])
        refine wpAnyH_take (i := 7) (v := .bool false) rfl (by kernel_rfl) (by kernel_rfl) (by kernel_rfl) (fun _ _ _ h => h) (Or.inl ⟨by rfl, ?_⟩) g2 ?_
        case refine_1 => (intro w hSw; (try dsimp only at hSw); go_simp; first | done | rfl)
        (try simp only [gs])
        refine wpAnyH_take (i := 8) (v := undef) rfl (by kernel_rfl) (by kernel_rfl) (by kernel_rfl) (fun _ _ _ h => h) (Or.inr ⟨by rfl, rfl⟩) g2 ?_
        (try simp only [gs])
        refine wpAnyH_take (i := 9) (v := undef) rfl (by kernel_rfl) (by kernel_rfl) (by kernel_rfl) (fun _ _ _ h => h) (Or.inr ⟨by rfl, rfl⟩) g2 ?_
        (try simp only [gs])
        refine wpAnyH_take (i := 10) (v := .bool false) rfl (by kernel_rfl) (by kernel_rfl) (by kernel_rfl) (fun _ _ _ h => h) (Or.inl ⟨by rfl, ?_⟩) g2 ?_
        case refine_1 => (intro w hSw; (try dsimp only at hSw); go_simp; first | done | rfl)
        (try simp only [gs])
        refine wpAnyH_take (i := 11) (v := .bool false) rfl (by kernel_rfl) (by kernel_rfl) (by kernel_rfl) (fun _ _ _ h => h) (Or.inl ⟨by rfl, ?_⟩) g2 ?_
        case refine_1 => (intro w hSw; (try dsimp only at hSw); go_simp; first | done | rfl)
        (try simp only [gs])
        refine wpAnyH_take (i := 12) (v := .bool true) rfl (by kernel_rfl) (by kernel_rfl) (by kernel_rfl) (fun _ _ _ h => h) (Or.inl ⟨by rfl, ?_⟩) g2 ?_
        case refine_1 => (intro w hSw; (try dsimp only at hSw); go_simp; first | done | rfl)
        (try simp only [gs])
        refine wpAnyH_take (i := 13) (v := .bool true) rfl (by kernel_rfl) (by kernel_rfl) (by kernel_rfl) (fun _ _ _ h => h) (Or.inl ⟨by rfl, ?_⟩) g2 ?_
        case refine_1 => (intro w hSw; (try dsimp only at hSw); go_simp; first | done | rfl)
        (try simp only [gs])
        refine wpAnyH_take (i := 14) (v := .bool true) rfl (by kernel_rfl) (by kernel_rfl) (by kernel_rfl) (fun _ _ _ h => h) (Or.inl ⟨by rfl, ?_⟩) g2 ?_
        case refine_1 => (intro w hSw; (try dsimp only at hSw); go_simp; first | done | rfl)
        (try simp only [gs])
        refine wpAnyH_take (i := 15) (v := .bool true) rfl (by kernel_rfl) (by kernel_rfl) (by kernel_rfl) (fun _ _ _ h => h) (Or.inl ⟨by rfl, ?_⟩) g2 ?_
        case refine_1 => (intro w hSw; (try dsimp only at hSw); go_simp; first | done | rfl)
        (try simp only [gs])
        refine wpAnyH_done (by kernel_rfl) ?_ _
        refine NoPanic.normal ?_
        have HR10 : Hid (Below w.heap.size w y3) := g2.at_.bel
        clear g2 g1 hHeld b2 b3 HR9 HMR o2
        go_wp2_with fail
        go_ret
        exact ⟨rfl, HR10.out⟩
      | false =>
        have HIB : Hid (s.inb (num A.k) = false) := hib
        clear hib
        have HMR : Hid (mem ({ rdV K true with R := (rdV K true).R ++ [s] } : VS).R (num A.k) = false) := (show _ = _ by show mem ((rdV K true).R ++ [s]) (num A.k) = _; rw [rdV_scan, HAKE.out, HIB.out]; rfl)
        refine wp_region_noPanic ?_
        refine wp_region_held_drew (S := (fun y => RvAt w x3.heap.size p pv m q { X6 with n := X6.n + 1 } { rdV K true with R := (rdV K true).R ++ [s] } bb K A s y)) (by kernel_rfl) (HR9.out.1.drew HML.out) (fun hHeld => ?_)
        refine wpAnyH_take (i := 0) (v := ?_) rfl (by kernel_rfl) (by kernel_rfl) (by kernel_rfl) (fun _ _ _ h => h) (Or.inl ⟨by rfl, ?_⟩) hHeld ?_
        case refine_2 => (intro w hSw; (try dsimp only at hSw); go_simp; try (with_reducible rfl))
        (try simp only [gs])
        refine wpAnyH_take (i := 2) rfl (by kernel_rfl) (by kernel_rfl) (by kernel_rfl) (fun _ _ _ h => h) (yieldsIf_load_mid (by rfl) _ _ rfl _ _ rfl _ _ (fun y h => RvAt.ra h) Try.underlying23 rfl (by rw [HKA.out]; exact HCK.out)) hHeld ?_
        (try simp only [gs])
        refine wpAnyH_take (i := 4) rfl (by kernel_rfl) (by kernel_rfl) (by kernel_rfl) (fun _ _ _ h => h) (yieldsIf_load_mid (by rfl) _ _ rfl _ _ rfl _ _ (fun y h => RvAt.ra h) Try.underlying23 rfl (by rw [HKA.out]; exact HCK.out)) hHeld ?_
        (try simp only [gs])
        refine wpAnyH_take (i := 5) rfl (by kernel_rfl) (by kernel_rfl) (by kernel_rfl) (fun _ _ _ h => h) (yieldsIf_load_mid (by rfl) _ _ rfl _ _ rfl _ _ (fun y h => RvAt.rk h) Try.underlying23 rfl (by rw [HKK.out]; exact HCK.out)) hHeld ?_
        (try simp only [gs])
        refine wpAnyH_take (i := 6) (v := .bool false) rfl (by kernel_rfl) (by kernel_rfl) (by kernel_rfl) (fun _ _ _ h => h) (Or.inl ⟨by rfl, fun w _ => HEQ.out _ _ _ _ _ rfl rfl rfl w⟩) hHeld ?_
        (try simp only [gs])
        generalize x9.drew = y1 at *
        refine wpAnyH_ready (rs := [1]) (by kernel_rfl) (by simp) (AllReadyH.cons rfl (fun K0 hK => ?_) AllReadyH.nil)
        rw [if_pos (by rfl)]
        (try simp only [gs])
        go_simp
        refine (vreads_at hHeld.at_ (show X6.n + 1 ≤ 50000 by have := HN9.out; omega)).mono ?_
        rintro e y2 ⟨vr, RR, rfl, o2, b2, i2, -⟩
        have hh := rhas_calls y2 vr RR o2.slB A.k A.h
        rw [i2.2 A.k A.h, HMR.out] at hh
        obtain ⟨adr, capr, rfl, -, -, -, -⟩ := id o2.slB
        refine hK.out _ _ (hHeld.called HML.out b2) (fun g1 => ?_)
        clear hK K0 i2
        (try simp only [gs])
        refine wpAnyH_ready (rs := [3]) (by kernel_rfl) (by simp) (AllReadyH.cons rfl (fun K0 hK => ?_) AllReadyH.nil)
        rw [if_pos (by rfl)]
        (try simp only [gs])
        go_simp
        refine hh.mono ?_
        clear hh
        rintro e y3 ⟨rfl, b3⟩
        refine hK.out _ _ (g1.called HML.out b3) (fun g2 => ?_)
        clear hK K0
        (try simp only [gs])
        refine wpAnyH_take (i := 7) (v := .bool false) rfl (by kernel_rfl) (by kernel_rfl) (by kernel_rfl) (fun _ _ _ h => h) (Or.inl ⟨by rfl, ?_⟩) g2 ?_
        case refine_1 => (intro w hSw; (try dsimp only at hSw); go_simp; first | done | rfl)
        (try simp only [gs])
        refine wpAnyH_take (i := 8) (v := undef) rfl (by kernel_rfl) (by kernel_rfl) (by kernel_rfl) (fun _ _ _ h => h) (Or.inr ⟨by rfl, rfl⟩) g2 ?_
        (try simp only [gs])
        refine wpAnyH_take (i := 9) (v := undef) rfl (by kernel_rfl) (by kernel_rfl) (by kernel_rfl) (fun _ _ _ h => h) (Or.inr ⟨by rfl, rfl⟩) g2 ?_
        (try simp only [gs])
        refine wpAnyH_take (i := 10) (v := .bool false) rfl (by kernel_rfl) (by kernel_rfl) (by kernel_rfl) (fun _ _ _ h => h) (Or.inl ⟨by rfl, ?_⟩) g2 ?_
        case refine_1 => (intro w hSw; (try dsimp only at hSw); go_simp; first | done | rfl)
        (try simp only [gs])
        refine wpAnyH_take (i := 11) (v := .bool false) rfl (by kernel_rfl) (by kernel_rfl) (by kernel_rfl) (fun _ _ _ h => h) (Or.inl ⟨by rfl, ?_⟩) g2 ?_
        case refine_1 => (intro w hSw; (try dsimp only at hSw); go_simp; first | done | rfl)
        (try simp only [gs])
        refine wpAnyH_take (i := 12) (v := .bool false) rfl (by kernel_rfl) (by kernel_rfl) (by kernel_rfl) (fun _ _ _ h => h) (Or.inl ⟨by rfl, ?_⟩) g2 ?_
        case refine_1 => (intro w hSw; (try dsimp only at hSw); go_simp; first | done | rfl)
        (try simp only [gs])
        refine wpAnyH_take (i := 13) (v := .bool false) rfl (by kernel_rfl) (by kernel_rfl) (by kernel_rfl) (fun _ _ _ h => h) (Or.inl ⟨by rfl, ?_⟩) g2 ?_
        case refine_1 => (intro w hSw; (try dsimp only at hSw); go_simp; first | done | rfl)
        (try simp only [gs])
        refine wpAnyH_take (i := 14) (v := .bool true) rfl (by kernel_rfl) (by kernel_rfl) (by kernel_rfl) (fun _ _ _ h => h) (Or.inl ⟨by rfl, ?_⟩) g2 ?_
        case refine_1 => (intro w hSw; (try dsimp only at hSw); go_simp; first | done | rfl)
        (try simp only [gs])
        refine wpAnyH_take (i := 15) (v := .bool true) rfl (by kernel_rfl) (by kernel_rfl) (by kernel_rfl) (fun _ _ _ h => h) (Or.inl ⟨by rfl, ?_⟩) g2 ?_
        case refine_1 => (intro w hSw; (try dsimp only at hSw); go_simp; first | done | rfl)
        (try simp only [gs])
        refine wpAnyH_done (by kernel_rfl) ?_ _
        refine NoPanic.normal ?_
        have HR10 : Hid (Below w.heap.size w y3) := g2.at_.bel
        clear g2 g1 hHeld b2 b3 HR9 HMR o2
        go_wp2_with fail
        go_ret
        exact ⟨rfl, HR10.out⟩
  | false =>
    have HR5 : Hid (RvAt w x3.heap.size p pv m q x vs0 bb K A s x4 ∧ x.n ≤ 100 ∧ m.length ≤ 40) := ⟨HR4.out.1, by have := HR4.out.2.1; omega, HR4.out.2.2⟩
    clear HR4
    have hkb := HR5.out.1.bk
    have hGe := HR5.out.1.at_.get HD.out (fun i h => h.elim) (by have := HR5.out.2.1; omega) K
    rw [rdV_get0] at hGe
    go_upto_region 8 with (first
      | (refine load_key _ rfl bb rfl rfl K.k hkb ?_)
      | (go_at_call 8; refine hGe.mono ?_; clear hGe; rintro e x6 ⟨rfl, T6⟩))
    have HR6 : Hid (RvAt w x3.heap.size p pv m q { x with n := x.n + 1 } (rdV K false) bb K A s x6 ∧ x.n + 1 ≤ 101 ∧ m.length ≤ 40) := ⟨HR5.out.1.to T6, by have := HR5.out.2.1; omega, HR5.out.2.2⟩
    clear hkb T6 HR5
    obtain ⟨X6, hX6⟩ : ∃ X6 : VR, X6 = { x with n := x.n + 1 } := ⟨_, rfl⟩
    rw [← hX6] at HR6
    have HN6 : Hid (X6.n ≤ 101) := (show _ ≤ _ by rw [hX6]; exact HR6.out.2.1)
    clear hX6
    have HML : Hid (m.length ≤ 40) := HR6.out.2.2
    cases hak : decide (A = K) with
    | true =>
      have HEQ : Hid (∀ (f : Operand → Value) (o : Oper) (a b : Operand) (t' : TypeId), o.op = .binOp .eql 23 a b t' → f a = kv A.k → f b = kv K.k → ∀ w, (execOp f o).run Try.prog w = .ok (.value (.bool true)) w) := fun f o a b t' ho ha hb w => by
        have := exec_eq_K a b t' ho A K ha hb w
        rw [hak] at this
        exact this
      have HAKE : Hid (decide (A = K) = true) := hak
      have HMR : Hid (mem (rdV K false).R (num A.k) = true) := (show _ = _ by rw [rdV_mem, HAKE.out]; rfl)
      refine wp_region_noPanic ?_
      refine wp_region_held_drew (S := (fun y => RvAt w x3.heap.size p pv m q X6 (rdV K false) bb K A s y)) (by kernel_rfl) (HR6.out.1.drew HR6.out.2.2) (fun hHeld => ?_)
      refine wpAnyH_take (i := 0) (v := ?_) rfl (by kernel_rfl) (by kernel_rfl) (by kernel_rfl) (fun _ _ _ h => h) (Or.inl ⟨by rfl, ?_⟩) hHeld ?_
      case refine_2 => (intro w hSw; (try dsimp only at hSw); go_simp; try (with_reducible rfl))
      (try simp only [gs])
      refine wpAnyH_take (i := 2) rfl (by kernel_rfl) (by kernel_rfl) (by kernel_rfl) (fun _ _ _ h => h) (yieldsIf_load_mid (by rfl) _ _ rfl _ _ rfl _ _ (fun y h => RvAt.ra h) Try.underlying23 rfl (by rw [HKA.out]; exact HCK.out)) hHeld ?_
      (try simp only [gs])
      refine wpAnyH_take (i := 4) rfl (by kernel_rfl) (by kernel_rfl) (by kernel_rfl) (fun _ _ _ h => h) (yieldsIf_load_mid (by rfl) _ _ rfl _ _ rfl _ _ (fun y h => RvAt.ra h) Try.underlying23 rfl (by rw [HKA.out]; exact HCK.out)) hHeld ?_
      (try simp only [gs])
      refine wpAnyH_take (i := 5) rfl (by kernel_rfl) (by kernel_rfl) (by kernel_rfl) (fun _ _ _ h => h) (yieldsIf_load_mid (by rfl) _ _ rfl _ _ rfl _ _ (fun y h => RvAt.rk h) Try.underlying23 rfl (by rw [HKK.out]; exact HCK.out)) hHeld ?_
      (try simp only [gs])
      refine wpAnyH_take (i := 6) (v := .bool true) rfl (by kernel_rfl) (by kernel_rfl) (by kernel_rfl) (fun _ _ _ h => h) (Or.inl ⟨by rfl, fun w _ => HEQ.out _ _ _ _ _ rfl rfl rfl w⟩) hHeld ?_
      (try simp only [gs])
      generalize x6.drew = y1 at *
      refine wpAnyH_ready (rs := [1]) (by kernel_rfl) (by simp) (AllReadyH.cons rfl (fun K0 hK => ?_) AllReadyH.nil)
      rw [if_pos (by rfl)]
      (try simp only [gs])
      go_simp
      refine (vreads_at hHeld.at_ (show X6.n ≤ 50000 by have := HN6.out; omega)).mono ?_
      rintro e y2 ⟨vr, RR, rfl, o2, b2, i2, -⟩
      have hh := rhas_calls y2 vr RR o2.slB A.k A.h
      rw [i2.2 A.k A.h, HMR.out] at hh
      obtain ⟨adr, capr, rfl, -, -, -, -⟩ := id o2.slB
      refine hK.out _ _ (hHeld.called HML.out b2) (fun g1 => ?_)
      clear hK K0 i2
      (try simp only [gs])
      refine wpAnyH_ready (rs := [3]) (by kernel_rfl) (by simp) (AllReadyH.cons rfl (fun K0 hK => ?_) AllReadyH.nil)
      rw [if_pos (by rfl)]
      (try simp only [gs])
      go_simp
      refine hh.mono ?_
      clear hh
      rintro e y3 ⟨rfl, b3⟩
      refine hK.out _ _ (g1.called HML.out b3) (fun g2 => ?_)
      clear hK K0
      (try simp only [gs])
      refine wpAnyH_take (i := 7) (v := .bool true) rfl (by kernel_rfl) (by kernel_rfl) (by kernel_rfl) (fun _ _ _ h => h) (Or.inl ⟨by rfl, ?_⟩) g2 ?_
      case refine_1 => (intro w hSw; (try dsimp only at hSw); go_simp; first | done | rfl)
      (try simp only [gs])
      refine wpAnyH_take (i := 8) (v := .bool false) rfl (by kernel_rfl) (by kernel_rfl) (by kernel_rfl) (fun _ _ _ h => h) (Or.inl ⟨by rfl, ?_⟩) g2 ?_
      case refine_1 => (intro w hSw; (try dsimp only at hSw); go_simp; first | done | rfl)
      (try simp only [gs])
      refine wpAnyH_take (i := 9) (v := .bool true) rfl (by kernel_rfl) (by kernel_rfl) (by kernel_rfl) (fun _ _ _ h => h) (Or.inl ⟨by rfl, ?_⟩) g2 ?_
      case refine_1 => (intro w hSw; (try dsimp only at hSw); go_simp; first | done | rfl)
      (try simp only [gs])
      refine wpAnyH_take (i := 10) (v := .bool true) rfl (by kernel_rfl) (by kernel_rfl) (by kernel_rfl) (fun _ _ _ h => h) (Or.inl ⟨by rfl, ?_⟩) g2 ?_
      case refine_1 => (intro w hSw; (try dsimp only at hSw); go_simp; first | done | rfl)
      (try simp only [gs])
      refine wpAnyH_take (i := 11) (v := .bool true) rfl (by kernel_rfl) (by kernel_rfl) (by kernel_rfl) (fun _ _ _ h => h) (Or.inl ⟨by rfl, ?_⟩) g2 ?_
      case refine_1 => (intro w hSw; (try dsimp only at hSw); go_simp; first | done | rfl)
      (try simp only [gs])
      refine wpAnyH_take (i := 12) (v := .bool true) rfl (by kernel_rfl) (by kernel_rfl) (by kernel_rfl) (fun _ _ _ h => h) (Or.inl ⟨by rfl, ?_⟩) g2 ?_
      case refine_1 => (intro w hSw; (try dsimp only at hSw); go_simp; first | done | rfl)
      (try simp only [gs])
      refine wpAnyH_done (by kernel_rfl) ?_ _
      refine NoPanic.normal ?_
      have HR7 : Hid (RvAt w x3.heap.size p pv m q X6 (rdV K false) bb K A s y3 ∧ m.length ≤ 40) := ⟨g2, HR6.out.2.2⟩
      clear g2 g1 hHeld b2 b3 HR6 HMR o2
      clear hak
      have hsb := HR7.out.1.bs.range
      have hSc := HR7.out.1.at_.scan HD.out (fun i h => h.elim) (by have := HN6.out; omega) s
      go_upto_region 10 with (first
        | (refine load_el elS _ rfl (bb + 1) 0 rfl rfl s hsb ?_)
        | (go_at_call 9; refine hSc.mono ?_; clear hSc; rintro e x8 ⟨ad, cap, rfl, -, T8⟩))
      have HR8 : Hid (RvAt w x3.heap.size p pv m q { X6 with n := X6.n + 1 } { rdV K false with R := (rdV K false).R ++ [s] } bb K A s x8) := HR7.out.1.to T8
      have HN9 : Hid (X6.n + 1 ≤ 102) := (show _ ≤ _ by have := HN6.out; omega)
      clear hsb T8 HR7
      have hsb := HR8.out.bs.range
      have hab := HR8.out.ba
      have hIn := rin_calls x8 s.F s.T s.e A.k s.hF s.hT A.h
      rw [in_num s A.k A.h] at hIn
      go_upto_region 11 with (first
        | (refine load_el elS _ rfl (bb + 1) 0 rfl rfl s hsb ?_)
        | (refine load_key _ rfl (bb + 2) rfl rfl A.k hab ?_)
        | (go_at_call 18; refine hIn.mono ?_; clear hIn; rintro e x9 ⟨rfl, b9⟩))
      have HR9 : Hid (RvAt w x3.heap.size p pv m q { X6 with n := X6.n + 1 } { rdV K false with R := (rdV K false).R ++ [s] } bb K A s x9 ∧ m.length ≤ 40) := ⟨HR8.out.called HML.out b9, HML.out⟩
      clear hsb hab b9 HR8
      cases hib : s.inb (num A.k) with
      | true =>
        have HIB : Hid (s.inb (num A.k) = true) := hib
        clear hib
        have HMR : Hid (mem ({ rdV K false with R := (rdV K false).R ++ [s] } : VS).R (num A.k) = true) := (show _ = _ by show mem ((rdV K false).R ++ [s]) (num A.k) = _; rw [rdV_scan, HAKE.out, HIB.out]; rfl)
        refine wp_region_noPanic ?_
        refine wp_region_held_drew (S := (fun y => RvAt w x3.heap.size p pv m q { X6 with n := X6.n + 1 } { rdV K false with R := (rdV K false).R ++ [s] } bb K A s y)) (by kernel_rfl) (HR9.out.1.drew HML.out) (fun hHeld => ?_)
        refine wpAnyH_take (i := 0) (v := ?_) rfl (by kernel_rfl) (by kernel_rfl) (by kernel_rfl) (fun _ _ _ h => h) (Or.inl ⟨by rfl, ?_⟩) hHeld ?_
        case refine_2 => (intro w hSw; (try dsimp only at hSw); go_simp; try (with_reducible rfl))
        (try simp only [gs])
        refine wpAnyH_take (i := 2) rfl (by kernel_rfl) (by kernel_rfl) (by kernel_rfl) (fun _ _ _ h => h) (yieldsIf_load_mid (by rfl) _ _ rfl _ _ rfl _ _ (fun y h => RvAt.ra h) Try.underlying23 rfl (by rw [HKA.out]; exact HCK.out)) hHeld ?_
        (try simp only [gs])
        refine wpAnyH_take (i := 4) rfl (by kernel_rfl) (by kernel_rfl) (by kernel_rfl) (fun _ _ _ h => h) (yieldsIf_load_mid (by rfl) _ _ rfl _ _ rfl _ _ (fun y h => RvAt.ra h) Try.underlying23 rfl (by rw [HKA.out]; exact HCK.out)) hHeld ?_
        (try simp only [gs])
        refine wpAnyH_take (i := 5) rfl (by kernel_rfl) (by kernel_rfl) (by kernel_rfl) (fun _ _ _ h => h) (yieldsIf_load_mid (by rfl) _ _ rfl _ _ rfl _ _ (fun y h => RvAt.rk h) Try.underlying23 rfl (by rw [HKK.out]; exact HCK.out)) hHeld ?_
        (try simp only [gs])
        refine wpAnyH_take (i := 6) (v := .bool true) rfl (by kernel_rfl) (by kernel_rfl) (by kernel_rfl) (fun _ _ _ h => h) (Or.inl ⟨by rfl, fun w _ => HEQ.out _ _ _ _ _ rfl rfl rfl w⟩) hHeld ?_
        (try simp only [gs])
        generalize x9.drew = y1 at *
        refine wpAnyH_ready (rs := [1]) (by kernel_rfl) (by simp) (AllReadyH.cons rfl (fun K0 hK => ?_) AllReadyH.nil)
        rw [if_pos (by rfl)]
        (try simp only [gs])
        go_simp
        refine (vreads_at hHeld.at_ (show X6.n + 1 ≤ 50000 by have := HN9.out; omega)).mono ?_
        rintro e y2 ⟨vr, RR, rfl, o2, b2, i2, -⟩
        have hh := rhas_calls y2 vr RR o2.slB A.k A.h
        rw [i2.2 A.k A.h, HMR.out] at hh
        obtain ⟨adr, capr, rfl, -, -, -, -⟩ := id o2.slB
        refine hK.out _ _ (hHeld.called HML.out b2) (fun g1 => ?_)
        clear hK K0 i2
        (try simp only [gs])
        refine wpAnyH_ready (rs := [3]) (by kernel_rfl) (by simp) (AllReadyH.cons rfl (fun K0 hK => ?_) AllReadyH.nil)
        rw [if_pos (by rfl)]
        (try simp only [gs])
        go_simp
        refine hh.mono ?_
        clear hh
        rintro e y3 ⟨rfl, b3⟩
        refine hK.out _ _ (g1.called HML.out b3) (fun g2 => ?_)
        clear hK K0
        (try simp only [gs])
        refine wpAnyH_take (i := 7) (v := .bool true) rfl (by kernel_rfl) (by kernel_rfl) (by kernel_rfl) (fun _ _ _ h => h) (Or.inl ⟨by rfl, ?_⟩) g2 ?_
        case refine_1 => (intro w hSw; (try dsimp only at hSw); go_simp; first | done | rfl)
        (try simp only [gs])
        refine wpAnyH_take (i := 8) (v := .bool false) rfl (by kernel_rfl) (by kernel_rfl) (by kernel_rfl) (fun _ _ _ h => h) (Or.inl ⟨by rfl, ?_⟩) g2 ?_
        case refine_1 => (intro w hSw; (try dsimp only at hSw); go_simp; first | done | rfl)
        (try simp only [gs])
        refine wpAnyH_take (i := 9) (v := .bool true) rfl (by kernel_rfl) (by kernel_rfl) (by kernel_rfl) (fun _ _ _ h => h) (Or.inl ⟨by rfl, ?_⟩) g2 ?_
        case refine_1 => (intro w hSw; (try dsimp only at hSw); go_simp; first | done | rfl)
        (try simp only [gs])
        refine wpAnyH_take (i := 10) (v := .bool true) rfl (by kernel_rfl) (by kernel_rfl) (by kernel_rfl) (fun _ _ _ h => h) (Or.inl ⟨by rfl, ?_⟩) g2 ?_
        case refine_1 => (intro w hSw; (try dsimp only at hSw); go_simp; first | done | rfl)
        (try simp only [gs])
        refine wpAnyH_take (i := 11) (v := .bool true) rfl (by kernel_rfl) (by kernel_rfl) (by kernel_rfl) (fun _ _ _ h => h) (Or.inl ⟨by rfl, ?_⟩) g2 ?_
        case refine_1 => (intro w hSw; (try dsimp only at hSw); go_simp; first | done | rfl)
        (try simp only [gs])
        refine wpAnyH_take (i := 12) (v := undef) rfl (by kernel_rfl) (by kernel_rfl) (by kernel_rfl) (fun _ _ _ h => h) (Or.inr ⟨by rfl, rfl⟩) g2 ?_
        (try simp only [gs])
        refine wpAnyH_take (i := 13) (v := .bool true) rfl (by kernel_rfl) (by kernel_rfl) (by kernel_rfl) (fun _ _ _ h => h) (Or.inl ⟨by rfl, ?_⟩) g2 ?_
        case refine_1 => (intro w hSw; (try dsimp only at hSw); go_simp; first | done | rfl)
        (try simp only [gs])
        refine wpAnyH_take (i := 14) (v := .bool true) rfl (by kernel_rfl) (by kernel_rfl) (by kernel_rfl) (fun _ _ _ h => h) (Or.inl ⟨by rfl, ?_⟩) g2 ?_
        case refine_1 => (intro w hSw; (try dsimp only at hSw); go_simp; first | done | rfl)
        (try simp only [gs])
        refine wpAnyH_take (i := 15) (v := .bool true) rfl (by kernel_rfl) (by kernel_rfl) (by kernel_rfl) (fun _ _ _ h => h) (Or.inl ⟨by rfl, ?_⟩) g2 ?_
        case refine_1 => (intro w hSw; (try dsimp only at hSw); go_simp; first | done | rfl)
        (try simp only [gs])
        refine wpAnyH_done (by kernel_rfl) ?_ _
        refine NoPanic.normal ?_
        have HR10 : Hid (Below w.heap.size w y3) := g2.at_.bel
        clear g2 g1 hHeld b2 b3 HR9 HMR o2
        go_wp2_with fail
        go_ret
        exact ⟨rfl, HR10.out⟩
      | false =>
        have HIB : Hid (s.inb (num A.k) = false) := hib
        clear hib
        have HMR : Hid (mem ({ rdV K false with R := (rdV K false).R ++ [s] } : VS).R (num A.k) = true) := (show _ = _ by show mem ((rdV K false).R ++ [s]) (num A.k) = _; rw [rdV_scan, HAKE.out, HIB.out]; rfl)
        refine wp_region_noPanic ?_
        refine wp_region_held_drew (S := (fun y => RvAt w x3.heap.size p pv m q { X6 with n := X6.n + 1 } { rdV K false with R := (rdV K false).R ++ [s] } bb K A s y)) (by kernel_rfl) (HR9.out.1.drew HML.out) (fun hHeld => ?_)
        refine wpAnyH_take (i := 0) (v := ?_) rfl (by kernel_rfl) (by kernel_rfl) (by kernel_rfl) (fun _ _ _ h => h) (Or.inl ⟨by rfl, ?_⟩) hHeld ?_
        case refine_2 => (intro w hSw; (try dsimp only at hSw); go_simp; try (with_reducible rfl))
        (try simp only [gs])
        refine wpAnyH_take (i := 2) rfl (by kernel_rfl) (by kernel_rfl) (by kernel_rfl) (fun _ _ _ h => h) (yieldsIf_load_mid (by rfl) _ _ rfl _ _ rfl _ _ (fun y h => RvAt.ra h) Try.underlying23 rfl (by rw [HKA.out]; exact HCK.out)) hHeld ?_
        (try simp only [gs])
        refine wpAnyH_take (i := 4) rfl (by kernel_rfl) (by kernel_rfl) (by kernel_rfl) (fun _ _ _ h => h) (yieldsIf_load_mid (by rfl) _ _ rfl _ _ rfl _ _ (fun y h => RvAt.ra h) Try.underlying23 rfl (by rw [HKA.out]; exact HCK.out)) hHeld ?_
        (try simp only [gs])
        refine wpAnyH_take (i := 5) rfl (by kernel_rfl) (by kernel_rfl) (by kernel_rfl) (fun _ _ _ h => h) (yieldsIf_load_mid (by rfl) _ _ rfl _ _ rfl _ _ (fun y h => RvAt.rk h) Try.underlying23 rfl (by rw [HKK.out]; exact HCK.out)) hHeld ?_
        (try simp only [gs])
        refine wpAnyH_take (i := 6) (v := .bool true) rfl (by kernel_rfl) (by kernel_rfl) (by kernel_rfl) (fun _ _ _ h => h) (Or.inl ⟨by rfl, fun w _ => HEQ.out _ _ _ _ _ rfl rfl rfl w⟩) hHeld ?_
        (try simp only [gs])
        generalize x9.drew = y1 at *
        refine wpAnyH_ready (rs := [1]) (by kernel_rfl) (by simp) (AllReadyH.cons rfl (fun K0 hK => ?_) AllReadyH.nil)
        rw [if_pos (by rfl)]
        (try simp only [gs])
        go_simp
        refine (vreads_at hHeld.at_ (show X6.n + 1 ≤ 50000 by have := HN9.out; omega)).mono ?_
        rintro e y2 ⟨vr, RR, rfl, o2, b2, i2, -⟩
        have hh := rhas_calls y2 vr RR o2.slB A.k A.h
        rw [i2.2 A.k A.h, HMR.out] at hh
        obtain ⟨adr, capr, rfl, -, -, -, -⟩ := id o2.slB
        refine hK.out _ _ (hHeld.called HML.out b2) (fun g1 => ?_)
        clear hK K0 i2
        (try simp only [gs])
        refine wpAnyH_ready (rs := [3]) (by kernel_rfl) (by simp) (AllReadyH.cons rfl (fun K0 hK => ?_) AllReadyH.nil)
        rw [if_pos (by rfl)]
        (try simp only [gs])
        go_simp
        refine hh.mono ?_
        clear hh
        rintro e y3 ⟨rfl, b3⟩
        refine hK.out _ _ (g1.called HML.out b3) (fun g2 => ?_)
        clear hK K0
        (try simp only [gs])
        refine wpAnyH_take (i := 7) (v := .bool true) rfl (by kernel_rfl) (by kernel_rfl) (by kernel_rfl) (fun _ _ _ h => h) (Or.inl ⟨by rfl, ?_⟩) g2 ?_
        case refine_1 => (intro w hSw; (try dsimp only at hSw); go_simp; first | done | rfl)
        (try simp only [gs])
        refine wpAnyH_take (i := 8) (v := .bool false) rfl (by kernel_rfl) (by kernel_rfl) (by kernel_rfl) (fun _ _ _ h => h) (Or.inl ⟨by rfl, ?_⟩) g2 ?_
        case refine_1 => (intro w hSw; (try dsimp only at hSw); go_simp; first | done | rfl)
        (try simp only [gs])
        refine wpAnyH_take (i := 9) (v := .bool true) rfl (by kernel_rfl) (by kernel_rfl) (by kernel_rfl) (fun _ _ _ h => h) (Or.inl ⟨by rfl, ?_⟩) g2 ?_
        case refine_1 => (intro w hSw; (try dsimp only at hSw); go_simp; first | done | rfl)
        (try simp only [gs])
        refine wpAnyH_take (i := 10) (v := .bool true) rfl (by kernel_rfl) (by kernel_rfl) (by kernel_rfl) (fun _ _ _ h => h) (Or.inl ⟨by rfl, ?_⟩) g2 ?_
        case refine_1 => (intro w hSw; (try dsimp only at hSw); go_simp; first | done | rfl)
        (try simp only [gs])
        refine wpAnyH_take (i := 11) (v := .bool true) rfl (by kernel_rfl) (by kernel_rfl) (by kernel_rfl) (fun _ _ _ h => h) (Or.inl ⟨by rfl, ?_⟩) g2 ?_
        case refine_1 => (intro w hSw; (try dsimp only at hSw); go_simp; first | done | rfl)
        (try simp only [gs])
        refine wpAnyH_take (i := 12) (v := undef) rfl (by kernel_rfl) (by kernel_rfl) (by kernel_rfl) (fun _ _ _ h => h) (Or.inr ⟨by rfl, rfl⟩) g2 ?_
        (try simp only [gs])
        refine wpAnyH_take (i := 13) (v := .bool true) rfl (by kernel_rfl) (by kernel_rfl) (by kernel_rfl) (fun _ _ _ h => h) (Or.inl ⟨by rfl, ?_⟩) g2 ?_
        case refine_1 => (intro w hSw; (try dsimp only at hSw); go_simp; first | done | rfl)
        (try simp only [gs])
        refine wpAnyH_take (i := 14) (v := .bool true) rfl (by kernel_rfl) (by kernel_rfl) (by kernel_rfl) (fun _ _ _ h => h) (Or.inl ⟨by rfl, ?_⟩) g2 ?_
        case refine_1 => (intro w hSw; (try dsimp only at hSw); go_simp; first | done | rfl)
        (try simp only [gs])
        refine wpAnyH_take (i := 15) (v := .bool true) rfl (by kernel_rfl) (by kernel_rfl) (by kernel_rfl) (fun _ _ _ h => h) (Or.inl ⟨by rfl, ?_⟩) g2 ?_
        case refine_1 => (intro w hSw; (try dsimp only at hSw); go_simp; first | done | rfl)
        (try simp only [gs])
        refine wpAnyH_done (by kernel_rfl) ?_ _
        refine NoPanic.normal ?_
        have HR10 : Hid (Below w.heap.size w y3) := g2.at_.bel
        clear g2 g1 hHeld b2 b3 HR9 HMR o2
        go_wp2_with fail
        go_ret
        exact ⟨rfl, HR10.out⟩
    | false =>
      have HEQ : Hid (∀ (f : Operand → Value) (o : Oper) (a b : Operand) (t' : TypeId), o.op = .binOp .eql 23 a b t' → f a = kv A.k → f b = kv K.k → ∀ w, (execOp f o).run Try.prog w = .ok (.value (.bool false)) w) := fun f o a b t' ho ha hb w => by
        have := exec_eq_K a b t' ho A K ha hb w
        rw [hak] at this
        exact this
      have HAKE : Hid (decide (A = K) = false) := hak
      have HMR : Hid (mem (rdV K false).R (num A.k) = false) := (show _ = _ by rw [rdV_mem, HAKE.out]; rfl)
      refine wp_region_noPanic ?_
      refine wp_region_held_drew (S := (fun y => RvAt w x3.heap.size p pv m q X6 (rdV K false) bb K A s y)) (by kernel_rfl) (HR6.out.1.drew HR6.out.2.2) (fun hHeld => ?_)
      refine wpAnyH_take (i := 0) (v := ?_) rfl (by kernel_rfl) (by kernel_rfl) (by kernel_rfl) (fun _ _ _ h => h) (Or.inl ⟨by rfl, ?_⟩) hHeld ?_
      case refine_2 => (intro w hSw; (try dsimp only at hSw); go_simp; try (with_reducible rfl))
      (try simp only [gs])
      refine wpAnyH_take (i := 2) rfl (by kernel_rfl) (by kernel_rfl) (by kernel_rfl) (fun _ _ _ h => h) (yieldsIf_load_mid (by rfl) _ _ rfl _ _ rfl _ _ (fun y h => RvAt.ra h) Try.underlying23 rfl (by rw [HKA.out]; exact HCK.out)) hHeld ?_
      (try simp only [gs])
      refine wpAnyH_take (i := 4) rfl (by kernel_rfl) (by kernel_rfl) (by kernel_rfl) (fun _ _ _ h => h) (yieldsIf_load_mid (by rfl) _ _ rfl _ _ rfl _ _ (fun y h => RvAt.ra h) Try.underlying23 rfl (by rw [HKA.out]; exact HCK.out)) hHeld ?_
      (try simp only [gs])
      refine wpAnyH_take (i := 5) rfl (by kernel_rfl) (by kernel_rfl) (by kernel_rfl) (fun _ _ _ h => h) (yieldsIf_load_mid (by rfl) _ _ rfl _ _ rfl _ _ (fun y h => RvAt.rk h) Try.underlying23 rfl (by rw [HKK.out]; exact HCK.out)) hHeld ?_
      (try simp only [gs])
      refine wpAnyH_take (i := 6) (v := .bool false) rfl (by kernel_rfl) (by kernel_rfl) (by kernel_rfl) (fun _ _ _ h => h) (Or.inl ⟨by rfl, fun w _ => HEQ.out _ _ _ _ _ rfl rfl rfl w⟩) hHeld ?_
      (try simp only [gs])
      generalize x6.drew = y1 at *
      refine wpAnyH_ready (rs := [1]) (by kernel_rfl) (by simp) (AllReadyH.cons rfl (fun K0 hK => ?_) AllReadyH.nil)
      rw [if_pos (by rfl)]
      (try simp only [gs])
      go_simp
      refine (vreads_at hHeld.at_ (show X6.n ≤ 50000 by have := HN6.out; omega)).mono ?_
      rintro e y2 ⟨vr, RR, rfl, o2, b2, i2, -⟩
      have hh := rhas_calls y2 vr RR o2.slB A.k A.h
      rw [i2.2 A.k A.h, HMR.out] at hh
      obtain ⟨adr, capr, rfl, -, -, -, -⟩ := id o2.slB
      refine hK.out _ _ (hHeld.called HML.out b2) (fun g1 => ?_)
      clear hK K0 i2
      (try simp only [gs])
      refine wpAnyH_ready (rs := [3]) (by kernel_rfl) (by simp) (AllReadyH.cons rfl (fun K0 hK => ?_) AllReadyH.nil)
      rw [if_pos (by rfl)]
      (try simp only [gs])
      go_simp
      refine hh.mono ?_
      clear hh
      rintro e y3 ⟨rfl, b3⟩
      refine hK.out _ _ (g1.called HML.out b3) (fun g2 => ?_)
      clear hK K0
      (try simp only [gs])
      refine wpAnyH_take (i := 7) (v := .bool false) rfl (by kernel_rfl) (by kernel_rfl) (by kernel_rfl) (fun _ _ _ h => h) (Or.inl ⟨by rfl, ?_⟩) g2 ?_
      case refine_1 => (intro w hSw; (try dsimp only at hSw); go_simp; first | done | rfl)
      (try simp only [gs])
      refine wpAnyH_take (i := 8) (v := undef) rfl (by kernel_rfl) (by kernel_rfl) (by kernel_rfl) (fun _ _ _ h => h) (Or.inr ⟨by rfl, rfl⟩) g2 ?_
      (try simp only [gs])
      refine wpAnyH_take (i := 9) (v := undef) rfl (by kernel_rfl) (by kernel_rfl) (by kernel_rfl) (fun _ _ _ h => h) (Or.inr ⟨by rfl, rfl⟩) g2 ?_
      (try simp only [gs])
      refine wpAnyH_take (i := 10) (v := .bool false) rfl (by kernel_rfl) (by kernel_rfl) (by kernel_rfl) (fun _ _ _ h => h) (Or.inl ⟨by rfl, ?_⟩) g2 ?_
      case refine_1 => (intro w hSw; (try dsimp only at hSw); go_simp; first | done | rfl)
      (try simp only [gs])
      refine wpAnyH_take (i := 11) (v := .bool true) rfl (by kernel_rfl) (by kernel_rfl) (by kernel_rfl) (fun _ _ _ h => h) (Or.inl ⟨by rfl, ?_⟩) g2 ?_
      case refine_1 => (intro w hSw; (try dsimp only at hSw); go_simp; first | done | rfl)
      (try simp only [gs])
      refine wpAnyH_take (i := 12) (v := .bool true) rfl (by kernel_rfl) (by kernel_rfl) (by kernel_rfl) (fun _ _ _ h => h) (Or.inl ⟨by rfl, ?_⟩) g2 ?_
      case refine_1 => (intro w hSw; (try dsimp only at hSw); go_simp; first | done | rfl)
      (try simp only [gs])
      refine wpAnyH_done (by kernel_rfl) ?_ _
      refine NoPanic.normal ?_
      have HR7 : Hid (RvAt w x3.heap.size p pv m q X6 (rdV K false) bb K A s y3 ∧ m.length ≤ 40) := ⟨g2, HR6.out.2.2⟩
      clear g2 g1 hHeld b2 b3 HR6 HMR o2
      clear hak
      have hsb := HR7.out.1.bs.range
      have hSc := HR7.out.1.at_.scan HD.out (fun i h => h.elim) (by have := HN6.out; omega) s
      go_upto_region 10 with (first
        | (refine load_el elS _ rfl (bb + 1) 0 rfl rfl s hsb ?_)
        | (go_at_call 9; refine hSc.mono ?_; clear hSc; rintro e x8 ⟨ad, cap, rfl, -, T8⟩))
      have HR8 : Hid (RvAt w x3.heap.size p pv m q { X6 with n := X6.n + 1 } { rdV K false with R := (rdV K false).R ++ [s] } bb K A s x8) := HR7.out.1.to T8
      have HN9 : Hid (X6.n + 1 ≤ 102) := (show _ ≤ _ by have := HN6.out; omega)
      clear hsb T8 HR7
      have hsb := HR8.out.bs.range
      have hab := HR8.out.ba
      have hIn := rin_calls x8 s.F s.T s.e A.k s.hF s.hT A.h
      rw [in_num s A.k A.h] at hIn
      go_upto_region 11 with (first
        | (refine load_el elS _ rfl (bb + 1) 0 rfl rfl s hsb ?_)
        | (refine load_key _ rfl (bb + 2) rfl rfl A.k hab ?_)
        | (go_at_call 18; refine hIn.mono ?_; clear hIn; rintro e x9 ⟨rfl, b9⟩))
      have HR9 : Hid (RvAt w x3.heap.size p pv m q { X6 with n := X6.n + 1 } { rdV K false with R := (rdV K false).R ++ [s] } bb K A s x9 ∧ m.length ≤ 40) := ⟨HR8.out.called HML.out b9, HML.out⟩
      clear hsb hab b9 HR8
      cases hib : s.inb (num A.k) with
      | true =>
        have HIB : Hid (s.inb (num A.k) = true) := hib
        clear hib
        have HMR : Hid (mem ({ rdV K false with R := (rdV K false).R ++ [s] } : VS).R (num A.k) = true) := (show _ = _ by show mem ((rdV K false).R ++ [s]) (num A.k) = _; rw [rdV_scan, HAKE.out, HIB.out]; rfl)
        refine wp_region_noPanic ?_
        refine wp_region_held_drew (S := (fun y => RvAt w x3.heap.size p pv m q { X6 with n := X6.n + 1 } { rdV K false with R := (rdV K false).R ++ [s] } bb K A s y)) (by kernel_rfl) (HR9.out.1.drew HML.out) (fun hHeld => ?_)
        refine wpAnyH_take (i := 0) (v := ?_) rfl (by kernel_rfl) (by kernel_rfl) (by kernel_rfl) (fun _ _ _ h => h) (Or.inl ⟨by rfl, ?_⟩) hHeld ?_
        case refine_2 => (intro w hSw; (try dsimp only at hSw); go_simp; try (with_reducible rfl))
        (try simp only [gs])
        refine wpAnyH_take (i := 2) rfl (by kernel_rfl) (by kernel_rfl) (by kernel_rfl) (fun _ _ _ h => h) (yieldsIf_load_mid (by rfl) _ _ rfl _ _ rfl _ _ (fun y h => RvAt.ra h) Try.underlying23 rfl (by rw [HKA.out]; exact HCK.out)) hHeld ?_
        (try simp only [gs])
        refine wpAnyH_take (i := 4) rfl (by kernel_rfl) (by kernel_rfl) (by kernel_rfl) (fun _ _ _ h => h) (yieldsIf_load_mid (by rfl) _ _ rfl _ _ rfl _ _ (fun y h => RvAt.ra h) Try.underlying23 rfl (by rw [HKA.out]; exact HCK.out)) hHeld ?_
        (try simp only [gs])
        refine wpAnyH_take (i := 5) rfl (by kernel_rfl) (by kernel_rfl) (by kernel_rfl) (fun _ _ _ h => h) (yieldsIf_load_mid (by rfl) _ _ rfl _ _ rfl _ _ (fun y h => RvAt.rk h) Try.underlying23 rfl (by rw [HKK.out]; exact HCK.out)) hHeld ?_
        (try simp only [gs])
        refine wpAnyH_take (i := 6) (v := .bool false) rfl (by kernel_rfl) (by kernel_rfl) (by kernel_rfl) (fun _ _ _ h => h) (Or.inl ⟨by rfl, fun w _ => HEQ.out _ _ _ _ _ rfl rfl rfl w⟩) hHeld ?_
        (try simp only [gs])
        generalize x9.drew = y1 at *
        refine wpAnyH_ready (rs := [1]) (by kernel_rfl) (by simp) (AllReadyH.cons rfl (fun K0 hK => ?_) AllReadyH.nil)
        rw [if_pos (by rfl)]
        (try simp only [gs])
        go_simp
        refine (vreads_at hHeld.at_ (show X6.n + 1 ≤ 50000 by have := HN9.out; omega)).mono ?_
        rintro e y2 ⟨vr, RR, rfl, o2, b2, i2, -⟩
        have hh := rhas_calls y2 vr RR o2.slB A.k A.h
        rw [i2.2 A.k A.h, HMR.out] at hh
        obtain ⟨adr, capr, rfl, -, -, -, -⟩ := id o2.slB
        refine hK.out _ _ (hHeld.called HML.out b2) (fun g1 => ?_)
        clear hK K0 i2
        (try simp only [gs])
        refine wpAnyH_ready (rs := [3]) (by kernel_rfl) (by simp) (AllReadyH.cons rfl (fun K0 hK => ?_) AllReadyH.nil)
        rw [if_pos (by rfl)]
        (try simp only [gs])
        go_simp
        refine hh.mono ?_
        clear hh
        rintro e y3 ⟨rfl, b3⟩
        refine hK.out _ _ (g1.called HML.out b3) (fun g2 => ?_)
        clear hK K0
        (try simp only [gs])
        refine wpAnyH_take (i := 7) (v := .bool false) rfl (by kernel_rfl) (by kernel_rfl) (by kernel_rfl) (fun _ _ _ h => h) (Or.inl ⟨by rfl, ?_⟩) g2 ?_
        case refine_1 => (intro w hSw; (try dsimp only at hSw); go_simp; first | done | rfl)
        (try simp only [gs])
        refine wpAnyH_take (i := 8) (v := undef) rfl (by kernel_rfl) (by kernel_rfl) (by kernel_rfl) (fun _ _ _ h => h) (Or.inr ⟨by rfl, rfl⟩) g2 ?_
        (try simp only [gs])
        refine wpAnyH_take (i := 9) (v := undef) rfl (by kernel_rfl) (by kernel_rfl) (by kernel_rfl) (fun _ _ _ h => h) (Or.inr ⟨by rfl, rfl⟩) g2 ?_
        (try simp only [gs])
        refine wpAnyH_take (i := 10) (v := .bool false) rfl (by kernel_rfl) (by kernel_rfl) (by kernel_rfl) (fun _ _ _ h => h) (Or.inl ⟨by rfl, ?_⟩) g2 ?_
        case refine_1 => (intro w hSw; (try dsimp only at hSw); go_simp; first | done | rfl)
        (try simp only [gs])
        refine wpAnyH_take (i := 11) (v := .bool false) rfl (by kernel_rfl) (by kernel_rfl) (by kernel_rfl) (fun _ _ _ h => h) (Or.inl ⟨by rfl, ?_⟩) g2 ?_
        case refine_1 => (intro w hSw; (try dsimp only at hSw); go_simp; first | done | rfl)
        (try simp only [gs])
        refine wpAnyH_take (i := 12) (v := .bool true) rfl (by kernel_rfl) (by kernel_rfl) (by kernel_rfl) (fun _ _ _ h => h) (Or.inl ⟨by rfl, ?_⟩) g2 ?_
        case refine_1 => (intro w hSw; (try dsimp only at hSw); go_simp; first | done | rfl)
        (try simp only [gs])
        refine wpAnyH_take (i := 13) (v := .bool true) rfl (by kernel_rfl) (by kernel_rfl) (by kernel_rfl) (fun _ _ _ h => h) (Or.inl ⟨by rfl, ?_⟩) g2 ?_
        case refine_1 => (intro w hSw; (try dsimp only at hSw); go_simp; first | done | rfl)
        (try simp only [gs])
        refine wpAnyH_take (i := 14) (v := .bool true) rfl (by kernel_rfl) (by kernel_rfl) (by kernel_rfl) (fun _ _ _ h => h) (Or.inl ⟨by rfl, ?_⟩) g2 ?_
        case refine_1 => (intro w hSw; (try dsimp only at hSw); go_simp; first | done | rfl)
        (try simp only [gs])
        refine wpAnyH_take (i := 15) (v := .bool true) rfl (by kernel_rfl) (by kernel_rfl) (by kernel_rfl) (fun _ _ _ h => h) (Or.inl ⟨by rfl, ?_⟩) g2 ?_
        case refine_1 => (intro w hSw; (try dsimp only at hSw); go_simp; first | done | rfl)
        (try simp only [gs])
        refine wpAnyH_done (by kernel_rfl) ?_ _
        refine NoPanic.normal ?_
        have HR10 : Hid (Below w.heap.size w y3) := g2.at_.bel
        clear g2 g1 hHeld b2 b3 HR9 HMR o2
        go_wp2_with fail
        go_ret
        exact ⟨rfl, HR10.out⟩
      | false =>
        have HIB : Hid (s.inb (num A.k) = false) := hib
        clear hib
        have HMR : Hid (mem ({ rdV K false with R := (rdV K false).R ++ [s] } : VS).R (num A.k) = false) := (show _ = _ by show mem ((rdV K false).R ++ [s]) (num A.k) = _; rw [rdV_scan, HAKE.out, HIB.out]; rfl)
        refine wp_region_noPanic ?_
        refine wp_region_held_drew (S := (fun y => RvAt w x3.heap.size p pv m q { X6 with n := X6.n + 1 } { rdV K false with R := (rdV K false).R ++ [s] } bb K A s y)) (by kernel_rfl) (HR9.out.1.drew HML.out) (fun hHeld => ?_)
        refine wpAnyH_take (i := 0) (v := ?_) rfl (by kernel_rfl) (by kernel_rfl) (by kernel_rfl) (fun _ _ _ h => h) (Or.inl ⟨by rfl, ?_⟩) hHeld ?_
        case refine_2 => (intro w hSw; (try dsimp only at hSw); go_simp; try (with_reducible rfl))
        (try simp only [gs])
        refine wpAnyH_take (i := 2) rfl (by kernel_rfl) (by kernel_rfl) (by kernel_rfl) (fun _ _ _ h => h) (yieldsIf_load_mid (by rfl) _ _ rfl _ _ rfl _ _ (fun y h => RvAt.ra h) Try.underlying23 rfl (by rw [HKA.out]; exact HCK.out)) hHeld ?_
        (try simp only [gs])
        refine wpAnyH_take (i := 4) rfl (by kernel_rfl) (by kernel_rfl) (by kernel_rfl) (fun _ _ _ h => h) (yieldsIf_load_mid (by rfl) _ _ rfl _ _ rfl _ _ (fun y h => RvAt.ra h) Try.underlying23 rfl (by rw [HKA.out]; exact HCK.out)) hHeld ?_
        (try simp only [gs])
        refine wpAnyH_take (i := 5) rfl (by kernel_rfl) (by kernel_rfl) (by kernel_rfl) (fun _ _ _ h => h) (yieldsIf_load_mid (by rfl) _ _ rfl _ _ rfl _ _ (fun y h => RvAt.rk h) Try.underlying23 rfl (by rw [HKK.out]; exact HCK.out)) hHeld ?_
        (try simp only [gs])
        refine wpAnyH_take (i := 6) (v := .bool false) rfl (by kernel_rfl) (by kernel_rfl) (by kernel_rfl) (fun _ _ _ h => h) (Or.inl ⟨by rfl, fun w _ => HEQ.out _ _ _ _ _ rfl rfl rfl w⟩) hHeld ?_
        (try simp only [gs])
        generalize x9.drew = y1 at *
        refine wpAnyH_ready (rs := [1]) (by kernel_rfl) (by simp) (AllReadyH.cons rfl (fun K0 hK => ?_) AllReadyH.nil)
        rw [if_pos (by rfl)]
        (try simp only [gs])
        go_simp
        refine (vreads_at hHeld.at_ (show X6.n + 1 ≤ 50000 by have := HN9.out; omega)).mono ?_
        rintro e y2 ⟨vr, RR, rfl, o2, b2, i2, -⟩
        have hh := rhas_calls y2 vr RR o2.slB A.k A.h
        rw [i2.2 A.k A.h, HMR.out] at hh
        obtain ⟨adr, capr, rfl, -, -, -, -⟩ := id o2.slB
        refine hK.out _ _ (hHeld.called HML.out b2) (fun g1 => ?_)
        clear hK K0 i2
        (try simp only [gs])
        refine wpAnyH_ready (rs := [3]) (by kernel_rfl) (by simp) (AllReadyH.cons rfl (fun K0 hK => ?_) AllReadyH.nil)
        rw [if_pos (by rfl)]
        (try simp only [gs])
        go_simp
        refine hh.mono ?_
        clear hh
        rintro e y3 ⟨rfl, b3⟩
        refine hK.out _ _ (g1.called HML.out b3) (fun g2 => ?_)
        clear hK K0
        (try simp only [gs])
        refine wpAnyH_take (i := 7) (v := .bool false) rfl (by kernel_rfl) (by kernel_rfl) (by kernel_rfl) (fun _ _ _ h => h) (Or.inl ⟨by rfl, ?_⟩) g2 ?_
        case refine_1 => (intro w hSw; (try dsimp only at hSw); go_simp; first | done | rfl)
        (try simp only [gs])
        refine wpAnyH_take (i := 8) (v := undef) rfl (by kernel_rfl) (by kernel_rfl) (by kernel_rfl) (fun _ _ _ h => h) (Or.inr ⟨by rfl, rfl⟩) g2 ?_
        (try simp only [gs])
        refine wpAnyH_take (i := 9) (v := undef) rfl (by kernel_rfl) (by kernel_rfl) (by kernel_rfl) (fun _ _ _ h => h) (Or.inr ⟨by rfl, rfl⟩) g2 ?_
        (try simp only [gs])
        refine wpAnyH_take (i := 10) (v := .bool false) rfl (by kernel_rfl) (by kernel_rfl) (by kernel_rfl) (fun _ _ _ h => h) (Or.inl ⟨by rfl, ?_⟩) g2 ?_
        case refine_1 => (intro w hSw; (try dsimp only at hSw); go_simp; first | done | rfl)
        (try simp only [gs])
        refine wpAnyH_take (i := 11) (v := .bool false) rfl (by kernel_rfl) (by kernel_rfl) (by kernel_rfl) (fun _ _ _ h => h) (Or.inl ⟨by rfl, ?_⟩) g2 ?_
        case refine_1 => (intro w hSw; (try dsimp only at hSw); go_simp; first | done | rfl)
        (try simp only [gs])
        refine wpAnyH_take (i := 12) (v := .bool false) rfl (by kernel_rfl) (by kernel_rfl) (by kernel_rfl) (fun _ _ _ h => h) (Or.inl ⟨by rfl, ?_⟩) g2 ?_
        case refine_1 => (intro w hSw; (try dsimp only at hSw); go_simp; first | done | rfl)
        (try simp only [gs])
        refine wpAnyH_take (i := 13) (v := .bool false) rfl (by kernel_rfl) (by kernel_rfl) (by kernel_rfl) (fun _ _ _ h => h) (Or.inl ⟨by rfl, ?_⟩) g2 ?_
        case refine_1 => (intro w hSw; (try dsimp only at hSw); go_simp; first | done | rfl)
        (try simp only [gs])
        refine wpAnyH_take (i := 14) (v := .bool true) rfl (by kernel_rfl) (by kernel_rfl) (by kernel_rfl) (fun _ _ _ h => h) (Or.inl ⟨by rfl, ?_⟩) g2 ?_
        case refine_1 => (intro w hSw; (try dsimp only at hSw); go_simp; first | done | rfl)
        (try simp only [gs])
        refine wpAnyH_take (i := 15) (v := .bool true) rfl (by kernel_rfl) (by kernel_rfl) (by kernel_rfl) (fun _ _ _ h => h) (Or.inl ⟨by rfl, ?_⟩) g2 ?_
        case refine_1 => (intro w hSw; (try dsimp only at hSw); go_simp; first | done | rfl)
        (try simp only [gs])
        refine wpAnyH_done (by kernel_rfl) ?_ _
        refine NoPanic.normal ?_
        have HR10 : Hid (Below w.heap.size w y3) := g2.at_.bel
        clear g2 g1 hHeld b2 b3 HR9 HMR o2
        go_wp2_with fail
        go_ret
        exact ⟨rfl, HR10.out⟩
end Go.Proofs.Ytkaoehmkmnkmaaa
