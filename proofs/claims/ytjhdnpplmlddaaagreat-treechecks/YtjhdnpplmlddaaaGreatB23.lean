import Derived.Test.YtjhdnpplmlddaaaGreatSi
import Derived.Test.YtjhdnpplmlddaaaGreatB22
import Derived.Lib.SliceRun
/- scan by induction over the levels; Scan. -/
namespace Go.Proofs.YtjhdnpplmlddaaaGreat
set_option linter.unusedVariables false
open Go.RowKit

theorem readP_right {g : Int → Nod × Int} {n lvl : Int} (q : (readP g n lvl).2 = 0) : rightN (readP g n lvl).1 = true := by
  unfold readP at q ⊢
  split at q
  · rename_i q1
    rw [if_pos q1]
    split at q
    · rename_i q2
      rw [if_pos q2]
      exact q2.1
    · simp at q
  · rename_i q1
    exact absurd q q1
theorem scan_calls {lim : Nat} {R : World → Prop} {iv : Value} {g : Int → Nod × Int} (D : Getter lim R iv g) (w0 : World) (hR : R w0) (hlim : lim ≤ w0.heap.size) (hkey : ∀ n, Keyed (g n).1) : ∀ (k : Nat) (w : World) (n lvl : Int) (s : Sp) (fv : Value) (l : List Pr),
    Below w0.heap.size w0 w → OwnP w0.heap.size w fv l → s.Ok → Rng n → ((readP g n lvl).2 = 0 → (readP g n lvl).1.lv ≤ (k : Int)) → l.length + (scanP g k n lvl s).2.length ≤ 1000000 →
    Calls Tryz.prog 36 #[iv, .int .i64 n, .int .i64 lvl, spv s, fv] w (ScanTo w0 w fv l (scanP g k n lvl s)) := by
  have hrk : ∀ n lvl, Keyed (readP g n lvl).1 := fun n lvl => by
    unfold readP
    split
    · split
      · exact hkey n
      · exact ⟨(fun p hp => by cases hp), fun p hp => by cases hp⟩
    · exact ⟨(fun p hp => by cases hp), fun p hp => by cases hp⟩
  intro k
  induction k with
  | zero =>
    intro w n lvl s fv l hb ho hs hn hlv hlen
    refine scan_step D w0 hR hlim _ w n lvl s fv l hb ho hs hn hlen ?_
    intro y i f l' h0 hi _ _ _
    have F := fits (readP_right h0)
    have h1 := hlv h0
    rcases F.one with ⟨_, q2, _⟩ | ⟨q1, _, _⟩
    · rw [q2] at hi; simp at hi
    · have := F.l0; exfalso; apply q1; simp at h1; omega
  | succ k ih =>
    intro w n lvl s fv l hb ho hs hn hlv hlen
    refine scan_step D w0 hR hlim _ w n lvl s fv l hb ho hs hn hlen ?_
    intro y i f l' h0 hi hy hf hl
    have F := fits (readP_right h0)
    have h1 := hlv h0
    have hn2 := F.bs _ (List.getElem_mem hi)
    have hl1 : 1 ≤ (readP g n lvl).1.lv := by
      rcases F.one with ⟨_, q2, _⟩ | ⟨q1, _, _⟩
      · rw [q2] at hi; simp at hi
      · have := F.l0; omega
    refine ih y _ _ _ f l' hy hf (narS_ok hs (fun j hj => (hrk n lvl).2 _ (List.getElem_mem hj)) i hi) (by rw [nAt_in hi]; exact rng_small hn2.1 hn2.2) (fun q => ?_) hl
    rw [(readP_ok q (by omega)).2]
    simp at h1
    omega
/-- What Scan tells. -/
def scanRoot (g : Int → Nod × Int) (root : Int) (s : Sp) : Int × List Pr := if root = 0 then (0, []) else scanP g 11 root (-1) s
set_option maxHeartbeats 8000000 in
set_option maxRecDepth 100000 in
theorem scanRoot_calls {lim : Nat} {R : World → Prop} {iv : Value} {g : Int → Nod × Int} (D : Getter lim R iv g) (hkey : ∀ n, Keyed (g n).1) (w : World) (root : Int) (s : Sp) (hR : R w) (hlim : lim ≤ w.heap.size) (hn : Rng root) (hs : s.Ok) (hlen : (scanRoot g root s).2.length ≤ 1000000) :
    Calls Tryz.prog 14 #[iv, .int .i64 root, spv s] w fun e w' => Below w.heap.size w w' ∧ ((¬ (scanRoot g root s).1 = 0 ∧ e = .returned (.tuple #[.slice none 0 0, .int .i64 (scanRoot g root s).1])) ∨ ((scanRoot g root s).1 = 0 ∧ ∃ fv, e = .returned (.tuple #[fv, .int .i64 0]) ∧ OwnP w.heap.size w' fv (scanRoot g root s).2)) := by
  obtain ⟨T0, rv, rfl⟩ := D.ifc
  obtain ⟨RS, hRS⟩ : ∃ RS, RS = scanRoot g root s := ⟨_, rfl⟩
  rw [← hRS] at hlen ⊢
  have HS0 : Hid (SpIn (w.alloc (.cells (sc s.F s.T s.e).toArray 27)) w.heap.size s.F s.T s.e ∧ Below w.heap.size w (w.alloc (.cells (sc s.F s.T s.e).toArray 27))) := ⟨(HasS.new w s.F s.T s.e hs.1 hs.2).sp, (Below.refl _ w).alloc (Nat.le_refl _) _⟩
  by_cases h0 : root = 0
  · have HF : Hid (RS = (0, [])) := (show _ = _ by rw [hRS, scanRoot, if_pos h0])
    have h0' : (root == 0) = true := by simpa using h0
    clear hRS h0
    go_enter Tryz.func14, Tryz.ntmps14
    go_wp2_with fail
    go_ret2
    exact ⟨HS0.out.2, .inr ⟨by rw [HF.out], _, rfl, by rw [HF.out]; exact World.ownsRow_nil _ _ _ _⟩⟩
  · have h0' : (root == 0) = false := by simpa using h0
    have HF : Hid (RS = scanP g 11 root (-1) s) := (show _ = _ by rw [hRS, scanRoot, if_neg h0])
    have HOK : Hid s.Ok := hs
    have HSC : Hid (∀ y, Below w.heap.size w y → Calls Tryz.prog 36 #[.iface T0 rv, .int .i64 root, .int .i64 (-1), spv s, .slice none 0 0] y (ScanTo y y (.slice none 0 0) [] RS)) := fun y hy => by
      rw [HF.out]
      exact scan_calls D y (D.mono _ _ hR hy) (Nat.le_trans hlim hy.size) hkey 11 y root (-1) s (.slice none 0 0) [] (Below.refl _ _) (World.ownsRow_nil _ _ _ _) hs hn (fun q => by have := (fits (readP_right q)).l1; simp; omega) (by rw [← HF.out]; simpa using hlen)
    clear hRS h0 D hR hlim hn hs hlen hkey HF
    go_enter Tryz.func14, Tryz.ntmps14
    go_upto_region 3 with fail
    refine wp_region_noPanic ?_
    refine wp_region_held_drew (S := (fun y => SpIn y w.heap.size s.F s.T s.e ∧ Below w.heap.size w y)) (by kernel_rfl) ⟨HS0.out.1.same rfl, below_drewN HS0.out.2 1⟩ (fun hHeld => ?_)
    refine wpAnyH_take (i := 0) (v := ?_) rfl (by kernel_rfl) (by kernel_rfl) (by kernel_rfl) (fun _ _ _ h => h) (Or.inl ⟨by rfl, ?_⟩) hHeld ?_
    case refine_2 => (intro w hSw; (try dsimp only at hSw); go_simp; try (with_reducible rfl))
    (try simp only [gs])
    refine wpAnyH_take (i := 2) (v := ?_) rfl (by kernel_rfl) (by kernel_rfl) (by kernel_rfl) (fun _ _ _ h => h) (Or.inl ⟨by rfl, ?_⟩) hHeld ?_
    case refine_2 => (intro w hSw; (try dsimp only at hSw); go_simp; try (with_reducible rfl))
    (try simp only [gs])
    refine wpAnyH_take (i := 3) rfl (by kernel_rfl) (by kernel_rfl) (by kernel_rfl) (fun _ _ _ h => h) (yieldsIf_load_mid (by rfl) _ _ rfl _ _ rfl _ _ (fun _ h => h.1.r) Tryz.underlying27 rfl (by rw [sc_length _ _ _ HOK.out.1 HOK.out.2]; exact Tryz.span_info)) hHeld ?_
    (try simp only [gs])
    generalize (w.alloc (.cells (sc s.F s.T s.e).toArray 27)).drew = y0 at *
    refine wpAnyH_ready (rs := [1]) (by kernel_rfl) (by simp) (AllReadyH.cons rfl (fun K hK => ?_) AllReadyH.nil)
    rw [if_pos (by rfl)]
    (try simp only [gs])
    go_simp
    refine (given_calls _ T0 rv).mono ?_
    rintro e y1 ⟨rfl, rfl⟩
    refine hK.out _ _ hHeld (fun g1 => ?_)
    clear hK K
    (try simp only [gs])
    have hsc := HSC.out _ g1.2
    refine wpAnyH_ready (rs := [4]) (by kernel_rfl) (by simp) (AllReadyH.cons rfl (fun K hK => ?_) AllReadyH.nil)
    rw [if_pos (by rfl)]
    (try simp only [gs])
    go_simp
    refine hsc.mono ?_
    rintro e y2 ⟨b2, f2, ⟨q, rfl⟩ | ⟨q, fw, rfl, o2, n2⟩⟩
    · have HQ : Hid (¬ RS.1 = 0) := q
      clear q
      refine hK.out _ _ ⟨g1.1.below b2 g1.1.lt, g1.2.trans (b2.mono g1.2.size)⟩ (fun g2 => ?_)
      clear hK K
      (try simp only [gs])
      refine wpAnyH_take (i := 5) (v := ?_) rfl (by kernel_rfl) (by kernel_rfl) (by kernel_rfl) (fun _ _ _ h => h) (Or.inl ⟨by rfl, ?_⟩) g2 ?_
      case refine_2 => (intro w hSw; (try dsimp only at hSw); go_simp; try (with_reducible rfl))
      (try simp only [gs])
      refine wpAnyH_take (i := 6) (v := ?_) rfl (by kernel_rfl) (by kernel_rfl) (by kernel_rfl) (fun _ _ _ h => h) (Or.inl ⟨by rfl, ?_⟩) g2 ?_
      case refine_2 => (intro w hSw; (try dsimp only at hSw); go_simp; try (with_reducible rfl))
      (try simp only [gs])
      refine wpAnyH_take (i := 7) (v := ?_) rfl (by kernel_rfl) (by kernel_rfl) (by kernel_rfl) (fun _ _ _ h => h) (Or.inl ⟨by rfl, ?_⟩) g2 ?_
      case refine_2 => (intro w hSw; (try dsimp only at hSw); go_simp; try (with_reducible rfl))
      (try simp only [gs])
      refine wpAnyH_take (i := 8) (v := ?_) rfl (by kernel_rfl) (by kernel_rfl) (by kernel_rfl) (fun _ _ _ h => h) (Or.inl ⟨by rfl, ?_⟩) g2 ?_
      case refine_2 => (intro w hSw; (try dsimp only at hSw); go_simp; try (with_reducible rfl))
      (try simp only [gs])
      refine wpAnyH_done (by kernel_rfl) ?_ _
      refine NoPanic.normal ?_
      go_wp2_with fail
      go_ret2
      exact ⟨g2.2, .inl ⟨HQ.out, rfl⟩⟩
    · have HQ : Hid (RS.1 = 0 ∧ OwnP w.heap.size y2 fw RS.2) := ⟨q, own_lower (by simpa using o2) g1.2.size⟩
      clear q o2 n2
      refine hK.out _ _ ⟨g1.1.below b2 g1.1.lt, g1.2.trans (b2.mono g1.2.size)⟩ (fun g2 => ?_)
      clear hK K
      (try simp only [gs])
      refine wpAnyH_take (i := 5) (v := ?_) rfl (by kernel_rfl) (by kernel_rfl) (by kernel_rfl) (fun _ _ _ h => h) (Or.inl ⟨by rfl, ?_⟩) g2 ?_
      case refine_2 => (intro w hSw; (try dsimp only at hSw); go_simp; try (with_reducible rfl))
      (try simp only [gs])
      refine wpAnyH_take (i := 6) (v := ?_) rfl (by kernel_rfl) (by kernel_rfl) (by kernel_rfl) (fun _ _ _ h => h) (Or.inl ⟨by rfl, ?_⟩) g2 ?_
      case refine_2 => (intro w hSw; (try dsimp only at hSw); go_simp; try (with_reducible rfl))
      (try simp only [gs])
      refine wpAnyH_take (i := 7) (v := ?_) rfl (by kernel_rfl) (by kernel_rfl) (by kernel_rfl) (fun _ _ _ h => h) (Or.inl ⟨by rfl, ?_⟩) g2 ?_
      case refine_2 => (intro w hSw; (try dsimp only at hSw); go_simp; try (with_reducible rfl))
      (try simp only [gs])
      refine wpAnyH_take (i := 8) (v := ?_) rfl (by kernel_rfl) (by kernel_rfl) (by kernel_rfl) (fun _ _ _ h => h) (Or.inl ⟨by rfl, ?_⟩) g2 ?_
      case refine_2 => (intro w hSw; (try dsimp only at hSw); go_simp; try (with_reducible rfl))
      (try simp only [gs])
      refine wpAnyH_done (by kernel_rfl) ?_ _
      refine NoPanic.normal ?_
      go_wp2_with fail
      go_ret2
      exact ⟨g2.2, .inr ⟨HQ.out.1, fw, rfl, HQ.out.2⟩⟩
end Go.Proofs.YtjhdnpplmlddaaaGreat
/- slices.Clone of pairs and kids, apart. -/
namespace Go.Proofs.YtjhdnpplmlddaaaGreat
set_option linter.unusedVariables false
open Go.RowKit

theorem eqlPair_nil (w : World) (a : Option Addr) (n c n' c' : Nat) : (binOp .eql 39 (.slice a n c) (.slice none n' c')).run Tryz.prog w = .ok (.bool a.isNone) w := Lib.run_eql_slice_nil w _ _ a n c n' c' Tryz.underlying39
set_option maxHeartbeats 4000000 in
set_option maxRecDepth 100000 in
theorem clonePair_calls (w : World) (sv : Value) (l : List Pr) (h : Els w sv (l.map Pr.el)) (h20 : l.length ≤ 20) (hnil : NilOk sv) :
    Calls Tryz.prog 75 #[sv] w fun e w' => ∃ sv', e = .returned sv' ∧ ElsN w' sv' (l.map Pr.el) w.heap.size ∧ Below w.heap.size w w' := by
  obtain ⟨r, ⟨ad, cap, e1, h2, h3, ho, hc⟩, h4⟩ := h
  rw [List.length_map] at e1
  subst e1
  cases ad with
  | none =>
    have hl : l = [] := by
      rcases hc with hc | ⟨g, off, q, _⟩
      · exact List.map_eq_nil_iff.1 hc
      · cases q
    subst hl
    have hc0 : cap = 0 := hnil _ _ rfl
    subst hc0
    have hq := eqlPair_nil w none 0 0 0 0
    go_enter Tryz.func75, Tryz.ntmps75
    go_wp2_with fail
    go_ret
    exact ⟨_, rfl, ⟨⟨none, ⟨none, 0, rfl, Nat.le_refl _, Nat.zero_le _, (fun i hi => by cases hi), .inl rfl⟩, (fun k hk => by cases hk), fun k off c e => by cases e⟩, fun n c e => by cases e; rfl⟩, Below.refl _ _⟩
  | some A =>
    have HA : Hid (∃ A', some A = some A' ∧ ∀ j u, (flat (l.map Pr.el))[j]? = some u → (w.alloc (.cells #[] 89)).cell? (A'.add j) = some u) := ⟨A, rfl, fun j u hu => by
      rcases hc with hc | ⟨g, off, q, _, hg, hr⟩
      · rw [hc] at hu; simp [flat] at hu
      · cases q
        rw [add_lit]
        exact Lib.cell?_alloc_some _ (flat_cells _ off ho hr j u hu)⟩
    have HO : Hid (∀ i (hi : i < (l.map Pr.el).length), ((l.map Pr.el)[i]).Ok) := ho
    have HL : Hid (l.length = (l.map Pr.el).length) := (show _ = _ by simp)
    have hq := eqlPair_nil w (some A) l.length cap 0 0
    clear hc ho h4 hnil
    go_enter Tryz.func75, Tryz.ntmps75
    go_wp2_with (at_builtin; refine append_P rfl (.tmp 5) (.tmp 6) rfl w rfl rfl (some A) l.length cap _ rfl HL.out h20 HO.out (.inr HA.out) ?_; intro a' c' w1 en bl)
    go_ret
    exact ⟨_, rfl, en, bl⟩
theorem eqlKid_nil (w : World) (a : Option Addr) (n c n' c' : Nat) : (binOp .eql 58 (.slice a n c) (.slice none n' c')).run Tryz.prog w = .ok (.bool a.isNone) w := Lib.run_eql_slice_nil w _ _ a n c n' c' Tryz.underlying58
set_option maxHeartbeats 4000000 in
set_option maxRecDepth 100000 in
theorem cloneKid_calls (w : World) (sv : Value) (l : List Kd) (h : Els w sv (l.map Kd.el)) (h20 : l.length ≤ 20) (hnil : NilOk sv) :
    Calls Tryz.prog 76 #[sv] w fun e w' => ∃ sv', e = .returned sv' ∧ ElsN w' sv' (l.map Kd.el) w.heap.size ∧ Below w.heap.size w w' := by
  obtain ⟨r, ⟨ad, cap, e1, h2, h3, ho, hc⟩, h4⟩ := h
  rw [List.length_map] at e1
  subst e1
  cases ad with
  | none =>
    have hl : l = [] := by
      rcases hc with hc | ⟨g, off, q, _⟩
      · exact List.map_eq_nil_iff.1 hc
      · cases q
    subst hl
    have hc0 : cap = 0 := hnil _ _ rfl
    subst hc0
    have hq := eqlKid_nil w none 0 0 0 0
    go_enter Tryz.func76, Tryz.ntmps76
    go_wp2_with fail
    go_ret
    exact ⟨_, rfl, ⟨⟨none, ⟨none, 0, rfl, Nat.le_refl _, Nat.zero_le _, (fun i hi => by cases hi), .inl rfl⟩, (fun k hk => by cases hk), fun k off c e => by cases e⟩, fun n c e => by cases e; rfl⟩, Below.refl _ _⟩
  | some A =>
    have HA : Hid (∃ A', some A = some A' ∧ ∀ j u, (flat (l.map Kd.el))[j]? = some u → (w.alloc (.cells #[] 93)).cell? (A'.add j) = some u) := ⟨A, rfl, fun j u hu => by
      rcases hc with hc | ⟨g, off, q, _, hg, hr⟩
      · rw [hc] at hu; simp [flat] at hu
      · cases q
        rw [add_lit]
        exact Lib.cell?_alloc_some _ (flat_cells _ off ho hr j u hu)⟩
    have HO : Hid (∀ i (hi : i < (l.map Kd.el).length), ((l.map Kd.el)[i]).Ok) := ho
    have HL : Hid (l.length = (l.map Kd.el).length) := (show _ = _ by simp)
    have hq := eqlKid_nil w (some A) l.length cap 0 0
    clear hc ho h4 hnil
    go_enter Tryz.func76, Tryz.ntmps76
    go_wp2_with (at_builtin; refine append_K rfl (.tmp 5) (.tmp 6) rfl w rfl rfl (some A) l.length cap _ rfl HL.out h20 HO.out (.inr HA.out) ?_; intro a' c' w1 en bl)
    go_ret
    exact ⟨_, rfl, en, bl⟩
theorem Tryz.node3 (lv : Int) (a b : Option Addr) (n c m e : Nat) : Tryz.prog.built 60 [(0, .int .i64 lv), (1, .slice a n c), (2, .slice b m e)] = some #[.int .i64 lv, .slice a n c, .slice b m e] := by kernel_rfl
theorem ElsN.form {y : World} {sv : Value} {l : List El} {B : Nat} (h : ElsN y sv l B) : ∃ a c, sv = .slice a l.length c := by
  obtain ⟨⟨r, ⟨ad, cap, e, _⟩, _⟩, _⟩ := h
  exact ⟨ad, cap, e⟩
/-- What apart gives: the same node, in rows of its own. -/
def ApartTo (w : World) (X : Nod) (e : Ending) (w' : World) : Prop := ∃ pv qv, e = .returned (nv X pv qv) ∧ ElsN w' pv (X.ps.map Pr.el) w.heap.size ∧ ElsN w' qv (X.ks.map Kd.el) w.heap.size ∧ Below w.heap.size w w'
set_option maxHeartbeats 4000000 in
set_option maxRecDepth 100000 in
theorem apart_node (w : World) (X : Nod) (pv qv : Value) (h : Parts w X pv qv) (h20 : X.ps.length ≤ 20 ∧ X.ks.length ≤ 20) (hn : NilOk pv ∧ NilOk qv) : Calls Tryz.prog 56 #[nv X pv qv] w (ApartTo w X) := by
  have B0 : Below w.heap.size w ((w.alloc (.cells (nc X pv qv) 60)).alloc (.cells #[.int .i64 0, .slice none 0 0, .slice none 0 0] 60)) := ((Below.refl _ w).alloc (Nat.le_refl _) _).alloc (by simp) _
  have HW0 : Hid (HasN ((w.alloc (.cells (nc X pv qv) 60)).alloc (.cells #[.int .i64 0, .slice none 0 0, .slice none 0 0] 60)) w.heap.size X pv qv ∧ Parts ((w.alloc (.cells (nc X pv qv) 60)).alloc (.cells #[.int .i64 0, .slice none 0 0, .slice none 0 0] 60)) X pv qv ∧ HasN ((w.alloc (.cells (nc X pv qv) 60)).alloc (.cells #[.int .i64 0, .slice none 0 0, .slice none 0 0] 60)) (w.heap.size + 1) nilN (.slice none 0 0) (.slice none 0 0) ∧ Below w.heap.size w ((w.alloc (.cells (nc X pv qv) 60)).alloc (.cells #[.int .i64 0, .slice none 0 0, .slice none 0 0] 60))) := ⟨(HasN.new w X _ _ _ rfl h.p.one h.q.one).alloc _, h.below B0, HasN.new _ nilN _ _ _ (by simp) rfl rfl, B0⟩
  have H20 : Hid (X.ps.length ≤ 20 ∧ X.ks.length ≤ 20) := h20
  have HNL : Hid (NilOk pv ∧ NilOk qv) := hn
  have HSZ : Hid (w.heap.size + 2 ≤ ((w.alloc (.cells (nc X pv qv) 60)).alloc (.cells #[.int .i64 0, .slice none 0 0, .slice none 0 0] 60)).drew.heap.size) := (show _ ≤ _ by simp)
  clear h h20 hn B0
  go_enter Tryz.func56, Tryz.ntmps56
  go_upto_region 1 with fail
  refine wp_region_noPanic ?_
  refine wp_region_held_drew (S := (fun y => HasN y w.heap.size X pv qv ∧ Parts y X pv qv ∧ Below w.heap.size w y)) (by kernel_rfl) ⟨HW0.out.1.same rfl, HW0.out.2.1.below ⟨rfl, rfl, rfl, Nat.le_refl _, fun _ _ => rfl⟩, below_drewN HW0.out.2.2.2 1⟩ (fun hHeld => ?_)
  refine wpAnyH_take (i := 0) (v := ?_) rfl (by kernel_rfl) (by kernel_rfl) (by kernel_rfl) (fun _ _ _ h => h) (Or.inl ⟨by rfl, ?_⟩) hHeld ?_
  case refine_2 => (intro w hSw; (try dsimp only at hSw); obtain ⟨k0, k1, k2⟩ := hSw.1.cells; go_simp; try (with_reducible rfl))
  (try simp only [gs])
  refine wpAnyH_take (i := 1) (v := ?_) rfl (by kernel_rfl) (by kernel_rfl) (by kernel_rfl) (fun _ _ _ h => h) (Or.inl ⟨by rfl, ?_⟩) hHeld ?_
  case refine_2 => (intro w hSw; (try dsimp only at hSw); obtain ⟨k0, k1, k2⟩ := hSw.1.cells; go_simp; try (with_reducible rfl))
  (try simp only [gs])
  refine wpAnyH_take (i := 2) (v := ?_) rfl (by kernel_rfl) (by kernel_rfl) (by kernel_rfl) (fun _ _ _ h => h) (Or.inl ⟨by rfl, ?_⟩) hHeld ?_
  case refine_2 => (intro w hSw; (try dsimp only at hSw); obtain ⟨k0, k1, k2⟩ := hSw.1.cells; go_simp; try (with_reducible rfl))
  (try simp only [gs])
  refine wpAnyH_take (i := 3) (v := ?_) rfl (by kernel_rfl) (by kernel_rfl) (by kernel_rfl) (fun _ _ _ h => h) (Or.inl ⟨by rfl, ?_⟩) hHeld ?_
  case refine_2 => (intro w hSw; (try dsimp only at hSw); obtain ⟨k0, k1, k2⟩ := hSw.1.cells; go_simp; try (with_reducible rfl))
  (try simp only [gs])
  refine wpAnyH_take (i := 5) (v := ?_) rfl (by kernel_rfl) (by kernel_rfl) (by kernel_rfl) (fun _ _ _ h => h) (Or.inl ⟨by rfl, ?_⟩) hHeld ?_
  case refine_2 => (intro w hSw; (try dsimp only at hSw); obtain ⟨k0, k1, k2⟩ := hSw.1.cells; go_simp; try (with_reducible rfl))
  (try simp only [gs])
  refine wpAnyH_take (i := 6) (v := ?_) rfl (by kernel_rfl) (by kernel_rfl) (by kernel_rfl) (fun _ _ _ h => h) (Or.inl ⟨by rfl, ?_⟩) hHeld ?_
  case refine_2 => (intro w hSw; (try dsimp only at hSw); obtain ⟨k0, k1, k2⟩ := hSw.1.cells; go_simp; try (with_reducible rfl))
  (try simp only [gs])
  have Z0 : HasN ((w.alloc (.cells (nc X pv qv) 60)).alloc (.cells #[.int .i64 0, .slice none 0 0, .slice none 0 0] 60)).drew (w.heap.size + 1) nilN (.slice none 0 0) (.slice none 0 0) := HW0.out.2.2.1.same rfl
  generalize ((w.alloc (.cells (nc X pv qv) 60)).alloc (.cells #[.int .i64 0, .slice none 0 0, .slice none 0 0] 60)).drew = y0 at *
  refine wpAnyH_ready (rs := [4]) (by kernel_rfl) (by simp) (AllReadyH.cons rfl (fun K hK => ?_) AllReadyH.nil)
  rw [if_pos (by rfl)]
  (try simp only [gs])
  go_simp
  refine (clonePair_calls y0 pv X.ps hHeld.2.1.p H20.out.1 HNL.out.1).mono ?_
  rintro e y1 ⟨tp, rfl, en1, b1⟩
  refine hK.out _ _ ⟨hHeld.1.below b1 hHeld.1.lt, hHeld.2.1.below b1, hHeld.2.2.trans (b1.mono hHeld.2.2.size)⟩ (fun g1 => ?_)
  clear hK K
  (try simp only [gs])
  refine wpAnyH_ready (rs := [7]) (by kernel_rfl) (by simp) (AllReadyH.cons rfl (fun K hK => ?_) AllReadyH.nil)
  rw [if_pos (by rfl)]
  (try simp only [gs])
  go_simp
  refine (cloneKid_calls y1 qv X.ks g1.2.1.q H20.out.2 HNL.out.2).mono ?_
  rintro e y2 ⟨tq, rfl, en2, b2⟩
  refine hK.out _ _ ⟨g1.1.below b2 g1.1.lt, g1.2.1.below b2, g1.2.2.trans (b2.mono g1.2.2.size)⟩ (fun g2 => ?_)
  clear hK K
  (try simp only [gs])
  have Z2 := (Z0.below b1 Z0.lt).below b2 (Nat.lt_of_lt_of_le Z0.lt b1.size)
  have E1 : ElsN y2 tp (X.ps.map Pr.el) y0.heap.size := en1.kept (fun k _ hk => b2.block k hk) b2.size
  have E2 : ElsN y2 tq (X.ks.map Kd.el) y0.heap.size := en2.mono b1.size
  obtain ⟨pa, pc, hpf⟩ := E1.form
  obtain ⟨qa, qc, hqf⟩ := E2.form
  have HB3 : Hid (Tryz.prog.built 60 [(0, .int .i64 X.lv), (1, tp), (2, tq)] = some #[.int .i64 X.lv, tp, tq]) := (show _ = _ by rw [hpf, hqf]; exact Tryz.node3 _ _ _ _ _ _ _)
  clear hpf hqf
  have h1p := E1.els.one
  have h1q := E2.els.one
  refine wpAnyH_take (i := 8) (v := nv X tp tq) rfl (by kernel_rfl) (by kernel_rfl) (by kernel_rfl) (fun _ _ _ h => h) (Or.inl ⟨by rfl, fun _ _ => build_run 60 _ rfl [(0, .int .i64 X.lv), (1, tp), (2, tq)] (by simp only [List.map_toArray, List.map_cons, List.map_nil]; rfl) _ HB3.out⟩) g2 ?_
  (try simp only [gs])
  refine wpAnyH_ready (rs := [9]) (by kernel_rfl) (by simp) (AllReadyH.cons rfl (fun K hK => ?_) AllReadyH.nil)
  rw [if_pos (by rfl)]
  (try simp only [gs])
  refine store_node_op _ _ rfl (w.heap.size + 1) rfl X tp tq rfl h1p h1q nilN _ _ Z2 ?_
  intro y3 hu tx sx
  have HF : Hid (HasN y3 (w.heap.size + 1) X tp tq ∧ ElsN y3 tp (X.ps.map Pr.el) (w.heap.size + 2) ∧ ElsN y3 tq (X.ks.map Kd.el) (w.heap.size + 2) ∧ Below w.heap.size w y3) := ⟨hu, (E1.mono HSZ.out).kept (fun k hk hl => tx.block k hl (by omega) (by simp)) tx.size, (E2.mono HSZ.out).kept (fun k hk hl => tx.block k hl (by omega) (by simp)) tx.size, below_touched g2.2.2 tx (by omega) (Nat.le_refl _)⟩
  refine hK.out _ _ ⟨g2.1.touch tx (by omega), g2.2.1.touchN Z2 tx, HF.out.2.2.2⟩ (fun g3 => ?_)
  clear hK K
  (try simp only [gs])
  refine wpAnyH_done (by kernel_rfl) ?_ _
  refine NoPanic.normal ?_
  go_wp2_with fail
  refine ret_node rfl _ _ _ _ rfl HF.out.1 rfl ?_
  exact ⟨tp, tq, rfl, HF.out.2.1.mono (by omega), HF.out.2.2.1.mono (by omega), HF.out.2.2.2⟩
end Go.Proofs.YtjhdnpplmlddaaaGreat
