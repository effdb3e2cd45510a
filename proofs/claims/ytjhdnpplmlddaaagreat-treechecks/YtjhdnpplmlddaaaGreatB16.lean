import Derived.Test.YtjhdnpplmlddaaaGreatSi
import Derived.Test.YtjhdnpplmlddaaaGreatB10
import Derived.Test.YtjhdnpplmlddaaaGreatB13
import Derived.Test.YtjhdnpplmlddaaaGreatB15
import Derived.Test.YtjhdnpplmlddaaaGreatB07
/- The document's own words on trees: find, right, Right. -/
namespace Go.Proofs.YtjhdnpplmlddaaaGreat
set_option linter.unusedVariables false
open Go.RowKit

def FindTo (w : World) (r : Nod × Int) (e : Ending) (w' : World) : Prop := ∃ pv qv, e = .returned (.tuple #[nv r.1 pv qv, .bool (r.2 == 0)]) ∧ Parts w' r.1 pv qv ∧ Below w.heap.size w w'
set_option maxHeartbeats 8000000 in
set_option maxRecDepth 100000 in
theorem rfind_calls (w : World) (lim : Nat) (v : Value) (l : List Ent) (n : Int) (h : BagIn w lim v l) : Calls Tryz.prog 41 #[v, .int .i64 n] w (FindTo w (bagG l n)) := by
  have hl' := h.sl
  obtain ⟨ad, cap, rfl, hcap, hmax, _, _⟩ := hl'
  have HI : Hid (∀ i (hi : i < l.length), ∃ g off, ad = some ⟨g, off, none⟩ ∧ g < lim ∧ w.rangeAt g (off + i * 4) (encT.c l[i])) := fun i hi => SlB.at h.sl i hi
  have HPT : Hid (lim ≤ w.heap.size ∧ ∀ e ∈ l, Parts w e.x e.pv e.qv ∧ Lim (· < lim) e.pv ∧ Lim (· < lim) e.qv) := ⟨h.le, h.pt⟩
  obtain ⟨N, hN⟩ : ∃ N : Nat, N = l.length := ⟨_, rfl⟩
  rw [← hN] at hcap hmax ⊢
  have HN : Hid (N = l.length) := hN
  have hmN : (N : Int) ≤ 9223372036854775807 := by unfold maxLen at hmax; omega
  have HST : Hid (Below w.heap.size w (w.alloc (.cells #[.int .i64 0, .slice none 0 0, .slice none 0 0] 60)) ∧ HasN (w.alloc (.cells #[.int .i64 0, .slice none 0 0, .slice none 0 0] 60)) w.heap.size nilN (.slice none 0 0) (.slice none 0 0)) := ⟨(Below.refl _ w).alloc (Nat.le_refl _) _, HasN.new _ nilN _ _ _ rfl rfl rfl⟩
  obtain ⟨RES, hRES⟩ : ∃ R, R = bagG l n := ⟨_, rfl⟩
  have HR0 : Hid (bagG (l.drop 0) n = RES) := hRES.symm
  rw [← hRES]
  clear hN h hRES hcap hmax
  go_enter Tryz.func41, Tryz.ntmps41
  go_wp2_with fail
  go_loopg [6] N (fun g i wr => ∃ k : Nat, k + g = N ∧ i = .int .i64 (k : Int) ∧ Hid (Below w.heap.size w wr ∧ HasN wr w.heap.size nilN (.slice none 0 0) (.slice none 0 0)) ∧ Hid (bagG (l.drop k) n = RES))
  case atStart => exact ⟨0, by omega, rfl, HST.out, HR0.out⟩
  case round =>
    obtain ⟨k, hkg, rfl, HE, HD⟩ := hrel
    clear HST HR0
    cases gk with
    | zero =>
      have hkN : k = N := by omega
      subst hkN
      have HRR : Hid (RES = (nilN, 1)) := (show _ = _ by rw [← HD.out, HN.out, List.drop_length]; rfl)
      clear HD HI HPT
      go_wp2_with (first
        | (refine build_any rfl 60 _ rfl [] rfl _ Tryz.node0 ?_)
        | (refine store_node rfl _ _ rfl w.heap.size rfl nilN (.slice none 0 0) (.slice none 0 0) rfl rfl rfl nilN (.slice none 0 0) (.slice none 0 0) HE.out.2 ?_; intro y hy ty sy))
      refine ret_node_ok rfl _ _ _ _ _ rfl rfl hy rfl ?_
      rw [HRR.out]
      exact ⟨_, _, rfl, Parts.nil _, below_touched HE.out.1 ty (Nat.le_refl _) (Nat.le_refl _)⟩
    | succ g =>
      have hlt : k < N := by omega
      have hltI : (k : Int) < (N : Int) := by omega
      have hk0 : (0 : Int) ≤ (k : Int) := by omega
      have hkl : k < l.length := by rw [← HN.out]; exact hlt
      obtain ⟨g0, off, rfl, hg0, hat⟩ := HI.out k hkl
      have hgl : g0 < w.heap.size := Nat.lt_of_lt_of_le hg0 HPT.out.1
      obtain ⟨c1, hrv⟩ := bag_at (range_same' hat (HE.out.1.block g0 hgl))
      have HV : Hid (wr.rangeAt g0 (off + k * 4 + 1) (encV.c l[k])) := hrv
      have HX : Hid (Parts w (l[k]).x (l[k]).pv (l[k]).qv ∧ Lim (· < lim) (l[k]).pv ∧ Lim (· < lim) (l[k]).qv) := HPT.out.2 _ (List.getElem_mem _)
      have HD' : Hid (RES = if (l[k]).n = n then ((l[k]).x, 0) else bagG (l.drop (k + 1)) n) := (show _ = _ by rw [← HD.out, bagG_drop hkl])
      generalize l[k] = e at *
      clear hat hrv HD hgl hg0
      by_cases he : e.n = n
      · have HRR : Hid (RES = (e.x, 0)) := (show _ = _ by rw [HD'.out, if_pos he])
        have hb : (e.n == n) = true := by simpa using he
        clear he HD'
        go_wp2_with (first
          | (refine load_el elV _ rfl g0 (off + k * 4 + 1) rfl rfl e HV.out ?_)
          | (refine store_node rfl _ _ rfl w.heap.size rfl e.x e.pv e.qv rfl rfl rfl nilN (.slice none 0 0) (.slice none 0 0) HE.out.2 ?_; intro y hy ty sy))
        refine ret_node_ok rfl _ _ _ _ _ rfl rfl hy rfl ?_
        rw [HRR.out]
        have B2 : Below w.heap.size w y := below_touched HE.out.1 ty (Nat.le_refl _) (Nat.le_refl _)
        exact ⟨_, _, rfl, HX.out.1.below B2, B2⟩
      · have HRR : Hid (bagG (l.drop (k + 1)) n = RES) := (show _ = _ by rw [HD'.out, if_neg he])
        have hb : (e.n == n) = false := by simpa using he
        clear he HD' HX HV HPT
        have hws : wrap64 ((k : Int) + 1) = ((k + 1 : Nat) : Int) := by unfold wrap64; omega
        go_wp2_with fail
        go_roundg g
        case measure => omega
        exact ⟨k + 1, by omega, by simp, HE.out, HRR.out⟩
theorem wrap64_of_range7 {n : Int} (h1 : -9223372036854775808 ≤ n) (h2 : n ≤ 9223372036854775807) : IntKind.i64.wrap n = n := by
  rw [IntKind.wrap_i64]
  omega
theorem or_no : ∀ a b : Bool, false = (!a || b) → a = true ∧ b = false := by decide
theorem or_yes : ∀ a b : Bool, true = (!a || b) → a = false ∨ (a = true ∧ b = true) := by decide
theorem range_has7 {w : World} {b : Nat} {K : List UInt8} (h : Has w b K) : w.rangeAt b 0 (bc K) := fun j v hv => by
  rw [Nat.zero_add, cell_of_row w b _ _ _ _ h.2]
  simpa using hv
/-- What right holds in memory: the node and the bound that were handed in; the entries. -/
structure DR (lim : Nat) (v : Value) (l : List Ent) (w y : World) (x : Nod) (pv qv : Value) (top : List UInt8) : Prop where
  m : HasN y w.heap.size x pv qv
  t : Has y (w.heap.size + 1) top
  q : Parts y x pv qv
  g : BagIn y lim v l
  bel : Below w.heap.size w y
theorem DR.called {lim : Nat} {v : Value} {l : List Ent} {w y z : World} {x : Nod} {pv qv : Value} {top : List UInt8} (h : DR lim v l w y x pv qv top) (b : Below y.heap.size y z) : DR lim v l w z x pv qv top :=
  ⟨h.m.below b h.m.lt, h.t.below b h.t.lt, h.q.below b, h.g.below b, h.bel.trans (b.mono h.bel.size)⟩
/-- Beside them, of a round: the kid and its node. -/
structure DY (lim : Nat) (v : Value) (l : List Ent) (w y : World) (x : Nod) (pv qv : Value) (top : List UInt8) (d : Nat) (E : El) (d2 : Nat) (Y : Nod) (py qy : Value) : Prop where
  c : DR lim v l w y x pv qv top
  k : HasK y d E
  m : HasN y d2 Y py qy
  q : Parts y Y py qy
theorem DY.called {lim : Nat} {v : Value} {l : List Ent} {w y z : World} {x : Nod} {pv qv : Value} {top : List UInt8} {d : Nat} {E : El} {d2 : Nat} {Y : Nod} {py qy : Value} (h : DY lim v l w y x pv qv top d E d2 Y py qy) (b : Below y.heap.size y z) : DY lim v l w z x pv qv top d E d2 Y py qy :=
  ⟨h.c.called b, h.k.below b h.k.lt, h.m.below b h.m.lt, h.q.below b⟩
set_option maxHeartbeats 16000000 in
set_option maxRecDepth 100000 in
theorem rdoc_step (lim : Nat) (v : Value) (l : List Ent) (x : Nod) (rec : Nod → List UInt8 → Bool → Bool)
    (hrec : rightN x = true → ∀ w y py qy top is, BagIn w lim v l → Parts w y py qy → top.length = 24 → y.lv = x.lv - 1 → 1 ≤ x.lv → Calls Tryz.prog 42 #[v, nv y py qy, kv top, .bool is] w fun e w' => e = .returned (.bool (rec y top is)) ∧ Below w.heap.size w w')
    (w : World) (pv qv : Value) (top : List UInt8) (is : Bool) (hB : BagIn w lim v l) (h : Parts w x pv qv) (ht : top.length = 24) :
    Calls Tryz.prog 42 #[v, nv x pv qv, kv top, .bool is] w fun e w' => e = .returned (.bool (rightN x && x.ps.all (fun p => belowB top is p.k) && docGo (bagG l) rec x top is x.ks.length)) ∧ Below w.heap.size w w' := by
  have hkd := h.keyed
  obtain ⟨ap, cp, rfl⟩ := h.lenP
  obtain ⟨aq, cq, rfl⟩ := h.lenQ
  have GP : Hid (∀ i (hi : i < x.ps.length), ∃ g off, ap = some ⟨g, off, none⟩ ∧ g < w.heap.size ∧ w.rangeAt g (off + i * 25) (ec (Pr.el x.ps[i])) ∧ (Pr.el x.ps[i]).Ok) := els_get h.p
  have GQ : Hid (∀ i (hi : i < x.ks.length), ∃ g off, aq = some ⟨g, off, none⟩ ∧ g < w.heap.size ∧ w.rangeAt g (off + i * 25) (ec (Kd.el x.ks[i])) ∧ (Kd.el x.ks[i]).Ok) := els_get h.q
  have HKI : Hid (∀ n : Nat, n = 24 → (Tryz.prog.info? 25).map (·.size) = some n) := fun n hn => by rw [hn]; exact Tryz.key_info
  have HT : Hid (top.length = 24) := ht
  obtain ⟨P, hP⟩ : ∃ P : Nat, P = x.ps.length := ⟨_, rfl⟩
  obtain ⟨Q, hQ⟩ : ∃ Q : Nat, Q = x.ks.length := ⟨_, rfl⟩
  have HP : Hid (P = x.ps.length) := hP
  have HQ : Hid (Q = x.ks.length) := hQ
  have D0 : DR lim v l w ((w.alloc (.cells (nc x (.slice ap P cp) (.slice aq Q cq)) 60)).alloc (.cells (bc top).toArray 25)) x (.slice ap P cp) (.slice aq Q cq) top := by
    have B0 : Below w.heap.size w ((w.alloc (.cells (nc x (.slice ap P cp) (.slice aq Q cq)) 60)).alloc (.cells (bc top).toArray 25)) := ((Below.refl _ w).alloc (Nat.le_refl _) _).alloc (by simp) _
    refine ⟨(HasN.new w x _ _ _ rfl rfl rfl).alloc _, ?_, by rw [hP, hQ] at *; exact h.below B0, hB.below B0, B0⟩
    have := Has.new (w.alloc (.cells (nc x (.slice ap P cp) (.slice aq Q cq)) 60)) top ht
    simpa using this
  have HRT := fun y (hy : Parts y x (.slice ap P cp) (.slice aq Q cq)) => rright_calls y x _ _ hy
  obtain ⟨RES, hRES⟩ : ∃ R, R = (rightN x && x.ps.all (fun p => belowB top is p.k) && docGo (bagG l) rec x top is x.ks.length) := ⟨_, rfl⟩
  have HRES : Hid (RES = (rightN x && x.ps.all (fun p => belowB top is p.k) && docGo (bagG l) rec x top is Q)) := (show _ = _ by rw [hRES, hQ])
  rw [← hRES, ← hP, ← hQ]
  have HD0 : Hid (DR lim v l w ((w.alloc (.cells (nc x (.slice ap P cp) (.slice aq Q cq)) 60)).alloc (.cells (bc top).toArray 25)) x (.slice ap P cp) (.slice aq Q cq) top) := D0
  clear h ht hRES hP hQ D0
  cases hr : rightN x with
  | false =>
    have HF : Hid (RES = false) := (show _ = _ by rw [HRES.out, hr]; rfl)
    rw [hr] at HRT
    have HRC : Hid (∀ y, Parts y x (.slice ap P cp) (.slice aq Q cq) → Calls Tryz.prog 66 #[nv x (.slice ap P cp) (.slice aq Q cq)] y fun e w' => e = .returned (.bool false) ∧ Below y.heap.size y w') := HRT
    clear HRES hr hrec HRT GP GQ hB
    go_enter Tryz.func42, Tryz.ntmps42
    go_upto_region 1 with fail
    generalize (w.alloc (.cells (nc x (.slice ap P cp) (.slice aq Q cq)) 60)).alloc (.cells (bc top).toArray 25) = V at *
    go_wp2_with (first
      | (refine load_node _ rfl w.heap.size rfl rfl x _ _ HD0.out.m ?_)
      | (go_at_call 66; refine (HRC.out _ HD0.out.q).mono ?_; rintro e w1 ⟨rfl, b1⟩))
    go_ret
    exact ⟨by rw [HF.out]; rfl, (HD0.out.called b1).bel⟩
  | true =>
    have F := fits hr
    have HRES1 : Hid (RES = (x.ps.all (fun p => belowB top is p.k) && docGo (bagG l) rec x top is Q)) := (show _ = _ by rw [HRES.out, hr]; rfl)
    have HREC : Hid (∀ w y py qy top is, BagIn w lim v l → Parts w y py qy → top.length = 24 → y.lv = x.lv - 1 → 1 ≤ x.lv → Calls Tryz.prog 42 #[v, nv y py qy, kv top, .bool is] w fun e w' => e = .returned (.bool (rec y top is)) ∧ Below w.heap.size w w') := hrec hr
    have hP7 : P ≤ 7 := by have := F.np; have := HP.out; omega
    have hQ18 : Q ≤ 18 := by have := F.nk; have := HQ.out; omega
    have HKB : Hid (∀ i (hi : i < x.ks.length), 2 ≤ (x.ks[i]).n ∧ (x.ks[i]).n ≤ 4294967295) := fun i hi => F.bs _ (List.getElem_mem hi)
    have HLV : Hid (0 < x.ks.length → 1 ≤ x.lv ∧ x.lv ≤ 11) := fun h0 => by
      have h1 := F.l0
      have h2 := F.l1
      rcases F.one with ⟨q1, q2, _⟩ | ⟨q1, _, _⟩
      · rw [q2] at h0; simp at h0
      · omega
    have HKD : Hid ((∀ i (hi : i < x.ps.length), (x.ps[i]).k.length = 24) ∧ ∀ i (hi : i < x.ks.length), (x.ks[i]).k.length = 24) := ⟨fun i hi => hkd.1 _ (List.getElem_mem hi), fun i hi => hkd.2 _ (List.getElem_mem hi)⟩
    rw [hr] at HRT
    have HRC : Hid (∀ y, Parts y x (.slice ap P cp) (.slice aq Q cq) → Calls Tryz.prog 66 #[nv x (.slice ap P cp) (.slice aq Q cq)] y fun e w' => e = .returned (.bool true) ∧ Below y.heap.size y w') := HRT
    clear HRES hr hrec HRT F hB hkd
    go_enter Tryz.func42, Tryz.ntmps42
    go_upto_region 1 with fail
    generalize (w.alloc (.cells (nc x (.slice ap P cp) (.slice aq Q cq)) 60)).alloc (.cells (bc top).toArray 25) = V at *
    go_upto_region 4 with (first
      | (refine load_node _ rfl w.heap.size rfl rfl x _ _ HD0.out.m ?_)
      | (go_at_call 66; refine (HRC.out _ HD0.out.q).mono ?_; rintro e w1 ⟨rfl, b1⟩))
    have HD1 : Hid (DR lim v l w w1 x (.slice ap P cp) (.slice aq Q cq) top) := HD0.out.called b1
    clear HD0 HRC b1
    go_wp2_with fail
    go_loopg [10] P (fun m i wr => ∃ j : Nat, j + m = P ∧ i = .int .i64 (j : Int) ∧ Hid (DR lim v l w wr x (.slice ap P cp) (.slice aq Q cq) top) ∧ Hid (∀ t (ht : t < x.ps.length), t < j → belowB top is (x.ps[t]).k = true))
    case atStart => exact ⟨0, by omega, rfl, HD1.out, fun t _ q => by omega⟩
    case round =>
      clear HD1
      obtain ⟨j, hjm, rfl, HD, HIN⟩ := hrel
      obtain ⟨c0, c1, c2⟩ := HD.out.m.cells
      cases gk with
      | succ m =>
        have hjI : (j : Int) < (P : Int) := by omega
        have hj0 : (0 : Int) ≤ (j : Int) := by omega
        have hjl : j < x.ps.length := by rw [← HP.out]; omega
        obtain ⟨g0, off, rfl, hg0, hat, ok⟩ := GP.out j hjl
        have HKK : Hid (∀ y, DR lim v l w y x (.slice (some ⟨g0, off, none⟩) P cp) (.slice aq Q cq) top → y.rangeAt g0 (off + j * 25) (bc (x.ps[j]).k)) := fun y hy => range_key (e := Pr.el x.ps[j]) (range_same hat (hy.bel.block g0 hg0))
        have HLK : Hid ((x.ps[j]).k.length = 24) := ok.len
        have HST : Hid (belowB top is (x.ps[j]).k = true → ∀ t (ht : t < x.ps.length), t < j + 1 → belowB top is (x.ps[t]).k = true) := fun q t ht htj => by
          by_cases e : t = j
          · subst e; exact q
          · exact HIN.out t ht (by omega)
        have HBAD : Hid (belowB top is (x.ps[j]).k = false → RES = false) := fun q => by
          rw [HRES1.out, show x.ps.all (fun p => belowB top is p.k) = false from List.all_eq_false.2 ⟨_, List.getElem_mem hjl, by rw [q]; simp⟩]
          rfl
        have HLS : Hid (∀ y, Calls Tryz.prog 55 #[kv (x.ps[j]).k, kv top] y fun e w' => e = .returned (.bool (Op.bytesLess (x.ps[j]).k top)) ∧ Below y.heap.size y w') := fun y => rless_calls y _ _ HLK.out HT.out
        have HBL : Hid (∀ b, belowB top b (x.ps[j]).k = (!b || Op.bytesLess (x.ps[j]).k top)) := fun b => rfl
        generalize (x.ps[j]).k = K0 at *
        generalize Op.bytesLess K0 top = AH at *
        clear hat ok HIN HRES1
        go_upto_region 7 with fail
        clear c0 c1 c2
        refine wp_region_noPanic ?_
        refine wp_region_held_drew (S := (fun y => DR lim v l w y x (.slice (some ⟨g0, off, none⟩) P cp) (.slice aq Q cq) top)) (by kernel_rfl) (HD.out.called ⟨rfl, rfl, rfl, Nat.le_refl _, fun _ _ => rfl⟩) (fun hHeld => ?_)
        refine wpAnyH_take (i := 0) (v := ?_) rfl (by kernel_rfl) (by kernel_rfl) (by kernel_rfl) (fun _ _ _ h => h) (Or.inl ⟨by rfl, ?_⟩) hHeld ?_
        case refine_2 => (intro w hSw; (try dsimp only at hSw); obtain ⟨k0, k1, k2⟩ := hSw.m.cells; go_simp; try (with_reducible rfl))
        (try simp only [gs])
        refine wpAnyH_take (i := 1) (v := ?_) rfl (by kernel_rfl) (by kernel_rfl) (by kernel_rfl) (fun _ _ _ h => h) (Or.inl ⟨by rfl, ?_⟩) hHeld ?_
        case refine_2 => (intro w hSw; (try dsimp only at hSw); obtain ⟨k0, k1, k2⟩ := hSw.m.cells; go_simp; try (with_reducible rfl))
        (try simp only [gs])
        refine wpAnyH_take (i := 2) (v := ?_) rfl (by kernel_rfl) (by kernel_rfl) (by kernel_rfl) (fun _ _ _ h => h) (Or.inl ⟨by rfl, ?_⟩) hHeld ?_
        case refine_2 => (intro w hSw; (try dsimp only at hSw); obtain ⟨k0, k1, k2⟩ := hSw.m.cells; go_simp; try (with_reducible rfl))
        (try simp only [gs])
        refine wpAnyH_take (i := 3) (v := ?_) rfl (by kernel_rfl) (by kernel_rfl) (by kernel_rfl) (fun _ _ _ h => h) (Or.inl ⟨by rfl, ?_⟩) hHeld ?_
        case refine_2 => (intro w hSw; (try dsimp only at hSw); obtain ⟨k0, k1, k2⟩ := hSw.m.cells; go_simp; try (with_reducible rfl))
        (try simp only [gs])
        refine wpAnyH_take (i := 4) (v := ?_) rfl (by kernel_rfl) (by kernel_rfl) (by kernel_rfl) (fun _ _ _ h => h) (Or.inl ⟨by rfl, ?_⟩) hHeld ?_
        case refine_2 => (intro w hSw; (try dsimp only at hSw); obtain ⟨k0, k1, k2⟩ := hSw.m.cells; go_simp; try (with_reducible rfl))
        (try simp only [gs])
        refine wpAnyH_take (i := 5) rfl (by kernel_rfl) (by kernel_rfl) (by kernel_rfl) (fun _ _ _ h => h) (yieldsIf_load_mid (by rfl) _ _ rfl _ _ rfl _ _ (fun y h => HKK.out y h) Tryz.underlying25 rfl (by rw [bc_length]; exact HKI.out _ HLK.out)) hHeld ?_
        (try simp only [gs])
        refine wpAnyH_take (i := 6) rfl (by kernel_rfl) (by kernel_rfl) (by kernel_rfl) (fun _ _ _ h => h) (yieldsIf_load_mid (by rfl) _ _ rfl _ _ rfl _ _ (fun _ h => range_has7 h.t) Tryz.underlying25 rfl (by rw [bc_length]; exact HKI.out _ HT.out)) hHeld ?_
        (try simp only [gs])
        generalize wr.drew = y0 at *
        refine wpAnyH_ready (rs := [7]) (by kernel_rfl) (by simp) (AllReadyH.cons rfl (fun K hK => ?_) AllReadyH.nil)
        rw [if_pos (by rfl)]
        (try simp only [gs])
        go_simp
        refine (HLS.out _).mono ?_
        rintro e y1 ⟨rfl, b1⟩
        refine hK.out _ _ (hHeld.called b1) (fun g1 => ?_)
        clear hK K
        (try simp only [gs])
        refine wpAnyH_take (i := 8) (v := ?_) rfl (by kernel_rfl) (by kernel_rfl) (by kernel_rfl) (fun _ _ _ h => h) (Or.inl ⟨by rfl, ?_⟩) g1 ?_
        case refine_2 => (intro w hSw; (try dsimp only at hSw); go_simp; try (with_reducible rfl))
        (try simp only [gs])
        refine wpAnyH_done (by kernel_rfl) ?_ _
        refine NoPanic.normal ?_
        have HG1 : Hid (DR lim v l w y1 x (.slice (some ⟨g0, off, none⟩) P cp) (.slice aq Q cq) top) := g1
        clear g1 hHeld b1 HLS HKK HD
        cases is with
        | false =>
          have HNX := HST.out (by rw [HBL.out]; rfl)
          have HNX' : Hid (∀ t (ht : t < x.ps.length), t < j + 1 → belowB top false (x.ps[t]).k = true) := HNX
          clear HNX HST HBAD HBL
          have hws : wrap64 ((j : Int) + 1) = ((j + 1 : Nat) : Int) := by unfold wrap64; omega
          go_wp2_with fail
          go_roundg m
          case measure => omega
          exact ⟨j + 1, by omega, by simp, HG1.out, HNX'.out⟩
        | true =>
          cases AH with
          | true =>
            have HNX := HST.out (by rw [HBL.out]; rfl)
            have HNX' : Hid (∀ t (ht : t < x.ps.length), t < j + 1 → belowB top true (x.ps[t]).k = true) := HNX
            clear HNX HST HBAD HBL
            have hws : wrap64 ((j : Int) + 1) = ((j + 1 : Nat) : Int) := by unfold wrap64; omega
            go_wp2_with fail
            go_roundg m
            case measure => omega
            exact ⟨j + 1, by omega, by simp, HG1.out, HNX'.out⟩
          | false =>
            have HF : Hid (RES = false) := HBAD.out (by rw [HBL.out]; rfl)
            clear HST HBAD HBL
            go_wp2_with fail
            go_ret
            exact ⟨by rw [HF.out]; rfl, HG1.out.bel⟩
      | zero =>
        obtain rfl : j = P := by omega
        have hjj : ¬ (j : Int) < (j : Int) := by omega
        have HRES2 : Hid (docGo (bagG l) rec x top is Q = RES) := (show _ = _ by
          rw [HRES1.out, show x.ps.all (fun p => belowB top is p.k) = true from List.all_eq_true.2 fun p hp => by
            obtain ⟨t, ht, rfl⟩ := List.getElem_of_mem hp
            exact HIN.out t ht (by rw [HP.out]; exact ht)]
          rfl)
        clear HIN HRES1 GP
        go_wp2_with fail
        clear c0 c1 c2 hjj hP7 hjm
        go_loopg [12] Q (fun m i wr => ∃ t : Nat, t + m = Q ∧ i = .int .i64 (t : Int) ∧ Hid (DR lim v l w wr x (.slice ap j cp) (.slice aq Q cq) top) ∧ Hid (docGo (bagG l) rec x top is m = RES))
        case atStart => exact ⟨0, by omega, rfl, HD.out, HRES2.out⟩
        case round =>
          clear HD HRES2
          obtain ⟨t, htm, rfl, HD, HGO⟩ := hrel
          cases gk with
          | zero =>
            obtain rfl : t = Q := by omega
            have htt : ¬ (t : Int) < (t : Int) := by omega
            obtain ⟨c0, c1, c2⟩ := HD.out.m.cells
            go_wp2_with fail
            go_ret
            exact ⟨by rw [← HGO.out]; rfl, HD.out.bel⟩
          | succ m =>
            have htI : (t : Int) < (Q : Int) := by omega
            have htl : t < x.ks.length := by rw [← HQ.out]; omega
            have hidx : x.ks.length - (m + 1) = t := by rw [← HQ.out]; omega
            obtain ⟨ga, oa, rfl, hga, hat, ok⟩ := GQ.out t htl
            have HR1 : Hid (wr.rangeAt ga (oa + t * 25) (ec (Kd.el x.ks[t])) ∧ (Kd.el x.ks[t]).Ok) := ⟨range_same hat (HD.out.bel.block ga hga), ok⟩
            have HGO1 : Hid (RES = (belowB top is (x.ks[t]).k && !badDoc (bagG l (x.ks[t]).n).1 (bagG l (x.ks[t]).n).2 x.lv (x.ks[t]).k && rec (bagG l (x.ks[t]).n).1 (topOf x.ks top t) (isOf x.ks is t) && docGo (bagG l) rec x top is m)) := (show _ = _ by
              rw [← HGO.out, docGo, hidx, nAt_eq _ _ htl, keyAt_eq htl])
            have hlv := HLV.out (by omega)
            have HFC0 : Hid (∀ y, BagIn y lim v l → Calls Tryz.prog 41 #[v, .int .i64 (x.ks[t]).n] y (FindTo y (bagG l (x.ks[t]).n))) := fun y hy => rfind_calls y lim v l _ hy
            have HKL : Hid ((x.ks[t]).k.length = 24) := HKD.out.2 t htl
            have HNK : Hid (t + 1 < x.ks.length → (keyAt x.ks (t + 1)).length = 24 ∧ ∀ y, DR lim v l w y x (.slice ap j cp) (.slice (some ⟨ga, oa, none⟩) Q cq) top → y.rangeAt ga (oa + (t + 1) * 25) (bc (keyAt x.ks (t + 1)))) := fun q => by
              obtain ⟨g2, o2, e2, hg2, hat2, ok2⟩ := GQ.out (t + 1) q
              cases e2
              rw [keyAt_eq q]
              exact ⟨ok2.len, fun y hy => range_key (e := Kd.el x.ks[t + 1]) (range_same hat2 (hy.bel.block ga hg2))⟩
            have HTO : Hid (topOf x.ks top t = (if t + 1 < Q then keyAt x.ks (t + 1) else top) ∧ isOf x.ks is t = (if t + 1 < Q then true else is)) := ⟨by rw [HQ.out]; rfl, by rw [HQ.out]; rfl⟩
            have HLS : Hid (∀ y, Calls Tryz.prog 55 #[kv (x.ks[t]).k, kv top] y fun e w' => e = .returned (.bool (Op.bytesLess (x.ks[t]).k top)) ∧ Below y.heap.size y w') := fun y => rless_calls y _ _ HKL.out HT.out
            have HBL : Hid (∀ b, belowB top b (x.ks[t]).k = (!b || Op.bytesLess (x.ks[t]).k top)) := fun b => rfl
            have ev1 : (Kd.el x.ks[t]).v = .int .i64 (x.ks[t]).n := rfl
            have HEK : Hid ((Kd.el x.ks[t]).k = (x.ks[t]).k) := rfl
            generalize bagG l (x.ks[t]).n = RR at *
            obtain ⟨Y, ce⟩ := RR
            simp only at HGO1
            generalize Kd.el x.ks[t] = E at *
            generalize hnn : (x.ks[t]).n = nn at *
            generalize hkk : (x.ks[t]).k = KK at *
            generalize Op.bytesLess KK top = AH at *
            generalize topOf x.ks top t = TT at *
            generalize isOf x.ks is t = II at *
            generalize keyAt x.ks (t + 1) = NK at *
            rw [← HQ.out] at HNK
            clear hnn hkk hat ok hidx HGO GQ HKB HKD HLV
            obtain ⟨e0, _, e2⟩ := HD.out.m.cells
            have hlI1 : 1 ≤ x.lv := hlv.1
            have hlI2 : x.lv ≤ 11 := hlv.2
            clear hlv
            go_upto_region 14 with (first
              | (refine load_K _ rfl ga (oa + t * 25) rfl rfl E HR1.out.2 HR1.out.1 ?_)
              | (refine store_K rfl _ _ rfl wr.heap.size rfl E rfl HR1.out.2 nilK (zero_K wr _ rfl) ?_; intro x1 hu1 tx1 sx1))
            have C1 : DR lim v l w x1 x (.slice ap j cp) (.slice (some ⟨ga, oa, none⟩) Q cq) top := HD.out.called (step_below (Below.refl _ wr) _ tx1)
            have ltd : wr.heap.size < x1.heap.size := hu1.lt
            clear tx1 sx1 HR1 HD e0 e2
            generalize wr.heap.size = d at *
            have hkr : x1.rangeAt d 0 (bc KK) := HEK.out ▸ range_key hu1.range
            have HKR : Hid (x1.rangeAt d 0 (bc KK)) := hkr
            clear hkr
            go_upto_region 15 with (first
              | (refine load_part _ rfl d 0 rfl rfl KK HKL.out HKR.out ?_)
              | (refine load_key _ rfl (w.heap.size + 1) rfl rfl top C1.t ?_)
              | (go_at_call 55; refine (HLS.out _).mono ?_; rintro e w2 ⟨rfl, b2⟩))
            have C2 := C1.called b2
            have K2 := hu1.below b2 ltd
            have lt2 : d < w2.heap.size := K2.lt
            clear C1 hu1 b2 HLS HKR ltd
            obtain ⟨B1, hB1⟩ : ∃ B1, B1 = (!is || AH) := ⟨_, rfl⟩
            have HB1 : Hid (belowB top is KK = B1) := (show _ = _ by rw [HBL.out, hB1])
            cases B1 with
            | false =>
              obtain ⟨rfl, rfl⟩ := or_no is AH hB1
              have HF : Hid (RES = false) := (show _ = _ by rw [HGO1.out, HB1.out]; rfl)
              clear HGO1 HB1 hB1 HBL
              go_wp2_with fail
              go_ret
              exact ⟨by rw [HF.out]; rfl, C2.bel⟩
            | true =>
              have HGO2 : Hid (RES = (!badDoc Y ce x.lv KK && rec Y TT II && docGo (bagG l) rec x top is m)) := (show _ = _ by rw [HGO1.out, HB1.out]; rfl)
              have ek := K2.val
              rw [ev1] at ek
              clear HGO1 HB1 HBL ev1
              have hfc := HFC0.out _ C2.g
              clear HFC0
              -- region 15, in the three ways of is and AH
              rcases or_yes is AH hB1 with rfl | ⟨rfl, rfl⟩
              · clear hB1
                go_upto_region 18 with (first
                  | (go_at_call 41; refine hfc.mono ?_; rintro e w3 ⟨py, qy, rfl, P3, b3⟩)
                  | (refine store_node rfl _ _ rfl w3.heap.size rfl Y py qy rfl P3.p.one P3.q.one nilN (.slice none 0 0) (.slice none 0 0) (HasN.new w3 nilN (.slice none 0 0) (.slice none 0 0) _ rfl rfl rfl) ?_; intro x4 hu4 tx4 sx4))
                have BS4 := step_below (Below.refl _ w3) _ tx4
                have M4 : DY lim v l w x4 x (.slice ap j cp) (.slice (some ⟨ga, oa, none⟩) Q cq) top d E w3.heap.size Y py qy := ⟨(C2.called b3).called BS4, (K2.below b3 lt2).below BS4 (Nat.lt_of_lt_of_le lt2 b3.size), hu4, P3.below BS4⟩
                clear C2 K2 lt2 b3 P3 hu4 tx4 sx4 BS4 hfc ek
                generalize w3.heap.size = d2 at *
                obtain ⟨yp, ycp, rfl⟩ := M4.q.lenP
                obtain ⟨yq, ycq, rfl⟩ := M4.q.lenQ
                have HFL : Hid ((firstN Y).length = 24) := firstN_length Y M4.q.keyed
                have HFC : Hid (∀ y, Parts y Y (.slice yp Y.ps.length ycp) (.slice yq Y.ks.length ycq) → Calls Tryz.prog 67 #[nv Y (.slice yp Y.ps.length ycp) (.slice yq Y.ks.length ycq)] y fun e w' => e = .returned (kv (firstN Y)) ∧ Below y.heap.size y w') := fun y hy => rfirst_calls y Y _ _ hy
                have HCE : Hid (ce = 0 ∨ ¬ ce = 0) := (show _ ∨ _ by omega)
                generalize hth : (ce == 0) = th at *
                cases th with
                | false =>
                  -- BEGIN 1
                  refine wp_region_noPanic ?_
                  refine wp_region_held_drew (S := (fun y => DY lim v l w y x (.slice ap j cp) (.slice (some ⟨ga, oa, none⟩) Q cq) top d E d2 Y (.slice yp Y.ps.length ycp) (.slice yq Y.ks.length ycq))) (by kernel_rfl) (M4.called ⟨rfl, rfl, rfl, Nat.le_refl _, fun _ _ => rfl⟩) (fun hHeld => ?_)
                  refine wpAnyH_take (i := 0) (v := ?_) rfl (by kernel_rfl) (by kernel_rfl) (by kernel_rfl) (fun _ _ _ h => h) (Or.inl ⟨by rfl, ?_⟩) hHeld ?_
                  case refine_2 => (intro w hSw; (try dsimp only at hSw); obtain ⟨k0, k1, k2⟩ := hSw.m.cells; obtain ⟨n0, n1, n2⟩ := hSw.c.m.cells; go_simp; try (with_reducible rfl))
                  (try simp only [gs])
                  refine wpAnyH_take (i := 1) (v := ?_) rfl (by kernel_rfl) (by kernel_rfl) (by kernel_rfl) (fun _ _ _ h => h) (Or.inl ⟨by rfl, ?_⟩) hHeld ?_
                  case refine_2 => (intro w hSw; (try dsimp only at hSw); obtain ⟨k0, k1, k2⟩ := hSw.m.cells; obtain ⟨n0, n1, n2⟩ := hSw.c.m.cells; go_simp; try (with_reducible rfl))
                  (try simp only [gs])
                  refine wpAnyH_take (i := 2) (v := ?_) rfl (by kernel_rfl) (by kernel_rfl) (by kernel_rfl) (fun _ _ _ h => h) (Or.inl ⟨by rfl, ?_⟩) hHeld ?_
                  case refine_2 => (intro w hSw; (try dsimp only at hSw); obtain ⟨k0, k1, k2⟩ := hSw.m.cells; obtain ⟨n0, n1, n2⟩ := hSw.c.m.cells; go_simp; try (with_reducible rfl))
                  (try simp only [gs])
                  refine wpAnyH_take (i := 3) (v := undef) rfl (by kernel_rfl) (by kernel_rfl) (by kernel_rfl) (fun _ _ _ h => h) (Or.inr ⟨by rfl, rfl⟩) hHeld ?_
                  (try simp only [gs])
                  refine wpAnyH_take (i := 4) (v := undef) rfl (by kernel_rfl) (by kernel_rfl) (by kernel_rfl) (fun _ _ _ h => h) (Or.inr ⟨by rfl, rfl⟩) hHeld ?_
                  (try simp only [gs])
                  refine wpAnyH_take (i := 5) (v := undef) rfl (by kernel_rfl) (by kernel_rfl) (by kernel_rfl) (fun _ _ _ h => h) (Or.inr ⟨by rfl, rfl⟩) hHeld ?_
                  (try simp only [gs])
                  refine wpAnyH_take (i := 6) (v := undef) rfl (by kernel_rfl) (by kernel_rfl) (by kernel_rfl) (fun _ _ _ h => h) (Or.inr ⟨by rfl, rfl⟩) hHeld ?_
                  (try simp only [gs])
                  refine wpAnyH_take (i := 7) (v := undef) rfl (by kernel_rfl) (by kernel_rfl) (by kernel_rfl) (fun _ _ _ h => h) (Or.inr ⟨by rfl, rfl⟩) hHeld ?_
                  (try simp only [gs])
                  refine wpAnyH_take (i := 8) (v := undef) rfl (by kernel_rfl) (by kernel_rfl) (by kernel_rfl) (fun _ _ _ h => h) (Or.inr ⟨by rfl, rfl⟩) hHeld ?_
                  (try simp only [gs])
                  refine wpAnyH_take (i := 9) (v := ?_) rfl (by kernel_rfl) (by kernel_rfl) (by kernel_rfl) (fun _ _ _ h => h) (Or.inl ⟨by rfl, ?_⟩) hHeld ?_
                  case refine_2 => (intro w hSw; (try dsimp only at hSw); obtain ⟨k0, k1, k2⟩ := hSw.m.cells; obtain ⟨n0, n1, n2⟩ := hSw.c.m.cells; go_simp; try (with_reducible rfl))
                  (try simp only [gs])
                  refine wpAnyH_take (i := 10) (v := ?_) rfl (by kernel_rfl) (by kernel_rfl) (by kernel_rfl) (fun _ _ _ h => h) (Or.inl ⟨by rfl, ?_⟩) hHeld ?_
                  case refine_2 => (intro w hSw; (try dsimp only at hSw); obtain ⟨k0, k1, k2⟩ := hSw.m.cells; obtain ⟨n0, n1, n2⟩ := hSw.c.m.cells; go_simp; try (with_reducible rfl))
                  (try simp only [gs])
                  refine wpAnyH_take (i := 11) (v := undef) rfl (by kernel_rfl) (by kernel_rfl) (by kernel_rfl) (fun _ _ _ h => h) (Or.inr ⟨by rfl, rfl⟩) hHeld ?_
                  (try simp only [gs])
                  refine wpAnyH_take (i := 12) (v := undef) rfl (by kernel_rfl) (by kernel_rfl) (by kernel_rfl) (fun _ _ _ h => h) (Or.inr ⟨by rfl, rfl⟩) hHeld ?_
                  (try simp only [gs])
                  refine wpAnyH_take (i := 13) (v := undef) rfl (by kernel_rfl) (by kernel_rfl) (by kernel_rfl) (fun _ _ _ h => h) (Or.inr ⟨by rfl, rfl⟩) hHeld ?_
                  (try simp only [gs])
                  refine wpAnyH_take (i := 14) (v := undef) rfl (by kernel_rfl) (by kernel_rfl) (by kernel_rfl) (fun _ _ _ h => h) (Or.inr ⟨by rfl, rfl⟩) hHeld ?_
                  (try simp only [gs])
                  refine wpAnyH_take (i := 15) (v := undef) rfl (by kernel_rfl) (by kernel_rfl) (by kernel_rfl) (fun _ _ _ h => h) (Or.inr ⟨by rfl, rfl⟩) hHeld ?_
                  (try simp only [gs])
                  refine wpAnyH_take (i := 16) (v := ?_) rfl (by kernel_rfl) (by kernel_rfl) (by kernel_rfl) (fun _ _ _ h => h) (Or.inl ⟨by rfl, ?_⟩) hHeld ?_
                  case refine_2 => (intro w hSw; (try dsimp only at hSw); obtain ⟨k0, k1, k2⟩ := hSw.m.cells; obtain ⟨n0, n1, n2⟩ := hSw.c.m.cells; go_simp; try (with_reducible rfl))
                  (try simp only [gs])
                  refine wpAnyH_take (i := 17) (v := ?_) rfl (by kernel_rfl) (by kernel_rfl) (by kernel_rfl) (fun _ _ _ h => h) (Or.inl ⟨by rfl, ?_⟩) hHeld ?_
                  case refine_2 => (intro w hSw; (try dsimp only at hSw); obtain ⟨k0, k1, k2⟩ := hSw.m.cells; obtain ⟨n0, n1, n2⟩ := hSw.c.m.cells; go_simp; try (with_reducible rfl))
                  (try simp only [gs])
                  refine wpAnyH_take (i := 18) (v := undef) rfl (by kernel_rfl) (by kernel_rfl) (by kernel_rfl) (fun _ _ _ h => h) (Or.inr ⟨by rfl, rfl⟩) hHeld ?_
                  (try simp only [gs])
                  refine wpAnyH_take (i := 19) (v := undef) rfl (by kernel_rfl) (by kernel_rfl) (by kernel_rfl) (fun _ _ _ h => h) (Or.inr ⟨by rfl, rfl⟩) hHeld ?_
                  (try simp only [gs])
                  refine wpAnyH_take (i := 20) (v := undef) rfl (by kernel_rfl) (by kernel_rfl) (by kernel_rfl) (fun _ _ _ h => h) (Or.inr ⟨by rfl, rfl⟩) hHeld ?_
                  (try simp only [gs])
                  refine wpAnyH_take (i := 21) (v := undef) rfl (by kernel_rfl) (by kernel_rfl) (by kernel_rfl) (fun _ _ _ h => h) (Or.inr ⟨by rfl, rfl⟩) hHeld ?_
                  (try simp only [gs])
                  refine wpAnyH_take (i := 22) (v := undef) rfl (by kernel_rfl) (by kernel_rfl) (by kernel_rfl) (fun _ _ _ h => h) (Or.inr ⟨by rfl, rfl⟩) hHeld ?_
                  (try simp only [gs])
                  refine wpAnyH_take (i := 23) (v := undef) rfl (by kernel_rfl) (by kernel_rfl) (by kernel_rfl) (fun _ _ _ h => h) (Or.inr ⟨by rfl, rfl⟩) hHeld ?_
                  (try simp only [gs])
                  refine wpAnyH_take (i := 24) (v := undef) rfl (by kernel_rfl) (by kernel_rfl) (by kernel_rfl) (fun _ _ _ h => h) (Or.inr ⟨by rfl, rfl⟩) hHeld ?_
                  (try simp only [gs])
                  refine wpAnyH_take (i := 25) (v := undef) rfl (by kernel_rfl) (by kernel_rfl) (by kernel_rfl) (fun _ _ _ h => h) (Or.inr ⟨by rfl, rfl⟩) hHeld ?_
                  (try simp only [gs])
                  refine wpAnyH_take (i := 26) (v := undef) rfl (by kernel_rfl) (by kernel_rfl) (by kernel_rfl) (fun _ _ _ h => h) (Or.inr ⟨by rfl, rfl⟩) hHeld ?_
                  (try simp only [gs])
                  refine wpAnyH_take (i := 27) (v := ?_) rfl (by kernel_rfl) (by kernel_rfl) (by kernel_rfl) (fun _ _ _ h => h) (Or.inl ⟨by rfl, ?_⟩) hHeld ?_
                  case refine_2 => (intro w hSw; (try dsimp only at hSw); obtain ⟨k0, k1, k2⟩ := hSw.m.cells; obtain ⟨n0, n1, n2⟩ := hSw.c.m.cells; go_simp; try (with_reducible rfl))
                  (try simp only [gs])
                  refine wpAnyH_take (i := 28) (v := ?_) rfl (by kernel_rfl) (by kernel_rfl) (by kernel_rfl) (fun _ _ _ h => h) (Or.inl ⟨by rfl, ?_⟩) hHeld ?_
                  case refine_2 => (intro w hSw; (try dsimp only at hSw); obtain ⟨k0, k1, k2⟩ := hSw.m.cells; obtain ⟨n0, n1, n2⟩ := hSw.c.m.cells; go_simp; try (with_reducible rfl))
                  (try simp only [gs])
                  refine wpAnyH_take (i := 29) (v := undef) rfl (by kernel_rfl) (by kernel_rfl) (by kernel_rfl) (fun _ _ _ h => h) (Or.inr ⟨by rfl, rfl⟩) hHeld ?_
                  (try simp only [gs])
                  refine wpAnyH_take (i := 30) (v := undef) rfl (by kernel_rfl) (by kernel_rfl) (by kernel_rfl) (fun _ _ _ h => h) (Or.inr ⟨by rfl, rfl⟩) hHeld ?_
                  (try simp only [gs])
                  refine wpAnyH_take (i := 31) (v := undef) rfl (by kernel_rfl) (by kernel_rfl) (by kernel_rfl) (fun _ _ _ h => h) (Or.inr ⟨by rfl, rfl⟩) hHeld ?_
                  (try simp only [gs])
                  refine wpAnyH_take (i := 32) (v := undef) rfl (by kernel_rfl) (by kernel_rfl) (by kernel_rfl) (fun _ _ _ h => h) (Or.inr ⟨by rfl, rfl⟩) hHeld ?_
                  (try simp only [gs])
                  refine wpAnyH_take (i := 33) (v := undef) rfl (by kernel_rfl) (by kernel_rfl) (by kernel_rfl) (fun _ _ _ h => h) (Or.inr ⟨by rfl, rfl⟩) hHeld ?_
                  (try simp only [gs])
                  refine wpAnyH_take (i := 34) (v := undef) rfl (by kernel_rfl) (by kernel_rfl) (by kernel_rfl) (fun _ _ _ h => h) (Or.inr ⟨by rfl, rfl⟩) hHeld ?_
                  (try simp only [gs])
                  refine wpAnyH_take (i := 35) (v := undef) rfl (by kernel_rfl) (by kernel_rfl) (by kernel_rfl) (fun _ _ _ h => h) (Or.inr ⟨by rfl, rfl⟩) hHeld ?_
                  (try simp only [gs])
                  refine wpAnyH_take (i := 36) (v := undef) rfl (by kernel_rfl) (by kernel_rfl) (by kernel_rfl) (fun _ _ _ h => h) (Or.inr ⟨by rfl, rfl⟩) hHeld ?_
                  (try simp only [gs])
                  refine wpAnyH_take (i := 37) (v := undef) rfl (by kernel_rfl) (by kernel_rfl) (by kernel_rfl) (fun _ _ _ h => h) (Or.inr ⟨by rfl, rfl⟩) hHeld ?_
                  (try simp only [gs])
                  refine wpAnyH_take (i := 38) (v := ?_) rfl (by kernel_rfl) (by kernel_rfl) (by kernel_rfl) (fun _ _ _ h => h) (Or.inl ⟨by rfl, ?_⟩) hHeld ?_
                  case refine_2 => (intro w hSw; (try dsimp only at hSw); obtain ⟨k0, k1, k2⟩ := hSw.m.cells; obtain ⟨n0, n1, n2⟩ := hSw.c.m.cells; go_simp; try (with_reducible rfl))
                  (try simp only [gs])
                  refine wpAnyH_done (by kernel_rfl) ?_ _
                  refine NoPanic.normal ?_
                  have HBT : badDoc Y ce x.lv KK = true := by
                    simp [badDoc, hth]
                  have HF : Hid (RES = false) := (show _ = _ by rw [HGO2.out, HBT]; rfl)
                  have HBL : Hid (Below w.heap.size w _) := hHeld.c.bel
                  clear HGO2 M4 HBT
                  go_wp2_with fail
                  go_ret
                  exact ⟨by rw [HF.out]; rfl, HBL.out⟩
                  -- END 1
                | true =>
                  obtain rfl : ce = 0 := by simpa using hth
                  clear hth HCE
                  have hwl : IntKind.i64.wrap (x.lv - 1) = x.lv - 1 := wrap64_of_range7 (by omega) (by omega)
                  cases hl : (Y.lv != x.lv - 1) with
                  | true =>
                    -- BEGIN 2
                    refine wp_region_noPanic ?_
                    refine wp_region_held_drew (S := (fun y => DY lim v l w y x (.slice ap j cp) (.slice (some ⟨ga, oa, none⟩) Q cq) top d E d2 Y (.slice yp Y.ps.length ycp) (.slice yq Y.ks.length ycq))) (by kernel_rfl) (M4.called ⟨rfl, rfl, rfl, Nat.le_refl _, fun _ _ => rfl⟩) (fun hHeld => ?_)
                    refine wpAnyH_take (i := 0) (v := ?_) rfl (by kernel_rfl) (by kernel_rfl) (by kernel_rfl) (fun _ _ _ h => h) (Or.inl ⟨by rfl, ?_⟩) hHeld ?_
                    case refine_2 => (intro w hSw; (try dsimp only at hSw); obtain ⟨k0, k1, k2⟩ := hSw.m.cells; obtain ⟨n0, n1, n2⟩ := hSw.c.m.cells; go_simp; try (with_reducible rfl))
                    (try simp only [gs])
                    refine wpAnyH_take (i := 1) (v := ?_) rfl (by kernel_rfl) (by kernel_rfl) (by kernel_rfl) (fun _ _ _ h => h) (Or.inl ⟨by rfl, ?_⟩) hHeld ?_
                    case refine_2 => (intro w hSw; (try dsimp only at hSw); obtain ⟨k0, k1, k2⟩ := hSw.m.cells; obtain ⟨n0, n1, n2⟩ := hSw.c.m.cells; go_simp; try (with_reducible rfl))
                    (try simp only [gs])
                    refine wpAnyH_take (i := 2) (v := ?_) rfl (by kernel_rfl) (by kernel_rfl) (by kernel_rfl) (fun _ _ _ h => h) (Or.inl ⟨by rfl, ?_⟩) hHeld ?_
                    case refine_2 => (intro w hSw; (try dsimp only at hSw); obtain ⟨k0, k1, k2⟩ := hSw.m.cells; obtain ⟨n0, n1, n2⟩ := hSw.c.m.cells; go_simp; try (with_reducible rfl))
                    (try simp only [gs])
                    refine wpAnyH_take (i := 3) (v := ?_) rfl (by kernel_rfl) (by kernel_rfl) (by kernel_rfl) (fun _ _ _ h => h) (Or.inl ⟨by rfl, ?_⟩) hHeld ?_
                    case refine_2 => (intro w hSw; (try dsimp only at hSw); obtain ⟨k0, k1, k2⟩ := hSw.m.cells; obtain ⟨n0, n1, n2⟩ := hSw.c.m.cells; go_simp; try (with_reducible rfl))
                    (try simp only [gs])
                    refine wpAnyH_take (i := 4) (v := ?_) rfl (by kernel_rfl) (by kernel_rfl) (by kernel_rfl) (fun _ _ _ h => h) (Or.inl ⟨by rfl, ?_⟩) hHeld ?_
                    case refine_2 => (intro w hSw; (try dsimp only at hSw); obtain ⟨k0, k1, k2⟩ := hSw.m.cells; obtain ⟨n0, n1, n2⟩ := hSw.c.m.cells; go_simp; try (with_reducible rfl))
                    (try simp only [gs])
                    refine wpAnyH_take (i := 5) (v := ?_) rfl (by kernel_rfl) (by kernel_rfl) (by kernel_rfl) (fun _ _ _ h => h) (Or.inl ⟨by rfl, ?_⟩) hHeld ?_
                    case refine_2 => (intro w hSw; (try dsimp only at hSw); obtain ⟨k0, k1, k2⟩ := hSw.m.cells; obtain ⟨n0, n1, n2⟩ := hSw.c.m.cells; go_simp; try (with_reducible rfl))
                    (try simp only [gs])
                    refine wpAnyH_take (i := 6) (v := ?_) rfl (by kernel_rfl) (by kernel_rfl) (by kernel_rfl) (fun _ _ _ h => h) (Or.inl ⟨by rfl, ?_⟩) hHeld ?_
                    case refine_2 => (intro w hSw; (try dsimp only at hSw); obtain ⟨k0, k1, k2⟩ := hSw.m.cells; obtain ⟨n0, n1, n2⟩ := hSw.c.m.cells; go_simp; try (with_reducible rfl))
                    (try simp only [gs])
                    refine wpAnyH_take (i := 7) (v := .int .i64 (x.lv - 1)) rfl (by kernel_rfl) (by kernel_rfl) (by kernel_rfl) (fun _ _ _ h => h) (Or.inl ⟨by rfl, ?_⟩) hHeld ?_
                    case refine_1 => (intro w hSw; (try dsimp only at hSw); obtain ⟨k0, k1, k2⟩ := hSw.m.cells; obtain ⟨n0, n1, n2⟩ := hSw.c.m.cells; go_simp; first | done | rfl | exact hwl)
                    (try simp only [gs])
                    refine wpAnyH_take (i := 8) (v := .bool true) rfl (by kernel_rfl) (by kernel_rfl) (by kernel_rfl) (fun _ _ _ h => h) (Or.inl ⟨by rfl, ?_⟩) hHeld ?_
                    case refine_1 => (intro w hSw; (try dsimp only at hSw); obtain ⟨k0, k1, k2⟩ := hSw.m.cells; obtain ⟨n0, n1, n2⟩ := hSw.c.m.cells; go_simp; first | done | rfl | exact hwl)
                    (try simp only [gs])
                    refine wpAnyH_take (i := 9) (v := ?_) rfl (by kernel_rfl) (by kernel_rfl) (by kernel_rfl) (fun _ _ _ h => h) (Or.inl ⟨by rfl, ?_⟩) hHeld ?_
                    case refine_2 => (intro w hSw; (try dsimp only at hSw); obtain ⟨k0, k1, k2⟩ := hSw.m.cells; obtain ⟨n0, n1, n2⟩ := hSw.c.m.cells; go_simp; try (with_reducible rfl))
                    (try simp only [gs])
                    refine wpAnyH_take (i := 10) (v := ?_) rfl (by kernel_rfl) (by kernel_rfl) (by kernel_rfl) (fun _ _ _ h => h) (Or.inl ⟨by rfl, ?_⟩) hHeld ?_
                    case refine_2 => (intro w hSw; (try dsimp only at hSw); obtain ⟨k0, k1, k2⟩ := hSw.m.cells; obtain ⟨n0, n1, n2⟩ := hSw.c.m.cells; go_simp; try (with_reducible rfl))
                    (try simp only [gs])
                    refine wpAnyH_take (i := 11) (v := undef) rfl (by kernel_rfl) (by kernel_rfl) (by kernel_rfl) (fun _ _ _ h => h) (Or.inr ⟨by rfl, rfl⟩) hHeld ?_
                    (try simp only [gs])
                    refine wpAnyH_take (i := 12) (v := undef) rfl (by kernel_rfl) (by kernel_rfl) (by kernel_rfl) (fun _ _ _ h => h) (Or.inr ⟨by rfl, rfl⟩) hHeld ?_
                    (try simp only [gs])
                    refine wpAnyH_take (i := 13) (v := undef) rfl (by kernel_rfl) (by kernel_rfl) (by kernel_rfl) (fun _ _ _ h => h) (Or.inr ⟨by rfl, rfl⟩) hHeld ?_
                    (try simp only [gs])
                    refine wpAnyH_take (i := 14) (v := undef) rfl (by kernel_rfl) (by kernel_rfl) (by kernel_rfl) (fun _ _ _ h => h) (Or.inr ⟨by rfl, rfl⟩) hHeld ?_
                    (try simp only [gs])
                    refine wpAnyH_take (i := 15) (v := undef) rfl (by kernel_rfl) (by kernel_rfl) (by kernel_rfl) (fun _ _ _ h => h) (Or.inr ⟨by rfl, rfl⟩) hHeld ?_
                    (try simp only [gs])
                    refine wpAnyH_take (i := 16) (v := ?_) rfl (by kernel_rfl) (by kernel_rfl) (by kernel_rfl) (fun _ _ _ h => h) (Or.inl ⟨by rfl, ?_⟩) hHeld ?_
                    case refine_2 => (intro w hSw; (try dsimp only at hSw); obtain ⟨k0, k1, k2⟩ := hSw.m.cells; obtain ⟨n0, n1, n2⟩ := hSw.c.m.cells; go_simp; try (with_reducible rfl))
                    (try simp only [gs])
                    refine wpAnyH_take (i := 17) (v := ?_) rfl (by kernel_rfl) (by kernel_rfl) (by kernel_rfl) (fun _ _ _ h => h) (Or.inl ⟨by rfl, ?_⟩) hHeld ?_
                    case refine_2 => (intro w hSw; (try dsimp only at hSw); obtain ⟨k0, k1, k2⟩ := hSw.m.cells; obtain ⟨n0, n1, n2⟩ := hSw.c.m.cells; go_simp; try (with_reducible rfl))
                    (try simp only [gs])
                    refine wpAnyH_take (i := 18) (v := undef) rfl (by kernel_rfl) (by kernel_rfl) (by kernel_rfl) (fun _ _ _ h => h) (Or.inr ⟨by rfl, rfl⟩) hHeld ?_
                    (try simp only [gs])
                    refine wpAnyH_take (i := 19) (v := undef) rfl (by kernel_rfl) (by kernel_rfl) (by kernel_rfl) (fun _ _ _ h => h) (Or.inr ⟨by rfl, rfl⟩) hHeld ?_
                    (try simp only [gs])
                    refine wpAnyH_take (i := 20) (v := undef) rfl (by kernel_rfl) (by kernel_rfl) (by kernel_rfl) (fun _ _ _ h => h) (Or.inr ⟨by rfl, rfl⟩) hHeld ?_
                    (try simp only [gs])
                    refine wpAnyH_take (i := 21) (v := undef) rfl (by kernel_rfl) (by kernel_rfl) (by kernel_rfl) (fun _ _ _ h => h) (Or.inr ⟨by rfl, rfl⟩) hHeld ?_
                    (try simp only [gs])
                    refine wpAnyH_take (i := 22) (v := undef) rfl (by kernel_rfl) (by kernel_rfl) (by kernel_rfl) (fun _ _ _ h => h) (Or.inr ⟨by rfl, rfl⟩) hHeld ?_
                    (try simp only [gs])
                    refine wpAnyH_take (i := 23) (v := undef) rfl (by kernel_rfl) (by kernel_rfl) (by kernel_rfl) (fun _ _ _ h => h) (Or.inr ⟨by rfl, rfl⟩) hHeld ?_
                    (try simp only [gs])
                    refine wpAnyH_take (i := 24) (v := undef) rfl (by kernel_rfl) (by kernel_rfl) (by kernel_rfl) (fun _ _ _ h => h) (Or.inr ⟨by rfl, rfl⟩) hHeld ?_
                    (try simp only [gs])
                    refine wpAnyH_take (i := 25) (v := undef) rfl (by kernel_rfl) (by kernel_rfl) (by kernel_rfl) (fun _ _ _ h => h) (Or.inr ⟨by rfl, rfl⟩) hHeld ?_
                    (try simp only [gs])
                    refine wpAnyH_take (i := 26) (v := undef) rfl (by kernel_rfl) (by kernel_rfl) (by kernel_rfl) (fun _ _ _ h => h) (Or.inr ⟨by rfl, rfl⟩) hHeld ?_
                    (try simp only [gs])
                    refine wpAnyH_take (i := 27) (v := ?_) rfl (by kernel_rfl) (by kernel_rfl) (by kernel_rfl) (fun _ _ _ h => h) (Or.inl ⟨by rfl, ?_⟩) hHeld ?_
                    case refine_2 => (intro w hSw; (try dsimp only at hSw); obtain ⟨k0, k1, k2⟩ := hSw.m.cells; obtain ⟨n0, n1, n2⟩ := hSw.c.m.cells; go_simp; try (with_reducible rfl))
                    (try simp only [gs])
                    refine wpAnyH_take (i := 28) (v := ?_) rfl (by kernel_rfl) (by kernel_rfl) (by kernel_rfl) (fun _ _ _ h => h) (Or.inl ⟨by rfl, ?_⟩) hHeld ?_
                    case refine_2 => (intro w hSw; (try dsimp only at hSw); obtain ⟨k0, k1, k2⟩ := hSw.m.cells; obtain ⟨n0, n1, n2⟩ := hSw.c.m.cells; go_simp; try (with_reducible rfl))
                    (try simp only [gs])
                    refine wpAnyH_take (i := 29) (v := undef) rfl (by kernel_rfl) (by kernel_rfl) (by kernel_rfl) (fun _ _ _ h => h) (Or.inr ⟨by rfl, rfl⟩) hHeld ?_
                    (try simp only [gs])
                    refine wpAnyH_take (i := 30) (v := undef) rfl (by kernel_rfl) (by kernel_rfl) (by kernel_rfl) (fun _ _ _ h => h) (Or.inr ⟨by rfl, rfl⟩) hHeld ?_
                    (try simp only [gs])
                    refine wpAnyH_take (i := 31) (v := undef) rfl (by kernel_rfl) (by kernel_rfl) (by kernel_rfl) (fun _ _ _ h => h) (Or.inr ⟨by rfl, rfl⟩) hHeld ?_
                    (try simp only [gs])
                    refine wpAnyH_take (i := 32) (v := undef) rfl (by kernel_rfl) (by kernel_rfl) (by kernel_rfl) (fun _ _ _ h => h) (Or.inr ⟨by rfl, rfl⟩) hHeld ?_
                    (try simp only [gs])
                    refine wpAnyH_take (i := 33) (v := undef) rfl (by kernel_rfl) (by kernel_rfl) (by kernel_rfl) (fun _ _ _ h => h) (Or.inr ⟨by rfl, rfl⟩) hHeld ?_
                    (try simp only [gs])
                    refine wpAnyH_take (i := 34) (v := undef) rfl (by kernel_rfl) (by kernel_rfl) (by kernel_rfl) (fun _ _ _ h => h) (Or.inr ⟨by rfl, rfl⟩) hHeld ?_
                    (try simp only [gs])
                    refine wpAnyH_take (i := 35) (v := undef) rfl (by kernel_rfl) (by kernel_rfl) (by kernel_rfl) (fun _ _ _ h => h) (Or.inr ⟨by rfl, rfl⟩) hHeld ?_
                    (try simp only [gs])
                    refine wpAnyH_take (i := 36) (v := undef) rfl (by kernel_rfl) (by kernel_rfl) (by kernel_rfl) (fun _ _ _ h => h) (Or.inr ⟨by rfl, rfl⟩) hHeld ?_
                    (try simp only [gs])
                    refine wpAnyH_take (i := 37) (v := undef) rfl (by kernel_rfl) (by kernel_rfl) (by kernel_rfl) (fun _ _ _ h => h) (Or.inr ⟨by rfl, rfl⟩) hHeld ?_
                    (try simp only [gs])
                    refine wpAnyH_take (i := 38) (v := ?_) rfl (by kernel_rfl) (by kernel_rfl) (by kernel_rfl) (fun _ _ _ h => h) (Or.inl ⟨by rfl, ?_⟩) hHeld ?_
                    case refine_2 => (intro w hSw; (try dsimp only at hSw); obtain ⟨k0, k1, k2⟩ := hSw.m.cells; obtain ⟨n0, n1, n2⟩ := hSw.c.m.cells; go_simp; try (with_reducible rfl))
                    (try simp only [gs])
                    refine wpAnyH_done (by kernel_rfl) ?_ _
                    refine NoPanic.normal ?_
                    have HBT : badDoc Y 0 x.lv KK = true := by
                      have e : (Y.lv == x.lv - 1) = false := by simpa using hl
                      simp [badDoc, e]
                    have HF : Hid (RES = false) := (show _ = _ by rw [HGO2.out, HBT]; rfl)
                    have HBL : Hid (Below w.heap.size w _) := hHeld.c.bel
                    clear HGO2 M4 HBT
                    go_wp2_with fail
                    go_ret
                    exact ⟨by rw [HF.out]; rfl, HBL.out⟩
                    -- END 2
                  | false =>
                    have hlv : Y.lv = x.lv - 1 := by simpa using hl
                    have HLY : Hid (Y.lv = x.lv - 1) := hlv
                    cases hf : (firstN Y == KK) with
                    | false =>
                      have HF1 : Hid ((firstN Y == KK) = false) := hf
                      clear hf hlv
                      -- BEGIN 3
                      refine wp_region_noPanic ?_
                      refine wp_region_held_drew (S := (fun y => DY lim v l w y x (.slice ap j cp) (.slice (some ⟨ga, oa, none⟩) Q cq) top d E d2 Y (.slice yp Y.ps.length ycp) (.slice yq Y.ks.length ycq))) (by kernel_rfl) (M4.called ⟨rfl, rfl, rfl, Nat.le_refl _, fun _ _ => rfl⟩) (fun hHeld => ?_)
                      refine wpAnyH_take (i := 0) (v := ?_) rfl (by kernel_rfl) (by kernel_rfl) (by kernel_rfl) (fun _ _ _ h => h) (Or.inl ⟨by rfl, ?_⟩) hHeld ?_
                      case refine_2 => (intro w hSw; (try dsimp only at hSw); obtain ⟨k0, k1, k2⟩ := hSw.m.cells; obtain ⟨n0, n1, n2⟩ := hSw.c.m.cells; go_simp; try (with_reducible rfl))
                      (try simp only [gs])
                      refine wpAnyH_take (i := 1) (v := ?_) rfl (by kernel_rfl) (by kernel_rfl) (by kernel_rfl) (fun _ _ _ h => h) (Or.inl ⟨by rfl, ?_⟩) hHeld ?_
                      case refine_2 => (intro w hSw; (try dsimp only at hSw); obtain ⟨k0, k1, k2⟩ := hSw.m.cells; obtain ⟨n0, n1, n2⟩ := hSw.c.m.cells; go_simp; try (with_reducible rfl))
                      (try simp only [gs])
                      refine wpAnyH_take (i := 2) (v := ?_) rfl (by kernel_rfl) (by kernel_rfl) (by kernel_rfl) (fun _ _ _ h => h) (Or.inl ⟨by rfl, ?_⟩) hHeld ?_
                      case refine_2 => (intro w hSw; (try dsimp only at hSw); obtain ⟨k0, k1, k2⟩ := hSw.m.cells; obtain ⟨n0, n1, n2⟩ := hSw.c.m.cells; go_simp; try (with_reducible rfl))
                      (try simp only [gs])
                      refine wpAnyH_take (i := 3) (v := ?_) rfl (by kernel_rfl) (by kernel_rfl) (by kernel_rfl) (fun _ _ _ h => h) (Or.inl ⟨by rfl, ?_⟩) hHeld ?_
                      case refine_2 => (intro w hSw; (try dsimp only at hSw); obtain ⟨k0, k1, k2⟩ := hSw.m.cells; obtain ⟨n0, n1, n2⟩ := hSw.c.m.cells; go_simp; try (with_reducible rfl))
                      (try simp only [gs])
                      refine wpAnyH_take (i := 4) (v := ?_) rfl (by kernel_rfl) (by kernel_rfl) (by kernel_rfl) (fun _ _ _ h => h) (Or.inl ⟨by rfl, ?_⟩) hHeld ?_
                      case refine_2 => (intro w hSw; (try dsimp only at hSw); obtain ⟨k0, k1, k2⟩ := hSw.m.cells; obtain ⟨n0, n1, n2⟩ := hSw.c.m.cells; go_simp; try (with_reducible rfl))
                      (try simp only [gs])
                      refine wpAnyH_take (i := 5) (v := ?_) rfl (by kernel_rfl) (by kernel_rfl) (by kernel_rfl) (fun _ _ _ h => h) (Or.inl ⟨by rfl, ?_⟩) hHeld ?_
                      case refine_2 => (intro w hSw; (try dsimp only at hSw); obtain ⟨k0, k1, k2⟩ := hSw.m.cells; obtain ⟨n0, n1, n2⟩ := hSw.c.m.cells; go_simp; try (with_reducible rfl))
                      (try simp only [gs])
                      refine wpAnyH_take (i := 6) (v := ?_) rfl (by kernel_rfl) (by kernel_rfl) (by kernel_rfl) (fun _ _ _ h => h) (Or.inl ⟨by rfl, ?_⟩) hHeld ?_
                      case refine_2 => (intro w hSw; (try dsimp only at hSw); obtain ⟨k0, k1, k2⟩ := hSw.m.cells; obtain ⟨n0, n1, n2⟩ := hSw.c.m.cells; go_simp; try (with_reducible rfl))
                      (try simp only [gs])
                      refine wpAnyH_take (i := 7) (v := .int .i64 (x.lv - 1)) rfl (by kernel_rfl) (by kernel_rfl) (by kernel_rfl) (fun _ _ _ h => h) (Or.inl ⟨by rfl, ?_⟩) hHeld ?_
                      case refine_1 => (intro w hSw; (try dsimp only at hSw); obtain ⟨k0, k1, k2⟩ := hSw.m.cells; obtain ⟨n0, n1, n2⟩ := hSw.c.m.cells; go_simp; first | done | rfl | exact hwl)
                      (try simp only [gs])
                      refine wpAnyH_take (i := 8) (v := .bool false) rfl (by kernel_rfl) (by kernel_rfl) (by kernel_rfl) (fun _ _ _ h => h) (Or.inl ⟨by rfl, ?_⟩) hHeld ?_
                      case refine_1 => (intro w hSw; (try dsimp only at hSw); obtain ⟨k0, k1, k2⟩ := hSw.m.cells; obtain ⟨n0, n1, n2⟩ := hSw.c.m.cells; go_simp; first | done | rfl | exact hwl)
                      (try simp only [gs])
                      refine wpAnyH_take (i := 9) (v := ?_) rfl (by kernel_rfl) (by kernel_rfl) (by kernel_rfl) (fun _ _ _ h => h) (Or.inl ⟨by rfl, ?_⟩) hHeld ?_
                      case refine_2 => (intro w hSw; (try dsimp only at hSw); obtain ⟨k0, k1, k2⟩ := hSw.m.cells; obtain ⟨n0, n1, n2⟩ := hSw.c.m.cells; go_simp; try (with_reducible rfl))
                      (try simp only [gs])
                      refine wpAnyH_take (i := 10) (v := ?_) rfl (by kernel_rfl) (by kernel_rfl) (by kernel_rfl) (fun _ _ _ h => h) (Or.inl ⟨by rfl, ?_⟩) hHeld ?_
                      case refine_2 => (intro w hSw; (try dsimp only at hSw); obtain ⟨k0, k1, k2⟩ := hSw.m.cells; obtain ⟨n0, n1, n2⟩ := hSw.c.m.cells; go_simp; try (with_reducible rfl))
                      (try simp only [gs])
                      refine wpAnyH_take (i := 11) rfl (by kernel_rfl) (by kernel_rfl) (by kernel_rfl) (fun _ _ _ h => h) (yieldsIf_load_mid (by rfl) _ _ rfl _ _ rfl _ _ (fun _ h => h.m.range) Tryz.underlying60 rfl Tryz.node_info) hHeld ?_
                      (try simp only [gs])
                      refine wpAnyH_take (i := 13) (v := ?_) rfl (by kernel_rfl) (by kernel_rfl) (by kernel_rfl) (fun _ _ _ h => h) (Or.inl ⟨by rfl, ?_⟩) hHeld ?_
                      case refine_2 => (intro w hSw; (try dsimp only at hSw); obtain ⟨k0, k1, k2⟩ := hSw.m.cells; obtain ⟨n0, n1, n2⟩ := hSw.c.m.cells; go_simp; try (with_reducible rfl))
                      (try simp only [gs])
                      refine wpAnyH_take (i := 14) rfl (by kernel_rfl) (by kernel_rfl) (by kernel_rfl) (fun _ _ _ h => h) (yieldsIf_load_mid (by rfl) _ _ rfl _ _ rfl _ _ (fun _ h => (HEK.out ▸ range_key h.k.range : World.rangeAt _ d 0 (bc KK))) Tryz.underlying25 rfl (by rw [bc_length]; exact HKI.out _ HKL.out)) hHeld ?_
                      (try simp only [gs])
                      generalize x4.drew = y0 at *
                      refine wpAnyH_ready (rs := [12]) (by kernel_rfl) (by simp) (AllReadyH.cons rfl (fun K hK => ?_) AllReadyH.nil)
                      rw [if_pos (by rfl)]
                      (try simp only [gs])
                      go_simp
                      refine (HFC.out _ hHeld.q).mono ?_
                      rintro e y2 ⟨rfl, b2⟩
                      refine hK.out _ _ (hHeld.called b2) (fun g2 => ?_)
                      clear hK K
                      (try simp only [gs])
                      refine wpAnyH_take (i := 15) (v := .bool true) rfl (by kernel_rfl) (by kernel_rfl) (by kernel_rfl) (fun _ _ _ h => h) (Or.inl ⟨by rfl, ?_⟩) g2 ?_
                      case refine_1 => (intro w hSw; (try dsimp only at hSw); have q := eq_key w (firstN Y) KK HFL.out HKL.out; rw [HF1.out] at q; go_simp; first | done | rfl | exact hwl)
                      (try simp only [gs])
                      refine wpAnyH_take (i := 16) (v := ?_) rfl (by kernel_rfl) (by kernel_rfl) (by kernel_rfl) (fun _ _ _ h => h) (Or.inl ⟨by rfl, ?_⟩) g2 ?_
                      case refine_2 => (intro w hSw; (try dsimp only at hSw); obtain ⟨k0, k1, k2⟩ := hSw.m.cells; obtain ⟨n0, n1, n2⟩ := hSw.c.m.cells; go_simp; try (with_reducible rfl))
                      (try simp only [gs])
                      refine wpAnyH_take (i := 17) (v := ?_) rfl (by kernel_rfl) (by kernel_rfl) (by kernel_rfl) (fun _ _ _ h => h) (Or.inl ⟨by rfl, ?_⟩) g2 ?_
                      case refine_2 => (intro w hSw; (try dsimp only at hSw); obtain ⟨k0, k1, k2⟩ := hSw.m.cells; obtain ⟨n0, n1, n2⟩ := hSw.c.m.cells; go_simp; try (with_reducible rfl))
                      (try simp only [gs])
                      refine wpAnyH_take (i := 18) (v := undef) rfl (by kernel_rfl) (by kernel_rfl) (by kernel_rfl) (fun _ _ _ h => h) (Or.inr ⟨by rfl, rfl⟩) g2 ?_
                      (try simp only [gs])
                      refine wpAnyH_take (i := 19) (v := undef) rfl (by kernel_rfl) (by kernel_rfl) (by kernel_rfl) (fun _ _ _ h => h) (Or.inr ⟨by rfl, rfl⟩) g2 ?_
                      (try simp only [gs])
                      refine wpAnyH_take (i := 20) (v := undef) rfl (by kernel_rfl) (by kernel_rfl) (by kernel_rfl) (fun _ _ _ h => h) (Or.inr ⟨by rfl, rfl⟩) g2 ?_
                      (try simp only [gs])
                      refine wpAnyH_take (i := 21) (v := undef) rfl (by kernel_rfl) (by kernel_rfl) (by kernel_rfl) (fun _ _ _ h => h) (Or.inr ⟨by rfl, rfl⟩) g2 ?_
                      (try simp only [gs])
                      refine wpAnyH_take (i := 22) (v := undef) rfl (by kernel_rfl) (by kernel_rfl) (by kernel_rfl) (fun _ _ _ h => h) (Or.inr ⟨by rfl, rfl⟩) g2 ?_
                      (try simp only [gs])
                      refine wpAnyH_take (i := 23) (v := undef) rfl (by kernel_rfl) (by kernel_rfl) (by kernel_rfl) (fun _ _ _ h => h) (Or.inr ⟨by rfl, rfl⟩) g2 ?_
                      (try simp only [gs])
                      refine wpAnyH_take (i := 24) (v := undef) rfl (by kernel_rfl) (by kernel_rfl) (by kernel_rfl) (fun _ _ _ h => h) (Or.inr ⟨by rfl, rfl⟩) g2 ?_
                      (try simp only [gs])
                      refine wpAnyH_take (i := 25) (v := undef) rfl (by kernel_rfl) (by kernel_rfl) (by kernel_rfl) (fun _ _ _ h => h) (Or.inr ⟨by rfl, rfl⟩) g2 ?_
                      (try simp only [gs])
                      refine wpAnyH_take (i := 26) (v := undef) rfl (by kernel_rfl) (by kernel_rfl) (by kernel_rfl) (fun _ _ _ h => h) (Or.inr ⟨by rfl, rfl⟩) g2 ?_
                      (try simp only [gs])
                      refine wpAnyH_take (i := 27) (v := ?_) rfl (by kernel_rfl) (by kernel_rfl) (by kernel_rfl) (fun _ _ _ h => h) (Or.inl ⟨by rfl, ?_⟩) g2 ?_
                      case refine_2 => (intro w hSw; (try dsimp only at hSw); obtain ⟨k0, k1, k2⟩ := hSw.m.cells; obtain ⟨n0, n1, n2⟩ := hSw.c.m.cells; go_simp; try (with_reducible rfl))
                      (try simp only [gs])
                      refine wpAnyH_take (i := 28) (v := ?_) rfl (by kernel_rfl) (by kernel_rfl) (by kernel_rfl) (fun _ _ _ h => h) (Or.inl ⟨by rfl, ?_⟩) g2 ?_
                      case refine_2 => (intro w hSw; (try dsimp only at hSw); obtain ⟨k0, k1, k2⟩ := hSw.m.cells; obtain ⟨n0, n1, n2⟩ := hSw.c.m.cells; go_simp; try (with_reducible rfl))
                      (try simp only [gs])
                      refine wpAnyH_take (i := 29) (v := undef) rfl (by kernel_rfl) (by kernel_rfl) (by kernel_rfl) (fun _ _ _ h => h) (Or.inr ⟨by rfl, rfl⟩) g2 ?_
                      (try simp only [gs])
                      refine wpAnyH_take (i := 30) (v := undef) rfl (by kernel_rfl) (by kernel_rfl) (by kernel_rfl) (fun _ _ _ h => h) (Or.inr ⟨by rfl, rfl⟩) g2 ?_
                      (try simp only [gs])
                      refine wpAnyH_take (i := 31) (v := undef) rfl (by kernel_rfl) (by kernel_rfl) (by kernel_rfl) (fun _ _ _ h => h) (Or.inr ⟨by rfl, rfl⟩) g2 ?_
                      (try simp only [gs])
                      refine wpAnyH_take (i := 32) (v := undef) rfl (by kernel_rfl) (by kernel_rfl) (by kernel_rfl) (fun _ _ _ h => h) (Or.inr ⟨by rfl, rfl⟩) g2 ?_
                      (try simp only [gs])
                      refine wpAnyH_take (i := 33) (v := undef) rfl (by kernel_rfl) (by kernel_rfl) (by kernel_rfl) (fun _ _ _ h => h) (Or.inr ⟨by rfl, rfl⟩) g2 ?_
                      (try simp only [gs])
                      refine wpAnyH_take (i := 34) (v := undef) rfl (by kernel_rfl) (by kernel_rfl) (by kernel_rfl) (fun _ _ _ h => h) (Or.inr ⟨by rfl, rfl⟩) g2 ?_
                      (try simp only [gs])
                      refine wpAnyH_take (i := 35) (v := undef) rfl (by kernel_rfl) (by kernel_rfl) (by kernel_rfl) (fun _ _ _ h => h) (Or.inr ⟨by rfl, rfl⟩) g2 ?_
                      (try simp only [gs])
                      refine wpAnyH_take (i := 36) (v := undef) rfl (by kernel_rfl) (by kernel_rfl) (by kernel_rfl) (fun _ _ _ h => h) (Or.inr ⟨by rfl, rfl⟩) g2 ?_
                      (try simp only [gs])
                      refine wpAnyH_take (i := 37) (v := undef) rfl (by kernel_rfl) (by kernel_rfl) (by kernel_rfl) (fun _ _ _ h => h) (Or.inr ⟨by rfl, rfl⟩) g2 ?_
                      (try simp only [gs])
                      refine wpAnyH_take (i := 38) (v := ?_) rfl (by kernel_rfl) (by kernel_rfl) (by kernel_rfl) (fun _ _ _ h => h) (Or.inl ⟨by rfl, ?_⟩) g2 ?_
                      case refine_2 => (intro w hSw; (try dsimp only at hSw); obtain ⟨k0, k1, k2⟩ := hSw.m.cells; obtain ⟨n0, n1, n2⟩ := hSw.c.m.cells; go_simp; try (with_reducible rfl))
                      (try simp only [gs])
                      refine wpAnyH_done (by kernel_rfl) ?_ _
                      refine NoPanic.normal ?_
                      have HBT : badDoc Y 0 x.lv KK = true := by
                        simp [badDoc, HF1.out]
                      have HF : Hid (RES = false) := (show _ = _ by rw [HGO2.out, HBT]; rfl)
                      have HBL : Hid (Below w.heap.size w _) := g2.c.bel
                      clear HGO2 M4 HBT
                      go_wp2_with fail
                      go_ret
                      exact ⟨by rw [HF.out]; rfl, HBL.out⟩
                      -- END 3
                    | true =>
                      -- MARK1
                      have HF1 : Hid ((firstN Y == KK) = true) := hf
                      clear hf hlv
                      by_cases hz : Y.lv = 0
                      · have hz1 : (Y.lv == 0) = true := by simpa using hz
                        have hz2 : decide (0 < Y.lv) = false := decide_eq_false (by omega)
                        have HZ : Hid (Y.lv = 0) := hz
                        clear hz
                        cases hs : decide ((Y.ps.length : Int) < 3) with
                        | true =>
                          -- BEGIN 4
                          refine wp_region_noPanic ?_
                          refine wp_region_held_drew (S := (fun y => DY lim v l w y x (.slice ap j cp) (.slice (some ⟨ga, oa, none⟩) Q cq) top d E d2 Y (.slice yp Y.ps.length ycp) (.slice yq Y.ks.length ycq))) (by kernel_rfl) (M4.called ⟨rfl, rfl, rfl, Nat.le_refl _, fun _ _ => rfl⟩) (fun hHeld => ?_)
                          refine wpAnyH_take (i := 0) (v := ?_) rfl (by kernel_rfl) (by kernel_rfl) (by kernel_rfl) (fun _ _ _ h => h) (Or.inl ⟨by rfl, ?_⟩) hHeld ?_
                          case refine_2 => (intro w hSw; (try dsimp only at hSw); obtain ⟨k0, k1, k2⟩ := hSw.m.cells; obtain ⟨n0, n1, n2⟩ := hSw.c.m.cells; go_simp; try (with_reducible rfl))
                          (try simp only [gs])
                          refine wpAnyH_take (i := 1) (v := ?_) rfl (by kernel_rfl) (by kernel_rfl) (by kernel_rfl) (fun _ _ _ h => h) (Or.inl ⟨by rfl, ?_⟩) hHeld ?_
                          case refine_2 => (intro w hSw; (try dsimp only at hSw); obtain ⟨k0, k1, k2⟩ := hSw.m.cells; obtain ⟨n0, n1, n2⟩ := hSw.c.m.cells; go_simp; try (with_reducible rfl))
                          (try simp only [gs])
                          refine wpAnyH_take (i := 2) (v := ?_) rfl (by kernel_rfl) (by kernel_rfl) (by kernel_rfl) (fun _ _ _ h => h) (Or.inl ⟨by rfl, ?_⟩) hHeld ?_
                          case refine_2 => (intro w hSw; (try dsimp only at hSw); obtain ⟨k0, k1, k2⟩ := hSw.m.cells; obtain ⟨n0, n1, n2⟩ := hSw.c.m.cells; go_simp; try (with_reducible rfl))
                          (try simp only [gs])
                          refine wpAnyH_take (i := 3) (v := ?_) rfl (by kernel_rfl) (by kernel_rfl) (by kernel_rfl) (fun _ _ _ h => h) (Or.inl ⟨by rfl, ?_⟩) hHeld ?_
                          case refine_2 => (intro w hSw; (try dsimp only at hSw); obtain ⟨k0, k1, k2⟩ := hSw.m.cells; obtain ⟨n0, n1, n2⟩ := hSw.c.m.cells; go_simp; try (with_reducible rfl))
                          (try simp only [gs])
                          refine wpAnyH_take (i := 4) (v := ?_) rfl (by kernel_rfl) (by kernel_rfl) (by kernel_rfl) (fun _ _ _ h => h) (Or.inl ⟨by rfl, ?_⟩) hHeld ?_
                          case refine_2 => (intro w hSw; (try dsimp only at hSw); obtain ⟨k0, k1, k2⟩ := hSw.m.cells; obtain ⟨n0, n1, n2⟩ := hSw.c.m.cells; go_simp; try (with_reducible rfl))
                          (try simp only [gs])
                          refine wpAnyH_take (i := 5) (v := ?_) rfl (by kernel_rfl) (by kernel_rfl) (by kernel_rfl) (fun _ _ _ h => h) (Or.inl ⟨by rfl, ?_⟩) hHeld ?_
                          case refine_2 => (intro w hSw; (try dsimp only at hSw); obtain ⟨k0, k1, k2⟩ := hSw.m.cells; obtain ⟨n0, n1, n2⟩ := hSw.c.m.cells; go_simp; try (with_reducible rfl))
                          (try simp only [gs])
                          refine wpAnyH_take (i := 6) (v := ?_) rfl (by kernel_rfl) (by kernel_rfl) (by kernel_rfl) (fun _ _ _ h => h) (Or.inl ⟨by rfl, ?_⟩) hHeld ?_
                          case refine_2 => (intro w hSw; (try dsimp only at hSw); obtain ⟨k0, k1, k2⟩ := hSw.m.cells; obtain ⟨n0, n1, n2⟩ := hSw.c.m.cells; go_simp; try (with_reducible rfl))
                          (try simp only [gs])
                          refine wpAnyH_take (i := 7) (v := .int .i64 (x.lv - 1)) rfl (by kernel_rfl) (by kernel_rfl) (by kernel_rfl) (fun _ _ _ h => h) (Or.inl ⟨by rfl, ?_⟩) hHeld ?_
                          case refine_1 => (intro w hSw; (try dsimp only at hSw); obtain ⟨k0, k1, k2⟩ := hSw.m.cells; obtain ⟨n0, n1, n2⟩ := hSw.c.m.cells; go_simp; first | done | rfl | exact hwl)
                          (try simp only [gs])
                          refine wpAnyH_take (i := 8) (v := .bool false) rfl (by kernel_rfl) (by kernel_rfl) (by kernel_rfl) (fun _ _ _ h => h) (Or.inl ⟨by rfl, ?_⟩) hHeld ?_
                          case refine_1 => (intro w hSw; (try dsimp only at hSw); obtain ⟨k0, k1, k2⟩ := hSw.m.cells; obtain ⟨n0, n1, n2⟩ := hSw.c.m.cells; go_simp; first | done | rfl | exact hwl)
                          (try simp only [gs])
                          refine wpAnyH_take (i := 9) (v := ?_) rfl (by kernel_rfl) (by kernel_rfl) (by kernel_rfl) (fun _ _ _ h => h) (Or.inl ⟨by rfl, ?_⟩) hHeld ?_
                          case refine_2 => (intro w hSw; (try dsimp only at hSw); obtain ⟨k0, k1, k2⟩ := hSw.m.cells; obtain ⟨n0, n1, n2⟩ := hSw.c.m.cells; go_simp; try (with_reducible rfl))
                          (try simp only [gs])
                          refine wpAnyH_take (i := 10) (v := ?_) rfl (by kernel_rfl) (by kernel_rfl) (by kernel_rfl) (fun _ _ _ h => h) (Or.inl ⟨by rfl, ?_⟩) hHeld ?_
                          case refine_2 => (intro w hSw; (try dsimp only at hSw); obtain ⟨k0, k1, k2⟩ := hSw.m.cells; obtain ⟨n0, n1, n2⟩ := hSw.c.m.cells; go_simp; try (with_reducible rfl))
                          (try simp only [gs])
                          refine wpAnyH_take (i := 11) rfl (by kernel_rfl) (by kernel_rfl) (by kernel_rfl) (fun _ _ _ h => h) (yieldsIf_load_mid (by rfl) _ _ rfl _ _ rfl _ _ (fun _ h => h.m.range) Tryz.underlying60 rfl Tryz.node_info) hHeld ?_
                          (try simp only [gs])
                          refine wpAnyH_take (i := 13) (v := ?_) rfl (by kernel_rfl) (by kernel_rfl) (by kernel_rfl) (fun _ _ _ h => h) (Or.inl ⟨by rfl, ?_⟩) hHeld ?_
                          case refine_2 => (intro w hSw; (try dsimp only at hSw); obtain ⟨k0, k1, k2⟩ := hSw.m.cells; obtain ⟨n0, n1, n2⟩ := hSw.c.m.cells; go_simp; try (with_reducible rfl))
                          (try simp only [gs])
                          refine wpAnyH_take (i := 14) rfl (by kernel_rfl) (by kernel_rfl) (by kernel_rfl) (fun _ _ _ h => h) (yieldsIf_load_mid (by rfl) _ _ rfl _ _ rfl _ _ (fun _ h => (HEK.out ▸ range_key h.k.range : World.rangeAt _ d 0 (bc KK))) Tryz.underlying25 rfl (by rw [bc_length]; exact HKI.out _ HKL.out)) hHeld ?_
                          (try simp only [gs])
                          generalize x4.drew = y0 at *
                          refine wpAnyH_ready (rs := [12]) (by kernel_rfl) (by simp) (AllReadyH.cons rfl (fun K hK => ?_) AllReadyH.nil)
                          rw [if_pos (by rfl)]
                          (try simp only [gs])
                          go_simp
                          refine (HFC.out _ hHeld.q).mono ?_
                          rintro e y2 ⟨rfl, b2⟩
                          refine hK.out _ _ (hHeld.called b2) (fun g2 => ?_)
                          clear hK K
                          (try simp only [gs])
                          refine wpAnyH_take (i := 15) (v := .bool false) rfl (by kernel_rfl) (by kernel_rfl) (by kernel_rfl) (fun _ _ _ h => h) (Or.inl ⟨by rfl, ?_⟩) g2 ?_
                          case refine_1 => (intro w hSw; (try dsimp only at hSw); have q := eq_key w (firstN Y) KK HFL.out HKL.out; rw [HF1.out] at q; go_simp; first | done | rfl | exact hwl)
                          (try simp only [gs])
                          refine wpAnyH_take (i := 16) (v := ?_) rfl (by kernel_rfl) (by kernel_rfl) (by kernel_rfl) (fun _ _ _ h => h) (Or.inl ⟨by rfl, ?_⟩) g2 ?_
                          case refine_2 => (intro w hSw; (try dsimp only at hSw); obtain ⟨k0, k1, k2⟩ := hSw.m.cells; obtain ⟨n0, n1, n2⟩ := hSw.c.m.cells; go_simp; try (with_reducible rfl))
                          (try simp only [gs])
                          refine wpAnyH_take (i := 17) (v := ?_) rfl (by kernel_rfl) (by kernel_rfl) (by kernel_rfl) (fun _ _ _ h => h) (Or.inl ⟨by rfl, ?_⟩) g2 ?_
                          case refine_2 => (intro w hSw; (try dsimp only at hSw); obtain ⟨k0, k1, k2⟩ := hSw.m.cells; obtain ⟨n0, n1, n2⟩ := hSw.c.m.cells; go_simp; try (with_reducible rfl))
                          (try simp only [gs])
                          refine wpAnyH_take (i := 18) (v := ?_) rfl (by kernel_rfl) (by kernel_rfl) (by kernel_rfl) (fun _ _ _ h => h) (Or.inl ⟨by rfl, ?_⟩) g2 ?_
                          case refine_2 => (intro w hSw; (try dsimp only at hSw); obtain ⟨k0, k1, k2⟩ := hSw.m.cells; obtain ⟨n0, n1, n2⟩ := hSw.c.m.cells; go_simp; try (with_reducible rfl))
                          (try simp only [gs])
                          refine wpAnyH_take (i := 19) (v := ?_) rfl (by kernel_rfl) (by kernel_rfl) (by kernel_rfl) (fun _ _ _ h => h) (Or.inl ⟨by rfl, ?_⟩) g2 ?_
                          case refine_2 => (intro w hSw; (try dsimp only at hSw); obtain ⟨k0, k1, k2⟩ := hSw.m.cells; obtain ⟨n0, n1, n2⟩ := hSw.c.m.cells; go_simp; try (with_reducible rfl))
                          (try simp only [gs])
                          refine wpAnyH_take (i := 20) (v := .bool true) rfl (by kernel_rfl) (by kernel_rfl) (by kernel_rfl) (fun _ _ _ h => h) (Or.inl ⟨by rfl, ?_⟩) g2 ?_
                          case refine_1 => (intro w hSw; (try dsimp only at hSw); obtain ⟨k0, k1, k2⟩ := hSw.m.cells; obtain ⟨n0, n1, n2⟩ := hSw.c.m.cells; go_simp; first | done | rfl | exact hwl)
                          (try simp only [gs])
                          refine wpAnyH_take (i := 21) (v := ?_) rfl (by kernel_rfl) (by kernel_rfl) (by kernel_rfl) (fun _ _ _ h => h) (Or.inl ⟨by rfl, ?_⟩) g2 ?_
                          case refine_2 => (intro w hSw; (try dsimp only at hSw); obtain ⟨k0, k1, k2⟩ := hSw.m.cells; obtain ⟨n0, n1, n2⟩ := hSw.c.m.cells; go_simp; try (with_reducible rfl))
                          (try simp only [gs])
                          refine wpAnyH_take (i := 22) (v := ?_) rfl (by kernel_rfl) (by kernel_rfl) (by kernel_rfl) (fun _ _ _ h => h) (Or.inl ⟨by rfl, ?_⟩) g2 ?_
                          case refine_2 => (intro w hSw; (try dsimp only at hSw); obtain ⟨k0, k1, k2⟩ := hSw.m.cells; obtain ⟨n0, n1, n2⟩ := hSw.c.m.cells; go_simp; try (with_reducible rfl))
                          (try simp only [gs])
                          refine wpAnyH_take (i := 23) (v := ?_) rfl (by kernel_rfl) (by kernel_rfl) (by kernel_rfl) (fun _ _ _ h => h) (Or.inl ⟨by rfl, ?_⟩) g2 ?_
                          case refine_2 => (intro w hSw; (try dsimp only at hSw); obtain ⟨k0, k1, k2⟩ := hSw.m.cells; obtain ⟨n0, n1, n2⟩ := hSw.c.m.cells; go_simp; try (with_reducible rfl))
                          (try simp only [gs])
                          refine wpAnyH_take (i := 24) (v := ?_) rfl (by kernel_rfl) (by kernel_rfl) (by kernel_rfl) (fun _ _ _ h => h) (Or.inl ⟨by rfl, ?_⟩) g2 ?_
                          case refine_2 => (intro w hSw; (try dsimp only at hSw); obtain ⟨k0, k1, k2⟩ := hSw.m.cells; obtain ⟨n0, n1, n2⟩ := hSw.c.m.cells; go_simp; try (with_reducible rfl))
                          (try simp only [gs])
                          refine wpAnyH_take (i := 25) (v := .bool true) rfl (by kernel_rfl) (by kernel_rfl) (by kernel_rfl) (fun _ _ _ h => h) (Or.inl ⟨by rfl, ?_⟩) g2 ?_
                          case refine_1 => (intro w hSw; (try dsimp only at hSw); obtain ⟨k0, k1, k2⟩ := hSw.m.cells; obtain ⟨n0, n1, n2⟩ := hSw.c.m.cells; go_simp; first | done | rfl | exact hwl)
                          (try simp only [gs])
                          refine wpAnyH_take (i := 26) (v := ?_) rfl (by kernel_rfl) (by kernel_rfl) (by kernel_rfl) (fun _ _ _ h => h) (Or.inl ⟨by rfl, ?_⟩) g2 ?_
                          case refine_2 => (intro w hSw; (try dsimp only at hSw); obtain ⟨k0, k1, k2⟩ := hSw.m.cells; obtain ⟨n0, n1, n2⟩ := hSw.c.m.cells; go_simp; try (with_reducible rfl))
                          (try simp only [gs])
                          refine wpAnyH_take (i := 27) (v := ?_) rfl (by kernel_rfl) (by kernel_rfl) (by kernel_rfl) (fun _ _ _ h => h) (Or.inl ⟨by rfl, ?_⟩) g2 ?_
                          case refine_2 => (intro w hSw; (try dsimp only at hSw); obtain ⟨k0, k1, k2⟩ := hSw.m.cells; obtain ⟨n0, n1, n2⟩ := hSw.c.m.cells; go_simp; try (with_reducible rfl))
                          (try simp only [gs])
                          refine wpAnyH_take (i := 28) (v := ?_) rfl (by kernel_rfl) (by kernel_rfl) (by kernel_rfl) (fun _ _ _ h => h) (Or.inl ⟨by rfl, ?_⟩) g2 ?_
                          case refine_2 => (intro w hSw; (try dsimp only at hSw); obtain ⟨k0, k1, k2⟩ := hSw.m.cells; obtain ⟨n0, n1, n2⟩ := hSw.c.m.cells; go_simp; try (with_reducible rfl))
                          (try simp only [gs])
                          refine wpAnyH_take (i := 29) (v := undef) rfl (by kernel_rfl) (by kernel_rfl) (by kernel_rfl) (fun _ _ _ h => h) (Or.inr ⟨by rfl, rfl⟩) g2 ?_
                          (try simp only [gs])
                          refine wpAnyH_take (i := 30) (v := undef) rfl (by kernel_rfl) (by kernel_rfl) (by kernel_rfl) (fun _ _ _ h => h) (Or.inr ⟨by rfl, rfl⟩) g2 ?_
                          (try simp only [gs])
                          refine wpAnyH_take (i := 31) (v := undef) rfl (by kernel_rfl) (by kernel_rfl) (by kernel_rfl) (fun _ _ _ h => h) (Or.inr ⟨by rfl, rfl⟩) g2 ?_
                          (try simp only [gs])
                          refine wpAnyH_take (i := 32) (v := undef) rfl (by kernel_rfl) (by kernel_rfl) (by kernel_rfl) (fun _ _ _ h => h) (Or.inr ⟨by rfl, rfl⟩) g2 ?_
                          (try simp only [gs])
                          refine wpAnyH_take (i := 33) (v := undef) rfl (by kernel_rfl) (by kernel_rfl) (by kernel_rfl) (fun _ _ _ h => h) (Or.inr ⟨by rfl, rfl⟩) g2 ?_
                          (try simp only [gs])
                          refine wpAnyH_take (i := 34) (v := undef) rfl (by kernel_rfl) (by kernel_rfl) (by kernel_rfl) (fun _ _ _ h => h) (Or.inr ⟨by rfl, rfl⟩) g2 ?_
                          (try simp only [gs])
                          refine wpAnyH_take (i := 35) (v := undef) rfl (by kernel_rfl) (by kernel_rfl) (by kernel_rfl) (fun _ _ _ h => h) (Or.inr ⟨by rfl, rfl⟩) g2 ?_
                          (try simp only [gs])
                          refine wpAnyH_take (i := 36) (v := undef) rfl (by kernel_rfl) (by kernel_rfl) (by kernel_rfl) (fun _ _ _ h => h) (Or.inr ⟨by rfl, rfl⟩) g2 ?_
                          (try simp only [gs])
                          refine wpAnyH_take (i := 37) (v := undef) rfl (by kernel_rfl) (by kernel_rfl) (by kernel_rfl) (fun _ _ _ h => h) (Or.inr ⟨by rfl, rfl⟩) g2 ?_
                          (try simp only [gs])
                          refine wpAnyH_take (i := 38) (v := ?_) rfl (by kernel_rfl) (by kernel_rfl) (by kernel_rfl) (fun _ _ _ h => h) (Or.inl ⟨by rfl, ?_⟩) g2 ?_
                          case refine_2 => (intro w hSw; (try dsimp only at hSw); obtain ⟨k0, k1, k2⟩ := hSw.m.cells; obtain ⟨n0, n1, n2⟩ := hSw.c.m.cells; go_simp; try (with_reducible rfl))
                          (try simp only [gs])
                          refine wpAnyH_done (by kernel_rfl) ?_ _
                          refine NoPanic.normal ?_
                          have HBT : badDoc Y 0 x.lv KK = true := by
                            have e : Y.ps.length < 3 := by have := of_decide_eq_true hs; omega
                            simp [badDoc, hz1, e]
                          have HF : Hid (RES = false) := (show _ = _ by rw [HGO2.out, HBT]; rfl)
                          have HBL : Hid (Below w.heap.size w _) := g2.c.bel
                          clear HGO2 M4 HBT
                          go_wp2_with fail
                          go_ret
                          exact ⟨by rw [HF.out]; rfl, HBL.out⟩
                          -- END 4
                        | false =>
                          have HBD : Hid (badDoc Y 0 x.lv KK = false) := (show _ = _ by
                            have e : ¬ Y.ps.length < 3 := by have := of_decide_eq_false hs; omega
                            have e2 : ¬ 0 < Y.lv := by have := HZ.out; omega
                            have e3 : (Y.lv == x.lv - 1) = true := by simpa using HLY.out
                            simp [badDoc, HF1.out, e3, e, e2]
                            try omega)
                          -- BEGIN 5
                          refine wp_region_noPanic ?_
                          refine wp_region_held_drew (S := (fun y => DY lim v l w y x (.slice ap j cp) (.slice (some ⟨ga, oa, none⟩) Q cq) top d E d2 Y (.slice yp Y.ps.length ycp) (.slice yq Y.ks.length ycq))) (by kernel_rfl) (M4.called ⟨rfl, rfl, rfl, Nat.le_refl _, fun _ _ => rfl⟩) (fun hHeld => ?_)
                          refine wpAnyH_take (i := 0) (v := ?_) rfl (by kernel_rfl) (by kernel_rfl) (by kernel_rfl) (fun _ _ _ h => h) (Or.inl ⟨by rfl, ?_⟩) hHeld ?_
                          case refine_2 => (intro w hSw; (try dsimp only at hSw); obtain ⟨k0, k1, k2⟩ := hSw.m.cells; obtain ⟨n0, n1, n2⟩ := hSw.c.m.cells; go_simp; try (with_reducible rfl))
                          (try simp only [gs])
                          refine wpAnyH_take (i := 1) (v := ?_) rfl (by kernel_rfl) (by kernel_rfl) (by kernel_rfl) (fun _ _ _ h => h) (Or.inl ⟨by rfl, ?_⟩) hHeld ?_
                          case refine_2 => (intro w hSw; (try dsimp only at hSw); obtain ⟨k0, k1, k2⟩ := hSw.m.cells; obtain ⟨n0, n1, n2⟩ := hSw.c.m.cells; go_simp; try (with_reducible rfl))
                          (try simp only [gs])
                          refine wpAnyH_take (i := 2) (v := ?_) rfl (by kernel_rfl) (by kernel_rfl) (by kernel_rfl) (fun _ _ _ h => h) (Or.inl ⟨by rfl, ?_⟩) hHeld ?_
                          case refine_2 => (intro w hSw; (try dsimp only at hSw); obtain ⟨k0, k1, k2⟩ := hSw.m.cells; obtain ⟨n0, n1, n2⟩ := hSw.c.m.cells; go_simp; try (with_reducible rfl))
                          (try simp only [gs])
                          refine wpAnyH_take (i := 3) (v := ?_) rfl (by kernel_rfl) (by kernel_rfl) (by kernel_rfl) (fun _ _ _ h => h) (Or.inl ⟨by rfl, ?_⟩) hHeld ?_
                          case refine_2 => (intro w hSw; (try dsimp only at hSw); obtain ⟨k0, k1, k2⟩ := hSw.m.cells; obtain ⟨n0, n1, n2⟩ := hSw.c.m.cells; go_simp; try (with_reducible rfl))
                          (try simp only [gs])
                          refine wpAnyH_take (i := 4) (v := ?_) rfl (by kernel_rfl) (by kernel_rfl) (by kernel_rfl) (fun _ _ _ h => h) (Or.inl ⟨by rfl, ?_⟩) hHeld ?_
                          case refine_2 => (intro w hSw; (try dsimp only at hSw); obtain ⟨k0, k1, k2⟩ := hSw.m.cells; obtain ⟨n0, n1, n2⟩ := hSw.c.m.cells; go_simp; try (with_reducible rfl))
                          (try simp only [gs])
                          refine wpAnyH_take (i := 5) (v := ?_) rfl (by kernel_rfl) (by kernel_rfl) (by kernel_rfl) (fun _ _ _ h => h) (Or.inl ⟨by rfl, ?_⟩) hHeld ?_
                          case refine_2 => (intro w hSw; (try dsimp only at hSw); obtain ⟨k0, k1, k2⟩ := hSw.m.cells; obtain ⟨n0, n1, n2⟩ := hSw.c.m.cells; go_simp; try (with_reducible rfl))
                          (try simp only [gs])
                          refine wpAnyH_take (i := 6) (v := ?_) rfl (by kernel_rfl) (by kernel_rfl) (by kernel_rfl) (fun _ _ _ h => h) (Or.inl ⟨by rfl, ?_⟩) hHeld ?_
                          case refine_2 => (intro w hSw; (try dsimp only at hSw); obtain ⟨k0, k1, k2⟩ := hSw.m.cells; obtain ⟨n0, n1, n2⟩ := hSw.c.m.cells; go_simp; try (with_reducible rfl))
                          (try simp only [gs])
                          refine wpAnyH_take (i := 7) (v := .int .i64 (x.lv - 1)) rfl (by kernel_rfl) (by kernel_rfl) (by kernel_rfl) (fun _ _ _ h => h) (Or.inl ⟨by rfl, ?_⟩) hHeld ?_
                          case refine_1 => (intro w hSw; (try dsimp only at hSw); obtain ⟨k0, k1, k2⟩ := hSw.m.cells; obtain ⟨n0, n1, n2⟩ := hSw.c.m.cells; go_simp; first | done | rfl | exact hwl)
                          (try simp only [gs])
                          refine wpAnyH_take (i := 8) (v := .bool false) rfl (by kernel_rfl) (by kernel_rfl) (by kernel_rfl) (fun _ _ _ h => h) (Or.inl ⟨by rfl, ?_⟩) hHeld ?_
                          case refine_1 => (intro w hSw; (try dsimp only at hSw); obtain ⟨k0, k1, k2⟩ := hSw.m.cells; obtain ⟨n0, n1, n2⟩ := hSw.c.m.cells; go_simp; first | done | rfl | exact hwl)
                          (try simp only [gs])
                          refine wpAnyH_take (i := 9) (v := ?_) rfl (by kernel_rfl) (by kernel_rfl) (by kernel_rfl) (fun _ _ _ h => h) (Or.inl ⟨by rfl, ?_⟩) hHeld ?_
                          case refine_2 => (intro w hSw; (try dsimp only at hSw); obtain ⟨k0, k1, k2⟩ := hSw.m.cells; obtain ⟨n0, n1, n2⟩ := hSw.c.m.cells; go_simp; try (with_reducible rfl))
                          (try simp only [gs])
                          refine wpAnyH_take (i := 10) (v := ?_) rfl (by kernel_rfl) (by kernel_rfl) (by kernel_rfl) (fun _ _ _ h => h) (Or.inl ⟨by rfl, ?_⟩) hHeld ?_
                          case refine_2 => (intro w hSw; (try dsimp only at hSw); obtain ⟨k0, k1, k2⟩ := hSw.m.cells; obtain ⟨n0, n1, n2⟩ := hSw.c.m.cells; go_simp; try (with_reducible rfl))
                          (try simp only [gs])
                          refine wpAnyH_take (i := 11) rfl (by kernel_rfl) (by kernel_rfl) (by kernel_rfl) (fun _ _ _ h => h) (yieldsIf_load_mid (by rfl) _ _ rfl _ _ rfl _ _ (fun _ h => h.m.range) Tryz.underlying60 rfl Tryz.node_info) hHeld ?_
                          (try simp only [gs])
                          refine wpAnyH_take (i := 13) (v := ?_) rfl (by kernel_rfl) (by kernel_rfl) (by kernel_rfl) (fun _ _ _ h => h) (Or.inl ⟨by rfl, ?_⟩) hHeld ?_
                          case refine_2 => (intro w hSw; (try dsimp only at hSw); obtain ⟨k0, k1, k2⟩ := hSw.m.cells; obtain ⟨n0, n1, n2⟩ := hSw.c.m.cells; go_simp; try (with_reducible rfl))
                          (try simp only [gs])
                          refine wpAnyH_take (i := 14) rfl (by kernel_rfl) (by kernel_rfl) (by kernel_rfl) (fun _ _ _ h => h) (yieldsIf_load_mid (by rfl) _ _ rfl _ _ rfl _ _ (fun _ h => (HEK.out ▸ range_key h.k.range : World.rangeAt _ d 0 (bc KK))) Tryz.underlying25 rfl (by rw [bc_length]; exact HKI.out _ HKL.out)) hHeld ?_
                          (try simp only [gs])
                          generalize x4.drew = y0 at *
                          refine wpAnyH_ready (rs := [12]) (by kernel_rfl) (by simp) (AllReadyH.cons rfl (fun K hK => ?_) AllReadyH.nil)
                          rw [if_pos (by rfl)]
                          (try simp only [gs])
                          go_simp
                          refine (HFC.out _ hHeld.q).mono ?_
                          rintro e y2 ⟨rfl, b2⟩
                          refine hK.out _ _ (hHeld.called b2) (fun g2 => ?_)
                          clear hK K
                          (try simp only [gs])
                          refine wpAnyH_take (i := 15) (v := .bool false) rfl (by kernel_rfl) (by kernel_rfl) (by kernel_rfl) (fun _ _ _ h => h) (Or.inl ⟨by rfl, ?_⟩) g2 ?_
                          case refine_1 => (intro w hSw; (try dsimp only at hSw); have q := eq_key w (firstN Y) KK HFL.out HKL.out; rw [HF1.out] at q; go_simp; first | done | rfl | exact hwl)
                          (try simp only [gs])
                          refine wpAnyH_take (i := 16) (v := ?_) rfl (by kernel_rfl) (by kernel_rfl) (by kernel_rfl) (fun _ _ _ h => h) (Or.inl ⟨by rfl, ?_⟩) g2 ?_
                          case refine_2 => (intro w hSw; (try dsimp only at hSw); obtain ⟨k0, k1, k2⟩ := hSw.m.cells; obtain ⟨n0, n1, n2⟩ := hSw.c.m.cells; go_simp; try (with_reducible rfl))
                          (try simp only [gs])
                          refine wpAnyH_take (i := 17) (v := ?_) rfl (by kernel_rfl) (by kernel_rfl) (by kernel_rfl) (fun _ _ _ h => h) (Or.inl ⟨by rfl, ?_⟩) g2 ?_
                          case refine_2 => (intro w hSw; (try dsimp only at hSw); obtain ⟨k0, k1, k2⟩ := hSw.m.cells; obtain ⟨n0, n1, n2⟩ := hSw.c.m.cells; go_simp; try (with_reducible rfl))
                          (try simp only [gs])
                          refine wpAnyH_take (i := 18) (v := ?_) rfl (by kernel_rfl) (by kernel_rfl) (by kernel_rfl) (fun _ _ _ h => h) (Or.inl ⟨by rfl, ?_⟩) g2 ?_
                          case refine_2 => (intro w hSw; (try dsimp only at hSw); obtain ⟨k0, k1, k2⟩ := hSw.m.cells; obtain ⟨n0, n1, n2⟩ := hSw.c.m.cells; go_simp; try (with_reducible rfl))
                          (try simp only [gs])
                          refine wpAnyH_take (i := 19) (v := ?_) rfl (by kernel_rfl) (by kernel_rfl) (by kernel_rfl) (fun _ _ _ h => h) (Or.inl ⟨by rfl, ?_⟩) g2 ?_
                          case refine_2 => (intro w hSw; (try dsimp only at hSw); obtain ⟨k0, k1, k2⟩ := hSw.m.cells; obtain ⟨n0, n1, n2⟩ := hSw.c.m.cells; go_simp; try (with_reducible rfl))
                          (try simp only [gs])
                          refine wpAnyH_take (i := 20) (v := .bool true) rfl (by kernel_rfl) (by kernel_rfl) (by kernel_rfl) (fun _ _ _ h => h) (Or.inl ⟨by rfl, ?_⟩) g2 ?_
                          case refine_1 => (intro w hSw; (try dsimp only at hSw); obtain ⟨k0, k1, k2⟩ := hSw.m.cells; obtain ⟨n0, n1, n2⟩ := hSw.c.m.cells; go_simp; first | done | rfl | exact hwl)
                          (try simp only [gs])
                          refine wpAnyH_take (i := 21) (v := ?_) rfl (by kernel_rfl) (by kernel_rfl) (by kernel_rfl) (fun _ _ _ h => h) (Or.inl ⟨by rfl, ?_⟩) g2 ?_
                          case refine_2 => (intro w hSw; (try dsimp only at hSw); obtain ⟨k0, k1, k2⟩ := hSw.m.cells; obtain ⟨n0, n1, n2⟩ := hSw.c.m.cells; go_simp; try (with_reducible rfl))
                          (try simp only [gs])
                          refine wpAnyH_take (i := 22) (v := ?_) rfl (by kernel_rfl) (by kernel_rfl) (by kernel_rfl) (fun _ _ _ h => h) (Or.inl ⟨by rfl, ?_⟩) g2 ?_
                          case refine_2 => (intro w hSw; (try dsimp only at hSw); obtain ⟨k0, k1, k2⟩ := hSw.m.cells; obtain ⟨n0, n1, n2⟩ := hSw.c.m.cells; go_simp; try (with_reducible rfl))
                          (try simp only [gs])
                          refine wpAnyH_take (i := 23) (v := ?_) rfl (by kernel_rfl) (by kernel_rfl) (by kernel_rfl) (fun _ _ _ h => h) (Or.inl ⟨by rfl, ?_⟩) g2 ?_
                          case refine_2 => (intro w hSw; (try dsimp only at hSw); obtain ⟨k0, k1, k2⟩ := hSw.m.cells; obtain ⟨n0, n1, n2⟩ := hSw.c.m.cells; go_simp; try (with_reducible rfl))
                          (try simp only [gs])
                          refine wpAnyH_take (i := 24) (v := ?_) rfl (by kernel_rfl) (by kernel_rfl) (by kernel_rfl) (fun _ _ _ h => h) (Or.inl ⟨by rfl, ?_⟩) g2 ?_
                          case refine_2 => (intro w hSw; (try dsimp only at hSw); obtain ⟨k0, k1, k2⟩ := hSw.m.cells; obtain ⟨n0, n1, n2⟩ := hSw.c.m.cells; go_simp; try (with_reducible rfl))
                          (try simp only [gs])
                          refine wpAnyH_take (i := 25) (v := .bool false) rfl (by kernel_rfl) (by kernel_rfl) (by kernel_rfl) (fun _ _ _ h => h) (Or.inl ⟨by rfl, ?_⟩) g2 ?_
                          case refine_1 => (intro w hSw; (try dsimp only at hSw); obtain ⟨k0, k1, k2⟩ := hSw.m.cells; obtain ⟨n0, n1, n2⟩ := hSw.c.m.cells; go_simp; first | done | rfl | exact hwl)
                          (try simp only [gs])
                          refine wpAnyH_take (i := 26) (v := ?_) rfl (by kernel_rfl) (by kernel_rfl) (by kernel_rfl) (fun _ _ _ h => h) (Or.inl ⟨by rfl, ?_⟩) g2 ?_
                          case refine_2 => (intro w hSw; (try dsimp only at hSw); obtain ⟨k0, k1, k2⟩ := hSw.m.cells; obtain ⟨n0, n1, n2⟩ := hSw.c.m.cells; go_simp; try (with_reducible rfl))
                          (try simp only [gs])
                          refine wpAnyH_take (i := 27) (v := ?_) rfl (by kernel_rfl) (by kernel_rfl) (by kernel_rfl) (fun _ _ _ h => h) (Or.inl ⟨by rfl, ?_⟩) g2 ?_
                          case refine_2 => (intro w hSw; (try dsimp only at hSw); obtain ⟨k0, k1, k2⟩ := hSw.m.cells; obtain ⟨n0, n1, n2⟩ := hSw.c.m.cells; go_simp; try (with_reducible rfl))
                          (try simp only [gs])
                          refine wpAnyH_take (i := 28) (v := ?_) rfl (by kernel_rfl) (by kernel_rfl) (by kernel_rfl) (fun _ _ _ h => h) (Or.inl ⟨by rfl, ?_⟩) g2 ?_
                          case refine_2 => (intro w hSw; (try dsimp only at hSw); obtain ⟨k0, k1, k2⟩ := hSw.m.cells; obtain ⟨n0, n1, n2⟩ := hSw.c.m.cells; go_simp; try (with_reducible rfl))
                          (try simp only [gs])
                          refine wpAnyH_take (i := 29) (v := ?_) rfl (by kernel_rfl) (by kernel_rfl) (by kernel_rfl) (fun _ _ _ h => h) (Or.inl ⟨by rfl, ?_⟩) g2 ?_
                          case refine_2 => (intro w hSw; (try dsimp only at hSw); obtain ⟨k0, k1, k2⟩ := hSw.m.cells; obtain ⟨n0, n1, n2⟩ := hSw.c.m.cells; go_simp; try (with_reducible rfl))
                          (try simp only [gs])
                          refine wpAnyH_take (i := 30) (v := ?_) rfl (by kernel_rfl) (by kernel_rfl) (by kernel_rfl) (fun _ _ _ h => h) (Or.inl ⟨by rfl, ?_⟩) g2 ?_
                          case refine_2 => (intro w hSw; (try dsimp only at hSw); obtain ⟨k0, k1, k2⟩ := hSw.m.cells; obtain ⟨n0, n1, n2⟩ := hSw.c.m.cells; go_simp; try (with_reducible rfl))
                          (try simp only [gs])
                          refine wpAnyH_take (i := 31) (v := .bool false) rfl (by kernel_rfl) (by kernel_rfl) (by kernel_rfl) (fun _ _ _ h => h) (Or.inl ⟨by rfl, ?_⟩) g2 ?_
                          case refine_1 => (intro w hSw; (try dsimp only at hSw); obtain ⟨k0, k1, k2⟩ := hSw.m.cells; obtain ⟨n0, n1, n2⟩ := hSw.c.m.cells; go_simp; first | done | rfl | exact hwl)
                          (try simp only [gs])
                          refine wpAnyH_take (i := 32) (v := ?_) rfl (by kernel_rfl) (by kernel_rfl) (by kernel_rfl) (fun _ _ _ h => h) (Or.inl ⟨by rfl, ?_⟩) g2 ?_
                          case refine_2 => (intro w hSw; (try dsimp only at hSw); obtain ⟨k0, k1, k2⟩ := hSw.m.cells; obtain ⟨n0, n1, n2⟩ := hSw.c.m.cells; go_simp; try (with_reducible rfl))
                          (try simp only [gs])
                          refine wpAnyH_take (i := 33) (v := undef) rfl (by kernel_rfl) (by kernel_rfl) (by kernel_rfl) (fun _ _ _ h => h) (Or.inr ⟨by rfl, rfl⟩) g2 ?_
                          (try simp only [gs])
                          refine wpAnyH_take (i := 34) (v := undef) rfl (by kernel_rfl) (by kernel_rfl) (by kernel_rfl) (fun _ _ _ h => h) (Or.inr ⟨by rfl, rfl⟩) g2 ?_
                          (try simp only [gs])
                          refine wpAnyH_take (i := 35) (v := undef) rfl (by kernel_rfl) (by kernel_rfl) (by kernel_rfl) (fun _ _ _ h => h) (Or.inr ⟨by rfl, rfl⟩) g2 ?_
                          (try simp only [gs])
                          refine wpAnyH_take (i := 36) (v := undef) rfl (by kernel_rfl) (by kernel_rfl) (by kernel_rfl) (fun _ _ _ h => h) (Or.inr ⟨by rfl, rfl⟩) g2 ?_
                          (try simp only [gs])
                          refine wpAnyH_take (i := 37) (v := ?_) rfl (by kernel_rfl) (by kernel_rfl) (by kernel_rfl) (fun _ _ _ h => h) (Or.inl ⟨by rfl, ?_⟩) g2 ?_
                          case refine_2 => (intro w hSw; (try dsimp only at hSw); obtain ⟨k0, k1, k2⟩ := hSw.m.cells; obtain ⟨n0, n1, n2⟩ := hSw.c.m.cells; go_simp; try (with_reducible rfl))
                          (try simp only [gs])
                          refine wpAnyH_take (i := 38) (v := ?_) rfl (by kernel_rfl) (by kernel_rfl) (by kernel_rfl) (fun _ _ _ h => h) (Or.inl ⟨by rfl, ?_⟩) g2 ?_
                          case refine_2 => (intro w hSw; (try dsimp only at hSw); obtain ⟨k0, k1, k2⟩ := hSw.m.cells; obtain ⟨n0, n1, n2⟩ := hSw.c.m.cells; go_simp; try (with_reducible rfl))
                          (try simp only [gs])
                          refine wpAnyH_done (by kernel_rfl) ?_ _
                          refine NoPanic.normal ?_
                          clear HZ hz1 hz2 hs hl HF1 hwl
                          -- BEGIN T5
                          have HGO3 : Hid (RES = (rec Y TT II && docGo (bagG l) rec x top _ m)) := (show _ = _ by rw [HGO2.out, HBD.out]; rfl)
                          have HG2 := g2
                          clear HGO2 M4 hHeld b2 HBD g2
                          go_upto_region 22 with (first
                            | (refine load_key _ rfl (w.heap.size + 1) rfl rfl top HG2.c.t ?_)
                            | (refine store_key rfl _ _ rfl y2.heap.size rfl top rfl HT.out (zs 24) (zero_has y2 _ rfl) ?_; intro x5 hk5 tx5 sx5))
                          have BS5 := step_below (Below.refl _ y2) _ tx5
                          have M5 := HG2.called BS5
                          obtain ⟨c0, c1, c2⟩ := M5.c.m.cells
                          have hws : wrap64 ((t : Int) + 1) = ((t + 1 : Nat) : Int) := by unfold wrap64; omega
                          by_cases h1 : t + 1 < Q
                          · have hJ1 : (t : Int) + 1 < (Q : Int) := by omega
                            have hJ3 : ((t : Int) + 1).toNat = t + 1 := by omega
                            have hJ4 : (0 : Int) ≤ (t : Int) + 1 := by omega
                            have HGO4 : Hid (RES = (rec Y NK true && docGo (bagG l) rec x top _ m)) := (show _ = _ by rw [HGO3.out, HTO.out.1, HTO.out.2, if_pos h1, if_pos h1])
                            have HNL := (HNK.out h1).1
                            clear HGO3 tx5 sx5
                            go_upto_region 25 with (first
                              | (refine load_part _ rfl ga (oa + (t + 1) * 25) rfl rfl NK HNL ((HNK.out h1).2 _ M5.c) ?_)
                              | (refine store_key rfl _ _ rfl y2.heap.size rfl NK rfl HNL top hk5 ?_; intro x6 hk6 tx6 sx6))
                            have M6 := HG2.called (below_touched BS5 tx6 (Nat.le_refl _) (Nat.le_refl _))
                            clear M5 hk5 tx6 sx6 BS5 HG2 c0 c1 c2
                            obtain ⟨c0, c1, c2⟩ := M6.c.m.cells
                            have hrc := HREC.out x6 Y _ _ NK true M6.c.g M6.q HNL HLY.out hlI1
                            generalize rec Y NK true = RB at *
                            go_upto_region 26 with (first
                              | (refine load_node _ rfl d2 rfl rfl Y _ _ M6.m ?_)
                              | (refine load_key _ rfl y2.heap.size rfl rfl NK hk6 ?_)
                              | (go_at_call 42; refine hrc.mono ?_; rintro e w7 ⟨rfl, b7⟩))
                            have HM7 : Hid (DR lim v l w w7 x (.slice ap j cp) (.slice (some ⟨ga, oa, none⟩) Q cq) top) := (M6.called b7).c
                            clear M6 hk6 hrc b7 c0 c1 c2
                            cases RB with
                            | false =>
                              have HF : Hid (RES = false) := (show _ = _ by rw [HGO4.out]; rfl)
                              go_wp2_with fail
                              go_ret
                              exact ⟨by rw [HF.out]; rfl, HM7.out.bel⟩
                            | true =>
                              go_wp2_with fail
                              go_roundg m
                              case measure => omega
                              exact ⟨t + 1, by omega, by simp, HM7.out, (show _ = _ by rw [HGO4.out]; rfl)⟩
                          · have hJ1 : decide ((t : Int) + 1 < (Q : Int)) = false := decide_eq_false (by omega)
                            have HGO4 : Hid (RES = (rec Y top _ && docGo (bagG l) rec x top _ m)) := (show _ = _ by rw [HGO3.out, HTO.out.1, HTO.out.2, if_neg h1, if_neg h1])
                            clear HGO3 tx5 sx5 BS5 HG2
                            have hrc := HREC.out x5 Y _ _ top false M5.c.g M5.q HT.out HLY.out hlI1
                            generalize rec Y top false = RB at *
                            go_upto_region 26 with (first
                              | (refine load_node _ rfl d2 rfl rfl Y _ _ M5.m ?_)
                              | (refine load_key _ rfl y2.heap.size rfl rfl top hk5 ?_)
                              | (go_at_call 42; refine hrc.mono ?_; rintro e w7 ⟨rfl, b7⟩))
                            have HM7 : Hid (DR lim v l w w7 x (.slice ap j cp) (.slice (some ⟨ga, oa, none⟩) Q cq) top) := (M5.called b7).c
                            clear M5 hk5 hrc b7 c0 c1 c2
                            cases RB with
                            | false =>
                              have HF : Hid (RES = false) := (show _ = _ by rw [HGO4.out]; rfl)
                              go_wp2_with fail
                              go_ret
                              exact ⟨by rw [HF.out]; rfl, HM7.out.bel⟩
                            | true =>
                              go_wp2_with fail
                              go_roundg m
                              case measure => omega
                              exact ⟨t + 1, by omega, by simp, HM7.out, (show _ = _ by rw [HGO4.out]; rfl)⟩
                          -- END T5
                          -- END 5
                      · have hz1 : (Y.lv == 0) = false := by simpa using hz
                        have hz2 : decide (0 < Y.lv) = true := decide_eq_true (by have := HLY.out; omega)
                        have HZ : Hid (¬ Y.lv = 0) := hz
                        clear hz
                        cases hs : decide ((Y.ks.length : Int) < 9) with
                        | true =>
                          -- BEGIN 6
                          refine wp_region_noPanic ?_
                          refine wp_region_held_drew (S := (fun y => DY lim v l w y x (.slice ap j cp) (.slice (some ⟨ga, oa, none⟩) Q cq) top d E d2 Y (.slice yp Y.ps.length ycp) (.slice yq Y.ks.length ycq))) (by kernel_rfl) (M4.called ⟨rfl, rfl, rfl, Nat.le_refl _, fun _ _ => rfl⟩) (fun hHeld => ?_)
                          refine wpAnyH_take (i := 0) (v := ?_) rfl (by kernel_rfl) (by kernel_rfl) (by kernel_rfl) (fun _ _ _ h => h) (Or.inl ⟨by rfl, ?_⟩) hHeld ?_
                          case refine_2 => (intro w hSw; (try dsimp only at hSw); obtain ⟨k0, k1, k2⟩ := hSw.m.cells; obtain ⟨n0, n1, n2⟩ := hSw.c.m.cells; go_simp; try (with_reducible rfl))
                          (try simp only [gs])
                          refine wpAnyH_take (i := 1) (v := ?_) rfl (by kernel_rfl) (by kernel_rfl) (by kernel_rfl) (fun _ _ _ h => h) (Or.inl ⟨by rfl, ?_⟩) hHeld ?_
                          case refine_2 => (intro w hSw; (try dsimp only at hSw); obtain ⟨k0, k1, k2⟩ := hSw.m.cells; obtain ⟨n0, n1, n2⟩ := hSw.c.m.cells; go_simp; try (with_reducible rfl))
                          (try simp only [gs])
                          refine wpAnyH_take (i := 2) (v := ?_) rfl (by kernel_rfl) (by kernel_rfl) (by kernel_rfl) (fun _ _ _ h => h) (Or.inl ⟨by rfl, ?_⟩) hHeld ?_
                          case refine_2 => (intro w hSw; (try dsimp only at hSw); obtain ⟨k0, k1, k2⟩ := hSw.m.cells; obtain ⟨n0, n1, n2⟩ := hSw.c.m.cells; go_simp; try (with_reducible rfl))
                          (try simp only [gs])
                          refine wpAnyH_take (i := 3) (v := ?_) rfl (by kernel_rfl) (by kernel_rfl) (by kernel_rfl) (fun _ _ _ h => h) (Or.inl ⟨by rfl, ?_⟩) hHeld ?_
                          case refine_2 => (intro w hSw; (try dsimp only at hSw); obtain ⟨k0, k1, k2⟩ := hSw.m.cells; obtain ⟨n0, n1, n2⟩ := hSw.c.m.cells; go_simp; try (with_reducible rfl))
                          (try simp only [gs])
                          refine wpAnyH_take (i := 4) (v := ?_) rfl (by kernel_rfl) (by kernel_rfl) (by kernel_rfl) (fun _ _ _ h => h) (Or.inl ⟨by rfl, ?_⟩) hHeld ?_
                          case refine_2 => (intro w hSw; (try dsimp only at hSw); obtain ⟨k0, k1, k2⟩ := hSw.m.cells; obtain ⟨n0, n1, n2⟩ := hSw.c.m.cells; go_simp; try (with_reducible rfl))
                          (try simp only [gs])
                          refine wpAnyH_take (i := 5) (v := ?_) rfl (by kernel_rfl) (by kernel_rfl) (by kernel_rfl) (fun _ _ _ h => h) (Or.inl ⟨by rfl, ?_⟩) hHeld ?_
                          case refine_2 => (intro w hSw; (try dsimp only at hSw); obtain ⟨k0, k1, k2⟩ := hSw.m.cells; obtain ⟨n0, n1, n2⟩ := hSw.c.m.cells; go_simp; try (with_reducible rfl))
                          (try simp only [gs])
                          refine wpAnyH_take (i := 6) (v := ?_) rfl (by kernel_rfl) (by kernel_rfl) (by kernel_rfl) (fun _ _ _ h => h) (Or.inl ⟨by rfl, ?_⟩) hHeld ?_
                          case refine_2 => (intro w hSw; (try dsimp only at hSw); obtain ⟨k0, k1, k2⟩ := hSw.m.cells; obtain ⟨n0, n1, n2⟩ := hSw.c.m.cells; go_simp; try (with_reducible rfl))
                          (try simp only [gs])
                          refine wpAnyH_take (i := 7) (v := .int .i64 (x.lv - 1)) rfl (by kernel_rfl) (by kernel_rfl) (by kernel_rfl) (fun _ _ _ h => h) (Or.inl ⟨by rfl, ?_⟩) hHeld ?_
                          case refine_1 => (intro w hSw; (try dsimp only at hSw); obtain ⟨k0, k1, k2⟩ := hSw.m.cells; obtain ⟨n0, n1, n2⟩ := hSw.c.m.cells; go_simp; first | done | rfl | exact hwl)
                          (try simp only [gs])
                          refine wpAnyH_take (i := 8) (v := .bool false) rfl (by kernel_rfl) (by kernel_rfl) (by kernel_rfl) (fun _ _ _ h => h) (Or.inl ⟨by rfl, ?_⟩) hHeld ?_
                          case refine_1 => (intro w hSw; (try dsimp only at hSw); obtain ⟨k0, k1, k2⟩ := hSw.m.cells; obtain ⟨n0, n1, n2⟩ := hSw.c.m.cells; go_simp; first | done | rfl | exact hwl)
                          (try simp only [gs])
                          refine wpAnyH_take (i := 9) (v := ?_) rfl (by kernel_rfl) (by kernel_rfl) (by kernel_rfl) (fun _ _ _ h => h) (Or.inl ⟨by rfl, ?_⟩) hHeld ?_
                          case refine_2 => (intro w hSw; (try dsimp only at hSw); obtain ⟨k0, k1, k2⟩ := hSw.m.cells; obtain ⟨n0, n1, n2⟩ := hSw.c.m.cells; go_simp; try (with_reducible rfl))
                          (try simp only [gs])
                          refine wpAnyH_take (i := 10) (v := ?_) rfl (by kernel_rfl) (by kernel_rfl) (by kernel_rfl) (fun _ _ _ h => h) (Or.inl ⟨by rfl, ?_⟩) hHeld ?_
                          case refine_2 => (intro w hSw; (try dsimp only at hSw); obtain ⟨k0, k1, k2⟩ := hSw.m.cells; obtain ⟨n0, n1, n2⟩ := hSw.c.m.cells; go_simp; try (with_reducible rfl))
                          (try simp only [gs])
                          refine wpAnyH_take (i := 11) rfl (by kernel_rfl) (by kernel_rfl) (by kernel_rfl) (fun _ _ _ h => h) (yieldsIf_load_mid (by rfl) _ _ rfl _ _ rfl _ _ (fun _ h => h.m.range) Tryz.underlying60 rfl Tryz.node_info) hHeld ?_
                          (try simp only [gs])
                          refine wpAnyH_take (i := 13) (v := ?_) rfl (by kernel_rfl) (by kernel_rfl) (by kernel_rfl) (fun _ _ _ h => h) (Or.inl ⟨by rfl, ?_⟩) hHeld ?_
                          case refine_2 => (intro w hSw; (try dsimp only at hSw); obtain ⟨k0, k1, k2⟩ := hSw.m.cells; obtain ⟨n0, n1, n2⟩ := hSw.c.m.cells; go_simp; try (with_reducible rfl))
                          (try simp only [gs])
                          refine wpAnyH_take (i := 14) rfl (by kernel_rfl) (by kernel_rfl) (by kernel_rfl) (fun _ _ _ h => h) (yieldsIf_load_mid (by rfl) _ _ rfl _ _ rfl _ _ (fun _ h => (HEK.out ▸ range_key h.k.range : World.rangeAt _ d 0 (bc KK))) Tryz.underlying25 rfl (by rw [bc_length]; exact HKI.out _ HKL.out)) hHeld ?_
                          (try simp only [gs])
                          generalize x4.drew = y0 at *
                          refine wpAnyH_ready (rs := [12]) (by kernel_rfl) (by simp) (AllReadyH.cons rfl (fun K hK => ?_) AllReadyH.nil)
                          rw [if_pos (by rfl)]
                          (try simp only [gs])
                          go_simp
                          refine (HFC.out _ hHeld.q).mono ?_
                          rintro e y2 ⟨rfl, b2⟩
                          refine hK.out _ _ (hHeld.called b2) (fun g2 => ?_)
                          clear hK K
                          (try simp only [gs])
                          refine wpAnyH_take (i := 15) (v := .bool false) rfl (by kernel_rfl) (by kernel_rfl) (by kernel_rfl) (fun _ _ _ h => h) (Or.inl ⟨by rfl, ?_⟩) g2 ?_
                          case refine_1 => (intro w hSw; (try dsimp only at hSw); have q := eq_key w (firstN Y) KK HFL.out HKL.out; rw [HF1.out] at q; go_simp; first | done | rfl | exact hwl)
                          (try simp only [gs])
                          refine wpAnyH_take (i := 16) (v := ?_) rfl (by kernel_rfl) (by kernel_rfl) (by kernel_rfl) (fun _ _ _ h => h) (Or.inl ⟨by rfl, ?_⟩) g2 ?_
                          case refine_2 => (intro w hSw; (try dsimp only at hSw); obtain ⟨k0, k1, k2⟩ := hSw.m.cells; obtain ⟨n0, n1, n2⟩ := hSw.c.m.cells; go_simp; try (with_reducible rfl))
                          (try simp only [gs])
                          refine wpAnyH_take (i := 17) (v := ?_) rfl (by kernel_rfl) (by kernel_rfl) (by kernel_rfl) (fun _ _ _ h => h) (Or.inl ⟨by rfl, ?_⟩) g2 ?_
                          case refine_2 => (intro w hSw; (try dsimp only at hSw); obtain ⟨k0, k1, k2⟩ := hSw.m.cells; obtain ⟨n0, n1, n2⟩ := hSw.c.m.cells; go_simp; try (with_reducible rfl))
                          (try simp only [gs])
                          refine wpAnyH_take (i := 18) (v := ?_) rfl (by kernel_rfl) (by kernel_rfl) (by kernel_rfl) (fun _ _ _ h => h) (Or.inl ⟨by rfl, ?_⟩) g2 ?_
                          case refine_2 => (intro w hSw; (try dsimp only at hSw); obtain ⟨k0, k1, k2⟩ := hSw.m.cells; obtain ⟨n0, n1, n2⟩ := hSw.c.m.cells; go_simp; try (with_reducible rfl))
                          (try simp only [gs])
                          refine wpAnyH_take (i := 19) (v := ?_) rfl (by kernel_rfl) (by kernel_rfl) (by kernel_rfl) (fun _ _ _ h => h) (Or.inl ⟨by rfl, ?_⟩) g2 ?_
                          case refine_2 => (intro w hSw; (try dsimp only at hSw); obtain ⟨k0, k1, k2⟩ := hSw.m.cells; obtain ⟨n0, n1, n2⟩ := hSw.c.m.cells; go_simp; try (with_reducible rfl))
                          (try simp only [gs])
                          refine wpAnyH_take (i := 20) (v := .bool false) rfl (by kernel_rfl) (by kernel_rfl) (by kernel_rfl) (fun _ _ _ h => h) (Or.inl ⟨by rfl, ?_⟩) g2 ?_
                          case refine_1 => (intro w hSw; (try dsimp only at hSw); obtain ⟨k0, k1, k2⟩ := hSw.m.cells; obtain ⟨n0, n1, n2⟩ := hSw.c.m.cells; go_simp; first | done | rfl | exact hwl)
                          (try simp only [gs])
                          refine wpAnyH_take (i := 21) (v := ?_) rfl (by kernel_rfl) (by kernel_rfl) (by kernel_rfl) (fun _ _ _ h => h) (Or.inl ⟨by rfl, ?_⟩) g2 ?_
                          case refine_2 => (intro w hSw; (try dsimp only at hSw); obtain ⟨k0, k1, k2⟩ := hSw.m.cells; obtain ⟨n0, n1, n2⟩ := hSw.c.m.cells; go_simp; try (with_reducible rfl))
                          (try simp only [gs])
                          refine wpAnyH_take (i := 22) (v := undef) rfl (by kernel_rfl) (by kernel_rfl) (by kernel_rfl) (fun _ _ _ h => h) (Or.inr ⟨by rfl, rfl⟩) g2 ?_
                          (try simp only [gs])
                          refine wpAnyH_take (i := 23) (v := undef) rfl (by kernel_rfl) (by kernel_rfl) (by kernel_rfl) (fun _ _ _ h => h) (Or.inr ⟨by rfl, rfl⟩) g2 ?_
                          (try simp only [gs])
                          refine wpAnyH_take (i := 24) (v := undef) rfl (by kernel_rfl) (by kernel_rfl) (by kernel_rfl) (fun _ _ _ h => h) (Or.inr ⟨by rfl, rfl⟩) g2 ?_
                          (try simp only [gs])
                          refine wpAnyH_take (i := 25) (v := undef) rfl (by kernel_rfl) (by kernel_rfl) (by kernel_rfl) (fun _ _ _ h => h) (Or.inr ⟨by rfl, rfl⟩) g2 ?_
                          (try simp only [gs])
                          refine wpAnyH_take (i := 26) (v := ?_) rfl (by kernel_rfl) (by kernel_rfl) (by kernel_rfl) (fun _ _ _ h => h) (Or.inl ⟨by rfl, ?_⟩) g2 ?_
                          case refine_2 => (intro w hSw; (try dsimp only at hSw); obtain ⟨k0, k1, k2⟩ := hSw.m.cells; obtain ⟨n0, n1, n2⟩ := hSw.c.m.cells; go_simp; try (with_reducible rfl))
                          (try simp only [gs])
                          refine wpAnyH_take (i := 27) (v := ?_) rfl (by kernel_rfl) (by kernel_rfl) (by kernel_rfl) (fun _ _ _ h => h) (Or.inl ⟨by rfl, ?_⟩) g2 ?_
                          case refine_2 => (intro w hSw; (try dsimp only at hSw); obtain ⟨k0, k1, k2⟩ := hSw.m.cells; obtain ⟨n0, n1, n2⟩ := hSw.c.m.cells; go_simp; try (with_reducible rfl))
                          (try simp only [gs])
                          refine wpAnyH_take (i := 28) (v := ?_) rfl (by kernel_rfl) (by kernel_rfl) (by kernel_rfl) (fun _ _ _ h => h) (Or.inl ⟨by rfl, ?_⟩) g2 ?_
                          case refine_2 => (intro w hSw; (try dsimp only at hSw); obtain ⟨k0, k1, k2⟩ := hSw.m.cells; obtain ⟨n0, n1, n2⟩ := hSw.c.m.cells; go_simp; try (with_reducible rfl))
                          (try simp only [gs])
                          refine wpAnyH_take (i := 29) (v := ?_) rfl (by kernel_rfl) (by kernel_rfl) (by kernel_rfl) (fun _ _ _ h => h) (Or.inl ⟨by rfl, ?_⟩) g2 ?_
                          case refine_2 => (intro w hSw; (try dsimp only at hSw); obtain ⟨k0, k1, k2⟩ := hSw.m.cells; obtain ⟨n0, n1, n2⟩ := hSw.c.m.cells; go_simp; try (with_reducible rfl))
                          (try simp only [gs])
                          refine wpAnyH_take (i := 30) (v := ?_) rfl (by kernel_rfl) (by kernel_rfl) (by kernel_rfl) (fun _ _ _ h => h) (Or.inl ⟨by rfl, ?_⟩) g2 ?_
                          case refine_2 => (intro w hSw; (try dsimp only at hSw); obtain ⟨k0, k1, k2⟩ := hSw.m.cells; obtain ⟨n0, n1, n2⟩ := hSw.c.m.cells; go_simp; try (with_reducible rfl))
                          (try simp only [gs])
                          refine wpAnyH_take (i := 31) (v := .bool true) rfl (by kernel_rfl) (by kernel_rfl) (by kernel_rfl) (fun _ _ _ h => h) (Or.inl ⟨by rfl, ?_⟩) g2 ?_
                          case refine_1 => (intro w hSw; (try dsimp only at hSw); obtain ⟨k0, k1, k2⟩ := hSw.m.cells; obtain ⟨n0, n1, n2⟩ := hSw.c.m.cells; go_simp; first | done | rfl | exact hwl)
                          (try simp only [gs])
                          refine wpAnyH_take (i := 32) (v := ?_) rfl (by kernel_rfl) (by kernel_rfl) (by kernel_rfl) (fun _ _ _ h => h) (Or.inl ⟨by rfl, ?_⟩) g2 ?_
                          case refine_2 => (intro w hSw; (try dsimp only at hSw); obtain ⟨k0, k1, k2⟩ := hSw.m.cells; obtain ⟨n0, n1, n2⟩ := hSw.c.m.cells; go_simp; try (with_reducible rfl))
                          (try simp only [gs])
                          refine wpAnyH_take (i := 33) (v := ?_) rfl (by kernel_rfl) (by kernel_rfl) (by kernel_rfl) (fun _ _ _ h => h) (Or.inl ⟨by rfl, ?_⟩) g2 ?_
                          case refine_2 => (intro w hSw; (try dsimp only at hSw); obtain ⟨k0, k1, k2⟩ := hSw.m.cells; obtain ⟨n0, n1, n2⟩ := hSw.c.m.cells; go_simp; try (with_reducible rfl))
                          (try simp only [gs])
                          refine wpAnyH_take (i := 34) (v := ?_) rfl (by kernel_rfl) (by kernel_rfl) (by kernel_rfl) (fun _ _ _ h => h) (Or.inl ⟨by rfl, ?_⟩) g2 ?_
                          case refine_2 => (intro w hSw; (try dsimp only at hSw); obtain ⟨k0, k1, k2⟩ := hSw.m.cells; obtain ⟨n0, n1, n2⟩ := hSw.c.m.cells; go_simp; try (with_reducible rfl))
                          (try simp only [gs])
                          refine wpAnyH_take (i := 35) (v := ?_) rfl (by kernel_rfl) (by kernel_rfl) (by kernel_rfl) (fun _ _ _ h => h) (Or.inl ⟨by rfl, ?_⟩) g2 ?_
                          case refine_2 => (intro w hSw; (try dsimp only at hSw); obtain ⟨k0, k1, k2⟩ := hSw.m.cells; obtain ⟨n0, n1, n2⟩ := hSw.c.m.cells; go_simp; try (with_reducible rfl))
                          (try simp only [gs])
                          refine wpAnyH_take (i := 36) (v := .bool true) rfl (by kernel_rfl) (by kernel_rfl) (by kernel_rfl) (fun _ _ _ h => h) (Or.inl ⟨by rfl, ?_⟩) g2 ?_
                          case refine_1 => (intro w hSw; (try dsimp only at hSw); obtain ⟨k0, k1, k2⟩ := hSw.m.cells; obtain ⟨n0, n1, n2⟩ := hSw.c.m.cells; go_simp; first | done | rfl | exact hwl)
                          (try simp only [gs])
                          refine wpAnyH_take (i := 37) (v := ?_) rfl (by kernel_rfl) (by kernel_rfl) (by kernel_rfl) (fun _ _ _ h => h) (Or.inl ⟨by rfl, ?_⟩) g2 ?_
                          case refine_2 => (intro w hSw; (try dsimp only at hSw); obtain ⟨k0, k1, k2⟩ := hSw.m.cells; obtain ⟨n0, n1, n2⟩ := hSw.c.m.cells; go_simp; try (with_reducible rfl))
                          (try simp only [gs])
                          refine wpAnyH_take (i := 38) (v := ?_) rfl (by kernel_rfl) (by kernel_rfl) (by kernel_rfl) (fun _ _ _ h => h) (Or.inl ⟨by rfl, ?_⟩) g2 ?_
                          case refine_2 => (intro w hSw; (try dsimp only at hSw); obtain ⟨k0, k1, k2⟩ := hSw.m.cells; obtain ⟨n0, n1, n2⟩ := hSw.c.m.cells; go_simp; try (with_reducible rfl))
                          (try simp only [gs])
                          refine wpAnyH_done (by kernel_rfl) ?_ _
                          refine NoPanic.normal ?_
                          have HBT : badDoc Y 0 x.lv KK = true := by
                            have e : Y.ks.length < 9 := by have := of_decide_eq_true hs; omega
                            have e2 : 0 < Y.lv := of_decide_eq_true hz2
                            simp [badDoc, e, e2]
                          have HF : Hid (RES = false) := (show _ = _ by rw [HGO2.out, HBT]; rfl)
                          have HBL : Hid (Below w.heap.size w _) := g2.c.bel
                          clear HGO2 M4 HBT
                          go_wp2_with fail
                          go_ret
                          exact ⟨by rw [HF.out]; rfl, HBL.out⟩
                          -- END 6
                        | false =>
                          have HBD : Hid (badDoc Y 0 x.lv KK = false) := (show _ = _ by
                            have e : ¬ Y.ks.length < 9 := by have := of_decide_eq_false hs; omega
                            have e3 : (Y.lv == x.lv - 1) = true := by simpa using HLY.out
                            have e4 : (Y.lv == 0) = false := hz1
                            simp [badDoc, HF1.out, e3, e, e4]
                            try omega)
                          -- BEGIN 7
                          refine wp_region_noPanic ?_
                          refine wp_region_held_drew (S := (fun y => DY lim v l w y x (.slice ap j cp) (.slice (some ⟨ga, oa, none⟩) Q cq) top d E d2 Y (.slice yp Y.ps.length ycp) (.slice yq Y.ks.length ycq))) (by kernel_rfl) (M4.called ⟨rfl, rfl, rfl, Nat.le_refl _, fun _ _ => rfl⟩) (fun hHeld => ?_)
                          refine wpAnyH_take (i := 0) (v := ?_) rfl (by kernel_rfl) (by kernel_rfl) (by kernel_rfl) (fun _ _ _ h => h) (Or.inl ⟨by rfl, ?_⟩) hHeld ?_
                          case refine_2 => (intro w hSw; (try dsimp only at hSw); obtain ⟨k0, k1, k2⟩ := hSw.m.cells; obtain ⟨n0, n1, n2⟩ := hSw.c.m.cells; go_simp; try (with_reducible rfl))
                          (try simp only [gs])
                          refine wpAnyH_take (i := 1) (v := ?_) rfl (by kernel_rfl) (by kernel_rfl) (by kernel_rfl) (fun _ _ _ h => h) (Or.inl ⟨by rfl, ?_⟩) hHeld ?_
                          case refine_2 => (intro w hSw; (try dsimp only at hSw); obtain ⟨k0, k1, k2⟩ := hSw.m.cells; obtain ⟨n0, n1, n2⟩ := hSw.c.m.cells; go_simp; try (with_reducible rfl))
                          (try simp only [gs])
                          refine wpAnyH_take (i := 2) (v := ?_) rfl (by kernel_rfl) (by kernel_rfl) (by kernel_rfl) (fun _ _ _ h => h) (Or.inl ⟨by rfl, ?_⟩) hHeld ?_
                          case refine_2 => (intro w hSw; (try dsimp only at hSw); obtain ⟨k0, k1, k2⟩ := hSw.m.cells; obtain ⟨n0, n1, n2⟩ := hSw.c.m.cells; go_simp; try (with_reducible rfl))
                          (try simp only [gs])
                          refine wpAnyH_take (i := 3) (v := ?_) rfl (by kernel_rfl) (by kernel_rfl) (by kernel_rfl) (fun _ _ _ h => h) (Or.inl ⟨by rfl, ?_⟩) hHeld ?_
                          case refine_2 => (intro w hSw; (try dsimp only at hSw); obtain ⟨k0, k1, k2⟩ := hSw.m.cells; obtain ⟨n0, n1, n2⟩ := hSw.c.m.cells; go_simp; try (with_reducible rfl))
                          (try simp only [gs])
                          refine wpAnyH_take (i := 4) (v := ?_) rfl (by kernel_rfl) (by kernel_rfl) (by kernel_rfl) (fun _ _ _ h => h) (Or.inl ⟨by rfl, ?_⟩) hHeld ?_
                          case refine_2 => (intro w hSw; (try dsimp only at hSw); obtain ⟨k0, k1, k2⟩ := hSw.m.cells; obtain ⟨n0, n1, n2⟩ := hSw.c.m.cells; go_simp; try (with_reducible rfl))
                          (try simp only [gs])
                          refine wpAnyH_take (i := 5) (v := ?_) rfl (by kernel_rfl) (by kernel_rfl) (by kernel_rfl) (fun _ _ _ h => h) (Or.inl ⟨by rfl, ?_⟩) hHeld ?_
                          case refine_2 => (intro w hSw; (try dsimp only at hSw); obtain ⟨k0, k1, k2⟩ := hSw.m.cells; obtain ⟨n0, n1, n2⟩ := hSw.c.m.cells; go_simp; try (with_reducible rfl))
                          (try simp only [gs])
                          refine wpAnyH_take (i := 6) (v := ?_) rfl (by kernel_rfl) (by kernel_rfl) (by kernel_rfl) (fun _ _ _ h => h) (Or.inl ⟨by rfl, ?_⟩) hHeld ?_
                          case refine_2 => (intro w hSw; (try dsimp only at hSw); obtain ⟨k0, k1, k2⟩ := hSw.m.cells; obtain ⟨n0, n1, n2⟩ := hSw.c.m.cells; go_simp; try (with_reducible rfl))
                          (try simp only [gs])
                          refine wpAnyH_take (i := 7) (v := .int .i64 (x.lv - 1)) rfl (by kernel_rfl) (by kernel_rfl) (by kernel_rfl) (fun _ _ _ h => h) (Or.inl ⟨by rfl, ?_⟩) hHeld ?_
                          case refine_1 => (intro w hSw; (try dsimp only at hSw); obtain ⟨k0, k1, k2⟩ := hSw.m.cells; obtain ⟨n0, n1, n2⟩ := hSw.c.m.cells; go_simp; first | done | rfl | exact hwl)
                          (try simp only [gs])
                          refine wpAnyH_take (i := 8) (v := .bool false) rfl (by kernel_rfl) (by kernel_rfl) (by kernel_rfl) (fun _ _ _ h => h) (Or.inl ⟨by rfl, ?_⟩) hHeld ?_
                          case refine_1 => (intro w hSw; (try dsimp only at hSw); obtain ⟨k0, k1, k2⟩ := hSw.m.cells; obtain ⟨n0, n1, n2⟩ := hSw.c.m.cells; go_simp; first | done | rfl | exact hwl)
                          (try simp only [gs])
                          refine wpAnyH_take (i := 9) (v := ?_) rfl (by kernel_rfl) (by kernel_rfl) (by kernel_rfl) (fun _ _ _ h => h) (Or.inl ⟨by rfl, ?_⟩) hHeld ?_
                          case refine_2 => (intro w hSw; (try dsimp only at hSw); obtain ⟨k0, k1, k2⟩ := hSw.m.cells; obtain ⟨n0, n1, n2⟩ := hSw.c.m.cells; go_simp; try (with_reducible rfl))
                          (try simp only [gs])
                          refine wpAnyH_take (i := 10) (v := ?_) rfl (by kernel_rfl) (by kernel_rfl) (by kernel_rfl) (fun _ _ _ h => h) (Or.inl ⟨by rfl, ?_⟩) hHeld ?_
                          case refine_2 => (intro w hSw; (try dsimp only at hSw); obtain ⟨k0, k1, k2⟩ := hSw.m.cells; obtain ⟨n0, n1, n2⟩ := hSw.c.m.cells; go_simp; try (with_reducible rfl))
                          (try simp only [gs])
                          refine wpAnyH_take (i := 11) rfl (by kernel_rfl) (by kernel_rfl) (by kernel_rfl) (fun _ _ _ h => h) (yieldsIf_load_mid (by rfl) _ _ rfl _ _ rfl _ _ (fun _ h => h.m.range) Tryz.underlying60 rfl Tryz.node_info) hHeld ?_
                          (try simp only [gs])
                          refine wpAnyH_take (i := 13) (v := ?_) rfl (by kernel_rfl) (by kernel_rfl) (by kernel_rfl) (fun _ _ _ h => h) (Or.inl ⟨by rfl, ?_⟩) hHeld ?_
                          case refine_2 => (intro w hSw; (try dsimp only at hSw); obtain ⟨k0, k1, k2⟩ := hSw.m.cells; obtain ⟨n0, n1, n2⟩ := hSw.c.m.cells; go_simp; try (with_reducible rfl))
                          (try simp only [gs])
                          refine wpAnyH_take (i := 14) rfl (by kernel_rfl) (by kernel_rfl) (by kernel_rfl) (fun _ _ _ h => h) (yieldsIf_load_mid (by rfl) _ _ rfl _ _ rfl _ _ (fun _ h => (HEK.out ▸ range_key h.k.range : World.rangeAt _ d 0 (bc KK))) Tryz.underlying25 rfl (by rw [bc_length]; exact HKI.out _ HKL.out)) hHeld ?_
                          (try simp only [gs])
                          generalize x4.drew = y0 at *
                          refine wpAnyH_ready (rs := [12]) (by kernel_rfl) (by simp) (AllReadyH.cons rfl (fun K hK => ?_) AllReadyH.nil)
                          rw [if_pos (by rfl)]
                          (try simp only [gs])
                          go_simp
                          refine (HFC.out _ hHeld.q).mono ?_
                          rintro e y2 ⟨rfl, b2⟩
                          refine hK.out _ _ (hHeld.called b2) (fun g2 => ?_)
                          clear hK K
                          (try simp only [gs])
                          refine wpAnyH_take (i := 15) (v := .bool false) rfl (by kernel_rfl) (by kernel_rfl) (by kernel_rfl) (fun _ _ _ h => h) (Or.inl ⟨by rfl, ?_⟩) g2 ?_
                          case refine_1 => (intro w hSw; (try dsimp only at hSw); have q := eq_key w (firstN Y) KK HFL.out HKL.out; rw [HF1.out] at q; go_simp; first | done | rfl | exact hwl)
                          (try simp only [gs])
                          refine wpAnyH_take (i := 16) (v := ?_) rfl (by kernel_rfl) (by kernel_rfl) (by kernel_rfl) (fun _ _ _ h => h) (Or.inl ⟨by rfl, ?_⟩) g2 ?_
                          case refine_2 => (intro w hSw; (try dsimp only at hSw); obtain ⟨k0, k1, k2⟩ := hSw.m.cells; obtain ⟨n0, n1, n2⟩ := hSw.c.m.cells; go_simp; try (with_reducible rfl))
                          (try simp only [gs])
                          refine wpAnyH_take (i := 17) (v := ?_) rfl (by kernel_rfl) (by kernel_rfl) (by kernel_rfl) (fun _ _ _ h => h) (Or.inl ⟨by rfl, ?_⟩) g2 ?_
                          case refine_2 => (intro w hSw; (try dsimp only at hSw); obtain ⟨k0, k1, k2⟩ := hSw.m.cells; obtain ⟨n0, n1, n2⟩ := hSw.c.m.cells; go_simp; try (with_reducible rfl))
                          (try simp only [gs])
                          refine wpAnyH_take (i := 18) (v := ?_) rfl (by kernel_rfl) (by kernel_rfl) (by kernel_rfl) (fun _ _ _ h => h) (Or.inl ⟨by rfl, ?_⟩) g2 ?_
                          case refine_2 => (intro w hSw; (try dsimp only at hSw); obtain ⟨k0, k1, k2⟩ := hSw.m.cells; obtain ⟨n0, n1, n2⟩ := hSw.c.m.cells; go_simp; try (with_reducible rfl))
                          (try simp only [gs])
                          refine wpAnyH_take (i := 19) (v := ?_) rfl (by kernel_rfl) (by kernel_rfl) (by kernel_rfl) (fun _ _ _ h => h) (Or.inl ⟨by rfl, ?_⟩) g2 ?_
                          case refine_2 => (intro w hSw; (try dsimp only at hSw); obtain ⟨k0, k1, k2⟩ := hSw.m.cells; obtain ⟨n0, n1, n2⟩ := hSw.c.m.cells; go_simp; try (with_reducible rfl))
                          (try simp only [gs])
                          refine wpAnyH_take (i := 20) (v := .bool false) rfl (by kernel_rfl) (by kernel_rfl) (by kernel_rfl) (fun _ _ _ h => h) (Or.inl ⟨by rfl, ?_⟩) g2 ?_
                          case refine_1 => (intro w hSw; (try dsimp only at hSw); obtain ⟨k0, k1, k2⟩ := hSw.m.cells; obtain ⟨n0, n1, n2⟩ := hSw.c.m.cells; go_simp; first | done | rfl | exact hwl)
                          (try simp only [gs])
                          refine wpAnyH_take (i := 21) (v := ?_) rfl (by kernel_rfl) (by kernel_rfl) (by kernel_rfl) (fun _ _ _ h => h) (Or.inl ⟨by rfl, ?_⟩) g2 ?_
                          case refine_2 => (intro w hSw; (try dsimp only at hSw); obtain ⟨k0, k1, k2⟩ := hSw.m.cells; obtain ⟨n0, n1, n2⟩ := hSw.c.m.cells; go_simp; try (with_reducible rfl))
                          (try simp only [gs])
                          refine wpAnyH_take (i := 22) (v := undef) rfl (by kernel_rfl) (by kernel_rfl) (by kernel_rfl) (fun _ _ _ h => h) (Or.inr ⟨by rfl, rfl⟩) g2 ?_
                          (try simp only [gs])
                          refine wpAnyH_take (i := 23) (v := undef) rfl (by kernel_rfl) (by kernel_rfl) (by kernel_rfl) (fun _ _ _ h => h) (Or.inr ⟨by rfl, rfl⟩) g2 ?_
                          (try simp only [gs])
                          refine wpAnyH_take (i := 24) (v := undef) rfl (by kernel_rfl) (by kernel_rfl) (by kernel_rfl) (fun _ _ _ h => h) (Or.inr ⟨by rfl, rfl⟩) g2 ?_
                          (try simp only [gs])
                          refine wpAnyH_take (i := 25) (v := undef) rfl (by kernel_rfl) (by kernel_rfl) (by kernel_rfl) (fun _ _ _ h => h) (Or.inr ⟨by rfl, rfl⟩) g2 ?_
                          (try simp only [gs])
                          refine wpAnyH_take (i := 26) (v := ?_) rfl (by kernel_rfl) (by kernel_rfl) (by kernel_rfl) (fun _ _ _ h => h) (Or.inl ⟨by rfl, ?_⟩) g2 ?_
                          case refine_2 => (intro w hSw; (try dsimp only at hSw); obtain ⟨k0, k1, k2⟩ := hSw.m.cells; obtain ⟨n0, n1, n2⟩ := hSw.c.m.cells; go_simp; try (with_reducible rfl))
                          (try simp only [gs])
                          refine wpAnyH_take (i := 27) (v := ?_) rfl (by kernel_rfl) (by kernel_rfl) (by kernel_rfl) (fun _ _ _ h => h) (Or.inl ⟨by rfl, ?_⟩) g2 ?_
                          case refine_2 => (intro w hSw; (try dsimp only at hSw); obtain ⟨k0, k1, k2⟩ := hSw.m.cells; obtain ⟨n0, n1, n2⟩ := hSw.c.m.cells; go_simp; try (with_reducible rfl))
                          (try simp only [gs])
                          refine wpAnyH_take (i := 28) (v := ?_) rfl (by kernel_rfl) (by kernel_rfl) (by kernel_rfl) (fun _ _ _ h => h) (Or.inl ⟨by rfl, ?_⟩) g2 ?_
                          case refine_2 => (intro w hSw; (try dsimp only at hSw); obtain ⟨k0, k1, k2⟩ := hSw.m.cells; obtain ⟨n0, n1, n2⟩ := hSw.c.m.cells; go_simp; try (with_reducible rfl))
                          (try simp only [gs])
                          refine wpAnyH_take (i := 29) (v := ?_) rfl (by kernel_rfl) (by kernel_rfl) (by kernel_rfl) (fun _ _ _ h => h) (Or.inl ⟨by rfl, ?_⟩) g2 ?_
                          case refine_2 => (intro w hSw; (try dsimp only at hSw); obtain ⟨k0, k1, k2⟩ := hSw.m.cells; obtain ⟨n0, n1, n2⟩ := hSw.c.m.cells; go_simp; try (with_reducible rfl))
                          (try simp only [gs])
                          refine wpAnyH_take (i := 30) (v := ?_) rfl (by kernel_rfl) (by kernel_rfl) (by kernel_rfl) (fun _ _ _ h => h) (Or.inl ⟨by rfl, ?_⟩) g2 ?_
                          case refine_2 => (intro w hSw; (try dsimp only at hSw); obtain ⟨k0, k1, k2⟩ := hSw.m.cells; obtain ⟨n0, n1, n2⟩ := hSw.c.m.cells; go_simp; try (with_reducible rfl))
                          (try simp only [gs])
                          refine wpAnyH_take (i := 31) (v := .bool true) rfl (by kernel_rfl) (by kernel_rfl) (by kernel_rfl) (fun _ _ _ h => h) (Or.inl ⟨by rfl, ?_⟩) g2 ?_
                          case refine_1 => (intro w hSw; (try dsimp only at hSw); obtain ⟨k0, k1, k2⟩ := hSw.m.cells; obtain ⟨n0, n1, n2⟩ := hSw.c.m.cells; go_simp; first | done | rfl | exact hwl)
                          (try simp only [gs])
                          refine wpAnyH_take (i := 32) (v := ?_) rfl (by kernel_rfl) (by kernel_rfl) (by kernel_rfl) (fun _ _ _ h => h) (Or.inl ⟨by rfl, ?_⟩) g2 ?_
                          case refine_2 => (intro w hSw; (try dsimp only at hSw); obtain ⟨k0, k1, k2⟩ := hSw.m.cells; obtain ⟨n0, n1, n2⟩ := hSw.c.m.cells; go_simp; try (with_reducible rfl))
                          (try simp only [gs])
                          refine wpAnyH_take (i := 33) (v := ?_) rfl (by kernel_rfl) (by kernel_rfl) (by kernel_rfl) (fun _ _ _ h => h) (Or.inl ⟨by rfl, ?_⟩) g2 ?_
                          case refine_2 => (intro w hSw; (try dsimp only at hSw); obtain ⟨k0, k1, k2⟩ := hSw.m.cells; obtain ⟨n0, n1, n2⟩ := hSw.c.m.cells; go_simp; try (with_reducible rfl))
                          (try simp only [gs])
                          refine wpAnyH_take (i := 34) (v := ?_) rfl (by kernel_rfl) (by kernel_rfl) (by kernel_rfl) (fun _ _ _ h => h) (Or.inl ⟨by rfl, ?_⟩) g2 ?_
                          case refine_2 => (intro w hSw; (try dsimp only at hSw); obtain ⟨k0, k1, k2⟩ := hSw.m.cells; obtain ⟨n0, n1, n2⟩ := hSw.c.m.cells; go_simp; try (with_reducible rfl))
                          (try simp only [gs])
                          refine wpAnyH_take (i := 35) (v := ?_) rfl (by kernel_rfl) (by kernel_rfl) (by kernel_rfl) (fun _ _ _ h => h) (Or.inl ⟨by rfl, ?_⟩) g2 ?_
                          case refine_2 => (intro w hSw; (try dsimp only at hSw); obtain ⟨k0, k1, k2⟩ := hSw.m.cells; obtain ⟨n0, n1, n2⟩ := hSw.c.m.cells; go_simp; try (with_reducible rfl))
                          (try simp only [gs])
                          refine wpAnyH_take (i := 36) (v := .bool false) rfl (by kernel_rfl) (by kernel_rfl) (by kernel_rfl) (fun _ _ _ h => h) (Or.inl ⟨by rfl, ?_⟩) g2 ?_
                          case refine_1 => (intro w hSw; (try dsimp only at hSw); obtain ⟨k0, k1, k2⟩ := hSw.m.cells; obtain ⟨n0, n1, n2⟩ := hSw.c.m.cells; go_simp; first | done | rfl | exact hwl)
                          (try simp only [gs])
                          refine wpAnyH_take (i := 37) (v := ?_) rfl (by kernel_rfl) (by kernel_rfl) (by kernel_rfl) (fun _ _ _ h => h) (Or.inl ⟨by rfl, ?_⟩) g2 ?_
                          case refine_2 => (intro w hSw; (try dsimp only at hSw); obtain ⟨k0, k1, k2⟩ := hSw.m.cells; obtain ⟨n0, n1, n2⟩ := hSw.c.m.cells; go_simp; try (with_reducible rfl))
                          (try simp only [gs])
                          refine wpAnyH_take (i := 38) (v := ?_) rfl (by kernel_rfl) (by kernel_rfl) (by kernel_rfl) (fun _ _ _ h => h) (Or.inl ⟨by rfl, ?_⟩) g2 ?_
                          case refine_2 => (intro w hSw; (try dsimp only at hSw); obtain ⟨k0, k1, k2⟩ := hSw.m.cells; obtain ⟨n0, n1, n2⟩ := hSw.c.m.cells; go_simp; try (with_reducible rfl))
                          (try simp only [gs])
                          refine wpAnyH_done (by kernel_rfl) ?_ _
                          refine NoPanic.normal ?_
                          clear HZ hz1 hz2 hs hl HF1 hwl
                          -- BEGIN T7
                          have HGO3 : Hid (RES = (rec Y TT II && docGo (bagG l) rec x top _ m)) := (show _ = _ by rw [HGO2.out, HBD.out]; rfl)
                          have HG2 := g2
                          clear HGO2 M4 hHeld b2 HBD g2
                          go_upto_region 22 with (first
                            | (refine load_key _ rfl (w.heap.size + 1) rfl rfl top HG2.c.t ?_)
                            | (refine store_key rfl _ _ rfl y2.heap.size rfl top rfl HT.out (zs 24) (zero_has y2 _ rfl) ?_; intro x5 hk5 tx5 sx5))
                          have BS5 := step_below (Below.refl _ y2) _ tx5
                          have M5 := HG2.called BS5
                          obtain ⟨c0, c1, c2⟩ := M5.c.m.cells
                          have hws : wrap64 ((t : Int) + 1) = ((t + 1 : Nat) : Int) := by unfold wrap64; omega
                          by_cases h1 : t + 1 < Q
                          · have hJ1 : (t : Int) + 1 < (Q : Int) := by omega
                            have hJ3 : ((t : Int) + 1).toNat = t + 1 := by omega
                            have hJ4 : (0 : Int) ≤ (t : Int) + 1 := by omega
                            have HGO4 : Hid (RES = (rec Y NK true && docGo (bagG l) rec x top _ m)) := (show _ = _ by rw [HGO3.out, HTO.out.1, HTO.out.2, if_pos h1, if_pos h1])
                            have HNL := (HNK.out h1).1
                            clear HGO3 tx5 sx5
                            go_upto_region 25 with (first
                              | (refine load_part _ rfl ga (oa + (t + 1) * 25) rfl rfl NK HNL ((HNK.out h1).2 _ M5.c) ?_)
                              | (refine store_key rfl _ _ rfl y2.heap.size rfl NK rfl HNL top hk5 ?_; intro x6 hk6 tx6 sx6))
                            have M6 := HG2.called (below_touched BS5 tx6 (Nat.le_refl _) (Nat.le_refl _))
                            clear M5 hk5 tx6 sx6 BS5 HG2 c0 c1 c2
                            obtain ⟨c0, c1, c2⟩ := M6.c.m.cells
                            have hrc := HREC.out x6 Y _ _ NK true M6.c.g M6.q HNL HLY.out hlI1
                            generalize rec Y NK true = RB at *
                            go_upto_region 26 with (first
                              | (refine load_node _ rfl d2 rfl rfl Y _ _ M6.m ?_)
                              | (refine load_key _ rfl y2.heap.size rfl rfl NK hk6 ?_)
                              | (go_at_call 42; refine hrc.mono ?_; rintro e w7 ⟨rfl, b7⟩))
                            have HM7 : Hid (DR lim v l w w7 x (.slice ap j cp) (.slice (some ⟨ga, oa, none⟩) Q cq) top) := (M6.called b7).c
                            clear M6 hk6 hrc b7 c0 c1 c2
                            cases RB with
                            | false =>
                              have HF : Hid (RES = false) := (show _ = _ by rw [HGO4.out]; rfl)
                              go_wp2_with fail
                              go_ret
                              exact ⟨by rw [HF.out]; rfl, HM7.out.bel⟩
                            | true =>
                              go_wp2_with fail
                              go_roundg m
                              case measure => omega
                              exact ⟨t + 1, by omega, by simp, HM7.out, (show _ = _ by rw [HGO4.out]; rfl)⟩
                          · have hJ1 : decide ((t : Int) + 1 < (Q : Int)) = false := decide_eq_false (by omega)
                            have HGO4 : Hid (RES = (rec Y top _ && docGo (bagG l) rec x top _ m)) := (show _ = _ by rw [HGO3.out, HTO.out.1, HTO.out.2, if_neg h1, if_neg h1])
                            clear HGO3 tx5 sx5 BS5 HG2
                            have hrc := HREC.out x5 Y _ _ top false M5.c.g M5.q HT.out HLY.out hlI1
                            generalize rec Y top false = RB at *
                            go_upto_region 26 with (first
                              | (refine load_node _ rfl d2 rfl rfl Y _ _ M5.m ?_)
                              | (refine load_key _ rfl y2.heap.size rfl rfl top hk5 ?_)
                              | (go_at_call 42; refine hrc.mono ?_; rintro e w7 ⟨rfl, b7⟩))
                            have HM7 : Hid (DR lim v l w w7 x (.slice ap j cp) (.slice (some ⟨ga, oa, none⟩) Q cq) top) := (M5.called b7).c
                            clear M5 hk5 hrc b7 c0 c1 c2
                            cases RB with
                            | false =>
                              have HF : Hid (RES = false) := (show _ = _ by rw [HGO4.out]; rfl)
                              go_wp2_with fail
                              go_ret
                              exact ⟨by rw [HF.out]; rfl, HM7.out.bel⟩
                            | true =>
                              go_wp2_with fail
                              go_roundg m
                              case measure => omega
                              exact ⟨t + 1, by omega, by simp, HM7.out, (show _ = _ by rw [HGO4.out]; rfl)⟩
                          -- END T7
                          -- END 7
              · clear hB1
                go_upto_region 18 with (first
                  | (go_at_call 41; refine hfc.mono ?_; rintro e w3 ⟨py, qy, rfl, P3, b3⟩)
                  | (refine store_node rfl _ _ rfl w3.heap.size rfl Y py qy rfl P3.p.one P3.q.one nilN (.slice none 0 0) (.slice none 0 0) (HasN.new w3 nilN (.slice none 0 0) (.slice none 0 0) _ rfl rfl rfl) ?_; intro x4 hu4 tx4 sx4))
                have BS4 := step_below (Below.refl _ w3) _ tx4
                have M4 : DY lim v l w x4 x (.slice ap j cp) (.slice (some ⟨ga, oa, none⟩) Q cq) top d E w3.heap.size Y py qy := ⟨(C2.called b3).called BS4, (K2.below b3 lt2).below BS4 (Nat.lt_of_lt_of_le lt2 b3.size), hu4, P3.below BS4⟩
                clear C2 K2 lt2 b3 P3 hu4 tx4 sx4 BS4 hfc ek
                generalize w3.heap.size = d2 at *
                obtain ⟨yp, ycp, rfl⟩ := M4.q.lenP
                obtain ⟨yq, ycq, rfl⟩ := M4.q.lenQ
                have HFL : Hid ((firstN Y).length = 24) := firstN_length Y M4.q.keyed
                have HFC : Hid (∀ y, Parts y Y (.slice yp Y.ps.length ycp) (.slice yq Y.ks.length ycq) → Calls Tryz.prog 67 #[nv Y (.slice yp Y.ps.length ycp) (.slice yq Y.ks.length ycq)] y fun e w' => e = .returned (kv (firstN Y)) ∧ Below y.heap.size y w') := fun y hy => rfirst_calls y Y _ _ hy
                have HCE : Hid (ce = 0 ∨ ¬ ce = 0) := (show _ ∨ _ by omega)
                generalize hth : (ce == 0) = th at *
                cases th with
                | false =>
                  -- BEGIN 1
                  refine wp_region_noPanic ?_
                  refine wp_region_held_drew (S := (fun y => DY lim v l w y x (.slice ap j cp) (.slice (some ⟨ga, oa, none⟩) Q cq) top d E d2 Y (.slice yp Y.ps.length ycp) (.slice yq Y.ks.length ycq))) (by kernel_rfl) (M4.called ⟨rfl, rfl, rfl, Nat.le_refl _, fun _ _ => rfl⟩) (fun hHeld => ?_)
                  refine wpAnyH_take (i := 0) (v := ?_) rfl (by kernel_rfl) (by kernel_rfl) (by kernel_rfl) (fun _ _ _ h => h) (Or.inl ⟨by rfl, ?_⟩) hHeld ?_
                  case refine_2 => (intro w hSw; (try dsimp only at hSw); obtain ⟨k0, k1, k2⟩ := hSw.m.cells; obtain ⟨n0, n1, n2⟩ := hSw.c.m.cells; go_simp; try (with_reducible rfl))
                  (try simp only [gs])
                  refine wpAnyH_take (i := 1) (v := ?_) rfl (by kernel_rfl) (by kernel_rfl) (by kernel_rfl) (fun _ _ _ h => h) (Or.inl ⟨by rfl, ?_⟩) hHeld ?_
                  case refine_2 => (intro w hSw; (try dsimp only at hSw); obtain ⟨k0, k1, k2⟩ := hSw.m.cells; obtain ⟨n0, n1, n2⟩ := hSw.c.m.cells; go_simp; try (with_reducible rfl))
                  (try simp only [gs])
                  refine wpAnyH_take (i := 2) (v := ?_) rfl (by kernel_rfl) (by kernel_rfl) (by kernel_rfl) (fun _ _ _ h => h) (Or.inl ⟨by rfl, ?_⟩) hHeld ?_
                  case refine_2 => (intro w hSw; (try dsimp only at hSw); obtain ⟨k0, k1, k2⟩ := hSw.m.cells; obtain ⟨n0, n1, n2⟩ := hSw.c.m.cells; go_simp; try (with_reducible rfl))
                  (try simp only [gs])
                  refine wpAnyH_take (i := 3) (v := undef) rfl (by kernel_rfl) (by kernel_rfl) (by kernel_rfl) (fun _ _ _ h => h) (Or.inr ⟨by rfl, rfl⟩) hHeld ?_
                  (try simp only [gs])
                  refine wpAnyH_take (i := 4) (v := undef) rfl (by kernel_rfl) (by kernel_rfl) (by kernel_rfl) (fun _ _ _ h => h) (Or.inr ⟨by rfl, rfl⟩) hHeld ?_
                  (try simp only [gs])
                  refine wpAnyH_take (i := 5) (v := undef) rfl (by kernel_rfl) (by kernel_rfl) (by kernel_rfl) (fun _ _ _ h => h) (Or.inr ⟨by rfl, rfl⟩) hHeld ?_
                  (try simp only [gs])
                  refine wpAnyH_take (i := 6) (v := undef) rfl (by kernel_rfl) (by kernel_rfl) (by kernel_rfl) (fun _ _ _ h => h) (Or.inr ⟨by rfl, rfl⟩) hHeld ?_
                  (try simp only [gs])
                  refine wpAnyH_take (i := 7) (v := undef) rfl (by kernel_rfl) (by kernel_rfl) (by kernel_rfl) (fun _ _ _ h => h) (Or.inr ⟨by rfl, rfl⟩) hHeld ?_
                  (try simp only [gs])
                  refine wpAnyH_take (i := 8) (v := undef) rfl (by kernel_rfl) (by kernel_rfl) (by kernel_rfl) (fun _ _ _ h => h) (Or.inr ⟨by rfl, rfl⟩) hHeld ?_
                  (try simp only [gs])
                  refine wpAnyH_take (i := 9) (v := ?_) rfl (by kernel_rfl) (by kernel_rfl) (by kernel_rfl) (fun _ _ _ h => h) (Or.inl ⟨by rfl, ?_⟩) hHeld ?_
                  case refine_2 => (intro w hSw; (try dsimp only at hSw); obtain ⟨k0, k1, k2⟩ := hSw.m.cells; obtain ⟨n0, n1, n2⟩ := hSw.c.m.cells; go_simp; try (with_reducible rfl))
                  (try simp only [gs])
                  refine wpAnyH_take (i := 10) (v := ?_) rfl (by kernel_rfl) (by kernel_rfl) (by kernel_rfl) (fun _ _ _ h => h) (Or.inl ⟨by rfl, ?_⟩) hHeld ?_
                  case refine_2 => (intro w hSw; (try dsimp only at hSw); obtain ⟨k0, k1, k2⟩ := hSw.m.cells; obtain ⟨n0, n1, n2⟩ := hSw.c.m.cells; go_simp; try (with_reducible rfl))
                  (try simp only [gs])
                  refine wpAnyH_take (i := 11) (v := undef) rfl (by kernel_rfl) (by kernel_rfl) (by kernel_rfl) (fun _ _ _ h => h) (Or.inr ⟨by rfl, rfl⟩) hHeld ?_
                  (try simp only [gs])
                  refine wpAnyH_take (i := 12) (v := undef) rfl (by kernel_rfl) (by kernel_rfl) (by kernel_rfl) (fun _ _ _ h => h) (Or.inr ⟨by rfl, rfl⟩) hHeld ?_
                  (try simp only [gs])
                  refine wpAnyH_take (i := 13) (v := undef) rfl (by kernel_rfl) (by kernel_rfl) (by kernel_rfl) (fun _ _ _ h => h) (Or.inr ⟨by rfl, rfl⟩) hHeld ?_
                  (try simp only [gs])
                  refine wpAnyH_take (i := 14) (v := undef) rfl (by kernel_rfl) (by kernel_rfl) (by kernel_rfl) (fun _ _ _ h => h) (Or.inr ⟨by rfl, rfl⟩) hHeld ?_
                  (try simp only [gs])
                  refine wpAnyH_take (i := 15) (v := undef) rfl (by kernel_rfl) (by kernel_rfl) (by kernel_rfl) (fun _ _ _ h => h) (Or.inr ⟨by rfl, rfl⟩) hHeld ?_
                  (try simp only [gs])
                  refine wpAnyH_take (i := 16) (v := ?_) rfl (by kernel_rfl) (by kernel_rfl) (by kernel_rfl) (fun _ _ _ h => h) (Or.inl ⟨by rfl, ?_⟩) hHeld ?_
                  case refine_2 => (intro w hSw; (try dsimp only at hSw); obtain ⟨k0, k1, k2⟩ := hSw.m.cells; obtain ⟨n0, n1, n2⟩ := hSw.c.m.cells; go_simp; try (with_reducible rfl))
                  (try simp only [gs])
                  refine wpAnyH_take (i := 17) (v := ?_) rfl (by kernel_rfl) (by kernel_rfl) (by kernel_rfl) (fun _ _ _ h => h) (Or.inl ⟨by rfl, ?_⟩) hHeld ?_
                  case refine_2 => (intro w hSw; (try dsimp only at hSw); obtain ⟨k0, k1, k2⟩ := hSw.m.cells; obtain ⟨n0, n1, n2⟩ := hSw.c.m.cells; go_simp; try (with_reducible rfl))
                  (try simp only [gs])
                  refine wpAnyH_take (i := 18) (v := undef) rfl (by kernel_rfl) (by kernel_rfl) (by kernel_rfl) (fun _ _ _ h => h) (Or.inr ⟨by rfl, rfl⟩) hHeld ?_
                  (try simp only [gs])
                  refine wpAnyH_take (i := 19) (v := undef) rfl (by kernel_rfl) (by kernel_rfl) (by kernel_rfl) (fun _ _ _ h => h) (Or.inr ⟨by rfl, rfl⟩) hHeld ?_
                  (try simp only [gs])
                  refine wpAnyH_take (i := 20) (v := undef) rfl (by kernel_rfl) (by kernel_rfl) (by kernel_rfl) (fun _ _ _ h => h) (Or.inr ⟨by rfl, rfl⟩) hHeld ?_
                  (try simp only [gs])
                  refine wpAnyH_take (i := 21) (v := undef) rfl (by kernel_rfl) (by kernel_rfl) (by kernel_rfl) (fun _ _ _ h => h) (Or.inr ⟨by rfl, rfl⟩) hHeld ?_
                  (try simp only [gs])
                  refine wpAnyH_take (i := 22) (v := undef) rfl (by kernel_rfl) (by kernel_rfl) (by kernel_rfl) (fun _ _ _ h => h) (Or.inr ⟨by rfl, rfl⟩) hHeld ?_
                  (try simp only [gs])
                  refine wpAnyH_take (i := 23) (v := undef) rfl (by kernel_rfl) (by kernel_rfl) (by kernel_rfl) (fun _ _ _ h => h) (Or.inr ⟨by rfl, rfl⟩) hHeld ?_
                  (try simp only [gs])
                  refine wpAnyH_take (i := 24) (v := undef) rfl (by kernel_rfl) (by kernel_rfl) (by kernel_rfl) (fun _ _ _ h => h) (Or.inr ⟨by rfl, rfl⟩) hHeld ?_
                  (try simp only [gs])
                  refine wpAnyH_take (i := 25) (v := undef) rfl (by kernel_rfl) (by kernel_rfl) (by kernel_rfl) (fun _ _ _ h => h) (Or.inr ⟨by rfl, rfl⟩) hHeld ?_
                  (try simp only [gs])
                  refine wpAnyH_take (i := 26) (v := undef) rfl (by kernel_rfl) (by kernel_rfl) (by kernel_rfl) (fun _ _ _ h => h) (Or.inr ⟨by rfl, rfl⟩) hHeld ?_
                  (try simp only [gs])
                  refine wpAnyH_take (i := 27) (v := ?_) rfl (by kernel_rfl) (by kernel_rfl) (by kernel_rfl) (fun _ _ _ h => h) (Or.inl ⟨by rfl, ?_⟩) hHeld ?_
                  case refine_2 => (intro w hSw; (try dsimp only at hSw); obtain ⟨k0, k1, k2⟩ := hSw.m.cells; obtain ⟨n0, n1, n2⟩ := hSw.c.m.cells; go_simp; try (with_reducible rfl))
                  (try simp only [gs])
                  refine wpAnyH_take (i := 28) (v := ?_) rfl (by kernel_rfl) (by kernel_rfl) (by kernel_rfl) (fun _ _ _ h => h) (Or.inl ⟨by rfl, ?_⟩) hHeld ?_
                  case refine_2 => (intro w hSw; (try dsimp only at hSw); obtain ⟨k0, k1, k2⟩ := hSw.m.cells; obtain ⟨n0, n1, n2⟩ := hSw.c.m.cells; go_simp; try (with_reducible rfl))
                  (try simp only [gs])
                  refine wpAnyH_take (i := 29) (v := undef) rfl (by kernel_rfl) (by kernel_rfl) (by kernel_rfl) (fun _ _ _ h => h) (Or.inr ⟨by rfl, rfl⟩) hHeld ?_
                  (try simp only [gs])
                  refine wpAnyH_take (i := 30) (v := undef) rfl (by kernel_rfl) (by kernel_rfl) (by kernel_rfl) (fun _ _ _ h => h) (Or.inr ⟨by rfl, rfl⟩) hHeld ?_
                  (try simp only [gs])
                  refine wpAnyH_take (i := 31) (v := undef) rfl (by kernel_rfl) (by kernel_rfl) (by kernel_rfl) (fun _ _ _ h => h) (Or.inr ⟨by rfl, rfl⟩) hHeld ?_
                  (try simp only [gs])
                  refine wpAnyH_take (i := 32) (v := undef) rfl (by kernel_rfl) (by kernel_rfl) (by kernel_rfl) (fun _ _ _ h => h) (Or.inr ⟨by rfl, rfl⟩) hHeld ?_
                  (try simp only [gs])
                  refine wpAnyH_take (i := 33) (v := undef) rfl (by kernel_rfl) (by kernel_rfl) (by kernel_rfl) (fun _ _ _ h => h) (Or.inr ⟨by rfl, rfl⟩) hHeld ?_
                  (try simp only [gs])
                  refine wpAnyH_take (i := 34) (v := undef) rfl (by kernel_rfl) (by kernel_rfl) (by kernel_rfl) (fun _ _ _ h => h) (Or.inr ⟨by rfl, rfl⟩) hHeld ?_
                  (try simp only [gs])
                  refine wpAnyH_take (i := 35) (v := undef) rfl (by kernel_rfl) (by kernel_rfl) (by kernel_rfl) (fun _ _ _ h => h) (Or.inr ⟨by rfl, rfl⟩) hHeld ?_
                  (try simp only [gs])
                  refine wpAnyH_take (i := 36) (v := undef) rfl (by kernel_rfl) (by kernel_rfl) (by kernel_rfl) (fun _ _ _ h => h) (Or.inr ⟨by rfl, rfl⟩) hHeld ?_
                  (try simp only [gs])
                  refine wpAnyH_take (i := 37) (v := undef) rfl (by kernel_rfl) (by kernel_rfl) (by kernel_rfl) (fun _ _ _ h => h) (Or.inr ⟨by rfl, rfl⟩) hHeld ?_
                  (try simp only [gs])
                  refine wpAnyH_take (i := 38) (v := ?_) rfl (by kernel_rfl) (by kernel_rfl) (by kernel_rfl) (fun _ _ _ h => h) (Or.inl ⟨by rfl, ?_⟩) hHeld ?_
                  case refine_2 => (intro w hSw; (try dsimp only at hSw); obtain ⟨k0, k1, k2⟩ := hSw.m.cells; obtain ⟨n0, n1, n2⟩ := hSw.c.m.cells; go_simp; try (with_reducible rfl))
                  (try simp only [gs])
                  refine wpAnyH_done (by kernel_rfl) ?_ _
                  refine NoPanic.normal ?_
                  have HBT : badDoc Y ce x.lv KK = true := by
                    simp [badDoc, hth]
                  have HF : Hid (RES = false) := (show _ = _ by rw [HGO2.out, HBT]; rfl)
                  have HBL : Hid (Below w.heap.size w _) := hHeld.c.bel
                  clear HGO2 M4 HBT
                  go_wp2_with fail
                  go_ret
                  exact ⟨by rw [HF.out]; rfl, HBL.out⟩
                  -- END 1
                | true =>
                  obtain rfl : ce = 0 := by simpa using hth
                  clear hth HCE
                  have hwl : IntKind.i64.wrap (x.lv - 1) = x.lv - 1 := wrap64_of_range7 (by omega) (by omega)
                  cases hl : (Y.lv != x.lv - 1) with
                  | true =>
                    -- BEGIN 2
                    refine wp_region_noPanic ?_
                    refine wp_region_held_drew (S := (fun y => DY lim v l w y x (.slice ap j cp) (.slice (some ⟨ga, oa, none⟩) Q cq) top d E d2 Y (.slice yp Y.ps.length ycp) (.slice yq Y.ks.length ycq))) (by kernel_rfl) (M4.called ⟨rfl, rfl, rfl, Nat.le_refl _, fun _ _ => rfl⟩) (fun hHeld => ?_)
                    refine wpAnyH_take (i := 0) (v := ?_) rfl (by kernel_rfl) (by kernel_rfl) (by kernel_rfl) (fun _ _ _ h => h) (Or.inl ⟨by rfl, ?_⟩) hHeld ?_
                    case refine_2 => (intro w hSw; (try dsimp only at hSw); obtain ⟨k0, k1, k2⟩ := hSw.m.cells; obtain ⟨n0, n1, n2⟩ := hSw.c.m.cells; go_simp; try (with_reducible rfl))
                    (try simp only [gs])
                    refine wpAnyH_take (i := 1) (v := ?_) rfl (by kernel_rfl) (by kernel_rfl) (by kernel_rfl) (fun _ _ _ h => h) (Or.inl ⟨by rfl, ?_⟩) hHeld ?_
                    case refine_2 => (intro w hSw; (try dsimp only at hSw); obtain ⟨k0, k1, k2⟩ := hSw.m.cells; obtain ⟨n0, n1, n2⟩ := hSw.c.m.cells; go_simp; try (with_reducible rfl))
                    (try simp only [gs])
                    refine wpAnyH_take (i := 2) (v := ?_) rfl (by kernel_rfl) (by kernel_rfl) (by kernel_rfl) (fun _ _ _ h => h) (Or.inl ⟨by rfl, ?_⟩) hHeld ?_
                    case refine_2 => (intro w hSw; (try dsimp only at hSw); obtain ⟨k0, k1, k2⟩ := hSw.m.cells; obtain ⟨n0, n1, n2⟩ := hSw.c.m.cells; go_simp; try (with_reducible rfl))
                    (try simp only [gs])
                    refine wpAnyH_take (i := 3) (v := ?_) rfl (by kernel_rfl) (by kernel_rfl) (by kernel_rfl) (fun _ _ _ h => h) (Or.inl ⟨by rfl, ?_⟩) hHeld ?_
                    case refine_2 => (intro w hSw; (try dsimp only at hSw); obtain ⟨k0, k1, k2⟩ := hSw.m.cells; obtain ⟨n0, n1, n2⟩ := hSw.c.m.cells; go_simp; try (with_reducible rfl))
                    (try simp only [gs])
                    refine wpAnyH_take (i := 4) (v := ?_) rfl (by kernel_rfl) (by kernel_rfl) (by kernel_rfl) (fun _ _ _ h => h) (Or.inl ⟨by rfl, ?_⟩) hHeld ?_
                    case refine_2 => (intro w hSw; (try dsimp only at hSw); obtain ⟨k0, k1, k2⟩ := hSw.m.cells; obtain ⟨n0, n1, n2⟩ := hSw.c.m.cells; go_simp; try (with_reducible rfl))
                    (try simp only [gs])
                    refine wpAnyH_take (i := 5) (v := ?_) rfl (by kernel_rfl) (by kernel_rfl) (by kernel_rfl) (fun _ _ _ h => h) (Or.inl ⟨by rfl, ?_⟩) hHeld ?_
                    case refine_2 => (intro w hSw; (try dsimp only at hSw); obtain ⟨k0, k1, k2⟩ := hSw.m.cells; obtain ⟨n0, n1, n2⟩ := hSw.c.m.cells; go_simp; try (with_reducible rfl))
                    (try simp only [gs])
                    refine wpAnyH_take (i := 6) (v := ?_) rfl (by kernel_rfl) (by kernel_rfl) (by kernel_rfl) (fun _ _ _ h => h) (Or.inl ⟨by rfl, ?_⟩) hHeld ?_
                    case refine_2 => (intro w hSw; (try dsimp only at hSw); obtain ⟨k0, k1, k2⟩ := hSw.m.cells; obtain ⟨n0, n1, n2⟩ := hSw.c.m.cells; go_simp; try (with_reducible rfl))
                    (try simp only [gs])
                    refine wpAnyH_take (i := 7) (v := .int .i64 (x.lv - 1)) rfl (by kernel_rfl) (by kernel_rfl) (by kernel_rfl) (fun _ _ _ h => h) (Or.inl ⟨by rfl, ?_⟩) hHeld ?_
                    case refine_1 => (intro w hSw; (try dsimp only at hSw); obtain ⟨k0, k1, k2⟩ := hSw.m.cells; obtain ⟨n0, n1, n2⟩ := hSw.c.m.cells; go_simp; first | done | rfl | exact hwl)
                    (try simp only [gs])
                    refine wpAnyH_take (i := 8) (v := .bool true) rfl (by kernel_rfl) (by kernel_rfl) (by kernel_rfl) (fun _ _ _ h => h) (Or.inl ⟨by rfl, ?_⟩) hHeld ?_
                    case refine_1 => (intro w hSw; (try dsimp only at hSw); obtain ⟨k0, k1, k2⟩ := hSw.m.cells; obtain ⟨n0, n1, n2⟩ := hSw.c.m.cells; go_simp; first | done | rfl | exact hwl)
                    (try simp only [gs])
                    refine wpAnyH_take (i := 9) (v := ?_) rfl (by kernel_rfl) (by kernel_rfl) (by kernel_rfl) (fun _ _ _ h => h) (Or.inl ⟨by rfl, ?_⟩) hHeld ?_
                    case refine_2 => (intro w hSw; (try dsimp only at hSw); obtain ⟨k0, k1, k2⟩ := hSw.m.cells; obtain ⟨n0, n1, n2⟩ := hSw.c.m.cells; go_simp; try (with_reducible rfl))
                    (try simp only [gs])
                    refine wpAnyH_take (i := 10) (v := ?_) rfl (by kernel_rfl) (by kernel_rfl) (by kernel_rfl) (fun _ _ _ h => h) (Or.inl ⟨by rfl, ?_⟩) hHeld ?_
                    case refine_2 => (intro w hSw; (try dsimp only at hSw); obtain ⟨k0, k1, k2⟩ := hSw.m.cells; obtain ⟨n0, n1, n2⟩ := hSw.c.m.cells; go_simp; try (with_reducible rfl))
                    (try simp only [gs])
                    refine wpAnyH_take (i := 11) (v := undef) rfl (by kernel_rfl) (by kernel_rfl) (by kernel_rfl) (fun _ _ _ h => h) (Or.inr ⟨by rfl, rfl⟩) hHeld ?_
                    (try simp only [gs])
                    refine wpAnyH_take (i := 12) (v := undef) rfl (by kernel_rfl) (by kernel_rfl) (by kernel_rfl) (fun _ _ _ h => h) (Or.inr ⟨by rfl, rfl⟩) hHeld ?_
                    (try simp only [gs])
                    refine wpAnyH_take (i := 13) (v := undef) rfl (by kernel_rfl) (by kernel_rfl) (by kernel_rfl) (fun _ _ _ h => h) (Or.inr ⟨by rfl, rfl⟩) hHeld ?_
                    (try simp only [gs])
                    refine wpAnyH_take (i := 14) (v := undef) rfl (by kernel_rfl) (by kernel_rfl) (by kernel_rfl) (fun _ _ _ h => h) (Or.inr ⟨by rfl, rfl⟩) hHeld ?_
                    (try simp only [gs])
                    refine wpAnyH_take (i := 15) (v := undef) rfl (by kernel_rfl) (by kernel_rfl) (by kernel_rfl) (fun _ _ _ h => h) (Or.inr ⟨by rfl, rfl⟩) hHeld ?_
                    (try simp only [gs])
                    refine wpAnyH_take (i := 16) (v := ?_) rfl (by kernel_rfl) (by kernel_rfl) (by kernel_rfl) (fun _ _ _ h => h) (Or.inl ⟨by rfl, ?_⟩) hHeld ?_
                    case refine_2 => (intro w hSw; (try dsimp only at hSw); obtain ⟨k0, k1, k2⟩ := hSw.m.cells; obtain ⟨n0, n1, n2⟩ := hSw.c.m.cells; go_simp; try (with_reducible rfl))
                    (try simp only [gs])
                    refine wpAnyH_take (i := 17) (v := ?_) rfl (by kernel_rfl) (by kernel_rfl) (by kernel_rfl) (fun _ _ _ h => h) (Or.inl ⟨by rfl, ?_⟩) hHeld ?_
                    case refine_2 => (intro w hSw; (try dsimp only at hSw); obtain ⟨k0, k1, k2⟩ := hSw.m.cells; obtain ⟨n0, n1, n2⟩ := hSw.c.m.cells; go_simp; try (with_reducible rfl))
                    (try simp only [gs])
                    refine wpAnyH_take (i := 18) (v := undef) rfl (by kernel_rfl) (by kernel_rfl) (by kernel_rfl) (fun _ _ _ h => h) (Or.inr ⟨by rfl, rfl⟩) hHeld ?_
                    (try simp only [gs])
                    refine wpAnyH_take (i := 19) (v := undef) rfl (by kernel_rfl) (by kernel_rfl) (by kernel_rfl) (fun _ _ _ h => h) (Or.inr ⟨by rfl, rfl⟩) hHeld ?_
                    (try simp only [gs])
                    refine wpAnyH_take (i := 20) (v := undef) rfl (by kernel_rfl) (by kernel_rfl) (by kernel_rfl) (fun _ _ _ h => h) (Or.inr ⟨by rfl, rfl⟩) hHeld ?_
                    (try simp only [gs])
                    refine wpAnyH_take (i := 21) (v := undef) rfl (by kernel_rfl) (by kernel_rfl) (by kernel_rfl) (fun _ _ _ h => h) (Or.inr ⟨by rfl, rfl⟩) hHeld ?_
                    (try simp only [gs])
                    refine wpAnyH_take (i := 22) (v := undef) rfl (by kernel_rfl) (by kernel_rfl) (by kernel_rfl) (fun _ _ _ h => h) (Or.inr ⟨by rfl, rfl⟩) hHeld ?_
                    (try simp only [gs])
                    refine wpAnyH_take (i := 23) (v := undef) rfl (by kernel_rfl) (by kernel_rfl) (by kernel_rfl) (fun _ _ _ h => h) (Or.inr ⟨by rfl, rfl⟩) hHeld ?_
                    (try simp only [gs])
                    refine wpAnyH_take (i := 24) (v := undef) rfl (by kernel_rfl) (by kernel_rfl) (by kernel_rfl) (fun _ _ _ h => h) (Or.inr ⟨by rfl, rfl⟩) hHeld ?_
                    (try simp only [gs])
                    refine wpAnyH_take (i := 25) (v := undef) rfl (by kernel_rfl) (by kernel_rfl) (by kernel_rfl) (fun _ _ _ h => h) (Or.inr ⟨by rfl, rfl⟩) hHeld ?_
                    (try simp only [gs])
                    refine wpAnyH_take (i := 26) (v := undef) rfl (by kernel_rfl) (by kernel_rfl) (by kernel_rfl) (fun _ _ _ h => h) (Or.inr ⟨by rfl, rfl⟩) hHeld ?_
                    (try simp only [gs])
                    refine wpAnyH_take (i := 27) (v := ?_) rfl (by kernel_rfl) (by kernel_rfl) (by kernel_rfl) (fun _ _ _ h => h) (Or.inl ⟨by rfl, ?_⟩) hHeld ?_
                    case refine_2 => (intro w hSw; (try dsimp only at hSw); obtain ⟨k0, k1, k2⟩ := hSw.m.cells; obtain ⟨n0, n1, n2⟩ := hSw.c.m.cells; go_simp; try (with_reducible rfl))
                    (try simp only [gs])
                    refine wpAnyH_take (i := 28) (v := ?_) rfl (by kernel_rfl) (by kernel_rfl) (by kernel_rfl) (fun _ _ _ h => h) (Or.inl ⟨by rfl, ?_⟩) hHeld ?_
                    case refine_2 => (intro w hSw; (try dsimp only at hSw); obtain ⟨k0, k1, k2⟩ := hSw.m.cells; obtain ⟨n0, n1, n2⟩ := hSw.c.m.cells; go_simp; try (with_reducible rfl))
                    (try simp only [gs])
                    refine wpAnyH_take (i := 29) (v := undef) rfl (by kernel_rfl) (by kernel_rfl) (by kernel_rfl) (fun _ _ _ h => h) (Or.inr ⟨by rfl, rfl⟩) hHeld ?_
                    (try simp only [gs])
                    refine wpAnyH_take (i := 30) (v := undef) rfl (by kernel_rfl) (by kernel_rfl) (by kernel_rfl) (fun _ _ _ h => h) (Or.inr ⟨by rfl, rfl⟩) hHeld ?_
                    (try simp only [gs])
                    refine wpAnyH_take (i := 31) (v := undef) rfl (by kernel_rfl) (by kernel_rfl) (by kernel_rfl) (fun _ _ _ h => h) (Or.inr ⟨by rfl, rfl⟩) hHeld ?_
                    (try simp only [gs])
                    refine wpAnyH_take (i := 32) (v := undef) rfl (by kernel_rfl) (by kernel_rfl) (by kernel_rfl) (fun _ _ _ h => h) (Or.inr ⟨by rfl, rfl⟩) hHeld ?_
                    (try simp only [gs])
                    refine wpAnyH_take (i := 33) (v := undef) rfl (by kernel_rfl) (by kernel_rfl) (by kernel_rfl) (fun _ _ _ h => h) (Or.inr ⟨by rfl, rfl⟩) hHeld ?_
                    (try simp only [gs])
                    refine wpAnyH_take (i := 34) (v := undef) rfl (by kernel_rfl) (by kernel_rfl) (by kernel_rfl) (fun _ _ _ h => h) (Or.inr ⟨by rfl, rfl⟩) hHeld ?_
                    (try simp only [gs])
                    refine wpAnyH_take (i := 35) (v := undef) rfl (by kernel_rfl) (by kernel_rfl) (by kernel_rfl) (fun _ _ _ h => h) (Or.inr ⟨by rfl, rfl⟩) hHeld ?_
                    (try simp only [gs])
                    refine wpAnyH_take (i := 36) (v := undef) rfl (by kernel_rfl) (by kernel_rfl) (by kernel_rfl) (fun _ _ _ h => h) (Or.inr ⟨by rfl, rfl⟩) hHeld ?_
                    (try simp only [gs])
                    refine wpAnyH_take (i := 37) (v := undef) rfl (by kernel_rfl) (by kernel_rfl) (by kernel_rfl) (fun _ _ _ h => h) (Or.inr ⟨by rfl, rfl⟩) hHeld ?_
                    (try simp only [gs])
                    refine wpAnyH_take (i := 38) (v := ?_) rfl (by kernel_rfl) (by kernel_rfl) (by kernel_rfl) (fun _ _ _ h => h) (Or.inl ⟨by rfl, ?_⟩) hHeld ?_
                    case refine_2 => (intro w hSw; (try dsimp only at hSw); obtain ⟨k0, k1, k2⟩ := hSw.m.cells; obtain ⟨n0, n1, n2⟩ := hSw.c.m.cells; go_simp; try (with_reducible rfl))
                    (try simp only [gs])
                    refine wpAnyH_done (by kernel_rfl) ?_ _
                    refine NoPanic.normal ?_
                    have HBT : badDoc Y 0 x.lv KK = true := by
                      have e : (Y.lv == x.lv - 1) = false := by simpa using hl
                      simp [badDoc, e]
                    have HF : Hid (RES = false) := (show _ = _ by rw [HGO2.out, HBT]; rfl)
                    have HBL : Hid (Below w.heap.size w _) := hHeld.c.bel
                    clear HGO2 M4 HBT
                    go_wp2_with fail
                    go_ret
                    exact ⟨by rw [HF.out]; rfl, HBL.out⟩
                    -- END 2
                  | false =>
                    have hlv : Y.lv = x.lv - 1 := by simpa using hl
                    have HLY : Hid (Y.lv = x.lv - 1) := hlv
                    cases hf : (firstN Y == KK) with
                    | false =>
                      have HF1 : Hid ((firstN Y == KK) = false) := hf
                      clear hf hlv
                      -- BEGIN 3
                      refine wp_region_noPanic ?_
                      refine wp_region_held_drew (S := (fun y => DY lim v l w y x (.slice ap j cp) (.slice (some ⟨ga, oa, none⟩) Q cq) top d E d2 Y (.slice yp Y.ps.length ycp) (.slice yq Y.ks.length ycq))) (by kernel_rfl) (M4.called ⟨rfl, rfl, rfl, Nat.le_refl _, fun _ _ => rfl⟩) (fun hHeld => ?_)
                      refine wpAnyH_take (i := 0) (v := ?_) rfl (by kernel_rfl) (by kernel_rfl) (by kernel_rfl) (fun _ _ _ h => h) (Or.inl ⟨by rfl, ?_⟩) hHeld ?_
                      case refine_2 => (intro w hSw; (try dsimp only at hSw); obtain ⟨k0, k1, k2⟩ := hSw.m.cells; obtain ⟨n0, n1, n2⟩ := hSw.c.m.cells; go_simp; try (with_reducible rfl))
                      (try simp only [gs])
                      refine wpAnyH_take (i := 1) (v := ?_) rfl (by kernel_rfl) (by kernel_rfl) (by kernel_rfl) (fun _ _ _ h => h) (Or.inl ⟨by rfl, ?_⟩) hHeld ?_
                      case refine_2 => (intro w hSw; (try dsimp only at hSw); obtain ⟨k0, k1, k2⟩ := hSw.m.cells; obtain ⟨n0, n1, n2⟩ := hSw.c.m.cells; go_simp; try (with_reducible rfl))
                      (try simp only [gs])
                      refine wpAnyH_take (i := 2) (v := ?_) rfl (by kernel_rfl) (by kernel_rfl) (by kernel_rfl) (fun _ _ _ h => h) (Or.inl ⟨by rfl, ?_⟩) hHeld ?_
                      case refine_2 => (intro w hSw; (try dsimp only at hSw); obtain ⟨k0, k1, k2⟩ := hSw.m.cells; obtain ⟨n0, n1, n2⟩ := hSw.c.m.cells; go_simp; try (with_reducible rfl))
                      (try simp only [gs])
                      refine wpAnyH_take (i := 3) (v := ?_) rfl (by kernel_rfl) (by kernel_rfl) (by kernel_rfl) (fun _ _ _ h => h) (Or.inl ⟨by rfl, ?_⟩) hHeld ?_
                      case refine_2 => (intro w hSw; (try dsimp only at hSw); obtain ⟨k0, k1, k2⟩ := hSw.m.cells; obtain ⟨n0, n1, n2⟩ := hSw.c.m.cells; go_simp; try (with_reducible rfl))
                      (try simp only [gs])
                      refine wpAnyH_take (i := 4) (v := ?_) rfl (by kernel_rfl) (by kernel_rfl) (by kernel_rfl) (fun _ _ _ h => h) (Or.inl ⟨by rfl, ?_⟩) hHeld ?_
                      case refine_2 => (intro w hSw; (try dsimp only at hSw); obtain ⟨k0, k1, k2⟩ := hSw.m.cells; obtain ⟨n0, n1, n2⟩ := hSw.c.m.cells; go_simp; try (with_reducible rfl))
                      (try simp only [gs])
                      refine wpAnyH_take (i := 5) (v := ?_) rfl (by kernel_rfl) (by kernel_rfl) (by kernel_rfl) (fun _ _ _ h => h) (Or.inl ⟨by rfl, ?_⟩) hHeld ?_
                      case refine_2 => (intro w hSw; (try dsimp only at hSw); obtain ⟨k0, k1, k2⟩ := hSw.m.cells; obtain ⟨n0, n1, n2⟩ := hSw.c.m.cells; go_simp; try (with_reducible rfl))
                      (try simp only [gs])
                      refine wpAnyH_take (i := 6) (v := ?_) rfl (by kernel_rfl) (by kernel_rfl) (by kernel_rfl) (fun _ _ _ h => h) (Or.inl ⟨by rfl, ?_⟩) hHeld ?_
                      case refine_2 => (intro w hSw; (try dsimp only at hSw); obtain ⟨k0, k1, k2⟩ := hSw.m.cells; obtain ⟨n0, n1, n2⟩ := hSw.c.m.cells; go_simp; try (with_reducible rfl))
                      (try simp only [gs])
                      refine wpAnyH_take (i := 7) (v := .int .i64 (x.lv - 1)) rfl (by kernel_rfl) (by kernel_rfl) (by kernel_rfl) (fun _ _ _ h => h) (Or.inl ⟨by rfl, ?_⟩) hHeld ?_
                      case refine_1 => (intro w hSw; (try dsimp only at hSw); obtain ⟨k0, k1, k2⟩ := hSw.m.cells; obtain ⟨n0, n1, n2⟩ := hSw.c.m.cells; go_simp; first | done | rfl | exact hwl)
                      (try simp only [gs])
                      refine wpAnyH_take (i := 8) (v := .bool false) rfl (by kernel_rfl) (by kernel_rfl) (by kernel_rfl) (fun _ _ _ h => h) (Or.inl ⟨by rfl, ?_⟩) hHeld ?_
                      case refine_1 => (intro w hSw; (try dsimp only at hSw); obtain ⟨k0, k1, k2⟩ := hSw.m.cells; obtain ⟨n0, n1, n2⟩ := hSw.c.m.cells; go_simp; first | done | rfl | exact hwl)
                      (try simp only [gs])
                      refine wpAnyH_take (i := 9) (v := ?_) rfl (by kernel_rfl) (by kernel_rfl) (by kernel_rfl) (fun _ _ _ h => h) (Or.inl ⟨by rfl, ?_⟩) hHeld ?_
                      case refine_2 => (intro w hSw; (try dsimp only at hSw); obtain ⟨k0, k1, k2⟩ := hSw.m.cells; obtain ⟨n0, n1, n2⟩ := hSw.c.m.cells; go_simp; try (with_reducible rfl))
                      (try simp only [gs])
                      refine wpAnyH_take (i := 10) (v := ?_) rfl (by kernel_rfl) (by kernel_rfl) (by kernel_rfl) (fun _ _ _ h => h) (Or.inl ⟨by rfl, ?_⟩) hHeld ?_
                      case refine_2 => (intro w hSw; (try dsimp only at hSw); obtain ⟨k0, k1, k2⟩ := hSw.m.cells; obtain ⟨n0, n1, n2⟩ := hSw.c.m.cells; go_simp; try (with_reducible rfl))
                      (try simp only [gs])
                      refine wpAnyH_take (i := 11) rfl (by kernel_rfl) (by kernel_rfl) (by kernel_rfl) (fun _ _ _ h => h) (yieldsIf_load_mid (by rfl) _ _ rfl _ _ rfl _ _ (fun _ h => h.m.range) Tryz.underlying60 rfl Tryz.node_info) hHeld ?_
                      (try simp only [gs])
                      refine wpAnyH_take (i := 13) (v := ?_) rfl (by kernel_rfl) (by kernel_rfl) (by kernel_rfl) (fun _ _ _ h => h) (Or.inl ⟨by rfl, ?_⟩) hHeld ?_
                      case refine_2 => (intro w hSw; (try dsimp only at hSw); obtain ⟨k0, k1, k2⟩ := hSw.m.cells; obtain ⟨n0, n1, n2⟩ := hSw.c.m.cells; go_simp; try (with_reducible rfl))
                      (try simp only [gs])
                      refine wpAnyH_take (i := 14) rfl (by kernel_rfl) (by kernel_rfl) (by kernel_rfl) (fun _ _ _ h => h) (yieldsIf_load_mid (by rfl) _ _ rfl _ _ rfl _ _ (fun _ h => (HEK.out ▸ range_key h.k.range : World.rangeAt _ d 0 (bc KK))) Tryz.underlying25 rfl (by rw [bc_length]; exact HKI.out _ HKL.out)) hHeld ?_
                      (try simp only [gs])
                      generalize x4.drew = y0 at *
                      refine wpAnyH_ready (rs := [12]) (by kernel_rfl) (by simp) (AllReadyH.cons rfl (fun K hK => ?_) AllReadyH.nil)
                      rw [if_pos (by rfl)]
                      (try simp only [gs])
                      go_simp
                      refine (HFC.out _ hHeld.q).mono ?_
                      rintro e y2 ⟨rfl, b2⟩
                      refine hK.out _ _ (hHeld.called b2) (fun g2 => ?_)
                      clear hK K
                      (try simp only [gs])
                      refine wpAnyH_take (i := 15) (v := .bool true) rfl (by kernel_rfl) (by kernel_rfl) (by kernel_rfl) (fun _ _ _ h => h) (Or.inl ⟨by rfl, ?_⟩) g2 ?_
                      case refine_1 => (intro w hSw; (try dsimp only at hSw); have q := eq_key w (firstN Y) KK HFL.out HKL.out; rw [HF1.out] at q; go_simp; first | done | rfl | exact hwl)
                      (try simp only [gs])
                      refine wpAnyH_take (i := 16) (v := ?_) rfl (by kernel_rfl) (by kernel_rfl) (by kernel_rfl) (fun _ _ _ h => h) (Or.inl ⟨by rfl, ?_⟩) g2 ?_
                      case refine_2 => (intro w hSw; (try dsimp only at hSw); obtain ⟨k0, k1, k2⟩ := hSw.m.cells; obtain ⟨n0, n1, n2⟩ := hSw.c.m.cells; go_simp; try (with_reducible rfl))
                      (try simp only [gs])
                      refine wpAnyH_take (i := 17) (v := ?_) rfl (by kernel_rfl) (by kernel_rfl) (by kernel_rfl) (fun _ _ _ h => h) (Or.inl ⟨by rfl, ?_⟩) g2 ?_
                      case refine_2 => (intro w hSw; (try dsimp only at hSw); obtain ⟨k0, k1, k2⟩ := hSw.m.cells; obtain ⟨n0, n1, n2⟩ := hSw.c.m.cells; go_simp; try (with_reducible rfl))
                      (try simp only [gs])
                      refine wpAnyH_take (i := 18) (v := undef) rfl (by kernel_rfl) (by kernel_rfl) (by kernel_rfl) (fun _ _ _ h => h) (Or.inr ⟨by rfl, rfl⟩) g2 ?_
                      (try simp only [gs])
                      refine wpAnyH_take (i := 19) (v := undef) rfl (by kernel_rfl) (by kernel_rfl) (by kernel_rfl) (fun _ _ _ h => h) (Or.inr ⟨by rfl, rfl⟩) g2 ?_
                      (try simp only [gs])
                      refine wpAnyH_take (i := 20) (v := undef) rfl (by kernel_rfl) (by kernel_rfl) (by kernel_rfl) (fun _ _ _ h => h) (Or.inr ⟨by rfl, rfl⟩) g2 ?_
                      (try simp only [gs])
                      refine wpAnyH_take (i := 21) (v := undef) rfl (by kernel_rfl) (by kernel_rfl) (by kernel_rfl) (fun _ _ _ h => h) (Or.inr ⟨by rfl, rfl⟩) g2 ?_
                      (try simp only [gs])
                      refine wpAnyH_take (i := 22) (v := undef) rfl (by kernel_rfl) (by kernel_rfl) (by kernel_rfl) (fun _ _ _ h => h) (Or.inr ⟨by rfl, rfl⟩) g2 ?_
                      (try simp only [gs])
                      refine wpAnyH_take (i := 23) (v := undef) rfl (by kernel_rfl) (by kernel_rfl) (by kernel_rfl) (fun _ _ _ h => h) (Or.inr ⟨by rfl, rfl⟩) g2 ?_
                      (try simp only [gs])
                      refine wpAnyH_take (i := 24) (v := undef) rfl (by kernel_rfl) (by kernel_rfl) (by kernel_rfl) (fun _ _ _ h => h) (Or.inr ⟨by rfl, rfl⟩) g2 ?_
                      (try simp only [gs])
                      refine wpAnyH_take (i := 25) (v := undef) rfl (by kernel_rfl) (by kernel_rfl) (by kernel_rfl) (fun _ _ _ h => h) (Or.inr ⟨by rfl, rfl⟩) g2 ?_
                      (try simp only [gs])
                      refine wpAnyH_take (i := 26) (v := undef) rfl (by kernel_rfl) (by kernel_rfl) (by kernel_rfl) (fun _ _ _ h => h) (Or.inr ⟨by rfl, rfl⟩) g2 ?_
                      (try simp only [gs])
                      refine wpAnyH_take (i := 27) (v := ?_) rfl (by kernel_rfl) (by kernel_rfl) (by kernel_rfl) (fun _ _ _ h => h) (Or.inl ⟨by rfl, ?_⟩) g2 ?_
                      case refine_2 => (intro w hSw; (try dsimp only at hSw); obtain ⟨k0, k1, k2⟩ := hSw.m.cells; obtain ⟨n0, n1, n2⟩ := hSw.c.m.cells; go_simp; try (with_reducible rfl))
                      (try simp only [gs])
                      refine wpAnyH_take (i := 28) (v := ?_) rfl (by kernel_rfl) (by kernel_rfl) (by kernel_rfl) (fun _ _ _ h => h) (Or.inl ⟨by rfl, ?_⟩) g2 ?_
                      case refine_2 => (intro w hSw; (try dsimp only at hSw); obtain ⟨k0, k1, k2⟩ := hSw.m.cells; obtain ⟨n0, n1, n2⟩ := hSw.c.m.cells; go_simp; try (with_reducible rfl))
                      (try simp only [gs])
                      refine wpAnyH_take (i := 29) (v := undef) rfl (by kernel_rfl) (by kernel_rfl) (by kernel_rfl) (fun _ _ _ h => h) (Or.inr ⟨by rfl, rfl⟩) g2 ?_
                      (try simp only [gs])
                      refine wpAnyH_take (i := 30) (v := undef) rfl (by kernel_rfl) (by kernel_rfl) (by kernel_rfl) (fun _ _ _ h => h) (Or.inr ⟨by rfl, rfl⟩) g2 ?_
                      (try simp only [gs])
                      refine wpAnyH_take (i := 31) (v := undef) rfl (by kernel_rfl) (by kernel_rfl) (by kernel_rfl) (fun _ _ _ h => h) (Or.inr ⟨by rfl, rfl⟩) g2 ?_
                      (try simp only [gs])
                      refine wpAnyH_take (i := 32) (v := undef) rfl (by kernel_rfl) (by kernel_rfl) (by kernel_rfl) (fun _ _ _ h => h) (Or.inr ⟨by rfl, rfl⟩) g2 ?_
                      (try simp only [gs])
                      refine wpAnyH_take (i := 33) (v := undef) rfl (by kernel_rfl) (by kernel_rfl) (by kernel_rfl) (fun _ _ _ h => h) (Or.inr ⟨by rfl, rfl⟩) g2 ?_
                      (try simp only [gs])
                      refine wpAnyH_take (i := 34) (v := undef) rfl (by kernel_rfl) (by kernel_rfl) (by kernel_rfl) (fun _ _ _ h => h) (Or.inr ⟨by rfl, rfl⟩) g2 ?_
                      (try simp only [gs])
                      refine wpAnyH_take (i := 35) (v := undef) rfl (by kernel_rfl) (by kernel_rfl) (by kernel_rfl) (fun _ _ _ h => h) (Or.inr ⟨by rfl, rfl⟩) g2 ?_
                      (try simp only [gs])
                      refine wpAnyH_take (i := 36) (v := undef) rfl (by kernel_rfl) (by kernel_rfl) (by kernel_rfl) (fun _ _ _ h => h) (Or.inr ⟨by rfl, rfl⟩) g2 ?_
                      (try simp only [gs])
                      refine wpAnyH_take (i := 37) (v := undef) rfl (by kernel_rfl) (by kernel_rfl) (by kernel_rfl) (fun _ _ _ h => h) (Or.inr ⟨by rfl, rfl⟩) g2 ?_
                      (try simp only [gs])
                      refine wpAnyH_take (i := 38) (v := ?_) rfl (by kernel_rfl) (by kernel_rfl) (by kernel_rfl) (fun _ _ _ h => h) (Or.inl ⟨by rfl, ?_⟩) g2 ?_
                      case refine_2 => (intro w hSw; (try dsimp only at hSw); obtain ⟨k0, k1, k2⟩ := hSw.m.cells; obtain ⟨n0, n1, n2⟩ := hSw.c.m.cells; go_simp; try (with_reducible rfl))
                      (try simp only [gs])
                      refine wpAnyH_done (by kernel_rfl) ?_ _
                      refine NoPanic.normal ?_
                      have HBT : badDoc Y 0 x.lv KK = true := by
                        simp [badDoc, HF1.out]
                      have HF : Hid (RES = false) := (show _ = _ by rw [HGO2.out, HBT]; rfl)
                      have HBL : Hid (Below w.heap.size w _) := g2.c.bel
                      clear HGO2 M4 HBT
                      go_wp2_with fail
                      go_ret
                      exact ⟨by rw [HF.out]; rfl, HBL.out⟩
                      -- END 3
                    | true =>
                      -- MARK1
                      have HF1 : Hid ((firstN Y == KK) = true) := hf
                      clear hf hlv
                      by_cases hz : Y.lv = 0
                      · have hz1 : (Y.lv == 0) = true := by simpa using hz
                        have hz2 : decide (0 < Y.lv) = false := decide_eq_false (by omega)
                        have HZ : Hid (Y.lv = 0) := hz
                        clear hz
                        cases hs : decide ((Y.ps.length : Int) < 3) with
                        | true =>
                          -- BEGIN 4
                          refine wp_region_noPanic ?_
                          refine wp_region_held_drew (S := (fun y => DY lim v l w y x (.slice ap j cp) (.slice (some ⟨ga, oa, none⟩) Q cq) top d E d2 Y (.slice yp Y.ps.length ycp) (.slice yq Y.ks.length ycq))) (by kernel_rfl) (M4.called ⟨rfl, rfl, rfl, Nat.le_refl _, fun _ _ => rfl⟩) (fun hHeld => ?_)
                          refine wpAnyH_take (i := 0) (v := ?_) rfl (by kernel_rfl) (by kernel_rfl) (by kernel_rfl) (fun _ _ _ h => h) (Or.inl ⟨by rfl, ?_⟩) hHeld ?_
                          case refine_2 => (intro w hSw; (try dsimp only at hSw); obtain ⟨k0, k1, k2⟩ := hSw.m.cells; obtain ⟨n0, n1, n2⟩ := hSw.c.m.cells; go_simp; try (with_reducible rfl))
                          (try simp only [gs])
                          refine wpAnyH_take (i := 1) (v := ?_) rfl (by kernel_rfl) (by kernel_rfl) (by kernel_rfl) (fun _ _ _ h => h) (Or.inl ⟨by rfl, ?_⟩) hHeld ?_
                          case refine_2 => (intro w hSw; (try dsimp only at hSw); obtain ⟨k0, k1, k2⟩ := hSw.m.cells; obtain ⟨n0, n1, n2⟩ := hSw.c.m.cells; go_simp; try (with_reducible rfl))
                          (try simp only [gs])
                          refine wpAnyH_take (i := 2) (v := ?_) rfl (by kernel_rfl) (by kernel_rfl) (by kernel_rfl) (fun _ _ _ h => h) (Or.inl ⟨by rfl, ?_⟩) hHeld ?_
                          case refine_2 => (intro w hSw; (try dsimp only at hSw); obtain ⟨k0, k1, k2⟩ := hSw.m.cells; obtain ⟨n0, n1, n2⟩ := hSw.c.m.cells; go_simp; try (with_reducible rfl))
                          (try simp only [gs])
                          refine wpAnyH_take (i := 3) (v := ?_) rfl (by kernel_rfl) (by kernel_rfl) (by kernel_rfl) (fun _ _ _ h => h) (Or.inl ⟨by rfl, ?_⟩) hHeld ?_
                          case refine_2 => (intro w hSw; (try dsimp only at hSw); obtain ⟨k0, k1, k2⟩ := hSw.m.cells; obtain ⟨n0, n1, n2⟩ := hSw.c.m.cells; go_simp; try (with_reducible rfl))
                          (try simp only [gs])
                          refine wpAnyH_take (i := 4) (v := ?_) rfl (by kernel_rfl) (by kernel_rfl) (by kernel_rfl) (fun _ _ _ h => h) (Or.inl ⟨by rfl, ?_⟩) hHeld ?_
                          case refine_2 => (intro w hSw; (try dsimp only at hSw); obtain ⟨k0, k1, k2⟩ := hSw.m.cells; obtain ⟨n0, n1, n2⟩ := hSw.c.m.cells; go_simp; try (with_reducible rfl))
                          (try simp only [gs])
                          refine wpAnyH_take (i := 5) (v := ?_) rfl (by kernel_rfl) (by kernel_rfl) (by kernel_rfl) (fun _ _ _ h => h) (Or.inl ⟨by rfl, ?_⟩) hHeld ?_
                          case refine_2 => (intro w hSw; (try dsimp only at hSw); obtain ⟨k0, k1, k2⟩ := hSw.m.cells; obtain ⟨n0, n1, n2⟩ := hSw.c.m.cells; go_simp; try (with_reducible rfl))
                          (try simp only [gs])
                          refine wpAnyH_take (i := 6) (v := ?_) rfl (by kernel_rfl) (by kernel_rfl) (by kernel_rfl) (fun _ _ _ h => h) (Or.inl ⟨by rfl, ?_⟩) hHeld ?_
                          case refine_2 => (intro w hSw; (try dsimp only at hSw); obtain ⟨k0, k1, k2⟩ := hSw.m.cells; obtain ⟨n0, n1, n2⟩ := hSw.c.m.cells; go_simp; try (with_reducible rfl))
                          (try simp only [gs])
                          refine wpAnyH_take (i := 7) (v := .int .i64 (x.lv - 1)) rfl (by kernel_rfl) (by kernel_rfl) (by kernel_rfl) (fun _ _ _ h => h) (Or.inl ⟨by rfl, ?_⟩) hHeld ?_
                          case refine_1 => (intro w hSw; (try dsimp only at hSw); obtain ⟨k0, k1, k2⟩ := hSw.m.cells; obtain ⟨n0, n1, n2⟩ := hSw.c.m.cells; go_simp; first | done | rfl | exact hwl)
                          (try simp only [gs])
                          refine wpAnyH_take (i := 8) (v := .bool false) rfl (by kernel_rfl) (by kernel_rfl) (by kernel_rfl) (fun _ _ _ h => h) (Or.inl ⟨by rfl, ?_⟩) hHeld ?_
                          case refine_1 => (intro w hSw; (try dsimp only at hSw); obtain ⟨k0, k1, k2⟩ := hSw.m.cells; obtain ⟨n0, n1, n2⟩ := hSw.c.m.cells; go_simp; first | done | rfl | exact hwl)
                          (try simp only [gs])
                          refine wpAnyH_take (i := 9) (v := ?_) rfl (by kernel_rfl) (by kernel_rfl) (by kernel_rfl) (fun _ _ _ h => h) (Or.inl ⟨by rfl, ?_⟩) hHeld ?_
                          case refine_2 => (intro w hSw; (try dsimp only at hSw); obtain ⟨k0, k1, k2⟩ := hSw.m.cells; obtain ⟨n0, n1, n2⟩ := hSw.c.m.cells; go_simp; try (with_reducible rfl))
                          (try simp only [gs])
                          refine wpAnyH_take (i := 10) (v := ?_) rfl (by kernel_rfl) (by kernel_rfl) (by kernel_rfl) (fun _ _ _ h => h) (Or.inl ⟨by rfl, ?_⟩) hHeld ?_
                          case refine_2 => (intro w hSw; (try dsimp only at hSw); obtain ⟨k0, k1, k2⟩ := hSw.m.cells; obtain ⟨n0, n1, n2⟩ := hSw.c.m.cells; go_simp; try (with_reducible rfl))
                          (try simp only [gs])
                          refine wpAnyH_take (i := 11) rfl (by kernel_rfl) (by kernel_rfl) (by kernel_rfl) (fun _ _ _ h => h) (yieldsIf_load_mid (by rfl) _ _ rfl _ _ rfl _ _ (fun _ h => h.m.range) Tryz.underlying60 rfl Tryz.node_info) hHeld ?_
                          (try simp only [gs])
                          refine wpAnyH_take (i := 13) (v := ?_) rfl (by kernel_rfl) (by kernel_rfl) (by kernel_rfl) (fun _ _ _ h => h) (Or.inl ⟨by rfl, ?_⟩) hHeld ?_
                          case refine_2 => (intro w hSw; (try dsimp only at hSw); obtain ⟨k0, k1, k2⟩ := hSw.m.cells; obtain ⟨n0, n1, n2⟩ := hSw.c.m.cells; go_simp; try (with_reducible rfl))
                          (try simp only [gs])
                          refine wpAnyH_take (i := 14) rfl (by kernel_rfl) (by kernel_rfl) (by kernel_rfl) (fun _ _ _ h => h) (yieldsIf_load_mid (by rfl) _ _ rfl _ _ rfl _ _ (fun _ h => (HEK.out ▸ range_key h.k.range : World.rangeAt _ d 0 (bc KK))) Tryz.underlying25 rfl (by rw [bc_length]; exact HKI.out _ HKL.out)) hHeld ?_
                          (try simp only [gs])
                          generalize x4.drew = y0 at *
                          refine wpAnyH_ready (rs := [12]) (by kernel_rfl) (by simp) (AllReadyH.cons rfl (fun K hK => ?_) AllReadyH.nil)
                          rw [if_pos (by rfl)]
                          (try simp only [gs])
                          go_simp
                          refine (HFC.out _ hHeld.q).mono ?_
                          rintro e y2 ⟨rfl, b2⟩
                          refine hK.out _ _ (hHeld.called b2) (fun g2 => ?_)
                          clear hK K
                          (try simp only [gs])
                          refine wpAnyH_take (i := 15) (v := .bool false) rfl (by kernel_rfl) (by kernel_rfl) (by kernel_rfl) (fun _ _ _ h => h) (Or.inl ⟨by rfl, ?_⟩) g2 ?_
                          case refine_1 => (intro w hSw; (try dsimp only at hSw); have q := eq_key w (firstN Y) KK HFL.out HKL.out; rw [HF1.out] at q; go_simp; first | done | rfl | exact hwl)
                          (try simp only [gs])
                          refine wpAnyH_take (i := 16) (v := ?_) rfl (by kernel_rfl) (by kernel_rfl) (by kernel_rfl) (fun _ _ _ h => h) (Or.inl ⟨by rfl, ?_⟩) g2 ?_
                          case refine_2 => (intro w hSw; (try dsimp only at hSw); obtain ⟨k0, k1, k2⟩ := hSw.m.cells; obtain ⟨n0, n1, n2⟩ := hSw.c.m.cells; go_simp; try (with_reducible rfl))
                          (try simp only [gs])
                          refine wpAnyH_take (i := 17) (v := ?_) rfl (by kernel_rfl) (by kernel_rfl) (by kernel_rfl) (fun _ _ _ h => h) (Or.inl ⟨by rfl, ?_⟩) g2 ?_
                          case refine_2 => (intro w hSw; (try dsimp only at hSw); obtain ⟨k0, k1, k2⟩ := hSw.m.cells; obtain ⟨n0, n1, n2⟩ := hSw.c.m.cells; go_simp; try (with_reducible rfl))
                          (try simp only [gs])
                          refine wpAnyH_take (i := 18) (v := ?_) rfl (by kernel_rfl) (by kernel_rfl) (by kernel_rfl) (fun _ _ _ h => h) (Or.inl ⟨by rfl, ?_⟩) g2 ?_
                          case refine_2 => (intro w hSw; (try dsimp only at hSw); obtain ⟨k0, k1, k2⟩ := hSw.m.cells; obtain ⟨n0, n1, n2⟩ := hSw.c.m.cells; go_simp; try (with_reducible rfl))
                          (try simp only [gs])
                          refine wpAnyH_take (i := 19) (v := ?_) rfl (by kernel_rfl) (by kernel_rfl) (by kernel_rfl) (fun _ _ _ h => h) (Or.inl ⟨by rfl, ?_⟩) g2 ?_
                          case refine_2 => (intro w hSw; (try dsimp only at hSw); obtain ⟨k0, k1, k2⟩ := hSw.m.cells; obtain ⟨n0, n1, n2⟩ := hSw.c.m.cells; go_simp; try (with_reducible rfl))
                          (try simp only [gs])
                          refine wpAnyH_take (i := 20) (v := .bool true) rfl (by kernel_rfl) (by kernel_rfl) (by kernel_rfl) (fun _ _ _ h => h) (Or.inl ⟨by rfl, ?_⟩) g2 ?_
                          case refine_1 => (intro w hSw; (try dsimp only at hSw); obtain ⟨k0, k1, k2⟩ := hSw.m.cells; obtain ⟨n0, n1, n2⟩ := hSw.c.m.cells; go_simp; first | done | rfl | exact hwl)
                          (try simp only [gs])
                          refine wpAnyH_take (i := 21) (v := ?_) rfl (by kernel_rfl) (by kernel_rfl) (by kernel_rfl) (fun _ _ _ h => h) (Or.inl ⟨by rfl, ?_⟩) g2 ?_
                          case refine_2 => (intro w hSw; (try dsimp only at hSw); obtain ⟨k0, k1, k2⟩ := hSw.m.cells; obtain ⟨n0, n1, n2⟩ := hSw.c.m.cells; go_simp; try (with_reducible rfl))
                          (try simp only [gs])
                          refine wpAnyH_take (i := 22) (v := ?_) rfl (by kernel_rfl) (by kernel_rfl) (by kernel_rfl) (fun _ _ _ h => h) (Or.inl ⟨by rfl, ?_⟩) g2 ?_
                          case refine_2 => (intro w hSw; (try dsimp only at hSw); obtain ⟨k0, k1, k2⟩ := hSw.m.cells; obtain ⟨n0, n1, n2⟩ := hSw.c.m.cells; go_simp; try (with_reducible rfl))
                          (try simp only [gs])
                          refine wpAnyH_take (i := 23) (v := ?_) rfl (by kernel_rfl) (by kernel_rfl) (by kernel_rfl) (fun _ _ _ h => h) (Or.inl ⟨by rfl, ?_⟩) g2 ?_
                          case refine_2 => (intro w hSw; (try dsimp only at hSw); obtain ⟨k0, k1, k2⟩ := hSw.m.cells; obtain ⟨n0, n1, n2⟩ := hSw.c.m.cells; go_simp; try (with_reducible rfl))
                          (try simp only [gs])
                          refine wpAnyH_take (i := 24) (v := ?_) rfl (by kernel_rfl) (by kernel_rfl) (by kernel_rfl) (fun _ _ _ h => h) (Or.inl ⟨by rfl, ?_⟩) g2 ?_
                          case refine_2 => (intro w hSw; (try dsimp only at hSw); obtain ⟨k0, k1, k2⟩ := hSw.m.cells; obtain ⟨n0, n1, n2⟩ := hSw.c.m.cells; go_simp; try (with_reducible rfl))
                          (try simp only [gs])
                          refine wpAnyH_take (i := 25) (v := .bool true) rfl (by kernel_rfl) (by kernel_rfl) (by kernel_rfl) (fun _ _ _ h => h) (Or.inl ⟨by rfl, ?_⟩) g2 ?_
                          case refine_1 => (intro w hSw; (try dsimp only at hSw); obtain ⟨k0, k1, k2⟩ := hSw.m.cells; obtain ⟨n0, n1, n2⟩ := hSw.c.m.cells; go_simp; first | done | rfl | exact hwl)
                          (try simp only [gs])
                          refine wpAnyH_take (i := 26) (v := ?_) rfl (by kernel_rfl) (by kernel_rfl) (by kernel_rfl) (fun _ _ _ h => h) (Or.inl ⟨by rfl, ?_⟩) g2 ?_
                          case refine_2 => (intro w hSw; (try dsimp only at hSw); obtain ⟨k0, k1, k2⟩ := hSw.m.cells; obtain ⟨n0, n1, n2⟩ := hSw.c.m.cells; go_simp; try (with_reducible rfl))
                          (try simp only [gs])
                          refine wpAnyH_take (i := 27) (v := ?_) rfl (by kernel_rfl) (by kernel_rfl) (by kernel_rfl) (fun _ _ _ h => h) (Or.inl ⟨by rfl, ?_⟩) g2 ?_
                          case refine_2 => (intro w hSw; (try dsimp only at hSw); obtain ⟨k0, k1, k2⟩ := hSw.m.cells; obtain ⟨n0, n1, n2⟩ := hSw.c.m.cells; go_simp; try (with_reducible rfl))
                          (try simp only [gs])
                          refine wpAnyH_take (i := 28) (v := ?_) rfl (by kernel_rfl) (by kernel_rfl) (by kernel_rfl) (fun _ _ _ h => h) (Or.inl ⟨by rfl, ?_⟩) g2 ?_
                          case refine_2 => (intro w hSw; (try dsimp only at hSw); obtain ⟨k0, k1, k2⟩ := hSw.m.cells; obtain ⟨n0, n1, n2⟩ := hSw.c.m.cells; go_simp; try (with_reducible rfl))
                          (try simp only [gs])
                          refine wpAnyH_take (i := 29) (v := undef) rfl (by kernel_rfl) (by kernel_rfl) (by kernel_rfl) (fun _ _ _ h => h) (Or.inr ⟨by rfl, rfl⟩) g2 ?_
                          (try simp only [gs])
                          refine wpAnyH_take (i := 30) (v := undef) rfl (by kernel_rfl) (by kernel_rfl) (by kernel_rfl) (fun _ _ _ h => h) (Or.inr ⟨by rfl, rfl⟩) g2 ?_
                          (try simp only [gs])
                          refine wpAnyH_take (i := 31) (v := undef) rfl (by kernel_rfl) (by kernel_rfl) (by kernel_rfl) (fun _ _ _ h => h) (Or.inr ⟨by rfl, rfl⟩) g2 ?_
                          (try simp only [gs])
                          refine wpAnyH_take (i := 32) (v := undef) rfl (by kernel_rfl) (by kernel_rfl) (by kernel_rfl) (fun _ _ _ h => h) (Or.inr ⟨by rfl, rfl⟩) g2 ?_
                          (try simp only [gs])
                          refine wpAnyH_take (i := 33) (v := undef) rfl (by kernel_rfl) (by kernel_rfl) (by kernel_rfl) (fun _ _ _ h => h) (Or.inr ⟨by rfl, rfl⟩) g2 ?_
                          (try simp only [gs])
                          refine wpAnyH_take (i := 34) (v := undef) rfl (by kernel_rfl) (by kernel_rfl) (by kernel_rfl) (fun _ _ _ h => h) (Or.inr ⟨by rfl, rfl⟩) g2 ?_
                          (try simp only [gs])
                          refine wpAnyH_take (i := 35) (v := undef) rfl (by kernel_rfl) (by kernel_rfl) (by kernel_rfl) (fun _ _ _ h => h) (Or.inr ⟨by rfl, rfl⟩) g2 ?_
                          (try simp only [gs])
                          refine wpAnyH_take (i := 36) (v := undef) rfl (by kernel_rfl) (by kernel_rfl) (by kernel_rfl) (fun _ _ _ h => h) (Or.inr ⟨by rfl, rfl⟩) g2 ?_
                          (try simp only [gs])
                          refine wpAnyH_take (i := 37) (v := undef) rfl (by kernel_rfl) (by kernel_rfl) (by kernel_rfl) (fun _ _ _ h => h) (Or.inr ⟨by rfl, rfl⟩) g2 ?_
                          (try simp only [gs])
                          refine wpAnyH_take (i := 38) (v := ?_) rfl (by kernel_rfl) (by kernel_rfl) (by kernel_rfl) (fun _ _ _ h => h) (Or.inl ⟨by rfl, ?_⟩) g2 ?_
                          case refine_2 => (intro w hSw; (try dsimp only at hSw); obtain ⟨k0, k1, k2⟩ := hSw.m.cells; obtain ⟨n0, n1, n2⟩ := hSw.c.m.cells; go_simp; try (with_reducible rfl))
                          (try simp only [gs])
                          refine wpAnyH_done (by kernel_rfl) ?_ _
                          refine NoPanic.normal ?_
                          have HBT : badDoc Y 0 x.lv KK = true := by
                            have e : Y.ps.length < 3 := by have := of_decide_eq_true hs; omega
                            simp [badDoc, hz1, e]
                          have HF : Hid (RES = false) := (show _ = _ by rw [HGO2.out, HBT]; rfl)
                          have HBL : Hid (Below w.heap.size w _) := g2.c.bel
                          clear HGO2 M4 HBT
                          go_wp2_with fail
                          go_ret
                          exact ⟨by rw [HF.out]; rfl, HBL.out⟩
                          -- END 4
                        | false =>
                          have HBD : Hid (badDoc Y 0 x.lv KK = false) := (show _ = _ by
                            have e : ¬ Y.ps.length < 3 := by have := of_decide_eq_false hs; omega
                            have e2 : ¬ 0 < Y.lv := by have := HZ.out; omega
                            have e3 : (Y.lv == x.lv - 1) = true := by simpa using HLY.out
                            simp [badDoc, HF1.out, e3, e, e2]
                            try omega)
                          -- BEGIN 5
                          refine wp_region_noPanic ?_
                          refine wp_region_held_drew (S := (fun y => DY lim v l w y x (.slice ap j cp) (.slice (some ⟨ga, oa, none⟩) Q cq) top d E d2 Y (.slice yp Y.ps.length ycp) (.slice yq Y.ks.length ycq))) (by kernel_rfl) (M4.called ⟨rfl, rfl, rfl, Nat.le_refl _, fun _ _ => rfl⟩) (fun hHeld => ?_)
                          refine wpAnyH_take (i := 0) (v := ?_) rfl (by kernel_rfl) (by kernel_rfl) (by kernel_rfl) (fun _ _ _ h => h) (Or.inl ⟨by rfl, ?_⟩) hHeld ?_
                          case refine_2 => (intro w hSw; (try dsimp only at hSw); obtain ⟨k0, k1, k2⟩ := hSw.m.cells; obtain ⟨n0, n1, n2⟩ := hSw.c.m.cells; go_simp; try (with_reducible rfl))
                          (try simp only [gs])
                          refine wpAnyH_take (i := 1) (v := ?_) rfl (by kernel_rfl) (by kernel_rfl) (by kernel_rfl) (fun _ _ _ h => h) (Or.inl ⟨by rfl, ?_⟩) hHeld ?_
                          case refine_2 => (intro w hSw; (try dsimp only at hSw); obtain ⟨k0, k1, k2⟩ := hSw.m.cells; obtain ⟨n0, n1, n2⟩ := hSw.c.m.cells; go_simp; try (with_reducible rfl))
                          (try simp only [gs])
                          refine wpAnyH_take (i := 2) (v := ?_) rfl (by kernel_rfl) (by kernel_rfl) (by kernel_rfl) (fun _ _ _ h => h) (Or.inl ⟨by rfl, ?_⟩) hHeld ?_
                          case refine_2 => (intro w hSw; (try dsimp only at hSw); obtain ⟨k0, k1, k2⟩ := hSw.m.cells; obtain ⟨n0, n1, n2⟩ := hSw.c.m.cells; go_simp; try (with_reducible rfl))
                          (try simp only [gs])
                          refine wpAnyH_take (i := 3) (v := ?_) rfl (by kernel_rfl) (by kernel_rfl) (by kernel_rfl) (fun _ _ _ h => h) (Or.inl ⟨by rfl, ?_⟩) hHeld ?_
                          case refine_2 => (intro w hSw; (try dsimp only at hSw); obtain ⟨k0, k1, k2⟩ := hSw.m.cells; obtain ⟨n0, n1, n2⟩ := hSw.c.m.cells; go_simp; try (with_reducible rfl))
                          (try simp only [gs])
                          refine wpAnyH_take (i := 4) (v := ?_) rfl (by kernel_rfl) (by kernel_rfl) (by kernel_rfl) (fun _ _ _ h => h) (Or.inl ⟨by rfl, ?_⟩) hHeld ?_
                          case refine_2 => (intro w hSw; (try dsimp only at hSw); obtain ⟨k0, k1, k2⟩ := hSw.m.cells; obtain ⟨n0, n1, n2⟩ := hSw.c.m.cells; go_simp; try (with_reducible rfl))
                          (try simp only [gs])
                          refine wpAnyH_take (i := 5) (v := ?_) rfl (by kernel_rfl) (by kernel_rfl) (by kernel_rfl) (fun _ _ _ h => h) (Or.inl ⟨by rfl, ?_⟩) hHeld ?_
                          case refine_2 => (intro w hSw; (try dsimp only at hSw); obtain ⟨k0, k1, k2⟩ := hSw.m.cells; obtain ⟨n0, n1, n2⟩ := hSw.c.m.cells; go_simp; try (with_reducible rfl))
                          (try simp only [gs])
                          refine wpAnyH_take (i := 6) (v := ?_) rfl (by kernel_rfl) (by kernel_rfl) (by kernel_rfl) (fun _ _ _ h => h) (Or.inl ⟨by rfl, ?_⟩) hHeld ?_
                          case refine_2 => (intro w hSw; (try dsimp only at hSw); obtain ⟨k0, k1, k2⟩ := hSw.m.cells; obtain ⟨n0, n1, n2⟩ := hSw.c.m.cells; go_simp; try (with_reducible rfl))
                          (try simp only [gs])
                          refine wpAnyH_take (i := 7) (v := .int .i64 (x.lv - 1)) rfl (by kernel_rfl) (by kernel_rfl) (by kernel_rfl) (fun _ _ _ h => h) (Or.inl ⟨by rfl, ?_⟩) hHeld ?_
                          case refine_1 => (intro w hSw; (try dsimp only at hSw); obtain ⟨k0, k1, k2⟩ := hSw.m.cells; obtain ⟨n0, n1, n2⟩ := hSw.c.m.cells; go_simp; first | done | rfl | exact hwl)
                          (try simp only [gs])
                          refine wpAnyH_take (i := 8) (v := .bool false) rfl (by kernel_rfl) (by kernel_rfl) (by kernel_rfl) (fun _ _ _ h => h) (Or.inl ⟨by rfl, ?_⟩) hHeld ?_
                          case refine_1 => (intro w hSw; (try dsimp only at hSw); obtain ⟨k0, k1, k2⟩ := hSw.m.cells; obtain ⟨n0, n1, n2⟩ := hSw.c.m.cells; go_simp; first | done | rfl | exact hwl)
                          (try simp only [gs])
                          refine wpAnyH_take (i := 9) (v := ?_) rfl (by kernel_rfl) (by kernel_rfl) (by kernel_rfl) (fun _ _ _ h => h) (Or.inl ⟨by rfl, ?_⟩) hHeld ?_
                          case refine_2 => (intro w hSw; (try dsimp only at hSw); obtain ⟨k0, k1, k2⟩ := hSw.m.cells; obtain ⟨n0, n1, n2⟩ := hSw.c.m.cells; go_simp; try (with_reducible rfl))
                          (try simp only [gs])
                          refine wpAnyH_take (i := 10) (v := ?_) rfl (by kernel_rfl) (by kernel_rfl) (by kernel_rfl) (fun _ _ _ h => h) (Or.inl ⟨by rfl, ?_⟩) hHeld ?_
                          case refine_2 => (intro w hSw; (try dsimp only at hSw); obtain ⟨k0, k1, k2⟩ := hSw.m.cells; obtain ⟨n0, n1, n2⟩ := hSw.c.m.cells; go_simp; try (with_reducible rfl))
                          (try simp only [gs])
                          refine wpAnyH_take (i := 11) rfl (by kernel_rfl) (by kernel_rfl) (by kernel_rfl) (fun _ _ _ h => h) (yieldsIf_load_mid (by rfl) _ _ rfl _ _ rfl _ _ (fun _ h => h.m.range) Tryz.underlying60 rfl Tryz.node_info) hHeld ?_
                          (try simp only [gs])
                          refine wpAnyH_take (i := 13) (v := ?_) rfl (by kernel_rfl) (by kernel_rfl) (by kernel_rfl) (fun _ _ _ h => h) (Or.inl ⟨by rfl, ?_⟩) hHeld ?_
                          case refine_2 => (intro w hSw; (try dsimp only at hSw); obtain ⟨k0, k1, k2⟩ := hSw.m.cells; obtain ⟨n0, n1, n2⟩ := hSw.c.m.cells; go_simp; try (with_reducible rfl))
                          (try simp only [gs])
                          refine wpAnyH_take (i := 14) rfl (by kernel_rfl) (by kernel_rfl) (by kernel_rfl) (fun _ _ _ h => h) (yieldsIf_load_mid (by rfl) _ _ rfl _ _ rfl _ _ (fun _ h => (HEK.out ▸ range_key h.k.range : World.rangeAt _ d 0 (bc KK))) Tryz.underlying25 rfl (by rw [bc_length]; exact HKI.out _ HKL.out)) hHeld ?_
                          (try simp only [gs])
                          generalize x4.drew = y0 at *
                          refine wpAnyH_ready (rs := [12]) (by kernel_rfl) (by simp) (AllReadyH.cons rfl (fun K hK => ?_) AllReadyH.nil)
                          rw [if_pos (by rfl)]
                          (try simp only [gs])
                          go_simp
                          refine (HFC.out _ hHeld.q).mono ?_
                          rintro e y2 ⟨rfl, b2⟩
                          refine hK.out _ _ (hHeld.called b2) (fun g2 => ?_)
                          clear hK K
                          (try simp only [gs])
                          refine wpAnyH_take (i := 15) (v := .bool false) rfl (by kernel_rfl) (by kernel_rfl) (by kernel_rfl) (fun _ _ _ h => h) (Or.inl ⟨by rfl, ?_⟩) g2 ?_
                          case refine_1 => (intro w hSw; (try dsimp only at hSw); have q := eq_key w (firstN Y) KK HFL.out HKL.out; rw [HF1.out] at q; go_simp; first | done | rfl | exact hwl)
                          (try simp only [gs])
                          refine wpAnyH_take (i := 16) (v := ?_) rfl (by kernel_rfl) (by kernel_rfl) (by kernel_rfl) (fun _ _ _ h => h) (Or.inl ⟨by rfl, ?_⟩) g2 ?_
                          case refine_2 => (intro w hSw; (try dsimp only at hSw); obtain ⟨k0, k1, k2⟩ := hSw.m.cells; obtain ⟨n0, n1, n2⟩ := hSw.c.m.cells; go_simp; try (with_reducible rfl))
                          (try simp only [gs])
                          refine wpAnyH_take (i := 17) (v := ?_) rfl (by kernel_rfl) (by kernel_rfl) (by kernel_rfl) (fun _ _ _ h => h) (Or.inl ⟨by rfl, ?_⟩) g2 ?_
                          case refine_2 => (intro w hSw; (try dsimp only at hSw); obtain ⟨k0, k1, k2⟩ := hSw.m.cells; obtain ⟨n0, n1, n2⟩ := hSw.c.m.cells; go_simp; try (with_reducible rfl))
                          (try simp only [gs])
                          refine wpAnyH_take (i := 18) (v := ?_) rfl (by kernel_rfl) (by kernel_rfl) (by kernel_rfl) (fun _ _ _ h => h) (Or.inl ⟨by rfl, ?_⟩) g2 ?_
                          case refine_2 => (intro w hSw; (try dsimp only at hSw); obtain ⟨k0, k1, k2⟩ := hSw.m.cells; obtain ⟨n0, n1, n2⟩ := hSw.c.m.cells; go_simp; try (with_reducible rfl))
                          (try simp only [gs])
                          refine wpAnyH_take (i := 19) (v := ?_) rfl (by kernel_rfl) (by kernel_rfl) (by kernel_rfl) (fun _ _ _ h => h) (Or.inl ⟨by rfl, ?_⟩) g2 ?_
                          case refine_2 => (intro w hSw; (try dsimp only at hSw); obtain ⟨k0, k1, k2⟩ := hSw.m.cells; obtain ⟨n0, n1, n2⟩ := hSw.c.m.cells; go_simp; try (with_reducible rfl))
                          (try simp only [gs])
                          refine wpAnyH_take (i := 20) (v := .bool true) rfl (by kernel_rfl) (by kernel_rfl) (by kernel_rfl) (fun _ _ _ h => h) (Or.inl ⟨by rfl, ?_⟩) g2 ?_
                          case refine_1 => (intro w hSw; (try dsimp only at hSw); obtain ⟨k0, k1, k2⟩ := hSw.m.cells; obtain ⟨n0, n1, n2⟩ := hSw.c.m.cells; go_simp; first | done | rfl | exact hwl)
                          (try simp only [gs])
                          refine wpAnyH_take (i := 21) (v := ?_) rfl (by kernel_rfl) (by kernel_rfl) (by kernel_rfl) (fun _ _ _ h => h) (Or.inl ⟨by rfl, ?_⟩) g2 ?_
                          case refine_2 => (intro w hSw; (try dsimp only at hSw); obtain ⟨k0, k1, k2⟩ := hSw.m.cells; obtain ⟨n0, n1, n2⟩ := hSw.c.m.cells; go_simp; try (with_reducible rfl))
                          (try simp only [gs])
                          refine wpAnyH_take (i := 22) (v := ?_) rfl (by kernel_rfl) (by kernel_rfl) (by kernel_rfl) (fun _ _ _ h => h) (Or.inl ⟨by rfl, ?_⟩) g2 ?_
                          case refine_2 => (intro w hSw; (try dsimp only at hSw); obtain ⟨k0, k1, k2⟩ := hSw.m.cells; obtain ⟨n0, n1, n2⟩ := hSw.c.m.cells; go_simp; try (with_reducible rfl))
                          (try simp only [gs])
                          refine wpAnyH_take (i := 23) (v := ?_) rfl (by kernel_rfl) (by kernel_rfl) (by kernel_rfl) (fun _ _ _ h => h) (Or.inl ⟨by rfl, ?_⟩) g2 ?_
                          case refine_2 => (intro w hSw; (try dsimp only at hSw); obtain ⟨k0, k1, k2⟩ := hSw.m.cells; obtain ⟨n0, n1, n2⟩ := hSw.c.m.cells; go_simp; try (with_reducible rfl))
                          (try simp only [gs])
                          refine wpAnyH_take (i := 24) (v := ?_) rfl (by kernel_rfl) (by kernel_rfl) (by kernel_rfl) (fun _ _ _ h => h) (Or.inl ⟨by rfl, ?_⟩) g2 ?_
                          case refine_2 => (intro w hSw; (try dsimp only at hSw); obtain ⟨k0, k1, k2⟩ := hSw.m.cells; obtain ⟨n0, n1, n2⟩ := hSw.c.m.cells; go_simp; try (with_reducible rfl))
                          (try simp only [gs])
                          refine wpAnyH_take (i := 25) (v := .bool false) rfl (by kernel_rfl) (by kernel_rfl) (by kernel_rfl) (fun _ _ _ h => h) (Or.inl ⟨by rfl, ?_⟩) g2 ?_
                          case refine_1 => (intro w hSw; (try dsimp only at hSw); obtain ⟨k0, k1, k2⟩ := hSw.m.cells; obtain ⟨n0, n1, n2⟩ := hSw.c.m.cells; go_simp; first | done | rfl | exact hwl)
                          (try simp only [gs])
                          refine wpAnyH_take (i := 26) (v := ?_) rfl (by kernel_rfl) (by kernel_rfl) (by kernel_rfl) (fun _ _ _ h => h) (Or.inl ⟨by rfl, ?_⟩) g2 ?_
                          case refine_2 => (intro w hSw; (try dsimp only at hSw); obtain ⟨k0, k1, k2⟩ := hSw.m.cells; obtain ⟨n0, n1, n2⟩ := hSw.c.m.cells; go_simp; try (with_reducible rfl))
                          (try simp only [gs])
                          refine wpAnyH_take (i := 27) (v := ?_) rfl (by kernel_rfl) (by kernel_rfl) (by kernel_rfl) (fun _ _ _ h => h) (Or.inl ⟨by rfl, ?_⟩) g2 ?_
                          case refine_2 => (intro w hSw; (try dsimp only at hSw); obtain ⟨k0, k1, k2⟩ := hSw.m.cells; obtain ⟨n0, n1, n2⟩ := hSw.c.m.cells; go_simp; try (with_reducible rfl))
                          (try simp only [gs])
                          refine wpAnyH_take (i := 28) (v := ?_) rfl (by kernel_rfl) (by kernel_rfl) (by kernel_rfl) (fun _ _ _ h => h) (Or.inl ⟨by rfl, ?_⟩) g2 ?_
                          case refine_2 => (intro w hSw; (try dsimp only at hSw); obtain ⟨k0, k1, k2⟩ := hSw.m.cells; obtain ⟨n0, n1, n2⟩ := hSw.c.m.cells; go_simp; try (with_reducible rfl))
                          (try simp only [gs])
                          refine wpAnyH_take (i := 29) (v := ?_) rfl (by kernel_rfl) (by kernel_rfl) (by kernel_rfl) (fun _ _ _ h => h) (Or.inl ⟨by rfl, ?_⟩) g2 ?_
                          case refine_2 => (intro w hSw; (try dsimp only at hSw); obtain ⟨k0, k1, k2⟩ := hSw.m.cells; obtain ⟨n0, n1, n2⟩ := hSw.c.m.cells; go_simp; try (with_reducible rfl))
                          (try simp only [gs])
                          refine wpAnyH_take (i := 30) (v := ?_) rfl (by kernel_rfl) (by kernel_rfl) (by kernel_rfl) (fun _ _ _ h => h) (Or.inl ⟨by rfl, ?_⟩) g2 ?_
                          case refine_2 => (intro w hSw; (try dsimp only at hSw); obtain ⟨k0, k1, k2⟩ := hSw.m.cells; obtain ⟨n0, n1, n2⟩ := hSw.c.m.cells; go_simp; try (with_reducible rfl))
                          (try simp only [gs])
                          refine wpAnyH_take (i := 31) (v := .bool false) rfl (by kernel_rfl) (by kernel_rfl) (by kernel_rfl) (fun _ _ _ h => h) (Or.inl ⟨by rfl, ?_⟩) g2 ?_
                          case refine_1 => (intro w hSw; (try dsimp only at hSw); obtain ⟨k0, k1, k2⟩ := hSw.m.cells; obtain ⟨n0, n1, n2⟩ := hSw.c.m.cells; go_simp; first | done | rfl | exact hwl)
                          (try simp only [gs])
                          refine wpAnyH_take (i := 32) (v := ?_) rfl (by kernel_rfl) (by kernel_rfl) (by kernel_rfl) (fun _ _ _ h => h) (Or.inl ⟨by rfl, ?_⟩) g2 ?_
                          case refine_2 => (intro w hSw; (try dsimp only at hSw); obtain ⟨k0, k1, k2⟩ := hSw.m.cells; obtain ⟨n0, n1, n2⟩ := hSw.c.m.cells; go_simp; try (with_reducible rfl))
                          (try simp only [gs])
                          refine wpAnyH_take (i := 33) (v := undef) rfl (by kernel_rfl) (by kernel_rfl) (by kernel_rfl) (fun _ _ _ h => h) (Or.inr ⟨by rfl, rfl⟩) g2 ?_
                          (try simp only [gs])
                          refine wpAnyH_take (i := 34) (v := undef) rfl (by kernel_rfl) (by kernel_rfl) (by kernel_rfl) (fun _ _ _ h => h) (Or.inr ⟨by rfl, rfl⟩) g2 ?_
                          (try simp only [gs])
                          refine wpAnyH_take (i := 35) (v := undef) rfl (by kernel_rfl) (by kernel_rfl) (by kernel_rfl) (fun _ _ _ h => h) (Or.inr ⟨by rfl, rfl⟩) g2 ?_
                          (try simp only [gs])
                          refine wpAnyH_take (i := 36) (v := undef) rfl (by kernel_rfl) (by kernel_rfl) (by kernel_rfl) (fun _ _ _ h => h) (Or.inr ⟨by rfl, rfl⟩) g2 ?_
                          (try simp only [gs])
                          refine wpAnyH_take (i := 37) (v := ?_) rfl (by kernel_rfl) (by kernel_rfl) (by kernel_rfl) (fun _ _ _ h => h) (Or.inl ⟨by rfl, ?_⟩) g2 ?_
                          case refine_2 => (intro w hSw; (try dsimp only at hSw); obtain ⟨k0, k1, k2⟩ := hSw.m.cells; obtain ⟨n0, n1, n2⟩ := hSw.c.m.cells; go_simp; try (with_reducible rfl))
                          (try simp only [gs])
                          refine wpAnyH_take (i := 38) (v := ?_) rfl (by kernel_rfl) (by kernel_rfl) (by kernel_rfl) (fun _ _ _ h => h) (Or.inl ⟨by rfl, ?_⟩) g2 ?_
                          case refine_2 => (intro w hSw; (try dsimp only at hSw); obtain ⟨k0, k1, k2⟩ := hSw.m.cells; obtain ⟨n0, n1, n2⟩ := hSw.c.m.cells; go_simp; try (with_reducible rfl))
                          (try simp only [gs])
                          refine wpAnyH_done (by kernel_rfl) ?_ _
                          refine NoPanic.normal ?_
                          clear HZ hz1 hz2 hs hl HF1 hwl
                          -- BEGIN T5
                          have HGO3 : Hid (RES = (rec Y TT II && docGo (bagG l) rec x top _ m)) := (show _ = _ by rw [HGO2.out, HBD.out]; rfl)
                          have HG2 := g2
                          clear HGO2 M4 hHeld b2 HBD g2
                          go_upto_region 22 with (first
                            | (refine load_key _ rfl (w.heap.size + 1) rfl rfl top HG2.c.t ?_)
                            | (refine store_key rfl _ _ rfl y2.heap.size rfl top rfl HT.out (zs 24) (zero_has y2 _ rfl) ?_; intro x5 hk5 tx5 sx5))
                          have BS5 := step_below (Below.refl _ y2) _ tx5
                          have M5 := HG2.called BS5
                          obtain ⟨c0, c1, c2⟩ := M5.c.m.cells
                          have hws : wrap64 ((t : Int) + 1) = ((t + 1 : Nat) : Int) := by unfold wrap64; omega
                          by_cases h1 : t + 1 < Q
                          · have hJ1 : (t : Int) + 1 < (Q : Int) := by omega
                            have hJ3 : ((t : Int) + 1).toNat = t + 1 := by omega
                            have hJ4 : (0 : Int) ≤ (t : Int) + 1 := by omega
                            have HGO4 : Hid (RES = (rec Y NK true && docGo (bagG l) rec x top _ m)) := (show _ = _ by rw [HGO3.out, HTO.out.1, HTO.out.2, if_pos h1, if_pos h1])
                            have HNL := (HNK.out h1).1
                            clear HGO3 tx5 sx5
                            go_upto_region 25 with (first
                              | (refine load_part _ rfl ga (oa + (t + 1) * 25) rfl rfl NK HNL ((HNK.out h1).2 _ M5.c) ?_)
                              | (refine store_key rfl _ _ rfl y2.heap.size rfl NK rfl HNL top hk5 ?_; intro x6 hk6 tx6 sx6))
                            have M6 := HG2.called (below_touched BS5 tx6 (Nat.le_refl _) (Nat.le_refl _))
                            clear M5 hk5 tx6 sx6 BS5 HG2 c0 c1 c2
                            obtain ⟨c0, c1, c2⟩ := M6.c.m.cells
                            have hrc := HREC.out x6 Y _ _ NK true M6.c.g M6.q HNL HLY.out hlI1
                            generalize rec Y NK true = RB at *
                            go_upto_region 26 with (first
                              | (refine load_node _ rfl d2 rfl rfl Y _ _ M6.m ?_)
                              | (refine load_key _ rfl y2.heap.size rfl rfl NK hk6 ?_)
                              | (go_at_call 42; refine hrc.mono ?_; rintro e w7 ⟨rfl, b7⟩))
                            have HM7 : Hid (DR lim v l w w7 x (.slice ap j cp) (.slice (some ⟨ga, oa, none⟩) Q cq) top) := (M6.called b7).c
                            clear M6 hk6 hrc b7 c0 c1 c2
                            cases RB with
                            | false =>
                              have HF : Hid (RES = false) := (show _ = _ by rw [HGO4.out]; rfl)
                              go_wp2_with fail
                              go_ret
                              exact ⟨by rw [HF.out]; rfl, HM7.out.bel⟩
                            | true =>
                              go_wp2_with fail
                              go_roundg m
                              case measure => omega
                              exact ⟨t + 1, by omega, by simp, HM7.out, (show _ = _ by rw [HGO4.out]; rfl)⟩
                          · have hJ1 : decide ((t : Int) + 1 < (Q : Int)) = false := decide_eq_false (by omega)
                            have HGO4 : Hid (RES = (rec Y top _ && docGo (bagG l) rec x top _ m)) := (show _ = _ by rw [HGO3.out, HTO.out.1, HTO.out.2, if_neg h1, if_neg h1])
                            clear HGO3 tx5 sx5 BS5 HG2
                            have hrc := HREC.out x5 Y _ _ top true M5.c.g M5.q HT.out HLY.out hlI1
                            generalize rec Y top true = RB at *
                            go_upto_region 26 with (first
                              | (refine load_node _ rfl d2 rfl rfl Y _ _ M5.m ?_)
                              | (refine load_key _ rfl y2.heap.size rfl rfl top hk5 ?_)
                              | (go_at_call 42; refine hrc.mono ?_; rintro e w7 ⟨rfl, b7⟩))
                            have HM7 : Hid (DR lim v l w w7 x (.slice ap j cp) (.slice (some ⟨ga, oa, none⟩) Q cq) top) := (M5.called b7).c
                            clear M5 hk5 hrc b7 c0 c1 c2
                            cases RB with
                            | false =>
                              have HF : Hid (RES = false) := (show _ = _ by rw [HGO4.out]; rfl)
                              go_wp2_with fail
                              go_ret
                              exact ⟨by rw [HF.out]; rfl, HM7.out.bel⟩
                            | true =>
                              go_wp2_with fail
                              go_roundg m
                              case measure => omega
                              exact ⟨t + 1, by omega, by simp, HM7.out, (show _ = _ by rw [HGO4.out]; rfl)⟩
                          -- END T5
                          -- END 5
                      · have hz1 : (Y.lv == 0) = false := by simpa using hz
                        have hz2 : decide (0 < Y.lv) = true := decide_eq_true (by have := HLY.out; omega)
                        have HZ : Hid (¬ Y.lv = 0) := hz
                        clear hz
                        cases hs : decide ((Y.ks.length : Int) < 9) with
                        | true =>
                          -- BEGIN 6
                          refine wp_region_noPanic ?_
                          refine wp_region_held_drew (S := (fun y => DY lim v l w y x (.slice ap j cp) (.slice (some ⟨ga, oa, none⟩) Q cq) top d E d2 Y (.slice yp Y.ps.length ycp) (.slice yq Y.ks.length ycq))) (by kernel_rfl) (M4.called ⟨rfl, rfl, rfl, Nat.le_refl _, fun _ _ => rfl⟩) (fun hHeld => ?_)
                          refine wpAnyH_take (i := 0) (v := ?_) rfl (by kernel_rfl) (by kernel_rfl) (by kernel_rfl) (fun _ _ _ h => h) (Or.inl ⟨by rfl, ?_⟩) hHeld ?_
                          case refine_2 => (intro w hSw; (try dsimp only at hSw); obtain ⟨k0, k1, k2⟩ := hSw.m.cells; obtain ⟨n0, n1, n2⟩ := hSw.c.m.cells; go_simp; try (with_reducible rfl))
                          (try simp only [gs])
                          refine wpAnyH_take (i := 1) (v := ?_) rfl (by kernel_rfl) (by kernel_rfl) (by kernel_rfl) (fun _ _ _ h => h) (Or.inl ⟨by rfl, ?_⟩) hHeld ?_
                          case refine_2 => (intro w hSw; (try dsimp only at hSw); obtain ⟨k0, k1, k2⟩ := hSw.m.cells; obtain ⟨n0, n1, n2⟩ := hSw.c.m.cells; go_simp; try (with_reducible rfl))
                          (try simp only [gs])
                          refine wpAnyH_take (i := 2) (v := ?_) rfl (by kernel_rfl) (by kernel_rfl) (by kernel_rfl) (fun _ _ _ h => h) (Or.inl ⟨by rfl, ?_⟩) hHeld ?_
                          case refine_2 => (intro w hSw; (try dsimp only at hSw); obtain ⟨k0, k1, k2⟩ := hSw.m.cells; obtain ⟨n0, n1, n2⟩ := hSw.c.m.cells; go_simp; try (with_reducible rfl))
                          (try simp only [gs])
                          refine wpAnyH_take (i := 3) (v := ?_) rfl (by kernel_rfl) (by kernel_rfl) (by kernel_rfl) (fun _ _ _ h => h) (Or.inl ⟨by rfl, ?_⟩) hHeld ?_
                          case refine_2 => (intro w hSw; (try dsimp only at hSw); obtain ⟨k0, k1, k2⟩ := hSw.m.cells; obtain ⟨n0, n1, n2⟩ := hSw.c.m.cells; go_simp; try (with_reducible rfl))
                          (try simp only [gs])
                          refine wpAnyH_take (i := 4) (v := ?_) rfl (by kernel_rfl) (by kernel_rfl) (by kernel_rfl) (fun _ _ _ h => h) (Or.inl ⟨by rfl, ?_⟩) hHeld ?_
                          case refine_2 => (intro w hSw; (try dsimp only at hSw); obtain ⟨k0, k1, k2⟩ := hSw.m.cells; obtain ⟨n0, n1, n2⟩ := hSw.c.m.cells; go_simp; try (with_reducible rfl))
                          (try simp only [gs])
                          refine wpAnyH_take (i := 5) (v := ?_) rfl (by kernel_rfl) (by kernel_rfl) (by kernel_rfl) (fun _ _ _ h => h) (Or.inl ⟨by rfl, ?_⟩) hHeld ?_
                          case refine_2 => (intro w hSw; (try dsimp only at hSw); obtain ⟨k0, k1, k2⟩ := hSw.m.cells; obtain ⟨n0, n1, n2⟩ := hSw.c.m.cells; go_simp; try (with_reducible rfl))
                          (try simp only [gs])
                          refine wpAnyH_take (i := 6) (v := ?_) rfl (by kernel_rfl) (by kernel_rfl) (by kernel_rfl) (fun _ _ _ h => h) (Or.inl ⟨by rfl, ?_⟩) hHeld ?_
                          case refine_2 => (intro w hSw; (try dsimp only at hSw); obtain ⟨k0, k1, k2⟩ := hSw.m.cells; obtain ⟨n0, n1, n2⟩ := hSw.c.m.cells; go_simp; try (with_reducible rfl))
                          (try simp only [gs])
                          refine wpAnyH_take (i := 7) (v := .int .i64 (x.lv - 1)) rfl (by kernel_rfl) (by kernel_rfl) (by kernel_rfl) (fun _ _ _ h => h) (Or.inl ⟨by rfl, ?_⟩) hHeld ?_
                          case refine_1 => (intro w hSw; (try dsimp only at hSw); obtain ⟨k0, k1, k2⟩ := hSw.m.cells; obtain ⟨n0, n1, n2⟩ := hSw.c.m.cells; go_simp; first | done | rfl | exact hwl)
                          (try simp only [gs])
                          refine wpAnyH_take (i := 8) (v := .bool false) rfl (by kernel_rfl) (by kernel_rfl) (by kernel_rfl) (fun _ _ _ h => h) (Or.inl ⟨by rfl, ?_⟩) hHeld ?_
                          case refine_1 => (intro w hSw; (try dsimp only at hSw); obtain ⟨k0, k1, k2⟩ := hSw.m.cells; obtain ⟨n0, n1, n2⟩ := hSw.c.m.cells; go_simp; first | done | rfl | exact hwl)
                          (try simp only [gs])
                          refine wpAnyH_take (i := 9) (v := ?_) rfl (by kernel_rfl) (by kernel_rfl) (by kernel_rfl) (fun _ _ _ h => h) (Or.inl ⟨by rfl, ?_⟩) hHeld ?_
                          case refine_2 => (intro w hSw; (try dsimp only at hSw); obtain ⟨k0, k1, k2⟩ := hSw.m.cells; obtain ⟨n0, n1, n2⟩ := hSw.c.m.cells; go_simp; try (with_reducible rfl))
                          (try simp only [gs])
                          refine wpAnyH_take (i := 10) (v := ?_) rfl (by kernel_rfl) (by kernel_rfl) (by kernel_rfl) (fun _ _ _ h => h) (Or.inl ⟨by rfl, ?_⟩) hHeld ?_
                          case refine_2 => (intro w hSw; (try dsimp only at hSw); obtain ⟨k0, k1, k2⟩ := hSw.m.cells; obtain ⟨n0, n1, n2⟩ := hSw.c.m.cells; go_simp; try (with_reducible rfl))
                          (try simp only [gs])
                          refine wpAnyH_take (i := 11) rfl (by kernel_rfl) (by kernel_rfl) (by kernel_rfl) (fun _ _ _ h => h) (yieldsIf_load_mid (by rfl) _ _ rfl _ _ rfl _ _ (fun _ h => h.m.range) Tryz.underlying60 rfl Tryz.node_info) hHeld ?_
                          (try simp only [gs])
                          refine wpAnyH_take (i := 13) (v := ?_) rfl (by kernel_rfl) (by kernel_rfl) (by kernel_rfl) (fun _ _ _ h => h) (Or.inl ⟨by rfl, ?_⟩) hHeld ?_
                          case refine_2 => (intro w hSw; (try dsimp only at hSw); obtain ⟨k0, k1, k2⟩ := hSw.m.cells; obtain ⟨n0, n1, n2⟩ := hSw.c.m.cells; go_simp; try (with_reducible rfl))
                          (try simp only [gs])
                          refine wpAnyH_take (i := 14) rfl (by kernel_rfl) (by kernel_rfl) (by kernel_rfl) (fun _ _ _ h => h) (yieldsIf_load_mid (by rfl) _ _ rfl _ _ rfl _ _ (fun _ h => (HEK.out ▸ range_key h.k.range : World.rangeAt _ d 0 (bc KK))) Tryz.underlying25 rfl (by rw [bc_length]; exact HKI.out _ HKL.out)) hHeld ?_
                          (try simp only [gs])
                          generalize x4.drew = y0 at *
                          refine wpAnyH_ready (rs := [12]) (by kernel_rfl) (by simp) (AllReadyH.cons rfl (fun K hK => ?_) AllReadyH.nil)
                          rw [if_pos (by rfl)]
                          (try simp only [gs])
                          go_simp
                          refine (HFC.out _ hHeld.q).mono ?_
                          rintro e y2 ⟨rfl, b2⟩
                          refine hK.out _ _ (hHeld.called b2) (fun g2 => ?_)
                          clear hK K
                          (try simp only [gs])
                          refine wpAnyH_take (i := 15) (v := .bool false) rfl (by kernel_rfl) (by kernel_rfl) (by kernel_rfl) (fun _ _ _ h => h) (Or.inl ⟨by rfl, ?_⟩) g2 ?_
                          case refine_1 => (intro w hSw; (try dsimp only at hSw); have q := eq_key w (firstN Y) KK HFL.out HKL.out; rw [HF1.out] at q; go_simp; first | done | rfl | exact hwl)
                          (try simp only [gs])
                          refine wpAnyH_take (i := 16) (v := ?_) rfl (by kernel_rfl) (by kernel_rfl) (by kernel_rfl) (fun _ _ _ h => h) (Or.inl ⟨by rfl, ?_⟩) g2 ?_
                          case refine_2 => (intro w hSw; (try dsimp only at hSw); obtain ⟨k0, k1, k2⟩ := hSw.m.cells; obtain ⟨n0, n1, n2⟩ := hSw.c.m.cells; go_simp; try (with_reducible rfl))
                          (try simp only [gs])
                          refine wpAnyH_take (i := 17) (v := ?_) rfl (by kernel_rfl) (by kernel_rfl) (by kernel_rfl) (fun _ _ _ h => h) (Or.inl ⟨by rfl, ?_⟩) g2 ?_
                          case refine_2 => (intro w hSw; (try dsimp only at hSw); obtain ⟨k0, k1, k2⟩ := hSw.m.cells; obtain ⟨n0, n1, n2⟩ := hSw.c.m.cells; go_simp; try (with_reducible rfl))
                          (try simp only [gs])
                          refine wpAnyH_take (i := 18) (v := ?_) rfl (by kernel_rfl) (by kernel_rfl) (by kernel_rfl) (fun _ _ _ h => h) (Or.inl ⟨by rfl, ?_⟩) g2 ?_
                          case refine_2 => (intro w hSw; (try dsimp only at hSw); obtain ⟨k0, k1, k2⟩ := hSw.m.cells; obtain ⟨n0, n1, n2⟩ := hSw.c.m.cells; go_simp; try (with_reducible rfl))
                          (try simp only [gs])
                          refine wpAnyH_take (i := 19) (v := ?_) rfl (by kernel_rfl) (by kernel_rfl) (by kernel_rfl) (fun _ _ _ h => h) (Or.inl ⟨by rfl, ?_⟩) g2 ?_
                          case refine_2 => (intro w hSw; (try dsimp only at hSw); obtain ⟨k0, k1, k2⟩ := hSw.m.cells; obtain ⟨n0, n1, n2⟩ := hSw.c.m.cells; go_simp; try (with_reducible rfl))
                          (try simp only [gs])
                          refine wpAnyH_take (i := 20) (v := .bool false) rfl (by kernel_rfl) (by kernel_rfl) (by kernel_rfl) (fun _ _ _ h => h) (Or.inl ⟨by rfl, ?_⟩) g2 ?_
                          case refine_1 => (intro w hSw; (try dsimp only at hSw); obtain ⟨k0, k1, k2⟩ := hSw.m.cells; obtain ⟨n0, n1, n2⟩ := hSw.c.m.cells; go_simp; first | done | rfl | exact hwl)
                          (try simp only [gs])
                          refine wpAnyH_take (i := 21) (v := ?_) rfl (by kernel_rfl) (by kernel_rfl) (by kernel_rfl) (fun _ _ _ h => h) (Or.inl ⟨by rfl, ?_⟩) g2 ?_
                          case refine_2 => (intro w hSw; (try dsimp only at hSw); obtain ⟨k0, k1, k2⟩ := hSw.m.cells; obtain ⟨n0, n1, n2⟩ := hSw.c.m.cells; go_simp; try (with_reducible rfl))
                          (try simp only [gs])
                          refine wpAnyH_take (i := 22) (v := undef) rfl (by kernel_rfl) (by kernel_rfl) (by kernel_rfl) (fun _ _ _ h => h) (Or.inr ⟨by rfl, rfl⟩) g2 ?_
                          (try simp only [gs])
                          refine wpAnyH_take (i := 23) (v := undef) rfl (by kernel_rfl) (by kernel_rfl) (by kernel_rfl) (fun _ _ _ h => h) (Or.inr ⟨by rfl, rfl⟩) g2 ?_
                          (try simp only [gs])
                          refine wpAnyH_take (i := 24) (v := undef) rfl (by kernel_rfl) (by kernel_rfl) (by kernel_rfl) (fun _ _ _ h => h) (Or.inr ⟨by rfl, rfl⟩) g2 ?_
                          (try simp only [gs])
                          refine wpAnyH_take (i := 25) (v := undef) rfl (by kernel_rfl) (by kernel_rfl) (by kernel_rfl) (fun _ _ _ h => h) (Or.inr ⟨by rfl, rfl⟩) g2 ?_
                          (try simp only [gs])
                          refine wpAnyH_take (i := 26) (v := ?_) rfl (by kernel_rfl) (by kernel_rfl) (by kernel_rfl) (fun _ _ _ h => h) (Or.inl ⟨by rfl, ?_⟩) g2 ?_
                          case refine_2 => (intro w hSw; (try dsimp only at hSw); obtain ⟨k0, k1, k2⟩ := hSw.m.cells; obtain ⟨n0, n1, n2⟩ := hSw.c.m.cells; go_simp; try (with_reducible rfl))
                          (try simp only [gs])
                          refine wpAnyH_take (i := 27) (v := ?_) rfl (by kernel_rfl) (by kernel_rfl) (by kernel_rfl) (fun _ _ _ h => h) (Or.inl ⟨by rfl, ?_⟩) g2 ?_
                          case refine_2 => (intro w hSw; (try dsimp only at hSw); obtain ⟨k0, k1, k2⟩ := hSw.m.cells; obtain ⟨n0, n1, n2⟩ := hSw.c.m.cells; go_simp; try (with_reducible rfl))
                          (try simp only [gs])
                          refine wpAnyH_take (i := 28) (v := ?_) rfl (by kernel_rfl) (by kernel_rfl) (by kernel_rfl) (fun _ _ _ h => h) (Or.inl ⟨by rfl, ?_⟩) g2 ?_
                          case refine_2 => (intro w hSw; (try dsimp only at hSw); obtain ⟨k0, k1, k2⟩ := hSw.m.cells; obtain ⟨n0, n1, n2⟩ := hSw.c.m.cells; go_simp; try (with_reducible rfl))
                          (try simp only [gs])
                          refine wpAnyH_take (i := 29) (v := ?_) rfl (by kernel_rfl) (by kernel_rfl) (by kernel_rfl) (fun _ _ _ h => h) (Or.inl ⟨by rfl, ?_⟩) g2 ?_
                          case refine_2 => (intro w hSw; (try dsimp only at hSw); obtain ⟨k0, k1, k2⟩ := hSw.m.cells; obtain ⟨n0, n1, n2⟩ := hSw.c.m.cells; go_simp; try (with_reducible rfl))
                          (try simp only [gs])
                          refine wpAnyH_take (i := 30) (v := ?_) rfl (by kernel_rfl) (by kernel_rfl) (by kernel_rfl) (fun _ _ _ h => h) (Or.inl ⟨by rfl, ?_⟩) g2 ?_
                          case refine_2 => (intro w hSw; (try dsimp only at hSw); obtain ⟨k0, k1, k2⟩ := hSw.m.cells; obtain ⟨n0, n1, n2⟩ := hSw.c.m.cells; go_simp; try (with_reducible rfl))
                          (try simp only [gs])
                          refine wpAnyH_take (i := 31) (v := .bool true) rfl (by kernel_rfl) (by kernel_rfl) (by kernel_rfl) (fun _ _ _ h => h) (Or.inl ⟨by rfl, ?_⟩) g2 ?_
                          case refine_1 => (intro w hSw; (try dsimp only at hSw); obtain ⟨k0, k1, k2⟩ := hSw.m.cells; obtain ⟨n0, n1, n2⟩ := hSw.c.m.cells; go_simp; first | done | rfl | exact hwl)
                          (try simp only [gs])
                          refine wpAnyH_take (i := 32) (v := ?_) rfl (by kernel_rfl) (by kernel_rfl) (by kernel_rfl) (fun _ _ _ h => h) (Or.inl ⟨by rfl, ?_⟩) g2 ?_
                          case refine_2 => (intro w hSw; (try dsimp only at hSw); obtain ⟨k0, k1, k2⟩ := hSw.m.cells; obtain ⟨n0, n1, n2⟩ := hSw.c.m.cells; go_simp; try (with_reducible rfl))
                          (try simp only [gs])
                          refine wpAnyH_take (i := 33) (v := ?_) rfl (by kernel_rfl) (by kernel_rfl) (by kernel_rfl) (fun _ _ _ h => h) (Or.inl ⟨by rfl, ?_⟩) g2 ?_
                          case refine_2 => (intro w hSw; (try dsimp only at hSw); obtain ⟨k0, k1, k2⟩ := hSw.m.cells; obtain ⟨n0, n1, n2⟩ := hSw.c.m.cells; go_simp; try (with_reducible rfl))
                          (try simp only [gs])
                          refine wpAnyH_take (i := 34) (v := ?_) rfl (by kernel_rfl) (by kernel_rfl) (by kernel_rfl) (fun _ _ _ h => h) (Or.inl ⟨by rfl, ?_⟩) g2 ?_
                          case refine_2 => (intro w hSw; (try dsimp only at hSw); obtain ⟨k0, k1, k2⟩ := hSw.m.cells; obtain ⟨n0, n1, n2⟩ := hSw.c.m.cells; go_simp; try (with_reducible rfl))
                          (try simp only [gs])
                          refine wpAnyH_take (i := 35) (v := ?_) rfl (by kernel_rfl) (by kernel_rfl) (by kernel_rfl) (fun _ _ _ h => h) (Or.inl ⟨by rfl, ?_⟩) g2 ?_
                          case refine_2 => (intro w hSw; (try dsimp only at hSw); obtain ⟨k0, k1, k2⟩ := hSw.m.cells; obtain ⟨n0, n1, n2⟩ := hSw.c.m.cells; go_simp; try (with_reducible rfl))
                          (try simp only [gs])
                          refine wpAnyH_take (i := 36) (v := .bool true) rfl (by kernel_rfl) (by kernel_rfl) (by kernel_rfl) (fun _ _ _ h => h) (Or.inl ⟨by rfl, ?_⟩) g2 ?_
                          case refine_1 => (intro w hSw; (try dsimp only at hSw); obtain ⟨k0, k1, k2⟩ := hSw.m.cells; obtain ⟨n0, n1, n2⟩ := hSw.c.m.cells; go_simp; first | done | rfl | exact hwl)
                          (try simp only [gs])
                          refine wpAnyH_take (i := 37) (v := ?_) rfl (by kernel_rfl) (by kernel_rfl) (by kernel_rfl) (fun _ _ _ h => h) (Or.inl ⟨by rfl, ?_⟩) g2 ?_
                          case refine_2 => (intro w hSw; (try dsimp only at hSw); obtain ⟨k0, k1, k2⟩ := hSw.m.cells; obtain ⟨n0, n1, n2⟩ := hSw.c.m.cells; go_simp; try (with_reducible rfl))
                          (try simp only [gs])
                          refine wpAnyH_take (i := 38) (v := ?_) rfl (by kernel_rfl) (by kernel_rfl) (by kernel_rfl) (fun _ _ _ h => h) (Or.inl ⟨by rfl, ?_⟩) g2 ?_
                          case refine_2 => (intro w hSw; (try dsimp only at hSw); obtain ⟨k0, k1, k2⟩ := hSw.m.cells; obtain ⟨n0, n1, n2⟩ := hSw.c.m.cells; go_simp; try (with_reducible rfl))
                          (try simp only [gs])
                          refine wpAnyH_done (by kernel_rfl) ?_ _
                          refine NoPanic.normal ?_
                          have HBT : badDoc Y 0 x.lv KK = true := by
                            have e : Y.ks.length < 9 := by have := of_decide_eq_true hs; omega
                            have e2 : 0 < Y.lv := of_decide_eq_true hz2
                            simp [badDoc, e, e2]
                          have HF : Hid (RES = false) := (show _ = _ by rw [HGO2.out, HBT]; rfl)
                          have HBL : Hid (Below w.heap.size w _) := g2.c.bel
                          clear HGO2 M4 HBT
                          go_wp2_with fail
                          go_ret
                          exact ⟨by rw [HF.out]; rfl, HBL.out⟩
                          -- END 6
                        | false =>
                          have HBD : Hid (badDoc Y 0 x.lv KK = false) := (show _ = _ by
                            have e : ¬ Y.ks.length < 9 := by have := of_decide_eq_false hs; omega
                            have e3 : (Y.lv == x.lv - 1) = true := by simpa using HLY.out
                            have e4 : (Y.lv == 0) = false := hz1
                            simp [badDoc, HF1.out, e3, e, e4]
                            try omega)
                          -- BEGIN 7
                          refine wp_region_noPanic ?_
                          refine wp_region_held_drew (S := (fun y => DY lim v l w y x (.slice ap j cp) (.slice (some ⟨ga, oa, none⟩) Q cq) top d E d2 Y (.slice yp Y.ps.length ycp) (.slice yq Y.ks.length ycq))) (by kernel_rfl) (M4.called ⟨rfl, rfl, rfl, Nat.le_refl _, fun _ _ => rfl⟩) (fun hHeld => ?_)
                          refine wpAnyH_take (i := 0) (v := ?_) rfl (by kernel_rfl) (by kernel_rfl) (by kernel_rfl) (fun _ _ _ h => h) (Or.inl ⟨by rfl, ?_⟩) hHeld ?_
                          case refine_2 => (intro w hSw; (try dsimp only at hSw); obtain ⟨k0, k1, k2⟩ := hSw.m.cells; obtain ⟨n0, n1, n2⟩ := hSw.c.m.cells; go_simp; try (with_reducible rfl))
                          (try simp only [gs])
                          refine wpAnyH_take (i := 1) (v := ?_) rfl (by kernel_rfl) (by kernel_rfl) (by kernel_rfl) (fun _ _ _ h => h) (Or.inl ⟨by rfl, ?_⟩) hHeld ?_
                          case refine_2 => (intro w hSw; (try dsimp only at hSw); obtain ⟨k0, k1, k2⟩ := hSw.m.cells; obtain ⟨n0, n1, n2⟩ := hSw.c.m.cells; go_simp; try (with_reducible rfl))
                          (try simp only [gs])
                          refine wpAnyH_take (i := 2) (v := ?_) rfl (by kernel_rfl) (by kernel_rfl) (by kernel_rfl) (fun _ _ _ h => h) (Or.inl ⟨by rfl, ?_⟩) hHeld ?_
                          case refine_2 => (intro w hSw; (try dsimp only at hSw); obtain ⟨k0, k1, k2⟩ := hSw.m.cells; obtain ⟨n0, n1, n2⟩ := hSw.c.m.cells; go_simp; try (with_reducible rfl))
                          (try simp only [gs])
                          refine wpAnyH_take (i := 3) (v := ?_) rfl (by kernel_rfl) (by kernel_rfl) (by kernel_rfl) (fun _ _ _ h => h) (Or.inl ⟨by rfl, ?_⟩) hHeld ?_
                          case refine_2 => (intro w hSw; (try dsimp only at hSw); obtain ⟨k0, k1, k2⟩ := hSw.m.cells; obtain ⟨n0, n1, n2⟩ := hSw.c.m.cells; go_simp; try (with_reducible rfl))
                          (try simp only [gs])
                          refine wpAnyH_take (i := 4) (v := ?_) rfl (by kernel_rfl) (by kernel_rfl) (by kernel_rfl) (fun _ _ _ h => h) (Or.inl ⟨by rfl, ?_⟩) hHeld ?_
                          case refine_2 => (intro w hSw; (try dsimp only at hSw); obtain ⟨k0, k1, k2⟩ := hSw.m.cells; obtain ⟨n0, n1, n2⟩ := hSw.c.m.cells; go_simp; try (with_reducible rfl))
                          (try simp only [gs])
                          refine wpAnyH_take (i := 5) (v := ?_) rfl (by kernel_rfl) (by kernel_rfl) (by kernel_rfl) (fun _ _ _ h => h) (Or.inl ⟨by rfl, ?_⟩) hHeld ?_
                          case refine_2 => (intro w hSw; (try dsimp only at hSw); obtain ⟨k0, k1, k2⟩ := hSw.m.cells; obtain ⟨n0, n1, n2⟩ := hSw.c.m.cells; go_simp; try (with_reducible rfl))
                          (try simp only [gs])
                          refine wpAnyH_take (i := 6) (v := ?_) rfl (by kernel_rfl) (by kernel_rfl) (by kernel_rfl) (fun _ _ _ h => h) (Or.inl ⟨by rfl, ?_⟩) hHeld ?_
                          case refine_2 => (intro w hSw; (try dsimp only at hSw); obtain ⟨k0, k1, k2⟩ := hSw.m.cells; obtain ⟨n0, n1, n2⟩ := hSw.c.m.cells; go_simp; try (with_reducible rfl))
                          (try simp only [gs])
                          refine wpAnyH_take (i := 7) (v := .int .i64 (x.lv - 1)) rfl (by kernel_rfl) (by kernel_rfl) (by kernel_rfl) (fun _ _ _ h => h) (Or.inl ⟨by rfl, ?_⟩) hHeld ?_
                          case refine_1 => (intro w hSw; (try dsimp only at hSw); obtain ⟨k0, k1, k2⟩ := hSw.m.cells; obtain ⟨n0, n1, n2⟩ := hSw.c.m.cells; go_simp; first | done | rfl | exact hwl)
                          (try simp only [gs])
                          refine wpAnyH_take (i := 8) (v := .bool false) rfl (by kernel_rfl) (by kernel_rfl) (by kernel_rfl) (fun _ _ _ h => h) (Or.inl ⟨by rfl, ?_⟩) hHeld ?_
                          case refine_1 => (intro w hSw; (try dsimp only at hSw); obtain ⟨k0, k1, k2⟩ := hSw.m.cells; obtain ⟨n0, n1, n2⟩ := hSw.c.m.cells; go_simp; first | done | rfl | exact hwl)
                          (try simp only [gs])
                          refine wpAnyH_take (i := 9) (v := ?_) rfl (by kernel_rfl) (by kernel_rfl) (by kernel_rfl) (fun _ _ _ h => h) (Or.inl ⟨by rfl, ?_⟩) hHeld ?_
                          case refine_2 => (intro w hSw; (try dsimp only at hSw); obtain ⟨k0, k1, k2⟩ := hSw.m.cells; obtain ⟨n0, n1, n2⟩ := hSw.c.m.cells; go_simp; try (with_reducible rfl))
                          (try simp only [gs])
                          refine wpAnyH_take (i := 10) (v := ?_) rfl (by kernel_rfl) (by kernel_rfl) (by kernel_rfl) (fun _ _ _ h => h) (Or.inl ⟨by rfl, ?_⟩) hHeld ?_
                          case refine_2 => (intro w hSw; (try dsimp only at hSw); obtain ⟨k0, k1, k2⟩ := hSw.m.cells; obtain ⟨n0, n1, n2⟩ := hSw.c.m.cells; go_simp; try (with_reducible rfl))
                          (try simp only [gs])
                          refine wpAnyH_take (i := 11) rfl (by kernel_rfl) (by kernel_rfl) (by kernel_rfl) (fun _ _ _ h => h) (yieldsIf_load_mid (by rfl) _ _ rfl _ _ rfl _ _ (fun _ h => h.m.range) Tryz.underlying60 rfl Tryz.node_info) hHeld ?_
                          (try simp only [gs])
                          refine wpAnyH_take (i := 13) (v := ?_) rfl (by kernel_rfl) (by kernel_rfl) (by kernel_rfl) (fun _ _ _ h => h) (Or.inl ⟨by rfl, ?_⟩) hHeld ?_
                          case refine_2 => (intro w hSw; (try dsimp only at hSw); obtain ⟨k0, k1, k2⟩ := hSw.m.cells; obtain ⟨n0, n1, n2⟩ := hSw.c.m.cells; go_simp; try (with_reducible rfl))
                          (try simp only [gs])
                          refine wpAnyH_take (i := 14) rfl (by kernel_rfl) (by kernel_rfl) (by kernel_rfl) (fun _ _ _ h => h) (yieldsIf_load_mid (by rfl) _ _ rfl _ _ rfl _ _ (fun _ h => (HEK.out ▸ range_key h.k.range : World.rangeAt _ d 0 (bc KK))) Tryz.underlying25 rfl (by rw [bc_length]; exact HKI.out _ HKL.out)) hHeld ?_
                          (try simp only [gs])
                          generalize x4.drew = y0 at *
                          refine wpAnyH_ready (rs := [12]) (by kernel_rfl) (by simp) (AllReadyH.cons rfl (fun K hK => ?_) AllReadyH.nil)
                          rw [if_pos (by rfl)]
                          (try simp only [gs])
                          go_simp
                          refine (HFC.out _ hHeld.q).mono ?_
                          rintro e y2 ⟨rfl, b2⟩
                          refine hK.out _ _ (hHeld.called b2) (fun g2 => ?_)
                          clear hK K
                          (try simp only [gs])
                          refine wpAnyH_take (i := 15) (v := .bool false) rfl (by kernel_rfl) (by kernel_rfl) (by kernel_rfl) (fun _ _ _ h => h) (Or.inl ⟨by rfl, ?_⟩) g2 ?_
                          case refine_1 => (intro w hSw; (try dsimp only at hSw); have q := eq_key w (firstN Y) KK HFL.out HKL.out; rw [HF1.out] at q; go_simp; first | done | rfl | exact hwl)
                          (try simp only [gs])
                          refine wpAnyH_take (i := 16) (v := ?_) rfl (by kernel_rfl) (by kernel_rfl) (by kernel_rfl) (fun _ _ _ h => h) (Or.inl ⟨by rfl, ?_⟩) g2 ?_
                          case refine_2 => (intro w hSw; (try dsimp only at hSw); obtain ⟨k0, k1, k2⟩ := hSw.m.cells; obtain ⟨n0, n1, n2⟩ := hSw.c.m.cells; go_simp; try (with_reducible rfl))
                          (try simp only [gs])
                          refine wpAnyH_take (i := 17) (v := ?_) rfl (by kernel_rfl) (by kernel_rfl) (by kernel_rfl) (fun _ _ _ h => h) (Or.inl ⟨by rfl, ?_⟩) g2 ?_
                          case refine_2 => (intro w hSw; (try dsimp only at hSw); obtain ⟨k0, k1, k2⟩ := hSw.m.cells; obtain ⟨n0, n1, n2⟩ := hSw.c.m.cells; go_simp; try (with_reducible rfl))
                          (try simp only [gs])
                          refine wpAnyH_take (i := 18) (v := ?_) rfl (by kernel_rfl) (by kernel_rfl) (by kernel_rfl) (fun _ _ _ h => h) (Or.inl ⟨by rfl, ?_⟩) g2 ?_
                          case refine_2 => (intro w hSw; (try dsimp only at hSw); obtain ⟨k0, k1, k2⟩ := hSw.m.cells; obtain ⟨n0, n1, n2⟩ := hSw.c.m.cells; go_simp; try (with_reducible rfl))
                          (try simp only [gs])
                          refine wpAnyH_take (i := 19) (v := ?_) rfl (by kernel_rfl) (by kernel_rfl) (by kernel_rfl) (fun _ _ _ h => h) (Or.inl ⟨by rfl, ?_⟩) g2 ?_
                          case refine_2 => (intro w hSw; (try dsimp only at hSw); obtain ⟨k0, k1, k2⟩ := hSw.m.cells; obtain ⟨n0, n1, n2⟩ := hSw.c.m.cells; go_simp; try (with_reducible rfl))
                          (try simp only [gs])
                          refine wpAnyH_take (i := 20) (v := .bool false) rfl (by kernel_rfl) (by kernel_rfl) (by kernel_rfl) (fun _ _ _ h => h) (Or.inl ⟨by rfl, ?_⟩) g2 ?_
                          case refine_1 => (intro w hSw; (try dsimp only at hSw); obtain ⟨k0, k1, k2⟩ := hSw.m.cells; obtain ⟨n0, n1, n2⟩ := hSw.c.m.cells; go_simp; first | done | rfl | exact hwl)
                          (try simp only [gs])
                          refine wpAnyH_take (i := 21) (v := ?_) rfl (by kernel_rfl) (by kernel_rfl) (by kernel_rfl) (fun _ _ _ h => h) (Or.inl ⟨by rfl, ?_⟩) g2 ?_
                          case refine_2 => (intro w hSw; (try dsimp only at hSw); obtain ⟨k0, k1, k2⟩ := hSw.m.cells; obtain ⟨n0, n1, n2⟩ := hSw.c.m.cells; go_simp; try (with_reducible rfl))
                          (try simp only [gs])
                          refine wpAnyH_take (i := 22) (v := undef) rfl (by kernel_rfl) (by kernel_rfl) (by kernel_rfl) (fun _ _ _ h => h) (Or.inr ⟨by rfl, rfl⟩) g2 ?_
                          (try simp only [gs])
                          refine wpAnyH_take (i := 23) (v := undef) rfl (by kernel_rfl) (by kernel_rfl) (by kernel_rfl) (fun _ _ _ h => h) (Or.inr ⟨by rfl, rfl⟩) g2 ?_
                          (try simp only [gs])
                          refine wpAnyH_take (i := 24) (v := undef) rfl (by kernel_rfl) (by kernel_rfl) (by kernel_rfl) (fun _ _ _ h => h) (Or.inr ⟨by rfl, rfl⟩) g2 ?_
                          (try simp only [gs])
                          refine wpAnyH_take (i := 25) (v := undef) rfl (by kernel_rfl) (by kernel_rfl) (by kernel_rfl) (fun _ _ _ h => h) (Or.inr ⟨by rfl, rfl⟩) g2 ?_
                          (try simp only [gs])
                          refine wpAnyH_take (i := 26) (v := ?_) rfl (by kernel_rfl) (by kernel_rfl) (by kernel_rfl) (fun _ _ _ h => h) (Or.inl ⟨by rfl, ?_⟩) g2 ?_
                          case refine_2 => (intro w hSw; (try dsimp only at hSw); obtain ⟨k0, k1, k2⟩ := hSw.m.cells; obtain ⟨n0, n1, n2⟩ := hSw.c.m.cells; go_simp; try (with_reducible rfl))
                          (try simp only [gs])
                          refine wpAnyH_take (i := 27) (v := ?_) rfl (by kernel_rfl) (by kernel_rfl) (by kernel_rfl) (fun _ _ _ h => h) (Or.inl ⟨by rfl, ?_⟩) g2 ?_
                          case refine_2 => (intro w hSw; (try dsimp only at hSw); obtain ⟨k0, k1, k2⟩ := hSw.m.cells; obtain ⟨n0, n1, n2⟩ := hSw.c.m.cells; go_simp; try (with_reducible rfl))
                          (try simp only [gs])
                          refine wpAnyH_take (i := 28) (v := ?_) rfl (by kernel_rfl) (by kernel_rfl) (by kernel_rfl) (fun _ _ _ h => h) (Or.inl ⟨by rfl, ?_⟩) g2 ?_
                          case refine_2 => (intro w hSw; (try dsimp only at hSw); obtain ⟨k0, k1, k2⟩ := hSw.m.cells; obtain ⟨n0, n1, n2⟩ := hSw.c.m.cells; go_simp; try (with_reducible rfl))
                          (try simp only [gs])
                          refine wpAnyH_take (i := 29) (v := ?_) rfl (by kernel_rfl) (by kernel_rfl) (by kernel_rfl) (fun _ _ _ h => h) (Or.inl ⟨by rfl, ?_⟩) g2 ?_
                          case refine_2 => (intro w hSw; (try dsimp only at hSw); obtain ⟨k0, k1, k2⟩ := hSw.m.cells; obtain ⟨n0, n1, n2⟩ := hSw.c.m.cells; go_simp; try (with_reducible rfl))
                          (try simp only [gs])
                          refine wpAnyH_take (i := 30) (v := ?_) rfl (by kernel_rfl) (by kernel_rfl) (by kernel_rfl) (fun _ _ _ h => h) (Or.inl ⟨by rfl, ?_⟩) g2 ?_
                          case refine_2 => (intro w hSw; (try dsimp only at hSw); obtain ⟨k0, k1, k2⟩ := hSw.m.cells; obtain ⟨n0, n1, n2⟩ := hSw.c.m.cells; go_simp; try (with_reducible rfl))
                          (try simp only [gs])
                          refine wpAnyH_take (i := 31) (v := .bool true) rfl (by kernel_rfl) (by kernel_rfl) (by kernel_rfl) (fun _ _ _ h => h) (Or.inl ⟨by rfl, ?_⟩) g2 ?_
                          case refine_1 => (intro w hSw; (try dsimp only at hSw); obtain ⟨k0, k1, k2⟩ := hSw.m.cells; obtain ⟨n0, n1, n2⟩ := hSw.c.m.cells; go_simp; first | done | rfl | exact hwl)
                          (try simp only [gs])
                          refine wpAnyH_take (i := 32) (v := ?_) rfl (by kernel_rfl) (by kernel_rfl) (by kernel_rfl) (fun _ _ _ h => h) (Or.inl ⟨by rfl, ?_⟩) g2 ?_
                          case refine_2 => (intro w hSw; (try dsimp only at hSw); obtain ⟨k0, k1, k2⟩ := hSw.m.cells; obtain ⟨n0, n1, n2⟩ := hSw.c.m.cells; go_simp; try (with_reducible rfl))
                          (try simp only [gs])
                          refine wpAnyH_take (i := 33) (v := ?_) rfl (by kernel_rfl) (by kernel_rfl) (by kernel_rfl) (fun _ _ _ h => h) (Or.inl ⟨by rfl, ?_⟩) g2 ?_
                          case refine_2 => (intro w hSw; (try dsimp only at hSw); obtain ⟨k0, k1, k2⟩ := hSw.m.cells; obtain ⟨n0, n1, n2⟩ := hSw.c.m.cells; go_simp; try (with_reducible rfl))
                          (try simp only [gs])
                          refine wpAnyH_take (i := 34) (v := ?_) rfl (by kernel_rfl) (by kernel_rfl) (by kernel_rfl) (fun _ _ _ h => h) (Or.inl ⟨by rfl, ?_⟩) g2 ?_
                          case refine_2 => (intro w hSw; (try dsimp only at hSw); obtain ⟨k0, k1, k2⟩ := hSw.m.cells; obtain ⟨n0, n1, n2⟩ := hSw.c.m.cells; go_simp; try (with_reducible rfl))
                          (try simp only [gs])
                          refine wpAnyH_take (i := 35) (v := ?_) rfl (by kernel_rfl) (by kernel_rfl) (by kernel_rfl) (fun _ _ _ h => h) (Or.inl ⟨by rfl, ?_⟩) g2 ?_
                          case refine_2 => (intro w hSw; (try dsimp only at hSw); obtain ⟨k0, k1, k2⟩ := hSw.m.cells; obtain ⟨n0, n1, n2⟩ := hSw.c.m.cells; go_simp; try (with_reducible rfl))
                          (try simp only [gs])
                          refine wpAnyH_take (i := 36) (v := .bool false) rfl (by kernel_rfl) (by kernel_rfl) (by kernel_rfl) (fun _ _ _ h => h) (Or.inl ⟨by rfl, ?_⟩) g2 ?_
                          case refine_1 => (intro w hSw; (try dsimp only at hSw); obtain ⟨k0, k1, k2⟩ := hSw.m.cells; obtain ⟨n0, n1, n2⟩ := hSw.c.m.cells; go_simp; first | done | rfl | exact hwl)
                          (try simp only [gs])
                          refine wpAnyH_take (i := 37) (v := ?_) rfl (by kernel_rfl) (by kernel_rfl) (by kernel_rfl) (fun _ _ _ h => h) (Or.inl ⟨by rfl, ?_⟩) g2 ?_
                          case refine_2 => (intro w hSw; (try dsimp only at hSw); obtain ⟨k0, k1, k2⟩ := hSw.m.cells; obtain ⟨n0, n1, n2⟩ := hSw.c.m.cells; go_simp; try (with_reducible rfl))
                          (try simp only [gs])
                          refine wpAnyH_take (i := 38) (v := ?_) rfl (by kernel_rfl) (by kernel_rfl) (by kernel_rfl) (fun _ _ _ h => h) (Or.inl ⟨by rfl, ?_⟩) g2 ?_
                          case refine_2 => (intro w hSw; (try dsimp only at hSw); obtain ⟨k0, k1, k2⟩ := hSw.m.cells; obtain ⟨n0, n1, n2⟩ := hSw.c.m.cells; go_simp; try (with_reducible rfl))
                          (try simp only [gs])
                          refine wpAnyH_done (by kernel_rfl) ?_ _
                          refine NoPanic.normal ?_
                          clear HZ hz1 hz2 hs hl HF1 hwl
                          -- BEGIN T7
                          have HGO3 : Hid (RES = (rec Y TT II && docGo (bagG l) rec x top _ m)) := (show _ = _ by rw [HGO2.out, HBD.out]; rfl)
                          have HG2 := g2
                          clear HGO2 M4 hHeld b2 HBD g2
                          go_upto_region 22 with (first
                            | (refine load_key _ rfl (w.heap.size + 1) rfl rfl top HG2.c.t ?_)
                            | (refine store_key rfl _ _ rfl y2.heap.size rfl top rfl HT.out (zs 24) (zero_has y2 _ rfl) ?_; intro x5 hk5 tx5 sx5))
                          have BS5 := step_below (Below.refl _ y2) _ tx5
                          have M5 := HG2.called BS5
                          obtain ⟨c0, c1, c2⟩ := M5.c.m.cells
                          have hws : wrap64 ((t : Int) + 1) = ((t + 1 : Nat) : Int) := by unfold wrap64; omega
                          by_cases h1 : t + 1 < Q
                          · have hJ1 : (t : Int) + 1 < (Q : Int) := by omega
                            have hJ3 : ((t : Int) + 1).toNat = t + 1 := by omega
                            have hJ4 : (0 : Int) ≤ (t : Int) + 1 := by omega
                            have HGO4 : Hid (RES = (rec Y NK true && docGo (bagG l) rec x top _ m)) := (show _ = _ by rw [HGO3.out, HTO.out.1, HTO.out.2, if_pos h1, if_pos h1])
                            have HNL := (HNK.out h1).1
                            clear HGO3 tx5 sx5
                            go_upto_region 25 with (first
                              | (refine load_part _ rfl ga (oa + (t + 1) * 25) rfl rfl NK HNL ((HNK.out h1).2 _ M5.c) ?_)
                              | (refine store_key rfl _ _ rfl y2.heap.size rfl NK rfl HNL top hk5 ?_; intro x6 hk6 tx6 sx6))
                            have M6 := HG2.called (below_touched BS5 tx6 (Nat.le_refl _) (Nat.le_refl _))
                            clear M5 hk5 tx6 sx6 BS5 HG2 c0 c1 c2
                            obtain ⟨c0, c1, c2⟩ := M6.c.m.cells
                            have hrc := HREC.out x6 Y _ _ NK true M6.c.g M6.q HNL HLY.out hlI1
                            generalize rec Y NK true = RB at *
                            go_upto_region 26 with (first
                              | (refine load_node _ rfl d2 rfl rfl Y _ _ M6.m ?_)
                              | (refine load_key _ rfl y2.heap.size rfl rfl NK hk6 ?_)
                              | (go_at_call 42; refine hrc.mono ?_; rintro e w7 ⟨rfl, b7⟩))
                            have HM7 : Hid (DR lim v l w w7 x (.slice ap j cp) (.slice (some ⟨ga, oa, none⟩) Q cq) top) := (M6.called b7).c
                            clear M6 hk6 hrc b7 c0 c1 c2
                            cases RB with
                            | false =>
                              have HF : Hid (RES = false) := (show _ = _ by rw [HGO4.out]; rfl)
                              go_wp2_with fail
                              go_ret
                              exact ⟨by rw [HF.out]; rfl, HM7.out.bel⟩
                            | true =>
                              go_wp2_with fail
                              go_roundg m
                              case measure => omega
                              exact ⟨t + 1, by omega, by simp, HM7.out, (show _ = _ by rw [HGO4.out]; rfl)⟩
                          · have hJ1 : decide ((t : Int) + 1 < (Q : Int)) = false := decide_eq_false (by omega)
                            have HGO4 : Hid (RES = (rec Y top _ && docGo (bagG l) rec x top _ m)) := (show _ = _ by rw [HGO3.out, HTO.out.1, HTO.out.2, if_neg h1, if_neg h1])
                            clear HGO3 tx5 sx5 BS5 HG2
                            have hrc := HREC.out x5 Y _ _ top true M5.c.g M5.q HT.out HLY.out hlI1
                            generalize rec Y top true = RB at *
                            go_upto_region 26 with (first
                              | (refine load_node _ rfl d2 rfl rfl Y _ _ M5.m ?_)
                              | (refine load_key _ rfl y2.heap.size rfl rfl top hk5 ?_)
                              | (go_at_call 42; refine hrc.mono ?_; rintro e w7 ⟨rfl, b7⟩))
                            have HM7 : Hid (DR lim v l w w7 x (.slice ap j cp) (.slice (some ⟨ga, oa, none⟩) Q cq) top) := (M5.called b7).c
                            clear M5 hk5 hrc b7 c0 c1 c2
                            cases RB with
                            | false =>
                              have HF : Hid (RES = false) := (show _ = _ by rw [HGO4.out]; rfl)
                              go_wp2_with fail
                              go_ret
                              exact ⟨by rw [HF.out]; rfl, HM7.out.bel⟩
                            | true =>
                              go_wp2_with fail
                              go_roundg m
                              case measure => omega
                              exact ⟨t + 1, by omega, by simp, HM7.out, (show _ = _ by rw [HGO4.out]; rfl)⟩
                          -- END T7
                          -- END 7
theorem rdoc_calls (lim : Nat) (v : Value) (l : List Ent) : ∀ (k : Nat) (w : World) (x : Nod) (pv qv : Value) (top : List UInt8) (is : Bool), BagIn w lim v l → Parts w x pv qv → top.length = 24 → (rightN x = true → x.lv < k) → 1 ≤ k →
    Calls Tryz.prog 42 #[v, nv x pv qv, kv top, .bool is] w fun e w' => e = .returned (.bool (docP (bagG l) k x top is)) ∧ Below w.heap.size w w'
  | 0, _, _, _, _, _, _, _, _, _, _, h => by omega
  | k + 1, w, x, pv, qv, top, is, hB, h, ht, hk, _ => rdoc_step lim v l x (docP (bagG l) k) (fun hr w y py qy top is hB h ht hy h1 => rdoc_calls lim v l k w y py qy top is hB h ht (fun _ => by have := hk hr; omega) (by have := hk hr; omega)) w pv qv top is hB h ht
end Go.Proofs.YtjhdnpplmlddaaaGreat
