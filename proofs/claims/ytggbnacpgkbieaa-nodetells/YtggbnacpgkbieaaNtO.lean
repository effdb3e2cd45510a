/- The document's own words on nodes: Of. -/
import Derived.Test.YtggbnacpgkbieaaNtY
namespace Go.Proofs.Ytggbnacpgkbieaa
set_option linter.unusedVariables false
open Go.RowKit

theorem wp_buildSliceTo {o : Oper} {a : Act} {w : World} {K : Act → World → Prop} {Q : Exit → Act → World → Prop} (t e : TypeId) (len : Nat) (parts : Array (Nat × Operand)) (ho : o.op = .buildSlice t len parts) (hu : Try.prog.underlying t = some (.slice e)) (cells : Array Value)
    (hf : Try.prog.builtSlice e len (parts.map fun (i, x) => (i, a.eval x)).toList = some cells)
    (h : K (a.put o.dst (.slice (some ⟨w.heap.size, 0, none⟩) len len)) (w.alloc (.cells cells e))) : o.wp Try.prog a w K Q := by
  unfold Program.builtSlice at hf
  cases hie : Try.prog.info? e with
  | none => simp [hie] at hf
  | some ie =>
    simp only [hie] at hf
    cases hz : ie.zero with
    | none => simp [hz] at hf
    | some z =>
      simp only [hz] at hf
      by_cases hc : len * ie.size > 2 ^ 24 ∨ len * ie.size = 0
      · simp [hc] at hf
      · rw [if_neg hc] at hf
        exact wp_buildSlice t e len parts ho cells ie z hu hie hz (fun h' => hc (Or.inl h')) (fun h' => hc (Or.inr h')) hf h
theorem slice_one (z : Value) (e : TypeId) (b : Nat) (hi : (Try.prog.info? e).map (fun i => (i.zero, i.size, i.bytes)) = some (some z, 25, b)) (hz : z.cells.size = 25) (x : El) (h : x.Ok) : Try.prog.builtSlice e 1 [(0, ev x)] = some (ec x).toArray := by
  obtain ⟨i0, h0, hz0, hz1, hz2⟩ := info_parts hi
  unfold Program.builtSlice
  simp only [h0, hz0, hz1]
  rw [if_neg (by decide), fill_put (off := 0) (size := 25) rfl (by simp [Value.cells, ec_length h]) (by simp)]
  simp [Instr.fill, Value.cells]
def AnyW (_ : World) : Prop := True
theorem AnyW.any (y : World) : AnyW y := trivial
section
variable {y z : World} {base n size : Nat} {e : TypeId} {v : Value} {xs : List Value}
theorem own_same (h : y.ownsRow base e size v n xs) (hb : ∀ k, v.ownBlock = some k → z.heap[k]? = y.heap[k]?) : z.ownsRow base e size v n xs := by
  refine ⟨h.1, ?_⟩
  rcases h.2 with hn | ⟨g, cap, cur, rfl, hg, hgg, rest⟩
  · exact .inl hn
  · exact .inr ⟨g, cap, cur, rfl, hg, (hb g rfl).trans hgg, rest⟩
theorem own_kept (h : y.ownsRow base e size v n xs) (bl : Below y.heap.size y z) : z.ownsRow base e size v n xs := own_same h fun k hk => bl.block k (h.lt k hk).2
theorem own_one (h : y.ownsRow base e size v n xs) : v.oneCell' = true := by
  rcases h.2 with ⟨rfl, _⟩ | ⟨g, cap, cur, rfl, _⟩ <;> rfl
theorem own_set {b j : Nat} {u : Value} (h : y.ownsRow base e size v n xs) (hb : b < base) : (y.setCell ⟨b, j, none⟩ u).ownsRow base e size v n xs := own_same h fun k hk => by
  have q := h.lt k hk
  exact (touch_set y b j u).block k q.2 (by omega) (by simp)
theorem own_slice (h : y.ownsRow base e size v n xs) : ∃ a c, v = .slice a n c := by
  rcases h.2 with ⟨rfl, rfl⟩ | ⟨g, cap, cur, rfl, _⟩ <;> exact ⟨_, _, rfl⟩
theorem grown_below {B : Nat} {row : Option Nat} (g : y.grownBy z row) (hB : B ≤ y.heap.size) (hr : ∀ k, row = some k → B ≤ k) : Below B y z := (Below.refl _ _).grown g hB hr
end
/-- The node that is read, in its block, and the result's block. -/
structure OS (w y : World) (lv : Int) (ps : List Pr) (ks : List Kd) (pv qv : Value) : Prop where
  n : HasN y (w.heap.size + 1) ⟨lv, ps, ks⟩ pv qv
  r : HasN y w.heap.size nilN (.slice none 0 0) (.slice none 0 0)
  bel : Below w.heap.size w y
section
variable {w y z : World} {lv : Int} {ps : List Pr} {ks : List Kd} {pv qv : Value}
theorem OS.below {B : Nat} (h : OS w y lv ps ks pv qv) (bl : Below B y z) (hB : w.heap.size + 2 ≤ B) : OS w z lv ps ks pv qv := ⟨h.n.below bl (by omega), h.r.below bl (by omega), h.bel.trans (bl.mono (by omega))⟩
theorem OS.called (h : OS w y lv ps ks pv qv) (bl : Below y.heap.size y z) : OS w z lv ps ks pv qv := h.below bl (by have := h.n.lt; omega)
theorem OS.grew {row : Option Nat} (h : OS w y lv ps ks pv qv) (g : y.grownBy z row) (hr : ∀ k, row = some k → w.heap.size + 2 ≤ k) : OS w z lv ps ks pv qv := h.below (grown_below (B := w.heap.size + 2) g (by have := h.n.lt; omega) hr) (Nat.le_refl _)
theorem OS.drew (h : OS w y lv ps ks pv qv) : OS w y.drew lv ps ks pv qv := h.called ⟨rfl, rfl, rfl, Nat.le_refl _, fun _ _ => rfl⟩
theorem OS.c0 (h : OS w y lv ps ks pv qv) : y.cell? ⟨w.heap.size + 1, 0, none⟩ = some (.int .i64 lv) := h.n.cells.1
theorem OS.c1 (h : OS w y lv ps ks pv qv) : y.cell? ⟨w.heap.size + 1, 1, none⟩ = some pv := h.n.cells.2.1
theorem OS.c2 (h : OS w y lv ps ks pv qv) : y.cell? ⟨w.heap.size + 1, 2, none⟩ = some qv := h.n.cells.2.2
theorem OS.set1 (h : OS w y lv ps ks pv qv) (ps' : List Pr) (v : Value) (hv : v.oneCell' = true) : OS w (y.setCell ⟨w.heap.size + 1, 1, none⟩ v) lv ps' ks v qv := ⟨h.n.set1 ps' v hv, h.r.touch (touch_set _ _ _ _) (by omega), h.bel.setCell (by simp) _⟩
theorem OS.set2 (h : OS w y lv ps ks pv qv) (ks' : List Kd) (v : Value) (hv : v.oneCell' = true) : OS w (y.setCell ⟨w.heap.size + 1, 2, none⟩ v) lv ps ks' pv v := ⟨h.n.set2 ks' v hv, h.r.touch (touch_set _ _ _ _) (by omega), h.bel.setCell (by simp) _⟩
end
theorem flat_app (a b : List El) : flat (a ++ b) = flat a ++ flat b := by simp [flat]
theorem flat_Pr (l : List Pr) (p : Pr) : flat ((l ++ [p]).map Pr.el) = flat (l.map Pr.el) ++ ec p.el := by
  rw [List.map_append, flat_app]; simp [flat]
theorem flat_Kd (l : List Kd) (p : Kd) : flat ((l ++ [p]).map Kd.el) = flat (l.map Kd.el) ++ ec p.el := by
  rw [List.map_append, flat_app]; simp [flat]
theorem num_succ' {k : Nat} (h : k < 256) : Value.int .i64 (wrap64 ((k : Int) + 1)) = .int .i64 ((k + 1 : Nat) : Int) := congrArg _ (by unfold wrap64; omega)
theorem at_at (w : World) (L : List UInt8) (i : Nat) (V : Int) (hi : i ≤ 100000) (hL : L.length ≤ 1000) (hV : V = (i : Int)) :
    Calls Try.prog 40 #[.string (str L), .int .i64 V] w fun e w' => e = .returned (.int .i64 ((L.getD i 0).toNat : Int)) ∧ w' = w := by
  subst hV
  exact rat_calls w L i hi hL
theorem text_at (w : World) (L : List UInt8) (p n : Nat) (V : Int) (hp : p ≤ 90000) (hn : n ≤ 255) (hL : L.length ≤ 1000) (hV : V = (p : Int)) :
    Calls Try.prog 42 #[.string (str L), .int .i64 V, .int .i64 (n : Int)] w fun e w' => e = .returned (.string (str (win L p n))) ∧ Below w.heap.size w w' := by
  subst hV
  exact rtext_calls w L p n hp hn hL
theorem okPr {l : List Pr} (h : ∀ p ∈ l, p.k.length = 24) : ∀ i (hi : i < (l.map Pr.el).length), ((l.map Pr.el)[i]).Ok := map_ok Pr.el l fun i hi => Pr.ok_el (h _ (List.getElem_mem hi))
theorem okKd {l : List Kd} (h : ∀ p ∈ l, p.k.length = 24) : ∀ i (hi : i < (l.map Kd.el).length), ((l.map Kd.el)[i]).Ok := map_ok Kd.el l fun i hi => Kd.ok_el (h _ (List.getElem_mem hi))
theorem num_win (L : List UInt8) (p m : Nat) : num (win L p (m + 1)) = num (win L p m) * 256 + (L.getD (p + m) 0).toNat := by
  rw [win, num_snoc, Nat.mul_comm]
theorem num_win_lt (L : List UInt8) (p m : Nat) (h : m ≤ 4) : num (win L p m) < 4294967296 := by
  have h1 := num_lt (win L p m)
  rw [win_length] at h1
  have h2 : (256 : Nat) ^ m ≤ 256 ^ 4 := Nat.pow_le_pow_right (by omega) h
  have h3 : (256 : Nat) ^ 4 = 4294967296 := by decide
  omega
/-- What has been read, apart from all that is old. -/
def PartsGe (y : World) (B : Nat) (x : Nod) (pv qv : Value) : Prop := (∃ r, ElsIn y pv (x.ps.map Pr.el) r ∧ ∀ k, r = some k → B ≤ k ∧ k < y.heap.size) ∧ ∃ r, ElsIn y qv (x.ks.map Kd.el) r ∧ ∀ k, r = some k → B ≤ k ∧ k < y.heap.size
abbrev NE (y : World) (sv : Value) (l : List El) (B : Nat) : Prop := ∃ r, ElsIn y sv l r ∧ (∀ k, r = some k → B ≤ k ∧ k < y.heap.size) ∧ ∀ k off c, sv = .slice (some ⟨k, off, none⟩) l.length c → l = [] ∨ (r = some k ∧ y.there k off (l.length * 25))
theorem nilElsN (y : World) (B : Nat) : NE y (.slice none 0 0) [] B := ⟨none, ⟨none, 0, rfl, Nat.le_refl _, Nat.zero_le _, (fun i hi => by cases hi), .inl rfl⟩, (fun k hk => by cases hk), fun k off c e => by cases e⟩
theorem PartsGe.mk {y : World} {B : Nat} {x : Nod} {pv qv : Value} (h1 : NE y pv (x.ps.map Pr.el) B) (h2 : NE y qv (x.ks.map Kd.el) B) : PartsGe y B x pv qv := by
  obtain ⟨r, a1, a2, _⟩ := h1
  obtain ⟨s, b1, b2, _⟩ := h2
  exact ⟨⟨r, a1, a2⟩, ⟨s, b1, b2⟩⟩
theorem PartsGe.below {y z : World} {B : Nat} {x : Nod} {pv qv : Value} (h : PartsGe y B x pv qv) (b : Below y.heap.size y z) : PartsGe z B x pv qv := by
  obtain ⟨⟨r, h1, h2⟩, ⟨s, h3, h4⟩⟩ := h
  exact ⟨⟨r, h1.below b (fun k hk => (h2 k hk).2), fun k hk => ⟨(h2 k hk).1, Nat.lt_of_lt_of_le (h2 k hk).2 b.size⟩⟩, ⟨s, h3.below b (fun k hk => (h4 k hk).2), fun k hk => ⟨(h4 k hk).1, Nat.lt_of_lt_of_le (h4 k hk).2 b.size⟩⟩⟩
theorem PartsGe.touched {y z : World} {B p : Nat} {x : Nod} {pv qv : Value} (h : PartsGe y B x pv qv) (t : Touch p none y z) (hp : p < B) : Parts z x pv qv := by
  obtain ⟨⟨r, h1, h2⟩, ⟨s, h3, h4⟩⟩ := h
  exact ⟨⟨r, h1.kept (fun k hk => t.block k (h2 k hk).2 (by have := (h2 k hk).1; omega) (by simp)), fun k hk => Nat.lt_of_lt_of_le (h2 k hk).2 t.size⟩, ⟨s, h3.kept (fun k hk => t.block k (h4 k hk).2 (by have := (h4 k hk).1; omega) (by simp)), fun k hk => Nat.lt_of_lt_of_le (h4 k hk).2 t.size⟩⟩
set_option maxHeartbeats 16000000 in
set_option maxRecDepth 100000 in
theorem rof_leaf (w : World) (L : List UInt8) (N : Nat) (LV : Int) (hL : L.length ≤ 1000) (h0 : L.getD 2 0 = 0) (hn : (L.getD 3 0).toNat = N) (hlv : ((L.getD 2 0).toNat : Int) = LV) (hlv0 : LV = 0) : Calls Try.prog 9 #[.string (str L)] w (OfTo w (ofN L)) := by
  have HPA : Hid (parse L = ⟨0, (itP L N).1, []⟩) := (show _ = _ by rw [parse, if_pos h0, hn])
  have HL0 : Hid (LV = 0) := hlv0
  clear h0 hlv0
  have HLL : Hid (L.length ≤ 1000) := hL
  have C2 : Hid (∀ y, Calls Try.prog 40 #[.string (str L), .int .i64 2] y fun e w' => e = .returned (.int .i64 LV) ∧ w' = y) := fun y => by
    have := at_at y L 2 2 (by omega) hL rfl
    rw [hlv] at this
    exact this
  have C3 : Hid (∀ y, Calls Try.prog 40 #[.string (str L), .int .i64 3] y fun e w' => e = .returned (.int .i64 (N : Int)) ∧ w' = y) := fun y => by
    have := at_at y L 3 3 (by omega) hL rfl
    rw [hn] at this
    exact this
  have HN2 : Hid (N < 256) := (show _ < _ by rw [← hn]; exact (L.getD 3 0).toNat_lt)
  have HN1 : Hid (HasN ((w.alloc (.cells #[.int .i64 0, .slice none 0 0, .slice none 0 0] 25)).alloc (.cells #[.int .i64 0, .slice none 0 0, .slice none 0 0] 25)) (w.heap.size + 1) nilN (.slice none 0 0) (.slice none 0 0)) := HasN.new _ nilN _ _ _ (by simp) rfl rfl
  have HR1 : Hid (HasN ((w.alloc (.cells #[.int .i64 0, .slice none 0 0, .slice none 0 0] 25)).alloc (.cells #[.int .i64 0, .slice none 0 0, .slice none 0 0] 25)) w.heap.size nilN (.slice none 0 0) (.slice none 0 0) ∧ Below w.heap.size w ((w.alloc (.cells #[.int .i64 0, .slice none 0 0, .slice none 0 0] 25)).alloc (.cells #[.int .i64 0, .slice none 0 0, .slice none 0 0] 25))) := ⟨(HasN.new w nilN _ _ _ rfl rfl rfl).alloc _, ((Below.refl _ w).alloc (Nat.le_refl _) _).alloc (by simp) _⟩
  have HNN : Hid ((L.getD 3 0).toNat = N) := hn
  have HLV : Hid (((L.getD 2 0).toNat : Int) = LV) := hlv
  clear hn hlv hL
  go_enter Try.func9, Try.ntmps9
  go_upto_region 2 with (first
    | (go_at_call 40; refine (C2.out _).mono ?_; rintro e w1 ⟨rfl, rfl⟩)
    | (refine build_any rfl 25 _ rfl [(0, .int .i64 LV)] (by simp only [List.map_toArray, List.map_cons, List.map_nil]; rfl) _ (Try.node1 LV) ?_)
    | (refine store_node rfl _ _ rfl (w.heap.size + 1) rfl ⟨LV, [], []⟩ (.slice none 0 0) (.slice none 0 0) rfl rfl rfl nilN (.slice none 0 0) (.slice none 0 0) HN1.out ?_; intro x1 hu1 tx1 sx1))
  have HX1 : Hid (OS w x1 LV [] [] (.slice none 0 0) (.slice none 0 0)) := ⟨hu1, HR1.out.1.touch tx1 (by omega), below_touched HR1.out.2 tx1 (by omega) (Nat.le_refl _)⟩
  clear hu1 tx1 sx1 HN1 HR1 C2
  go_wp2_with (go_at_call 40; refine (C3.out _).mono ?_; rintro e w1 ⟨rfl, rfl⟩)
  clear C3
  have hlv0 := HL0.out
  rw [hlv0] at HX1
  subst hlv0
  clear HL0 HLV
  go_loopg [6, 7] N (fun g i kk wr => ∃ (k : Nat) (pv : Value), k + g = N ∧ i = .int .i64 ((itP L k).2 : Int) ∧ kk = .int .i64 (k : Int) ∧ Hid (OS w wr 0 (itP L k).1 [] pv (.slice none 0 0) ∧ wr.ownsRow (w.heap.size + 2) 44 25 pv k (flat ((itP L k).1.map Pr.el))))
  case atStart => exact ⟨0, _, by omega, rfl, rfl, ⟨HX1.out, World.ownsRow_nil _ _ _ _⟩⟩
  case round =>
    clear HX1
    obtain ⟨k, pv, hkg, rfl, rfl, HP⟩ := hrel
    cases gk with
    | succ g =>
      have hltI : (k : Int) < (N : Int) := by omega
      have HK : Hid (k < 256) := (show k < 256 by have := HN2.out; omega)
      have HM : Hid (k + 1 ≤ maxLen ∧ (k + 1) * 40 ≤ 140737488355328) := (show _ ∧ _ by have := HK.out; unfold maxLen; omega)
      have hpb := itP_le L k
      obtain ⟨p, hp⟩ : ∃ p, p = (itP L k).2 := ⟨_, rfl⟩
      obtain ⟨sz, hsz⟩ : ∃ sz, sz = pSize L p := ⟨_, rfl⟩
      have hsz0 : sz < 256 := by rw [hsz]; exact (L.getD (p + 24) 0).toNat_lt
      have HP90 : Hid (p ≤ 80000) := (show p ≤ 80000 by rw [hp]; have := HK.out; omega)
      have HPB : Hid (p ≤ 90000) := (show _ ≤ _ by have := HP90.out; omega)
      have HPB2 : Hid (p + 25 ≤ 90000) := (show _ ≤ _ by have := HP90.out; omega)
      have HS255 : Hid (sz ≤ 255) := (show _ ≤ _ by omega)
      have HIT : Hid ((itP L (k + 1)).1 = (itP L k).1 ++ [pOne L p] ∧ ∀ V : Int, V = (p : Int) + 25 + (sz : Int) → Value.int .i64 V = .int .i64 (((itP L (k + 1)).2 : Nat) : Int)) := (show _ ∧ _ from ⟨by rw [itP, hp], fun V hV => congrArg _ (by rw [hV, itP, ← hp, ← hsz]; omega)⟩)
      have CAT : Hid (∀ (y : World) (V : Int), V = ((p + 24 : Nat) : Int) → Calls Try.prog 40 #[.string (str L), .int .i64 V] y fun e w' => e = .returned (.int .i64 (sz : Int)) ∧ w' = y) := fun y V hV => by
        have := at_at y L (p + 24) V (by have := HP90.out; omega) HLL.out hV
        rw [show (L.getD (p + 24) 0).toNat = sz from hsz.symm] at this
        exact this
      have HBT : Hid (Try.prog.built 44 [(0, kv (win L p 24)), (1, .string (str (win L (p + 25) sz)))] = some (ec (pOne L p).el).toArray) := (show _ = _ by rw [builtP _ _ (win_length _ _ _) rfl, pOne, ← hsz]; rfl)
      have hp8 : (p : Int) ≤ 80000 := by have := HP90.out; omega
      have hs8 : (sz : Int) ≤ 255 := by omega
      have HV25 : Hid (IntKind.i64.wrap ((p : Int) + 25) = ((p + 25 : Nat) : Int)) := (show _ = _ by rw [IntKind.wrap_i64]; omega)
      have B0 := HP.out.1.drew
      have O0 : wr.drew.ownsRow (w.heap.size + 2) 44 25 pv k (flat ((itP L k).1.map Pr.el)) := own_same HP.out.2 fun _ _ => rfl
      have c0 := HP.out.1.c0
      rw [← hp]
      clear HP hpb hp hsz hsz0 HPA
      go_upto_region 9 with (go_at_call 40; refine (CAT.out _ _ (by first | rfl | omega | (unfold wrap64; omega))).mono ?_; rintro e w1 ⟨rfl, rfl⟩)
      clear c0
      refine wp_region_noPanic ?_
      refine wp_region_held_drew (S := AnyW) (by kernel_rfl) (AnyW.any _) (fun hHeld => ?_)
      refine wpAnyH_take (i := 0) (v := ?_) rfl (by kernel_rfl) (by kernel_rfl) (by kernel_rfl) (fun _ _ _ h => h) (Or.inl ⟨by rfl, ?_⟩) hHeld ?_
      case refine_2 => (intro w hSw; go_simp; try (with_reducible rfl))
      ((try simp only); (try simp only [List.getElem_toArray]); (try simp only [List.getElem_cons_succ]); (try simp only [List.getElem_cons_zero]); (try simp only [Act.put]); (try simp only [List.setIfInBounds_toArray]); (try simp only [List.set_cons_succ]); (try simp only [List.set_cons_zero]))
      refine wpAnyH_take (i := 2) (v := ?_) rfl (by kernel_rfl) (by kernel_rfl) (by kernel_rfl) (fun _ _ _ h => h) (Or.inl ⟨by rfl, ?_⟩) hHeld ?_
      case refine_2 => (intro w hSw; go_simp; try (with_reducible rfl))
      ((try simp only); (try simp only [List.getElem_toArray]); (try simp only [List.getElem_cons_succ]); (try simp only [List.getElem_cons_zero]); (try simp only [Act.put]); (try simp only [List.setIfInBounds_toArray]); (try simp only [List.set_cons_succ]); (try simp only [List.set_cons_zero]))
      refine wpAnyH_take (i := 3) (v := ?_) rfl (by kernel_rfl) (by kernel_rfl) (by kernel_rfl) (fun _ _ _ h => h) (Or.inl ⟨by rfl, ?_⟩) hHeld ?_
      case refine_2 => (intro w hSw; go_simp; try (with_reducible rfl))
      ((try simp only); (try simp only [List.getElem_toArray]); (try simp only [List.getElem_cons_succ]); (try simp only [List.getElem_cons_zero]); (try simp only [Act.put]); (try simp only [List.setIfInBounds_toArray]); (try simp only [List.set_cons_succ]); (try simp only [List.set_cons_zero]))
      refine wpAnyH_take (i := 5) (v := ?_) rfl (by kernel_rfl) (by kernel_rfl) (by kernel_rfl) (fun _ _ _ h => h) (Or.inl ⟨by rfl, ?_⟩) hHeld ?_
      case refine_2 => (intro w hSw; go_simp; try (with_reducible rfl))
      ((try simp only); (try simp only [List.getElem_toArray]); (try simp only [List.getElem_cons_succ]); (try simp only [List.getElem_cons_zero]); (try simp only [Act.put]); (try simp only [List.setIfInBounds_toArray]); (try simp only [List.set_cons_succ]); (try simp only [List.set_cons_zero]))
      refine wpAnyH_take (i := 6) (v := ?_) rfl (by kernel_rfl) (by kernel_rfl) (by kernel_rfl) (fun _ _ _ h => h) (Or.inl ⟨by rfl, ?_⟩) hHeld ?_
      case refine_2 => (intro w hSw; go_simp; try (with_reducible rfl))
      ((try simp only); (try simp only [List.getElem_toArray]); (try simp only [List.getElem_cons_succ]); (try simp only [List.getElem_cons_zero]); (try simp only [Act.put]); (try simp only [List.setIfInBounds_toArray]); (try simp only [List.set_cons_succ]); (try simp only [List.set_cons_zero]))
      refine wpAnyH_take (i := 7) (v := ?_) rfl (by kernel_rfl) (by kernel_rfl) (by kernel_rfl) (fun _ _ _ h => h) (Or.inl ⟨by rfl, ?_⟩) hHeld ?_
      case refine_2 => (intro w hSw; go_simp; try (with_reducible rfl))
      ((try simp only); (try simp only [List.getElem_toArray]); (try simp only [List.getElem_cons_succ]); (try simp only [List.getElem_cons_zero]); (try simp only [Act.put]); (try simp only [List.setIfInBounds_toArray]); (try simp only [List.set_cons_succ]); (try simp only [List.set_cons_zero]))
      refine wpAnyH_take (i := 8) (v := ?_) rfl (by kernel_rfl) (by kernel_rfl) (by kernel_rfl) (fun _ _ _ h => h) (Or.inl ⟨by rfl, ?_⟩) hHeld ?_
      case refine_2 => (intro w hSw; go_simp; try (with_reducible rfl))
      ((try simp only); (try simp only [List.getElem_toArray]); (try simp only [List.getElem_cons_succ]); (try simp only [List.getElem_cons_zero]); (try simp only [Act.put]); (try simp only [List.setIfInBounds_toArray]); (try simp only [List.set_cons_succ]); (try simp only [List.set_cons_zero]))
      generalize w1.drew = y0 at *
      refine wpAnyH_ready (rs := [1, 4]) (by kernel_rfl) (by simp) (AllReadyH.cons rfl (fun K hK => ?_) (AllReadyH.cons rfl (fun K hK => ?_) AllReadyH.nil))
      · rw [if_pos (by rfl)]
        ((try simp only); (try simp only [List.getElem_toArray]); (try simp only [List.getElem_cons_succ]); (try simp only [List.getElem_cons_zero]); (try simp only [Act.put]); (try simp only [List.setIfInBounds_toArray]); (try simp only [List.set_cons_succ]); (try simp only [List.set_cons_zero]))
        have c1 := B0.c1
        go_simp
        refine hK.out _ _ (AnyW.any _) (fun hHeld => ?_)
        clear hK K
        ((try simp only); (try simp only [List.getElem_toArray]); (try simp only [List.getElem_cons_succ]); (try simp only [List.getElem_cons_zero]); (try simp only [Act.put]); (try simp only [List.setIfInBounds_toArray]); (try simp only [List.set_cons_succ]); (try simp only [List.set_cons_zero]))
        clear c1
        refine wpAnyH_ready (rs := [4]) (by kernel_rfl) (by simp) (AllReadyH.cons rfl (fun K hK => ?_) AllReadyH.nil)
        rw [if_pos (by rfl)]
        ((try simp only); (try simp only [List.getElem_toArray]); (try simp only [List.getElem_cons_succ]); (try simp only [List.getElem_cons_zero]); (try simp only [Act.put]); (try simp only [List.setIfInBounds_toArray]); (try simp only [List.set_cons_succ]); (try simp only [List.set_cons_zero]))
        go_simp
        refine (rkey_calls y0 L p HPB.out HLL.out).mono ?_
        rintro e y1 ⟨rfl, bl⟩
        have B1 := B0.called bl
        have O1 := own_kept O0 bl
        clear bl
        refine hK.out _ _ (AnyW.any _) (fun hHeld => ?_)
        clear hK K
        ((try simp only); (try simp only [List.getElem_toArray]); (try simp only [List.getElem_cons_succ]); (try simp only [List.getElem_cons_zero]); (try simp only [Act.put]); (try simp only [List.setIfInBounds_toArray]); (try simp only [List.set_cons_succ]); (try simp only [List.set_cons_zero]))
        refine wpAnyH_ready (rs := [9]) (by kernel_rfl) (by simp) (AllReadyH.cons rfl (fun K hK => ?_) AllReadyH.nil)
        rw [if_pos (by rfl)]
        ((try simp only); (try simp only [List.getElem_toArray]); (try simp only [List.getElem_cons_succ]); (try simp only [List.getElem_cons_zero]); (try simp only [Act.put]); (try simp only [List.setIfInBounds_toArray]); (try simp only [List.set_cons_succ]); (try simp only [List.set_cons_zero]))
        go_simp
        refine (text_at y1 L (p + 25) sz _ HPB2.out HS255.out HLL.out (by first | rfl | exact HV25.out | omega)).mono ?_
        rintro e y2 ⟨rfl, bl⟩
        have B2 := B1.called bl
        have O2 := own_kept O1 bl
        clear bl
        refine hK.out _ _ (AnyW.any _) (fun hHeld => ?_)
        clear hK K
        ((try simp only); (try simp only [List.getElem_toArray]); (try simp only [List.getElem_cons_succ]); (try simp only [List.getElem_cons_zero]); (try simp only [Act.put]); (try simp only [List.setIfInBounds_toArray]); (try simp only [List.set_cons_succ]); (try simp only [List.set_cons_zero]))
        refine wpAnyH_take (i := 10) (v := ev (pOne L p).el) rfl (by kernel_rfl) (by kernel_rfl) (by kernel_rfl) (fun _ _ _ h => h) (Or.inl ⟨by rfl, fun _ _ => build_run 44 _ rfl [(0, kv (win L p 24)), (1, .string (str (win L (p + 25) sz)))] (by simp only [List.map_toArray, List.map_cons, List.map_nil]; rfl) _ (HBT.out)⟩) hHeld ?_
        ((try simp only); (try simp only [List.getElem_toArray]); (try simp only [List.getElem_cons_succ]); (try simp only [List.getElem_cons_zero]); (try simp only [Act.put]); (try simp only [List.setIfInBounds_toArray]); (try simp only [List.set_cons_succ]); (try simp only [List.set_cons_zero]))
        refine wpAnyH_ready (rs := [11]) (by kernel_rfl) (by simp) (AllReadyH.cons rfl (fun K hK => ?_) AllReadyH.nil)
        rw [if_pos (by rfl)]
        ((try simp only); (try simp only [List.getElem_toArray]); (try simp only [List.getElem_cons_succ]); (try simp only [List.getElem_cons_zero]); (try simp only [Act.put]); (try simp only [List.setIfInBounds_toArray]); (try simp only [List.set_cons_succ]); (try simp only [List.set_cons_zero]))
        refine wp_buildSliceTo 22 44 1 _ rfl Try.underlying22 (ec (pOne L p).el).toArray (by simp only [List.map_toArray, List.map_cons, List.map_nil]; exact slice_one _ _ _ Try.row_P rfl _ (Pr.ok_el (win_length _ _ _))) ?_
        have bl : Below y2.heap.size y2 (y2.alloc (.cells (ec (pOne L p).el).toArray 44)) := (Below.refl _ _).alloc (Nat.le_refl _) _
        have B3 := B2.called bl
        have O3 := own_kept O2 bl
        have RW : (y2.alloc (.cells (ec (pOne L p).el).toArray 44)).rangeAt y2.heap.size 0 (ec (pOne L p).el) := (HasP.new y2 (pOne L p).el _ rfl (Pr.ok_el (win_length _ _ _))).range
        clear bl
        refine hK.out _ _ (AnyW.any _) (fun hHeld => ?_)
        clear hK K
        ((try simp only); (try simp only [List.getElem_toArray]); (try simp only [List.getElem_cons_succ]); (try simp only [List.getElem_cons_zero]); (try simp only [Act.put]); (try simp only [List.setIfInBounds_toArray]); (try simp only [List.set_cons_succ]); (try simp only [List.set_cons_zero]))
        generalize y2.heap.size = d9 at *
        generalize y2.alloc (.cells (ec (pOne L p).el).toArray 44) = y3 at *
        refine wpAnyH_ready (rs := [12]) (by kernel_rfl) (by simp) (AllReadyH.cons rfl (fun K hK => ?_) AllReadyH.nil)
        rw [if_pos (by rfl)]
        ((try simp only); (try simp only [List.getElem_toArray]); (try simp only [List.getElem_cons_succ]); (try simp only [List.getElem_cons_zero]); (try simp only [Act.put]); (try simp only [List.setIfInBounds_toArray]); (try simp only [List.set_cons_succ]); (try simp only [List.set_cons_zero]))
        obtain ⟨i0, hi, hz0, hz1, hz2⟩ := info_parts Try.row_P
        refine wp_append_own _ (.tmp 31) (.tmp 41) 22 rfl (w.heap.size + 2) 44 i0 (.agg (ec nilP).toArray) 25 40 Try.underlying22 hi hz0 hz1 hz2 rfl (by decide) pv k _ rfl O3 ⟨d9, 0, none⟩ 1 1 (ec (pOne L p).el) rfl (by rw [ec_length (Pr.ok_el (win_length _ _ _))]) (fun j u hu => by rw [add_lit]; exact RW j u hu) (ec_one (Pr.ok_el (win_length _ _ _))) HM.out.1 HM.out.2 (by have := B3.n.lt; omega) ?_
        intro pv' y4 ow gr _
        obtain ⟨a', c', rfl⟩ := own_slice ow
        clear hi hz0 hz1 hz2
        have B4 := B3.grew gr (fun q hq => (O3.lt q hq).1)
        have ON0 : y4.ownsRow (w.heap.size + 2) 44 25 (.slice a' (k + 1) c') (k + 1) (flat (((itP L k).1 ++ [pOne L p]).map Pr.el)) := by rw [flat_Pr]; exact ow
        clear ow gr RW O3
        refine hK.out _ _ (AnyW.any _) (fun hHeld => ?_)
        clear hK K
        ((try simp only); (try simp only [List.getElem_toArray]); (try simp only [List.getElem_cons_succ]); (try simp only [List.getElem_cons_zero]); (try simp only [Act.put]); (try simp only [List.setIfInBounds_toArray]); (try simp only [List.set_cons_succ]); (try simp only [List.set_cons_zero]))
        refine wpAnyH_take (i := 13) (v := ?_) rfl (by kernel_rfl) (by kernel_rfl) (by kernel_rfl) (fun _ _ _ h => h) (Or.inl ⟨by rfl, ?_⟩) hHeld ?_
        case refine_2 => (intro w hSw; go_simp; try (with_reducible rfl))
        ((try simp only); (try simp only [List.getElem_toArray]); (try simp only [List.getElem_cons_succ]); (try simp only [List.getElem_cons_zero]); (try simp only [Act.put]); (try simp only [List.setIfInBounds_toArray]); (try simp only [List.set_cons_succ]); (try simp only [List.set_cons_zero]))
        refine wpAnyH_ready (rs := [14]) (by kernel_rfl) (by simp) (AllReadyH.cons rfl (fun K hK => ?_) AllReadyH.nil)
        rw [if_pos (by rfl)]
        ((try simp only); (try simp only [List.getElem_toArray]); (try simp only [List.getElem_cons_succ]); (try simp only [List.getElem_cons_zero]); (try simp only [Act.put]); (try simp only [List.setIfInBounds_toArray]); (try simp only [List.set_cons_succ]); (try simp only [List.set_cons_zero]))
        have c1 := B4.c1
        have f1 := B4.n.free 1
        have BN0 := B4.set1 ((itP L k).1 ++ [pOne L p]) (.slice a' (k + 1) c') (own_one ON0)
        have ON := own_set (b := w.heap.size + 1) (j := 1) (u := (.slice a' (k + 1) c')) ON0 (Nat.lt_succ_self _)
        go_simp
        refine hK.out _ _ (AnyW.any _) (fun hHeld => ?_)
        clear hK K
        ((try simp only); (try simp only [List.getElem_toArray]); (try simp only [List.getElem_cons_succ]); (try simp only [List.getElem_cons_zero]); (try simp only [Act.put]); (try simp only [List.setIfInBounds_toArray]); (try simp only [List.set_cons_succ]); (try simp only [List.set_cons_zero]))
        clear c1 f1 ON0
        have BN := BN0
        clear BN0
        generalize y4.setCell ⟨w.heap.size + 1, 1, none⟩ (.slice a' (k + 1) c') = y5 at *
        refine wpAnyH_done (by kernel_rfl) ?_ _
        refine NoPanic.normal ?_
        have HNEW : Hid (OS w y5 0 ((itP L k).1 ++ [pOne L p]) [] (.slice a' (k + 1) c') (.slice none 0 0) ∧ y5.ownsRow (w.heap.size + 2) 44 25 (.slice a' (k + 1) c') (k + 1) (flat (((itP L k).1 ++ [pOne L p]).map Pr.el))) := ⟨BN, ON⟩
        clear BN ON hHeld
        go_wp2_with fail
        go_roundg g
        case measure => omega
        case rel => exact ⟨k + 1, (.slice a' (k + 1) c'), by omega, HIT.out.2 _ (by first | rfl | omega | (unfold wrap64; omega)), num_succ' HK.out, (by rw [HIT.out.1]; exact HNEW.out)⟩
      · rw [if_pos (by rfl)]
        ((try simp only); (try simp only [List.getElem_toArray]); (try simp only [List.getElem_cons_succ]); (try simp only [List.getElem_cons_zero]); (try simp only [Act.put]); (try simp only [List.setIfInBounds_toArray]); (try simp only [List.set_cons_succ]); (try simp only [List.set_cons_zero]))
        go_simp
        refine (rkey_calls y0 L p HPB.out HLL.out).mono ?_
        rintro e y1 ⟨rfl, bl⟩
        have B1 := B0.called bl
        have O1 := own_kept O0 bl
        clear bl
        refine hK.out _ _ (AnyW.any _) (fun hHeld => ?_)
        clear hK K
        ((try simp only); (try simp only [List.getElem_toArray]); (try simp only [List.getElem_cons_succ]); (try simp only [List.getElem_cons_zero]); (try simp only [Act.put]); (try simp only [List.setIfInBounds_toArray]); (try simp only [List.set_cons_succ]); (try simp only [List.set_cons_zero]))
        refine wpAnyH_ready (rs := [1, 9]) (by kernel_rfl) (by simp) (AllReadyH.cons rfl (fun K hK => ?_) (AllReadyH.cons rfl (fun K hK => ?_) AllReadyH.nil))
        · rw [if_pos (by rfl)]
          ((try simp only); (try simp only [List.getElem_toArray]); (try simp only [List.getElem_cons_succ]); (try simp only [List.getElem_cons_zero]); (try simp only [Act.put]); (try simp only [List.setIfInBounds_toArray]); (try simp only [List.set_cons_succ]); (try simp only [List.set_cons_zero]))
          have c1 := B1.c1
          go_simp
          refine hK.out _ _ (AnyW.any _) (fun hHeld => ?_)
          clear hK K
          ((try simp only); (try simp only [List.getElem_toArray]); (try simp only [List.getElem_cons_succ]); (try simp only [List.getElem_cons_zero]); (try simp only [Act.put]); (try simp only [List.setIfInBounds_toArray]); (try simp only [List.set_cons_succ]); (try simp only [List.set_cons_zero]))
          clear c1
          refine wpAnyH_ready (rs := [9]) (by kernel_rfl) (by simp) (AllReadyH.cons rfl (fun K hK => ?_) AllReadyH.nil)
          rw [if_pos (by rfl)]
          ((try simp only); (try simp only [List.getElem_toArray]); (try simp only [List.getElem_cons_succ]); (try simp only [List.getElem_cons_zero]); (try simp only [Act.put]); (try simp only [List.setIfInBounds_toArray]); (try simp only [List.set_cons_succ]); (try simp only [List.set_cons_zero]))
          go_simp
          refine (text_at y1 L (p + 25) sz _ HPB2.out HS255.out HLL.out (by first | rfl | exact HV25.out | omega)).mono ?_
          rintro e y2 ⟨rfl, bl⟩
          have B2 := B1.called bl
          have O2 := own_kept O1 bl
          clear bl
          refine hK.out _ _ (AnyW.any _) (fun hHeld => ?_)
          clear hK K
          ((try simp only); (try simp only [List.getElem_toArray]); (try simp only [List.getElem_cons_succ]); (try simp only [List.getElem_cons_zero]); (try simp only [Act.put]); (try simp only [List.setIfInBounds_toArray]); (try simp only [List.set_cons_succ]); (try simp only [List.set_cons_zero]))
          refine wpAnyH_take (i := 10) (v := ev (pOne L p).el) rfl (by kernel_rfl) (by kernel_rfl) (by kernel_rfl) (fun _ _ _ h => h) (Or.inl ⟨by rfl, fun _ _ => build_run 44 _ rfl [(0, kv (win L p 24)), (1, .string (str (win L (p + 25) sz)))] (by simp only [List.map_toArray, List.map_cons, List.map_nil]; rfl) _ (HBT.out)⟩) hHeld ?_
          ((try simp only); (try simp only [List.getElem_toArray]); (try simp only [List.getElem_cons_succ]); (try simp only [List.getElem_cons_zero]); (try simp only [Act.put]); (try simp only [List.setIfInBounds_toArray]); (try simp only [List.set_cons_succ]); (try simp only [List.set_cons_zero]))
          refine wpAnyH_ready (rs := [11]) (by kernel_rfl) (by simp) (AllReadyH.cons rfl (fun K hK => ?_) AllReadyH.nil)
          rw [if_pos (by rfl)]
          ((try simp only); (try simp only [List.getElem_toArray]); (try simp only [List.getElem_cons_succ]); (try simp only [List.getElem_cons_zero]); (try simp only [Act.put]); (try simp only [List.setIfInBounds_toArray]); (try simp only [List.set_cons_succ]); (try simp only [List.set_cons_zero]))
          refine wp_buildSliceTo 22 44 1 _ rfl Try.underlying22 (ec (pOne L p).el).toArray (by simp only [List.map_toArray, List.map_cons, List.map_nil]; exact slice_one _ _ _ Try.row_P rfl _ (Pr.ok_el (win_length _ _ _))) ?_
          have bl : Below y2.heap.size y2 (y2.alloc (.cells (ec (pOne L p).el).toArray 44)) := (Below.refl _ _).alloc (Nat.le_refl _) _
          have B3 := B2.called bl
          have O3 := own_kept O2 bl
          have RW : (y2.alloc (.cells (ec (pOne L p).el).toArray 44)).rangeAt y2.heap.size 0 (ec (pOne L p).el) := (HasP.new y2 (pOne L p).el _ rfl (Pr.ok_el (win_length _ _ _))).range
          clear bl
          refine hK.out _ _ (AnyW.any _) (fun hHeld => ?_)
          clear hK K
          ((try simp only); (try simp only [List.getElem_toArray]); (try simp only [List.getElem_cons_succ]); (try simp only [List.getElem_cons_zero]); (try simp only [Act.put]); (try simp only [List.setIfInBounds_toArray]); (try simp only [List.set_cons_succ]); (try simp only [List.set_cons_zero]))
          generalize y2.heap.size = d9 at *
          generalize y2.alloc (.cells (ec (pOne L p).el).toArray 44) = y3 at *
          refine wpAnyH_ready (rs := [12]) (by kernel_rfl) (by simp) (AllReadyH.cons rfl (fun K hK => ?_) AllReadyH.nil)
          rw [if_pos (by rfl)]
          ((try simp only); (try simp only [List.getElem_toArray]); (try simp only [List.getElem_cons_succ]); (try simp only [List.getElem_cons_zero]); (try simp only [Act.put]); (try simp only [List.setIfInBounds_toArray]); (try simp only [List.set_cons_succ]); (try simp only [List.set_cons_zero]))
          obtain ⟨i0, hi, hz0, hz1, hz2⟩ := info_parts Try.row_P
          refine wp_append_own _ (.tmp 31) (.tmp 41) 22 rfl (w.heap.size + 2) 44 i0 (.agg (ec nilP).toArray) 25 40 Try.underlying22 hi hz0 hz1 hz2 rfl (by decide) pv k _ rfl O3 ⟨d9, 0, none⟩ 1 1 (ec (pOne L p).el) rfl (by rw [ec_length (Pr.ok_el (win_length _ _ _))]) (fun j u hu => by rw [add_lit]; exact RW j u hu) (ec_one (Pr.ok_el (win_length _ _ _))) HM.out.1 HM.out.2 (by have := B3.n.lt; omega) ?_
          intro pv' y4 ow gr _
          obtain ⟨a', c', rfl⟩ := own_slice ow
          clear hi hz0 hz1 hz2
          have B4 := B3.grew gr (fun q hq => (O3.lt q hq).1)
          have ON0 : y4.ownsRow (w.heap.size + 2) 44 25 (.slice a' (k + 1) c') (k + 1) (flat (((itP L k).1 ++ [pOne L p]).map Pr.el)) := by rw [flat_Pr]; exact ow
          clear ow gr RW O3
          refine hK.out _ _ (AnyW.any _) (fun hHeld => ?_)
          clear hK K
          ((try simp only); (try simp only [List.getElem_toArray]); (try simp only [List.getElem_cons_succ]); (try simp only [List.getElem_cons_zero]); (try simp only [Act.put]); (try simp only [List.setIfInBounds_toArray]); (try simp only [List.set_cons_succ]); (try simp only [List.set_cons_zero]))
          refine wpAnyH_take (i := 13) (v := ?_) rfl (by kernel_rfl) (by kernel_rfl) (by kernel_rfl) (fun _ _ _ h => h) (Or.inl ⟨by rfl, ?_⟩) hHeld ?_
          case refine_2 => (intro w hSw; go_simp; try (with_reducible rfl))
          ((try simp only); (try simp only [List.getElem_toArray]); (try simp only [List.getElem_cons_succ]); (try simp only [List.getElem_cons_zero]); (try simp only [Act.put]); (try simp only [List.setIfInBounds_toArray]); (try simp only [List.set_cons_succ]); (try simp only [List.set_cons_zero]))
          refine wpAnyH_ready (rs := [14]) (by kernel_rfl) (by simp) (AllReadyH.cons rfl (fun K hK => ?_) AllReadyH.nil)
          rw [if_pos (by rfl)]
          ((try simp only); (try simp only [List.getElem_toArray]); (try simp only [List.getElem_cons_succ]); (try simp only [List.getElem_cons_zero]); (try simp only [Act.put]); (try simp only [List.setIfInBounds_toArray]); (try simp only [List.set_cons_succ]); (try simp only [List.set_cons_zero]))
          have c1 := B4.c1
          have f1 := B4.n.free 1
          have BN0 := B4.set1 ((itP L k).1 ++ [pOne L p]) (.slice a' (k + 1) c') (own_one ON0)
          have ON := own_set (b := w.heap.size + 1) (j := 1) (u := (.slice a' (k + 1) c')) ON0 (Nat.lt_succ_self _)
          go_simp
          refine hK.out _ _ (AnyW.any _) (fun hHeld => ?_)
          clear hK K
          ((try simp only); (try simp only [List.getElem_toArray]); (try simp only [List.getElem_cons_succ]); (try simp only [List.getElem_cons_zero]); (try simp only [Act.put]); (try simp only [List.setIfInBounds_toArray]); (try simp only [List.set_cons_succ]); (try simp only [List.set_cons_zero]))
          clear c1 f1 ON0
          have BN := BN0
          clear BN0
          generalize y4.setCell ⟨w.heap.size + 1, 1, none⟩ (.slice a' (k + 1) c') = y5 at *
          refine wpAnyH_done (by kernel_rfl) ?_ _
          refine NoPanic.normal ?_
          have HNEW : Hid (OS w y5 0 ((itP L k).1 ++ [pOne L p]) [] (.slice a' (k + 1) c') (.slice none 0 0) ∧ y5.ownsRow (w.heap.size + 2) 44 25 (.slice a' (k + 1) c') (k + 1) (flat (((itP L k).1 ++ [pOne L p]).map Pr.el))) := ⟨BN, ON⟩
          clear BN ON hHeld
          go_wp2_with fail
          go_roundg g
          case measure => omega
          case rel => exact ⟨k + 1, (.slice a' (k + 1) c'), by omega, HIT.out.2 _ (by first | rfl | omega | (unfold wrap64; omega)), num_succ' HK.out, (by rw [HIT.out.1]; exact HNEW.out)⟩
        · rw [if_pos (by rfl)]
          ((try simp only); (try simp only [List.getElem_toArray]); (try simp only [List.getElem_cons_succ]); (try simp only [List.getElem_cons_zero]); (try simp only [Act.put]); (try simp only [List.setIfInBounds_toArray]); (try simp only [List.set_cons_succ]); (try simp only [List.set_cons_zero]))
          go_simp
          refine (text_at y1 L (p + 25) sz _ HPB2.out HS255.out HLL.out (by first | rfl | exact HV25.out | omega)).mono ?_
          rintro e y2 ⟨rfl, bl⟩
          have B2 := B1.called bl
          have O2 := own_kept O1 bl
          clear bl
          refine hK.out _ _ (AnyW.any _) (fun hHeld => ?_)
          clear hK K
          ((try simp only); (try simp only [List.getElem_toArray]); (try simp only [List.getElem_cons_succ]); (try simp only [List.getElem_cons_zero]); (try simp only [Act.put]); (try simp only [List.setIfInBounds_toArray]); (try simp only [List.set_cons_succ]); (try simp only [List.set_cons_zero]))
          refine wpAnyH_take (i := 10) (v := ev (pOne L p).el) rfl (by kernel_rfl) (by kernel_rfl) (by kernel_rfl) (fun _ _ _ h => h) (Or.inl ⟨by rfl, fun _ _ => build_run 44 _ rfl [(0, kv (win L p 24)), (1, .string (str (win L (p + 25) sz)))] (by simp only [List.map_toArray, List.map_cons, List.map_nil]; rfl) _ (HBT.out)⟩) hHeld ?_
          ((try simp only); (try simp only [List.getElem_toArray]); (try simp only [List.getElem_cons_succ]); (try simp only [List.getElem_cons_zero]); (try simp only [Act.put]); (try simp only [List.setIfInBounds_toArray]); (try simp only [List.set_cons_succ]); (try simp only [List.set_cons_zero]))
          refine wpAnyH_ready (rs := [1, 11]) (by kernel_rfl) (by simp) (AllReadyH.cons rfl (fun K hK => ?_) (AllReadyH.cons rfl (fun K hK => ?_) AllReadyH.nil))
          · rw [if_pos (by rfl)]
            ((try simp only); (try simp only [List.getElem_toArray]); (try simp only [List.getElem_cons_succ]); (try simp only [List.getElem_cons_zero]); (try simp only [Act.put]); (try simp only [List.setIfInBounds_toArray]); (try simp only [List.set_cons_succ]); (try simp only [List.set_cons_zero]))
            have c1 := B2.c1
            go_simp
            refine hK.out _ _ (AnyW.any _) (fun hHeld => ?_)
            clear hK K
            ((try simp only); (try simp only [List.getElem_toArray]); (try simp only [List.getElem_cons_succ]); (try simp only [List.getElem_cons_zero]); (try simp only [Act.put]); (try simp only [List.setIfInBounds_toArray]); (try simp only [List.set_cons_succ]); (try simp only [List.set_cons_zero]))
            clear c1
            refine wpAnyH_ready (rs := [11]) (by kernel_rfl) (by simp) (AllReadyH.cons rfl (fun K hK => ?_) AllReadyH.nil)
            rw [if_pos (by rfl)]
            ((try simp only); (try simp only [List.getElem_toArray]); (try simp only [List.getElem_cons_succ]); (try simp only [List.getElem_cons_zero]); (try simp only [Act.put]); (try simp only [List.setIfInBounds_toArray]); (try simp only [List.set_cons_succ]); (try simp only [List.set_cons_zero]))
            refine wp_buildSliceTo 22 44 1 _ rfl Try.underlying22 (ec (pOne L p).el).toArray (by simp only [List.map_toArray, List.map_cons, List.map_nil]; exact slice_one _ _ _ Try.row_P rfl _ (Pr.ok_el (win_length _ _ _))) ?_
            have bl : Below y2.heap.size y2 (y2.alloc (.cells (ec (pOne L p).el).toArray 44)) := (Below.refl _ _).alloc (Nat.le_refl _) _
            have B3 := B2.called bl
            have O3 := own_kept O2 bl
            have RW : (y2.alloc (.cells (ec (pOne L p).el).toArray 44)).rangeAt y2.heap.size 0 (ec (pOne L p).el) := (HasP.new y2 (pOne L p).el _ rfl (Pr.ok_el (win_length _ _ _))).range
            clear bl
            refine hK.out _ _ (AnyW.any _) (fun hHeld => ?_)
            clear hK K
            ((try simp only); (try simp only [List.getElem_toArray]); (try simp only [List.getElem_cons_succ]); (try simp only [List.getElem_cons_zero]); (try simp only [Act.put]); (try simp only [List.setIfInBounds_toArray]); (try simp only [List.set_cons_succ]); (try simp only [List.set_cons_zero]))
            generalize y2.heap.size = d9 at *
            generalize y2.alloc (.cells (ec (pOne L p).el).toArray 44) = y3 at *
            refine wpAnyH_ready (rs := [12]) (by kernel_rfl) (by simp) (AllReadyH.cons rfl (fun K hK => ?_) AllReadyH.nil)
            rw [if_pos (by rfl)]
            ((try simp only); (try simp only [List.getElem_toArray]); (try simp only [List.getElem_cons_succ]); (try simp only [List.getElem_cons_zero]); (try simp only [Act.put]); (try simp only [List.setIfInBounds_toArray]); (try simp only [List.set_cons_succ]); (try simp only [List.set_cons_zero]))
            obtain ⟨i0, hi, hz0, hz1, hz2⟩ := info_parts Try.row_P
            refine wp_append_own _ (.tmp 31) (.tmp 41) 22 rfl (w.heap.size + 2) 44 i0 (.agg (ec nilP).toArray) 25 40 Try.underlying22 hi hz0 hz1 hz2 rfl (by decide) pv k _ rfl O3 ⟨d9, 0, none⟩ 1 1 (ec (pOne L p).el) rfl (by rw [ec_length (Pr.ok_el (win_length _ _ _))]) (fun j u hu => by rw [add_lit]; exact RW j u hu) (ec_one (Pr.ok_el (win_length _ _ _))) HM.out.1 HM.out.2 (by have := B3.n.lt; omega) ?_
            intro pv' y4 ow gr _
            obtain ⟨a', c', rfl⟩ := own_slice ow
            clear hi hz0 hz1 hz2
            have B4 := B3.grew gr (fun q hq => (O3.lt q hq).1)
            have ON0 : y4.ownsRow (w.heap.size + 2) 44 25 (.slice a' (k + 1) c') (k + 1) (flat (((itP L k).1 ++ [pOne L p]).map Pr.el)) := by rw [flat_Pr]; exact ow
            clear ow gr RW O3
            refine hK.out _ _ (AnyW.any _) (fun hHeld => ?_)
            clear hK K
            ((try simp only); (try simp only [List.getElem_toArray]); (try simp only [List.getElem_cons_succ]); (try simp only [List.getElem_cons_zero]); (try simp only [Act.put]); (try simp only [List.setIfInBounds_toArray]); (try simp only [List.set_cons_succ]); (try simp only [List.set_cons_zero]))
            refine wpAnyH_take (i := 13) (v := ?_) rfl (by kernel_rfl) (by kernel_rfl) (by kernel_rfl) (fun _ _ _ h => h) (Or.inl ⟨by rfl, ?_⟩) hHeld ?_
            case refine_2 => (intro w hSw; go_simp; try (with_reducible rfl))
            ((try simp only); (try simp only [List.getElem_toArray]); (try simp only [List.getElem_cons_succ]); (try simp only [List.getElem_cons_zero]); (try simp only [Act.put]); (try simp only [List.setIfInBounds_toArray]); (try simp only [List.set_cons_succ]); (try simp only [List.set_cons_zero]))
            refine wpAnyH_ready (rs := [14]) (by kernel_rfl) (by simp) (AllReadyH.cons rfl (fun K hK => ?_) AllReadyH.nil)
            rw [if_pos (by rfl)]
            ((try simp only); (try simp only [List.getElem_toArray]); (try simp only [List.getElem_cons_succ]); (try simp only [List.getElem_cons_zero]); (try simp only [Act.put]); (try simp only [List.setIfInBounds_toArray]); (try simp only [List.set_cons_succ]); (try simp only [List.set_cons_zero]))
            have c1 := B4.c1
            have f1 := B4.n.free 1
            have BN0 := B4.set1 ((itP L k).1 ++ [pOne L p]) (.slice a' (k + 1) c') (own_one ON0)
            have ON := own_set (b := w.heap.size + 1) (j := 1) (u := (.slice a' (k + 1) c')) ON0 (Nat.lt_succ_self _)
            go_simp
            refine hK.out _ _ (AnyW.any _) (fun hHeld => ?_)
            clear hK K
            ((try simp only); (try simp only [List.getElem_toArray]); (try simp only [List.getElem_cons_succ]); (try simp only [List.getElem_cons_zero]); (try simp only [Act.put]); (try simp only [List.setIfInBounds_toArray]); (try simp only [List.set_cons_succ]); (try simp only [List.set_cons_zero]))
            clear c1 f1 ON0
            have BN := BN0
            clear BN0
            generalize y4.setCell ⟨w.heap.size + 1, 1, none⟩ (.slice a' (k + 1) c') = y5 at *
            refine wpAnyH_done (by kernel_rfl) ?_ _
            refine NoPanic.normal ?_
            have HNEW : Hid (OS w y5 0 ((itP L k).1 ++ [pOne L p]) [] (.slice a' (k + 1) c') (.slice none 0 0) ∧ y5.ownsRow (w.heap.size + 2) 44 25 (.slice a' (k + 1) c') (k + 1) (flat (((itP L k).1 ++ [pOne L p]).map Pr.el))) := ⟨BN, ON⟩
            clear BN ON hHeld
            go_wp2_with fail
            go_roundg g
            case measure => omega
            case rel => exact ⟨k + 1, (.slice a' (k + 1) c'), by omega, HIT.out.2 _ (by first | rfl | omega | (unfold wrap64; omega)), num_succ' HK.out, (by rw [HIT.out.1]; exact HNEW.out)⟩
          · rw [if_pos (by rfl)]
            ((try simp only); (try simp only [List.getElem_toArray]); (try simp only [List.getElem_cons_succ]); (try simp only [List.getElem_cons_zero]); (try simp only [Act.put]); (try simp only [List.setIfInBounds_toArray]); (try simp only [List.set_cons_succ]); (try simp only [List.set_cons_zero]))
            refine wp_buildSliceTo 22 44 1 _ rfl Try.underlying22 (ec (pOne L p).el).toArray (by simp only [List.map_toArray, List.map_cons, List.map_nil]; exact slice_one _ _ _ Try.row_P rfl _ (Pr.ok_el (win_length _ _ _))) ?_
            have bl : Below y2.heap.size y2 (y2.alloc (.cells (ec (pOne L p).el).toArray 44)) := (Below.refl _ _).alloc (Nat.le_refl _) _
            have B3 := B2.called bl
            have O3 := own_kept O2 bl
            have RW : (y2.alloc (.cells (ec (pOne L p).el).toArray 44)).rangeAt y2.heap.size 0 (ec (pOne L p).el) := (HasP.new y2 (pOne L p).el _ rfl (Pr.ok_el (win_length _ _ _))).range
            clear bl
            refine hK.out _ _ (AnyW.any _) (fun hHeld => ?_)
            clear hK K
            ((try simp only); (try simp only [List.getElem_toArray]); (try simp only [List.getElem_cons_succ]); (try simp only [List.getElem_cons_zero]); (try simp only [Act.put]); (try simp only [List.setIfInBounds_toArray]); (try simp only [List.set_cons_succ]); (try simp only [List.set_cons_zero]))
            generalize y2.heap.size = d9 at *
            generalize y2.alloc (.cells (ec (pOne L p).el).toArray 44) = y3 at *
            refine wpAnyH_ready (rs := [1]) (by kernel_rfl) (by simp) (AllReadyH.cons rfl (fun K hK => ?_) AllReadyH.nil)
            rw [if_pos (by rfl)]
            ((try simp only); (try simp only [List.getElem_toArray]); (try simp only [List.getElem_cons_succ]); (try simp only [List.getElem_cons_zero]); (try simp only [Act.put]); (try simp only [List.setIfInBounds_toArray]); (try simp only [List.set_cons_succ]); (try simp only [List.set_cons_zero]))
            have c1 := B3.c1
            go_simp
            refine hK.out _ _ (AnyW.any _) (fun hHeld => ?_)
            clear hK K
            ((try simp only); (try simp only [List.getElem_toArray]); (try simp only [List.getElem_cons_succ]); (try simp only [List.getElem_cons_zero]); (try simp only [Act.put]); (try simp only [List.setIfInBounds_toArray]); (try simp only [List.set_cons_succ]); (try simp only [List.set_cons_zero]))
            clear c1
            refine wpAnyH_ready (rs := [12]) (by kernel_rfl) (by simp) (AllReadyH.cons rfl (fun K hK => ?_) AllReadyH.nil)
            rw [if_pos (by rfl)]
            ((try simp only); (try simp only [List.getElem_toArray]); (try simp only [List.getElem_cons_succ]); (try simp only [List.getElem_cons_zero]); (try simp only [Act.put]); (try simp only [List.setIfInBounds_toArray]); (try simp only [List.set_cons_succ]); (try simp only [List.set_cons_zero]))
            obtain ⟨i0, hi, hz0, hz1, hz2⟩ := info_parts Try.row_P
            refine wp_append_own _ (.tmp 31) (.tmp 41) 22 rfl (w.heap.size + 2) 44 i0 (.agg (ec nilP).toArray) 25 40 Try.underlying22 hi hz0 hz1 hz2 rfl (by decide) pv k _ rfl O3 ⟨d9, 0, none⟩ 1 1 (ec (pOne L p).el) rfl (by rw [ec_length (Pr.ok_el (win_length _ _ _))]) (fun j u hu => by rw [add_lit]; exact RW j u hu) (ec_one (Pr.ok_el (win_length _ _ _))) HM.out.1 HM.out.2 (by have := B3.n.lt; omega) ?_
            intro pv' y4 ow gr _
            obtain ⟨a', c', rfl⟩ := own_slice ow
            clear hi hz0 hz1 hz2
            have B4 := B3.grew gr (fun q hq => (O3.lt q hq).1)
            have ON0 : y4.ownsRow (w.heap.size + 2) 44 25 (.slice a' (k + 1) c') (k + 1) (flat (((itP L k).1 ++ [pOne L p]).map Pr.el)) := by rw [flat_Pr]; exact ow
            clear ow gr RW O3
            refine hK.out _ _ (AnyW.any _) (fun hHeld => ?_)
            clear hK K
            ((try simp only); (try simp only [List.getElem_toArray]); (try simp only [List.getElem_cons_succ]); (try simp only [List.getElem_cons_zero]); (try simp only [Act.put]); (try simp only [List.setIfInBounds_toArray]); (try simp only [List.set_cons_succ]); (try simp only [List.set_cons_zero]))
            refine wpAnyH_take (i := 13) (v := ?_) rfl (by kernel_rfl) (by kernel_rfl) (by kernel_rfl) (fun _ _ _ h => h) (Or.inl ⟨by rfl, ?_⟩) hHeld ?_
            case refine_2 => (intro w hSw; go_simp; try (with_reducible rfl))
            ((try simp only); (try simp only [List.getElem_toArray]); (try simp only [List.getElem_cons_succ]); (try simp only [List.getElem_cons_zero]); (try simp only [Act.put]); (try simp only [List.setIfInBounds_toArray]); (try simp only [List.set_cons_succ]); (try simp only [List.set_cons_zero]))
            refine wpAnyH_ready (rs := [14]) (by kernel_rfl) (by simp) (AllReadyH.cons rfl (fun K hK => ?_) AllReadyH.nil)
            rw [if_pos (by rfl)]
            ((try simp only); (try simp only [List.getElem_toArray]); (try simp only [List.getElem_cons_succ]); (try simp only [List.getElem_cons_zero]); (try simp only [Act.put]); (try simp only [List.setIfInBounds_toArray]); (try simp only [List.set_cons_succ]); (try simp only [List.set_cons_zero]))
            have c1 := B4.c1
            have f1 := B4.n.free 1
            have BN0 := B4.set1 ((itP L k).1 ++ [pOne L p]) (.slice a' (k + 1) c') (own_one ON0)
            have ON := own_set (b := w.heap.size + 1) (j := 1) (u := (.slice a' (k + 1) c')) ON0 (Nat.lt_succ_self _)
            go_simp
            refine hK.out _ _ (AnyW.any _) (fun hHeld => ?_)
            clear hK K
            ((try simp only); (try simp only [List.getElem_toArray]); (try simp only [List.getElem_cons_succ]); (try simp only [List.getElem_cons_zero]); (try simp only [Act.put]); (try simp only [List.setIfInBounds_toArray]); (try simp only [List.set_cons_succ]); (try simp only [List.set_cons_zero]))
            clear c1 f1 ON0
            have BN := BN0
            clear BN0
            generalize y4.setCell ⟨w.heap.size + 1, 1, none⟩ (.slice a' (k + 1) c') = y5 at *
            refine wpAnyH_done (by kernel_rfl) ?_ _
            refine NoPanic.normal ?_
            have HNEW : Hid (OS w y5 0 ((itP L k).1 ++ [pOne L p]) [] (.slice a' (k + 1) c') (.slice none 0 0) ∧ y5.ownsRow (w.heap.size + 2) 44 25 (.slice a' (k + 1) c') (k + 1) (flat (((itP L k).1 ++ [pOne L p]).map Pr.el))) := ⟨BN, ON⟩
            clear BN ON hHeld
            go_wp2_with fail
            go_roundg g
            case measure => omega
            case rel => exact ⟨k + 1, (.slice a' (k + 1) c'), by omega, HIT.out.2 _ (by first | rfl | omega | (unfold wrap64; omega)), num_succ' HK.out, (by rw [HIT.out.1]; exact HNEW.out)⟩
    | zero =>
      have hkN : ¬ (k : Int) < (N : Int) := by omega
      obtain rfl : k = N := by omega
      clear hkg
      have HPT : Hid (Parts wr (parse L) pv (.slice none 0 0) ∧ OS w wr (parse L).lv (parse L).ps (parse L).ks pv (.slice none 0 0)) := (show _ ∧ _ by
        rw [HPA.out]
        exact ⟨⟨(own_els HP.out.2 (by simp [itP_length]) (okPr (itP_keyed L k))).els, Els.nil _⟩, HP.out.1⟩)
      have HGE : Hid (PartsGe wr (w.heap.size + 2) (parse L) pv (.slice none 0 0)) := (show PartsGe _ _ _ _ _ by
        rw [HPA.out]
        exact PartsGe.mk (own_els HP.out.2 (by simp [itP_length]) (okPr (itP_keyed L k))).1 (nilElsN wr _))
      obtain ⟨pa, pc, rfl⟩ := own_slice HP.out.2
      clear HP HPA
      have hcall := rbytes_calls wr (parse L) (.slice pa k pc) (.slice none 0 0) HPT.out.1
      have HOF : Hid (ofN L = if rightN (parse L) = true ∧ enc (parse L) = L then some (parse L) else none) := parse_of L
      have HUW : Hid (HasN wr (w.heap.size + 1) (parse L) (.slice pa k pc) (.slice none 0 0)) := HPT.out.2.n
      have ZW : HasN wr w.heap.size nilN (.slice none 0 0) (.slice none 0 0) := HPT.out.2.r
      have BW := HPT.out.2.bel
      have HPS : Hid (Parts wr (parse L) (.slice pa k pc) (.slice none 0 0)) := HPT.out.1
      have HPG : Hid (PartsGe wr (w.heap.size + 2) (parse L) (.slice pa k pc) (.slice none 0 0)) := HGE.out
      clear HPT HGE
      generalize parse L = X at *
      cases hr : rightN X with
      | false =>
        have HR : Hid (rightN X = false) := hr
        have HO2 : Hid (ofN L = none) := (show _ = _ by rw [HOF.out, if_neg (by rw [hr]; simp)])
        clear hr
        go_upto_region 19 with (first
          | (refine load_node _ rfl (w.heap.size + 1) rfl rfl _ _ _ HUW.out ?_)
          | (go_at_call 7; refine hcall.mono ?_; rintro e w6 ⟨b6, ⟨_, rfl⟩ | ⟨hf, _⟩⟩; rotate_left; · rw [HR.out] at hf; cases hf))
        have Z6 := ZW.below b6 ZW.lt
        have B6 : Below w.heap.size w w6 := BW.trans (b6.mono BW.size)
        clear HUW ZW BW hcall HPS HPG
        go_wp2_with (first
          | (refine build_any rfl 25 _ rfl [] rfl _ Try.node0 ?_)
          | (refine store_node rfl _ _ rfl w.heap.size rfl nilN (.slice none 0 0) (.slice none 0 0) rfl rfl rfl nilN (.slice none 0 0) (.slice none 0 0) Z6 ?_; intro y hy ty sy))
        refine ret_node_ok rfl _ _ _ _ _ rfl rfl hy rfl ?_
        rw [HO2.out]
        exact ⟨_, _, rfl, Parts.nil _, below_touched B6 ty (Nat.le_refl _) (Nat.le_refl _)⟩
      | true =>
        have HR : Hid (rightN X = true) := hr
        go_upto_region 19 with (first
          | (refine load_node _ rfl (w.heap.size + 1) rfl rfl _ _ _ HUW.out ?_)
          | (go_at_call 7; refine hcall.mono ?_; rintro e w6 ⟨b6, ⟨hf, _⟩ | ⟨_, rfl⟩⟩; · rw [HR.out] at hf; cases hf))
        have hst1 := str_toList (enc X)
        have hst2 := str_toList L
        have Z6 := ZW.below b6 ZW.lt
        have B6 : Below w.heap.size w w6 := BW.trans (b6.mono BW.size)
        by_cases hEL : enc X = L
        · have HO2 : Hid (ofN L = some X) := (show _ = _ by rw [HOF.out, if_pos ⟨hr, hEL⟩])
          have heq : (enc X == L) = true := by simpa using hEL
          have HE : Hid (enc X = L) := hEL
          have U6 := HUW.out.below b6 HUW.out.lt
          have HG6 := HPG.out.below b6
          clear hEL HOF hr HUW ZW BW hcall HPS HPG
          go_wp2_with (first
            | (refine load_node _ rfl (w.heap.size + 1) rfl rfl _ _ _ U6 ?_)
            | (refine store_node rfl _ _ rfl w.heap.size rfl X (.slice pa k pc) (.slice none 0 0) rfl U6.2.1 U6.2.2 nilN (.slice none 0 0) (.slice none 0 0) Z6 ?_; intro y hy ty sy))
          refine ret_node_ok rfl _ _ _ _ _ rfl rfl hy rfl ?_
          rw [HO2.out]
          exact ⟨_, _, rfl, HG6.touched ty (by omega), below_touched B6 ty (Nat.le_refl _) (Nat.le_refl _)⟩
        · have HO2 : Hid (ofN L = none) := (show _ = _ by rw [HOF.out, if_neg (fun h => hEL h.2)])
          have heq : (enc X == L) = false := by simpa using hEL
          have HE : Hid (¬ enc X = L) := hEL
          clear hEL HOF hr HUW ZW BW hcall HPS HPG
          go_wp2_with (first
            | (refine build_any rfl 25 _ rfl [] rfl _ Try.node0 ?_)
            | (refine store_node rfl _ _ rfl w.heap.size rfl nilN (.slice none 0 0) (.slice none 0 0) rfl rfl rfl nilN (.slice none 0 0) (.slice none 0 0) Z6 ?_; intro y hy ty sy))
          refine ret_node_ok rfl _ _ _ _ _ rfl rfl hy rfl ?_
          rw [HO2.out]
          exact ⟨_, _, rfl, Parts.nil _, below_touched B6 ty (Nat.le_refl _) (Nat.le_refl _)⟩
set_option maxHeartbeats 16000000 in
set_option maxRecDepth 100000 in
theorem rof_inner (w : World) (L : List UInt8) (N : Nat) (lv : Int) (hL : L.length ≤ 1000) (h0 : ¬ L.getD 2 0 = 0) (hn : (L.getD 3 0).toNat = N) (hlv : ((L.getD 2 0).toNat : Int) = lv) (hlv0 : (lv == 0) = false) : Calls Try.prog 9 #[.string (str L)] w (OfTo w (ofN L)) := by
  have HPA : Hid (parse L = ⟨lv, [], (itK L N).1⟩) := (show _ = _ by rw [parse, if_neg h0, hn, hlv])
  clear h0
  have HLL : Hid (L.length ≤ 1000) := hL
  have C2 : Hid (∀ y, Calls Try.prog 40 #[.string (str L), .int .i64 2] y fun e w' => e = .returned (.int .i64 lv) ∧ w' = y) := fun y => by
    have := at_at y L 2 2 (by omega) hL rfl
    rw [hlv] at this
    exact this
  have C3 : Hid (∀ y, Calls Try.prog 40 #[.string (str L), .int .i64 3] y fun e w' => e = .returned (.int .i64 (N : Int)) ∧ w' = y) := fun y => by
    have := at_at y L 3 3 (by omega) hL rfl
    rw [hn] at this
    exact this
  have HN2 : Hid (N < 256) := (show _ < _ by rw [← hn]; exact (L.getD 3 0).toNat_lt)
  have HN1 : Hid (HasN ((w.alloc (.cells #[.int .i64 0, .slice none 0 0, .slice none 0 0] 25)).alloc (.cells #[.int .i64 0, .slice none 0 0, .slice none 0 0] 25)) (w.heap.size + 1) nilN (.slice none 0 0) (.slice none 0 0)) := HasN.new _ nilN _ _ _ (by simp) rfl rfl
  have HR1 : Hid (HasN ((w.alloc (.cells #[.int .i64 0, .slice none 0 0, .slice none 0 0] 25)).alloc (.cells #[.int .i64 0, .slice none 0 0, .slice none 0 0] 25)) w.heap.size nilN (.slice none 0 0) (.slice none 0 0) ∧ Below w.heap.size w ((w.alloc (.cells #[.int .i64 0, .slice none 0 0, .slice none 0 0] 25)).alloc (.cells #[.int .i64 0, .slice none 0 0, .slice none 0 0] 25))) := ⟨(HasN.new w nilN _ _ _ rfl rfl rfl).alloc _, ((Below.refl _ w).alloc (Nat.le_refl _) _).alloc (by simp) _⟩
  have HNN : Hid ((L.getD 3 0).toNat = N) := hn
  have HLV : Hid (((L.getD 2 0).toNat : Int) = lv) := hlv
  clear hn hlv hL
  go_enter Try.func9, Try.ntmps9
  go_upto_region 2 with (first
    | (go_at_call 40; refine (C2.out _).mono ?_; rintro e w1 ⟨rfl, rfl⟩)
    | (refine build_any rfl 25 _ rfl [(0, .int .i64 lv)] (by simp only [List.map_toArray, List.map_cons, List.map_nil]; rfl) _ (Try.node1 lv) ?_)
    | (refine store_node rfl _ _ rfl (w.heap.size + 1) rfl ⟨lv, [], []⟩ (.slice none 0 0) (.slice none 0 0) rfl rfl rfl nilN (.slice none 0 0) (.slice none 0 0) HN1.out ?_; intro x1 hu1 tx1 sx1))
  have HX1 : Hid (OS w x1 lv [] [] (.slice none 0 0) (.slice none 0 0)) := ⟨hu1, HR1.out.1.touch tx1 (by omega), below_touched HR1.out.2 tx1 (by omega) (Nat.le_refl _)⟩
  clear hu1 tx1 sx1 HN1 HR1 C2
  go_wp2_with (go_at_call 40; refine (C3.out _).mono ?_; rintro e w1 ⟨rfl, rfl⟩)
  clear C3
  clear HLV
  go_loopg [6, 7] N (fun g i kk wr => ∃ (k : Nat) (pv : Value), k + g = N ∧ i = .int .i64 ((itK L k).2 : Int) ∧ kk = .int .i64 (k : Int) ∧ Hid (OS w wr lv [] (itK L k).1 (.slice none 0 0) pv ∧ wr.ownsRow (w.heap.size + 2) 54 25 pv k (flat ((itK L k).1.map Kd.el))))
  case atStart => exact ⟨0, _, by omega, rfl, rfl, ⟨HX1.out, World.ownsRow_nil _ _ _ _⟩⟩
  case round =>
    clear HX1
    obtain ⟨k, pv, hkg, rfl, rfl, HP⟩ := hrel
    cases gk with
    | succ g =>
      have hltI : (k : Int) < (N : Int) := by omega
      have HK : Hid (k < 256) := (show k < 256 by have := HN2.out; omega)
      have HM : Hid (k + 1 ≤ maxLen ∧ (k + 1) * 32 ≤ 140737488355328) := (show _ ∧ _ by have := HK.out; unfold maxLen; omega)
      have hpb := itK_eq L k
      obtain ⟨p, hp⟩ : ∃ p, p = (itK L k).2 := ⟨_, rfl⟩
      have HP90 : Hid (p ≤ 80000) := (show p ≤ 80000 by rw [hp]; have := HK.out; omega)
      have HPB : Hid (p ≤ 90000) := (show _ ≤ _ by have := HP90.out; omega)
      have HIT : Hid ((itK L (k + 1)).1 = (itK L k).1 ++ [kOne L p] ∧ ∀ V : Int, V = (p : Int) + 28 → Value.int .i64 V = .int .i64 (((itK L (k + 1)).2 : Nat) : Int)) := (show _ ∧ _ from ⟨by rw [itK, hp], fun V hV => congrArg _ (by rw [hV, itK, ← hp]; omega)⟩)
      have hp8 : (p : Int) ≤ 80000 := by have := HP90.out; omega
      have c0 := HP.out.1.c0
      rw [← hp]
      clear hpb hp HPA
      go_wp2_with fail
      go_loopg [9, 10] 4 (fun g v i wy => ∃ m : Nat, m + g = 4 ∧ v = .int .i64 ((num (win L (p + 24) m) : Nat) : Int) ∧ i = .int .i64 (m : Int) ∧ wy = wr)
      case atStart => exact ⟨0, by omega, rfl, rfl, rfl⟩
      case round =>
        obtain ⟨m, hmg, rfl, rfl, rfl⟩ := hrel
        cases gk with
        | succ g2 =>
          have hm4 : (m : Int) < 4 := by omega
          have hNL := num_win_lt L (p + 24) m (by omega)
          have HNW : Hid (num (win L (p + 24) (m + 1)) = num (win L (p + 24) m) * 256 + (L.getD (p + 24 + m) 0).toNat) := num_win L (p + 24) m
          obtain ⟨z, hz⟩ : ∃ z, z = num (win L (p + 24) m) := ⟨_, rfl⟩
          obtain ⟨B, hB⟩ : ∃ B, B = L.getD (p + 24 + m) 0 := ⟨_, rfl⟩
          rw [← hz, ← hB] at HNW
          rw [← hz] at hNL ⊢
          have hzI : (z : Int) ≤ 4294967295 := by omega
          have CAT : Hid (∀ (y : World) (V : Int), V = ((p + 24 + m : Nat) : Int) → Calls Try.prog 40 #[.string (str L), .int .i64 V] y fun e w' => e = .returned (.int .i64 (B.toNat : Int)) ∧ w' = y) := fun y V hV => by
            have := at_at y L (p + 24 + m) V (by have := HP90.out; omega) HLL.out hV
            rw [← hB] at this
            exact this
          have hbI : (B.toNat : Int) ≤ 255 := by have := B.toNat_lt; omega
          clear hz hB hNL
          generalize B.toNat = bn at *
          go_wp2_with (go_at_call 40; refine (CAT.out _ _ (by first | rfl | omega | (unfold wrap64; omega))).mono ?_; rintro e w1 ⟨rfl, rfl⟩)
          go_roundg g2
          case measure => omega
          case rel => exact ⟨m + 1, by omega, congrArg _ (by rw [HNW.out]; first | omega | (unfold wrap64; omega)), congrArg _ (by first | omega | (unfold wrap64; omega)), rfl⟩
        | zero =>
          obtain rfl : m = 4 := by omega
          have B0 := HP.out.1.drew
          have O0 : wr.drew.ownsRow (w.heap.size + 2) 54 25 pv k (flat ((itK L k).1.map Kd.el)) := own_same HP.out.2 fun _ _ => rfl
          clear HP hmg
          go_upto_region 16 with fail
          clear c0
          refine wp_region_noPanic ?_
          refine wp_region_held_drew (S := AnyW) (by kernel_rfl) (AnyW.any _) (fun hHeld => ?_)
          refine wpAnyH_take (i := 0) (v := ?_) rfl (by kernel_rfl) (by kernel_rfl) (by kernel_rfl) (fun _ _ _ h => h) (Or.inl ⟨by rfl, ?_⟩) hHeld ?_
          case refine_2 => (intro w hSw; go_simp; try (with_reducible rfl))
          ((try simp only); (try simp only [List.getElem_toArray]); (try simp only [List.getElem_cons_succ]); (try simp only [List.getElem_cons_zero]); (try simp only [Act.put]); (try simp only [List.setIfInBounds_toArray]); (try simp only [List.set_cons_succ]); (try simp only [List.set_cons_zero]))
          refine wpAnyH_take (i := 2) (v := ?_) rfl (by kernel_rfl) (by kernel_rfl) (by kernel_rfl) (fun _ _ _ h => h) (Or.inl ⟨by rfl, ?_⟩) hHeld ?_
          case refine_2 => (intro w hSw; go_simp; try (with_reducible rfl))
          ((try simp only); (try simp only [List.getElem_toArray]); (try simp only [List.getElem_cons_succ]); (try simp only [List.getElem_cons_zero]); (try simp only [Act.put]); (try simp only [List.setIfInBounds_toArray]); (try simp only [List.set_cons_succ]); (try simp only [List.set_cons_zero]))
          refine wpAnyH_take (i := 3) (v := ?_) rfl (by kernel_rfl) (by kernel_rfl) (by kernel_rfl) (fun _ _ _ h => h) (Or.inl ⟨by rfl, ?_⟩) hHeld ?_
          case refine_2 => (intro w hSw; go_simp; try (with_reducible rfl))
          ((try simp only); (try simp only [List.getElem_toArray]); (try simp only [List.getElem_cons_succ]); (try simp only [List.getElem_cons_zero]); (try simp only [Act.put]); (try simp only [List.setIfInBounds_toArray]); (try simp only [List.set_cons_succ]); (try simp only [List.set_cons_zero]))
          refine wpAnyH_take (i := 5) (v := ?_) rfl (by kernel_rfl) (by kernel_rfl) (by kernel_rfl) (fun _ _ _ h => h) (Or.inl ⟨by rfl, ?_⟩) hHeld ?_
          case refine_2 => (intro w hSw; go_simp; try (with_reducible rfl))
          ((try simp only); (try simp only [List.getElem_toArray]); (try simp only [List.getElem_cons_succ]); (try simp only [List.getElem_cons_zero]); (try simp only [Act.put]); (try simp only [List.setIfInBounds_toArray]); (try simp only [List.set_cons_succ]); (try simp only [List.set_cons_zero]))
          generalize wr.drew = y0 at *
          refine wpAnyH_ready (rs := [1, 4]) (by kernel_rfl) (by simp) (AllReadyH.cons rfl (fun K hK => ?_) (AllReadyH.cons rfl (fun K hK => ?_) AllReadyH.nil))
          · rw [if_pos (by rfl)]
            ((try simp only); (try simp only [List.getElem_toArray]); (try simp only [List.getElem_cons_succ]); (try simp only [List.getElem_cons_zero]); (try simp only [Act.put]); (try simp only [List.setIfInBounds_toArray]); (try simp only [List.set_cons_succ]); (try simp only [List.set_cons_zero]))
            have c1 := B0.c2
            go_simp
            refine hK.out _ _ (AnyW.any _) (fun hHeld => ?_)
            clear hK K
            ((try simp only); (try simp only [List.getElem_toArray]); (try simp only [List.getElem_cons_succ]); (try simp only [List.getElem_cons_zero]); (try simp only [Act.put]); (try simp only [List.setIfInBounds_toArray]); (try simp only [List.set_cons_succ]); (try simp only [List.set_cons_zero]))
            clear c1
            refine wpAnyH_ready (rs := [4]) (by kernel_rfl) (by simp) (AllReadyH.cons rfl (fun K hK => ?_) AllReadyH.nil)
            rw [if_pos (by rfl)]
            ((try simp only); (try simp only [List.getElem_toArray]); (try simp only [List.getElem_cons_succ]); (try simp only [List.getElem_cons_zero]); (try simp only [Act.put]); (try simp only [List.setIfInBounds_toArray]); (try simp only [List.set_cons_succ]); (try simp only [List.set_cons_zero]))
            go_simp
            refine (rkey_calls y0 L p HPB.out HLL.out).mono ?_
            rintro e y1 ⟨rfl, bl⟩
            have B1 := B0.called bl
            have O1 := own_kept O0 bl
            clear bl
            refine hK.out _ _ (AnyW.any _) (fun hHeld => ?_)
            clear hK K
            ((try simp only); (try simp only [List.getElem_toArray]); (try simp only [List.getElem_cons_succ]); (try simp only [List.getElem_cons_zero]); (try simp only [Act.put]); (try simp only [List.setIfInBounds_toArray]); (try simp only [List.set_cons_succ]); (try simp only [List.set_cons_zero]))
            refine wpAnyH_take (i := 6) (v := ev (kOne L p).el) rfl (by kernel_rfl) (by kernel_rfl) (by kernel_rfl) (fun _ _ _ h => h) (Or.inl ⟨by rfl, fun _ _ => build_run 54 _ rfl [(0, kv (win L p 24)), (1, .int .i64 ((num (win L (p + 24) 4) : Nat) : Int))] (by simp only [List.map_toArray, List.map_cons, List.map_nil]; rfl) _ (builtK _ _ (win_length _ _ _) rfl)⟩) hHeld ?_
            ((try simp only); (try simp only [List.getElem_toArray]); (try simp only [List.getElem_cons_succ]); (try simp only [List.getElem_cons_zero]); (try simp only [Act.put]); (try simp only [List.setIfInBounds_toArray]); (try simp only [List.set_cons_succ]); (try simp only [List.set_cons_zero]))
            refine wpAnyH_ready (rs := [7]) (by kernel_rfl) (by simp) (AllReadyH.cons rfl (fun K hK => ?_) AllReadyH.nil)
            rw [if_pos (by rfl)]
            ((try simp only); (try simp only [List.getElem_toArray]); (try simp only [List.getElem_cons_succ]); (try simp only [List.getElem_cons_zero]); (try simp only [Act.put]); (try simp only [List.setIfInBounds_toArray]); (try simp only [List.set_cons_succ]); (try simp only [List.set_cons_zero]))
            refine wp_buildSliceTo 23 54 1 _ rfl Try.underlying23 (ec (kOne L p).el).toArray (by simp only [List.map_toArray, List.map_cons, List.map_nil]; exact slice_one _ _ _ Try.row_K rfl _ (Kd.ok_el (win_length _ _ _))) ?_
            have bl : Below y1.heap.size y1 (y1.alloc (.cells (ec (kOne L p).el).toArray 54)) := (Below.refl _ _).alloc (Nat.le_refl _) _
            have B2 := B1.called bl
            have O2 := own_kept O1 bl
            have RW : (y1.alloc (.cells (ec (kOne L p).el).toArray 54)).rangeAt y1.heap.size 0 (ec (kOne L p).el) := (HasK.new y1 (kOne L p).el _ rfl (Kd.ok_el (win_length _ _ _))).range
            clear bl
            refine hK.out _ _ (AnyW.any _) (fun hHeld => ?_)
            clear hK K
            ((try simp only); (try simp only [List.getElem_toArray]); (try simp only [List.getElem_cons_succ]); (try simp only [List.getElem_cons_zero]); (try simp only [Act.put]); (try simp only [List.setIfInBounds_toArray]); (try simp only [List.set_cons_succ]); (try simp only [List.set_cons_zero]))
            generalize y1.heap.size = d9 at *
            generalize y1.alloc (.cells (ec (kOne L p).el).toArray 54) = y2 at *
            refine wpAnyH_ready (rs := [8]) (by kernel_rfl) (by simp) (AllReadyH.cons rfl (fun K hK => ?_) AllReadyH.nil)
            rw [if_pos (by rfl)]
            ((try simp only); (try simp only [List.getElem_toArray]); (try simp only [List.getElem_cons_succ]); (try simp only [List.getElem_cons_zero]); (try simp only [Act.put]); (try simp only [List.setIfInBounds_toArray]); (try simp only [List.set_cons_succ]); (try simp only [List.set_cons_zero]))
            obtain ⟨i0, hi, hz0, hz1, hz2⟩ := info_parts Try.row_K
            refine wp_append_own _ (.tmp 62) (.tmp 68) 23 rfl (w.heap.size + 2) 54 i0 (.agg (ec nilK).toArray) 25 32 Try.underlying23 hi hz0 hz1 hz2 rfl (by decide) pv k _ rfl O2 ⟨d9, 0, none⟩ 1 1 (ec (kOne L p).el) rfl (by rw [ec_length (Kd.ok_el (win_length _ _ _))]) (fun j u hu => by rw [add_lit]; exact RW j u hu) (ec_one (Kd.ok_el (win_length _ _ _))) HM.out.1 HM.out.2 (by have := B2.n.lt; omega) ?_
            intro pv' y3 ow gr _
            obtain ⟨a', c', rfl⟩ := own_slice ow
            clear hi hz0 hz1 hz2
            have B3 := B2.grew gr (fun q hq => (O2.lt q hq).1)
            have ON0 : y3.ownsRow (w.heap.size + 2) 54 25 (.slice a' (k + 1) c') (k + 1) (flat (((itK L k).1 ++ [kOne L p]).map Kd.el)) := by rw [flat_Kd]; exact ow
            clear ow gr RW O2
            refine hK.out _ _ (AnyW.any _) (fun hHeld => ?_)
            clear hK K
            ((try simp only); (try simp only [List.getElem_toArray]); (try simp only [List.getElem_cons_succ]); (try simp only [List.getElem_cons_zero]); (try simp only [Act.put]); (try simp only [List.setIfInBounds_toArray]); (try simp only [List.set_cons_succ]); (try simp only [List.set_cons_zero]))
            refine wpAnyH_take (i := 9) (v := ?_) rfl (by kernel_rfl) (by kernel_rfl) (by kernel_rfl) (fun _ _ _ h => h) (Or.inl ⟨by rfl, ?_⟩) hHeld ?_
            case refine_2 => (intro w hSw; go_simp; try (with_reducible rfl))
            ((try simp only); (try simp only [List.getElem_toArray]); (try simp only [List.getElem_cons_succ]); (try simp only [List.getElem_cons_zero]); (try simp only [Act.put]); (try simp only [List.setIfInBounds_toArray]); (try simp only [List.set_cons_succ]); (try simp only [List.set_cons_zero]))
            refine wpAnyH_ready (rs := [10]) (by kernel_rfl) (by simp) (AllReadyH.cons rfl (fun K hK => ?_) AllReadyH.nil)
            rw [if_pos (by rfl)]
            ((try simp only); (try simp only [List.getElem_toArray]); (try simp only [List.getElem_cons_succ]); (try simp only [List.getElem_cons_zero]); (try simp only [Act.put]); (try simp only [List.setIfInBounds_toArray]); (try simp only [List.set_cons_succ]); (try simp only [List.set_cons_zero]))
            have c1 := B3.c2
            have f1 := B3.n.free 2
            have BN0 := B3.set2 ((itK L k).1 ++ [kOne L p]) (.slice a' (k + 1) c') (own_one ON0)
            have ON := own_set (b := w.heap.size + 1) (j := 2) (u := (.slice a' (k + 1) c')) ON0 (Nat.lt_succ_self _)
            go_simp
            refine hK.out _ _ (AnyW.any _) (fun hHeld => ?_)
            clear hK K
            ((try simp only); (try simp only [List.getElem_toArray]); (try simp only [List.getElem_cons_succ]); (try simp only [List.getElem_cons_zero]); (try simp only [Act.put]); (try simp only [List.setIfInBounds_toArray]); (try simp only [List.set_cons_succ]); (try simp only [List.set_cons_zero]))
            clear c1 f1 ON0
            have BN := BN0
            clear BN0
            generalize y3.setCell ⟨w.heap.size + 1, 2, none⟩ (.slice a' (k + 1) c') = y4 at *
            refine wpAnyH_done (by kernel_rfl) ?_ _
            refine NoPanic.normal ?_
            have HNEW : Hid (OS w y4 lv [] ((itK L k).1 ++ [kOne L p]) (.slice none 0 0) (.slice a' (k + 1) c') ∧ y4.ownsRow (w.heap.size + 2) 54 25 (.slice a' (k + 1) c') (k + 1) (flat (((itK L k).1 ++ [kOne L p]).map Kd.el))) := ⟨BN, ON⟩
            clear BN ON hHeld
            go_wp2_with fail
            go_roundg g
            case measure => omega
            case rel => exact ⟨k + 1, (.slice a' (k + 1) c'), by omega, HIT.out.2 _ (by first | rfl | omega | (unfold wrap64; omega)), num_succ' HK.out, (by rw [HIT.out.1]; exact HNEW.out)⟩
          · rw [if_pos (by rfl)]
            ((try simp only); (try simp only [List.getElem_toArray]); (try simp only [List.getElem_cons_succ]); (try simp only [List.getElem_cons_zero]); (try simp only [Act.put]); (try simp only [List.setIfInBounds_toArray]); (try simp only [List.set_cons_succ]); (try simp only [List.set_cons_zero]))
            go_simp
            refine (rkey_calls y0 L p HPB.out HLL.out).mono ?_
            rintro e y1 ⟨rfl, bl⟩
            have B1 := B0.called bl
            have O1 := own_kept O0 bl
            clear bl
            refine hK.out _ _ (AnyW.any _) (fun hHeld => ?_)
            clear hK K
            ((try simp only); (try simp only [List.getElem_toArray]); (try simp only [List.getElem_cons_succ]); (try simp only [List.getElem_cons_zero]); (try simp only [Act.put]); (try simp only [List.setIfInBounds_toArray]); (try simp only [List.set_cons_succ]); (try simp only [List.set_cons_zero]))
            refine wpAnyH_take (i := 6) (v := ev (kOne L p).el) rfl (by kernel_rfl) (by kernel_rfl) (by kernel_rfl) (fun _ _ _ h => h) (Or.inl ⟨by rfl, fun _ _ => build_run 54 _ rfl [(0, kv (win L p 24)), (1, .int .i64 ((num (win L (p + 24) 4) : Nat) : Int))] (by simp only [List.map_toArray, List.map_cons, List.map_nil]; rfl) _ (builtK _ _ (win_length _ _ _) rfl)⟩) hHeld ?_
            ((try simp only); (try simp only [List.getElem_toArray]); (try simp only [List.getElem_cons_succ]); (try simp only [List.getElem_cons_zero]); (try simp only [Act.put]); (try simp only [List.setIfInBounds_toArray]); (try simp only [List.set_cons_succ]); (try simp only [List.set_cons_zero]))
            refine wpAnyH_ready (rs := [1, 7]) (by kernel_rfl) (by simp) (AllReadyH.cons rfl (fun K hK => ?_) (AllReadyH.cons rfl (fun K hK => ?_) AllReadyH.nil))
            · rw [if_pos (by rfl)]
              ((try simp only); (try simp only [List.getElem_toArray]); (try simp only [List.getElem_cons_succ]); (try simp only [List.getElem_cons_zero]); (try simp only [Act.put]); (try simp only [List.setIfInBounds_toArray]); (try simp only [List.set_cons_succ]); (try simp only [List.set_cons_zero]))
              have c1 := B1.c2
              go_simp
              refine hK.out _ _ (AnyW.any _) (fun hHeld => ?_)
              clear hK K
              ((try simp only); (try simp only [List.getElem_toArray]); (try simp only [List.getElem_cons_succ]); (try simp only [List.getElem_cons_zero]); (try simp only [Act.put]); (try simp only [List.setIfInBounds_toArray]); (try simp only [List.set_cons_succ]); (try simp only [List.set_cons_zero]))
              clear c1
              refine wpAnyH_ready (rs := [7]) (by kernel_rfl) (by simp) (AllReadyH.cons rfl (fun K hK => ?_) AllReadyH.nil)
              rw [if_pos (by rfl)]
              ((try simp only); (try simp only [List.getElem_toArray]); (try simp only [List.getElem_cons_succ]); (try simp only [List.getElem_cons_zero]); (try simp only [Act.put]); (try simp only [List.setIfInBounds_toArray]); (try simp only [List.set_cons_succ]); (try simp only [List.set_cons_zero]))
              refine wp_buildSliceTo 23 54 1 _ rfl Try.underlying23 (ec (kOne L p).el).toArray (by simp only [List.map_toArray, List.map_cons, List.map_nil]; exact slice_one _ _ _ Try.row_K rfl _ (Kd.ok_el (win_length _ _ _))) ?_
              have bl : Below y1.heap.size y1 (y1.alloc (.cells (ec (kOne L p).el).toArray 54)) := (Below.refl _ _).alloc (Nat.le_refl _) _
              have B2 := B1.called bl
              have O2 := own_kept O1 bl
              have RW : (y1.alloc (.cells (ec (kOne L p).el).toArray 54)).rangeAt y1.heap.size 0 (ec (kOne L p).el) := (HasK.new y1 (kOne L p).el _ rfl (Kd.ok_el (win_length _ _ _))).range
              clear bl
              refine hK.out _ _ (AnyW.any _) (fun hHeld => ?_)
              clear hK K
              ((try simp only); (try simp only [List.getElem_toArray]); (try simp only [List.getElem_cons_succ]); (try simp only [List.getElem_cons_zero]); (try simp only [Act.put]); (try simp only [List.setIfInBounds_toArray]); (try simp only [List.set_cons_succ]); (try simp only [List.set_cons_zero]))
              generalize y1.heap.size = d9 at *
              generalize y1.alloc (.cells (ec (kOne L p).el).toArray 54) = y2 at *
              refine wpAnyH_ready (rs := [8]) (by kernel_rfl) (by simp) (AllReadyH.cons rfl (fun K hK => ?_) AllReadyH.nil)
              rw [if_pos (by rfl)]
              ((try simp only); (try simp only [List.getElem_toArray]); (try simp only [List.getElem_cons_succ]); (try simp only [List.getElem_cons_zero]); (try simp only [Act.put]); (try simp only [List.setIfInBounds_toArray]); (try simp only [List.set_cons_succ]); (try simp only [List.set_cons_zero]))
              obtain ⟨i0, hi, hz0, hz1, hz2⟩ := info_parts Try.row_K
              refine wp_append_own _ (.tmp 62) (.tmp 68) 23 rfl (w.heap.size + 2) 54 i0 (.agg (ec nilK).toArray) 25 32 Try.underlying23 hi hz0 hz1 hz2 rfl (by decide) pv k _ rfl O2 ⟨d9, 0, none⟩ 1 1 (ec (kOne L p).el) rfl (by rw [ec_length (Kd.ok_el (win_length _ _ _))]) (fun j u hu => by rw [add_lit]; exact RW j u hu) (ec_one (Kd.ok_el (win_length _ _ _))) HM.out.1 HM.out.2 (by have := B2.n.lt; omega) ?_
              intro pv' y3 ow gr _
              obtain ⟨a', c', rfl⟩ := own_slice ow
              clear hi hz0 hz1 hz2
              have B3 := B2.grew gr (fun q hq => (O2.lt q hq).1)
              have ON0 : y3.ownsRow (w.heap.size + 2) 54 25 (.slice a' (k + 1) c') (k + 1) (flat (((itK L k).1 ++ [kOne L p]).map Kd.el)) := by rw [flat_Kd]; exact ow
              clear ow gr RW O2
              refine hK.out _ _ (AnyW.any _) (fun hHeld => ?_)
              clear hK K
              ((try simp only); (try simp only [List.getElem_toArray]); (try simp only [List.getElem_cons_succ]); (try simp only [List.getElem_cons_zero]); (try simp only [Act.put]); (try simp only [List.setIfInBounds_toArray]); (try simp only [List.set_cons_succ]); (try simp only [List.set_cons_zero]))
              refine wpAnyH_take (i := 9) (v := ?_) rfl (by kernel_rfl) (by kernel_rfl) (by kernel_rfl) (fun _ _ _ h => h) (Or.inl ⟨by rfl, ?_⟩) hHeld ?_
              case refine_2 => (intro w hSw; go_simp; try (with_reducible rfl))
              ((try simp only); (try simp only [List.getElem_toArray]); (try simp only [List.getElem_cons_succ]); (try simp only [List.getElem_cons_zero]); (try simp only [Act.put]); (try simp only [List.setIfInBounds_toArray]); (try simp only [List.set_cons_succ]); (try simp only [List.set_cons_zero]))
              refine wpAnyH_ready (rs := [10]) (by kernel_rfl) (by simp) (AllReadyH.cons rfl (fun K hK => ?_) AllReadyH.nil)
              rw [if_pos (by rfl)]
              ((try simp only); (try simp only [List.getElem_toArray]); (try simp only [List.getElem_cons_succ]); (try simp only [List.getElem_cons_zero]); (try simp only [Act.put]); (try simp only [List.setIfInBounds_toArray]); (try simp only [List.set_cons_succ]); (try simp only [List.set_cons_zero]))
              have c1 := B3.c2
              have f1 := B3.n.free 2
              have BN0 := B3.set2 ((itK L k).1 ++ [kOne L p]) (.slice a' (k + 1) c') (own_one ON0)
              have ON := own_set (b := w.heap.size + 1) (j := 2) (u := (.slice a' (k + 1) c')) ON0 (Nat.lt_succ_self _)
              go_simp
              refine hK.out _ _ (AnyW.any _) (fun hHeld => ?_)
              clear hK K
              ((try simp only); (try simp only [List.getElem_toArray]); (try simp only [List.getElem_cons_succ]); (try simp only [List.getElem_cons_zero]); (try simp only [Act.put]); (try simp only [List.setIfInBounds_toArray]); (try simp only [List.set_cons_succ]); (try simp only [List.set_cons_zero]))
              clear c1 f1 ON0
              have BN := BN0
              clear BN0
              generalize y3.setCell ⟨w.heap.size + 1, 2, none⟩ (.slice a' (k + 1) c') = y4 at *
              refine wpAnyH_done (by kernel_rfl) ?_ _
              refine NoPanic.normal ?_
              have HNEW : Hid (OS w y4 lv [] ((itK L k).1 ++ [kOne L p]) (.slice none 0 0) (.slice a' (k + 1) c') ∧ y4.ownsRow (w.heap.size + 2) 54 25 (.slice a' (k + 1) c') (k + 1) (flat (((itK L k).1 ++ [kOne L p]).map Kd.el))) := ⟨BN, ON⟩
              clear BN ON hHeld
              go_wp2_with fail
              go_roundg g
              case measure => omega
              case rel => exact ⟨k + 1, (.slice a' (k + 1) c'), by omega, HIT.out.2 _ (by first | rfl | omega | (unfold wrap64; omega)), num_succ' HK.out, (by rw [HIT.out.1]; exact HNEW.out)⟩
            · rw [if_pos (by rfl)]
              ((try simp only); (try simp only [List.getElem_toArray]); (try simp only [List.getElem_cons_succ]); (try simp only [List.getElem_cons_zero]); (try simp only [Act.put]); (try simp only [List.setIfInBounds_toArray]); (try simp only [List.set_cons_succ]); (try simp only [List.set_cons_zero]))
              refine wp_buildSliceTo 23 54 1 _ rfl Try.underlying23 (ec (kOne L p).el).toArray (by simp only [List.map_toArray, List.map_cons, List.map_nil]; exact slice_one _ _ _ Try.row_K rfl _ (Kd.ok_el (win_length _ _ _))) ?_
              have bl : Below y1.heap.size y1 (y1.alloc (.cells (ec (kOne L p).el).toArray 54)) := (Below.refl _ _).alloc (Nat.le_refl _) _
              have B2 := B1.called bl
              have O2 := own_kept O1 bl
              have RW : (y1.alloc (.cells (ec (kOne L p).el).toArray 54)).rangeAt y1.heap.size 0 (ec (kOne L p).el) := (HasK.new y1 (kOne L p).el _ rfl (Kd.ok_el (win_length _ _ _))).range
              clear bl
              refine hK.out _ _ (AnyW.any _) (fun hHeld => ?_)
              clear hK K
              ((try simp only); (try simp only [List.getElem_toArray]); (try simp only [List.getElem_cons_succ]); (try simp only [List.getElem_cons_zero]); (try simp only [Act.put]); (try simp only [List.setIfInBounds_toArray]); (try simp only [List.set_cons_succ]); (try simp only [List.set_cons_zero]))
              generalize y1.heap.size = d9 at *
              generalize y1.alloc (.cells (ec (kOne L p).el).toArray 54) = y2 at *
              refine wpAnyH_ready (rs := [1]) (by kernel_rfl) (by simp) (AllReadyH.cons rfl (fun K hK => ?_) AllReadyH.nil)
              rw [if_pos (by rfl)]
              ((try simp only); (try simp only [List.getElem_toArray]); (try simp only [List.getElem_cons_succ]); (try simp only [List.getElem_cons_zero]); (try simp only [Act.put]); (try simp only [List.setIfInBounds_toArray]); (try simp only [List.set_cons_succ]); (try simp only [List.set_cons_zero]))
              have c1 := B2.c2
              go_simp
              refine hK.out _ _ (AnyW.any _) (fun hHeld => ?_)
              clear hK K
              ((try simp only); (try simp only [List.getElem_toArray]); (try simp only [List.getElem_cons_succ]); (try simp only [List.getElem_cons_zero]); (try simp only [Act.put]); (try simp only [List.setIfInBounds_toArray]); (try simp only [List.set_cons_succ]); (try simp only [List.set_cons_zero]))
              clear c1
              refine wpAnyH_ready (rs := [8]) (by kernel_rfl) (by simp) (AllReadyH.cons rfl (fun K hK => ?_) AllReadyH.nil)
              rw [if_pos (by rfl)]
              ((try simp only); (try simp only [List.getElem_toArray]); (try simp only [List.getElem_cons_succ]); (try simp only [List.getElem_cons_zero]); (try simp only [Act.put]); (try simp only [List.setIfInBounds_toArray]); (try simp only [List.set_cons_succ]); (try simp only [List.set_cons_zero]))
              obtain ⟨i0, hi, hz0, hz1, hz2⟩ := info_parts Try.row_K
              refine wp_append_own _ (.tmp 62) (.tmp 68) 23 rfl (w.heap.size + 2) 54 i0 (.agg (ec nilK).toArray) 25 32 Try.underlying23 hi hz0 hz1 hz2 rfl (by decide) pv k _ rfl O2 ⟨d9, 0, none⟩ 1 1 (ec (kOne L p).el) rfl (by rw [ec_length (Kd.ok_el (win_length _ _ _))]) (fun j u hu => by rw [add_lit]; exact RW j u hu) (ec_one (Kd.ok_el (win_length _ _ _))) HM.out.1 HM.out.2 (by have := B2.n.lt; omega) ?_
              intro pv' y3 ow gr _
              obtain ⟨a', c', rfl⟩ := own_slice ow
              clear hi hz0 hz1 hz2
              have B3 := B2.grew gr (fun q hq => (O2.lt q hq).1)
              have ON0 : y3.ownsRow (w.heap.size + 2) 54 25 (.slice a' (k + 1) c') (k + 1) (flat (((itK L k).1 ++ [kOne L p]).map Kd.el)) := by rw [flat_Kd]; exact ow
              clear ow gr RW O2
              refine hK.out _ _ (AnyW.any _) (fun hHeld => ?_)
              clear hK K
              ((try simp only); (try simp only [List.getElem_toArray]); (try simp only [List.getElem_cons_succ]); (try simp only [List.getElem_cons_zero]); (try simp only [Act.put]); (try simp only [List.setIfInBounds_toArray]); (try simp only [List.set_cons_succ]); (try simp only [List.set_cons_zero]))
              refine wpAnyH_take (i := 9) (v := ?_) rfl (by kernel_rfl) (by kernel_rfl) (by kernel_rfl) (fun _ _ _ h => h) (Or.inl ⟨by rfl, ?_⟩) hHeld ?_
              case refine_2 => (intro w hSw; go_simp; try (with_reducible rfl))
              ((try simp only); (try simp only [List.getElem_toArray]); (try simp only [List.getElem_cons_succ]); (try simp only [List.getElem_cons_zero]); (try simp only [Act.put]); (try simp only [List.setIfInBounds_toArray]); (try simp only [List.set_cons_succ]); (try simp only [List.set_cons_zero]))
              refine wpAnyH_ready (rs := [10]) (by kernel_rfl) (by simp) (AllReadyH.cons rfl (fun K hK => ?_) AllReadyH.nil)
              rw [if_pos (by rfl)]
              ((try simp only); (try simp only [List.getElem_toArray]); (try simp only [List.getElem_cons_succ]); (try simp only [List.getElem_cons_zero]); (try simp only [Act.put]); (try simp only [List.setIfInBounds_toArray]); (try simp only [List.set_cons_succ]); (try simp only [List.set_cons_zero]))
              have c1 := B3.c2
              have f1 := B3.n.free 2
              have BN0 := B3.set2 ((itK L k).1 ++ [kOne L p]) (.slice a' (k + 1) c') (own_one ON0)
              have ON := own_set (b := w.heap.size + 1) (j := 2) (u := (.slice a' (k + 1) c')) ON0 (Nat.lt_succ_self _)
              go_simp
              refine hK.out _ _ (AnyW.any _) (fun hHeld => ?_)
              clear hK K
              ((try simp only); (try simp only [List.getElem_toArray]); (try simp only [List.getElem_cons_succ]); (try simp only [List.getElem_cons_zero]); (try simp only [Act.put]); (try simp only [List.setIfInBounds_toArray]); (try simp only [List.set_cons_succ]); (try simp only [List.set_cons_zero]))
              clear c1 f1 ON0
              have BN := BN0
              clear BN0
              generalize y3.setCell ⟨w.heap.size + 1, 2, none⟩ (.slice a' (k + 1) c') = y4 at *
              refine wpAnyH_done (by kernel_rfl) ?_ _
              refine NoPanic.normal ?_
              have HNEW : Hid (OS w y4 lv [] ((itK L k).1 ++ [kOne L p]) (.slice none 0 0) (.slice a' (k + 1) c') ∧ y4.ownsRow (w.heap.size + 2) 54 25 (.slice a' (k + 1) c') (k + 1) (flat (((itK L k).1 ++ [kOne L p]).map Kd.el))) := ⟨BN, ON⟩
              clear BN ON hHeld
              go_wp2_with fail
              go_roundg g
              case measure => omega
              case rel => exact ⟨k + 1, (.slice a' (k + 1) c'), by omega, HIT.out.2 _ (by first | rfl | omega | (unfold wrap64; omega)), num_succ' HK.out, (by rw [HIT.out.1]; exact HNEW.out)⟩
    | zero =>
      have hkN : ¬ (k : Int) < (N : Int) := by omega
      obtain rfl : k = N := by omega
      clear hkg
      have HPT : Hid (Parts wr (parse L) (.slice none 0 0) pv ∧ OS w wr (parse L).lv (parse L).ps (parse L).ks (.slice none 0 0) pv) := (show _ ∧ _ by
        rw [HPA.out]
        exact ⟨⟨Els.nil _, (own_els HP.out.2 (by simp [itK_length]) (okKd (itK_keyed L k))).els⟩, HP.out.1⟩)
      have HGE : Hid (PartsGe wr (w.heap.size + 2) (parse L) (.slice none 0 0) pv) := (show PartsGe _ _ _ _ _ by
        rw [HPA.out]
        exact PartsGe.mk (nilElsN wr _) (own_els HP.out.2 (by simp [itK_length]) (okKd (itK_keyed L k))).1)
      obtain ⟨pa, pc, rfl⟩ := own_slice HP.out.2
      clear HP HPA
      have hcall := rbytes_calls wr (parse L) (.slice none 0 0) (.slice pa k pc) HPT.out.1
      have HOF : Hid (ofN L = if rightN (parse L) = true ∧ enc (parse L) = L then some (parse L) else none) := parse_of L
      have HUW : Hid (HasN wr (w.heap.size + 1) (parse L) (.slice none 0 0) (.slice pa k pc)) := HPT.out.2.n
      have ZW : HasN wr w.heap.size nilN (.slice none 0 0) (.slice none 0 0) := HPT.out.2.r
      have BW := HPT.out.2.bel
      have HPS : Hid (Parts wr (parse L) (.slice none 0 0) (.slice pa k pc)) := HPT.out.1
      have HPG : Hid (PartsGe wr (w.heap.size + 2) (parse L) (.slice none 0 0) (.slice pa k pc)) := HGE.out
      clear HPT HGE
      generalize parse L = X at *
      cases hr : rightN X with
      | false =>
        have HR : Hid (rightN X = false) := hr
        have HO2 : Hid (ofN L = none) := (show _ = _ by rw [HOF.out, if_neg (by rw [hr]; simp)])
        clear hr
        go_upto_region 19 with (first
          | (refine load_node _ rfl (w.heap.size + 1) rfl rfl _ _ _ HUW.out ?_)
          | (go_at_call 7; refine hcall.mono ?_; rintro e w6 ⟨b6, ⟨_, rfl⟩ | ⟨hf, _⟩⟩; rotate_left; · rw [HR.out] at hf; cases hf))
        have Z6 := ZW.below b6 ZW.lt
        have B6 : Below w.heap.size w w6 := BW.trans (b6.mono BW.size)
        clear HUW ZW BW hcall HPS HPG
        go_wp2_with (first
          | (refine build_any rfl 25 _ rfl [] rfl _ Try.node0 ?_)
          | (refine store_node rfl _ _ rfl w.heap.size rfl nilN (.slice none 0 0) (.slice none 0 0) rfl rfl rfl nilN (.slice none 0 0) (.slice none 0 0) Z6 ?_; intro y hy ty sy))
        refine ret_node_ok rfl _ _ _ _ _ rfl rfl hy rfl ?_
        rw [HO2.out]
        exact ⟨_, _, rfl, Parts.nil _, below_touched B6 ty (Nat.le_refl _) (Nat.le_refl _)⟩
      | true =>
        have HR : Hid (rightN X = true) := hr
        go_upto_region 19 with (first
          | (refine load_node _ rfl (w.heap.size + 1) rfl rfl _ _ _ HUW.out ?_)
          | (go_at_call 7; refine hcall.mono ?_; rintro e w6 ⟨b6, ⟨hf, _⟩ | ⟨_, rfl⟩⟩; · rw [HR.out] at hf; cases hf))
        have hst1 := str_toList (enc X)
        have hst2 := str_toList L
        have Z6 := ZW.below b6 ZW.lt
        have B6 : Below w.heap.size w w6 := BW.trans (b6.mono BW.size)
        by_cases hEL : enc X = L
        · have HO2 : Hid (ofN L = some X) := (show _ = _ by rw [HOF.out, if_pos ⟨hr, hEL⟩])
          have heq : (enc X == L) = true := by simpa using hEL
          have HE : Hid (enc X = L) := hEL
          have U6 := HUW.out.below b6 HUW.out.lt
          have HG6 := HPG.out.below b6
          clear hEL HOF hr HUW ZW BW hcall HPS HPG
          go_wp2_with (first
            | (refine load_node _ rfl (w.heap.size + 1) rfl rfl _ _ _ U6 ?_)
            | (refine store_node rfl _ _ rfl w.heap.size rfl X (.slice none 0 0) (.slice pa k pc) rfl U6.2.1 U6.2.2 nilN (.slice none 0 0) (.slice none 0 0) Z6 ?_; intro y hy ty sy))
          refine ret_node_ok rfl _ _ _ _ _ rfl rfl hy rfl ?_
          rw [HO2.out]
          exact ⟨_, _, rfl, HG6.touched ty (by omega), below_touched B6 ty (Nat.le_refl _) (Nat.le_refl _)⟩
        · have HO2 : Hid (ofN L = none) := (show _ = _ by rw [HOF.out, if_neg (fun h => hEL h.2)])
          have heq : (enc X == L) = false := by simpa using hEL
          have HE : Hid (¬ enc X = L) := hEL
          clear hEL HOF hr HUW ZW BW hcall HPS HPG
          go_wp2_with (first
            | (refine build_any rfl 25 _ rfl [] rfl _ Try.node0 ?_)
            | (refine store_node rfl _ _ rfl w.heap.size rfl nilN (.slice none 0 0) (.slice none 0 0) rfl rfl rfl nilN (.slice none 0 0) (.slice none 0 0) Z6 ?_; intro y hy ty sy))
          refine ret_node_ok rfl _ _ _ _ _ rfl rfl hy rfl ?_
          rw [HO2.out]
          exact ⟨_, _, rfl, Parts.nil _, below_touched B6 ty (Nat.le_refl _) (Nat.le_refl _)⟩
theorem rof_calls (w : World) (L : List UInt8) (hL : L.length ≤ 1000) : Calls Try.prog 9 #[.string (str L)] w (OfTo w (ofN L)) := by
  by_cases h0 : L.getD 2 0 = 0
  · exact rof_leaf w L _ _ hL h0 rfl rfl (by rw [h0]; rfl)
  · refine rof_inner w L _ _ hL h0 rfl rfl ?_
    have : ¬ (L.getD 2 0).toNat = 0 := fun h => h0 (UInt8.toNat_inj.1 (by rw [h]; rfl))
    simpa using this
end Go.Proofs.Ytggbnacpgkbieaa
