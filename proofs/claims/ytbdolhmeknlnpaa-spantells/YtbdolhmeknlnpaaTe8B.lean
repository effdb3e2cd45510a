/- The document's Has and Any. -/
import Derived.Test.YtbdolhmeknlnpaaTe8A
namespace Go.Proofs.Ytbdolhmeknlnpaa
set_option linter.unusedVariables false
open Go.RowKit

theorem mem_take (l : List Sp) (k : Nat) (h : k < l.length) (x : Int) : mem (l.take (k + 1)) x = (mem (l.take k) x || (l[k]).inb x) := by
  rw [List.take_succ_eq_append_getElem h, mem_append]
  simp [mem]
theorem mem_hit (l : List Sp) (k : Nat) (h : k < l.length) (x : Int) (hi : (l[k]).inb x = true) : mem l x = true := by
  unfold mem
  rw [List.any_eq_true]
  exact ⟨l[k], List.getElem_mem h, hi⟩
set_option maxRecDepth 100000 in
set_option maxHeartbeats 4000000 in
theorem rhas_calls (w : World) (u : Value) (l : List Sp) (h : Sl encS w u l) (K : List UInt8) (hK : K.length = 24) : Calls Try.prog 19 #[u, kv K] w fun e w' => e = .returned (.bool (mem l (num K))) ∧ Below w.heap.size w w' := by
  have b1 : Below w.heap.size w (w.alloc (.cells (bc K).toArray 30)) := (Below.refl _ w).alloc (Nat.le_refl _) _
  have HS : Hid (Sl encS w u l) := h
  have HK : Hid (Has (w.alloc (.cells (bc K).toArray 30)) w.heap.size K) := Has.new w K hK
  have HB : Hid (Below w.heap.size w (w.alloc (.cells (bc K).toArray 30))) := b1
  obtain ⟨ad, cap, rfl, hcap, hmax, _, _⟩ := h
  have HG : Hid (∀ i (hi : i < l.length), ∃ g off, ad = some ⟨g, off, none⟩ ∧ g < w.heap.size ∧ w.rangeAt g (off + i * 49) (encS.c l[i])) := fun i hi => SlB.at HS.out i hi
  obtain ⟨N, hN⟩ : ∃ N : Nat, N = l.length := ⟨_, rfl⟩
  have HN : Hid (N = l.length) := hN
  rw [← hN] at hcap hmax ⊢
  have HM : Hid (∀ k : Nat, k < N → wrap64 ((k : Int) + 1) = ((k + 1 : Nat) : Int)) := fun k hk => wrap_next hk hmax
  clear b1 hN hmax
  have hiK : (Try.prog.info? 30).map (·.size) = some (bc K).length := by rw [bc_length, hK]; exact Try.key_info
  go_enter Try.func19, Try.ntmps19
  go_wp2_with fail
  generalize hW : w.alloc (.cells (bc K).toArray 30) = W at *
  have hbW := HK.out.lt
  go_loopg [5] N (fun gg i wr => ∃ k : Nat, k + gg = N ∧ i = .int .i64 (k : Int) ∧ Hid (Below W.heap.size W wr ∧ mem (l.take k) (num K) = false))
  case atStart => exact ⟨0, by omega, rfl, ⟨Below.refl _ _, rfl⟩⟩
  case round =>
    obtain ⟨k, hkg, rfl, HL⟩ := hrel
    cases gk with
    | zero =>
      have hkN : k = N := by omega
      subst hkN
      go_wp2_with fail
      go_ret
      have h1 := HL.out.2
      rw [List.take_of_length_le (by have := HN.out; omega)] at h1
      exact ⟨by rw [h1]; rfl, HB.out.trans (HL.out.1.mono HB.out.size)⟩
    | succ gg =>
      have hlt : k < N := by omega
      have hltI : (k : Int) < (N : Int) := by omega
      have hk0 : (0 : Int) ≤ (k : Int) := by omega
      have hkl : k < l.length := by have := HN.out; omega
      obtain ⟨g, off, rfl, hg, hr⟩ := HG.out k hkl
      have hgW : g < W.heap.size := Nat.lt_of_lt_of_le hg HB.out.size
      have rS : wr.rangeAt g (off + k * 49) (encS.c l[k]) := range_same' (range_same' hr (HB.out.block g hg)) (HL.out.1.block g hgW)
      have rK : wr.rangeAt w.heap.size 0 (bc K) := (HK.out.below HL.out.1 hbW).range
      have HT : Hid (mem (l.take (k + 1)) (num K) = (mem (l.take k) (num K) || (l[k]).inb (num K))) := mem_take l k hkl _
      have HH : Hid ((l[k]).inb (num K) = true → mem l (num K) = true) := mem_hit l k hkl _
      have hin := fun y => rin_calls y (l[k]).F (l[k]).T (l[k]).e K (l[k]).hF (l[k]).hT hK
      rw [in_num (l[k]) K hK] at hin
      have HIN : Hid (∀ y, Calls Try.prog 36 #[spv (l[k]), kv K] y fun x w' => x = .returned (.bool ((l[k]).inb (num K))) ∧ Below y.heap.size y w') := hin
      have hiS : (Try.prog.info? 35).map (·.size) = some (encS.c (l[k])).length := by rw [encS.len]; exact Try.span_info
      have HKS : Hid (wrap64 ((k : Int) + 1) = ((k + 1 : Nat) : Int)) := HM.out k hlt
      have hws := HL.out.1.size
      clear hin hr
      generalize (l[k]).inb (num K) = rs at *
      generalize l[k] = s at *
      go_upto_region 4 with fail
      refine wp_region_noPanic ?_
      refine wp_region_held_drew (S := (fun yy => yy.rangeAt g (off + k * 49) (encS.c s) ∧ yy.rangeAt w.heap.size 0 (bc K))) (by kernel_rfl) ⟨rS, rK⟩ (fun hHeld => ?_)
      refine wpAnyH_take (i := 0) (v := ?_) rfl (by kernel_rfl) (by kernel_rfl) (by kernel_rfl) (fun _ _ _ h => h) (Or.inl ⟨by rfl, ?_⟩) hHeld ?_
      case refine_2 => (intro w hSw; (try dsimp only at hSw); go_simp; try (with_reducible rfl))
      ((try simp only); (try simp only [List.getElem_toArray]); (try simp only [List.getElem_cons_succ]); (try simp only [List.getElem_cons_zero]); (try simp only [Act.put]); (try simp only [List.setIfInBounds_toArray]); (try simp only [List.set_cons_succ]); (try simp only [List.set_cons_zero]))
      refine wpAnyH_take (i := 1) (v := ?_) rfl (by kernel_rfl) (by kernel_rfl) (by kernel_rfl) (fun _ _ _ h => h) (Or.inl ⟨by rfl, ?_⟩) hHeld ?_
      case refine_2 => (intro w hSw; (try dsimp only at hSw); go_simp; try (with_reducible rfl))
      ((try simp only); (try simp only [List.getElem_toArray]); (try simp only [List.getElem_cons_succ]); (try simp only [List.getElem_cons_zero]); (try simp only [Act.put]); (try simp only [List.setIfInBounds_toArray]); (try simp only [List.set_cons_succ]); (try simp only [List.set_cons_zero]))
      refine wpAnyH_take (i := 2) (v := ?_) rfl (by kernel_rfl) (by kernel_rfl) (by kernel_rfl) (fun _ _ _ h => h) (Or.inl ⟨by rfl, ?_⟩) hHeld ?_
      case refine_2 => (intro w hSw; (try dsimp only at hSw); go_simp; try (with_reducible rfl))
      ((try simp only); (try simp only [List.getElem_toArray]); (try simp only [List.getElem_cons_succ]); (try simp only [List.getElem_cons_zero]); (try simp only [Act.put]); (try simp only [List.setIfInBounds_toArray]); (try simp only [List.set_cons_succ]); (try simp only [List.set_cons_zero]))
      refine wpAnyH_take (i := 3) rfl (by kernel_rfl) (by kernel_rfl) (by kernel_rfl) (fun _ _ _ h => h) (yieldsIf_load_mid (by rfl) _ _ rfl _ _ rfl _ _ (fun _ h => h.1) Try.underlying35 rfl hiS) hHeld ?_
      ((try simp only); (try simp only [List.getElem_toArray]); (try simp only [List.getElem_cons_succ]); (try simp only [List.getElem_cons_zero]); (try simp only [Act.put]); (try simp only [List.setIfInBounds_toArray]); (try simp only [List.set_cons_succ]); (try simp only [List.set_cons_zero]))
      refine wpAnyH_take (i := 4) rfl (by kernel_rfl) (by kernel_rfl) (by kernel_rfl) (fun _ _ _ h => h) (yieldsIf_load_mid (by rfl) _ _ rfl _ _ rfl _ _ (fun _ h => h.2) Try.underlying30 rfl hiK) hHeld ?_
      ((try simp only); (try simp only [List.getElem_toArray]); (try simp only [List.getElem_cons_succ]); (try simp only [List.getElem_cons_zero]); (try simp only [Act.put]); (try simp only [List.setIfInBounds_toArray]); (try simp only [List.set_cons_succ]); (try simp only [List.set_cons_zero]))
      refine wpAnyH_ready (rs := [5]) (by kernel_rfl) (by simp) (AllReadyH.cons rfl (fun K hK => ?_) AllReadyH.nil)
      rw [if_pos (by rfl)]
      ((try simp only); (try simp only [List.getElem_toArray]); (try simp only [List.getElem_cons_succ]); (try simp only [List.getElem_cons_zero]); (try simp only [Act.put]); (try simp only [List.setIfInBounds_toArray]); (try simp only [List.set_cons_succ]); (try simp only [List.set_cons_zero]))
      go_simp
      refine (HIN.out _).mono ?_
      rintro e y ⟨rfl, b⟩
      refine hK.out _ _ ⟨range_same' hHeld.1 (b.block g (by show g < wr.heap.size; omega)), range_same' hHeld.2 (b.block w.heap.size (by show w.heap.size < wr.heap.size; omega))⟩ (fun hHeld => ?_)
      clear hK K
      ((try simp only); (try simp only [List.getElem_toArray]); (try simp only [List.getElem_cons_succ]); (try simp only [List.getElem_cons_zero]); (try simp only [Act.put]); (try simp only [List.setIfInBounds_toArray]); (try simp only [List.set_cons_succ]); (try simp only [List.set_cons_zero]))
      have HY : Hid (Below W.heap.size W y) := HL.out.1.drew.trans (b.mono (by show W.heap.size ≤ wr.heap.size; omega))
      refine wpAnyH_take (i := 6) (v := ?_) rfl (by kernel_rfl) (by kernel_rfl) (by kernel_rfl) (fun _ _ _ h => h) (Or.inl ⟨by rfl, ?_⟩) hHeld ?_
      case refine_2 => (intro w hSw; (try dsimp only at hSw); go_simp; try (with_reducible rfl))
      ((try simp only); (try simp only [List.getElem_toArray]); (try simp only [List.getElem_cons_succ]); (try simp only [List.getElem_cons_zero]); (try simp only [Act.put]); (try simp only [List.setIfInBounds_toArray]); (try simp only [List.set_cons_succ]); (try simp only [List.set_cons_zero]))
      refine wpAnyH_done (by kernel_rfl) ?_ _
      refine NoPanic.normal ?_
      cases rs with
      | true =>
        go_wp2_with fail
        go_ret
        exact ⟨by rw [show mem l (num K) = true by first | exact HH.out trivial | exact HH.out rfl]; rfl, HB.out.trans (HY.out.mono HB.out.size)⟩
      | false =>
        go_wp2_with fail
        go_roundg gg
        case measure => omega
        case rel => exact ⟨k + 1, by omega, congrArg (Value.int .i64) HKS.out, ⟨HY.out, by rw [HT.out, HL.out.2]; rfl⟩⟩
set_option maxRecDepth 100000 in
set_option maxHeartbeats 4000000 in
theorem rany_calls (w : World) (u : Value) (l : List Sp) (h : Sl encS w u l) (uk : Value) (ks : List Ky) (hk : Sl encK w uk ks) : Calls Try.prog 22 #[u, uk] w fun e w' => e = .returned (.bool (ks.any fun k => mem l (num k.k))) ∧ Below w.heap.size w w' := by
  have HS : Hid (Sl encS w u l) := h
  have HK : Hid (Sl encK w uk ks) := hk
  obtain ⟨ad0, cap0, rfl, _⟩ := h
  obtain ⟨ad, cap, rfl, hcap, hmax, _, _⟩ := hk
  have HG : Hid (∀ i (hi : i < ks.length), ∃ g off, ad = some ⟨g, off, none⟩ ∧ g < w.heap.size ∧ w.rangeAt g (off + i * 24) (encK.c ks[i])) := fun i hi => SlB.at HK.out i hi
  obtain ⟨N, hN⟩ : ∃ N : Nat, N = ks.length := ⟨_, rfl⟩
  have HN : Hid (N = ks.length) := hN
  rw [← hN] at hcap hmax ⊢
  have HM : Hid (∀ k : Nat, k < N → wrap64 ((k : Int) + 1) = ((k + 1 : Nat) : Int)) := fun k hk => wrap_next hk hmax
  clear hN hmax
  go_enter Try.func22, Try.ntmps22
  go_wp2_with fail
  go_loopg [5] N (fun gg i wr => ∃ k : Nat, k + gg = N ∧ i = .int .i64 (k : Int) ∧ Hid (Below w.heap.size w wr ∧ ((ks.take k).any fun k => mem l (num k.k)) = false))
  case atStart => exact ⟨0, by omega, rfl, ⟨Below.refl _ _, rfl⟩⟩
  case round =>
    obtain ⟨k, hkg, rfl, HL⟩ := hrel
    cases gk with
    | zero =>
      have hkN : k = N := by omega
      subst hkN
      go_wp2_with fail
      go_ret
      have h1 := HL.out.2
      rw [List.take_of_length_le (by have := HN.out; omega)] at h1
      exact ⟨by rw [h1]; rfl, HL.out.1⟩
    | succ gg =>
      have hlt : k < N := by omega
      have hltI : (k : Int) < (N : Int) := by omega
      have hk0 : (0 : Int) ≤ (k : Int) := by omega
      have hkl : k < ks.length := by have := HN.out; omega
      obtain ⟨g, off, rfl, hg, hr⟩ := HG.out k hkl
      have rK : wr.rangeAt g (off + k * 24) (bc (ks[k]).k) := range_same' hr (HL.out.1.block g hg)
      have hc := rhas_calls wr _ l (Sl.called HS.out HL.out.1) (ks[k]).k (ks[k]).h
      have hK := (ks[k]).h
      have HT : Hid (((ks.take (k + 1)).any fun k => mem l (num k.k)) = (((ks.take k).any fun k => mem l (num k.k)) || mem l (num (ks[k]).k))) := (show _ = _ by rw [List.take_succ_eq_append_getElem hkl, List.any_append]; simp)
      have HH : Hid (mem l (num (ks[k]).k) = true → (ks.any fun k => mem l (num k.k)) = true) := fun q => by rw [List.any_eq_true]; exact ⟨ks[k], List.getElem_mem hkl, q⟩
      have HKS : Hid (wrap64 ((k : Int) + 1) = ((k + 1 : Nat) : Int)) := HM.out k hlt
      clear hr
      generalize mem l (num (ks[k]).k) = rs at *
      generalize (ks[k]).k = KK at *
      cases rs with
      | true =>
        go_wp2_with (first
          | (refine load_part _ rfl g (off + k * 24) rfl rfl _ hK rK ?_)
          | (go_at_call 19; refine hc.mono ?_; clear hc; rintro e y ⟨rfl, b⟩))
        go_ret
        exact ⟨by rw [show (ks.any fun k => mem l (num k.k)) = true by first | exact HH.out trivial | exact HH.out rfl]; rfl, HL.out.1.trans (b.mono HL.out.1.size)⟩
      | false =>
        go_wp2_with (first
          | (refine load_part _ rfl g (off + k * 24) rfl rfl _ hK rK ?_)
          | (go_at_call 19; refine hc.mono ?_; clear hc; rintro e y ⟨rfl, b⟩))
        go_roundg gg
        case measure => omega
        case rel => exact ⟨k + 1, by omega, congrArg (Value.int .i64) HKS.out, ⟨HL.out.1.trans (b.mono HL.out.1.size), by rw [HT.out, HL.out.2]; rfl⟩⟩
theorem kP_eq (l : List Bd) (x : Bd) (k : Nat) (h1 : ∀ j (hj : j < l.length), j < k → (l[j]).v < x.v) (hk : k ≤ l.length) (h2 : ∀ h : k < l.length, ¬ (l[k]).v < x.v) : kP l x = k := by
  induction l generalizing k with
  | nil => simp at hk; subst hk; rfl
  | cons z r ih =>
    unfold kP
    cases k with
    | zero =>
      have := h2 (by simp)
      rw [List.takeWhile_cons_of_neg (by simpa using this)]
      rfl
    | succ k =>
      have h0 := h1 0 (by simp) (by omega)
      rw [List.takeWhile_cons_of_pos (by simpa using h0), List.length_cons]
      have := ih k (fun j hj hjk => by have := h1 (j + 1) (by simpa using hj) (by omega); simpa using this) (by simpa using hk) (fun h => by have := h2 (by simpa using h); simpa using this)
      unfold kP at this
      rw [this]
theorem SlB.drop {α : Type} {k : Nat} {E : Enc α k} {w : World} {B : Nat} {ad : Option Addr} {n cap : Nat} {l : List α} (h : SlB E w B (.slice ad n cap) l) (m : Nat) (hm : m ≤ l.length) : SlB E w B (.slice (if cap = m then ad else ad.map (·.add (m * k))) (n - m) (cap - m)) (l.drop m) := by
  obtain ⟨ad', cap', h1, h2, h3, h4, h5⟩ := h
  cases h1
  have hlen : (l.drop m).length = l.length - m := List.length_drop
  refine ⟨_, cap - m, by rw [hlen], by omega, by omega, fun e => ?_, ?_⟩
  · have : ad = none := by
      split at e
      · exact e
      · cases ad with
        | none => rfl
        | some a => cases e
    have := h4 this
    omega
  · rcases h5 with rfl | ⟨g, off, rfl, hg, hr⟩
    · exact .inl (by simp)
    · by_cases hc : cap = m
      · refine .inl (List.drop_of_length_le (by omega))
      · refine .inr ⟨g, off + m * k, by rw [if_neg hc]; simp [Addr.add_mid], hg, fun i hi => ?_⟩
        rw [List.getElem_drop]
        have := hr (m + i) (by rw [hlen] at hi; omega)
        rw [Nat.add_mul, ← Nat.add_assoc] at this
        exact this
/-- A slice literal of one element of one cell. -/
theorem wp_build_c1 {α : Type} {E : Enc α 1} {P : Program} {ts te : TypeId} {bytes : Nat} {o : Oper} {a : Act} {w : World} {K : Act → World → Prop} {Q : Exit → Act → World → Prop} (R : RowTy P E ts te bytes) (x : Operand) (ho : o.op = .buildSlice ts 1 #[(0, x)]) (e : α) (v : Value) (hx : a.eval x = v) (hv : v.cells = (E.c e).toArray)
    (h : ∀ w', Own E te w' w.heap.size (.slice (some ⟨w.heap.size, 0, none⟩) 1 1) [e] → Below w.heap.size w w' → w'.heap.size = w.heap.size + 1 → K (a.put o.dst (.slice (some ⟨w.heap.size, 0, none⟩) 1 1)) w') : o.wp P a w K Q := by
  obtain ⟨i, z, hi, hz, hsz, hby, hzc⟩ := R.parts
  refine wp_buildSlice ts te 1 _ ho (E.flat [e]).toArray i z R.under hi hz (by rw [hsz]; decide) (by rw [hsz]; decide) ?_ ?_
  · rw [hsz]
    have e1 : (Array.map (fun x : Nat × Operand => match x with | (i, x) => (i, a.eval x)) #[(0, x)]).toList = [(0, v)] := by simp [hx]
    have hs : v.cells.size = 1 := by rw [hv]; simp [E.len]
    rw [e1, fill_put (off := 0) (size := 1) rfl hs (by simp), E.flat_one, hv]
    simp [Instr.fill]
  · refine h _ ⟨E.flat_length [e], .inr ⟨w.heap.size, 1, (E.flat [e]).toArray, rfl, Nat.le_refl _, heap_alloc_new _ _, Nat.le_refl _, by unfold maxLen; omega, by simp [E.flat_length], ?_⟩⟩ ((Below.refl _ w).alloc (Nat.le_refl _) _) (by simp)
    have := E.flat_length [e]
    rw [List.take_of_length_le (by simp [this])]
section
variable {α : Type} {k : Nat} {E : Enc α k} {P : Program} {ts te : TypeId} {bytes : Nat} {o : Oper} {a : Act} {w : World} {K : Act → World → Prop} {Q : Exit → Act → World → Prop}
theorem wp_append_sl (R : RowTy P E ts te bytes) (s x : Operand) (ho : o.op = .call { callee := .builtin .append, args := #[s, x], argTypes := #[ts, ts] })
    (base : Nat) (v : Value) (l m : List α) (hs : a.eval s = v) (hown : Own E te w base v l) (u : Value) (hx : a.eval x = u) (B : Nat) (hu : SlB E w B u m)
    (h63 : l.length + m.length ≤ 1000000) (hbytes : bytes ≤ 10000) (hbase : base ≤ w.heap.size)
    (h : ∀ v' w', Own E te w' base v' (l ++ m) → w.grownBy w' v.ownBlock → K (a.put o.dst v') w') : o.wp P a w K Q := by
  obtain ⟨i, z, hi, hz, hsz, hby, hzc⟩ := R.parts
  have hB : (l.length + m.length) * bytes ≤ 140737488355328 := by
    have := Nat.mul_le_mul h63 hbytes
    omega
  have hl : (l ++ m).length = l.length + m.length := by simp
  have hu' := hu
  obtain ⟨ad, cap, rfl, _⟩ := hu'
  obtain ⟨_, hc⟩ := hu.news
  rcases hc with ⟨rfl, rfl, rfl⟩ | ⟨A, rfl, hn⟩
  · have hrun := run_append_owned_none (P := P) (w := w) base ts o.type te i k R.under hi v l.length (E.flat l) hown
    have hx' : a.eval x = .slice none 0 0 := hx
    unfold Oper.wp
    simp only [execOp, ho, resolve, invoke, builtin, Sem.run_bind, Sem.run_pure, Result.andThen_ok, List.map_toArray, List.map_cons, List.map_nil, hs, hx', hrun]
    exact h _ _ (by rw [List.append_nil]; exact hown) ⟨rfl, rfl, rfl, Nat.le_refl _, fun _ _ _ => rfl⟩
  · refine wp_append_own w s x ts ho base te i z k bytes R.under hi hz hsz hby hzc R.pos v l.length (E.flat l) hs hown A m.length cap (E.flat m) hx (E.flat_length m) hn (E.flat_ones m) (by unfold maxLen; omega) hB hbase ?_
    intro v' w' h1 h2 _
    refine h v' w' ?_ h2
    show w'.ownsRow base te k _ (l ++ m).length (E.flat (l ++ m))
    rw [hl, E.flat_append]
    exact h1
end
end Go.Proofs.Ytbdolhmeknlnpaa
