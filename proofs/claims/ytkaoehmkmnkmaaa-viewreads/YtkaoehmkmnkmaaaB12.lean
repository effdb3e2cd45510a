import Derived.Test.YtkaoehmkmnkmaaaB03
import Derived.Test.YtkaoehmkmnkmaaaB09
import Derived.Test.YtkaoehmkmnkmaaaB11
import Derived.Test.YtkaoehmkmnkmaaaSi
/- More of slices of elements of k cells: the rest of one, append of any slice at one operation. -/
namespace Go.Proofs.Ytkaoehmkmnkmaaa
set_option linter.unusedVariables false
set_option maxRecDepth 100000
open Go.RowKit

theorem SlB.drop {α : Type} {k : Nat} {E : Enc α k} {w : World} {B : Nat} {ad : Option Addr} {n cap : Nat} {l : List α} (h : SlB E w B (.slice ad n cap) l) (m : Nat) (hm : m ≤ l.length) : SlB E w B (.slice (if cap = m then ad else ad.map (·.add (m * k))) (n - m) (cap - m)) (l.drop m) := by
  obtain ⟨ad', cap', h1, h2, h3, h4, h5⟩ := h
  cases h1
  have hlen : (l.drop m).length = l.length - m := List.length_drop
  refine ⟨_, cap - m, by rw [hlen], by omega, by omega, fun e => ?_, ?_⟩
  · have : ad = none := by
      split at e
      · exact e
      · cases ad with
        | none => rfl
        | some a => cases e
    have := h4 this
    omega
  · rcases h5 with rfl | ⟨g, off, rfl, hg, hr⟩
    · exact .inl (by simp)
    · by_cases hc : cap = m
      · refine .inl (List.drop_of_length_le (by omega))
      · refine .inr ⟨g, off + m * k, by rw [if_neg hc]; simp [Addr.add_mid], hg, fun i hi => ?_⟩
        rw [List.getElem_drop]
        have := hr (m + i) (by rw [hlen] at hi; omega)
        rw [Nat.add_mul, ← Nat.add_assoc] at this
        exact this
theorem wp_build_c1 {α : Type} {E : Enc α 1} {P : Program} {ts te : TypeId} {bytes : Nat} {o : Oper} {a : Act} {w : World} {K : Act → World → Prop} {Q : Exit → Act → World → Prop} (R : RowTy P E ts te bytes) (x : Operand) (ho : o.op = .buildSlice ts 1 #[(0, x)]) (e : α) (v : Value) (hx : a.eval x = v) (hv : v.cells = (E.c e).toArray)
    (h : ∀ w', Own E te w' w.heap.size (.slice (some ⟨w.heap.size, 0, none⟩) 1 1) [e] → Below w.heap.size w w' → w'.heap.size = w.heap.size + 1 → K (a.put o.dst (.slice (some ⟨w.heap.size, 0, none⟩) 1 1)) w') : o.wp P a w K Q := by
  obtain ⟨i, z, hi, hz, hsz, hby, hzc⟩ := R.parts
  refine wp_buildSlice ts te 1 _ ho (E.flat [e]).toArray i z R.under hi hz (by rw [hsz]; decide) (by rw [hsz]; decide) ?_ ?_
  · rw [hsz]
    have e1 : (Array.map (fun x : Nat × Operand => match x with | (i, x) => (i, a.eval x)) #[(0, x)]).toList = [(0, v)] := by simp [hx]
    have hs : v.cells.size = 1 := by rw [hv]; simp [E.len]
    rw [e1, fill_put (off := 0) (size := 1) rfl hs (by simp), E.flat_one, hv]
    simp [Instr.fill]
  · refine h _ ⟨E.flat_length [e], .inr ⟨w.heap.size, 1, (E.flat [e]).toArray, rfl, Nat.le_refl _, heap_alloc_new _ _, Nat.le_refl _, by unfold maxLen; omega, by simp [E.flat_length], ?_⟩⟩ ((Below.refl _ w).alloc (Nat.le_refl _) _) (by simp)
    have := E.flat_length [e]
    rw [List.take_of_length_le (by simp [this])]
section
variable {α : Type} {k : Nat} {E : Enc α k} {P : Program} {ts te : TypeId} {bytes : Nat} {o : Oper} {a : Act} {w : World} {K : Act → World → Prop} {Q : Exit → Act → World → Prop}
theorem wp_append_sl (R : RowTy P E ts te bytes) (s x : Operand) (ho : o.op = .call { callee := .builtin .append, args := #[s, x], argTypes := #[ts, ts] })
    (base : Nat) (v : Value) (l m : List α) (hs : a.eval s = v) (hown : Own E te w base v l) (u : Value) (hx : a.eval x = u) (B : Nat) (hu : SlB E w B u m)
    (h63 : l.length + m.length ≤ 1000000) (hbytes : bytes ≤ 10000) (hbase : base ≤ w.heap.size)
    (h : ∀ v' w', Own E te w' base v' (l ++ m) → w.grownBy w' v.ownBlock → K (a.put o.dst v') w') : o.wp P a w K Q := by
  obtain ⟨i, z, hi, hz, hsz, hby, hzc⟩ := R.parts
  have hB : (l.length + m.length) * bytes ≤ 140737488355328 := by
    have := Nat.mul_le_mul h63 hbytes
    omega
  have hl : (l ++ m).length = l.length + m.length := by simp
  have hu' := hu
  obtain ⟨ad, cap, rfl, _⟩ := hu'
  obtain ⟨_, hc⟩ := hu.news
  rcases hc with ⟨rfl, rfl, rfl⟩ | ⟨A, rfl, hn⟩
  · have hrun := run_append_owned_none (P := P) (w := w) base ts o.type te i k R.under hi v l.length (E.flat l) hown
    have hx' : a.eval x = .slice none 0 0 := hx
    unfold Oper.wp
    simp only [execOp, ho, resolve, invoke, builtin, Sem.run_bind, Sem.run_pure, Result.andThen_ok, List.map_toArray, List.map_cons, List.map_nil, hs, hx', hrun]
    exact h _ _ (by rw [List.append_nil]; exact hown) ⟨rfl, rfl, rfl, Nat.le_refl _, fun _ _ _ => rfl⟩
  · refine wp_append_own w s x ts ho base te i z k bytes R.under hi hz hsz hby hzc R.pos v l.length (E.flat l) hs hown A m.length cap (E.flat m) hx (E.flat_length m) hn (E.flat_ones m) (by unfold maxLen; omega) hB hbase ?_
    intro v' w' h1 h2 _
    refine h v' w' ?_ h2
    show w'.ownsRow base te k _ (l ++ m).length (E.flat (l ++ m))
    rw [hl, E.flat_append]
    exact h1
end
theorem build_c1 {α : Type} {E : Enc α 1} {P : Program} {ts te : TypeId} {bytes : Nat} {ops : Array Oper} {rest : List Oper} {o : Oper} {a : Act} {w : World} {Q : Exit → Act → World → Prop} (R : RowTy P E ts te bytes) (hg : o.guard = none) (x : Operand) (ho : o.op = .buildSlice ts 1 #[(0, x)]) (e : α) (v : Value) (hx : a.eval x = v) (hv : v.cells = (E.c e).toArray)
    (h : ∀ w', Own E te w' w.heap.size (.slice (some ⟨w.heap.size, 0, none⟩) 1 1) [e] → Below w.heap.size w w' → w'.heap.size = w.heap.size + 1 → wpList P ops Q rest (a.put o.dst (.slice (some ⟨w.heap.size, 0, none⟩) 1 1)) w') : wpList P ops Q (o :: rest) a w :=
  wpList_plain hg fun _ hK => wp_build_c1 R x ho e v hx hv fun w' h1 h2 h3 => hK _ _ (h w' h1 h2 h3)
theorem append_slB {α : Type} {k : Nat} {E : Enc α k} {P : Program} {ts te : TypeId} {bytes : Nat} {ops : Array Oper} {rest : List Oper} {o : Oper} {a : Act} {w : World} {Q : Exit → Act → World → Prop} (R : RowTy P E ts te bytes) (hg : o.guard = none) (s x : Operand) (ho : o.op = .call { callee := .builtin .append, args := #[s, x], argTypes := #[ts, ts] })
    (base : Nat) (v : Value) (l m : List α) (hs : a.eval s = v) (hown : Own E te w base v l) (u : Value) (hx : a.eval x = u) (B : Nat) (hu : SlB E w B u m)
    (h63 : l.length + m.length ≤ 1000000) (hbytes : bytes ≤ 10000) (hbase : base ≤ w.heap.size)
    (h : ∀ v' w', Own E te w' base v' (l ++ m) → w.grownBy w' v.ownBlock → wpList P ops Q rest (a.put o.dst v') w') : wpList P ops Q (o :: rest) a w :=
  wpList_plain hg fun _ hK => wp_append_sl R s x ho base v l m hs hown u hx B hu h63 hbytes hbase fun v' w' h1 h2 => hK _ _ (h v' w' h1 h2)
theorem sl_open {α : Type} {k : Nat} {E : Enc α k} {w : World} {v : Value} {l : List α} (h : Sl E w v l) : ∃ ad N cap, v = .slice ad N cap ∧ Hid (N = l.length ∧ N ≤ cap ∧ Sl E w (.slice ad N cap) l ∧ ∀ i (hi : i < l.length), ∃ g off, ad = some ⟨g, off, none⟩ ∧ g < w.heap.size ∧ w.rangeAt g (off + i * k) (E.c l[i])) := by
  have h0 := h
  obtain ⟨ad, cap, rfl, hcap, hmax, _, _⟩ := h
  exact ⟨ad, _, cap, rfl, ⟨rfl, hcap, h0, fun i hi => SlB.at h0 i hi⟩⟩
end Go.Proofs.Ytkaoehmkmnkmaaa
/- Plain of package view: the closure by which pairs are found. -/
namespace Go.Proofs.Ytkaoehmkmnkmaaa
set_option linter.unusedVariables false
set_option maxRecDepth 100000
open Go.RowKit

theorem ord_less (p : Pa) (K : Kz) : decide (Lib.compareBytes p.k K.k < 0) = decide (p.n < K.n) := by
  rw [compare_less, less_num p.k K.k (by rw [p.h, K.h])]
  exact decide_eq_decide.2 ⟨fun h => by unfold Pa.n Kz.n; omega, fun h => by unfold Pa.n Kz.n at h; omega⟩
theorem ord_zero (p : Pa) (K : Kz) : decide (Lib.compareBytes p.k K.k = 0) = decide (p.n = K.n) := by
  refine decide_eq_decide.2 ((compare_zero _ _).trans ⟨fun h => by unfold Pa.n Kz.n; rw [h], fun h => ?_⟩)
  exact num_inj p.k K.k (by rw [p.h, K.h]) (by unfold Pa.n Kz.n at h; omega)
set_option maxHeartbeats 1000000 in
theorem ordP_calls (w : World) (p : Pa) (K : Kz) : Calls Try.prog 119 #[.agg (encP.c p).toArray, kv K.k] w fun e w' => ∃ n, e = .returned (.int .i64 n) ∧ decide (n < 0) = decide (p.n < K.n) ∧ decide (n = 0) = decide (p.n = K.n) ∧ Below w.heap.size w w' := by
  have h1 : InB encP 55 ((w.alloc (.cells (encP.c p).toArray 55)).alloc (.cells (bc K.k).toArray 23)) w.heap.size p := (InB.new encP _ w p _ rfl).alloc _
  have h2 : Has ((w.alloc (.cells (encP.c p).toArray 55)).alloc (.cells (bc K.k).toArray 23)) (w.heap.size + 1) K.k := by
    have := Has.new (w.alloc (.cells (encP.c p).toArray 55)) K.k K.h
    simpa using this
  have HB : Hid (Below w.heap.size w ((w.alloc (.cells (encP.c p).toArray 55)).alloc (.cells (bc K.k).toArray 23))) := ((Below.refl _ w).alloc (Nat.le_refl _) _).alloc (by simp) _
  have HC : Hid (∀ W, (W.rangeAt w.heap.size 0 (bc p.k)) → W.rangeAt (w.heap.size + 1) 0 (bc K.k) → Calls Try.prog 52 #[.slice (some ⟨w.heap.size, 0, none⟩) 24 24, .slice (some ⟨w.heap.size + 1, 0, none⟩) 24 24] W fun e w' => e = .returned (.int .i64 (Lib.compareBytes p.k K.k)) ∧ w' = W) := fun W a b => compareAt_calls W _ _ _ _ p.h K.h a b 24 24
  have HR : Hid (decide (Lib.compareBytes p.k K.k < 0) = decide (p.n < K.n)) := ord_less p K
  have HZ : Hid (decide (Lib.compareBytes p.k K.k = 0) = decide (p.n = K.n)) := ord_zero p K
  have r1 := range_kP h1.range
  have r2 : ((w.alloc (.cells (encP.c p).toArray 55)).alloc (.cells (bc K.k).toArray 23)).rangeAt (w.heap.size + 1) 0 (bc K.k) := fun j v hv => by
    rw [Nat.zero_add, cell_of_row _ _ _ _ _ _ h2.blk]
    simpa using hv
  have HH : Hid (∀ q, ((((w.alloc (.cells (encP.c p).toArray 55)).alloc (.cells (bc K.k).toArray 23)).drewN q).rangeAt w.heap.size 0 (bc p.k)) ∧ (((w.alloc (.cells (encP.c p).toArray 55)).alloc (.cells (bc K.k).toArray 23)).drewN q).rangeAt (w.heap.size + 1) 0 (bc K.k)) := fun q => ⟨r1, r2⟩
  generalize Lib.compareBytes p.k K.k = r at *
  clear h1 h2 r1 r2
  go_enter Try.func119, Try.ntmps119
  go_wp2
  go_quiet (first | (go_at_call 52; exact Calls.quiet_of_same (HC.out _ (HH.out _).1 (HH.out _).2)))
  go_wp2
  go_ret
  exact ⟨_, rfl, HR.out, HZ.out, below_drewN HB.out _⟩
end Go.Proofs.Ytkaoehmkmnkmaaa
