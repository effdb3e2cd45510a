/- For SpanClean: appending in a drawn region, what a set's elements are, a list turned round. -/
import Derived.Test.YtbdolhmeknlnpaaSpJ
import Derived.Test.YtbdolhmeknlnpaaKeyS2
namespace Go.Proofs.Ytbdolhmeknlnpaa
set_option linter.unusedVariables false
open Go.RowKit

theorem exec_key0 {ρ : Operand → Value} {o : Oper} (ho : o.op = .build 30 #[]) (w : World) : (execOp ρ o).run Try.prog w = .ok (.value (kv (zs 24))) w := by
  have hb : Try.prog.built 30 (#[] : Array (Nat × Value)).toList = some (bc (zs 24)).toArray := by kernel_rfl
  unfold execOp
  simp only [ho, Sem.run_bind]
  have e : (Array.map (fun x : Nat × Operand => match x with | (i, x) => (i, ρ x)) #[]) = #[] := by simp
  rw [e, run_build w 30 #[] _ hb]
  rfl
section
variable {α : Type} {k : Nat} {E : Enc α k} {P : Program} {ts te : TypeId} {bytes : Nat} {o : Oper} {a : Act} {w : World} {K : Act → World → Prop} {Q : Exit → Act → World → Prop}
theorem wp_build_el2 (R : RowTy P E ts te bytes) (x y : Operand) (ho : o.op = .buildSlice ts 2 #[(0, x), (1, y)]) (e f : α) (hx : a.eval x = .agg (E.c e).toArray) (hy : a.eval y = .agg (E.c f).toArray) (hsmall : k ≤ 1000)
    (h : ∀ w', Own E te w' w.heap.size (.slice (some ⟨w.heap.size, 0, none⟩) 2 2) [e, f] → Below w.heap.size w w' → w'.heap.size = w.heap.size + 1 → K (a.put o.dst (.slice (some ⟨w.heap.size, 0, none⟩) 2 2)) w') : o.wp P a w K Q :=
  wp_build_els R 2 _ ho [e, f] rfl (by decide) (by omega) (by simp [hx, hy]) fun w' h1 h2 h3 _ => h w' h1 h2 h3
theorem wp_append_two (R : RowTy P E ts te bytes) (s x : Operand) (ho : o.op = .call { callee := .builtin .append, args := #[s, x], argTypes := #[ts, ts] })
    (base : Nat) (v : Value) (l : List α) (hs : a.eval s = v) (hown : Own E te w base v l) (b : Nat) (e f : α) (hx : a.eval x = .slice (some ⟨b, 0, none⟩) 2 2) (base2 : Nat) (hu : Own E te w base2 (.slice (some ⟨b, 0, none⟩) 2 2) [e, f])
    (h63 : l.length + 2 ≤ 1000000) (hbytes : bytes ≤ 10000) (hbase : base ≤ w.heap.size)
    (h : ∀ v' w', Own E te w' base v' (l ++ [e, f]) → w.grownBy w' v.ownBlock → K (a.put o.dst v') w') : o.wp P a w K Q := by
  obtain ⟨i, z, hi, hz, hsz, hby, hzc⟩ := R.parts
  have hB : (l.length + 2) * bytes ≤ 140737488355328 := by
    have := Nat.mul_le_mul h63 hbytes
    omega
  have hl : (l ++ [e, f]).length = l.length + 2 := by simp
  refine wp_append_own w s x ts ho base te i z k bytes R.under hi hz hsz hby hzc R.pos v l.length (E.flat l) hs hown ⟨b, 0, none⟩ 2 2 (E.flat [e, f]) hx (E.flat_length [e, f]) (hu.cells rfl) (E.flat_ones _) (by unfold maxLen; omega) hB hbase ?_
  intro v' w' h1 h2 _
  refine h v' w' ?_ h2
  show w'.ownsRow base te k _ (l ++ [e, f]).length (E.flat (l ++ [e, f]))
  rw [hl, E.flat_append]
  exact h1
end
/-- A list turned round, each span twice. -/
def backL (l : List Sp) : List Sp := l.reverse.flatMap fun s => [s, s]
theorem backL_cons (s : Sp) (l : List Sp) : backL (s :: l) = backL l ++ [s, s] := by simp [backL]
theorem backL_len : ∀ (l : List Sp), (backL l).length = 2 * l.length
  | [] => rfl
  | s :: l => by rw [backL_cons, List.length_append, backL_len l]; simp; omega
theorem mem_back : ∀ (l : List Sp) (x : Int), mem (backL l) x = mem l x
  | [], _ => rfl
  | s :: l, x => by
    rw [backL_cons, mem_append, mem_back l x, mem_cons, mem_cons, mem_cons, mem_nil]
    cases s.inb x <;> cases mem l x <;> rfl
/-- What the elements of a set are. -/
theorem set_at : ∀ {lo : Int} {R : List Sp}, SetFrom lo R → ∀ i (hi : i < R.length), ((R[i]).e = true → i + 1 = R.length ∧ (R[i]).T = zs 24) ∧ ((R[i]).e = false → num (R[i]).F < num (R[i]).T)
  | _, [], _, i, hi => by cases hi
  | lo, s :: r, ⟨h1, h2⟩, i, hi => by
    cases i with
    | zero =>
      rcases h2 with ⟨he, rfl, hT⟩ | ⟨he, h3, _⟩
      · exact ⟨fun _ => ⟨rfl, hT⟩, fun q => by simp [he] at q⟩
      · exact ⟨fun q => by simp [he] at q, fun _ => by simpa using h3⟩
    | succ i =>
      rcases h2 with ⟨he, rfl, hT⟩ | ⟨he, h3, hr⟩
      · simp at hi
      · obtain ⟨a, b⟩ := set_at hr i (by simpa using hi)
        refine ⟨fun q => ?_, fun q => ?_⟩
        · obtain ⟨c, d⟩ := a (by simpa using q)
          exact ⟨by simp; omega, by simpa using d⟩
        · simpa using b (by simpa using q)
theorem set_next : ∀ {lo : Int} {R : List Sp}, SetFrom lo R → ∀ i (hi : i + 1 < R.length), num (R[i]).T < num (R[i + 1]).F
  | _, [], _, i, hi => by simp at hi
  | lo, [s], _, i, hi => by simp at hi
  | lo, s :: u :: r, ⟨h1, h2⟩, i, hi => by
    rcases h2 with ⟨he, h, hT⟩ | ⟨he, h3, hr⟩
    · cases h
    · cases i with
      | zero =>
        have := hr.1
        simp
        omega
      | succ i =>
        have := set_next hr i (by simpa using hi)
        simpa using this
/-- A span of the set, as the loop over it holds it. -/
structure Cw (B : Nat) (ys yy : World) (g o : Nat) (s : Sp) : Prop where
  bel : Below B ys yy
  r : yy.rangeAt g o (encS.c s)
theorem Cw.called {B : Nat} {ys x y : World} {g o : Nat} {s : Sp} (h : Cw B ys x g o s) (hB : B ≤ ys.heap.size) (hg : g < B) (b : Below x.heap.size x y) : Cw B ys y g o s :=
  ⟨h.bel.trans (b.mono (Nat.le_trans hB h.bel.size)), range_same' h.r (b.block g (Nat.lt_of_lt_of_le hg (Nat.le_trans hB h.bel.size)))⟩
theorem Cw.e {B : Nat} {ys x : World} {g o : Nat} {s : Sp} (h : Cw B ys x g o s) : x.cell? ⟨g, o + 48, none⟩ = some (.bool s.e) := range_E h.r
end Go.Proofs.Ytbdolhmeknlnpaa
