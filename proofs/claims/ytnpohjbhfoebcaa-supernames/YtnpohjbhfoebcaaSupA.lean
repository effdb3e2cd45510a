/- Superblocks as plain data: when one is right; how snapshots lie in memory; the calls that tell whether a superblock may be. -/
import Derived.Test.YtnpohjbhfoebcaaPackRd
import Derived.Test.YtnpohjbhfoebcaaArr
import Derived.Deep.MidRow
import Derived.Deep.WholeRow
import Derived.Laws.CopyRow
import Derived.Laws.CopyOwn
namespace Go.Proofs.Ytnpohjbhfoebcaa
set_option linter.unusedVariables false
open Go.RowKit

/-- A snapshot, a superblock. -/
structure Snp where
  n : ByteArray
  r : Int
  c : Int
deriving DecidableEq
structure Sup where
  g : Int
  r : Int
  x : Int
  c : Int
  l : List Snp
deriving DecidableEq
def okRoot (n : Int) : Bool := decide (n = 0 ∨ (2 ≤ n ∧ n ≤ 4294967295))
def okFrom (last : List UInt8) (c : Int) : List Snp → Bool
  | [] => true
  | s :: l => decide (s.n.size ≤ 18) && Op.bytesLess last s.n.toList && okRoot s.r && decide (0 ≤ s.c) && decide (s.c ≤ c) && okFrom s.n.toList c l
def right (S : Sup) : Bool := decide (1 ≤ S.g) && decide (S.g ≤ 281474976710655) && okRoot S.r && decide (2 ≤ S.x) && decide (S.x ≤ 1073741824) && decide (0 ≤ S.c) && decide (S.c ≤ 281474976710655) && decide (S.l.length ≤ 8) && okFrom [] S.c S.l

/-- The three cells of a snapshot at a place. -/
def SnpAt (w : World) (g o : Nat) (s : Snp) : Prop := w.cell? ⟨g, o, none⟩ = some (.string s.n) ∧ w.cell? ⟨g, o + 1, none⟩ = some (.int .i64 s.r) ∧ w.cell? ⟨g, o + 2, none⟩ = some (.int .i64 s.c)
/-- A slice of snapshots: they are l, and lie in the row r. -/
def SnapsIn (w : World) (sv : Value) (l : List Snp) (r : Option Nat) : Prop :=
  ∃ ad cap, sv = .slice ad l.length cap ∧ l.length ≤ cap ∧ l.length ≤ maxLen ∧ (l = [] ∨ ∃ g off, ad = some ⟨g, off, none⟩ ∧ r = some g ∧ g < w.heap.size ∧ ∀ i (hi : i < l.length), SnpAt w g (off + i * 3) l[i])
theorem SnpAt.same {w w' : World} {g o : Nat} {s : Snp} (h : SnpAt w g o s) (e : w'.heap[g]? = w.heap[g]?) : SnpAt w' g o s :=
  ⟨(World.cell?_of_block e).trans h.1, (World.cell?_of_block e).trans h.2.1, (World.cell?_of_block e).trans h.2.2⟩
theorem SnapsIn.kept {w w' : World} {sv : Value} {l : List Snp} {r : Option Nat} (h : SnapsIn w sv l r) (hr : ∀ k, r = some k → w'.heap[k]? = w.heap[k]?) : SnapsIn w' sv l r := by
  obtain ⟨ad, cap, h1, h2, h2', h3⟩ := h
  refine ⟨ad, cap, h1, h2, h2', ?_⟩
  rcases h3 with h3 | ⟨g, off, h4, h5, h6, h7⟩
  · exact .inl h3
  · have hb := hr g h5
    refine .inr ⟨g, off, h4, h5, ?_, fun i hi => (h7 i hi).same hb⟩
    have h8 : w'.heap[g]? = some w.heap[g] := hb.trans (by simp [h6])
    exact (Array.getElem?_eq_some_iff.1 h8).1
theorem SnapsIn.below {w w' : World} {sv : Value} {l : List Snp} {r : Option Nat} (h : SnapsIn w sv l r) {B : Nat} (hb : Below B w w') (hB : ∀ k, r = some k → k < B) : SnapsIn w' sv l r := h.kept fun k hk => hb.block k (hB k hk)

abbrev uc (S : Sup) (sv : Value) : Array Value := #[.int .i64 S.g, .int .i64 S.r, .int .i64 S.x, .int .i64 S.c, sv]
abbrev uv (S : Sup) (sv : Value) : Value := .agg (uc S sv)

set_option maxHeartbeats 1000000 in
theorem isRoot_calls (n : Int) (w : World) : Calls Try.prog 13 #[.int .i64 n] w fun e w' => e = .returned (.bool (okRoot n)) ∧ w' = w := by
  by_cases h0 : n = 0
  · subst h0
    go_enter Try.func13, Try.ntmps13
    go_wp2
    go_ret
    exact ⟨rfl, rfl⟩
  by_cases h1 : 2 ≤ n
  · by_cases h2 : n ≤ 4294967295
    · go_enter Try.func13, Try.ntmps13
      go_wp2
      go_ret
      exact ⟨by rw [okRoot, decide_eq_true (.inr ⟨h1, h2⟩)]; rfl, rfl⟩
    · have h3 : (n == 0) = false := by simpa using h0
      go_enter Try.func13, Try.ntmps13
      go_wp2
      go_ret
      exact ⟨by rw [okRoot, decide_eq_false (by omega)]; rfl, rfl⟩
  · have h3 : (n == 0) = false := by simpa using h0
    go_enter Try.func13, Try.ntmps13
    go_wp2
    go_ret
    exact ⟨by rw [okRoot, decide_eq_false (by omega)]; rfl, rfl⟩

theorem less_all : ∀ (x y : List UInt8), (Op.bytesLess x y || x == y) = (!Op.bytesLess y x)
  | [], [] => rfl
  | [], _ :: _ => rfl
  | _ :: _, [] => rfl
  | a :: x, b :: y => by
    have ih := less_all x y
    rw [Op.bytesLess, Op.bytesLess, List.cons_beq_cons]
    by_cases h1 : a = b
    · subst h1
      have h2 : ¬ a < a := UInt8.lt_irrefl a
      simp only [decide_eq_false h2, Bool.false_or, beq_self_eq_true, Bool.true_and]
      exact ih
    · have e1 : (a == b) = false := by simpa using h1
      have e2 : (b == a) = false := by simpa using fun e : b = a => h1 e.symm
      rw [e1, e2]
      have h3 : a.toNat ≠ b.toNat := fun e => h1 (UInt8.toNat_inj.1 e)
      simp only [Bool.false_and, Bool.or_false, UInt8.lt_iff_toNat_lt]
      by_cases h4 : a.toNat < b.toNat
      · rw [decide_eq_true h4, decide_eq_false (by omega)]; rfl
      · rw [decide_eq_false h4, decide_eq_true (by omega)]; rfl
theorem okFrom_drop (last : List UInt8) (c : Int) (l : List Snp) (k : Nat) (hk : k < l.length) : okFrom last c (l.drop k) = (decide (l[k].n.size ≤ 18) && Op.bytesLess last l[k].n.toList && okRoot l[k].r && decide (0 ≤ l[k].c) && decide (l[k].c ≤ c) && okFrom l[k].n.toList c (l.drop (k + 1))) := by
  rw [List.drop_eq_getElem_cons hk, okFrom]

set_option maxHeartbeats 4000000 in
theorem areSnaps_calls (w : World) (sv : Value) (l : List Snp) (r : Option Nat) (c : Int) (h : SnapsIn w sv l r) :
    Calls Try.prog 14 #[sv, .int .i64 c] w fun e w' => e = .returned (.bool (decide (l.length ≤ 8) && okFrom [] c l)) ∧ Below w.heap.size w w' := by
  obtain ⟨ad, cap, rfl, hcap, hmax, hin⟩ := h
  go_enter Try.func14, Try.ntmps14
  by_cases h8 : 8 < l.length
  · go_wp2
    go_ret
    exact ⟨by rw [decide_eq_false (show ¬ l.length ≤ 8 by omega)]; rfl, Below.refl _ _⟩
  · rw [decide_eq_true (show l.length ≤ 8 by omega), Bool.true_and]
    obtain ⟨N, hN⟩ : ∃ N : Nat, N = l.length := ⟨_, rfl⟩
    rw [← hN] at h8 hcap hmax ⊢
    have HN : Hid (N = l.length) := hN
    have HI : Hid (l = [] ∨ ∃ g off, ad = some ⟨g, off, none⟩ ∧ r = some g ∧ g < w.heap.size ∧ ∀ i (hi : i < l.length), SnpAt w g (off + i * 3) l[i]) := hin
    clear hN hin
    go_wp2
    go_loopw [5, 13] (fun la i wr => ∃ (k : Nat) (y : ByteArray), k ≤ N ∧ i = .int .i64 (k : Int) ∧ la = .string y ∧ Below w.heap.size w wr ∧ Hid (okFrom [] c l = okFrom y.toList c (l.drop k))) (fun _ i _ => N - (intOf i).toNat)
    case atStart => exact ⟨0, ByteArray.empty, Nat.zero_le _, rfl, rfl, Below.refl _ _, (show okFrom [] c l = okFrom ByteArray.empty.toList c (l.drop 0) by rw [ByteArray.toList_eq]; rfl)⟩
    case round =>
      obtain ⟨k, y, hk, rfl, rfl, hbel, HE⟩ := hrel
      by_cases hlt : k < N
      · have hkl : k < l.length := by rw [← HN.out]; exact hlt
        obtain ⟨g, off, rfl, hg, hat⟩ : ∃ g off, ad = some ⟨g, off, none⟩ ∧ g < w.heap.size ∧ SnpAt w g (off + k * 3) l[k] := by
          rcases HI.out with e | ⟨g, off, h1, _, h2, h3⟩
          · rw [e] at hkl; simp at hkl
          · exact ⟨g, off, h1, h2, h3 k hkl⟩
        obtain ⟨c0, c1, c2⟩ := hat.same (hbel.block g hg)
        have HE2 := HE.out
        rw [okFrom_drop _ _ _ _ hkl] at HE2
        have HE3 : Hid (okFrom [] c l = _) := HE2
        clear HE2 HE hat
        generalize l[k] = s at *
        obtain ⟨sn, sr, sc⟩ := s
        simp only at c0 c1 c2 HE3
        have hbs := hbel.size
        by_cases q1 : 18 < sn.size
        · go_wp2
          go_ret
          exact ⟨by rw [HE3.out, decide_eq_false (show ¬ sn.size ≤ 18 by omega)]; rfl, hbel.alloc (by omega) _⟩
        cases q2 : Op.bytesLess y.toList sn.toList with
        | false =>
          have q6 := less_all sn.toList y.toList
          rw [q2] at q6
          have HQ : Hid (Op.bytesLess y.toList sn.toList = false) := q2
          clear q2
          cases q7 : Op.bytesLess sn.toList y.toList with
          | true =>
            clear q6
            go_wp2
            go_ret
            exact ⟨by rw [HE3.out, HQ.out]; simp, hbel.alloc (by omega) _⟩
          | false =>
            rw [q7] at q6
            have q8 : (sn.toList == y.toList) = true := by simpa using q6
            clear q6
            go_wp2
            go_ret
            exact ⟨by rw [HE3.out, HQ.out]; simp, hbel.alloc (by omega) _⟩
        | true =>
        have q6 := less_all sn.toList y.toList
        rw [q2] at q6
        have q7 : Op.bytesLess sn.toList y.toList = false := by cases hh : Op.bytesLess sn.toList y.toList <;> simp [hh] at q6 ⊢
        have q8 : (sn.toList == y.toList) = false := by rw [q7] at q6; simpa using q6
        clear q6
        cases q3 : okRoot sr with
        | false =>
          go_wp2_with (go_at_call 13; refine (isRoot_calls sr _).mono ?_; rintro e w1 ⟨rfl, rfl⟩; rw [q3])
          go_ret
          exact ⟨by rw [HE3.out, q3]; simp, hbel.alloc (by omega) _⟩
        | true =>
        by_cases q4 : sc < 0
        · go_wp2_with (go_at_call 13; refine (isRoot_calls sr _).mono ?_; rintro e w1 ⟨rfl, rfl⟩; rw [q3])
          go_ret
          exact ⟨by rw [HE3.out, decide_eq_false (show ¬ 0 ≤ sc by omega)]; simp, hbel.alloc (by omega) _⟩
        by_cases q5 : c < sc
        · go_wp2_with (go_at_call 13; refine (isRoot_calls sr _).mono ?_; rintro e w1 ⟨rfl, rfl⟩; rw [q3])
          go_ret
          exact ⟨by rw [HE3.out, decide_eq_false (show ¬ sc ≤ c by omega)]; simp, hbel.alloc (by omega) _⟩
        go_wp2_with (go_at_call 13; refine (isRoot_calls sr _).mono ?_; rintro e w1 ⟨rfl, rfl⟩; rw [q3])
        go_round
        case rel => exact ⟨k + 1, sn, by omega, by go_num, rfl, hbel.alloc (by omega) _, by rw [HE3.out, q2, q3, decide_eq_true (show sn.size ≤ 18 by omega), decide_eq_true (show 0 ≤ sc by omega), decide_eq_true (show sc ≤ c by omega)]; rfl⟩
        case measure => simp [intOf]; omega
      · have e : k = N := by omega
        subst e
        go_wp2
        go_ret
        exact ⟨by rw [HE.out, HN.out, List.drop_length]; rfl, hbel⟩
end Go.Proofs.Ytnpohjbhfoebcaa
