/- Is one of them too long, or nowhere? -/
import Derived.Test.YtggbnacpgkbieaaNodA
namespace Go.Proofs.Ytggbnacpgkbieaa
set_option linter.unusedVariables false
open Go.RowKit

def badP (p : Pr) : Bool := decide (40 < p.s.size)
theorem Pr.ok_el {p : Pr} (h : p.k.length = 24) : p.el.Ok := ⟨h, rfl⟩
set_option maxHeartbeats 1000000 in
theorem badP_calls (w : World) (p : Pr) (h : p.k.length = 24) : Calls Try.prog 55 #[ev p.el] w fun x w' => x = .returned (.bool (badP p)) ∧ Below w.heap.size w w' := by
  have h1 : HasP (w.alloc (.cells (ec p.el).toArray 44)) w.heap.size p.el := HasP.new w p.el _ rfl (Pr.ok_el h)
  have c24 : (w.alloc (.cells (ec p.el).toArray 44)).cell? ⟨w.heap.size, 24, none⟩ = some (.string p.s) := h1.val
  have HR : Hid (badP p = decide (40 < p.s.size)) := rfl
  clear h1
  have B : Below w.heap.size w (w.alloc (.cells (ec p.el).toArray 44)) := (Below.refl _ w).alloc (Nat.le_refl _) _
  go_enter Try.func55, Try.ntmps55
  go_wp2
  go_ret
  exact ⟨by rw [HR.out]; simp; omega, B⟩
def anyP (l : List Pr) : Bool := l.any badP
set_option maxHeartbeats 2000000 in
theorem indexP_calls (w : World) (sv : Value) (l : List Pr) (r : Option Nat) (h : ElsIn w sv (l.map Pr.el) r) :
    Calls Try.prog 63 #[sv, .func (Fn.func 55) #[] #[]] w fun e w' => ∃ n : Int, e = .returned (.int .i64 n) ∧ decide (0 ≤ n) = anyP l ∧ Below w.heap.size w w' := by
  obtain ⟨ad, cap, rfl, hcap, hmax, hok, hin⟩ := h
  simp only [List.length_map] at hcap hmax hok hin ⊢
  obtain ⟨N, hN⟩ : ∃ N : Nat, N = l.length := ⟨_, rfl⟩
  rw [← hN] at hcap hmax ⊢
  have HN : Hid (N = l.length) := hN
  have HM : Hid (∀ k : Nat, k < N → wrap64 ((k : Int) + 1) = ((k + 1 : Nat) : Int)) := fun k hk => wrap_succ hk hmax
  have HME : Hid (∀ k : Nat, k < N → N - (intOf (Value.int .i64 (wrap64 ((k : Int) + 1)))).toNat < N - (intOf (Value.int .i64 (k : Int))).toNat) := fun k hk => meas_succ hk hmax
  clear hmax
  have HO : Hid (∀ i (hi : i < l.length), (l[i]).k.length = 24) := fun i hi => by have := (hok i hi).len; simpa [Pr.el] using this
  have HI : Hid (∀ i (hi : i < l.length), ∃ g off, ad = some ⟨g, off, none⟩ ∧ g < w.heap.size ∧ w.rangeAt g (off + i * 25) (ec (l[i]).el)) := fun i hi => by
    rcases hin with e | ⟨g, off, h1, _, h2, h3⟩
    · simp at e; subst e; simp at hi
    · exact ⟨g, off, h1, h2, by have := h3 i hi; simpa using this⟩
  clear hN hin hok
  go_enter Try.func63, Try.ntmps63
  go_wp2
  go_loopw [8] (fun i wr => ∃ k : Nat, k ≤ N ∧ i = .int .i64 (k : Int) ∧ Below w.heap.size w wr ∧ Hid (anyP l = anyP (l.drop k))) (fun i _ => N - (intOf i).toNat)
  case atStart => exact ⟨0, Nat.zero_le _, rfl, Below.refl _ _, (show anyP l = anyP (l.drop 0) from rfl)⟩
  case round =>
    obtain ⟨k, hk, rfl, hbel, HE⟩ := hrel
    by_cases hlt : k < N
    · have hkl : k < l.length := by rw [← HN.out]; exact hlt
      obtain ⟨g, off, rfl, hg, hat⟩ := HI.out k hkl
      have hok := HO.out k hkl
      have HR : Hid (wr.rangeAt g (off + k * 25) (ec (l[k]).el)) := range_same hat (hbel.block g hg)
      have HE3 : Hid (anyP l = (badP l[k] || anyP (l.drop (k + 1)))) := (show _ = _ by rw [HE.out, anyP, List.drop_eq_getElem_cons hkl, List.any_cons]; rfl)
      clear HE hat
      generalize l[k] = p at *
      have hbs := hbel.size
      cases hb : badP p with
      | true =>
        go_wp2_with (first
          | (refine load_P _ rfl g (off + k * 25) rfl rfl p.el (Pr.ok_el hok) HR.out ?_)
          | (go_at_call 55; refine (badP_calls _ p hok).mono ?_; rintro e w1 ⟨rfl, b1⟩; rw [hb]))
        go_ret
        exact ⟨_, rfl, by rw [HE3.out, hb]; simp, hbel.trans (b1.mono hbs)⟩
      | false =>
        go_wp2_with (first
          | (refine load_P _ rfl g (off + k * 25) rfl rfl p.el (Pr.ok_el hok) HR.out ?_)
          | (go_at_call 55; refine (badP_calls _ p hok).mono ?_; rintro e w1 ⟨rfl, b1⟩; rw [hb]))
        go_round
        case rel => exact ⟨k + 1, by omega, by rw [← HM.out k hlt], hbel.trans (b1.mono hbs), by rw [HE3.out, hb]; rfl⟩
        case measure => exact HME.out k hlt
    · have e : k = N := by omega
      subst e
      go_wp2
      go_ret
      exact ⟨_, rfl, by rw [HE.out, HN.out, List.drop_length]; rfl, hbel⟩
set_option maxHeartbeats 1000000 in
theorem containsP_calls (w : World) (sv : Value) (l : List Pr) (r : Option Nat) (h : ElsIn w sv (l.map Pr.el) r) :
    Calls Try.prog 56 #[sv, .func (Fn.func 55) #[] #[]] w fun e w' => e = .returned (.bool (anyP l)) ∧ Below w.heap.size w w' := by
  have hc := indexP_calls w sv l r h
  obtain ⟨ad, cap, rfl, _⟩ := h
  rw [List.length_map] at hc ⊢
  go_enter Try.func56, Try.ntmps56
  go_wp2_with (go_at_call 63; refine hc.mono ?_; rintro e w1 ⟨n, rfl, hn, b1⟩; have HN : Hid (decide (0 ≤ n) = anyP l) := hn; clear hn)
  go_ret
  exact ⟨by rw [← HN.out]; rfl, b1⟩

def badK (p : Kd) : Bool := decide (p.n < 2 ∨ 4294967295 < p.n)
theorem Kd.ok_el {p : Kd} (h : p.k.length = 24) : p.el.Ok := ⟨h, rfl⟩
set_option maxHeartbeats 1000000 in
theorem badK_calls (w : World) (p : Kd) (h : p.k.length = 24) : Calls Try.prog 58 #[ev p.el] w fun x w' => x = .returned (.bool (badK p)) ∧ Below w.heap.size w w' := by
  have h1 : HasK (w.alloc (.cells (ec p.el).toArray 54)) w.heap.size p.el := HasK.new w p.el _ rfl (Kd.ok_el h)
  have c24 : (w.alloc (.cells (ec p.el).toArray 54)).cell? ⟨w.heap.size, 24, none⟩ = some (.int .i64 p.n) := h1.val
  have HR : Hid (badK p = decide (p.n < 2 ∨ 4294967295 < p.n)) := rfl
  clear h1
  have B : Below w.heap.size w (w.alloc (.cells (ec p.el).toArray 54)) := (Below.refl _ w).alloc (Nat.le_refl _) _
  by_cases h1 : p.n < 2
  · go_enter Try.func58, Try.ntmps58
    go_wp2
    go_ret
    exact ⟨by rw [HR.out, decide_eq_true (.inl h1)]; rfl, B⟩
  · go_enter Try.func58, Try.ntmps58
    go_wp2
    go_ret
    exact ⟨by rw [HR.out]; simp; omega, B⟩
def anyK (l : List Kd) : Bool := l.any badK
set_option maxHeartbeats 2000000 in
theorem indexK_calls (w : World) (sv : Value) (l : List Kd) (r : Option Nat) (h : ElsIn w sv (l.map Kd.el) r) :
    Calls Try.prog 64 #[sv, .func (Fn.func 58) #[] #[]] w fun e w' => ∃ n : Int, e = .returned (.int .i64 n) ∧ decide (0 ≤ n) = anyK l ∧ Below w.heap.size w w' := by
  obtain ⟨ad, cap, rfl, hcap, hmax, hok, hin⟩ := h
  simp only [List.length_map] at hcap hmax hok hin ⊢
  obtain ⟨N, hN⟩ : ∃ N : Nat, N = l.length := ⟨_, rfl⟩
  rw [← hN] at hcap hmax ⊢
  have HN : Hid (N = l.length) := hN
  have HM : Hid (∀ k : Nat, k < N → wrap64 ((k : Int) + 1) = ((k + 1 : Nat) : Int)) := fun k hk => wrap_succ hk hmax
  have HME : Hid (∀ k : Nat, k < N → N - (intOf (Value.int .i64 (wrap64 ((k : Int) + 1)))).toNat < N - (intOf (Value.int .i64 (k : Int))).toNat) := fun k hk => meas_succ hk hmax
  clear hmax
  have HO : Hid (∀ i (hi : i < l.length), (l[i]).k.length = 24) := fun i hi => by have := (hok i hi).len; simpa [Kd.el] using this
  have HI : Hid (∀ i (hi : i < l.length), ∃ g off, ad = some ⟨g, off, none⟩ ∧ g < w.heap.size ∧ w.rangeAt g (off + i * 25) (ec (l[i]).el)) := fun i hi => by
    rcases hin with e | ⟨g, off, h1, _, h2, h3⟩
    · simp at e; subst e; simp at hi
    · exact ⟨g, off, h1, h2, by have := h3 i hi; simpa using this⟩
  clear hN hin hok
  go_enter Try.func64, Try.ntmps64
  go_wp2
  go_loopw [8] (fun i wr => ∃ k : Nat, k ≤ N ∧ i = .int .i64 (k : Int) ∧ Below w.heap.size w wr ∧ Hid (anyK l = anyK (l.drop k))) (fun i _ => N - (intOf i).toNat)
  case atStart => exact ⟨0, Nat.zero_le _, rfl, Below.refl _ _, (show anyK l = anyK (l.drop 0) from rfl)⟩
  case round =>
    obtain ⟨k, hk, rfl, hbel, HE⟩ := hrel
    by_cases hlt : k < N
    · have hkl : k < l.length := by rw [← HN.out]; exact hlt
      obtain ⟨g, off, rfl, hg, hat⟩ := HI.out k hkl
      have hok := HO.out k hkl
      have HR : Hid (wr.rangeAt g (off + k * 25) (ec (l[k]).el)) := range_same hat (hbel.block g hg)
      have HE3 : Hid (anyK l = (badK l[k] || anyK (l.drop (k + 1)))) := (show _ = _ by rw [HE.out, anyK, List.drop_eq_getElem_cons hkl, List.any_cons]; rfl)
      clear HE hat
      generalize l[k] = p at *
      have hbs := hbel.size
      cases hb : badK p with
      | true =>
        go_wp2_with (first
          | (refine load_K _ rfl g (off + k * 25) rfl rfl p.el (Kd.ok_el hok) HR.out ?_)
          | (go_at_call 58; refine (badK_calls _ p hok).mono ?_; rintro e w1 ⟨rfl, b1⟩; rw [hb]))
        go_ret
        exact ⟨_, rfl, by rw [HE3.out, hb]; simp, hbel.trans (b1.mono hbs)⟩
      | false =>
        go_wp2_with (first
          | (refine load_K _ rfl g (off + k * 25) rfl rfl p.el (Kd.ok_el hok) HR.out ?_)
          | (go_at_call 58; refine (badK_calls _ p hok).mono ?_; rintro e w1 ⟨rfl, b1⟩; rw [hb]))
        go_round
        case rel => exact ⟨k + 1, by omega, by rw [← HM.out k hlt], hbel.trans (b1.mono hbs), by rw [HE3.out, hb]; rfl⟩
        case measure => exact HME.out k hlt
    · have e : k = N := by omega
      subst e
      go_wp2
      go_ret
      exact ⟨_, rfl, by rw [HE.out, HN.out, List.drop_length]; rfl, hbel⟩
set_option maxHeartbeats 1000000 in
theorem containsK_calls (w : World) (sv : Value) (l : List Kd) (r : Option Nat) (h : ElsIn w sv (l.map Kd.el) r) :
    Calls Try.prog 59 #[sv, .func (Fn.func 58) #[] #[]] w fun e w' => e = .returned (.bool (anyK l)) ∧ Below w.heap.size w w' := by
  have hc := indexK_calls w sv l r h
  obtain ⟨ad, cap, rfl, _⟩ := h
  rw [List.length_map] at hc ⊢
  go_enter Try.func59, Try.ntmps59
  go_wp2_with (go_at_call 64; refine hc.mono ?_; rintro e w1 ⟨n, rfl, hn, b1⟩; have HN : Hid (decide (0 ≤ n) = anyK l) := hn; clear hn)
  go_ret
  exact ⟨by rw [← HN.out]; rfl, b1⟩
end Go.Proofs.Ytggbnacpgkbieaa
