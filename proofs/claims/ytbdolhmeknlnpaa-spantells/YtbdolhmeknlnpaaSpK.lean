/- Has: does a list mean a key? -/
import Derived.Test.YtbdolhmeknlnpaaSpJ
namespace Go.Proofs.Ytbdolhmeknlnpaa
set_option linter.unusedVariables false
open Go.RowKit

set_option maxHeartbeats 1000000 in
/-- The closure that Has hands over. -/
theorem has1_pred (K : List UInt8) (B : Nat) (w : World) (hB : Has w B K) : PredBelow Try.prog 34 #[.pointer (some ⟨B, 0, none⟩)] (fun s => .agg (encS.c s).toArray) (fun s => s.inb (num K)) w := by
  intro W s hb
  have hK : Has W B K := hB.below hb hB.lt
  have hsz := hb.size
  have h1 : InB encS 35 (W.alloc (.cells (sc s.F s.T s.e).toArray 35)) W.heap.size s := InB.new encS _ W s _ rfl
  have h2 : Has (W.alloc (.cells (sc s.F s.T s.e).toArray 35)) B K := hK.alloc _
  have hc := in_calls (W.alloc (.cells (sc s.F s.T s.e).toArray 35)) s.F s.T s.e K s.hF s.hT hB.len
  rw [in_num s K hB.len] at hc
  show Calls Try.prog 34 #[spv s, .pointer (some ⟨B, 0, none⟩)] W fun e w' => e = .returned (.bool (s.inb (num K))) ∧ Below w.heap.size w w'
  have HB : Hid (Below w.heap.size w (W.alloc (.cells (sc s.F s.T s.e).toArray 35))) := hb.alloc hsz _
  clear hK hB
  generalize s.inb (num K) = r at *
  go_enter Try.func34, Try.ntmps34
  go_wp2_with (first
    | (refine load_el elS _ rfl W.heap.size 0 rfl rfl s h1.range ?_)
    | (refine load_key _ rfl B rfl rfl _ h2 ?_)
    | (go_at_call 35; refine hc.mono ?_; clear hc; rintro e w1 ⟨rfl, b1⟩))
  go_ret
  exact ⟨rfl, HB.out.trans (b1.mono HB.out.size)⟩
set_option maxHeartbeats 1000000 in
theorem indexS_none (ad : Option Addr) (cap : Nat) (fv : Value) (w : World) : Calls Try.prog 49 #[.slice ad 0 cap, fv] w fun e w' => e = .returned (.int .i64 (-1)) ∧ w' = w := by
  go_enter Try.func49, Try.ntmps49
  go_wp2
  go_loopg [8] 0 (fun gg i wr => i = .int .i64 0 ∧ wr = w)
  case atStart => exact ⟨rfl, rfl⟩
  case round =>
    obtain ⟨rfl, rfl⟩ := hrel
    go_wp2
    go_ret
    exact ⟨rfl, rfl⟩
set_option maxHeartbeats 1000000 in
theorem containsS_none (ad : Option Addr) (cap : Nat) (fv : Value) (w : World) : Calls Try.prog 33 #[.slice ad 0 cap, fv] w fun e w' => e = .returned (.bool false) ∧ w' = w := by
  have hc := indexS_none ad cap fv w
  go_enter Try.func33, Try.ntmps33
  go_wp2_with (go_at_call 49; refine hc.mono ?_; clear hc; rintro e w' ⟨rfl, rfl⟩)
  go_ret
  exact ⟨rfl, rfl⟩
theorem get_bang {α : Type} [Inhabited α] (l : List α) (j : Nat) (h : j < l.length) : l[j]! = l[j] := getElem!_pos l j h
/-- slices.ContainsFunc over spans. -/
theorem containsS_calls (g : Nat) (lb : Array Value) (p : Sp → Bool) (eg : ∀ args w, (callFunc g args).run Try.prog w = .ok (.enter g args) w) (w : World) (u : Value) (l : List Sp) (h : Sl encS w u l) (hp : PredBelow Try.prog g lb (fun s => .agg (encS.c s).toArray) p w) :
    Calls Try.prog 33 #[u, .func (.func g) #[] lb] w fun e w' => e = .returned (.bool (l.any p)) ∧ Below w.heap.size w w' := by
  obtain ⟨ad, cap, rfl, hcap, hmax, _, hin⟩ := h
  rcases hin with rfl | ⟨b, off, rfl, hb, hr⟩
  · refine (containsS_none ad cap _ w).mono ?_
    rintro e w' ⟨rfl, rfl⟩
    exact ⟨rfl, Below.refl _ _⟩
  · have hc := AnyQ.slices_ContainsFunc Try.anyS 49 Try.isAgg35 Try.sizeOf35 encS.c encS.len p g lb eg b off l.length cap l w hp (Nat.le_refl _) (by unfold maxLen at hmax; omega) hb (fun j hj i v hv => by
      rw [get_bang l j hj] at hv
      exact hr j hj i v hv)
    rw [List.take_length] at hc
    exact hc
set_option maxHeartbeats 1000000 in
theorem has_calls (w : World) (u : Value) (l : List Sp) (h : Sl encS w u l) (K : List UInt8) (hK : K.length = 24) : Calls Try.prog 18 #[u, kv K] w fun e w' => e = .returned (.bool (mem l (num K))) ∧ Below w.heap.size w w' := by
  have eg : ∀ args w, (callFunc 34 args).run Try.prog w = .ok (.enter 34 args) w := enters_of Try.func34 (by kernel_rfl) rfl
  have b1 : Below w.heap.size w (w.alloc (.cells (bc K).toArray 30)) := (Below.refl _ w).alloc (Nat.le_refl _) _
  have hc := containsS_calls 34 #[.pointer (some ⟨w.heap.size, 0, none⟩)] _ eg (w.alloc (.cells (bc K).toArray 30)) u l (Sl.called h b1) (has1_pred K w.heap.size _ (Has.new w K hK))
  have HB : Hid (Below w.heap.size w (w.alloc (.cells (bc K).toArray 30))) := b1
  have HM : Hid (mem l (num K) = l.any fun s => s.inb (num K)) := rfl
  generalize mem l (num K) = M at *
  generalize (l.any fun s => s.inb (num K)) = r at *
  clear b1 h eg
  go_enter Try.func18, Try.ntmps18
  go_wp2_with (go_at_call 33; refine hc.mono ?_; clear hc; rintro e w1 ⟨rfl, b1⟩)
  go_ret
  exact ⟨by rw [HM.out]; rfl, HB.out.trans (b1.mono HB.out.size)⟩
end Go.Proofs.Ytbdolhmeknlnpaa
