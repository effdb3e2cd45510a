import Derived.Test.YtgicanpggndbeaaGreatChecked
import Derived.Test.YtgicanpggndbeaaGreatB01
import Derived.Test.YtgicanpggndbeaaGreatB04
import Derived.Laws.RangeString
import Derived.Laws.RangeAny
import Derived.Lib.Strings
import Derived.Lib.IndexBytes
/- Package name, what only looks at a text: mayStand, writtenWell, Right, Width, Short. -/
namespace Go.Proofs.YtgicanpggndbeaaGreat
set_option linter.unusedVariables false
set_option maxRecDepth 100000
open Go.RowKit

theorem below_iter (w : World) (s : ByteArray) (p : Nat) : Below w.heap.size w (w.iter s p) := (Below.refl _ _).alloc (Nat.le_refl _) _
theorem toList_size (s : ByteArray) : s.data.toList.length = s.size := by simp
theorem drop_ne {s : ByteArray} {p : Nat} (h : p < s.size) : s.data.toList.drop p ≠ [] := fun e => by
 have := congrArg List.length e
 simp only [List.length_drop, toList_size, List.length_nil] at this
 omega
theorem drop_nil {s : ByteArray} {p : Nat} (h : ¬ p < s.size) : s.data.toList.drop p = [] := List.drop_eq_nil_of_le (by rw [toList_size]; omega)

theorem mayStand_calls (r : Nat) (hr : r ≤ 2147483647) (w : World) :
    Calls Tryz.prog 58 #[.int .i32 (r : Int)] w fun e w' => e = .returned (.bool (decide (32 ≤ r) && (decide (r ≠ 47) && decide (r ≠ 127)))) ∧ w' = w := by
 go_enter Tryz.func58, Tryz.ntmps58
 by_cases h1 : 32 ≤ r
 · by_cases h2 : r = 47
   · subst h2
     go_wp2
     go_ret
     exact ⟨rfl, rfl⟩
   · by_cases h3 : r = 127
     · subst h3
       go_wp2
       go_ret
       exact ⟨rfl, rfl⟩
     · have a1 : (r : Int) ≥ 32 := by omega
       have a2 : ¬ (r : Int) = 47 := by omega
       have a3 : ¬ (r : Int) = 127 := by omega
       have e : (decide (32 ≤ r) && (decide (r ≠ 47) && decide (r ≠ 127))) = true := by simp only [Bool.and_eq_true, decide_eq_true_eq]; exact ⟨h1, h2, h3⟩
       rw [e]
       clear e h1 h2 h3 hr
       go_wp2
       go_ret
       exact ⟨by simp [a2, a3], rfl⟩
 · have a1 : ¬ (r : Int) ≥ 32 := by omega
   have e : (decide (32 ≤ r) && (decide (r ≠ 47) && decide (r ≠ 127))) = false := by simp only [decide_eq_false h1, Bool.false_and]
   rw [e]
   clear e h1 hr
   go_wp2
   go_ret
   exact ⟨rfl, rfl⟩
theorem isPre_raw (s : ByteArray) (p : ByteArray) : (decide (p.size ≤ s.size) && ((s.extract 0 p.size).toList == p.toList)) = List.isPrefixOf p.data.toList s.data.toList := Lib.hasPrefix_raw s p
theorem writtenWell_calls (s : ByteArray) (r : Nat) (hr : r ≤ 2147483647) (w : World) :
    Calls Tryz.prog 59 #[.string s, .int .i32 (r : Int)] w fun e w' => e = .returned (.bool (decide (r ≠ 65533) || List.isPrefixOf [239, 191, 189] s.data.toList)) ∧ w' = w := by
 have hp : List.isPrefixOf [239, 191, 189] s.data.toList = (decide (3 ≤ s.size) && ((s.extract 0 3).toList == [239, 191, 189])) := by
  have h := isPre_raw s ⟨#[239, 191, 189]⟩
  rw [Lib.toList_data ⟨#[239, 191, 189]⟩] at h
  exact h.symm
 go_enter Tryz.func59, Tryz.ntmps59
 by_cases h1 : r = 65533
 · subst h1
   by_cases h3 : 3 ≤ s.size
   · have a3 : (3 : Int) ≤ (s.size : Int) := by omega
     rw [hp, decide_eq_true h3]
     clear hp h3
     go_wp2
     go_ret
     exact ⟨by rw [Bool.true_and]; rfl, rfl⟩
   · have a3 : ¬ (3 : Int) ≤ (s.size : Int) := by omega
     rw [hp, decide_eq_false h3]
     clear hp h3
     go_wp2
     go_ret
     exact ⟨rfl, rfl⟩
 · have a2 : ¬ (r : Int) = 65533 := by omega
   have e : (decide (r ≠ 65533) || List.isPrefixOf [239, 191, 189] s.data.toList) = true := by rw [decide_eq_true h1]; rfl
   rw [e]
   clear e h1 hp hr
   go_wp2
   go_ret
   exact ⟨rfl, rfl⟩

theorem decode_rune_le (s : ByteArray) (p : Nat) : (Utf8.decode s p).1 ≤ 2147483647 := decode_le s p
theorem beq_str (s : ByteArray) (l : List UInt8) : (s.toList == l) = (s.data.toList == l) := by rw [Lib.toList_data]
set_option maxRecDepth 1000000 in
theorem right_calls (s : ByteArray) (w : World) :
    Calls Tryz.prog 27 #[.string s] w fun e w' => e = .returned (.bool (rightP s.data.toList)) ∧ Below w.heap.size w w' := by
 go_enter Tryz.func27, Tryz.ntmps27
 by_cases h1 : ¬ (1 ≤ s.size ∧ s.size ≤ 18)
 · have e : rightP s.data.toList = false := by
     rw [rightP, toList_size]
     by_cases h2 : 1 ≤ s.size
     · rw [decide_eq_true h2, decide_eq_false (show ¬ s.size ≤ 18 by omega)]; rfl
     · rw [decide_eq_false h2]; rfl
   rw [e]
   clear e
   by_cases h2 : 1 ≤ s.size
   · have a1 : ¬ (s.size : Int) < 1 := by omega
     have a2 : (s.size : Int) > 18 := by omega
     clear h1 h2
     go_wp2
     go_ret
     exact ⟨rfl, Below.refl _ _⟩
   · have a1 : (s.size : Int) < 1 := by omega
     clear h1 h2
     go_wp2
     go_ret
     exact ⟨rfl, Below.refl _ _⟩
 replace h1 := Classical.not_not.1 h1
 have a1 : ¬ (s.size : Int) < 1 := by omega
 have a2 : ¬ (s.size : Int) > 18 := by omega
 have HR : Hid (rightP s.data.toList = (!(s.toList == [46]) && (!(s.toList == [46, 46]) && okC s.data.toList))) := (show _ = _ by
  rw [rightP, toList_size, decide_eq_true h1.1, decide_eq_true h1.2, beq_str, beq_str]; rfl)
 obtain ⟨R, hR⟩ : ∃ R, rightP s.data.toList = R := ⟨_, rfl⟩
 rw [hR] at HR ⊢
 clear hR h1
 cases hd1 : (s.toList == [46]) with
 | true =>
  have e : R = false := by rw [HR.out, hd1]; rfl
  subst e
  clear HR
  go_wp2
  go_ret
  exact ⟨rfl, Below.refl _ _⟩
 | false =>
 cases hd2 : (s.toList == [46, 46]) with
 | true =>
  have e : R = false := by rw [HR.out, hd1, hd2]; rfl
  subst e
  clear HR
  go_wp2
  go_ret
  exact ⟨rfl, Below.refl _ _⟩
 | false =>
 have HO : Hid (R = okC s.data.toList) := (show _ = _ by rw [HR.out, hd1, hd2]; rfl)
 clear HR
 go_wp2
 go_loopw [] (fun w' => ∃ (pos : Nat), w' = w.iter s pos ∧ pos ≤ s.size ∧ Hid (okC (s.data.toList.drop pos) = okC s.data.toList)) (fun w' => s.size - w'.iterPos w.heap.size)
 case atStart => exact ⟨0, rfl, Nat.zero_le _, (show okC (s.data.toList.drop 0) = _ by simp)⟩
 case round =>
  obtain ⟨pos, rfl, hps, HW⟩ := hrel
  by_cases hp : pos < s.size
  · have hnx : ∀ ty, (Instr.next (.pointer (some ⟨w.heap.size, 0, none⟩)) true ty).run Tryz.prog (w.iter s pos) = _ := fun ty => run_next_any w s pos ty hp
    have hne := drop_ne hp
    have hdl : pos + (Utf8.decode s pos).2 ≤ s.size := by
     rw [decode_eq s pos hp]
     have := dec_le _ hne
     rw [List.length_drop, toList_size] at this
     omega
    have hdp : 1 ≤ (Utf8.decode s pos).2 := by rw [decode_eq s pos hp]; exact dec_pos _
    have hrl := decode_rune_le s pos
    have c1 := mayStand_calls (Utf8.decode s pos).1 hrl
    have c2 := writtenWell_calls (s.extract pos s.size) (Utf8.decode s pos).1 hrl
    have HQ : Hid (okC s.data.toList = (((decide (32 ≤ (Utf8.decode s pos).1) && (decide ((Utf8.decode s pos).1 ≠ 47) && decide ((Utf8.decode s pos).1 ≠ 127))) && (decide ((Utf8.decode s pos).1 ≠ 65533) || List.isPrefixOf [239, 191, 189] (s.extract pos s.size).data.toList)) && okC (s.data.toList.drop (pos + (Utf8.decode s pos).2)))) := (show _ = _ by
     rw [← HW.out, okC_cons _ hne, ← okR_eq, List.drop_drop, decode_eq s pos hp, okR, Lib.extract_to_end])
    clear HW hne
    generalize (decide (32 ≤ (Utf8.decode s pos).1) && (decide ((Utf8.decode s pos).1 ≠ 47) && decide ((Utf8.decode s pos).1 ≠ 127))) = x1 at *
    generalize (decide ((Utf8.decode s pos).1 ≠ 65533) || List.isPrefixOf [239, 191, 189] (s.extract pos s.size).data.toList) = x2 at *
    generalize (Utf8.decode s pos).2 = d at *
    generalize (Utf8.decode s pos).1 = r at *
    cases x1 with
    | false =>
     have e : R = false := by rw [HO.out, HQ.out]; rfl
     subst e
     clear HQ HO c2
     go_wp2_with (go_at_call 58; refine (c1 _).mono ?_; rintro e w' ⟨rfl, rfl⟩; clear c1)
     go_ret
     exact ⟨rfl, below_iter _ _ _⟩
    | true =>
    cases x2 with
    | false =>
     have e : R = false := by rw [HO.out, HQ.out]; rfl
     subst e
     clear HQ HO
     go_wp2_with (first | (go_at_call 58; refine (c1 _).mono ?_; rintro e w' ⟨rfl, rfl⟩; clear c1) | (go_at_call 59; refine (c2 _).mono ?_; rintro e w' ⟨rfl, rfl⟩; clear c2))
     go_ret
     exact ⟨rfl, below_iter _ _ _⟩
    | true =>
     have HD : Hid (okC (s.data.toList.drop (pos + d)) = okC s.data.toList) := (show _ = _ by rw [HQ.out]; rfl)
     clear HQ
     go_wp2_with (first | (go_at_call 58; refine (c1 _).mono ?_; rintro e w' ⟨rfl, rfl⟩; clear c1) | (go_at_call 59; refine (c2 _).mono ?_; rintro e w' ⟨rfl, rfl⟩; clear c2))
     go_roundw
     case rel => exact ⟨pos + d, rfl, hdl, HD⟩
     case measure =>
      simp
      omega
  · have hnx : ∀ ty, (Instr.next (.pointer (some ⟨w.heap.size, 0, none⟩)) true ty).run Tryz.prog (w.iter s pos) = _ := fun ty => run_next_end w s pos ty hp
    have e : R = true := by rw [HO.out, ← HW.out, drop_nil hp, okC_nil]
    subst e
    clear HW HO
    go_wp2
    go_ret
    exact ⟨rfl, below_iter _ _ _⟩
end Go.Proofs.YtgicanpggndbeaaGreat
