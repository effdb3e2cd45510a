/- What each call on the document's own reader (wainscotref01.Reader) comes to, in the words of RS. -/
import Derived.Test.YtgijkgcekfbgeaaDoorBeMath
namespace Go.Proofs.YtgijkgcekfbgeaaDoor
set_option linter.unusedVariables false
open Go.RowKit

/-- The document's reader in block q, in the state t. -/
def KQ (w : World) (q : Nat) (t : RS) : Prop := w.heap[q]? = some (.cells #[.string (str t.l), .bool t.bad] 48 (0, 0)) ∧ (t.bad = true → t.l = [])
def QG (q : Nat) (w : World) (t : RS) (w' : World) : Prop := KQ w' q t ∧ Touch q none w w'
theorem KQ.kept {w w' : World} {q : Nat} {t : RS} (h : KQ w q t) (hq : w'.heap[q]? = w.heap[q]?) : KQ w' q t := ⟨hq.trans h.1, h.2⟩
theorem KQ.lt {w : World} {q : Nat} {t : RS} (h : KQ w q t) : q < w.heap.size := lt_of_block h.1

set_option maxHeartbeats 400000 in
theorem ktake_bad (w : World) (q : Nat) (n : Int) (s : ByteArray) (h : w.heap[q]? = some (.cells #[.string s, .bool true] 48 (0, 0))) :
    Calls Tryd.prog 57 #[.pointer (some ⟨q, 0, none⟩), .int .i64 n] w fun e w' => e = .returned (.string ⟨#[]⟩) ∧ w' = (w.setCell ⟨q, 1, none⟩ (.bool true)).setCell ⟨q, 0, none⟩ (.string ⟨#[]⟩) := by
  obtain ⟨c0, c1⟩ := cells2 h
  obtain ⟨f0, f1⟩ := free2 h
  clear h
  go_enter Tryd.func57, Tryd.ntmps57
  go_wp2
  go_ret
  exact ⟨rfl, rfl⟩
set_option maxHeartbeats 400000 in
theorem ktake_neg (w : World) (q : Nat) (n : Int) (s : ByteArray) (h : w.heap[q]? = some (.cells #[.string s, .bool false] 48 (0, 0))) (hn : n < 0) :
    Calls Tryd.prog 57 #[.pointer (some ⟨q, 0, none⟩), .int .i64 n] w fun e w' => e = .returned (.string ⟨#[]⟩) ∧ w' = (w.setCell ⟨q, 1, none⟩ (.bool true)).setCell ⟨q, 0, none⟩ (.string ⟨#[]⟩) := by
  obtain ⟨c0, c1⟩ := cells2 h
  obtain ⟨f0, f1⟩ := free2 h
  clear h
  go_enter Tryd.func57, Tryd.ntmps57
  go_wp2
  go_ret
  exact ⟨rfl, rfl⟩
set_option maxHeartbeats 400000 in
theorem ktake_big (w : World) (q : Nat) (n : Int) (s : ByteArray) (h : w.heap[q]? = some (.cells #[.string s, .bool false] 48 (0, 0))) (hn0 : ¬ n < 0) (hn : (s.size : Int) < n) :
    Calls Tryd.prog 57 #[.pointer (some ⟨q, 0, none⟩), .int .i64 n] w fun e w' => e = .returned (.string ⟨#[]⟩) ∧ w' = (w.setCell ⟨q, 1, none⟩ (.bool true)).setCell ⟨q, 0, none⟩ (.string ⟨#[]⟩) := by
  obtain ⟨c0, c1⟩ := cells2 h
  obtain ⟨f0, f1⟩ := free2 h
  clear h
  go_enter Tryd.func57, Tryd.ntmps57
  go_wp2
  go_ret
  exact ⟨rfl, rfl⟩
set_option maxHeartbeats 400000 in
theorem ktake_ok (w : World) (q n : Nat) (s : ByteArray) (h : w.heap[q]? = some (.cells #[.string s, .bool false] 48 (0, 0))) (hn : (n : Int) ≤ (s.size : Int)) :
    Calls Tryd.prog 57 #[.pointer (some ⟨q, 0, none⟩), .int .i64 (n : Int)] w fun e w' => e = .returned (.string (s.extract 0 n)) ∧ w' = w.setCell ⟨q, 0, none⟩ (.string (s.extract n s.size)) := by
  obtain ⟨c0, c1⟩ := cells2 h
  obtain ⟨f0, f1⟩ := free2 h
  clear h
  have h0 : ¬ (n : Int) < 0 := by omega
  have h1 : ¬ (s.size : Int) < (n : Int) := by omega
  go_enter Tryd.func57, Tryd.ntmps57
  go_wp2
  go_ret
  exact ⟨rfl, rfl⟩
theorem ext_take (l : List UInt8) (n : Nat) : (str l).extract 0 n = str (l.take n) := by
  apply Go.WideShapes.bytes_inj
  simp [str]
theorem ext_drop (l : List UInt8) (n : Nat) : (str l).extract n (str l).size = str (l.drop n) := by
  apply Go.WideShapes.bytes_inj
  simp [str, ByteArray.size]
  rw [List.take_of_length_le (by simp)]
theorem ktake_calls (w : World) (q : Nat) (n : Int) (t : RS) (h : KQ w q t) :
    Calls Tryd.prog 57 #[.pointer (some ⟨q, 0, none⟩), .int .i64 n] w fun e w' => e = .returned (.string (str (t.got n))) ∧ QG q w (t.take n) w' := by
  obtain ⟨L, bad⟩ := t
  obtain ⟨h1, h2⟩ := h
  have no : QG q w ⟨[], true⟩ ((w.setCell ⟨q, 1, none⟩ (.bool true)).setCell ⟨q, 0, none⟩ (.string ⟨#[]⟩)) :=
    ⟨⟨(set2 (set2 h1).2).1, fun _ => rfl⟩, ((Touch.refl _ _ _).setCell _ _).setCell _ _⟩
  unfold RS.got RS.take
  simp only at h1 h2 ⊢
  cases bad with
  | true =>
    rw [if_pos (.inl rfl), if_pos (.inl rfl)]
    refine (ktake_bad w q n _ h1).mono ?_
    rintro e w' ⟨rfl, rfl⟩
    exact ⟨rfl, no⟩
  | false =>
    by_cases hn : n < 0
    · rw [if_pos (.inr (.inl hn)), if_pos (.inr (.inl hn))]
      refine (ktake_neg w q n _ h1 hn).mono ?_
      rintro e w' ⟨rfl, rfl⟩
      exact ⟨rfl, no⟩
    · by_cases hl : (L.length : Int) < n
      · rw [if_pos (.inr (.inr hl)), if_pos (.inr (.inr hl))]
        refine (ktake_big w q n _ h1 hn (by rw [str_size]; exact hl)).mono ?_
        rintro e w' ⟨rfl, rfl⟩
        exact ⟨rfl, no⟩
      · have hc : ¬ (false = true ∨ n < 0 ∨ (L.length : Int) < n) := by simp; omega
        rw [if_neg hc, if_neg hc]
        obtain ⟨k, rfl⟩ := Int.eq_ofNat_of_zero_le (show 0 ≤ n by omega)
        rw [Int.toNat_natCast]
        refine (ktake_ok w q k _ h1 (by rw [str_size]; omega)).mono ?_
        rintro e w' ⟨rfl, rfl⟩
        rw [ext_take, ext_drop]
        exact ⟨rfl, ⟨(set2 h1).1, fun e => by cases e⟩, (Touch.refl _ _ _).setCell _ _⟩

theorem knum_step (G : List UInt8) (k : Nat) (h : k < G.length) (h' : k < (str G).size) (hv : (num (G.take k) : Int) < 72057594037927936) :
    IntKind.u64.wrap (256 * (num (G.take k) : Int) + IntKind.u64.wrap (((str G)[k]'h').toNat : Int)) = (num (G.take (k + 1)) : Int) := by
  have e : ((str G)[k]'h') = G[k] := rfl
  have hb := (G[k]).toNat_lt
  rw [e, take_snoc8 G k h, num_snoc]
  have e1 : IntKind.u64.wrap ((G[k]).toNat : Int) = ((G[k]).toNat : Int) := by rw [IntKind.wrap_u64]; omega
  rw [e1, IntKind.wrap_u64]
  omega
theorem str_at (l : List UInt8) (k : Nat) (h : k < l.length) : ∃ h', ((str l)[k]'h').toNat = (l[k]).toNat := ⟨by rw [str_size]; exact h, rfl⟩

set_option maxHeartbeats 400000 in
theorem knumber_calls (w : World) (q n : Nat) (t : RS) (h : KQ w q t) (hn : n ≤ 8) :
    Calls Tryd.prog 46 #[.pointer (some ⟨q, 0, none⟩), .int .i64 (n : Int)] w fun e w' => e = .returned (.int .u64 (num (t.got n) : Int)) ∧ QG q w (t.take n) w' := by
  have hgl : (t.got n).length ≤ 8 := by rcases t.got_length n with e | e <;> omega
  go_enter Tryd.func46, Tryd.ntmps46
  go_wp2_with (go_at_call 57; refine (ktake_calls _ q n t h).mono ?_; rintro e w1 ⟨rfl, hg⟩)
  generalize hG : t.got n = G at hgl ⊢
  have HG : Hid (t.got n = G) := hG
  clear hG
  have hsz : (str G).size = G.length := str_size G
  go_loop [6, 7] (fun v i => ∃ k : Nat, k ≤ G.length ∧ i = .int .i64 k ∧ v = .int .u64 (num (G.take k) : Int)) (fun _ i => G.length - (intOf i).toNat)
  case atStart => exact ⟨0, Nat.zero_le _, rfl, rfl⟩
  case round =>
    obtain ⟨k, hk, rfl, rfl⟩ := hrel
    by_cases hlt : k < G.length
    · have hv := num_small7 (l := G.take k) (by rw [List.length_take]; omega)
      have hvi : (num (G.take k) : Int) < 72057594037927936 := by omega
      clear hv
      have Hv : Hid ((num (G.take k) : Int) < 72057594037927936) := hvi
      go_wp2
      go_round
      case rel => exact ⟨k + 1, by omega, by go_num, congrArg (Value.int .u64) (knum_step G k hlt _ Hv.out)⟩
      case measure => simp [intOf]; omega
    · have e : k = G.length := by omega
      subst e
      go_wp2
      go_ret
      rw [HG.out]
      exact ⟨by simp, hg⟩

set_option maxHeartbeats 400000 in
theorem kbyte_reads (w : World) (q : Nat) (t : RS) (h : KQ w q t) :
    Calls Tryd.prog 32 #[.pointer (some ⟨q, 0, none⟩)] w fun e w' => e = .returned (.int .i64 (num (t.got 1) : Int)) ∧ QG q w (t.take 1) w' := by
  have hs := num_small7 (l := t.got 1) (by rcases t.got_length 1 with e | e <;> omega)
  go_enter Tryd.func32, Tryd.ntmps32
  go_wp2_with (go_at_call 46; refine (knumber_calls _ q 1 t h (by omega)).mono ?_; rintro e w1 ⟨rfl, hg⟩)
  go_ret
  exact ⟨rfl, hg⟩
set_option maxHeartbeats 400000 in
theorem kword_reads (w : World) (q : Nat) (t : RS) (h : KQ w q t) :
    Calls Tryd.prog 33 #[.pointer (some ⟨q, 0, none⟩)] w fun e w' => e = .returned (.int .i64 (num (t.got 4) : Int)) ∧ QG q w (t.take 4) w' := by
  have hs := num_small7 (l := t.got 4) (by rcases t.got_length 4 with e | e <;> omega)
  go_enter Tryd.func33, Tryd.ntmps33
  go_wp2_with (go_at_call 46; refine (knumber_calls _ q 4 t h (by omega)).mono ?_; rintro e w1 ⟨rfl, hg⟩)
  go_ret
  exact ⟨rfl, hg⟩
theorem QG.trans {q : Nat} {w w1 w2 : World} {s1 s2 : RS} (h : QG q w s1 w1) (k : QG q w1 s2 w2) : QG q w s2 w2 := ⟨k.1, h.2.trans k.2 (Near.none _ _)⟩
theorem byte_int (b : UInt8) : (IntKind.u8.wrap (b.toNat : Int)) = (b.toNat : Int) := by
  have := b.toNat_lt
  rw [IntKind.wrap_u8]
  omega
end Go.Proofs.YtgijkgcekfbgeaaDoor
