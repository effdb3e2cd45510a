/- What each exported call on a pack.Reader comes to. -/
import Derived.Test.YtgijkgcekfbgeaaDoorPackR
namespace Go.Proofs.YtgijkgcekfbgeaaDoor
set_option linter.unusedVariables false
open Go.RowKit

theorem conv_bytes {w : World} {sv : Value} {L : List UInt8} {r : Option Nat} (h : BytesIn w sv L r) : (convert 55 9 sv).run Tryd.prog w = .ok (.string (str L)) w := by
  obtain ⟨ad, cap, rfl, hcap, hcs⟩ := h
  rcases hcs with ⟨rfl, rfl, rfl⟩ | ⟨g, off, rfl, _, _, hcell⟩
  · exact run_convert_bytes_nil w 55 5 Tryd.underlying55 Tryd.underlying5 0 0 9 Tryd.underlying9
  · have := run_convert_bytes_arg (P := Tryd.prog) w 55 5 Tryd.underlying55 Tryd.underlying5 g off L.length cap (L.map fun b => (b.toNat : Int)) (by simp) (fun i hi => by
      rw [hcell i _ (bc_at L i hi)]
      simp [hi]) 9 Tryd.underlying9
    rw [str_of] at this
    exact this

set_option maxHeartbeats 400000 in
theorem byte_reads (w : World) (p : Nat) (s : RS) (r : Option Nat) (h : RdS w p s r) :
    Calls Tryd.prog 45 #[.pointer (some ⟨p, 0, none⟩)] w fun e w' => e = .returned (.int .i64 (num (s.got 1) : Int)) ∧ RdG p w r (s.take 1) w' := by
  have hs := num_small7 (l := s.got 1) (by rcases s.got_length 1 with e | e <;> omega)
  go_enter Tryd.func45, Tryd.ntmps45
  go_wp2_with (go_at_call 48; refine (number_reads _ p 1 s r h (by omega)).mono ?_; rintro e w1 ⟨rfl, hg⟩)
  go_ret
  exact ⟨rfl, hg⟩
set_option maxHeartbeats 400000 in
theorem word_reads (w : World) (p : Nat) (s : RS) (r : Option Nat) (h : RdS w p s r) :
    Calls Tryd.prog 35 #[.pointer (some ⟨p, 0, none⟩)] w fun e w' => e = .returned (.int .i64 (num (s.got 4) : Int)) ∧ RdG p w r (s.take 4) w' := by
  have hs := num_small7 (l := s.got 4) (by rcases s.got_length 4 with e | e <;> omega)
  go_enter Tryd.func35, Tryd.ntmps35
  go_wp2_with (go_at_call 48; refine (number_reads _ p 4 s r h (by omega)).mono ?_; rintro e w1 ⟨rfl, hg⟩)
  go_ret
  exact ⟨rfl, hg⟩
def RS.text (s : RS) : List UInt8 := (s.take 1).got (num (s.got 1))
def RS.atext (s : RS) : RS := (s.take 1).take (num (s.got 1))
theorem RdG.trans {p : Nat} {w w1 w2 : World} {r : Option Nat} {s1 s2 : RS} (h : RdG p w r s1 w1) (k : RdG p w1 r s2 w2) : RdG p w r s2 w2 := ⟨k.1, h.2.trans k.2 (Near.none _ _)⟩
theorem all_take (l : List UInt8) (k : Nat) (h : k < l.length) (h1 : (l.take k).all (· == 0) = true) (h2 : (((l[k]).toNat : Int) == 0) = true) : (l.take (k + 1)).all (· == 0) = true := by
  have e : l[k] = 0 := by
    have h3 : ((l[k]).toNat : Int) = 0 := by simpa using h2
    have h4 : (l[k]).toNat = (0 : UInt8).toNat := by simp; omega
    exact UInt8.toNat_inj.1 h4
  rw [take_snoc8 l k h, List.all_append, h1, e]
  rfl
theorem all_not (l : List UInt8) (k : Nat) (h : k < l.length) (h2 : (((l[k]).toNat : Int) == 0) = false) : l.all (· == 0) = false := by
  rw [List.all_eq_false]
  refine ⟨l[k], List.getElem_mem h, ?_⟩
  intro e
  have e2 : l[k] = 0 := by simpa using e
  rw [e2] at h2
  simp at h2
end Go.Proofs.YtgijkgcekfbgeaaDoor
