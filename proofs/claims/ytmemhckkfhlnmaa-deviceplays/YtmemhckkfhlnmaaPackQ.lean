/- What each exported call on a pack.Reader comes to. -/
import Derived.Test.YtmemhckkfhlnmaaPackR
namespace Go.Proofs.Ytmemhckkfhlnmaa
set_option linter.unusedVariables false
open Go.RowKit

/-- Bytes as a string. -/
def str (l : List UInt8) : ByteArray := ⟨l.toArray⟩
theorem str_of (l : List UInt8) : strOfNums (l.map fun b => (b.toNat : Int)) = str l := by
  unfold strOfNums str
  congr 2
  rw [List.map_map]
  conv => rhs; rw [← List.map_id l]
  apply List.map_congr_left
  intro b _
  simp
theorem str_size (l : List UInt8) : (str l).size = l.length := by simp [str, ByteArray.size]
theorem str_list (l : List UInt8) : (str l).data.toList = l := by simp [str]
theorem str_data (s : ByteArray) : str s.data.toList = s := by simp [str]

theorem conv_bytes {w : World} {sv : Value} {L : List UInt8} {r : Option Nat} (h : BytesIn w sv L r) : (convert 42 9 sv).run Try.prog w = .ok (.string (str L)) w := by
  obtain ⟨ad, cap, rfl, hcap, hcs⟩ := h
  rcases hcs with ⟨rfl, rfl, rfl⟩ | ⟨g, off, rfl, _, _, hcell⟩
  · exact run_convert_bytes_nil w 42 5 Try.underlying42 Try.underlying5 0 0 9 Try.underlying9
  · have := run_convert_bytes_arg (P := Try.prog) w 42 5 Try.underlying42 Try.underlying5 g off L.length cap (L.map fun b => (b.toNat : Int)) (by simp) (fun i hi => by
      rw [hcell i _ (bc_at L i hi)]
      simp [hi]) 9 Try.underlying9
    rw [str_of] at this
    exact this

def RS.text (s : RS) : List UInt8 := (s.take 1).got (num (s.got 1))
def RS.atext (s : RS) : RS := (s.take 1).take (num (s.got 1))
theorem all_take (l : List UInt8) (k : Nat) (h : k < l.length) (h1 : (l.take k).all (· == 0) = true) (h2 : (((l[k]).toNat : Int) == 0) = true) : (l.take (k + 1)).all (· == 0) = true := by
  have e : l[k] = 0 := by
    have h3 : ((l[k]).toNat : Int) = 0 := by simpa using h2
    have h4 : (l[k]).toNat = (0 : UInt8).toNat := by simp; omega
    exact UInt8.toNat_inj.1 h4
  rw [take_snoc8 l k h, List.all_append, h1, e]
  rfl
theorem all_not (l : List UInt8) (k : Nat) (h : k < l.length) (h2 : (((l[k]).toNat : Int) == 0) = false) : l.all (· == 0) = false := by
  rw [List.all_eq_false]
  refine ⟨l[k], List.getElem_mem h, ?_⟩
  intro e
  have e2 : l[k] = 0 := by simpa using e
  rw [e2] at h2
  simp at h2
end Go.Proofs.Ytmemhckkfhlnmaa
