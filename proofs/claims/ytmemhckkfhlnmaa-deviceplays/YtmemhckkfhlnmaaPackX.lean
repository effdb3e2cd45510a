/- What each call on a pack.Writer comes to, in one word a call: the state of a writer as plain data. -/
import Derived.Test.YtmemhckkfhlnmaaPackW
import Derived.Test.YtmemhckkfhlnmaaAppL
import Derived.Laws.AppendOwnNone
namespace Go.Proofs.Ytmemhckkfhlnmaa
set_option linter.unusedVariables false
open Go.RowKit

/-- A writer as plain data: room, bytes, wrong. -/
structure WS where
  m : Int
  l : List UInt8
  bad : Bool
def WS.fail (s : WS) : WS := ⟨s.m, [], true⟩
def WS.put (s : WS) (x : List UInt8) : WS := if s.bad = true then s else if (s.l.length : Int) + x.length ≤ s.m then ⟨s.m, s.l ++ x, false⟩ else s.fail
def WS.byte (s : WS) (v : Int) : WS := if v < 0 ∨ 256 ≤ v then s.fail else s.put (be v.toNat 1)
def WS.word (s : WS) (v : Int) : WS := if v < 0 ∨ 4294967296 ≤ v then s.fail else s.put (be v.toNat 4)
def WS.long (s : WS) (v : Nat) : WS := s.put (be v 8)
def WS.text (s : WS) (t : ByteArray) : WS := (s.byte t.size).put t.data.toList
def WS.fill (s : WS) (n : Int) : WS := if n < s.l.length then s.fail else s.put (List.replicate (n - s.l.length).toNat 0)

end Go.Proofs.Ytmemhckkfhlnmaa
