import Derived.Test.YtdmindhjmjnagaaGreatDoorB26
import Derived.Test.YtdmindhjmjnagaaGreatDoorB23
import Derived.Test.YtdmindhjmjnagaaGreatDoorB09
import Derived.Laws.Concat
/- ChI -/
namespace Go.Proofs.YtdmindhjmjnagaaGreatDoor
set_option linter.unusedVariables false
set_option maxRecDepth 1000000
set_option maxHeartbeats 32000000
section
open Go.RowKit
theorem KpC.mono {S S' : Nat → Prop} {W W' : World} (h : KpC S W W') (hS : ∀ i, S i → S' i) : KpC S' W W' := ⟨h.1, fun b o hb ho hn => h.2 b o hb ho (fun e => hn (hS b e))⟩
theorem KeepsFrom.of_frv' {B : Nat} {S : Nat → Prop} {W W' : World} (h : FrV S W W') (hS : ∀ i, S i → i < B) : KeepsFrom B W W' := ⟨h.size, fun k o hB hk _ => (h.block k (lt_of_block hk) (fun e => by have := hS k e; omega)).trans hk⟩
def keyC (ino pl : Int) : Kz := ⟨chunkR ino pl, chunkR_length ino pl⟩
section
variable (V : VS) (ge : Kz → List UInt8 × Bool × Int) (ino : Int) (off : Nat) (data : List UInt8)
def wasP (C : List Ch) (p : Pc) : List UInt8 := if p.whole then [] else (getV C ge (keyC ino p.pl)).1
def gotF (V : VS) (p : Pc) : VS := if p.whole then V else getW V (keyC ino p.pl)
def newV (FU : List UInt8) (p : Pc) : List UInt8 := trimmed (FU.take p.fr.toNat ++ (data.drop p.ix.toNat).take (p.tt - p.fr).toNat ++ FU.drop p.tt.toNat)
def putP (C : List Ch) (p : Pc) : Pa := ⟨chunkR ino p.pl, chunkR_length ino p.pl, newV data (fullP (wasP ge ino C p)) p⟩
def getG (pre : List Nat) : VS := pre.foldl (fun V x => gotF ino V (pcM off data.length x)) V
def putG (C : List Ch) (pre : List Nat) : List Pa := pre.map fun x => putP ge ino data C (pcM off data.length x)
def writeV : VS := chAll (getG V ino off data (List.range (pN off data.length))) (putG ge ino off data V.C (List.range (pN off data.length)))
end
theorem gotF_C (ino : Int) (V : VS) (p : Pc) : (gotF ino V p).C = V.C := by
 unfold gotF
 split
 · rfl
 · exact getW_C _ _
theorem getG_snoc (V : VS) (ino : Int) (off : Nat) (data : List UInt8) (pre : List Nat) (x : Nat) : getG V ino off data (pre ++ [x]) = gotF ino (getG V ino off data pre) (pcM off data.length x) := by simp [getG]
theorem getG_C (V : VS) (ino : Int) (off : Nat) (data : List UInt8) (pre : List Nat) : (getG V ino off data pre).C = V.C := by
 unfold getG
 induction pre generalizing V with
 | nil => rfl
 | cons a l ih => rw [List.foldl_cons, ih, gotF_C]
theorem putG_snoc (ge : Kz → List UInt8 × Bool × Int) (ino : Int) (off : Nat) (data : List UInt8) (C : List Ch) (pre : List Nat) (x : Nat) : putG ge ino off data C (pre ++ [x]) = putG ge ino off data C pre ++ [putP ge ino data C (pcM off data.length x)] := by simp [putG]
theorem putG_length (ge : Kz → List UInt8 × Bool × Int) (ino : Int) (off : Nat) (data : List UInt8) (C : List Ch) (pre : List Nat) : (putG ge ino off data C pre).length = pre.length := by simp [putG]
theorem trimmed_length (L : List UInt8) : (trimmed L).length ≤ 32 := by
 unfold trimmed
 have := trim_length (L.take 32) 0
 have : (L.take 32).length ≤ 32 := by rw [List.length_take]; omega
 omega
theorem okV_short {v : List UInt8} (h : v.length ≤ 32) : v = [] ∨ okV v = true := by
 rcases List.eq_nil_or_concat v with h0 | ⟨a, b, h0⟩
 · exact .inl h0
 · refine .inr ?_
   unfold okV
   rw [h0] at h ⊢
   simp at h ⊢
   omega
theorem putG_ok (ge : Kz → List UInt8 × Bool × Int) (ino : Int) (off : Nat) (data : List UInt8) (C : List Ch) (pre : List Nat) : ∀ p ∈ putG ge ino off data C pre, p.v = [] ∨ okV p.v = true := fun p hp => by
 obtain ⟨x, _, rfl⟩ := List.mem_map.1 hp
 exact okV_short (trimmed_length _)
theorem getV_ok {ge : Kz → List UInt8 × Bool × Int} (h : ∀ K, (ge K).2.2 = 0) (C : List Ch) (K : Kz) : (getV C ge K).2.2 = 0 := by
 unfold getV
 split
 · rfl
 · split
   · exact h K
   · rfl
theorem pcM_fits {off n : Nat} (h : 0 < pN off n) (x : Nat) : 0 ≤ (pcM off n x).ix ∧ (pcM off n x).ix + ((pcM off n x).tt - (pcM off n x).fr) ≤ (n : Int) := by
 have hx : min x (pN off n - 1) < pN off n := by omega
 have h1 := pIx_next hx
 have h2 := (pcK_ok hx).2
 have h3 : min (pIx off (min x (pN off n - 1) + 1)) n ≤ n := Nat.min_le_right _ _
 constructor
 · show (0 : Int) ≤ (pIx off _ : Int)
   omega
 · show (pIx off _ : Int) + ((pTt off n _ : Int) - (pFr off _ : Int)) ≤ (n : Int)
   omega
section
variable {lim : Nat} {I : Nat → World → Prop} {iv : Value} {ge : Kz → List UInt8 × Bool × Int} {sn : Sp → List Pa × Int}
theorem former_calls (D : Baser lim noB I iv ge sn) (hge : ∀ K, (ge K).2.2 = 0) (w0 y : World) (k q : Nat) (x : VR) (V : VS) (A : VAt w0 lim I (k + 1) iv q x V y) (hn : x.n ≤ 5000) (ino : Int) (p : Pc) (hp : p.ok) :
    Calls Tryz.prog 68 #[.pointer (some ⟨q, 0, none⟩), kv (chunkR ino p.pl), pcv p] y fun e y' => e = .returned (.tuple #[.string (str (fullP (wasP ge ino V.C p))), .int .i64 0]) ∧ VAt w0 lim I k iv q { x with n := x.n + 1 } (gotF ino V p) y' ∧ FrV (x.own q) y y' := by
 cases hw : p.whole with
 | true =>
  refine (former_whole y q (keyC ino p.pl) p hp hw).mono fun e y' r => ?_
  obtain ⟨r1, r2⟩ := r
  have A2 := A.called D r2
  unfold wasP gotF
  rw [hw]
  exact ⟨r1, ⟨A2.vw.up _ (by omega), D.down _ _ A2.base, A2.own, A2.bel, A2.le, A2.limy⟩, FrV.of_below r2⟩
 | false =>
  refine (former_part D w0 y k q x V A hn (keyC ino p.pl) p hp hw).mono fun e y' r => ?_
  obtain ⟨r1, r2⟩ := r
  unfold wasP gotF
  rw [hw]
  refine ⟨?_, r2.at_, r2.fr.bel, fun i hi hq => r2.fr.block i hi (fun e => e.elim hq id)⟩
  rw [getV_ok hge] at r1
  exact r1
structure WrI (w0 : World) (lim : Nat) (I : Nat → World → Prop) (iv : Value) (ge : Kz → List UInt8 × Bool × Int) (x : VR) (V : VS) (ino : Int) (off : Nat) (data : List UInt8) (q k : Nat) (w6 : World) (bl : Nat) (pre : List Nat) (W : World) : Prop where
 at_ : VAt w0 lim I (k + (pN off data.length - pre.length)) iv q { x with n := x.n + pre.length } (getG V ino off data pre) W
 row : ∃ v, W.heap[bl]? = some (.cells #[v] 41 (0, 0)) ∧ Own encP 62 W w6.heap.size v (putG ge ino off data V.C pre)
 fr : FrV (fun i => x.own q i ∨ i = bl) w6 W
theorem Own.grown' {w w' : World} {base : Nat} {v : Value} {l : List Pa} {row : Option Nat} (h : Own encP 62 w base v l) (hg : w.grownBy w' row) (hr : ∀ r, row = some r → ∃ o, w.heap[r]? = some o ∧ o.isCells = false) : Own encP 62 w' base v l :=
 h.same fun g e => hg.block g (h.lt g e).2 (fun c => by
  obtain ⟨o, ho, hc⟩ := hr g c.symm
  rcases h.2 with ⟨rfl, _⟩ | ⟨g', cap, cur, rfl, _, h3, _⟩
  · cases e
  · have hgg : g' = g := by simpa [Value.ownBlock] using e
    subst hgg
    rw [h3] at ho
    cases ho
    cases hc)
theorem WrI.own (D : Baser lim noB I iv ge sn) {w0 : World} {x : VR} {V : VS} {ino : Int} {off : Nat} {data : List UInt8} {q k : Nat} {w6 : World} {bl : Nat} (hx : ∀ i, x.own q i → i < w6.heap.size) (hbl : bl < w6.heap.size) (hlim : lim ≤ w6.heap.size) (hw0 : w0.heap.size ≤ w6.heap.size) :
    OwnFrom w6.heap.size (WrI w0 lim I iv ge x V ino off data q k w6 bl) := fun s W W' row h hg hr => by
 have f : FrV (fun i => w6.heap.size ≤ i) W W' := FrV.of_grown hg (fun i e => (hr i e).1)
 refine ⟨h.at_.aside f (fun i e => ⟨Nat.le_trans hw0 e, fun e2 => by have := hx i e2; omega⟩) (D.mono _ _ _ h.at_.base (f.below (fun i e => Nat.le_trans hlim e) h.at_.limy)), ?_, h.fr.trans f (fun i e => .inr e)⟩
 obtain ⟨v, h1, h2⟩ := h.row
 exact ⟨v, (hg.block bl (lt_of_block h1) (fun e => by have := (hr bl e.symm).1; omega)).trans h1, h2.grown' hg (fun r e => (hr r e).2)⟩
theorem own_cell {w : World} {base : Nat} {v : Value} {l : List Pa} (h : Own encP 62 w base v l) : ∀ g, v.ownBlock = some g → base ≤ g ∧ ∃ cur, w.heap[g]? = some (.cells cur 62 (0, 0)) := fun g hg => by
 rcases h.2 with ⟨rfl, _⟩ | ⟨g', cap, cur, rfl, h2, h3, _⟩
 · cases hg
 · have hgg : g' = g := by simpa [Value.ownBlock] using hg
   subst hgg
   exact ⟨h2, cur, h3⟩
theorem WrI.later (D : Baser lim noB I iv ge sn) {w0 : World} {x : VR} {V : VS} {ino : Int} {off : Nat} {data : List UInt8} {q k : Nat} {w6 : World} {bl : Nat} {pre : List Nat} {W W' : World} (h : WrI w0 lim I iv ge x V ino off data q k w6 bl pre W) (b : Below W.heap.size W W') : WrI w0 lim I iv ge x V ino off data q k w6 bl pre W' := by
 obtain ⟨v, h1, h2⟩ := h.row
 exact ⟨h.at_.called D b, ⟨v, (b.block _ (lt_of_block h1)).trans h1, h2.below b⟩, h.fr.trans (FrV.of_below (S := fun _ => False) b) (fun i e => e.elim)⟩
end
end
end Go.Proofs.YtdmindhjmjnagaaGreatDoor
