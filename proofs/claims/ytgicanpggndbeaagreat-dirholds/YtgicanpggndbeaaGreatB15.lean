import Derived.Test.YtgicanpggndbeaaGreatB14
import Derived.Test.YtgicanpggndbeaaGreatB01
import Derived.Test.YtgicanpggndbeaaGreatChecked
/- pack.Read: a reader of a copy of the bytes that it is given. -/
namespace Go.Proofs.YtgicanpggndbeaaGreat
set_option linter.unusedVariables false
set_option maxRecDepth 100000
open Go.RowKit

theorem own_bytes {w : World} {base : Nat} {sv : Value} {L : List UInt8} (h : w.ownsRow base 5 1 sv L.length (bc L)) : BytesIn w sv L sv.ownBlock := by
  rcases h.2 with ⟨rfl, h0⟩ | ⟨g, cap, cur, rfl, hb, hg, hn, _⟩
  · exact ⟨none, 0, by rw [h0], by omega, .inl ⟨rfl, List.eq_nil_of_length_eq_zero h0, rfl⟩⟩
  · refine ⟨_, cap, rfl, hn, .inr ⟨g, 0, rfl, rfl, (h.lt g rfl).2, fun j u hu => ?_⟩⟩
    have := h.cells (g := g) rfl j u hu
    rw [add_lit] at this
    exact this

/-- What Read comes to. -/
def RdNew (w : World) (L : List UInt8) (e : Ending) (w' : World) : Prop :=
  ∃ q r, e = .returned (.pointer (some ⟨q, 0, none⟩)) ∧ RdS w' q ⟨L, false⟩ r ∧ Below w.heap.size w w' ∧ w.heap.size ≤ q ∧ ∀ k, r = some k → w.heap.size ≤ k ∧ k < w'.heap.size
theorem rd_new {w w1 : World} {a : Option Addr} {c : Nat} {L : List UInt8} (hown : w1.ownsRow w.heap.size 5 1 (.slice a L.length c) L.length (bc L)) (hb : Below w.heap.size w w1) {n : Nat} (hn : w1.heap.size = n) :
    RdNew w L (.returned (.pointer (some ⟨n, 0, none⟩))) (w1.alloc (.cells #[.slice a L.length c, .bool false] 220)) := by
  subst hn
  have hlt := hown.lt
  refine ⟨_, (Value.slice a L.length c).ownBlock, rfl, ⟨_, heap_alloc_new _ _, (own_bytes hown).kept (fun k hk => Below.heap_alloc _ _ _ (hlt k hk).2), (fun e => by cases e), fun e => ?_⟩, hb.alloc hb.size _, hb.size, fun k hk => ⟨(hlt k hk).1, by have := (hlt k hk).2; simp; omega⟩⟩
  have := (hlt _ e).2
  omega

set_option maxHeartbeats 400000 in
theorem read_none (w : World) : Calls Tryz.prog 125 #[.slice none 0 0] w fun e w' => RdNew w [] e w' := by
  obtain ⟨i0, hi, hz0, hz1, hz2⟩ := info_parts Tryz.info_u8
  have hm := World.ownsRow_made (base := w.heap.size) (e := 5) (size := 1) w #[] 0 (Nat.le_refl _) (by unfold maxLen; omega) rfl
  have R := rd_new (w := w) (L := []) hm ((Below.refl _ _).alloc (Nat.le_refl _) _) (n := w.heap.size + 1) (by simp)
  go_enter Tryz.func125, Tryz.ntmps125
  go_wp2_with (at_builtin; refine wpList_append_own_none rfl (.tmp 3) (.tmp 4) 140 rfl w.heap.size 5 i0 1 Tryz.underlying140 hi (.slice (some ⟨w.heap.size, 0, none⟩) 0 0) 0 [] rfl hm rfl ?_)
  go_ret
  exact R
set_option maxHeartbeats 400000 in
theorem read_some (w : World) (g off cap : Nat) (L : List UInt8) (hg : g < w.heap.size) (hl : L.length ≤ 140737488351232) (hcell : ∀ j u, (bc L)[j]? = some u → w.cell? ⟨g, off + j, none⟩ = some u) :
    Calls Tryz.prog 125 #[.slice (some ⟨g, off, none⟩) L.length cap] w fun e w' => RdNew w L e w' := by
  obtain ⟨i0, hi, hz0, hz1, hz2⟩ := info_parts Tryz.info_u8
  have hm := World.ownsRow_made (base := w.heap.size) (e := 5) (size := 1) w #[] 0 (Nat.le_refl _) (by unfold maxLen; omega) rfl
  have hcs : ∀ j u, (bc L)[j]? = some u → (w.alloc (.cells #[] 5)).cell? ((⟨g, off, none⟩ : Addr).add j) = some u := fun j u hu => by
    rw [add_lit, World.cell?_alloc_past _ _ _ hg]
    exact hcell j u hu
  clear hcell
  go_enter Tryz.func125, Tryz.ntmps125
  go_wp2_with (at_builtin; refine wpList_append_own _ rfl (.tmp 3) (.tmp 4) 140 rfl w.heap.size 5 i0 (.int .u8 0) 1 1 Tryz.underlying140 hi hz0 hz1 hz2 rfl (by decide) (.slice (some ⟨w.heap.size, 0, none⟩) 0 0) 0 [] rfl hm ⟨g, off, none⟩ L.length cap (bc L) rfl (by rw [bc_length]; omega) hcs (bc_one L) (by unfold maxLen; omega) (by omega) (by simp) ?_; intro v' w1 hown0 hgrow _; have hown : w1.ownsRow w.heap.size 5 1 v' L.length (bc L) := (by simpa using hown0); clear hown0; obtain ⟨a', c', rfl⟩ := own_form hown)
  go_ret
  exact rd_new hown (((Below.refl _ _).alloc (Nat.le_refl _) _).grown hgrow (by simp) (fun k hk => by simp [Value.ownBlock] at hk; omega)) rfl
theorem read_calls (w : World) (sv : Value) (L : List UInt8) (r : Option Nat) (h : BytesIn w sv L r) (hl : L.length ≤ 140737488351232) :
    Calls Tryz.prog 125 #[sv] w fun e w' => RdNew w L e w' := by
  obtain ⟨ad, cap, rfl, hcap, hcs⟩ := h
  rcases hcs with ⟨rfl, rfl, rfl⟩ | ⟨g, off, rfl, _, hg, hcell⟩
  · exact read_none w
  · exact read_some w g off cap L hg hl hcell
end Go.Proofs.YtgicanpggndbeaaGreat
/- Inodes, entries' numbers and chunks as plain data: when one is right, its value, and that there is one of each (mathematics). -/
namespace Go.Proofs.YtgicanpggndbeaaGreat
set_option linter.unusedVariables false
set_option maxRecDepth 100000
open Go.RowKit

/-- An inode: a directory or not, its links, its size. -/
structure Ino where
  d : Bool
  l : Int
  s : Int
theorem Ino.ext' {a b : Ino} (h1 : a.d = b.d) (h2 : a.l = b.l) (h3 : a.s = b.s) : a = b := by
  cases a; cases b; simp_all
def nilI : Ino := ⟨false, 0, 0⟩
def dirI : Ino := ⟨true, 0, 0⟩
def isDir (n : Ino) : Bool := n.d && decide (n.l = 0) && decide (n.s = 0)
def isFil (n : Ino) : Bool := !n.d && decide (1 ≤ n.l) && decide (n.l ≤ 65535) && decide (0 ≤ n.s) && decide (n.s ≤ 1048576)
def rightI (n : Ino) : Bool := isDir n || isFil n
/-- The value of an inode that is right. -/
def valI (n : Ino) : List UInt8 := if n.d = true then [1] else 2 :: (be n.l.toNat 4 ++ be n.s.toNat 4)
def valT (n : Ino) : List UInt8 := if rightI n = true then valI n else []
theorem isDir_eq {n : Ino} (h : isDir n = true) : n = dirI := by
  simp only [isDir, Bool.and_eq_true, decide_eq_true_eq] at h
  exact Ino.ext' h.1.1 h.1.2 h.2
theorem isFil_in {n : Ino} (h : isFil n = true) : n.d = false ∧ 1 ≤ n.l ∧ n.l ≤ 65535 ∧ 0 ≤ n.s ∧ n.s ≤ 1048576 := by
  simp only [isFil, Bool.and_eq_true, decide_eq_true_eq, Bool.not_eq_true'] at h
  exact ⟨h.1.1.1.1, h.1.1.1.2, h.1.1.2, h.1.2, h.2⟩
theorem right_cases {n : Ino} (h : rightI n = true) : n = dirI ∨ (n.d = false ∧ 1 ≤ n.l ∧ n.l ≤ 65535 ∧ 0 ≤ n.s ∧ n.s ≤ 1048576) := by
  rcases Bool.or_eq_true_iff.1 h with h | h
  · exact .inl (isDir_eq h)
  · exact .inr (isFil_in h)
theorem valI_length (n : Ino) : (valI n).length = if n.d = true then 1 else 9 := by
  unfold valI
  split <;> simp [be_length]
theorem valT_length (n : Ino) : (valT n).length ≤ 9 := by
  unfold valT
  split
  · rw [valI_length]; split <;> omega
  · simp

/-- What a reader tells of an inode's value: whichever of both ways it is read. -/
structure SaysI (f : List UInt8 → Ino) : Prop where
  back : ∀ n, rightI n = true → f (valI n) = n
/-- The inode whose value a text is, if there is one. -/
def OfIs (L : List UInt8) (o : Option Ino) : Prop := ∀ n, o = some n ↔ rightI n = true ∧ valI n = L
theorem OfIs.unique {L : List UInt8} {a b : Option Ino} (h : OfIs L a) (k : OfIs L b) : a = b := by
  cases a with
  | none =>
    cases b with
    | none => rfl
    | some n => exact (h n).2 ((k n).1 rfl)
  | some n => exact ((k n).2 ((h n).1 rfl)).symm
def ofI (f : List UInt8 → Ino) (L : List UInt8) : Option Ino := if rightI (f L) = true ∧ valI (f L) = L then some (f L) else none
theorem of_is {f : List UInt8 → Ino} (hf : SaysI f) (L : List UInt8) : OfIs L (ofI f L) := by
  intro n
  unfold ofI
  constructor
  · intro h
    split at h
    next hh => cases h; exact hh
    next => cases h
  · rintro ⟨h1, h2⟩
    have e : f L = n := by rw [← h2]; exact hf.back n h1
    rw [e, if_pos ⟨h1, h2⟩]

/-- The numbers that a reader of a text tells one behind the other. -/
def rd0 (L : List UInt8) : RS := ⟨L, false⟩
def saidI (L : List UInt8) : Ino :=
  if (num ((rd0 L).got 1) : Int) = 1 then dirI
  else if (num ((rd0 L).got 1) : Int) = 2 then ⟨false, num (((rd0 L).take 1).got 4), num ((((rd0 L).take 1).take 4).got 4)⟩
  else nilI
/-- The document's own. -/
def dsaidI (L : List UInt8) : Ino :=
  if (num ((rd0 L).got 1) : Int) = 1 then dirI
  else ⟨false, num (((rd0 L).take 1).got 4), num ((((rd0 L).take 1).take 4).got 4)⟩
theorem got_app (a b : List UInt8) (n : Int) (hn : n = (a.length : Int)) : (rd0 (a ++ b)).got n = a ∧ (rd0 (a ++ b)).take n = rd0 b := by
  subst hn
  unfold RS.got RS.take rd0
  simp only
  have h : ¬ (false = true ∨ (a.length : Int) < 0 ∨ (((a ++ b).length : Nat) : Int) < (a.length : Int)) := by
    rw [List.length_append]
    rintro (h | h | h)
    · cases h
    · omega
    · omega
  rw [if_neg h, if_neg h]
  simp
theorem read_file (n : Ino) (hd : n.d = false) (h1 : 1 ≤ n.l) (h2 : n.l ≤ 65535) (h3 : 0 ≤ n.s) (h4 : n.s ≤ 1048576) :
    (num ((rd0 (valI n)).got 1) : Int) = 2 ∧ (⟨false, num (((rd0 (valI n)).take 1).got 4), num ((((rd0 (valI n)).take 1).take 4).got 4)⟩ : Ino) = n := by
  have e : valI n = [2] ++ (be n.l.toNat 4 ++ (be n.s.toNat 4 ++ [])) := by simp [valI, hd]
  obtain ⟨a1, a2⟩ := got_app [2] (be n.l.toNat 4 ++ (be n.s.toNat 4 ++ [])) 1 rfl
  obtain ⟨b1, b2⟩ := got_app (be n.l.toNat 4) (be n.s.toNat 4 ++ []) 4 (by rw [be_length]; rfl)
  obtain ⟨c1, c2⟩ := got_app (be n.s.toNat 4) [] 4 (by rw [be_length]; rfl)
  rw [e, a1, a2, b1, b2, c1]
  have p4 : (256 : Nat) ^ 4 = 4294967296 := by decide
  rw [num_be 4 _ (by omega), num_be 4 _ (by omega)]
  exact ⟨rfl, Ino.ext' hd.symm (by show ((n.l.toNat : Nat) : Int) = n.l; omega) (by show ((n.s.toNat : Nat) : Int) = n.s; omega)⟩
theorem said_says : SaysI fun L => saidI (L.take 9) := by
  refine ⟨fun n h => ?_⟩
  have hl := valI_length n
  have ht : (valI n).take 9 = valI n := List.take_of_length_le (by rw [hl]; split <;> omega)
  show saidI ((valI n).take 9) = n
  rw [ht]
  rcases right_cases h with rfl | ⟨h0, h1, h2, h3, h4⟩
  · rfl
  · obtain ⟨r1, r2⟩ := read_file n h0 h1 h2 h3 h4
    unfold saidI
    rw [r1, if_neg (by decide), if_pos rfl]
    exact r2
theorem dsaid_says : SaysI dsaidI := by
  refine ⟨fun n h => ?_⟩
  rcases right_cases h with rfl | ⟨h0, h1, h2, h3, h4⟩
  · rfl
  · obtain ⟨r1, r2⟩ := read_file n h0 h1 h2 h3 h4
    unfold dsaidI
    rw [r1, if_neg (by decide)]
    exact r2
theorem num_lt4 (L : List UInt8) (h : L.length ≤ 4) : num L ≤ 4294967295 := by
  have h1 := num_lt L
  have h2 : 256 ^ L.length ≤ 256 ^ 4 := Nat.pow_le_pow_right (by omega) h
  have h3 : (256 : Nat) ^ 4 = 4294967296 := by decide
  omega
theorem got_le (s : RS) (n : Nat) : (s.got n).length ≤ n := by
  have := s.got_length n
  omega

/-- Numbers that an entry may have; their values. -/
def okNum (n : Int) : Bool := decide (1 ≤ n) && decide (n < 1073741824)
def numT (n : Int) : List UInt8 := if okNum n = true then be n.toNat 4 else []
def NmIs (L : List UInt8) (o : Option Int) : Prop := ∀ n, o = some n ↔ okNum n = true ∧ be n.toNat 4 = L
theorem NmIs.unique {L : List UInt8} {a b : Option Int} (h : NmIs L a) (k : NmIs L b) : a = b := by
  cases a with
  | none =>
    cases b with
    | none => rfl
    | some n => exact (h n).2 ((k n).1 rfl)
  | some n => exact ((k n).2 ((h n).1 rfl)).symm
def nmI (f : List UInt8 → Int) (L : List UInt8) : Option Int := if okNum (f L) = true ∧ be (f L).toNat 4 = L then some (f L) else none
theorem okNum_in {n : Int} (h : okNum n = true) : 1 ≤ n ∧ n < 1073741824 := by
  simpa only [okNum, Bool.and_eq_true, decide_eq_true_eq] using h
theorem nm_is {f : List UInt8 → Int} (hf : ∀ n, okNum n = true → f (be n.toNat 4) = n) (L : List UInt8) : NmIs L (nmI f L) := by
  intro n
  unfold nmI
  constructor
  · intro h
    split at h
    next hh => cases h; exact hh
    next => cases h
  · rintro ⟨h1, h2⟩
    have e : f L = n := by rw [← h2]; exact hf n h1
    rw [e, if_pos ⟨h1, h2⟩]
theorem word_back (n : Int) (h : okNum n = true) : (num ((rd0 (be n.toNat 4)).got 4) : Int) = n := by
  obtain ⟨h1, h2⟩ := okNum_in h
  obtain ⟨a1, _⟩ := got_app (be n.toNat 4) [] 4 (by rw [be_length]; rfl)
  rw [List.append_nil] at a1
  have p4 : (256 : Nat) ^ 4 = 4294967296 := by decide
  rw [a1, num_be 4 _ (by omega)]
  omega

/-- Two values that are the same are the same inode's. -/
theorem val_inj {a b : Ino} (ha : rightI a = true) (hb : rightI b = true) (h : valI a = valI b) : a = b := by
  rw [← dsaid_says.back a ha, ← dsaid_says.back b hb, h]
theorem num_inj4 {a b : Int} (ha : okNum a = true) (hb : okNum b = true) (h : be a.toNat 4 = be b.toNat 4) : a = b := by
  rw [← word_back a ha, ← word_back b hb, h]

/-- Noughts at the end, taken away. -/
def trimP (L : List UInt8) : List UInt8 := (L.reverse.dropWhile (· == 0)).reverse
end Go.Proofs.YtgicanpggndbeaaGreat
/- (What was here lies in Be.) -/
namespace Go.Proofs.YtgicanpggndbeaaGreat
set_option linter.unusedVariables false
set_option maxRecDepth 100000
end Go.Proofs.YtgicanpggndbeaaGreat
/- What each call on the document's own reader (wainscotref01.Reader) comes to, in the words of RS. -/
namespace Go.Proofs.YtgicanpggndbeaaGreat
set_option linter.unusedVariables false
set_option maxRecDepth 100000
open Go.RowKit

/-- The document's reader in block q, in the state t. -/
def KQ (w : World) (q : Nat) (t : RS) : Prop := w.heap[q]? = some (.cells #[.string (str t.l), .bool t.bad] 155 (0, 0)) ∧ (t.bad = true → t.l = [])
def QG (q : Nat) (w : World) (t : RS) (w' : World) : Prop := KQ w' q t ∧ Touch q none w w'
theorem KQ.kept {w w' : World} {q : Nat} {t : RS} (h : KQ w q t) (hq : w'.heap[q]? = w.heap[q]?) : KQ w' q t := ⟨hq.trans h.1, h.2⟩
theorem KQ.lt {w : World} {q : Nat} {t : RS} (h : KQ w q t) : q < w.heap.size := lt_of_block h.1

set_option maxHeartbeats 400000 in
theorem ktake_bad (w : World) (q : Nat) (n : Int) (s : ByteArray) (h : w.heap[q]? = some (.cells #[.string s, .bool true] 155 (0, 0))) :
    Calls Tryz.prog 153 #[.pointer (some ⟨q, 0, none⟩), .int .i64 n] w fun e w' => e = .returned (.string ⟨#[]⟩) ∧ w' = (w.setCell ⟨q, 1, none⟩ (.bool true)).setCell ⟨q, 0, none⟩ (.string ⟨#[]⟩) := by
  obtain ⟨c0, c1⟩ := cells2 h
  obtain ⟨f0, f1⟩ := free2 h
  clear h
  go_enter Tryz.func153, Tryz.ntmps153
  go_wp2
  go_ret
  exact ⟨rfl, rfl⟩
set_option maxHeartbeats 400000 in
theorem ktake_neg (w : World) (q : Nat) (n : Int) (s : ByteArray) (h : w.heap[q]? = some (.cells #[.string s, .bool false] 155 (0, 0))) (hn : n < 0) :
    Calls Tryz.prog 153 #[.pointer (some ⟨q, 0, none⟩), .int .i64 n] w fun e w' => e = .returned (.string ⟨#[]⟩) ∧ w' = (w.setCell ⟨q, 1, none⟩ (.bool true)).setCell ⟨q, 0, none⟩ (.string ⟨#[]⟩) := by
  obtain ⟨c0, c1⟩ := cells2 h
  obtain ⟨f0, f1⟩ := free2 h
  clear h
  go_enter Tryz.func153, Tryz.ntmps153
  go_wp2
  go_ret
  exact ⟨rfl, rfl⟩
set_option maxHeartbeats 400000 in
theorem ktake_big (w : World) (q : Nat) (n : Int) (s : ByteArray) (h : w.heap[q]? = some (.cells #[.string s, .bool false] 155 (0, 0))) (hn0 : ¬ n < 0) (hn : (s.size : Int) < n) :
    Calls Tryz.prog 153 #[.pointer (some ⟨q, 0, none⟩), .int .i64 n] w fun e w' => e = .returned (.string ⟨#[]⟩) ∧ w' = (w.setCell ⟨q, 1, none⟩ (.bool true)).setCell ⟨q, 0, none⟩ (.string ⟨#[]⟩) := by
  obtain ⟨c0, c1⟩ := cells2 h
  obtain ⟨f0, f1⟩ := free2 h
  clear h
  go_enter Tryz.func153, Tryz.ntmps153
  go_wp2
  go_ret
  exact ⟨rfl, rfl⟩
set_option maxHeartbeats 400000 in
theorem ktake_ok (w : World) (q n : Nat) (s : ByteArray) (h : w.heap[q]? = some (.cells #[.string s, .bool false] 155 (0, 0))) (hn : (n : Int) ≤ (s.size : Int)) :
    Calls Tryz.prog 153 #[.pointer (some ⟨q, 0, none⟩), .int .i64 (n : Int)] w fun e w' => e = .returned (.string (s.extract 0 n)) ∧ w' = w.setCell ⟨q, 0, none⟩ (.string (s.extract n s.size)) := by
  obtain ⟨c0, c1⟩ := cells2 h
  obtain ⟨f0, f1⟩ := free2 h
  clear h
  have h0 : ¬ (n : Int) < 0 := by omega
  have h1 : ¬ (s.size : Int) < (n : Int) := by omega
  go_enter Tryz.func153, Tryz.ntmps153
  go_wp2
  go_ret
  exact ⟨rfl, rfl⟩
theorem ext_take (l : List UInt8) (n : Nat) : (str l).extract 0 n = str (l.take n) := by
  apply Go.WideShapes.bytes_inj
  simp [str]
theorem ext_drop (l : List UInt8) (n : Nat) : (str l).extract n (str l).size = str (l.drop n) := by
  apply Go.WideShapes.bytes_inj
  simp [str, ByteArray.size]
  rw [List.take_of_length_le (by simp)]
theorem ktake_calls (w : World) (q : Nat) (n : Int) (t : RS) (h : KQ w q t) :
    Calls Tryz.prog 153 #[.pointer (some ⟨q, 0, none⟩), .int .i64 n] w fun e w' => e = .returned (.string (str (t.got n))) ∧ QG q w (t.take n) w' := by
  obtain ⟨L, bad⟩ := t
  obtain ⟨h1, h2⟩ := h
  have no : QG q w ⟨[], true⟩ ((w.setCell ⟨q, 1, none⟩ (.bool true)).setCell ⟨q, 0, none⟩ (.string ⟨#[]⟩)) :=
    ⟨⟨(set2 (set2 h1).2).1, fun _ => rfl⟩, ((Touch.refl _ _ _).setCell _ _).setCell _ _⟩
  unfold RS.got RS.take
  simp only at h1 h2 ⊢
  cases bad with
  | true =>
    rw [if_pos (.inl rfl), if_pos (.inl rfl)]
    refine (ktake_bad w q n _ h1).mono ?_
    rintro e w' ⟨rfl, rfl⟩
    exact ⟨rfl, no⟩
  | false =>
    by_cases hn : n < 0
    · rw [if_pos (.inr (.inl hn)), if_pos (.inr (.inl hn))]
      refine (ktake_neg w q n _ h1 hn).mono ?_
      rintro e w' ⟨rfl, rfl⟩
      exact ⟨rfl, no⟩
    · by_cases hl : (L.length : Int) < n
      · rw [if_pos (.inr (.inr hl)), if_pos (.inr (.inr hl))]
        refine (ktake_big w q n _ h1 hn (by rw [str_size]; exact hl)).mono ?_
        rintro e w' ⟨rfl, rfl⟩
        exact ⟨rfl, no⟩
      · have hc : ¬ (false = true ∨ n < 0 ∨ (L.length : Int) < n) := by simp; omega
        rw [if_neg hc, if_neg hc]
        obtain ⟨k, rfl⟩ := Int.eq_ofNat_of_zero_le (show 0 ≤ n by omega)
        rw [Int.toNat_natCast]
        refine (ktake_ok w q k _ h1 (by rw [str_size]; omega)).mono ?_
        rintro e w' ⟨rfl, rfl⟩
        rw [ext_take, ext_drop]
        exact ⟨rfl, ⟨(set2 h1).1, fun e => by cases e⟩, (Touch.refl _ _ _).setCell _ _⟩

theorem knum_step (G : List UInt8) (k : Nat) (h : k < G.length) (h' : k < (str G).size) (hv : (num (G.take k) : Int) < 72057594037927936) :
    IntKind.u64.wrap (256 * (num (G.take k) : Int) + IntKind.u64.wrap (((str G)[k]'h').toNat : Int)) = (num (G.take (k + 1)) : Int) := by
  have e : ((str G)[k]'h') = G[k] := rfl
  have hb := (G[k]).toNat_lt
  rw [e, take_snoc8 G k h, num_snoc]
  have e1 : IntKind.u64.wrap ((G[k]).toNat : Int) = ((G[k]).toNat : Int) := by rw [IntKind.wrap_u64]; omega
  rw [e1, IntKind.wrap_u64]
  omega
theorem str_at (l : List UInt8) (k : Nat) (h : k < l.length) : ∃ h', ((str l)[k]'h').toNat = (l[k]).toNat := ⟨by rw [str_size]; exact h, rfl⟩

set_option maxHeartbeats 400000 in
theorem knumber_calls (w : World) (q n : Nat) (t : RS) (h : KQ w q t) (hn : n ≤ 8) :
    Calls Tryz.prog 128 #[.pointer (some ⟨q, 0, none⟩), .int .i64 (n : Int)] w fun e w' => e = .returned (.int .u64 (num (t.got n) : Int)) ∧ QG q w (t.take n) w' := by
  have hgl : (t.got n).length ≤ 8 := by rcases t.got_length n with e | e <;> omega
  go_enter Tryz.func128, Tryz.ntmps128
  go_wp2_with (go_at_call 153; refine (ktake_calls _ q n t h).mono ?_; rintro e w1 ⟨rfl, hg⟩)
  generalize hG : t.got n = G at hgl ⊢
  have HG : Hid (t.got n = G) := hG
  clear hG
  have hsz : (str G).size = G.length := str_size G
  go_loop [6, 7] (fun v i => ∃ k : Nat, k ≤ G.length ∧ i = .int .i64 k ∧ v = .int .u64 (num (G.take k) : Int)) (fun _ i => G.length - (intOf i).toNat)
  case atStart => exact ⟨0, Nat.zero_le _, rfl, rfl⟩
  case round =>
    obtain ⟨k, hk, rfl, rfl⟩ := hrel
    by_cases hlt : k < G.length
    · have hv := num_small7 (l := G.take k) (by rw [List.length_take]; omega)
      have hvi : (num (G.take k) : Int) < 72057594037927936 := by omega
      clear hv
      have Hv : Hid ((num (G.take k) : Int) < 72057594037927936) := hvi
      go_wp2
      go_round
      case rel => exact ⟨k + 1, by omega, by go_num, congrArg (Value.int .u64) (knum_step G k hlt _ Hv.out)⟩
      case measure => simp [intOf]; omega
    · have e : k = G.length := by omega
      subst e
      go_wp2
      go_ret
      rw [HG.out]
      exact ⟨by simp, hg⟩

set_option maxHeartbeats 400000 in
theorem kword_reads (w : World) (q : Nat) (t : RS) (h : KQ w q t) :
    Calls Tryz.prog 93 #[.pointer (some ⟨q, 0, none⟩)] w fun e w' => e = .returned (.int .i64 (num (t.got 4) : Int)) ∧ QG q w (t.take 4) w' := by
  have hs := num_small7 (l := t.got 4) (by rcases t.got_length 4 with e | e <;> omega)
  go_enter Tryz.func93, Tryz.ntmps93
  go_wp2_with (go_at_call 128; refine (knumber_calls _ q 4 t h (by omega)).mono ?_; rintro e w1 ⟨rfl, hg⟩)
  go_ret
  exact ⟨rfl, hg⟩
theorem QG.trans {q : Nat} {w w1 w2 : World} {s1 s2 : RS} (h : QG q w s1 w1) (k : QG q w1 s2 w2) : QG q w s2 w2 := ⟨k.1, h.2.trans k.2 (Near.none _ _)⟩
theorem byte_int (b : UInt8) : (IntKind.u8.wrap (b.toNat : Int)) = (b.toNat : Int) := by
  have := b.toNat_lt
  rw [IntKind.wrap_u8]
  omega
end Go.Proofs.YtgicanpggndbeaaGreat
/- Package inode, call by call: first, written, reader, isFile, Value, Number. -/
namespace Go.Proofs.YtgicanpggndbeaaGreat
set_option linter.unusedVariables false
set_option maxRecDepth 100000
open Go.RowKit

set_option maxHeartbeats 400000 in
theorem first_long (w : World) (L : List UInt8) (n : Nat) (N : Int) (hN : N = (n : Int)) (hn : N ≤ ((str L).size : Int)) (hm : min N ((str L).size : Int) = N) :
    Calls Tryz.prog 126 #[.string (str L), .int .i64 N] w fun e w' => e = .returned (.string (str (L.take n))) ∧ w' = w := by
  have h0 : 0 ≤ N := by omega
  have e1 : (str L).extract 0 N.toNat = str (L.take n) := by rw [hN]; exact ext_take L n
  generalize str (L.take n) = R at *
  generalize str L = S at *
  clear hN
  go_enter Tryz.func126, Tryz.ntmps126
  go_wp2
  go_ret
  exact ⟨rfl, rfl⟩
set_option maxHeartbeats 400000 in
theorem first_short (w : World) (L : List UInt8) (N : Int) (hn : ((str L).size : Int) < N) :
    Calls Tryz.prog 126 #[.string (str L), .int .i64 N] w fun e w' => e = .returned (.string (str L)) ∧ w' = w := by
  have e1 : (str L).extract 0 (str L).size = str L := by rw [ext_take, str_size, List.take_length]
  generalize str L = S at *
  go_enter Tryz.func126, Tryz.ntmps126
  go_wp2
  go_ret
  first
    | exact ⟨rfl, rfl⟩
    | exact ⟨by rw [show min N (S.size : Int) = (S.size : Int) by omega]; exact congrArg (fun x => Ending.returned (.string x)) e1, rfl⟩
theorem first_calls (w : World) (L : List UInt8) (n : Nat) (N : Int) (hN : N = (n : Int)) :
    Calls Tryz.prog 126 #[.string (str L), .int .i64 N] w fun e w' => e = .returned (.string (str (L.take n))) ∧ w' = w := by
  by_cases h : n ≤ L.length
  · exact first_long w L n N hN (by rw [str_size]; omega) (by rw [str_size]; omega)
  · rw [List.take_of_length_le (by omega)]
    exact first_short w L N (by rw [str_size]; omega)

set_option maxHeartbeats 400000 in
theorem written_calls (w : World) (p : Nat) (S : WS) (r : Option Nat) (h : WrS w p S r) (hb : S.bad = false) :
    Calls Tryz.prog 66 #[.pointer (some ⟨p, 0, none⟩)] w fun e w' => e = .returned (.string (str S.l)) ∧ Below w.heap.size w w' := by
  have H := done_ok w p S r h hb
  clear h hb
  go_enter Tryz.func66, Tryz.ntmps66
  go_wp2_with fail
  refine H.mono ?_
  rintro e w1 ⟨a, c, rfl, ho, hbel⟩
  clear H
  have hc := conv_bytes (own_bytes ho)
  clear ho
  go_wp2
  go_ret
  exact ⟨rfl, hbel⟩

/-- An inode's value in memory. -/
abbrev iv (n : Ino) : Value := .agg #[.bool n.d, .int .i64 n.l, .int .i64 n.s]

/-- A writer of one's own, new since the world w. -/
def Wri (w w1 : World) (p : Nat) (S : WS) : Prop := ∃ r, WrS w1 p S r ∧ Below w.heap.size w w1 ∧ w.heap.size ≤ p
theorem Wri.of {w w0 w1 : World} {p : Nat} {S : WS} (hb : Below w.heap.size w w0) (h : WrS w1 p S none) (hp : p = w0.heap.size) (k : Below w0.heap.size w0 w1) : Wri w w1 p S :=
  ⟨none, h, hb.trans (k.mono hb.size), by rw [hp]; exact hb.size⟩
theorem Wri.to {w w1 w2 : World} {p : Nat} {S S' : WS} {r : Option Nat} (h1 : WrS w1 p S r) (h2 : Below w.heap.size w w1) (h3 : w.heap.size ≤ p) (g : WrG p w1 r S' w2) : Wri w w2 p S' := by
  obtain ⟨r', g1, g2, g3⟩ := g
  have hl := h1.lt
  exact ⟨r', g1, h2.trans (g2.below h2.size h3 fun k hk => by have := hl.2 k hk; omega), h3⟩
theorem wri_new {w w0 : World} (hb : Below w.heap.size w w0) (n : Int) (h0 : 0 ≤ n) (h1 : n ≤ 2147483647) :
    Calls Tryz.prog 64 #[.int .i64 n] w0 fun e w' => ∃ p, e = .returned (.pointer (some ⟨p, 0, none⟩)) ∧ Wri w w' p ⟨n, [], false⟩ := by
  refine (new_calls w0 n h0 h1).mono ?_
  rintro e w' ⟨rfl, h, k⟩
  exact ⟨_, rfl, Wri.of hb h rfl k⟩
theorem wri_word {w w1 : World} {p : Nat} {S : WS} (h : Wri w w1 p S) (v : Int) (hv : v ≤ 9223372036854775807) :
    Calls Tryz.prog 65 #[.pointer (some ⟨p, 0, none⟩), .int .i64 v] w1 fun e w' => e = .returned (.tuple #[]) ∧ Wri w w' p (S.word v) := by
  obtain ⟨r, h1, h2, h3⟩ := h
  refine (word_calls w1 p v S r h1 hv).mono ?_
  rintro e w' ⟨rfl, g⟩
  exact ⟨rfl, Wri.to h1 h2 h3 g⟩
theorem wri_written {w w1 : World} {p : Nat} {S : WS} (h : Wri w w1 p S) (L : List UInt8) (hS : S = ⟨S.m, L, false⟩) :
    Calls Tryz.prog 66 #[.pointer (some ⟨p, 0, none⟩)] w1 fun e w' => e = .returned (.string (str L)) ∧ Below w.heap.size w w' := by
  obtain ⟨r, h1, h2, h3⟩ := h
  refine (written_calls w1 p S r h1 (by rw [hS])).mono ?_
  rintro e w' ⟨rfl, g⟩
  exact ⟨by rw [hS], h2.trans (g.mono h2.size)⟩
theorem Wri.called {w w1 w2 : World} {p : Nat} {S : WS} (h : Wri w w1 p S) (hb : Below w1.heap.size w1 w2) : Wri w w2 p S := by
  obtain ⟨r, h1, h2, h3⟩ := h
  have hl := h1.lt
  exact ⟨r, h1.kept (hb.block _ hl.1) fun k hk => hb.block _ (hl.2 k hk).2, h2.trans (hb.mono h2.size), h3⟩
theorem put_ok (m : Int) (L x : List UInt8) (h : (L.length : Int) + x.length ≤ m) : (⟨m, L, false⟩ : WS).put x = ⟨m, L ++ x, false⟩ := by
  unfold WS.put
  rw [if_neg (by simp), if_pos h]
theorem ws_file (n : Ino) (h : isFil n = true) : (((⟨9, [], false⟩ : WS).byte 2).word n.l).word n.s = ⟨9, valI n, false⟩ := by
  obtain ⟨h0, h1, h2, h3, h4⟩ := isFil_in h
  have e1 : (⟨9, [], false⟩ : WS).byte 2 = ⟨9, [2], false⟩ := by
    rw [WS.byte, if_neg (by omega), put_ok _ _ _ (by decide)]
    rfl
  have e2 : (⟨9, [2], false⟩ : WS).word n.l = ⟨9, [2] ++ be n.l.toNat 4, false⟩ := by rw [WS.word, if_neg (by omega), put_ok _ _ _ (by simp [be_length])]
  rw [e1, e2, WS.word, if_neg (by omega), put_ok _ _ _ (by simp [be_length])]
  simp [valI, h0]
theorem ws_dir : (⟨9, [], false⟩ : WS).byte 1 = ⟨9, valI dirI, false⟩ := by
  rw [WS.byte, if_neg (by omega), put_ok _ _ _ (by decide)]
  rfl
theorem ws_num (n : Int) (h : okNum n = true) : (⟨4, [], false⟩ : WS).word n = ⟨4, numT n, false⟩ := by
  obtain ⟨h1, h2⟩ := okNum_in h
  rw [WS.word, if_neg (by omega), put_ok _ _ _ (by simp [be_length])]
  simp [numT, h]
theorem ws_full (L : List UInt8) (h : L.length ≤ 32) : ((⟨32, [], false⟩ : WS).put L).fill 32 = ⟨32, L ++ List.replicate (32 - L.length) 0, false⟩ := by
  rw [put_ok _ _ _ (by simp; omega), WS.fill, if_neg (by simp; omega), put_ok _ _ _ (by simp; omega)]
  simp
end Go.Proofs.YtgicanpggndbeaaGreat
/- The library's contracts that package inode leans on: none is in this cut. -/

