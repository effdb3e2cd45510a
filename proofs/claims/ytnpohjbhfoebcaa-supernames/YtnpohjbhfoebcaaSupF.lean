/- The block of a superblock, as bytes; write. -/
import Derived.Test.YtnpohjbhfoebcaaSupE
import Derived.Deep.DeepCutAuto
namespace Go.Proofs.Ytnpohjbhfoebcaa
set_option linter.unusedVariables false
open Go.RowKit

/-- The bytes of a snapshot; those of a superblock, ahead of the noughts; its block. -/
def encS (s : Snp) : List UInt8 := be s.n.size 1 ++ (s.n.data.toList ++ (be s.r.toNat 4 ++ be s.c.toNat 8))
def encL : List Snp → List UInt8
  | [] => []
  | s :: l => encS s ++ encL l
def encH (S : Sup) : List UInt8 := be S.g.toNat 8 ++ (wain.data.toList ++ (be S.r.toNat 4 ++ (be S.x.toNat 4 ++ (be S.c.toNat 8 ++ be S.l.length 1))))
def encB (S : Sup) : List UInt8 := encH S ++ encL S.l
def enc (S : Sup) : List UInt8 := encB S ++ (List.replicate (504 - (encB S).length) 0 ++ be S.g.toNat 8)
theorem encH_length (S : Sup) : (encH S).length = 29 := by simp [encH, be_length, wain]
theorem encS_length (s : Snp) : (encS s).length = 13 + s.n.size := by simp [encS, be_length]; omega
theorem encL_append (a b : List Snp) : encL (a ++ b) = encL a ++ encL b := by
  induction a with
  | nil => rfl
  | cons s a ih => simp [encL, ih]
theorem okFrom_names : ∀ (l : List Snp) (last : List UInt8) (c : Int), okFrom last c l = true → ∀ s ∈ l, s.n.size ≤ 18 ∧ okRoot s.r = true ∧ 0 ≤ s.c ∧ s.c ≤ c
  | [], _, _, _, s, hs => by cases hs
  | x :: l, last, c, h, s, hs => by
    simp only [okFrom, Bool.and_eq_true, decide_eq_true_eq] at h
    rcases List.mem_cons.1 hs with rfl | hs
    · exact ⟨h.1.1.1.1.1, h.1.1.1.2, h.1.1.2, h.1.2⟩
    · exact okFrom_names l _ c h.2 s hs
theorem encL_length (l : List Snp) (h : ∀ s ∈ l, s.n.size ≤ 18) : (encL l).length ≤ 31 * l.length := by
  induction l with
  | nil => simp [encL]
  | cons s l ih =>
    have h1 := ih fun x hx => h x (by simp [hx])
    have h2 := h s (by simp)
    simp only [encL, List.length_append, encS_length, List.length_cons]
    omega

/-- A superblock that is right, in numbers. -/
structure Fits (S : Sup) : Prop where
  g0 : 1 ≤ S.g
  g1 : S.g ≤ 281474976710655
  r : okRoot S.r = true
  x0 : 2 ≤ S.x
  x1 : S.x ≤ 1073741824
  c0 : 0 ≤ S.c
  c1 : S.c ≤ 281474976710655
  len : S.l.length ≤ 8
  from_ : okFrom [] S.c S.l = true
theorem fits {S : Sup} (h : right S = true) : Fits S := by
  simp only [right, Bool.and_eq_true, decide_eq_true_eq] at h
  exact ⟨h.1.1.1.1.1.1.1.1, h.1.1.1.1.1.1.1.2, h.1.1.1.1.1.1.2, h.1.1.1.1.1.2, h.1.1.1.1.2, h.1.1.1.2, h.1.1.2, h.1.2, h.2⟩
theorem okRoot_bounds {n : Int} (h : okRoot n = true) : 0 ≤ n ∧ n ≤ 4294967295 := by
  simp only [okRoot, decide_eq_true_eq] at h
  omega
theorem Fits.snap {S : Sup} (h : Fits S) {s : Snp} (hs : s ∈ S.l) : s.n.size ≤ 18 ∧ 0 ≤ s.r ∧ s.r ≤ 4294967295 ∧ 0 ≤ s.c ∧ s.c ≤ 281474976710655 := by
  obtain ⟨h1, h2, h3, h4⟩ := okFrom_names _ _ _ h.from_ s hs
  have := okRoot_bounds h2
  have := h.c1
  exact ⟨h1, by omega, by omega, h3, by omega⟩
theorem Fits.encL {S : Sup} (h : Fits S) (k : Nat) : (encL (S.l.take k)).length ≤ 248 := by
  have := encL_length (S.l.take k) fun s hs => (h.snap (List.mem_of_mem_take hs)).1
  rw [List.length_take] at this
  have := h.len
  omega
theorem Fits.encB {S : Sup} (h : Fits S) : (encB S).length ≤ 277 := by
  have h1 := h.encL S.l.length
  rw [List.take_length] at h1
  rw [Go.Proofs.Ytnpohjbhfoebcaa.encB, List.length_append, encH_length]
  omega
theorem Fits.enc {S : Sup} (h : Fits S) : (enc S).length = 512 := by
  have := h.encB
  simp [Go.Proofs.Ytnpohjbhfoebcaa.enc, be_length]
  omega

/-- Bytes behind bytes (a word that the walk leaves alone). -/
def cat (a b : List UInt8) : List UInt8 := a ++ b
theorem cat_length (a b : List UInt8) : (cat a b).length = a.length + b.length := by simp [cat]
/-- What write's walk holds: the writer with the bytes L, the fields. -/
def WSt (w wr : World) (F : Fld) (p : Nat) (X : Option (Nat × Obj)) (L : List UInt8) : Prop := ∃ r, WrS wr p ⟨512, L, false⟩ r ∧ HasF wr w.heap.size F ∧ Below w.heap.size w wr ∧ w.heap.size < p ∧ ∀ b o, X = some (b, o) → wr.heap[b]? = some o ∧ b ≠ p ∧ r ≠ some b
theorem WSt.hasF {w wr : World} {F : Fld} {p : Nat} {X : Option (Nat × Obj)} {L : List UInt8} (h : WSt w wr F p X L) : HasF wr w.heap.size F := by obtain ⟨r, _, h, _⟩ := h; exact h
theorem WSt.below {w wr : World} {F : Fld} {p : Nat} {X : Option (Nat × Obj)} {L : List UInt8} (h : WSt w wr F p X L) : Below w.heap.size w wr := by obtain ⟨r, _, _, h, _⟩ := h; exact h
theorem WSt.lt {w wr : World} {F : Fld} {p : Nat} {X : Option (Nat × Obj)} {L : List UInt8} (h : WSt w wr F p X L) : p < wr.heap.size := by obtain ⟨r, h, _⟩ := h; exact h.lt.1
theorem put_fits (L x : List UInt8) (h : L.length + x.length ≤ 512) : (⟨512, L, false⟩ : WS).put x = ⟨512, cat L x, false⟩ := by
  unfold WS.put
  simp only
  rw [if_neg (by simp), if_pos (by omega)]
  rfl
theorem WSt.to {w wr w' : World} {F : Fld} {p : Nat} {X : Option (Nat × Obj)} {L L' : List UInt8} {r : Option Nat} (h1 : WrS wr p ⟨512, L, false⟩ r) (h2 : HasF wr w.heap.size F) (h3 : Below w.heap.size w wr) (h45 : w.heap.size < p ∧ ∀ b o, X = some (b, o) → wr.heap[b]? = some o ∧ b ≠ p ∧ r ≠ some b) (g : WrG p wr r ⟨512, L', false⟩ w') : WSt w w' F p X L' := by
  obtain ⟨h4, h5⟩ := h45
  obtain ⟨r', g1, g2, g3⟩ := g
  have hl := h1.lt
  refine ⟨r', g1, h2.same (g2.block _ h2.lt (by omega) fun e => by have := hl.2 _ e; omega), h3.trans (g2.below h3.size (by omega) fun k hk => by have := hl.2 k hk; omega), h4, fun b o hX => ?_⟩
  obtain ⟨x1, x2, x3⟩ := h5 b o hX
  have x4 := lt_of_block x1
  refine ⟨(g2.block b x4 x2 x3).trans x1, x2, fun e => ?_⟩
  rcases g3 b e with e | e
  · exact x3 e
  · omega
theorem WSt.alloc {w wr : World} {F : Fld} {p : Nat} {X : Option (Nat × Obj)} {L : List UInt8} (h : WSt w wr F p X L) (o : Obj) : WSt w (wr.alloc o) F p X L := by
  obtain ⟨r, h1, h2, h3, h4⟩ := h
  have hl := h1.lt
  exact ⟨r, h1.kept (Below.heap_alloc _ _ _ hl.1) fun k hk => Below.heap_alloc _ _ _ (hl.2 k hk).2, h2.alloc o, h3.alloc h3.size o, h4.1, fun b o hX => ⟨(Below.heap_alloc _ _ _ (lt_of_block (h4.2 b o hX).1)).trans (h4.2 b o hX).1, (h4.2 b o hX).2⟩⟩
theorem WSt.hold {w wr : World} {F : Fld} {p : Nat} {X : Option (Nat × Obj)} {L : List UInt8} (h : WSt w wr F p X L) (o : Obj) : WSt w (wr.alloc o) F p (some (wr.heap.size, o)) L := by
  obtain ⟨r, h1, h2, h3, h4⟩ := h
  have hl := h1.lt
  refine ⟨r, h1.kept (Below.heap_alloc _ _ _ hl.1) fun k hk => Below.heap_alloc _ _ _ (hl.2 k hk).2, h2.alloc o, h3.alloc h3.size o, h4.1, fun b q hX => ?_⟩
  cases hX
  exact ⟨heap_alloc_new _ _, by omega, fun e => by have := hl.2 _ e; omega⟩
theorem WSt.drop {w wr : World} {F : Fld} {p : Nat} {X : Option (Nat × Obj)} {L : List UInt8} (h : WSt w wr F p X L) : WSt w wr F p none L := by
  obtain ⟨r, h1, h2, h3, h4⟩ := h
  exact ⟨r, h1, h2, h3, h4.1, fun b o hX => by cases hX⟩
theorem WSt.held {w wr : World} {F : Fld} {p b : Nat} {o : Obj} {L : List UInt8} (h : WSt w wr F p (some (b, o)) L) : wr.heap[b]? = some o := by
  obtain ⟨r, h1, h2, h3, h4⟩ := h
  exact (h4.2 b o rfl).1
theorem WSt.called {w wr w' : World} {F : Fld} {p : Nat} {X : Option (Nat × Obj)} {L : List UInt8} (h : WSt w wr F p X L) (hb : Below wr.heap.size wr w') : WSt w w' F p X L := by
  obtain ⟨r, h1, h2, h3, h4⟩ := h
  have hl := h1.lt
  exact ⟨r, h1.kept (hb.block _ hl.1) fun k hk => hb.block _ (hl.2 k hk).2, h2.below hb h2.lt, h3.trans (hb.mono h3.size), h4.1, fun b o hX => ⟨(hb.block _ (lt_of_block (h4.2 b o hX).1)).trans (h4.2 b o hX).1, (h4.2 b o hX).2⟩⟩
theorem st_long {w wr : World} {F : Fld} {p : Nat} {X : Option (Nat × Obj)} {L : List UInt8} (h : WSt w wr F p X L) (v : Int) (h0 : 0 ≤ v) (hl : L.length + 8 ≤ 512) :
    Calls Try.prog 21 #[.pointer (some ⟨p, 0, none⟩), .int .u64 v] wr fun e w' => e = .returned (.tuple #[]) ∧ WSt w w' F p X (cat L (be v.toNat 8)) := by
  obtain ⟨r, h1, h2, h3, h4⟩ := h
  obtain ⟨v, rfl⟩ := Int.eq_ofNat_of_zero_le h0
  rw [Int.toNat_natCast]
  refine (long_calls wr p v _ r h1).mono ?_
  rintro e w' ⟨rfl, g⟩
  rw [WS.long, put_fits _ _ (by rw [be_length]; exact hl)] at g
  exact ⟨rfl, WSt.to h1 h2 h3 h4 g⟩
theorem st_raw {w wr : World} {F : Fld} {p : Nat} {X : Option (Nat × Obj)} {L : List UInt8} (h : WSt w wr F p X L) (t : ByteArray) (hl : L.length + t.size ≤ 512) :
    Calls Try.prog 22 #[.pointer (some ⟨p, 0, none⟩), .string t] wr fun e w' => e = .returned (.tuple #[]) ∧ WSt w w' F p X (cat L t.data.toList) := by
  obtain ⟨r, h1, h2, h3, h4⟩ := h
  refine (raw_calls wr p t _ r h1 (by omega)).mono ?_
  rintro e w' ⟨rfl, g⟩
  rw [put_fits _ _ (by simpa using hl)] at g
  exact ⟨rfl, WSt.to h1 h2 h3 h4 g⟩
theorem st_word {w wr : World} {F : Fld} {p : Nat} {X : Option (Nat × Obj)} {L : List UInt8} (h : WSt w wr F p X L) (v : Int) (h0 : 0 ≤ v) (hv : v ≤ 4294967295) (hl : L.length + 4 ≤ 512) :
    Calls Try.prog 23 #[.pointer (some ⟨p, 0, none⟩), .int .i64 v] wr fun e w' => e = .returned (.tuple #[]) ∧ WSt w w' F p X (cat L (be v.toNat 4)) := by
  obtain ⟨r, h1, h2, h3, h4⟩ := h
  refine (word_calls wr p v _ r h1 (by omega)).mono ?_
  rintro e w' ⟨rfl, g⟩
  rw [WS.word, if_neg (by omega), put_fits _ _ (by rw [be_length]; exact hl)] at g
  exact ⟨rfl, WSt.to h1 h2 h3 h4 g⟩
theorem st_byte {w wr : World} {F : Fld} {p : Nat} {X : Option (Nat × Obj)} {L : List UInt8} (h : WSt w wr F p X L) (v : Int) (h0 : 0 ≤ v) (hv : v ≤ 255) (hl : L.length + 1 ≤ 512) :
    Calls Try.prog 24 #[.pointer (some ⟨p, 0, none⟩), .int .i64 v] wr fun e w' => e = .returned (.tuple #[]) ∧ WSt w w' F p X (cat L (be v.toNat 1)) := by
  obtain ⟨r, h1, h2, h3, h4⟩ := h
  refine (byte_calls wr p v _ r h1 (by omega)).mono ?_
  rintro e w' ⟨rfl, g⟩
  rw [WS.byte, if_neg (by omega), put_fits _ _ (by rw [be_length]; exact hl)] at g
  exact ⟨rfl, WSt.to h1 h2 h3 h4 g⟩
theorem st_text {w wr : World} {F : Fld} {p : Nat} {X : Option (Nat × Obj)} {L : List UInt8} (h : WSt w wr F p X L) (t : ByteArray) (ht : t.size ≤ 255) (hl : L.length + 1 + t.size ≤ 512) :
    Calls Try.prog 26 #[.pointer (some ⟨p, 0, none⟩), .string t] wr fun e w' => e = .returned (.tuple #[]) ∧ WSt w w' F p X (cat (cat L (be t.size 1)) t.data.toList) := by
  obtain ⟨r, h1, h2, h3, h4⟩ := h
  refine (text_calls wr p t _ r h1 (by omega)).mono ?_
  rintro e w' ⟨rfl, g⟩
  rw [WS.text, WS.byte, if_neg (by omega), put_fits _ _ (by rw [be_length]; omega), put_fits _ _ (by rw [cat_length, be_length]; simpa using hl), Int.toNat_natCast] at g
  exact ⟨rfl, WSt.to h1 h2 h3 h4 g⟩
theorem st_fill {w wr : World} {F : Fld} {p : Nat} {X : Option (Nat × Obj)} {L : List UInt8} (h : WSt w wr F p X L) (hl : L.length ≤ 504) :
    Calls Try.prog 27 #[.pointer (some ⟨p, 0, none⟩), .int .i64 504] wr fun e w' => e = .returned (.tuple #[]) ∧ WSt w w' F p X (cat L (List.replicate (504 - L.length) 0)) := by
  obtain ⟨r, h1, h2, h3, h4⟩ := h
  refine (fill_calls wr p 504 _ r h1 (by omega)).mono ?_
  rintro e w' ⟨rfl, g⟩
  have e1 : ((504 : Int) - L.length).toNat = 504 - L.length := by omega
  rw [WS.fill, if_neg (by simp only; omega)] at g
  simp only [e1] at g
  rw [put_fits _ _ (by rw [List.length_replicate]; omega)] at g
  exact ⟨rfl, WSt.to h1 h2 h3 h4 g⟩
theorem own_lower {w : World} {base base' : Nat} {e : TypeId} {size n : Nat} {v : Value} {xs : List Value} (h : w.ownsRow base e size v n xs) (hb : base' ≤ base) : w.ownsRow base' e size v n xs := by
  refine ⟨h.1, ?_⟩
  rcases h.2 with h2 | ⟨g, cap, cur, h3, h4, h5⟩
  · exact .inl h2
  · exact .inr ⟨g, cap, cur, h3, by omega, h5⟩
theorem st_done {w wr : World} {F : Fld} {p : Nat} {X : Option (Nat × Obj)} {L : List UInt8} (h : WSt w wr F p X L) :
    Calls Try.prog 28 #[.pointer (some ⟨p, 0, none⟩)] wr fun e w' => ∃ a c, e = .returned (.tuple #[.slice a L.length c, .bool true]) ∧ w'.ownsRow w.heap.size 5 1 (.slice a L.length c) L.length (bc L) ∧ Below w.heap.size w w' := by
  obtain ⟨r, h1, h2, h3, h4⟩ := h
  refine (done_ok wr p _ r h1 rfl).mono ?_
  rintro e w' ⟨a, c, rfl, ho, hb⟩
  exact ⟨a, c, rfl, own_lower ho h3.size, h3.trans (hb.mono h3.size)⟩

theorem fieldsOf_min (S : Sup) (h : S.l.length ≤ 8) : min (fieldsOf S).n 8 = (S.l.length : Int) := by
  show min (S.l.length : Int) 8 = _
  omega
theorem fieldsOf_at (S : Sup) (k : Nat) (hk : k < S.l.length) (h8 : k < (fieldsOf S).l.length) : (fieldsOf S).l[k] = S.l[k] := by
  simp only [fieldsOf]
  rw [List.getElem_append_left hk]
theorem encL_take (l : List Snp) (k : Nat) (hk : k < l.length) : encL (l.take (k + 1)) = encL (l.take k) ++ encS l[k] := by
  rw [List.take_succ_eq_append_getElem hk, encL_append]
  simp [encL]
theorem cat_snap (H E : List UInt8) (s : Snp) : cat (cat (cat (cat (cat H E) (be s.n.size 1)) s.n.data.toList) (be s.r.toNat 4)) (be s.c.toNat 8) = cat H (E ++ encS s) := by simp [cat, encS]

set_option maxHeartbeats 4000000 in
set_option maxRecDepth 100000 in
theorem write_calls (w : World) (S : Sup) (hr : right S = true) :
    Calls Try.prog 15 #[fv (fieldsOf S)] w fun e w' => ∃ a c, e = .returned (.slice a 512 c) ∧ w'.ownsRow w.heap.size 5 1 (.slice a 512 c) 512 (bc (enc S)) ∧ Below w.heap.size w w' := by
  have fit := fits hr
  clear hr
  have h8 := fit.len
  have hlen := fieldsOf_length S h8
  have hH : ∀ w, Calls Try.prog 25 #[fv (fieldsOf S)] w fun e w' => e = .returned (.int .i64 (S.l.length : Int)) ∧ Below w.heap.size w w' := fun w => by rw [← fieldsOf_min S h8]; exact held_calls w (fieldsOf S) hlen
  have HF0 : Hid (HasF (w.alloc (.cells (fc (fieldsOf S)).toArray 48 (0, 0))) w.heap.size (fieldsOf S)) := HasF.new w _ hlen
  have HS : Hid (∀ k (hk : k < S.l.length), ∃ h, (fieldsOf S).l[k]'h = S.l[k]) := fun k hk => ⟨by rw [hlen]; omega, fieldsOf_at S k hk _⟩
  have SIX : Hid (∀ wr, HasF wr w.heap.size (fieldsOf S) → wr.cell? ⟨w.heap.size, 0, none⟩ = some (.int .i64 S.g) ∧ wr.cell? ⟨w.heap.size, 1, none⟩ = some (.string wain) ∧ wr.cell? ⟨w.heap.size, 2, none⟩ = some (.int .i64 S.r) ∧ wr.cell? ⟨w.heap.size, 3, none⟩ = some (.int .i64 S.x) ∧ wr.cell? ⟨w.heap.size, 4, none⟩ = some (.int .i64 S.c) ∧ wr.cell? ⟨w.heap.size, 5, none⟩ = some (.int .i64 (S.l.length : Int)) ∧ wr.cell? ⟨w.heap.size, 30, none⟩ = some (.int .i64 S.g)) := fun wr h => h.six
  have g0 := fit.g0
  have g1 := fit.g1
  have r0 := (okRoot_bounds fit.r).1
  have r1 := (okRoot_bounds fit.r).2
  have x0 := fit.x0
  have x1 := fit.x1
  have c0 := fit.c0
  have c1 := fit.c1
  have FIT : Hid (Fits S) := fit
  have HD : Hid (cat (cat (cat (cat (cat (cat [] (be S.g.toNat 8)) wain.data.toList) (be S.r.toNat 4)) (be S.x.toNat 4)) (be S.c.toNat 8)) (be ((S.l.length : Int)).toNat 1) = encH S) := (show _ = _ by simp [cat, encH, Int.toNat_natCast])
  have hws : wain.size = 4 := rfl
  have hwl : wain.data.toList.length = 4 := rfl
  have HSn : Hid (∀ s ∈ S.l, s.n.size ≤ 18 ∧ 0 ≤ s.r ∧ s.r ≤ 4294967295 ∧ 0 ≤ s.c ∧ s.c ≤ 281474976710655) := fun s hs => fit.snap hs
  have HEn : Hid (∀ k, (encL (S.l.take k)).length ≤ 248) := fun k => fit.encL k
  have HEN : Hid (encH S ++ encL S.l = encB S ∧ (encB S).length ≤ 277) := ⟨rfl, fit.encB⟩
  have HEF : Hid (cat (cat (encB S) (List.replicate (504 - (encB S).length) 0)) (be S.g.toNat 8) = enc S ∧ (enc S).length = 512) := ⟨by simp [cat, enc], fit.enc⟩
  have HHL : Hid ((encH S).length = 29) := encH_length S
  clear fit hlen
  obtain ⟨F, hF⟩ : ∃ F, F = fieldsOf S := ⟨_, rfl⟩
  rw [← hF] at HF0 hH HS SIX ⊢
  clear hF
  obtain ⟨EH, hEH⟩ : ∃ E, E = encH S := ⟨_, rfl⟩
  obtain ⟨EB, hEB⟩ : ∃ E, E = encB S := ⟨_, rfl⟩
  obtain ⟨EE, hEE⟩ : ∃ E, E = enc S := ⟨_, rfl⟩
  rw [← hEH] at HD HEN HHL
  rw [← hEB] at HEN HEF
  rw [← hEE] at HEF ⊢
  clear hEH hEB hEE
  obtain ⟨g, rt, x, c, l⟩ := S
  simp only at *
  go_enter Try.func15, Try.ntmps15
  go_upto_region 2 with (go_at_call 20; refine (new_calls _ 512 (by omega) (by omega)).mono ?_; rintro e w1 ⟨rfl, h1, b1⟩)
  have st1 : WSt w w1 F (w.heap.size + 1) none [] := ⟨none, by simpa using h1, HF0.out.below b1 (by simp), ((Below.refl _ w).alloc (Nat.le_refl _) _).trans (b1.mono (by simp)), by omega, fun b o hX => by cases hX⟩
  clear h1 b1 HF0
  obtain ⟨k, _⟩ := SIX.out _ st1.hasF
  go_upto_region 3 with (go_at_call 21; refine (st_long st1 g (by omega) (by simp)).mono ?_; rintro e w2 ⟨rfl, st2⟩)
  clear k st1
  obtain ⟨_, k, _⟩ := SIX.out _ st2.hasF
  go_upto_region 4 with (go_at_call 22; refine (st_raw st2 wain (by simp [cat_length, be_length, hws])).mono ?_; rintro e w3 ⟨rfl, st3⟩)
  clear k st2
  obtain ⟨_, _, k, _⟩ := SIX.out _ st3.hasF
  go_upto_region 5 with (go_at_call 23; refine (st_word st3 rt r0 r1 (by simp [cat_length, be_length, hwl])).mono ?_; rintro e w4 ⟨rfl, st4⟩)
  clear k st3
  obtain ⟨_, _, _, k, _⟩ := SIX.out _ st4.hasF
  go_upto_region 6 with (go_at_call 23; refine (st_word st4 x (by omega) (by omega) (by simp [cat_length, be_length, hwl])).mono ?_; rintro e w5 ⟨rfl, st5⟩)
  clear k st4
  obtain ⟨_, _, _, _, k, _⟩ := SIX.out _ st5.hasF
  go_upto_region 7 with (go_at_call 21; refine (st_long st5 c c0 (by simp [cat_length, be_length, hwl])).mono ?_; rintro e w6 ⟨rfl, st6⟩)
  clear k st5
  obtain ⟨_, _, _, _, _, k, _⟩ := SIX.out _ st6.hasF
  go_upto_region 8 with (go_at_call 24; refine (st_byte st6 (l.length : Int) (by omega) (by omega) (by simp [cat_length, be_length, hwl])).mono ?_; rintro e w7 ⟨rfl, st7⟩)
  clear k st6
  rw [HD.out] at st7
  have HF7 : Hid (HasF w7 w.heap.size F) := st7.hasF
  go_upto_region 9 with (first | (refine load_fld _ rfl w.heap.size rfl rfl _ HF7.out ?_) | (go_at_call 25; refine (hH _).mono ?_; rintro e w8 ⟨rfl, b8⟩; have hsl := slice_snaps w8 w.heap.size l.length h8))
  have st8 := (st7.called b8).drop
  clear st7 b8 HF7
  have st9 : WSt w w8 F (w.heap.size + 1) none (cat EH (encL (l.take 0))) := by
    have e : cat EH (encL (l.take 0)) = EH := by simp [cat, encL]
    rw [e]
    exact st8
  clear st8
  go_loopw [40] (fun i wr => ∃ (k : Nat), k ≤ l.length ∧ i = .int .i64 (k : Int) ∧ WSt w wr F (w.heap.size + 1) none (cat EH (encL (l.take k)))) (fun i _ => l.length - (intOf i).toNat)
  case atStart => exact ⟨0, Nat.zero_le _, rfl, st9⟩
  case round =>
    obtain ⟨k, hk, rfl, st⟩ := hrel
    by_cases hlt : k < l.length
    · obtain ⟨hk8, hkl⟩ := HS.out k hlt
      have hat := st.hasF.snaps k hk8
      rw [hkl] at hat
      obtain ⟨a0, a1, a2⟩ := hat
      obtain ⟨b1, b2, b3, b4, b5⟩ := HSn.out l[k] (List.getElem_mem _)
      have hlen := HEn.out k
      have HT : Hid (encL (l.take (k + 1)) = encL (l.take k) ++ encS l[k]) := encL_take l k hlt
      clear hk8 hkl
      generalize l[k] = s at *
      have HC : Hid (cat (cat (cat (cat (cat EH (encL (l.take k))) (be s.n.size 1)) s.n.data.toList) (be s.r.toNat 4)) (be s.c.toNat 8) = cat EH (encL (l.take (k + 1)))) := (show _ = _ by rw [HT.out, cat_snap])
      have hh := HHL.out
      have HL : Hid ((cat EH (encL (l.take k))).length ≤ 277) := (show _ ≤ _ by rw [cat_length]; omega)
      clear hlen hh HT
      generalize cat EH (encL (l.take k)) = E1 at *
      obtain ⟨sn, sr, sc⟩ := s
      simp only at a0 a1 a2 b1 b2 b3 b4 b5 HC
      have hL := HL.out
      clear HL
      have HB : Hid (E1.length ≤ 277) := hL
      clear hL
      go_upto_region 12 with (go_at_call 26; refine (st_text (st.hold _) sn (by omega) (by have := HB.out; omega)).mono ?_; rintro e wa ⟨rfl, sta⟩)
      obtain ⟨_, q1, q2⟩ := cells3 sta.held
      go_upto_region 13 with (go_at_call 23; refine (st_word sta sr b2 b3 (by have := HB.out; simp [cat_length, be_length]; omega)).mono ?_; rintro e wb ⟨rfl, stb⟩)
      clear q1 q2 sta
      obtain ⟨_, q1, q2⟩ := cells3 stb.held
      go_wp2_with (go_at_call 21; refine (st_long stb sc b4 (by have := HB.out; simp [cat_length, be_length]; omega)).mono ?_; rintro e wc ⟨rfl, stc⟩)
      rw [HC.out] at stc
      have STC : Hid (WSt w wc F (w.heap.size + 1) none (cat EH (encL (l.take (k + 1))))) := stc.drop
      clear stc stb q1 q2
      go_round
      case rel => exact ⟨k + 1, by omega, by go_num, STC.out⟩
      case measure => simp [intOf]; omega
    · have e : k = l.length := by omega
      subst e
      rw [List.take_length] at st
      have e2 : cat EH (encL l) = EB := HEN.out.1
      rw [e2] at st
      have hb := HEN.out.2
      clear e2
      go_upto_region 16 with (go_at_call 27; refine (st_fill st (by omega)).mono ?_; rintro e wa ⟨rfl, sta⟩)
      obtain ⟨_, _, _, _, _, _, q⟩ := SIX.out _ sta.hasF
      go_upto_region 17 with (go_at_call 21; refine (st_long sta g (by omega) (by simp [cat_length]; omega)).mono ?_; rintro e wb ⟨rfl, stb⟩)
      rw [HEF.out.1] at stb
      go_wp2_with (go_at_call 28; refine (st_done stb).mono ?_; rintro e wc ⟨a, c, rfl, ho, hbl⟩; rw [HEF.out.2] at ho ⊢)
      go_ret
      exact ⟨a, c, rfl, ho, hbl⟩
end Go.Proofs.Ytnpohjbhfoebcaa
