import Derived.Test.YtgicanpggndbeaaGreatB44
import Derived.Test.YtgicanpggndbeaaGreatB42
import Derived.Test.YtgicanpggndbeaaGreatB04
/- What comes in to stage 14's statements: texts, steps. -/
namespace Go.Proofs.YtgicanpggndbeaaGreat
set_option linter.unusedVariables false
set_option maxRecDepth 100000
open Go.ChangeShapes Go.WideShapes Go.ChangeAt Go.RowKit

theorem open_texts {H : Type} {enc : TypeId × Value → H} {W : World} {base : Nat} {held : Bool} {a : Option Addr} {len cap : Nat} {d : DataW H} {p : List MemPlace}
    (h : DataW.Trod enc Tryz.prog W base (fun _ => true) held 37 (.slice a len cap) d p) : ∃ l : List (List UInt8), Sl encN W (.slice a len cap) l := by
  refine open_els encN 37 9 Tryz.underlying37 (by kernel_rfl) (by decide) (fun fuel z cs hf hl => ?_) h
  obtain ⟨s, e3, _, _⟩ := DataW.trod_string Tryz.underlying9 hf
  refine ⟨s.data.toList, ?_⟩
  show cs = [.string (str s.data.toList)]
  rw [str_data2]
  exact e3
/-- A step of stage 14. -/
structure Do where
  kind : Int
  dir : Int
  ino : Int
  s : List UInt8
  k : List UInt8
  h : k.length = 24
  v : List UInt8
def Do.kz (o : Do) : Kz := ⟨o.k, o.h⟩
def dcd (o : Do) : List Value := [.int .i64 o.kind, .int .i64 o.dir, .int .i64 o.ino, .string (str o.s)] ++ bc o.k ++ [.string (str o.v)]
theorem dcd_len (o : Do) : (dcd o).length = 29 := by simp [dcd, bc_length, o.h]
def encDo : Enc Do 29 := ⟨dcd, dcd_len, fun o v hv => by
  simp only [dcd, List.mem_append, List.mem_cons, List.not_mem_nil, or_false] at hv
  rcases hv with (hv | hv) | hv
  · rcases hv with rfl | rfl | rfl | rfl <;> rfl
  · exact bc_one _ v hv
  · subst hv; rfl⟩
section
variable {w : World} {g off : Nat} {o : Do}
theorem range_dKind (h : w.rangeAt g off (encDo.c o)) : w.cell? ⟨g, off, none⟩ = some (.int .i64 o.kind) := by
  have := h 0 (.int .i64 o.kind) rfl
  simpa using this
theorem range_dDir (h : w.rangeAt g off (encDo.c o)) : w.cell? ⟨g, off + 1, none⟩ = some (.int .i64 o.dir) := h 1 (.int .i64 o.dir) rfl
theorem range_dIno (h : w.rangeAt g off (encDo.c o)) : w.cell? ⟨g, off + 2, none⟩ = some (.int .i64 o.ino) := h 2 (.int .i64 o.ino) rfl
theorem range_dStr (h : w.rangeAt g off (encDo.c o)) : w.cell? ⟨g, off + 3, none⟩ = some (.string (str o.s)) := h 3 (.string (str o.s)) rfl
theorem dcd_at (o : Do) (j : Nat) (hj : j < 24) : (dcd o)[4 + j]? = (bc o.k)[j]? := by
  have hk : (bc o.k).length = 24 := by rw [bc_length, o.h]
  unfold dcd
  rw [List.append_assoc, List.getElem?_append_right (by simp), List.getElem?_append_left (by rw [hk]; simp; omega)]
  simp
theorem range_dKey (h : w.rangeAt g off (encDo.c o)) : w.rangeAt g (off + 4) (bc o.k) := fun j v hv => by
  have hj : j < 24 := by have := (List.getElem?_eq_some_iff.1 hv).1; rw [bc_length, o.h] at this; exact this
  have := h (4 + j) v (by show (dcd o)[4 + j]? = _; rw [dcd_at o j hj]; exact hv)
  rwa [← Nat.add_assoc] at this
theorem range_dVal (h : w.rangeAt g off (encDo.c o)) : w.cell? ⟨g, off + 28, none⟩ = some (.string (str o.v)) := h 28 (.string (str o.v)) (by
  show (dcd o)[28]? = _
  have hk : (bc o.k).length = 24 := by rw [bc_length, o.h]
  unfold dcd
  rw [List.getElem?_append_right (by simp [hk])]
  simp [hk])
end
theorem open_dops {H : Type} {enc : TypeId × Value → H} {W : World} {base : Nat} {held : Bool} {a : Option Addr} {len cap : Nat} {d : DataW H} {p : List MemPlace}
    (h : DataW.Trod enc Tryz.prog W base (fun _ => true) held 22 (.slice a len cap) d p) : ∃ l : List Do, Sl encDo W (.slice a len cap) l := by
  refine open_els encDo 22 31 Tryz.underlying22 (by kernel_rfl) (by decide) (fun fuel z cs hf hl => ?_) h
  obtain ⟨xs, n', _, _, _, hlen, hf'⟩ := DataW.trod_struct Tryz.underlying31 hf
  match xs, hlen with
  | [y0, y1, y2, y3, y4, y5], _ =>
    have ki : Tryz.prog.cellsOf 3 = 1 := by kernel_rfl
    have k24 : Tryz.prog.cellsOf 29 = 24 := by kernel_rfl
    have k1 : Tryz.prog.cellsOf 9 = 1 := by kernel_rfl
    have f0 := hf' 0 _ rfl
    have f1 := hf' 1 _ rfl
    have f2 := hf' 2 _ rfl
    have f3 := hf' 3 _ rfl
    have f4 := hf' 4 _ rfl
    have f5 := hf' 5 _ rfl
    simp at f0 f1 f2 f3 f4 f5
    rw [ki] at f0 f1 f2
    rw [k24] at f4
    rw [k1] at f3 f5
    obtain ⟨kd, e0, _, _⟩ := DataW.trod_int Tryz.underlying3 f0
    obtain ⟨dd, e1, _, _⟩ := DataW.trod_int Tryz.underlying3 f1
    obtain ⟨ii, e2, _, _⟩ := DataW.trod_int Tryz.underlying3 f2
    obtain ⟨s, e3, _, _⟩ := DataW.trod_string Tryz.underlying9 f3
    obtain ⟨K, lK, e4⟩ := trod_key f4
    obtain ⟨v, e5, _, _⟩ := DataW.trod_string Tryz.underlying9 f5
    refine ⟨⟨kd, dd, ii, s.data.toList, K, lK, v.data.toList⟩, ?_⟩
    show cs = [.int .i64 kd, .int .i64 dd, .int .i64 ii, .string (str s.data.toList)] ++ bc K ++ [.string (str v.data.toList)]
    rw [str_data2, str_data2, ← e4, ← e5, List.take_of_length_le (l := cs.drop 28) (by simp; omega)]
    have d28 : cs.drop 28 = (cs.drop 4).drop 24 := by rw [List.drop_drop]
    have d4 : cs.drop 4 = (cs.drop 3).drop 1 := by rw [List.drop_drop]
    have d3 : cs.drop 3 = (cs.drop 2).drop 1 := by rw [List.drop_drop]
    have d2 : cs.drop 2 = cs.tail.drop 1 := by rw [← List.drop_one, List.drop_drop]
    have d1 : cs.tail = cs.drop 1 := List.drop_one.symm
    rw [List.append_assoc, d28, List.take_append_drop]
    show cs = .int .i64 kd :: .int .i64 dd :: .int .i64 ii :: ([.string s] ++ cs.drop 4)
    rw [← e3, d4, List.take_append_drop]
    show cs = .int .i64 kd :: .int .i64 dd :: ([.int .i64 ii] ++ cs.drop 3)
    rw [← e2, d3, List.take_append_drop]
    show cs = .int .i64 kd :: ([.int .i64 dd] ++ cs.drop 2)
    rw [← e1, d2, List.take_append_drop]
    show cs = [.int .i64 kd] ++ cs.tail
    rw [← e0, d1, List.take_append_drop]
end Go.Proofs.YtgicanpggndbeaaGreat
/- Two views side by side, a view over a view: a base of pairs that is held block by block; a view as a base; what a view over a view tells (mathematics). -/
namespace Go.Proofs.YtgicanpggndbeaaGreat
set_option linter.unusedVariables false
set_option maxRecDepth 100000
open Go.RowKit

set_option maxHeartbeats 1000000 in
/-- NewPlain, with its row its own. -/
theorem newPlainO_calls (w : World) (u : Value) (l : List Pa) (h : Sl encP w u l) (hl : l.length ≤ 10000) :
    Calls Tryz.prog 29 #[u] w fun e w' => ∃ p v m, e = .returned (.pointer (some ⟨p, 0, none⟩)) ∧ w'.heap[p]? = some (.cells #[v] 123 (0, 0)) ∧ Own encP 88 w' w.heap.size v m ∧ MapIs l m ∧ m.length ≤ l.length ∧ w.heap.size ≤ p ∧ Below w.heap.size w w' := by
  have hM := map_calls w u l h hl
  clear h
  go_enter Tryz.func29, Tryz.ntmps29
  go_wp2_with (first
    | (go_at_call 61; refine hM.mono ?_; clear hM; rintro e w1 ⟨v, m, rfl, h1, i1, l1, b1⟩
       have s1 := h1.slB
       obtain ⟨ad, cap, rfl, hcap, hmax, -, -⟩ := id s1))
  go_ret
  have BX : Below w1.heap.size w1 (w1.alloc (.cells #[.slice ad m.length cap] 123)) := (Below.refl _ w1).alloc (Nat.le_refl _) _
  exact ⟨_, _, m, rfl, heap_alloc_new _ _, h1.below BX, i1, l1, b1.size, b1.trans (BX.mono b1.size)⟩
/-- A base of pairs, block by block. -/
structure PlC (lim : Nat) (w : World) (p : Nat) (v : Value) (L : List Pa) (base : Nat) : Prop where
  blk : w.heap[p]? = some (.cells #[v] 123 (0, 0))
  own : Own encP 88 w base v L
  asc : Asc Pa.n L
  lo : p < lim
  lov : ∀ g, v.ownBlock = some g → g < lim
  le : lim ≤ w.heap.size
theorem PlC.kept {lim : Nat} {w w' : World} {p : Nat} {v : Value} {L : List Pa} {base : Nat} (h : PlC lim w p v L base) (hs : w.heap.size ≤ w'.heap.size) (hk : ∀ i, i = p ∨ v.ownBlock = some i → w'.heap[i]? = w.heap[i]?) : PlC lim w' p v L base :=
  ⟨(hk p (.inl rfl)).trans h.blk, h.own.same fun g hg => hk g (.inr hg), h.asc, h.lo, h.lov, Nat.le_trans h.le hs⟩
theorem PlC.mono {lim : Nat} {w w' : World} {p : Nat} {v : Value} {L : List Pa} {base : Nat} (h : PlC lim w p v L base) (b : Below lim w w') : PlC lim w' p v L base :=
  h.kept b.size fun i hi => b.block i (hi.elim (fun e => e ▸ h.lo) (h.lov i))
theorem PlC.inn {lim : Nat} {w : World} {p : Nat} {v : Value} {L : List Pa} {base : Nat} (h : PlC lim w p v L base) : PlIn w p v L := ⟨h.blk, h.own.slB, h.asc⟩
theorem PlC.of {w : World} {p : Nat} {v : Value} {L : List Pa} {base : Nat} (h1 : w.heap[p]? = some (.cells #[v] 123 (0, 0))) (h2 : Own encP 88 w base v L) (h3 : Asc Pa.n L) : PlC w.heap.size w p v L base :=
  ⟨h1, h2, h3, lt_of_block h1, fun g hg => (h2.lt g hg).2, Nat.le_refl _⟩
theorem plainC_base (lim p : Nat) (v : Value) (L : List Pa) (base : Nat) (hl : L.length ≤ 5000) : Baser lim noB (fun _ w => PlC lim w p v L base) (.iface 69 (.pointer (some ⟨p, 0, none⟩))) (plGe L) (fun s => (scanL s L, 0)) where
  get := ⟨216, _, plain_methG p, fun k w K h => (pget_calls w p v L K h.inn (by omega)).mono fun e w' q => ⟨by rw [plGe_v]; exact q.1, h.mono (q.2.mono h.le), frv_no q.2⟩⟩
  scan := ⟨218, _, plain_methS p, fun k w s h => (pscan_calls w p v L s h.inn (by omega)).mono fun e w' q => by
    obtain ⟨u, e1, o1, b1⟩ := q
    exact ⟨u, e1, o1.slB, h.mono (b1.mono h.le), frv_no b1⟩⟩
  mono := fun k w w' h b => h.mono b
  down := fun k w h => h
  low := fun i h => h.elim
  size := fun k w h => h.le
  len := fun s => Nat.le_trans (scanL_len s L) hl
  ifc := ⟨_, _, rfl⟩

/-! A view as a base. -/
theorem view_methG (p : Nat) : Meth (.iface 24 (.pointer (some ⟨p, 0, none⟩))) "Get" 87 (.pointer (some ⟨p, 0, none⟩)) := fun w args => by
  exact meth_of (P := Tryz.prog) (fun w => by kernel_rfl) (fun args w => callFunc_go Tryz.func87 (by kernel_rfl) (by rfl) args w) w args
theorem view_methS (p : Nat) : Meth (.iface 24 (.pointer (some ⟨p, 0, none⟩))) "Scan" 75 (.pointer (some ⟨p, 0, none⟩)) := fun w args => by
  exact meth_of (P := Tryz.prog) (fun w => by kernel_rfl) (fun args w => callFunc_go Tryz.func75 (by kernel_rfl) (by rfl) args w) w args
section
variable {lim : Nat} {S : Nat → Prop} {I : Nat → World → Prop} {iv : Value} {ge : Kz → List UInt8 × Bool × Int} {sn : Sp → List Pa × Int}
/-- A view that may be asked K times, and has been asked some: what was read has grown. -/
def ViI (w0 : World) (lim : Nat) (I : Nat → World → Prop) (iv : Value) (q : Nat) (x : VR) (V : VS) (K lim' k : Nat) (w : World) : Prop :=
  k ≤ K ∧ lim' ≤ w.heap.size ∧ ∃ R, VAt w0 lim I k iv q { x with n := x.n + (K - k) } { V with R := R } w
theorem getW_R (V : VS) (R : List Sp) (J : Kz) : ∃ R', getW { V with R := R } J = { V with R := R' } := by
  unfold getW
  split
  · exact ⟨R, rfl⟩
  · exact ⟨_, rfl⟩
theorem view_base (D : Baser lim S I iv ge sn) (w0 : World) (q : Nat) (x : VR) (V : VS) (K lim' : Nat) (hK : x.n + K ≤ 5000) (hS : ∀ i, S i → w0.heap.size ≤ i) (hl : lim ≤ lim') (hx : ∀ i, x.own q i → i < lim') (hlen : ∀ s, (scanV V.C sn s).1.length ≤ 5000) :
    Baser lim' (fun i => x.own q i ∨ S i) (ViI w0 lim I iv q x V K lim') (.iface 24 (.pointer (some ⟨q, 0, none⟩))) (getV V.C ge) (scanV V.C sn) where
  get := ⟨87, _, view_methG q, fun k w J h => by
    obtain ⟨hk, hle, R, A⟩ := h
    refine (VAt.get D A hS (show x.n + (K - (k + 1)) ≤ 100000 by omega) J).mono fun e w' t => ?_
    obtain ⟨e1, t⟩ := t
    obtain ⟨R', hR'⟩ := getW_R V R J
    have ha := t.at_
    rw [hR'] at ha
    have en : x.n + (K - (k + 1)) + 1 = x.n + (K - k) := by omega
    have ha' : VAt w0 lim I k iv q { x with n := x.n + (K - (k + 1)) + 1 } { V with R := R' } w' := ha
    rw [en] at ha'
    exact ⟨e1, ⟨by omega, Nat.le_trans hle t.fr.size, R', ha'⟩, t.fr⟩⟩
  scan := ⟨75, _, view_methS q, fun k w s h => by
    obtain ⟨hk, hle, R, A⟩ := h
    refine (VAt.scan D A hS (show x.n + (K - (k + 1)) ≤ 5000 by omega) s).mono fun e w' t => ?_
    obtain ⟨ad, cap, e1, o1, t⟩ := t
    have ha := t.at_
    have en : x.n + (K - (k + 1)) + 1 = x.n + (K - k) := by omega
    have ha' : VAt w0 lim I k iv q { x with n := x.n + (K - (k + 1)) + 1 } { V with R := R ++ [s] } w' := ha
    rw [en] at ha'
    exact ⟨_, e1, o1.slB, ⟨by omega, Nat.le_trans hle t.fr.size, _, ha'⟩, t.fr⟩⟩
  mono := fun k w w' h b => by
    obtain ⟨hk, hle, R, A⟩ := h
    exact ⟨hk, Nat.le_trans hle b.size, R, A.vw.kept (fun i hi => b.block i (hx i hi)), D.mono _ _ _ A.base (b.mono hl), A.own, A.bel.trans (b.mono (Nat.le_trans A.le hl)), A.le, Nat.le_trans A.limy b.size⟩
  down := fun k w h => by
    obtain ⟨hk, hle, R, A⟩ := h
    exact ⟨by omega, hle, R, A.vw.up (x.n + (K - k)) (show x.n + (K - (k + 1)) ≤ x.n + (K - k) by omega), D.down _ _ A.base, A.own, A.bel, A.le, A.limy⟩
  low := fun i h => h.elim (hx i) (fun e => Nat.lt_of_lt_of_le (D.low i e) hl)
  size := fun k w h => h.2.1
  len := hlen
  ifc := ⟨_, _, rfl⟩
theorem ViI.start {w0 : World} {q : Nat} {x : VR} {V : VS} {K lim' : Nat} {w : World} (h : VAt w0 lim I K iv q x V w) (hl : lim' ≤ w.heap.size) : ViI w0 lim I iv q x V K lim' K w := by
  refine ⟨Nat.le_refl _, hl, V.R, ?_⟩
  rw [Nat.sub_self]
  exact h
/-- A view beside what was changed. -/
theorem VAt.aside {w0 y y' : World} {k q : Nat} {x : VR} {V : VS} {T : Nat → Prop} (h : VAt w0 lim I k iv q x V y) (f : FrV T y y') (hT : ∀ i, T i → w0.heap.size ≤ i ∧ ¬ x.own q i) (hI : I k y') : VAt w0 lim I k iv q x V y' :=
  ⟨h.vw.kept (fun i hi => f.block i (h.vw.lt hi) (fun e => (hT i e).2 hi)), hI, h.own, h.bel.trans (f.below (fun i e => (hT i e).1) (Nat.le_trans h.le h.limy)), h.le, Nat.le_trans h.limy f.size⟩
theorem ViI.aside {w0 y y' : World} {K lim' k q : Nat} {x : VR} {V : VS} {T : Nat → Prop} (h : ViI w0 lim I iv q x V K lim' k y) (f : FrV T y y') (hT : ∀ i, T i → w0.heap.size ≤ i ∧ ¬ x.own q i) (hI : I k y → I k y') : ViI w0 lim I iv q x V K lim' k y' := by
  obtain ⟨hk, hle, R, A⟩ := h
  exact ⟨hk, Nat.le_trans hle f.size, R, A.aside f hT (hI A.base)⟩
end

/-! What a view over a view tells. -/
/-- C3 is C1 with C2 over it. -/
structure OverIs (C1 C2 C3 : List Ch) : Prop where
  a1 : Asc Ch.n C1
  a2 : Asc Ch.n C2
  a3 : Asc Ch.n C3
  is : ∀ x, look Ch.n C3 x = (look Ch.n C2 x).or (look Ch.n C1 x)
theorem OverIs.start {C : List Ch} (h : Asc Ch.n C) : OverIs C [] C := ⟨h, List.Pairwise.nil, h, fun _ => rfl⟩
theorem OverIs.change {C1 C2 C3 : List Ch} (h : OverIs C1 C2 C3) (c : Ch) : OverIs C1 (putA Ch.n C2 c) (putA Ch.n C3 c) :=
  ⟨h.a1, putA_asc Ch.n c h.a2, putA_asc Ch.n c h.a3, fun x => by
    rw [putA_look Ch.n c x h.a2, putA_look Ch.n c x h.a3, h.is x]
    split <;> rfl⟩
theorem OverIs.doV {C1 : List Ch} {V2 V3 : VS} (h : OverIs C1 V2.C V3.C) (o : Vo) : OverIs C1 (doV V2 o).C (doV V3 o).C := by
  unfold Go.Proofs.YtgicanpggndbeaaGreat.doV
  split
  · split
    · exact h.change _
    · exact h
  · exact h.change _
theorem OverIs.steps {C1 : List Ch} (ops : List Vo) {V2 V3 : VS} (h : OverIs C1 V2.C V3.C) : OverIs C1 (ops.foldl Go.Proofs.YtgicanpggndbeaaGreat.doV V2).C (ops.foldl Go.Proofs.YtgicanpggndbeaaGreat.doV V3).C := by
  induction ops generalizing V2 V3 with
  | nil => exact h
  | cons o r ih => exact ih (h.doV o)
theorem scan_over {C1 C2 C3 : List Ch} (h : OverIs C1 C2 C3) (m : List Pa) (s : Sp) : scanV C2 (scanV C1 (fun s => (scanL s m, 0))) s = scanV C3 (fun s => (scanL s m, 0)) s := by
  have e1 : scanV C1 (fun s => (scanL s m, 0)) s = (applyL (scanL s m) (inL C1 s), 0) := rfl
  have e3 : scanV C3 (fun s => (scanL s m, 0)) s = (applyL (scanL s m) (inL C3 s), 0) := rfl
  have e2 : scanV C2 (scanV C1 (fun s => (scanL s m, 0))) s = (applyL (scanV C1 (fun s => (scanL s m, 0)) s).1 (inL C2 s), 0) := rfl
  rw [e2, e3, e1]
  refine congrArg (·, (0 : Int)) (asc_ext Pa.n (applyL_is _ _).1 (applyL_is _ _).1 fun x => ?_)
  rw [(applyL_is _ _).2, (applyL_is _ _).2, (applyL_is _ _).last, lastA_asc Ch.n (inL_asc h.a2 s), lastA_asc Ch.n (inL_asc h.a3 s), lastA_asc Ch.n (inL_asc h.a1 s), look_filter, look_filter, look_filter, h.is x]
  by_cases hb : s.inb x = true
  · rw [if_pos hb, if_pos hb, if_pos hb]
    cases look Ch.n C2 x <;> rfl
  · rw [if_neg hb, if_neg hb, if_neg hb]
    rfl
theorem applyL_len (l : List Pa) (c : List Ch) : (applyL l c).length ≤ l.length + c.length := by
  have h1 : ∀ (l m : List Pa), (l.foldl (putA Pa.n) m).length ≤ m.length + l.length := by
    intro l
    induction l with
    | nil => intro m; exact Nat.le_refl _
    | cons a r ih =>
      intro m
      rw [List.foldl_cons, List.length_cons]
      have := ih (putA Pa.n m a)
      have := putA_len Pa.n m a
      omega
  have h2 : ∀ (c : List Ch) (m : List Pa), (c.foldl stepA m).length ≤ m.length + c.length := by
    intro c
    induction c with
    | nil => intro m; exact Nat.le_refl _
    | cons a r ih =>
      intro m
      rw [List.foldl_cons, List.length_cons]
      have := ih (stepA m a)
      have : (stepA m a).length ≤ m.length + 1 := by
        unfold stepA
        split
        · have := delA_len Pa.n m a.n
          omega
        · exact putA_len Pa.n m a.pa
      omega
  have := h2 c (l.foldl (putA Pa.n) [])
  have := h1 l []
  simp only [List.length_nil] at this
  unfold applyL
  omega
theorem scanV_len (C : List Ch) (m : List Pa) (hm : m.length ≤ 100) (hC : C.length ≤ 100) (s : Sp) : (scanV C (fun s => (scanL s m, 0)) s).1.length ≤ 5000 := by
  have e1 : scanV C (fun s => (scanL s m, 0)) s = (applyL (scanL s m) (inL C s), 0) := rfl
  rw [e1]
  have := applyL_len (scanL s m) (inL C s)
  have := scanL_len s m
  have : (inL C s).length ≤ C.length := List.length_filter_le _ _
  show (applyL (scanL s m) (inL C s)).length ≤ 5000
  omega
end Go.Proofs.YtgicanpggndbeaaGreat
/- What keys say and how they are ordered: plain mathematics. -/
namespace Go.Proofs.YtgicanpggndbeaaGreat
set_option linter.unusedVariables false
set_option maxRecDepth 100000
open Go.RowKit

theorem be4 (n : Nat) : be n 4 = [UInt8.ofNat (n / 256 ^ 3), UInt8.ofNat (n / 256 ^ 2), UInt8.ofNat (n / 256 ^ 1), UInt8.ofNat (n / 256 ^ 0)] := rfl
theorem num_be4 (n : Nat) (h : n < 4294967296) : num [UInt8.ofNat (n / 256 ^ 3), UInt8.ofNat (n / 256 ^ 2), UInt8.ofNat (n / 256 ^ 1), UInt8.ofNat (n / 256 ^ 0)] = n := by
  rw [← be4]
  exact num_be 4 n (by rw [p4]; exact h)
theorem pIno_of (n : Nat) (h : n < 4294967296) (r : List UInt8) : pIno (be n 4 ++ r) = n := by
  show ((num [_, _, _, _] : Nat) : Int) = n
  exact congrArg _ (num_be4 n h)
theorem pKind_of (n : Nat) (k : UInt8) (r : List UInt8) : pKind (be n 4 ++ k :: r) = k.toNat := rfl

theorem okN_lt {n : Int} (h : okN n = true) : 0 ≤ n ∧ n.toNat < 4294967296 ∧ ((n.toNat : Nat) : Int) = n := by
  have : 1 ≤ n ∧ n < 1073741824 := of_decide_eq_true h
  omega
theorem okP_lt {n : Int} (h : okP n = true) : 0 ≤ n ∧ n.toNat < 4294967296 ∧ ((n.toNat : Nat) : Int) = n := by
  have : 0 ≤ n ∧ n ≤ 4294967295 := of_decide_eq_true h
  omega
theorem okS_out {s : List UInt8} (h : okS s = true) : 1 ≤ s.length ∧ s.length ≤ 18 ∧ (0 : UInt8) ∉ s := of_decide_eq_true h

theorem head_says {n : Int} (h : okN n = true) (k : UInt8) : pIno (headK n.toNat k) = n ∧ pKind (headK n.toNat k) = k.toNat := by
  obtain ⟨h0, h1, h2⟩ := okN_lt h
  exact ⟨by rw [headK, pIno_of _ h1, h2], pKind_of _ _ _⟩
theorem chunk_says {n p : Int} (h : okN n = true) (hp : okP p = true) : pIno (chunkK n.toNat p.toNat) = n ∧ pKind (chunkK n.toNat p.toNat) = 3 ∧ pPlace (chunkK n.toNat p.toNat) = p := by
  obtain ⟨h0, h1, h2⟩ := okN_lt h
  obtain ⟨q0, q1, q2⟩ := okP_lt hp
  refine ⟨by rw [chunkK, pIno_of _ h1, h2], pKind_of _ _ _, ?_⟩
  have : pPlace (chunkK n.toNat p.toNat) = ((num [UInt8.ofNat (p.toNat / 256 ^ 3), UInt8.ofNat (p.toNat / 256 ^ 2), UInt8.ofNat (p.toNat / 256 ^ 1), UInt8.ofNat (p.toNat / 256 ^ 0)] : Nat) : Int) := rfl
  rw [this, num_be4 _ q1, q2]
theorem entry_last (n : Nat) (s : List UInt8) (h : s.length ≤ 18) : (entryK n s).getD 23 0 = UInt8.ofNat s.length := by
  have e : entryK n s = (be n 4 ++ 2 :: (s ++ zs (18 - s.length))) ++ [UInt8.ofNat s.length] := by simp [entryK]
  rw [e, List.getD, List.getElem?_append_right (by simp [be_length, zs_length]; omega)]
  have : 23 - (be n 4 ++ 2 :: (s ++ zs (18 - s.length))).length = 0 := by simp [be_length, zs_length]; omega
  rw [this]
  rfl
theorem entry_nm (n : Nat) (s : List UInt8) (h : s.length ≤ 18) : nm (entryK n s) = s := by
  have h1 : nmLen (entryK n s) = s.length := by
    rw [nmLen, entry_last n s h, UInt8.toNat_ofNat']
    omega
  have h2 : (entryK n s).drop 5 = s ++ zs (18 - s.length) ++ [UInt8.ofNat s.length] := rfl
  rw [nm, h1, h2, List.append_assoc, List.take_left']
  rfl
theorem entry_says {n : Int} {s : List UInt8} (h : okN n = true) (hs : okS s = true) : pIno (entryK n.toNat s) = n ∧ pKind (entryK n.toNat s) = 2 ∧ pName (entryK n.toNat s) = s := by
  obtain ⟨h0, h1, h2⟩ := okN_lt h
  have hk : pKind (entryK n.toNat s) = 2 := pKind_of _ _ _
  refine ⟨by rw [entryK, pIno_of _ h1, h2], hk, ?_⟩
  rw [pName, if_pos hk, entry_nm _ _ (okS_out hs).2.1]

/-! Keys that are made say what they are made of. -/
theorem inode_right {n : Int} (h : okN n = true) : right (inodeR n) = true ∧ ofV (inodeR n) = pv n 1 [] 0 := by
  have e : inodeR n = headK n.toNat 1 := by rw [inodeR, if_pos h]
  obtain ⟨h1, h2⟩ := head_says h 1
  have h2 : pKind (headK n.toNat 1) = 1 := h2
  have hN : pName (headK n.toNat 1) = [] := by rw [pName, h2]; rfl
  have hP : pPlace (headK n.toNat 1) = 0 := by rw [pPlace, h2]; rfl
  have hr : right (headK n.toNat 1) = true := by
    rw [right, h1, h2, hN, hP]
    simp [madeB, madeK, h, inodeR]
  rw [e]
  refine ⟨hr, ?_⟩
  rw [ofV, if_pos hr, h1, h2, hN, hP]
theorem entry_right {n : Int} {s : List UInt8} (h : okN n = true) (hs : okS s = true) : right (entryR n s) = true ∧ ofV (entryR n s) = pv n 2 s 0 := by
  have e : entryR n s = entryK n.toNat s := by rw [entryR, h, hs]; rfl
  obtain ⟨h1, h2, h3⟩ := entry_says h hs
  have hP : pPlace (entryK n.toNat s) = 0 := by rw [pPlace, h2]; rfl
  have hr : right (entryK n.toNat s) = true := by
    rw [right, h1, h2, h3, hP]
    simp [madeB, madeK, h, hs, entryR]
  rw [e]
  refine ⟨hr, ?_⟩
  rw [ofV, if_pos hr, h1, h2, h3, hP]
theorem chunk_right {n p : Int} (h : okN n = true) (hp : okP p = true) : right (chunkR n p) = true ∧ ofV (chunkR n p) = pv n 3 [] p := by
  have e : chunkR n p = chunkK n.toNat p.toNat := by rw [chunkR, h, hp]; rfl
  obtain ⟨h1, h2, h3⟩ := chunk_says h hp
  have hN : pName (chunkK n.toNat p.toNat) = [] := by rw [pName, h2]; rfl
  have hr : right (chunkK n.toNat p.toNat) = true := by
    rw [right, h1, h2, h3, hN]
    simp [madeB, madeK, h, hp, chunkR]
  rw [e]
  refine ⟨hr, ?_⟩
  rw [ofV, if_pos hr, h1, h2, h3, hN]

theorem entry_inj {a b : Int} {s t : List UInt8} (ha : okN a = true) (hs : okS s = true) (hb : okN b = true) (ht : okS t = true) : (entryR a s == entryR b t) = (a == b && s == t) := by
  have ea : entryR a s = entryK a.toNat s := by rw [entryR, ha, hs]; rfl
  have eb : entryR b t = entryK b.toNat t := by rw [entryR, hb, ht]; rfl
  obtain ⟨p1, p2, p3⟩ := entry_says ha hs
  obtain ⟨q1, q2, q3⟩ := entry_says hb ht
  rw [Bool.eq_iff_iff]
  simp only [beq_iff_eq, Bool.and_eq_true]
  constructor
  · intro h
    rw [ea, eb] at h
    rw [h] at p1 p3
    exact ⟨p1.symm.trans q1, p3.symm.trans q3⟩
  · rintro ⟨rfl, rfl⟩
    rfl
theorem chunk_inj {a b p q : Int} (ha : okN a = true) (hp : okP p = true) (hb : okN b = true) (hq : okP q = true) : (chunkR a p == chunkR b q) = (a == b && p == q) := by
  have ea : chunkR a p = chunkK a.toNat p.toNat := by rw [chunkR, ha, hp]; rfl
  have eb : chunkR b q = chunkK b.toNat q.toNat := by rw [chunkR, hb, hq]; rfl
  obtain ⟨p1, p2, p3⟩ := chunk_says ha hp
  obtain ⟨q1, q2, q3⟩ := chunk_says hb hq
  rw [Bool.eq_iff_iff]
  simp only [beq_iff_eq, Bool.and_eq_true]
  constructor
  · intro h
    rw [ea, eb] at h
    rw [h] at p1 p3
    exact ⟨p1.symm.trans q1, p3.symm.trans q3⟩
  · rintro ⟨rfl, rfl⟩
    rfl
theorem inode_inj {a b : Int} (ha : okN a = true) (hb : okN b = true) : (inodeR a == inodeR b) = (a == b) := by
  have ea : inodeR a = headK a.toNat 1 := by rw [inodeR, if_pos ha]
  have eb : inodeR b = headK b.toNat 1 := by rw [inodeR, if_pos hb]
  obtain ⟨p1, p2⟩ := head_says ha 1
  obtain ⟨q1, q2⟩ := head_says hb 1
  rw [Bool.eq_iff_iff]
  simp only [beq_iff_eq]
  constructor
  · intro h
    rw [ea, eb] at h
    rw [h] at p1
    exact p1.symm.trans q1
  · rintro rfl
    rfl
theorem kinds_apart {K L : List UInt8} {i j : Int} (hK : pKind K = i) (hL : pKind L = j) (h : i ≠ j) : (K == L) = false := by
  rw [beq_eq_false_iff_ne]
  intro e
  subst e
  exact h (hK.symm.trans hL)
theorem entry_chunk {a b p : Int} {s : List UInt8} (ha : okN a = true) (hs : okS s = true) (hb : okN b = true) (hp : okP p = true) : (entryR a s == chunkR b p) = false := by
  rw [show entryR a s = entryK a.toNat s by rw [entryR, ha, hs]; rfl, show chunkR b p = chunkK b.toNat p.toNat by rw [chunkR, hb, hp]; rfl]
  exact kinds_apart (entry_says ha hs).2.1 (chunk_says hb hp).2.1 (by decide)
theorem entry_inode {a b : Int} {s : List UInt8} (ha : okN a = true) (hs : okS s = true) (hb : okN b = true) : (entryR a s == inodeR b) = false := by
  rw [show entryR a s = entryK a.toNat s by rw [entryR, ha, hs]; rfl, show inodeR b = headK b.toNat 1 by rw [inodeR, if_pos hb]]
  exact kinds_apart (entry_says ha hs).2.1 (head_says hb 1).2 (by decide)
theorem chunk_inode {a b p : Int} (ha : okN a = true) (hp : okP p = true) (hb : okN b = true) : (chunkR a p == inodeR b) = false := by
  rw [show chunkR a p = chunkK a.toNat p.toNat by rw [chunkR, ha, hp]; rfl, show inodeR b = headK b.toNat 1 by rw [inodeR, if_pos hb]]
  exact kinds_apart (chunk_says ha hp).2.1 (head_says hb 1).2 (by decide)
end Go.Proofs.YtgicanpggndbeaaGreat
/- dir: a view over nothing, and dir's calls on it; the statements' shown. -/
namespace Go.Proofs.YtgicanpggndbeaaGreat
set_option linter.unusedVariables false
set_option maxRecDepth 100000
open Go.RowKit

/-- A view over nothing. -/
abbrev NI (lim p : Nat) (pv : Value) (base : Nat) : Nat → World → Prop := fun _ w => PlC lim w p pv [] base
abbrev nI (p : Nat) : Value := .iface 69 (.pointer (some ⟨p, 0, none⟩))
abbrev nSn : Sp → List Pa × Int := fun s => (scanL s [], 0)
theorem ni_base (lim p : Nat) (pv : Value) (base : Nat) : Baser lim noB (NI lim p pv base) (nI p) (plGe []) nSn := plainC_base lim p pv [] base (Nat.zero_le _)
set_option maxHeartbeats 4000000 in
theorem vnewNil_calls (w0 y : World) (hb : Below w0.heap.size w0 y) :
    Calls Tryz.prog 8 #[.nilIface] y fun e y' => ∃ lim p pv base q x, e = .returned (.pointer (some ⟨q, 0, none⟩)) ∧ VAt w0 lim (NI lim p pv base) 9 (nI p) q x vs0 y' ∧ x.n = 0 ∧ (∀ i, x.own q i → y.heap.size ≤ i) ∧ y.heap.size ≤ p ∧ (∀ g, pv.ownBlock = some g → y.heap.size ≤ g) ∧ (∀ i, x.own q i → i ≠ p ∧ pv.ownBlock ≠ some i) ∧ Below y.heap.size y y' := by
  have hN := newPlainO_calls y (.slice none 0 0) [] (SlB.nil _ _ _) (Nat.zero_le _)
  have hmm := @run_makeMap Tryz.prog
  have HB : Hid (Below w0.heap.size w0 y) := hb
  clear hb
  go_enter Tryz.func8, Tryz.ntmps8
  go_upto_region 3 with (go_at_call 29; refine hN.mono ?_; clear hN; rintro e z ⟨p, pv, m, rfl, hp, ho, hm, hl, hpl, b⟩)
  have hm0 : m = [] := List.eq_nil_of_length_eq_zero (Nat.le_zero.1 hl)
  subst hm0
  have HP : Hid (PlC z.heap.size z p pv [] y.heap.size ∧ y.heap.size ≤ p ∧ Below y.heap.size y z) := ⟨PlC.of hp ho hm.1, hpl, b⟩
  have HV := vnew_in z (nI p)
  clear hp ho hm hl hpl b
  go_wp2_with fail
  go_ret
  obtain ⟨q1, q2, q3⟩ := HV _ rfl
  have hz := HP.out.2.2.size
  have hown : ∀ i, (⟨z.heap.size, z.heap.size + 1, .slice none 0 0, [], 0⟩ : VR).own (z.heap.size + 2) i → z.heap.size ≤ i := fun i hi => by
    rcases hi with rfl | rfl | rfl | hi | hi
    · show z.heap.size ≤ z.heap.size + 2
      omega
    · exact Nat.le_refl _
    · show z.heap.size ≤ z.heap.size + 1
      omega
    · cases hi
    · cases hi
  refine ⟨z.heap.size, p, pv, y.heap.size, _, _, rfl, ⟨q1, HP.out.1.mono q2, hown, HB.out.trans ((HP.out.2.2.trans (q2.mono hz)).mono HB.out.size), Nat.le_trans HB.out.size hz, q2.size⟩, rfl, fun i hi => Nat.le_trans hz (hown i hi), HP.out.2.1, fun g hg => (HP.out.1.own.lt g hg).1, fun i hi => ⟨fun e => ?_, fun e => ?_⟩, HP.out.2.2.trans (q2.mono hz)⟩
  · have := hown i hi
    have := HP.out.1.lo
    omega
  · have := hown i hi
    have := HP.out.1.lov i e
    omega
end Go.Proofs.YtgicanpggndbeaaGreat
