import Derived.Test.YtbbelhkdpmcoeaaGreatB07
import Derived.Test.YtbbelhkdpmcoeaaGreatB22
/- The key behind a key, the span of one key. -/
namespace Go.Proofs.YtbbelhkdpmcoeaaGreat
set_option linter.unusedVariables false
set_option maxRecDepth 100000
open Go.RowKit

/-- The least key above one: the bytes from place i down are counted on. -/
def nxt (K : List UInt8) : Nat → List UInt8 × Bool
  | 0 => (K, false)
  | i + 1 => if K.getD i 0 + 1 = 0 then nxt (K.set i 0) i else (K.set i (K.getD i 0 + 1), true)
theorem nxt_length (K : List UInt8) : ∀ i, (nxt K i).1.length = K.length := by
  intro i
  induction i generalizing K with
  | zero => rfl
  | succ i ih =>
    rw [nxt]
    split
    · rw [ih]; simp
    · simp
theorem u8_next (x : UInt8) : IntKind.u8.wrap ((x.toNat : Int) + 1) = (((x + 1).toNat : Nat) : Int) := by
  rw [IntKind.wrap_u8]
  simp [UInt8.toNat_add]
theorem u8_zero (x : UInt8) : ((x.toNat : Nat) : Int) = 0 ↔ x = 0 := by
  rw [← UInt8.toNat_inj]
  simp

theorem u8_back {x : UInt8} (h : x + 1 = 0) : x = 255 := by
  have h1 : (x + 1).toNat = 0 := by rw [h]; rfl
  rw [UInt8.toNat_add, show (1 : UInt8).toNat = 1 from rfl] at h1
  have h2 := x.toNat_lt
  exact UInt8.toNat_inj.1 (show x.toNat = 255 by omega)
theorem u8_less {x : UInt8} (h : ¬ x + 1 = 0) : (x.toNat : Int) < 255 := by
  have h1 := x.toNat_lt
  have h2 : x.toNat ≠ 255 := fun e => h (by
    have : x = 255 := UInt8.toNat_inj.1 (by rw [e]; rfl)
    subst this
    rfl)
  omega
theorem u8_plus {x : UInt8} (h : ¬ x + 1 = 0) : (((x + 1).toNat : Nat) : Int) = (x.toNat : Int) + 1 := by
  have := u8_less h
  rw [UInt8.toNat_add]
  have e : (1 : UInt8).toNat = 1 := rfl
  rw [e]
  omega
set_option maxRecDepth 100000 in
set_option maxHeartbeats 2000000 in
theorem after_calls (w : World) (K : List UInt8) (hK : K.length = 24) :
    Calls Tryz.prog 66 #[kv K] w fun e w' => e = .returned (.tuple #[kv (nxt K 24).1, .bool (nxt K 24).2]) ∧ Below w.heap.size w w' := by
  have h1 : Has ((w.alloc (.cells (bc K).toArray 29)).alloc (.cells (bc (zs 24)).toArray 29)) w.heap.size K := (Has.new w K hK).alloc _
  have h2 : Has ((w.alloc (.cells (bc K).toArray 29)).alloc (.cells (bc (zs 24)).toArray 29)) (w.heap.size + 1) (zs 24) := by have := Has.new (w.alloc (.cells (bc K).toArray 29)) (zs 24) rfl; simpa using this
  have B1 : Below w.heap.size w ((w.alloc (.cells (bc K).toArray 29)).alloc (.cells (bc (zs 24)).toArray 29)) := below_made (below_made (Below.refl _ w) (Nat.le_refl _) _) (Nat.le_refl _) _
  go_enter Tryz.func66, Tryz.ntmps66
  go_wp2
  go_loopw [4] (fun i w' => ∃ (j : Nat) (L : List UInt8), j ≤ 24 ∧ i = .int .i64 ((j : Int) - 1) ∧ Has w' w.heap.size L ∧ Has w' (w.heap.size + 1) (zs 24) ∧ Below w.heap.size w w' ∧ nxt L j = nxt K 24) (fun i _ => (intOf i + 1).toNat)
  case atStart => exact ⟨24, K, by omega, rfl, h1, h2, B1, rfl⟩
  case round =>
    obtain ⟨j, L, hj, rfl, h3, h4, B3, hn⟩ := hrel
    have HN : Hid (nxt L j = nxt K 24) := hn
    clear hn h1 h2 B1
    by_cases hj0 : j = 0
    · subst hj0
      go_wp2_with (first
        | (refine load_key _ rfl _ rfl rfl _ h3 ?_)
        | (refine store_key rfl _ _ rfl _ rfl _ rfl h3.len _ h4 ?_; intro w5 h5 t5 s5))
      refine ret_key_ok rfl _ _ _ rfl rfl h5 rfl ⟨by rw [← HN.out]; rfl, below_touched B3 t5 (by omega) (Nat.le_refl _)⟩
    · obtain ⟨i, rfl⟩ : ∃ i, j = i + 1 := ⟨j - 1, by omega⟩
      have c1 := h3.cell i (by omega)
      have f1 := h3.free i
      have e1 : ((i + 1 : Nat) : Int) - 1 = (i : Int) := by omega
      rw [e1]
      rw [nxt] at HN
      by_cases hx : L.getD i 0 + 1 = 0
      · have hx1 : (L.getD i 0).toNat = 255 := by rw [u8_back hx]; rfl
        rw [if_pos hx] at HN
        rw [hx1] at c1
        have h5 := h3.setCell i 0
        go_wp2
        go_roundw
        case rel => exact ⟨i, L.set i 0, by omega, by go_num, h5, h4.setOther (by omega) _ _, B3.setCell (by simp) _, HN.out⟩
        case measure => simp [intOf]
      · rw [if_neg hx] at HN
        have hx1 := u8_less hx
        have h5 := h3.setCell i (L.getD i 0 + 1)
        rw [u8_plus hx] at h5
        have HX : Hid (¬ L.getD i 0 + 1 = 0) := hx
        clear hx
        have hl5 := h5.len
        generalize L.set i (L.getD i 0 + 1) = L5 at h5 HN hl5
        generalize L.getD i 0 = x at *
        go_wp2_with (first
          | (refine load_key _ rfl _ rfl rfl _ h5 ?_)
          | (refine store_key rfl _ _ rfl _ rfl _ rfl hl5 _ (h4.setOther (by omega) _ _) ?_; intro w6 h6 t6 s6))
        refine ret_key_ok rfl _ _ _ rfl rfl h6 rfl ⟨by rw [← HN.out]; rfl, below_touched (B3.setCell (by simp) _) t6 (by omega) (Nat.le_refl _)⟩

def oneT (K : List UInt8) : List UInt8 := (nxt K 24).1
def oneE (K : List UInt8) : Bool := !(nxt K 24).2
theorem oneT_length (K : List UInt8) (h : K.length = 24) : (oneT K).length = 24 := by rw [oneT, nxt_length, h]
set_option maxHeartbeats 2000000 in
theorem one_calls (w : World) (K : List UInt8) (hK : K.length = 24) :
    Calls Tryz.prog 44 #[kv K] w fun e w' => e = .returned (sv K (oneT K) (oneE K)) ∧ Below w.heap.size w w' := by
  have hT := oneT_length K hK
  have h1 : Has ((w.alloc (.cells (bc K).toArray 29)).alloc (.cells (sc (zs 24) (zs 24) false).toArray 44)) w.heap.size K := (Has.new w K hK).alloc _
  have h2 : HasS ((w.alloc (.cells (bc K).toArray 29)).alloc (.cells (sc (zs 24) (zs 24) false).toArray 44)) (w.heap.size + 1) (zs 24) (zs 24) false := by exact zero_hasS _ _ (by simp)
  have B1 : Below w.heap.size w ((w.alloc (.cells (bc K).toArray 29)).alloc (.cells (sc (zs 24) (zs 24) false).toArray 44)) := below_made (below_made (Below.refl _ w) (Nat.le_refl _) _) (Nat.le_refl _) _
  go_enter Tryz.func44, Tryz.ntmps44
  go_wp2_with (first
    | (refine build3 rfl _ _ _ rfl _ _ _ rfl rfl rfl hK hT ?_)
    | (refine store_span rfl _ _ rfl _ rfl _ _ _ rfl hK hT (zs 24) (zs 24) false ((h4.alloc _).touch t4 (by have := h4.lt; omega)) ?_; intro w7 h7 t7 s7)
    | (refine load_key _ rfl w.heap.size rfl rfl _ h5 ?_)
    | (refine load_key _ rfl w3.heap.size rfl rfl _ h6 ?_)
    | (refine load_key _ rfl _ rfl rfl _ h1 ?_)
    | (go_at_call 66; refine (after_calls _ K hK).mono ?_; rintro e w3 ⟨rfl, b3⟩; have h3 := h1.below b3 h1.lt; have h4 := h2.below b3 h2.lt)
    | (refine store_key rfl _ _ rfl _ rfl _ rfl hT (zs 24) (zero_has w3 w3.heap.size rfl) ?_; intro w4 h6 t4 s4; have h5 := (h3.alloc (.cells #[.int .u8 0, .int .u8 0, .int .u8 0, .int .u8 0, .int .u8 0, .int .u8 0, .int .u8 0, .int .u8 0, .int .u8 0, .int .u8 0, .int .u8 0, .int .u8 0, .int .u8 0, .int .u8 0, .int .u8 0, .int .u8 0, .int .u8 0, .int .u8 0, .int .u8 0, .int .u8 0, .int .u8 0, .int .u8 0, .int .u8 0, .int .u8 0] 29)).touch t4 (by have := h3.lt; omega)))
  refine ret_span rfl _ _ _ _ rfl h7 rfl ⟨rfl, ?_⟩
  exact below_touched (below_touched (below_made (below_called B1 b3 (Nat.le_refl _)) (Nat.le_refl _) _) t4 (by have := h3.lt; omega) (Nat.le_refl _)) t7 (by omega) (Nat.le_refl _)
end Go.Proofs.YtbbelhkdpmcoeaaGreat
/- Bases: whoever answers Get and Scan; what a call on a view over one leaves. -/
namespace Go.Proofs.YtbbelhkdpmcoeaaGreat
set_option linter.unusedVariables false
set_option maxRecDepth 100000
open Go.RowKit

theorem wp_invoke1 {o : Oper} {a : Act} {w : World} {K : Act → World → Prop} {Q : Exit → Act → World → Prop} (r : Operand) (name : String) (x : Operand) (ty : TypeId) (ho : o.op = .call { callee := .invoke r name, args := #[x], argTypes := #[ty] })
    (iv : Value) (G : FuncId) (recv v : Value) (hr : a.eval r = iv) (hm : Meth iv name G recv) (hv : a.eval x = v) {R : Ending → World → Prop} (hc : Calls Tryz.prog G (#[recv] ++ #[v]) w R)
    (h : ∀ e w', R e w' → ∃ v, e = .returned v ∧ K (a.put o.dst v) w') : o.wp Tryz.prog a w K Q :=
  wp_invoke r name #[x] #[ty] ho iv G recv hr hm #[v] (by simp [hv]) hc h
/-- What Get of a base answers: a text, whether it is there, an error. -/
def gv (r : List UInt8 × Bool × Int) : Value := .tuple #[.string (str r.1), .bool r.2.1, .int .i64 r.2.2]
/-- Whoever is a base, that may be asked so many times more: it writes blocks of S alone. -/
structure Baser (lim : Nat) (S : Nat → Prop) (I : Nat → World → Prop) (iv : Value) (ge : Kz → List UInt8 × Bool × Int) (sn : Sp → List Pa × Int) : Prop where
  get : ∃ G recv, Meth iv "Get" G recv ∧ ∀ k w K, I (k + 1) w → Calls Tryz.prog G (#[recv] ++ #[kv K.k]) w fun e w' => e = .returned (gv (ge K)) ∧ I k w' ∧ FrV S w w'
  scan : ∃ G recv, Meth iv "Scan" G recv ∧ ∀ k w s, I (k + 1) w → Calls Tryz.prog G (#[recv] ++ #[spv s]) w fun e w' => ∃ v, e = .returned (.tuple #[v, .int .i64 (sn s).2]) ∧ Sl encP w' v (sn s).1 ∧ I k w' ∧ FrV S w w'
  mono : ∀ k w w', I k w → Below lim w w' → I k w'
  down : ∀ k w, I (k + 1) w → I k w
  low : ∀ i, S i → i < lim
  size : ∀ k w, I k w → lim ≤ w.heap.size
  len : ∀ s, (sn s).1.length ≤ 5000
  ifc : ∃ T rv, iv = .iface T rv
/-- No block. -/
def noB (_ : Nat) : Prop := False
theorem frv_no {w w' : World} (h : Below w.heap.size w w') : FrV noB w w' := FrV.of_below h

/-! A base of pairs. -/
def plGe (L : List Pa) (K : Kz) : List UInt8 × Bool × Int := match look Pa.n L K.n with
  | none => ([], false, 0)
  | some x => (x.v, true, 0)
theorem plGe_v (L : List Pa) (K : Kz) : gv (plGe L K) = gotV (look Pa.n L K.n) := by
  unfold plGe
  cases look Pa.n L K.n <;> rfl
theorem plain_methG (p : Nat) : Meth (.iface 26 (.pointer (some ⟨p, 0, none⟩))) "Get" 147 (.pointer (some ⟨p, 0, none⟩)) := fun w args => by
  exact meth_of (P := Tryz.prog) (fun w => by kernel_rfl) (fun args w => callFunc_go Tryz.func147 (by kernel_rfl) (by rfl) args w) w args
theorem plain_methS (p : Nat) : Meth (.iface 26 (.pointer (some ⟨p, 0, none⟩))) "Scan" 148 (.pointer (some ⟨p, 0, none⟩)) := fun w args => by
  exact meth_of (P := Tryz.prog) (fun w => by kernel_rfl) (fun args w => callFunc_go Tryz.func148 (by kernel_rfl) (by rfl) args w) w args
theorem plain_methL (p : Nat) : Meth (.iface 26 (.pointer (some ⟨p, 0, none⟩))) "Len" 9 (.pointer (some ⟨p, 0, none⟩)) := fun w args => by
  exact meth_of (P := Tryz.prog) (fun w => by kernel_rfl) (fun args w => callFunc_go Tryz.func9 (by kernel_rfl) (by rfl) args w) w args
/-- A base of pairs whose parts lie below lim. -/
structure PlB (lim : Nat) (w : World) (p : Nat) (v : Value) (L : List Pa) : Prop where
  pl : ∃ y, PlIn y p v L ∧ y.heap.size ≤ lim ∧ Below y.heap.size y w
  le : lim ≤ w.heap.size
theorem PlB.inn {lim : Nat} {w : World} {p : Nat} {v : Value} {L : List Pa} (h : PlB lim w p v L) : PlIn w p v L := by
  obtain ⟨y, h1, h2, h3⟩ := h.pl
  exact h1.called h3
theorem PlB.of {w : World} {p : Nat} {v : Value} {L : List Pa} (h : PlIn w p v L) : PlB w.heap.size w p v L := ⟨⟨w, h, Nat.le_refl _, Below.refl _ _⟩, Nat.le_refl _⟩
theorem PlB.mono {lim : Nat} {w w' : World} {p : Nat} {v : Value} {L : List Pa} (h : PlB lim w p v L) (b : Below lim w w') : PlB lim w' p v L := by
  obtain ⟨y, h1, h2, h3⟩ := h.pl
  exact ⟨⟨y, h1, h2, h3.trans (b.mono h2)⟩, Nat.le_trans h.le b.size⟩
theorem scanL_len (s : Sp) (L : List Pa) : (scanL s L).length ≤ L.length := List.length_filter_le _ _
theorem plain_base (lim p : Nat) (v : Value) (L : List Pa) (hl : L.length ≤ 5000) : Baser lim noB (fun _ w => PlB lim w p v L) (.iface 26 (.pointer (some ⟨p, 0, none⟩))) (plGe L) (fun s => (scanL s L, 0)) where
  get := ⟨147, _, plain_methG p, fun k w K h => (pget_calls w p v L K h.inn (by omega)).mono fun e w' q => ⟨by rw [plGe_v]; exact q.1, h.mono (q.2.mono h.le), frv_no q.2⟩⟩
  scan := ⟨148, _, plain_methS p, fun k w s h => (pscan_calls w p v L s h.inn (by omega)).mono fun e w' q => by
    obtain ⟨u, e1, o1, b1⟩ := q
    exact ⟨u, e1, o1.slB, h.mono (b1.mono h.le), frv_no b1⟩⟩
  mono := fun k w w' h b => h.mono b
  down := fun k w h => h
  low := fun i h => h.elim
  size := fun k w h => h.le
  len := fun s => Nat.le_trans (scanL_len s L) hl
  ifc := ⟨_, _, rfl⟩

/-! A view over a base. -/
/-- What a call on a view over a base leaves. -/
structure VGo (S : Nat → Prop) (w : World) (p : Nat) (iv : Value) (x : VR) (V : VS) (w' : World) (x' : VR) : Prop where
  vw : VwIn w' p iv x' V
  more : x'.n ≤ x.n + 4
  fr : FrV (fun i => x.own p i ∨ S i) w w'
  own : ∀ i, x'.own p i → x.own p i ∨ w.heap.size ≤ i
theorem VLeft.go {w w' : World} {p : Nat} {iv : Value} {x x' : VR} {V : VS} (h : VLeft w p iv x V w' x') (S : Nat → Prop) : VGo S w p iv x V w' x' :=
  ⟨h.vw, h.more, ⟨h.fr.bel, fun i hi hn => h.fr.block i hi (fun q => hn (.inl q))⟩, h.own⟩
/-- What the base has done leaves the view. -/
theorem VwIn.based {S : Nat → Prop} {lim : Nat} {w w' : World} {p : Nat} {iv : Value} {x : VR} {V : VS} (h : VwIn w p iv x V) (hf : FrV S w w') (hS : ∀ i, S i → i < lim) (ho : ∀ i, x.own p i → lim ≤ i) : VwIn w' p iv x V :=
  h.kept fun i hi => hf.block i (h.lt hi) (fun q => by have := hS i q; have := ho i hi; omega)
/-- A view is changed above lim alone. -/
theorem VLeft.above {lim : Nat} {w w' : World} {p : Nat} {iv : Value} {x x' : VR} {V : VS} (h : VLeft w p iv x V w' x') (ho : ∀ i, x.own p i → lim ≤ i) (hl : lim ≤ w.heap.size) : Below lim w w' := h.fr.below ho hl
/-- What Get tells. -/
def getV (C : List Ch) (ge : Kz → List UInt8 × Bool × Int) (K : Kz) : List UInt8 × Bool × Int := match look Ch.n C K.n with
  | some c => (c.v, !c.g, 0)
  | none => if (ge K).2.2 ≠ 0 ∨ (ge K).2.1 = false then ([], false, (ge K).2.2) else ((ge K).1, true, 0)
def oneSp (K : Kz) : Sp := ⟨K.k, oneT K.k, oneE K.k, K.h, oneT_length K.k K.h⟩
/-- What Get leaves. -/
def getW (V : VS) (K : Kz) : VS := if (look Ch.n V.C K.n).isSome = true then V else { V with R := V.R ++ [oneSp K] }
/-- What Get's regions hold. -/
structure GtV (y : World) (p q : Nat) (iv cv rv mv : Value) (J : Kz) : Prop where
  blk : y.heap[p]? = some (.cells #[iv, cv, rv, mv] 72 (0, 0))
  box : Has y q J.k
theorem GtV.key {y : World} {p q : Nat} {iv cv rv mv : Value} {J : Kz} (h : GtV y p q iv cv rv mv J) : y.rangeAt q 0 (bc J.k) := fun j v hv => by
  rw [Nat.zero_add, cell_of_row _ _ _ _ _ _ h.box.blk]
  simpa using hv
theorem GtV.cell0 {y : World} {p q : Nat} {iv cv rv mv : Value} {J : Kz} (h : GtV y p q iv cv rv mv J) : y.cell? ⟨p, 0, none⟩ = some iv := by rw [cell_of_row _ _ _ _ _ _ h.blk]; rfl
/-- What Scan's region holds. -/
structure ScV (y : World) (p q : Nat) (iv cv rv mv : Value) (s : Sp) : Prop where
  blk : y.heap[p]? = some (.cells #[iv, cv, rv, mv] 72 (0, 0))
  box : HasS y q s.F s.T s.e
theorem ScV.span {y : World} {p q : Nat} {iv cv rv mv : Value} {s : Sp} (h : ScV y p q iv cv rv mv s) : y.rangeAt q 0 (sc s.F s.T s.e) := fun j v hv => by
  rw [Nat.zero_add, cell_of_row _ _ _ _ _ _ h.box.blk]
  simpa using hv
theorem ScV.cell0 {y : World} {p q : Nat} {iv cv rv mv : Value} {s : Sp} (h : ScV y p q iv cv rv mv s) : y.cell? ⟨p, 0, none⟩ = some iv := by rw [cell_of_row _ _ _ _ _ _ h.blk]; rfl
end Go.Proofs.YtbbelhkdpmcoeaaGreat
