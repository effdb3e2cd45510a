import Derived.Test.YtdmindhjmjnagabGreatDoorB42
import Derived.Test.YtdmindhjmjnagabGreatDoorB32
import Derived.Test.YtdmindhjmjnagabGreatDoorB01
import Derived.OwnWalk
import Derived.Test.YtdmindhjmjnagabGreatDoorSi
/- How many changes a cut leaves; the pairs of files; what a cut to nothing leaves (mathematics). -/
namespace Go.Proofs.YtdmindhjmjnagabGreatDoor
set_option linter.unusedVariables false
set_option maxRecDepth 100000
open Go.RowKit

theorem putA_same (l : List Ch) (h : Asc Ch.n l) (c : Ch) (hc : (look Ch.n l c.n).isSome = true) : (putA Ch.n l c).length = l.length := by
  induction l with
  | nil => cases hc
  | cons a r ih =>
    obtain ⟨p1, p2⟩ := List.pairwise_cons.1 h
    unfold putA
    by_cases q : Ch.n a < Ch.n c
    · rw [if_pos q, List.length_cons, List.length_cons, ih p2 (by
        simp only [look] at hc
        rw [if_neg (by omega)] at hc
        exact hc)]
    · rw [if_neg q]
      by_cases e : Ch.n a = Ch.n c
      · rw [if_pos e]
        rfl
      · exfalso
        simp only [look] at hc
        rw [if_neg e, look_low Ch.n (fun b hb => by have := p1 b hb; omega)] at hc
        cases hc
theorem chAll_same (V : VS) (h : Asc Ch.n V.C) (l : List Pa) (hl : ∀ p ∈ l, (look Ch.n V.C p.n).isSome = true) : (chAll V l).C.length = V.C.length := by
  unfold chAll
  induction l generalizing V with
  | nil => rfl
  | cons p r ih =>
    rw [List.foldl_cons, ih (V.change (chgP p)) (putA_asc Ch.n _ h) (fun a ha => by
      show (look Ch.n (putA Ch.n V.C (chgP p)) a.n).isSome = true
      rw [putA_look Ch.n _ _ h]
      split
      · rfl
      · exact hl a (List.mem_cons_of_mem _ ha))]
    exact putA_same _ h _ (by rw [chgP_n]; exact hl p List.mem_cons_self)
theorem cutV_same {V : VS} (h : Asc Ch.n V.C) (ino size : Int) : (cutV V ino size).C.length = V.C.length := by
  unfold cutV
  refine chAll_same { V with R := V.R ++ [chsS ino (size / 32)] } h _ (fun p hp => ?_)
  unfold cutL at hp
  obtain ⟨x, hx, hxp⟩ := List.mem_filterMap.1 hp
  rw [(cutO_n hxp).1]
  unfold lives at hx
  obtain ⟨c, hc, rfl⟩ := List.mem_map.1 hx
  have hcm : c ∈ V.C := (List.mem_filter.1 (List.mem_filter.1 hc).1).1
  have := look_mem Ch.n h hcm
  show (look Ch.n V.C c.n).isSome = true
  rw [this]
  rfl
theorem pN_300 {off n : Nat} (h : n ≤ 300) : pN off n ≤ 11 := by
  unfold pN
  split <;> omega
/-! How long the lists are. -/
theorem change_U (V : VS) (hU : V.U = []) (c : Ch) : (V.change c).U = [] := by
  show keepU V.C V.U _ = []
  rw [hU]
  rfl
theorem chAll_U (V : VS) (hU : V.U = []) (l : List Pa) : (chAll V l).U = [] := by
  unfold chAll
  induction l generalizing V with
  | nil => exact hU
  | cons p r ih => exact ih _ (change_U V hU _)
theorem getW_U (V : VS) (K : Kz) : (getW V K).U = V.U := by unfold getW; split <;> rfl
theorem getW_Rlen (V : VS) (K : Kz) : (getW V K).R.length ≤ V.R.length + 1 := by
  unfold getW
  split
  · omega
  · simp
theorem getG_U (V : VS) (ino : Int) (off : Nat) (data : List UInt8) (pre : List Nat) : (getG V ino off data pre).U = V.U := by
  unfold getG
  induction pre generalizing V with
  | nil => rfl
  | cons a l ih =>
    rw [List.foldl_cons, ih]
    unfold gotF
    split
    · rfl
    · exact getW_U _ _
theorem getG_R (V : VS) (ino : Int) (off : Nat) (data : List UInt8) (pre : List Nat) : (getG V ino off data pre).R.length ≤ V.R.length + pre.length := by
  unfold getG
  induction pre generalizing V with
  | nil => simp
  | cons a l ih =>
    rw [List.foldl_cons, List.length_cons]
    have h := ih (gotF ino V (pcM off data.length a))
    have h2 : (gotF ino V (pcM off data.length a)).R.length ≤ V.R.length + 1 := by
      unfold gotF
      split
      · omega
      · exact getW_Rlen _ _
    omega
theorem writeV_U {V : VS} (hU : V.U = []) (ino : Int) (off : Nat) (data : List UInt8) : (writeV V (plGe []) ino off data).U = [] := by
  unfold writeV
  exact chAll_U _ (by rw [getG_U]; exact hU) _
theorem writeV_R (V : VS) (ino : Int) (off : Nat) (data : List UInt8) : (writeV V (plGe []) ino off data).R.length ≤ V.R.length + pN off data.length := by
  unfold writeV
  rw [chAll_R]
  have := getG_R V ino off data (List.range (pN off data.length))
  rw [List.length_range] at this
  exact this
theorem cutV_U {V : VS} (hU : V.U = []) (ino size : Int) : (cutV V ino size).U = [] := by
  unfold cutV
  exact chAll_U { V with R := V.R ++ [chsS ino (size / 32)] } hU _
theorem cutV_R (V : VS) (ino size : Int) : (cutV V ino size).R.length = V.R.length + 1 := by
  unfold cutV
  rw [chAll_R]
  simp
theorem most_of {V : VS} {k : Nat} (hU : V.U = []) (h1 : V.C.length ≤ k) (h2 : V.R.length ≤ k) : V.most k := ⟨h1, h2, by rw [hU]; exact Nat.zero_le _, fun L hL => by rw [hU] at hL; cases hL⟩
/-! Pairs of files. -/
theorem liveG {C : List Ch} (h : FileOk C) {x : Int} {p : Pa} (he : doneA (look Ch.n C x) none = some p) : ∃ (ino : Int) (pl : Nat), okN ino = true ∧ pl ≤ 4294967295 ∧ x = (keyC ino (pl : Int)).n ∧ vAt C ino (pl : Int) ≠ [] ∧ p = ⟨chunkR ino (pl : Int), chunkR_length _ _, vAt C ino (pl : Int)⟩ := by
  cases hl : look Ch.n C x with
  | none =>
    rw [hl] at he
    cases he
  | some c =>
    rw [hl] at he
    obtain ⟨hm, hn⟩ := look_key Ch.n hl
    obtain ⟨ino, pl, i1, i2, h2, _, h5⟩ := h.ok c hm
    have hpl : 0 ≤ pl ∧ pl ≤ 4294967295 := by unfold okP at i2; simp at i2; omega
    obtain ⟨pn, rfl⟩ := Int.eq_ofNat_of_zero_le hpl.1
    unfold doneA at he
    cases hg : c.g with
    | true =>
      simp only [hg, if_true] at he
      cases he
    | false =>
      simp only [hg, Bool.false_eq_true, if_false] at he
      cases he
      have hx : x = (keyC ino (pn : Int)).n := by rw [← hn]; show (num c.k : Int) = (num (chunkR ino (pn : Int)) : Int); rw [h2]
      have hv : vAt C ino (pn : Int) = c.v := by unfold vAt; rw [← hx, hl]
      refine ⟨ino, pn, i1, by omega, hx, ?_, ?_⟩
      · rw [hv]
        intro e
        have := h5.2 e
        rw [hg] at this
        cases this
      · rw [hv]
        obtain ⟨k, hk, v, g⟩ := c
        dsimp only at h2
        subst h2
        rfl
theorem live_mem {C : List Ch} (h : FileOk C) {p : Pa} (hp : p ∈ lives C allSp) : ∃ (ino : Int) (pl : Nat), okN ino = true ∧ pl ≤ 4294967295 ∧ vAt C ino (pl : Int) ≠ [] ∧ p = ⟨chunkR ino (pl : Int), chunkR_length _ _, vAt C ino (pl : Int)⟩ := by
  have h1 := look_mem Pa.n (lives_asc h.asc allSp) hp
  have h0 : (0 : Int) ≤ p.n := Int.natCast_nonneg _
  rw [live_look h _ h0] at h1
  obtain ⟨ino, pl, a, b, _, c, d⟩ := liveG h h1
  exact ⟨ino, pl, a, b, c, d⟩
/-- What is of other files. -/
def notOf (b : Int) (p : Pa) : Bool := !decide (pIno p.k = b)
theorem look_flt {f : Pa → Bool} : ∀ {l : List Pa}, Asc Pa.n l → ∀ x, look Pa.n (l.filter f) x = (look Pa.n l x).filter f
  | [], _, _ => rfl
  | a :: r, h, x => by
    obtain ⟨p1, p2⟩ := List.pairwise_cons.1 h
    rw [List.filter_cons]
    by_cases e : a.n = x
    · simp only [look]
      rw [if_pos e]
      cases hf : f a with
      | true => simp only [if_true, look]; rw [if_pos e]; simp [Option.filter, hf]
      | false =>
        simp only [Bool.false_eq_true, if_false]
        rw [look_flt p2 x, look_low Pa.n (fun b hb => by have := p1 b hb; omega)]
        simp [Option.filter, hf]
    · simp only [look]
      rw [if_neg e]
      cases hf : f a with
      | true => simp only [if_true, look]; rw [if_neg e, look_flt p2 x]
      | false => simp only [Bool.false_eq_true, if_false]; rw [look_flt p2 x]
theorem flt_asc {f : Pa → Bool} {l : List Pa} (h : Asc Pa.n l) : Asc Pa.n (l.filter f) := List.Pairwise.sublist List.filter_sublist h
theorem key_ino {ino : Int} {pl : Nat} (hi : okN ino = true) (hp : pl ≤ 4294967295) : pIno (chunkR ino (pl : Int)) = ino := by
  have h1 : chunkR ino (pl : Int) = chunkK ino.toNat ((pl : Int)).toNat := by unfold chunkR; rw [hi, okP_nat hp]; rfl
  rw [h1]
  exact (chunk_says hi (okP_nat hp)).1
theorem cut_none {V : VS} (h : FileOk V.C) {ino : Int} (hi : okN ino = true) : lives (cutV V ino 0).C allSp = (lives V.C allSp).filter (notOf ino) := by
  have hC := cut_ok h (ino := ino) (size := 0)
  have hv : ∀ (b : Int) (pl : Nat), okN b = true → pl ≤ 4294967295 → vAt (cutV V ino 0).C b (pl : Int) = if b = ino then [] else vAt V.C b (pl : Int) := fun b pl hb hp => by
    have := cut_vAt h hi (sz := 0) (by omega) hb hp
    rw [show ((0 : Nat) : Int) = 0 from rfl] at this
    rw [this]
    by_cases e : b = ino
    · rw [if_pos ⟨e, by omega⟩, if_pos e, show (staysP 0 (pl : Int)).toNat = 0 by unfold staysP; omega, List.take_zero]
      exact trimmed_zeros 0
    · rw [if_neg (by omega), if_neg e]
  refine asc_ext Pa.n (lives_asc hC.asc _) (flt_asc (lives_asc h.asc _)) fun x => ?_
  by_cases h0 : 0 ≤ x
  · rw [look_flt (lives_asc h.asc _), live_look hC x h0, live_look h x h0]
    cases he : doneA (look Ch.n (cutV V ino 0).C x) none with
    | some p =>
      obtain ⟨b, pl, hb, hp, rfl, hne, rfl⟩ := liveG hC he
      rw [hv b pl hb hp] at hne ⊢
      by_cases e : b = ino
      · rw [if_pos e] at hne
        exact absurd rfl hne
      · rw [if_neg e] at hne
        rw [live_of h hne]
        simp only [if_neg e]
        have hnot : notOf ino ⟨chunkR b (pl : Int), chunkR_length _ _, vAt V.C b (pl : Int)⟩ = true := by
          unfold notOf
          rw [key_ino hb hp, decide_eq_false e]
          rfl
        simp [Option.filter, hnot]
    | none =>
      cases hf : doneA (look Ch.n V.C x) none with
      | none => rfl
      | some p =>
        obtain ⟨b, pl, hb, hp, rfl, hne, rfl⟩ := liveG h hf
        by_cases e : b = ino
        · have hnot : notOf ino ⟨chunkR b (pl : Int), chunkR_length _ _, vAt V.C b (pl : Int)⟩ = false := by
            unfold notOf
            rw [key_ino hb hp, decide_eq_true e]
            rfl
          simp [Option.filter, hnot]
        · have hq := hv b pl hb hp
          rw [if_neg e] at hq
          have := live_of hC (by rw [hq]; exact hne)
          rw [he] at this
          cases this
  · have hn : ∀ l : List Pa, look Pa.n l x = none := fun l => (look_none Pa.n).2 fun a _ e => by
      have : (0 : Int) ≤ (num a.k : Int) := Int.natCast_nonneg _
      have e2 : (num a.k : Int) = x := e
      omega
    rw [hn, hn]
/-- The last byte of what was trimmed is no nought. -/
theorem trim_last {v : List UInt8} (ht : trimmed v = v) (h0 : v ≠ []) : v.length ≤ 32 ∧ v.getD (v.length - 1) 0 ≠ 0 := by
  refine ⟨by rw [← ht]; exact trimmed_length v, fun e => ?_⟩
  have hl : v.length ≤ 32 := by rw [← ht]; exact trimmed_length v
  unfold trimmed Lib.trimRightB at ht
  rw [List.take_of_length_le hl] at ht
  rcases List.eq_nil_or_concat v with q | ⟨a, b, rfl⟩
  · exact h0 q
  · have hb : b = 0 := by
      rw [List.getD_eq_getElem?_getD] at e
      simpa using e
    subst hb
    have hlen := congrArg List.length ht
    rw [List.concat_eq_append, List.reverse_append] at hlen
    simp only [List.reverse_singleton, List.cons_append, List.nil_append] at hlen
    rw [List.dropWhile_cons] at hlen
    simp only [beq_self_eq_true, if_true, List.length_reverse, List.length_append, List.length_cons, List.length_nil] at hlen
    have := (List.dropWhile_sublist (fun x : UInt8 => x == 0) (l := a.reverse)).length_le
    simp at this
    omega
end Go.Proofs.YtdmindhjmjnagabGreatDoor
/- Masks of ones, beside RfM's. -/
namespace Go.Proofs.YtdmindhjmjnagabGreatDoor
set_option linter.unusedVariables false
set_option maxRecDepth 100000
theorem and1023 (n : Int) : bits .and .i64 n 1023 = n % 1024 := by
  show IntKind.i64.wrap ((BitVec.ofInt 64 n &&& BitVec.ofInt 64 ((1023 : Nat) : Int)).toNat : Nat) = n % 1024
  rw [and_ones n 1023 10 (by decide), IntKind.wrap_i64]
  omega
theorem and511 (n : Int) : bits .and .i64 n 511 = n % 512 := by
  show IntKind.i64.wrap ((BitVec.ofInt 64 n &&& BitVec.ofInt 64 ((511 : Nat) : Int)).toNat : Nat) = n % 512
  rw [and_ones n 511 9 (by decide), IntKind.wrap_i64]
  omega
theorem and127 (n : Int) : bits .and .i64 n 127 = n % 128 := by
  show IntKind.i64.wrap ((BitVec.ofInt 64 n &&& BitVec.ofInt 64 ((127 : Nat) : Int)).toNat : Nat) = n % 128
  rw [and_ones n 127 7 (by decide), IntKind.wrap_i64]
  omega
theorem and20 (n : Int) : bits .and .i64 n 1048575 = n % 1048576 := by
  show IntKind.i64.wrap ((BitVec.ofInt 64 n &&& BitVec.ofInt 64 ((1048575 : Nat) : Int)).toNat : Nat) = n % 1048576
  rw [and_ones n 1048575 20 (by decide), IntKind.wrap_i64]
  omega
end Go.Proofs.YtdmindhjmjnagabGreatDoor
/- Noughts that are made, and taken as a text (GENERIC). -/
namespace Go.Proofs.YtdmindhjmjnagabGreatDoor
set_option linter.unusedVariables false
set_option maxRecDepth 100000
open Go.RowKit

theorem zr_info : (Tryz.prog.info? 5).map (fun i => (i.zero, i.size, i.bytes)) = some (some (.int .u8 0), 1, 1) := by kernel_rfl
theorem zr_cells (n : Nat) : (madeCells (Value.int .u8 0).cells (n * 1)).toList = bc (List.replicate n 0) := by
  apply List.ext_getElem
  · simp [madeCells, bc]
  · intro i h1 h2
    simp [madeCells, bc, Value.cells, Nat.mod_one]
theorem zr_make {ops : Array Oper} {rest : List Oper} {o : Oper} {a : Act} {w : World} {Q : Exit → Act → World → Prop} (l c : Operand) (hop : o.op = Op.makeSlice 36 l c) (hgd : o.guard = none) (n : Nat) (L : Int) (hl : a.eval l = .int .i64 L) (hc : a.eval c = .int .i64 L) (hL : L = (n : Int)) (b2 : n ≤ 100000)
    (h : ∀ w', w'.ownsRow w.heap.size 5 1 (.slice (some ⟨w.heap.size, 0, none⟩) n n) n (bc (List.replicate n 0)) → w.grownBy w' none → wpList Tryz.prog ops Q rest (a.put o.dst (.slice (some ⟨w.heap.size, 0, none⟩) n n)) w') : wpList Tryz.prog ops Q (o :: rest) a w := by
  obtain ⟨i0, hi, hz0, hz1, hz2⟩ := info_parts zr_info
  obtain ⟨w', hrun, r1, r2⟩ := run_make_full (P := Tryz.prog) w w.heap.size 36 5 i0 (.int .u8 0) 1 Tryz.underlying36 hi hz0 hz1 .i64 .i64 n (by rw [hz2]; omega) (by unfold maxLen; omega) (Nat.le_refl _)
  subst hL
  rw [zr_cells] at r1
  refine wpList_plain hgd fun K hK => ?_
  unfold Oper.wp
  simp [execOp, hop, hl, hc, hrun, Result.andThen]
  exact hK _ _ (h w' r1 r2)
/-- Bytes in a row of one's own, as a text. -/
theorem zr_conv {w : World} {base g n cap : Nat} {L : List UInt8} (h : w.ownsRow base 5 1 (.slice (some ⟨g, 0, none⟩) n cap) n (bc L)) :
    (convert 36 9 (.slice (some ⟨g, 0, none⟩) n cap)).run Tryz.prog w = .ok (.string (str L)) w := by
  have hn : L.length = n := by have := h.1; rw [bc_length] at this; omega
  have hr : w.rangeAt g 0 (bc L) := by
    rcases h.2 with ⟨e, _⟩ | ⟨g', cap', cur, e, h2, h3, h4, h5, h6, h7⟩
    · cases e
    · cases e
      intro j v hv
      rw [Nat.zero_add, cell_of_row _ _ _ _ _ _ h3]
      have hj : j < n * 1 := by have := (List.getElem?_eq_some_iff.1 hv).1; rw [bc_length] at this; omega
      rw [← h7, List.getElem?_take_of_lt hj] at hv
      simpa using hv
  have := run_convert_bytes_arg (P := Tryz.prog) w 36 5 Tryz.underlying36 Tryz.underlying5 g 0 n cap (L.map fun b => (b.toNat : Int)) (by simp [hn]) (fun i hi => by
    have hi' : i < L.length := by omega
    rw [hr i (.int .u8 ((L[i]).toNat : Int)) (by simp [bc, hi'])]
    simp [hi']) 9 Tryz.underlying9
  rw [str_of] at this
  exact this
end Go.Proofs.YtdmindhjmjnagabGreatDoor
/- ChunkSparse. -/
namespace Go.Proofs.YtdmindhjmjnagabGreatDoor
set_option linter.unusedVariables false
set_option maxRecDepth 100000
open Go.RowKit

theorem str_cut300s (v : List UInt8) : (str v).extract 0 (min ((str v).size : Int) 300).toNat = str (v.take 300) := by
  have h : (min ((str v).size : Int) 300).toNat = min v.length 300 := by rw [str_size]; omega
  rw [h]
  apply ByteArray.ext
  apply Array.ext'
  rw [ByteArray.data_extract]
  simp only [Array.toList_extract, str_list, List.extract_eq_take_drop, List.drop_zero, Nat.sub_zero]
  by_cases q : v.length ≤ 300
  · rw [Nat.min_eq_left q, List.take_length, List.take_of_length_le q]
  · rw [Nat.min_eq_right (by omega)]
/-- Noughts that are made where a condition asks for it. -/
theorem zr_make_want {ops : Array Oper} {rest : List Oper} {o : Oper} {a : Act} {w : World} {Q : Exit → Act → World → Prop} (l c : Operand) (hop : o.op = Op.makeSlice 36 l c) (hgd : Region.wanted o (yielded ops a.tmps) = true) (n : Nat) (L : Int) (hl : a.eval l = .int .i64 L) (hc : a.eval c = .int .i64 L) (hL : L = (n : Int)) (b2 : n ≤ 100000)
    (h : ∀ w', w'.ownsRow w.heap.size 5 1 (.slice (some ⟨w.heap.size, 0, none⟩) n n) n (bc (List.replicate n 0)) → w.grownBy w' none → wpList Tryz.prog ops Q rest (a.put o.dst (.slice (some ⟨w.heap.size, 0, none⟩) n n)) w') : wpList Tryz.prog ops Q (o :: rest) a w := by
  obtain ⟨i0, hi, hz0, hz1, hz2⟩ := info_parts zr_info
  obtain ⟨w', hrun, r1, r2⟩ := run_make_full (P := Tryz.prog) w w.heap.size 36 5 i0 (.int .u8 0) 1 Tryz.underlying36 hi hz0 hz1 .i64 .i64 n (by rw [hz2]; omega) (by unfold maxLen; omega) (Nat.le_refl _)
  subst hL
  rw [zr_cells] at r1
  refine BigFrame.wpList_want hgd fun K hK => ?_
  unfold Oper.wp
  simp [execOp, hop, hl, hc, hrun, Result.andThen]
  exact hK _ _ (h w' r1 r2)
/-- Elsewhere there are noughts. -/
theorem sparse_zero {off : Nat} {s : List UInt8} (hod : off + s.length ≤ 1048576) {a m : Nat} (ham : a + m ≤ 1048576) (h : a + m ≤ off ∨ off + s.length ≤ a) : readB (writeV vs0 (plGe []) 5 off s).C 5 a m = List.replicate m 0 := by
  have hk := write_ok (V := vs0) (ino := 5) (off := off) (data := s) FileOk.nil rfl hod
  rw [read_bytes hk rfl ham]
  have h0 : ∀ j, j < m → fB (writeV vs0 (plGe []) 5 off s).C 5 (a + j) = 0 := fun j hj => by
    rw [write_fB (V := vs0) List.Pairwise.nil rfl hod rfl (a + j) (by omega), if_neg (by omega)]
    show (fullP []).getD ((a + j) % 32) 0 = 0
    rw [full_nil, List.getD_eq_getElem?_getD, List.getElem?_replicate]
    split <;> rfl
  rw [List.map_congr_left (g := fun _ => (0 : UInt8)) (fun j hj => h0 j (List.mem_range.1 hj)), List.map_const', List.length_range]
theorem readV_C (V : VS) (ino : Int) (off n : Nat) : (readV V ino off n).C = V.C := by
  unfold readV
  split <;> rfl
set_option maxRecDepth 100000 in
set_option maxHeartbeats 16000000 in
theorem chunkSparse_walk (w : World) (off0 : Int) (s0 : List UInt8) (n0 : Int) :
    Calls Tryz.prog 3 #[.int .i64 off0, .string (str s0), .int .i64 n0] w fun e w' => e = .returned (.bool true) ∧ Below w.heap.size w w' := by
  have hsh := shown13_calls w
  have hm1 := and20 off0
  have hm2 := and127 n0
  go_enter Tryz.func3, Tryz.ntmps3
  go_upto_region 2 with (go_at_call 4; refine hsh.mono ?_; clear hsh; rintro e y0 ⟨rfl, b1⟩)
  have hN1 := nvNew_calls w y0 b1
  clear b1
  go_upto_region 3 with (go_at_call 5; refine hN1.mono ?_; clear hN1; rintro e y1 ⟨da, rfl, A1, v1, n1, -, -⟩)
  have HV : Hid (da.at_ w y1 ∧ da.V = vs0 ∧ da.x.n = 0) := ⟨A1, v1, n1⟩
  clear A1 v1 n1
  obtain ⟨om, hom⟩ := Int.eq_ofNat_of_zero_le (show 0 ≤ off0 % 1048576 by omega)
  obtain ⟨nn, hnn⟩ := Int.eq_ofNat_of_zero_le (show 0 ≤ n0 % 128 by omega)
  rw [hom] at hm1
  rw [hnn] at hm2
  have HNN : Hid (nn ≤ 127) := (show _ ≤ _ by omega)
  have hnI : (nn : Int) ≤ 127 := by omega
  clear hom hnn
  go_upto_region 6 with fail
  have hk1 : (om : Int) % 1048076 = ((om % 1048076 : Nat) : Int) := by omega
  rw [hk1]
  obtain ⟨off, hoff⟩ : ∃ off : Nat, off = om % 1048076 := ⟨_, rfl⟩
  rw [← hoff]
  have HO : Hid (off ≤ 1048075) := (show _ ≤ _ by omega)
  have hoI : (off : Int) ≤ 1048075 := by omega
  clear hoff hk1 hm1
  have hcut := str_cut300s s0
  have hc0 : (0 : Int) ≤ min ((str s0).size : Int) 300 := by omega
  have hc1 : min ((str s0).size : Int) 300 ≤ ((str s0).size : Int) := by omega
  go_upto_region 7 with fail
  have hsl : (s0.take 300).length ≤ 300 := by rw [List.length_take]; omega
  clear hcut hc0 hc1
  generalize s0.take 300 = s at *
  have HSL : Hid (s.length ≤ 300) := hsl
  have HD : Hid (off + s.length ≤ 1048576) := (show _ ≤ _ by have := HO.out; omega)
  have hss : ((str s).size : Int) = (s.length : Int) := by rw [str_size]
  have hslI : (s.length : Int) ≤ 300 := by omega
  have HPN : Hid (pN off s.length ≤ 11) := pN_300 hsl
  have hW := nvWrite HV.out.1 5 off s rfl (by have := HV.out.2.2; have := HPN.out; omega) HD.out
  rw [HV.out.2.1] at hW
  clear hsl
  go_upto_region 8 with (go_at_call 6; refine hW.mono ?_; clear hW; rintro e y4 ⟨rfl, xa, T4⟩)
  have HA4 : Hid (NV.at_ { da with x := xa, V := writeV vs0 (plGe []) 5 off s } w y4 ∧ xa.n ≤ 55) := ⟨NV.ran T4, by have := T4.n; have := HV.out.2.2; have := HPN.out; omega⟩
  clear T4
  have hSc := nvScan HA4.out.1 (show xa.n ≤ 5000 by have := HA4.out.2; omega)
  obtain ⟨N, hN⟩ : ∃ N : Nat, N = (lives (writeV vs0 (plGe []) 5 off s).C allSp).length := ⟨_, rfl⟩
  rw [show (lives (NV.V { da with x := xa, V := writeV vs0 (plGe []) 5 off s }).C allSp).length = N from hN.symm] at hSc
  have HN : Hid (N ≤ pN off s.length) := (show _ ≤ _ by
    rw [hN]
    have h1 := lives_len (writeV vs0 (plGe []) 5 off s).C allSp
    have h2 := writeV_len vs0 (plGe []) 5 off s
    have h3 : vs0.C.length = 0 := rfl
    omega)
  clear hN
  go_upto_region 9 with (first
    | (refine build_allSp rfl _ rfl rfl ?_)
    | (go_at_call 7; refine hSc.mono ?_; clear hSc; rintro e y5 ⟨adA, capA, rfl, -, T5⟩))
  have HA5 : Hid (NV.at_ { da with x := { xa with n := xa.n + 1 }, V := { writeV vs0 (plGe []) 5 off s with R := (writeV vs0 (plGe []) 5 off s).R ++ [allSp] } } w y5 ∧ xa.n ≤ 55) := ⟨NV.ran (d := { da with x := xa, V := writeV vs0 (plGe []) 5 off s }) T5, HA4.out.2⟩
  clear T5 HA4
  go_upto_region 10 with fail
  obtain ⟨fr, hfr0⟩ : ∃ fr : Nat, fr = off - nn := ⟨_, rfl⟩
  obtain ⟨kk, hkk0⟩ : ∃ kk : Nat, kk = off - fr := ⟨_, rfl⟩
  have hfr : max ((off : Int) - (nn : Int)) 0 = (fr : Int) := by omega
  have hkk : (off : Int) - (fr : Int) = (kk : Int) := by omega
  have hnn2 : (nn : Int) = (nn : Int) := rfl
  have HK : Hid (fr + kk = off ∧ kk ≤ 127 ∧ nn ≤ 127 ∧ s.length ≤ 300) := ⟨by omega, by omega, HNN.out, HSL.out⟩
  have HZ : Hid (readB (writeV vs0 (plGe []) 5 off s).C 5 fr kk = List.replicate kk 0 ∧ readB (writeV vs0 (plGe []) 5 off s).C 5 (off + s.length) nn = List.replicate nn 0) := ⟨sparse_zero HD.out (by have := HO.out; omega) (.inl (by omega)), sparse_zero HD.out (by have := HO.out; have := HNN.out; have := HSL.out; omega) (.inr (Nat.le_refl _))⟩
  have HCL : Hid ((writeV vs0 (plGe []) 5 off s).C.length ≤ 11) := (show _ ≤ _ by
    have h2 := writeV_len vs0 (plGe []) 5 off s
    have h3 : vs0.C.length = 0 := rfl
    have := HPN.out
    omega)
  have hse1 : ((str (List.replicate kk 0)).toList == (str (List.replicate kk 0)).toList) = true := by simp
  have hse2 : ((str (List.replicate nn 0)).toList == (str (List.replicate nn 0)).toList) = true := by simp
  clear hfr0 hkk0
  cases hq : ((str s).toList == ([] : List UInt8)) with
  | true =>
    have hs0 : s.length = 0 := by rw [str_toList] at hq; simpa using hq
    have hN0 : (N : Int) ≤ 0 := by
      have h1 := HN.out
      unfold pN at h1
      rw [if_pos hs0] at h1
      omega
    clear hs0
    go_upto_region 14 with fail
    (try rw [hfr])
    have hR1 := nvRead HA5.out.1 5 fr kk rfl (show xa.n + 1 ≤ 5000 by have := HA5.out.2; omega) (show (writeV vs0 (plGe []) 5 off s).C.length ≤ 5000 by have := HCL.out; omega) (by have := HK.out; have := HO.out; omega)
    rw [show readB (NV.V { da with x := { xa with n := xa.n + 1 }, V := { writeV vs0 (plGe []) 5 off s with R := (writeV vs0 (plGe []) 5 off s).R ++ [allSp] } }).C 5 fr kk = List.replicate kk 0 from HZ.out.1] at hR1
    go_upto_region 15 with (first
      | (try rw [hkk]
         go_at_call 8; refine hR1.mono ?_; clear hR1; rintro e y6 ⟨rfl, xb, T6⟩))
    have HA6 : Hid (NV.at_ { da with x := xb, V := readV { writeV vs0 (plGe []) 5 off s with R := (writeV vs0 (plGe []) 5 off s).R ++ [allSp] } 5 fr kk } w y6 ∧ xb.n ≤ 60) := ⟨NV.ran (d := { da with x := { xa with n := xa.n + 1 }, V := { writeV vs0 (plGe []) 5 off s with R := (writeV vs0 (plGe []) 5 off s).R ++ [allSp] } }) T6, by have h : xb.n ≤ xa.n + 1 + 4 := T6.n; have := HA5.out.2; omega⟩
    clear T6 HA5
    have hRC : (readV { writeV vs0 (plGe []) 5 off s with R := (writeV vs0 (plGe []) 5 off s).R ++ [allSp] } 5 fr kk).C = (writeV vs0 (plGe []) 5 off s).C := readV_C _ _ _ _
    have hR2 := nvRead HA6.out.1 5 (off + s.length) nn rfl (show xb.n ≤ 5000 by have := HA6.out.2; omega) (show (readV { writeV vs0 (plGe []) 5 off s with R := (writeV vs0 (plGe []) 5 off s).R ++ [allSp] } 5 fr kk).C.length ≤ 5000 by rw [hRC]; have := HCL.out; omega) (by have := HK.out; have := HO.out; omega)
    rw [show readB (NV.V { da with x := xb, V := readV { writeV vs0 (plGe []) 5 off s with R := (writeV vs0 (plGe []) 5 off s).R ++ [allSp] } 5 fr kk }).C 5 (off + s.length) nn = List.replicate nn 0 by show readB (readV { writeV vs0 (plGe []) 5 off s with R := (writeV vs0 (plGe []) 5 off s).R ++ [allSp] } 5 fr kk).C 5 (off + s.length) nn = _; rw [hRC]; exact HZ.out.2, show ((off + s.length : Nat) : Int) = (off : Int) + (s.length : Int) by omega] at hR2
    clear hRC
    go_upto_region 16 with (go_at_call 8; refine hR2.mono ?_; clear hR2; rintro e y7 ⟨rfl, xc, T7⟩)
    have HB7 : Hid (Below w.heap.size w y7) := T7.at_.bel
    clear T7 HA6
    go_wp2_with (first
      | (refine zr_make_want _ _ rfl rfl kk _ rfl rfl (by first | rfl | exact hkk) (by have := HK.out; omega) ?_; intro w6 o6 g6
         have hcv6 := zr_conv o6
         have HB6 : Hid (Below w.heap.size w w6) := HB7.out.trans ((⟨g6.os, g6.tape, g6.output, g6.size, fun k hk => g6.block k hk (by simp)⟩ : Below y7.heap.size y7 w6).mono HB7.out.size)
         clear o6 g6)
      | (refine zr_make_want _ _ rfl rfl nn _ rfl rfl (by first | rfl | exact hnn2) (by have := HNN.out; omega) ?_; intro w7 o7 g7
         have hcv7 := zr_conv o7
         have HB8 : Hid (Below w.heap.size w w7) := HB6.out.trans ((⟨g7.os, g7.tape, g7.output, g7.size, fun k hk => g7.block k hk (by simp)⟩ : Below w6.heap.size w6 w7).mono HB6.out.size)
         clear o7 g7))
    go_ret
    exact ⟨rfl, HB8.out⟩
  | false =>
    have hs1 : 1 ≤ s.length := by rw [str_toList] at hq; exact List.length_pos_iff.2 (by simpa using hq)
    obtain ⟨PN, hPN⟩ : ∃ PN : Nat, PN = pN off s.length := ⟨_, rfl⟩
    have hN0 : (N : Int) ≤ (PN : Int) := by have := HN.out; omega
    have hmost : wrap64 (wrap64 (((off : Int) + (s.length : Int) - 1).tdiv 32 - (off : Int) / 32) + 1) = (PN : Int) := by
      rw [Int.tdiv_eq_ediv_of_nonneg (by omega), hPN]
      unfold pN wrap64
      rw [if_neg (by omega)]
      omega
    clear hs1
    go_upto_region 12 with fail
    rw [hmost]
    clear hmost hPN
    go_upto_region 14 with fail
    (try rw [hfr])
    have hR1 := nvRead HA5.out.1 5 fr kk rfl (show xa.n + 1 ≤ 5000 by have := HA5.out.2; omega) (show (writeV vs0 (plGe []) 5 off s).C.length ≤ 5000 by have := HCL.out; omega) (by have := HK.out; have := HO.out; omega)
    rw [show readB (NV.V { da with x := { xa with n := xa.n + 1 }, V := { writeV vs0 (plGe []) 5 off s with R := (writeV vs0 (plGe []) 5 off s).R ++ [allSp] } }).C 5 fr kk = List.replicate kk 0 from HZ.out.1] at hR1
    go_upto_region 15 with (first
      | (try rw [hkk]
         go_at_call 8; refine hR1.mono ?_; clear hR1; rintro e y6 ⟨rfl, xb, T6⟩))
    have HA6 : Hid (NV.at_ { da with x := xb, V := readV { writeV vs0 (plGe []) 5 off s with R := (writeV vs0 (plGe []) 5 off s).R ++ [allSp] } 5 fr kk } w y6 ∧ xb.n ≤ 60) := ⟨NV.ran (d := { da with x := { xa with n := xa.n + 1 }, V := { writeV vs0 (plGe []) 5 off s with R := (writeV vs0 (plGe []) 5 off s).R ++ [allSp] } }) T6, by have h : xb.n ≤ xa.n + 1 + 4 := T6.n; have := HA5.out.2; omega⟩
    clear T6 HA5
    have hRC : (readV { writeV vs0 (plGe []) 5 off s with R := (writeV vs0 (plGe []) 5 off s).R ++ [allSp] } 5 fr kk).C = (writeV vs0 (plGe []) 5 off s).C := readV_C _ _ _ _
    have hR2 := nvRead HA6.out.1 5 (off + s.length) nn rfl (show xb.n ≤ 5000 by have := HA6.out.2; omega) (show (readV { writeV vs0 (plGe []) 5 off s with R := (writeV vs0 (plGe []) 5 off s).R ++ [allSp] } 5 fr kk).C.length ≤ 5000 by rw [hRC]; have := HCL.out; omega) (by have := HK.out; have := HO.out; omega)
    rw [show readB (NV.V { da with x := xb, V := readV { writeV vs0 (plGe []) 5 off s with R := (writeV vs0 (plGe []) 5 off s).R ++ [allSp] } 5 fr kk }).C 5 (off + s.length) nn = List.replicate nn 0 by show readB (readV { writeV vs0 (plGe []) 5 off s with R := (writeV vs0 (plGe []) 5 off s).R ++ [allSp] } 5 fr kk).C 5 (off + s.length) nn = _; rw [hRC]; exact HZ.out.2, show ((off + s.length : Nat) : Int) = (off : Int) + (s.length : Int) by omega] at hR2
    clear hRC
    go_upto_region 16 with (go_at_call 8; refine hR2.mono ?_; clear hR2; rintro e y7 ⟨rfl, xc, T7⟩)
    have HB7 : Hid (Below w.heap.size w y7) := T7.at_.bel
    clear T7 HA6
    go_wp2_with (first
      | (refine zr_make_want _ _ rfl rfl kk _ rfl rfl (by first | rfl | exact hkk) (by have := HK.out; omega) ?_; intro w6 o6 g6
         have hcv6 := zr_conv o6
         have HB6 : Hid (Below w.heap.size w w6) := HB7.out.trans ((⟨g6.os, g6.tape, g6.output, g6.size, fun k hk => g6.block k hk (by simp)⟩ : Below y7.heap.size y7 w6).mono HB7.out.size)
         clear o6 g6)
      | (refine zr_make_want _ _ rfl rfl nn _ rfl rfl (by first | rfl | exact hnn2) (by have := HNN.out; omega) ?_; intro w7 o7 g7
         have hcv7 := zr_conv o7
         have HB8 : Hid (Below w.heap.size w w7) := HB6.out.trans ((⟨g7.os, g7.tape, g7.output, g7.size, fun k hk => g7.block k hk (by simp)⟩ : Below w6.heap.size w6 w7).mono HB6.out.size)
         clear o7 g7))
    go_ret
    exact ⟨rfl, HB8.out⟩
end Go.Proofs.YtdmindhjmjnagabGreatDoor
