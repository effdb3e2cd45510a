import Derived.Test.YtdmindhjmjnagaaGreatDoorB49
/- Files with the same bytes have the same pairs (mathematics); all that stands in a view over nothing. -/
namespace Go.Proofs.YtdmindhjmjnagaaGreatDoor
set_option linter.unusedVariables false
set_option maxRecDepth 100000
open Go.RowKit

/-- All keys. -/
def allSp : Sp := ⟨zs 24, zs 24, true, rfl, rfl⟩
theorem allSp_in (x : Int) (h : 0 ≤ x) : allSp.inb x = true := by
  have h0 : num (zs 24) = 0 := by kernel_rfl
  unfold Sp.inb allSp
  simp [h0, h]
theorem built_allSp : Tryz.prog.built 56 [(2, .bool true)] = some (sc allSp.F allSp.T allSp.e).toArray := by
  rw [Tryz.span_built, fill_put (off := 48) (size := 1) rfl rfl (by simp [sc, bc_length, zs_length]), sc_E _ _ _ _ (zs_length _) (zs_length _)]
  rfl
theorem build_allSp {ops : Array Oper} {rest : List Oper} {o : Oper} {a : Act} {w : World} {Q : Exit → Act → World → Prop} (hg : o.guard = none) (z : Operand) (ho : o.op = .build 56 #[(2, z)]) (hz : a.eval z = .bool true)
    (h : wpList Tryz.prog ops Q rest (a.put o.dst (spv allSp)) w) : wpList Tryz.prog ops Q (o :: rest) a w :=
  build_any hg _ ho [(2, .bool true)] (by simp [hz]) _ built_allSp h
/-- All keys are the file's. -/
def InF (C : List Ch) (ino : Int) : Prop := ∀ c ∈ C, ∃ pl : Nat, pl ≤ 100000 ∧ c.k = chunkR ino (pl : Int)
theorem InF.nil (ino : Int) : InF [] ino := fun c hc => by cases hc
theorem putA_in {C : List Ch} {ino : Int} (h : InF C ino) (c : Ch) (hc : ∃ pl : Nat, pl ≤ 100000 ∧ c.k = chunkR ino (pl : Int)) : InF (putA Ch.n C c) ino := fun a ha => (putA_mem Ch.n ha).elim (h a) (fun e => by subst e; exact hc)
theorem chAll_in (V : VS) {ino : Int} (h : InF V.C ino) (l : List Pa) (hl : ∀ p ∈ l, ∃ pl : Nat, pl ≤ 100000 ∧ p.k = chunkR ino (pl : Int)) : InF (chAll V l).C ino := by
  unfold chAll
  induction l generalizing V with
  | nil => exact h
  | cons p r ih => exact ih (V.change (chgP p)) (putA_in h _ (by rw [chgP_k]; exact hl p List.mem_cons_self)) (fun a ha => hl a (List.mem_cons_of_mem _ ha))
theorem write_in {V : VS} {ino : Int} (h : InF V.C ino) {off : Nat} {data : List UInt8} (hod : off + data.length ≤ 1048576) : InF (writeV V (plGe []) ino off data).C ino := by
  unfold writeV
  refine chAll_in _ (by rw [getG_C]; exact h) _ (fun p hp => ?_)
  unfold putG at hp
  obtain ⟨k, hk, rfl⟩ := List.mem_map.1 hp
  rw [List.mem_range] at hk
  refine ⟨off / 32 + k, by have := pIx_lt.2 hk; unfold pIx at this; omega, ?_⟩
  rw [pcM_at hk]
  rfl
theorem vAt_trimmed {C : List Ch} (h : FileOk C) (ino pl : Int) : trimmed (vAt C ino pl) = vAt C ino pl := by
  unfold vAt
  cases hl : look Ch.n C (keyC ino pl).n with
  | none => exact trimmed_zeros 0
  | some c =>
    obtain ⟨_, _, _, _, _, h4, _⟩ := h.ok c (look_key Ch.n hl).1
    exact h4
theorem vAt_of_bytes {C D : List Ch} (hC : FileOk C) (hD : FileOk D) {ino : Int} {pl : Nat} (h : ∀ j, j < 32 → fB C ino (32 * pl + j) = fB D ino (32 * pl + j)) : vAt C ino (pl : Int) = vAt D ino (pl : Int) := by
  have hb : cB C ino (pl : Int) = cB D ino (pl : Int) := by
    apply List.ext_getElem (by rw [cB_length, cB_length])
    intro j h1 h2
    rw [cB_length] at h1
    have e := h j h1
    unfold fB at e
    rw [show (32 * pl + j) / 32 = pl by omega, show (32 * pl + j) % 32 = j by omega, List.getD_eq_getElem?_getD, List.getD_eq_getElem?_getD, List.getElem?_eq_getElem (by rw [cB_length]; omega), List.getElem?_eq_getElem (by rw [cB_length]; omega)] at e
    exact e
  have e1 := (chunk_is (vAt C ino (pl : Int)) (by rw [← vAt_trimmed hC]; exact trimmed_length _)).tf
  have e2 := (chunk_is (vAt D ino (pl : Int)) (by rw [← vAt_trimmed hD]; exact trimmed_length _)).tf
  rw [vAt_trimmed hC] at e1
  rw [vAt_trimmed hD] at e2
  rw [← e1, ← e2]
  exact congrArg trimmed hb
/-- What is live of a key. -/
theorem live_look {C : List Ch} (h : FileOk C) (x : Int) (h0 : 0 ≤ x) : look Pa.n (lives C allSp) x = doneA (look Ch.n C x) none := by
  unfold lives
  rw [look_lives (inL_asc h.asc allSp), look_filter, allSp_in x h0, if_pos rfl]
theorem live_some {C : List Ch} (h : FileOk C) {ino : Int} (hi : okN ino = true) (hF : InF C ino) {x : Int} {p : Pa} (he : doneA (look Ch.n C x) none = some p) : ∃ pl : Nat, pl ≤ 100000 ∧ x = (keyC ino (pl : Int)).n ∧ vAt C ino (pl : Int) ≠ [] ∧ p = ⟨chunkR ino (pl : Int), chunkR_length _ _, vAt C ino (pl : Int)⟩ := by
  cases hl : look Ch.n C x with
  | none =>
    rw [hl] at he
    cases he
  | some c =>
    rw [hl] at he
    obtain ⟨hm, hn⟩ := look_key Ch.n hl
    obtain ⟨pl, h1, h2⟩ := hF c hm
    obtain ⟨_, _, _, _, _, _, h5⟩ := h.ok c hm
    unfold doneA at he
    cases hg : c.g with
    | true =>
      simp only [hg, if_true] at he
      cases he
    | false =>
      simp only [hg, Bool.false_eq_true, if_false] at he
      cases he
      have hx : x = (keyC ino (pl : Int)).n := by rw [← hn]; show (num c.k : Int) = (num (chunkR ino (pl : Int)) : Int); rw [h2]
      have hv : vAt C ino (pl : Int) = c.v := by unfold vAt; rw [← hx, hl]
      refine ⟨pl, h1, hx, ?_, ?_⟩
      · rw [hv]
        intro e
        have := h5.2 e
        rw [hg] at this
        cases this
      · rw [hv]
        obtain ⟨k, hk, v, g⟩ := c
        dsimp only at h2
        subst h2
        rfl
theorem live_of {C : List Ch} (h : FileOk C) {ino : Int} {pl : Nat} (hv : vAt C ino (pl : Int) ≠ []) : doneA (look Ch.n C (keyC ino (pl : Int)).n) none = some ⟨chunkR ino (pl : Int), chunkR_length _ _, vAt C ino (pl : Int)⟩ := by
  cases hl : look Ch.n C (keyC ino (pl : Int)).n with
  | none => exact absurd (by unfold vAt; rw [hl]) hv
  | some c =>
    have hv2 : vAt C ino (pl : Int) = c.v := by unfold vAt; rw [hl]
    obtain ⟨hm, hn⟩ := look_key Ch.n hl
    obtain ⟨_, _, _, _, _, _, h5⟩ := h.ok c hm
    have hk : c.k = chunkR ino (pl : Int) := num_inj _ _ (by rw [c.h, chunkR_length]) (by have : (num c.k : Int) = (num (chunkR ino (pl : Int)) : Int) := hn; exact Int.ofNat.inj this)
    unfold doneA
    cases hg : c.g with
    | true => exact absurd (h5.1 hg) (by rw [← hv2]; exact hv)
    | false =>
      simp only [hg, Bool.false_eq_true, if_false]
      rw [hv2]
      obtain ⟨k, hk2, v, g⟩ := c
      dsimp only at hk
      subst hk
      rfl
theorem lives_same {C D : List Ch} (hC : FileOk C) (hD : FileOk D) {ino : Int} (hi : okN ino = true) (iC : InF C ino) (iD : InF D ino) (h : ∀ i, i ≤ 4000000 → fB C ino i = fB D ino i) : lives C allSp = lives D allSp := by
  have hv : ∀ pl : Nat, pl ≤ 100000 → vAt C ino (pl : Int) = vAt D ino (pl : Int) := fun pl hp => vAt_of_bytes hC hD (fun j hj => h _ (by omega))
  have hdir : ∀ {C D : List Ch}, FileOk C → FileOk D → InF C ino → (∀ pl : Nat, pl ≤ 100000 → vAt C ino (pl : Int) = vAt D ino (pl : Int)) → ∀ x p, doneA (look Ch.n C x) none = some p → doneA (look Ch.n D x) none = some p := fun {C D} hC hD iC hv x p he => by
    obtain ⟨pl, h1, rfl, h3, rfl⟩ := live_some hC hi iC he
    rw [live_of hD (by rw [← hv pl h1]; exact h3), hv pl h1]
  refine asc_ext Pa.n (lives_asc hC.asc _) (lives_asc hD.asc _) fun x => ?_
  by_cases h0 : 0 ≤ x
  · rw [live_look hC x h0, live_look hD x h0]
    cases he : doneA (look Ch.n C x) none with
    | some p => exact (hdir hC hD iC hv x p he).symm
    | none =>
      cases hf : doneA (look Ch.n D x) none with
      | none => rfl
      | some p =>
        have := hdir hD hC iD (fun pl hp => (hv pl hp).symm) x p hf
        rw [he] at this
        cases this
  · have hn : ∀ C : List Ch, look Pa.n (lives C allSp) x = none := fun C => (look_none Pa.n).2 fun a _ e => by
      have : (0 : Int) ≤ (num a.k : Int) := Int.natCast_nonneg _
      have e2 : (num a.k : Int) = x := e
      omega
    rw [hn, hn]
/-- Written in two pieces. -/
theorem two_fB {V : VS} (hV : FileOk V.C) {ino : Int} (hi : okN ino = true) {off k : Nat} {s : List UInt8} (hk : k ≤ s.length) (hod : off + s.length ≤ 1048576) (i : Nat) (hI : i ≤ 4000000) :
    fB (writeV (writeV V (plGe []) ino off (s.take k)) (plGe []) ino (off + k) (s.drop k)).C ino i = fB (writeV V (plGe []) ino off s).C ino i
    ∧ fB (writeV (writeV V (plGe []) ino (off + k) (s.drop k)) (plGe []) ino off (s.take k)).C ino i = fB (writeV V (plGe []) ino off s).C ino i := by
  have l1 : (s.take k).length = k := by rw [List.length_take]; omega
  have l2 : (s.drop k).length = s.length - k := List.length_drop
  have d1 : ∀ j, j < k → (s.take k).getD j 0 = s.getD j 0 := fun j hj => by rw [List.getD_eq_getElem?_getD, List.getD_eq_getElem?_getD, List.getElem?_take_of_lt hj]
  have d2 : ∀ j, (s.drop k).getD j 0 = s.getD (k + j) 0 := fun j => by rw [List.getD_eq_getElem?_getD, List.getD_eq_getElem?_getD, List.getElem?_drop]
  have o1 : off + (s.take k).length ≤ 1048576 := by omega
  have o2 : off + k + (s.drop k).length ≤ 1048576 := by omega
  rw [write_fB (write_ok hV hi o1).asc hi o2 hi i hI, write_fB hV.asc hi o1 hi i hI, write_fB hV.asc hi hod hi i hI, write_fB (write_ok hV hi o2).asc hi o1 hi i hI, write_fB hV.asc hi o2 hi i hI, l1, l2]
  constructor
  · by_cases c1 : off + k ≤ i ∧ i < off + k + (s.length - k)
    · rw [if_pos ⟨rfl, c1.1, c1.2⟩, if_pos ⟨rfl, by omega, by omega⟩, d2]
      congr 1
      omega
    · rw [if_neg (by omega)]
      by_cases c2 : off ≤ i ∧ i < off + k
      · rw [if_pos ⟨rfl, c2.1, c2.2⟩, if_pos ⟨rfl, by omega, by omega⟩, d1 _ (by omega)]
      · rw [if_neg (by omega), if_neg (by omega)]
  · by_cases c2 : off ≤ i ∧ i < off + k
    · rw [if_pos ⟨rfl, c2.1, c2.2⟩, if_pos ⟨rfl, by omega, by omega⟩, d1 _ (by omega)]
    · rw [if_neg (by omega)]
      by_cases c1 : off + k ≤ i ∧ i < off + k + (s.length - k)
      · rw [if_pos ⟨rfl, c1.1, c1.2⟩, if_pos ⟨rfl, by omega, by omega⟩, d2]
        congr 1
        omega
      · rw [if_neg (by omega), if_neg (by omega)]
theorem write_read {V : VS} (hV : FileOk V.C) {ino : Int} (hi : okN ino = true) {off : Nat} {s : List UInt8} (hod : off + s.length ≤ 1048576) : readB (writeV V (plGe []) ino off s).C ino off s.length = s := by
  rw [read_bytes (write_ok hV hi hod) hi hod]
  apply List.ext_getElem (by simp)
  intro j h1 h2
  rw [List.getElem_map, List.getElem_range, write_fB hV.asc hi hod hi _ (by omega), if_pos ⟨rfl, by omega, by omega⟩, show off + j - off = j by omega, List.getD_eq_getElem?_getD, List.getElem?_eq_getElem h2]
  rfl
/-- A scan of all of a view over nothing. -/
theorem nvScan {d : NV} {w0 y : World} (h : d.at_ w0 y) (hn : d.x.n ≤ 5000) :
    Calls Tryz.prog 22 #[.pointer (some ⟨d.q, 0, none⟩), spv allSp] y fun e y' => ∃ ad cap, e = .returned (.tuple #[.slice ad (lives d.V.C allSp).length cap, .int .i64 0]) ∧ Own encP 62 y' y.heap.size (.slice ad (lives d.V.C allSp).length cap) (lives d.V.C allSp) ∧ VRan noB w0 d.lim (NI d.lim d.p d.pv d.base) 9 (nI d.p) d.q d.x (d.x.n + 4) { d.V with R := d.V.R ++ [allSp] } y { d.x with n := d.x.n + 1 } y' := by
  refine (VAt.scan (ni_base d.lim d.p d.pv d.base) (VAt.re 10 h) (fun i hi => hi.elim) hn allSp).mono fun e y' r => ?_
  rw [scan_lives (NV.asc h)] at r
  obtain ⟨ad, cap, r1, r2, r3⟩ := r
  exact ⟨ad, cap, r1, r2, r3.ran (Nat.le_refl _)⟩
end Go.Proofs.YtdmindhjmjnagaaGreatDoor
/- How many changes a cut leaves; the pairs of files; what a cut to nothing leaves (mathematics). -/
namespace Go.Proofs.YtdmindhjmjnagaaGreatDoor
set_option linter.unusedVariables false
set_option maxRecDepth 100000
open Go.RowKit

theorem putA_same (l : List Ch) (h : Asc Ch.n l) (c : Ch) (hc : (look Ch.n l c.n).isSome = true) : (putA Ch.n l c).length = l.length := by
  induction l with
  | nil => cases hc
  | cons a r ih =>
    obtain ⟨p1, p2⟩ := List.pairwise_cons.1 h
    unfold putA
    by_cases q : Ch.n a < Ch.n c
    · rw [if_pos q, List.length_cons, List.length_cons, ih p2 (by
        simp only [look] at hc
        rw [if_neg (by omega)] at hc
        exact hc)]
    · rw [if_neg q]
      by_cases e : Ch.n a = Ch.n c
      · rw [if_pos e]
        rfl
      · exfalso
        simp only [look] at hc
        rw [if_neg e, look_low Ch.n (fun b hb => by have := p1 b hb; omega)] at hc
        cases hc
theorem chAll_same (V : VS) (h : Asc Ch.n V.C) (l : List Pa) (hl : ∀ p ∈ l, (look Ch.n V.C p.n).isSome = true) : (chAll V l).C.length = V.C.length := by
  unfold chAll
  induction l generalizing V with
  | nil => rfl
  | cons p r ih =>
    rw [List.foldl_cons, ih (V.change (chgP p)) (putA_asc Ch.n _ h) (fun a ha => by
      show (look Ch.n (putA Ch.n V.C (chgP p)) a.n).isSome = true
      rw [putA_look Ch.n _ _ h]
      split
      · rfl
      · exact hl a (List.mem_cons_of_mem _ ha))]
    exact putA_same _ h _ (by rw [chgP_n]; exact hl p List.mem_cons_self)
theorem cutV_same {V : VS} (h : Asc Ch.n V.C) (ino size : Int) : (cutV V ino size).C.length = V.C.length := by
  unfold cutV
  refine chAll_same { V with R := V.R ++ [chsS ino (size / 32)] } h _ (fun p hp => ?_)
  unfold cutL at hp
  obtain ⟨x, hx, hxp⟩ := List.mem_filterMap.1 hp
  rw [(cutO_n hxp).1]
  unfold lives at hx
  obtain ⟨c, hc, rfl⟩ := List.mem_map.1 hx
  have hcm : c ∈ V.C := (List.mem_filter.1 (List.mem_filter.1 hc).1).1
  have := look_mem Ch.n h hcm
  show (look Ch.n V.C c.n).isSome = true
  rw [this]
  rfl
theorem pN_300 {off n : Nat} (h : n ≤ 300) : pN off n ≤ 11 := by
  unfold pN
  split <;> omega
/-! How long the lists are. -/
theorem change_U (V : VS) (hU : V.U = []) (c : Ch) : (V.change c).U = [] := by
  show keepU V.C V.U _ = []
  rw [hU]
  rfl
theorem chAll_U (V : VS) (hU : V.U = []) (l : List Pa) : (chAll V l).U = [] := by
  unfold chAll
  induction l generalizing V with
  | nil => exact hU
  | cons p r ih => exact ih _ (change_U V hU _)
theorem getW_U (V : VS) (K : Kz) : (getW V K).U = V.U := by unfold getW; split <;> rfl
theorem getW_Rlen (V : VS) (K : Kz) : (getW V K).R.length ≤ V.R.length + 1 := by
  unfold getW
  split
  · omega
  · simp
theorem getG_U (V : VS) (ino : Int) (off : Nat) (data : List UInt8) (pre : List Nat) : (getG V ino off data pre).U = V.U := by
  unfold getG
  induction pre generalizing V with
  | nil => rfl
  | cons a l ih =>
    rw [List.foldl_cons, ih]
    unfold gotF
    split
    · rfl
    · exact getW_U _ _
theorem getG_R (V : VS) (ino : Int) (off : Nat) (data : List UInt8) (pre : List Nat) : (getG V ino off data pre).R.length ≤ V.R.length + pre.length := by
  unfold getG
  induction pre generalizing V with
  | nil => simp
  | cons a l ih =>
    rw [List.foldl_cons, List.length_cons]
    have h := ih (gotF ino V (pcM off data.length a))
    have h2 : (gotF ino V (pcM off data.length a)).R.length ≤ V.R.length + 1 := by
      unfold gotF
      split
      · omega
      · exact getW_Rlen _ _
    omega
theorem writeV_U {V : VS} (hU : V.U = []) (ino : Int) (off : Nat) (data : List UInt8) : (writeV V (plGe []) ino off data).U = [] := by
  unfold writeV
  exact chAll_U _ (by rw [getG_U]; exact hU) _
theorem writeV_R (V : VS) (ino : Int) (off : Nat) (data : List UInt8) : (writeV V (plGe []) ino off data).R.length ≤ V.R.length + pN off data.length := by
  unfold writeV
  rw [chAll_R]
  have := getG_R V ino off data (List.range (pN off data.length))
  rw [List.length_range] at this
  exact this
theorem cutV_U {V : VS} (hU : V.U = []) (ino size : Int) : (cutV V ino size).U = [] := by
  unfold cutV
  exact chAll_U { V with R := V.R ++ [chsS ino (size / 32)] } hU _
theorem cutV_R (V : VS) (ino size : Int) : (cutV V ino size).R.length = V.R.length + 1 := by
  unfold cutV
  rw [chAll_R]
  simp
theorem most_of {V : VS} {k : Nat} (hU : V.U = []) (h1 : V.C.length ≤ k) (h2 : V.R.length ≤ k) : V.most k := ⟨h1, h2, by rw [hU]; exact Nat.zero_le _, fun L hL => by rw [hU] at hL; cases hL⟩
/-! Pairs of files. -/
theorem liveG {C : List Ch} (h : FileOk C) {x : Int} {p : Pa} (he : doneA (look Ch.n C x) none = some p) : ∃ (ino : Int) (pl : Nat), okN ino = true ∧ pl ≤ 4294967295 ∧ x = (keyC ino (pl : Int)).n ∧ vAt C ino (pl : Int) ≠ [] ∧ p = ⟨chunkR ino (pl : Int), chunkR_length _ _, vAt C ino (pl : Int)⟩ := by
  cases hl : look Ch.n C x with
  | none =>
    rw [hl] at he
    cases he
  | some c =>
    rw [hl] at he
    obtain ⟨hm, hn⟩ := look_key Ch.n hl
    obtain ⟨ino, pl, i1, i2, h2, _, h5⟩ := h.ok c hm
    have hpl : 0 ≤ pl ∧ pl ≤ 4294967295 := by unfold okP at i2; simp at i2; omega
    obtain ⟨pn, rfl⟩ := Int.eq_ofNat_of_zero_le hpl.1
    unfold doneA at he
    cases hg : c.g with
    | true =>
      simp only [hg, if_true] at he
      cases he
    | false =>
      simp only [hg, Bool.false_eq_true, if_false] at he
      cases he
      have hx : x = (keyC ino (pn : Int)).n := by rw [← hn]; show (num c.k : Int) = (num (chunkR ino (pn : Int)) : Int); rw [h2]
      have hv : vAt C ino (pn : Int) = c.v := by unfold vAt; rw [← hx, hl]
      refine ⟨ino, pn, i1, by omega, hx, ?_, ?_⟩
      · rw [hv]
        intro e
        have := h5.2 e
        rw [hg] at this
        cases this
      · rw [hv]
        obtain ⟨k, hk, v, g⟩ := c
        dsimp only at h2
        subst h2
        rfl
theorem live_mem {C : List Ch} (h : FileOk C) {p : Pa} (hp : p ∈ lives C allSp) : ∃ (ino : Int) (pl : Nat), okN ino = true ∧ pl ≤ 4294967295 ∧ vAt C ino (pl : Int) ≠ [] ∧ p = ⟨chunkR ino (pl : Int), chunkR_length _ _, vAt C ino (pl : Int)⟩ := by
  have h1 := look_mem Pa.n (lives_asc h.asc allSp) hp
  have h0 : (0 : Int) ≤ p.n := Int.natCast_nonneg _
  rw [live_look h _ h0] at h1
  obtain ⟨ino, pl, a, b, _, c, d⟩ := liveG h h1
  exact ⟨ino, pl, a, b, c, d⟩
/-- What is of other files. -/
def notOf (b : Int) (p : Pa) : Bool := !decide (pIno p.k = b)
theorem look_flt {f : Pa → Bool} : ∀ {l : List Pa}, Asc Pa.n l → ∀ x, look Pa.n (l.filter f) x = (look Pa.n l x).filter f
  | [], _, _ => rfl
  | a :: r, h, x => by
    obtain ⟨p1, p2⟩ := List.pairwise_cons.1 h
    rw [List.filter_cons]
    by_cases e : a.n = x
    · simp only [look]
      rw [if_pos e]
      cases hf : f a with
      | true => simp only [if_true, look]; rw [if_pos e]; simp [Option.filter, hf]
      | false =>
        simp only [Bool.false_eq_true, if_false]
        rw [look_flt p2 x, look_low Pa.n (fun b hb => by have := p1 b hb; omega)]
        simp [Option.filter, hf]
    · simp only [look]
      rw [if_neg e]
      cases hf : f a with
      | true => simp only [if_true, look]; rw [if_neg e, look_flt p2 x]
      | false => simp only [Bool.false_eq_true, if_false]; rw [look_flt p2 x]
theorem flt_asc {f : Pa → Bool} {l : List Pa} (h : Asc Pa.n l) : Asc Pa.n (l.filter f) := List.Pairwise.sublist List.filter_sublist h
theorem key_ino {ino : Int} {pl : Nat} (hi : okN ino = true) (hp : pl ≤ 4294967295) : pIno (chunkR ino (pl : Int)) = ino := by
  have h1 : chunkR ino (pl : Int) = chunkK ino.toNat ((pl : Int)).toNat := by unfold chunkR; rw [hi, okP_nat hp]; rfl
  rw [h1]
  exact (chunk_says hi (okP_nat hp)).1
theorem cut_none {V : VS} (h : FileOk V.C) {ino : Int} (hi : okN ino = true) : lives (cutV V ino 0).C allSp = (lives V.C allSp).filter (notOf ino) := by
  have hC := cut_ok h (ino := ino) (size := 0)
  have hv : ∀ (b : Int) (pl : Nat), okN b = true → pl ≤ 4294967295 → vAt (cutV V ino 0).C b (pl : Int) = if b = ino then [] else vAt V.C b (pl : Int) := fun b pl hb hp => by
    have := cut_vAt h hi (sz := 0) (by omega) hb hp
    rw [show ((0 : Nat) : Int) = 0 from rfl] at this
    rw [this]
    by_cases e : b = ino
    · rw [if_pos ⟨e, by omega⟩, if_pos e, show (staysP 0 (pl : Int)).toNat = 0 by unfold staysP; omega, List.take_zero]
      exact trimmed_zeros 0
    · rw [if_neg (by omega), if_neg e]
  refine asc_ext Pa.n (lives_asc hC.asc _) (flt_asc (lives_asc h.asc _)) fun x => ?_
  by_cases h0 : 0 ≤ x
  · rw [look_flt (lives_asc h.asc _), live_look hC x h0, live_look h x h0]
    cases he : doneA (look Ch.n (cutV V ino 0).C x) none with
    | some p =>
      obtain ⟨b, pl, hb, hp, rfl, hne, rfl⟩ := liveG hC he
      rw [hv b pl hb hp] at hne ⊢
      by_cases e : b = ino
      · rw [if_pos e] at hne
        exact absurd rfl hne
      · rw [if_neg e] at hne
        rw [live_of h hne]
        simp only [if_neg e]
        have hnot : notOf ino ⟨chunkR b (pl : Int), chunkR_length _ _, vAt V.C b (pl : Int)⟩ = true := by
          unfold notOf
          rw [key_ino hb hp, decide_eq_false e]
          rfl
        simp [Option.filter, hnot]
    | none =>
      cases hf : doneA (look Ch.n V.C x) none with
      | none => rfl
      | some p =>
        obtain ⟨b, pl, hb, hp, rfl, hne, rfl⟩ := liveG h hf
        by_cases e : b = ino
        · have hnot : notOf ino ⟨chunkR b (pl : Int), chunkR_length _ _, vAt V.C b (pl : Int)⟩ = false := by
            unfold notOf
            rw [key_ino hb hp, decide_eq_true e]
            rfl
          simp [Option.filter, hnot]
        · have hq := hv b pl hb hp
          rw [if_neg e] at hq
          have := live_of hC (by rw [hq]; exact hne)
          rw [he] at this
          cases this
  · have hn : ∀ l : List Pa, look Pa.n l x = none := fun l => (look_none Pa.n).2 fun a _ e => by
      have : (0 : Int) ≤ (num a.k : Int) := Int.natCast_nonneg _
      have e2 : (num a.k : Int) = x := e
      omega
    rw [hn, hn]
/-- The last byte of what was trimmed is no nought. -/
theorem trim_last {v : List UInt8} (ht : trimmed v = v) (h0 : v ≠ []) : v.length ≤ 32 ∧ v.getD (v.length - 1) 0 ≠ 0 := by
  refine ⟨by rw [← ht]; exact trimmed_length v, fun e => ?_⟩
  have hl : v.length ≤ 32 := by rw [← ht]; exact trimmed_length v
  unfold trimmed Lib.trimRightB at ht
  rw [List.take_of_length_le hl] at ht
  rcases List.eq_nil_or_concat v with q | ⟨a, b, rfl⟩
  · exact h0 q
  · have hb : b = 0 := by
      rw [List.getD_eq_getElem?_getD] at e
      simpa using e
    subst hb
    have hlen := congrArg List.length ht
    rw [List.concat_eq_append, List.reverse_append] at hlen
    simp only [List.reverse_singleton, List.cons_append, List.nil_append] at hlen
    rw [List.dropWhile_cons] at hlen
    simp only [beq_self_eq_true, if_true, List.length_reverse, List.length_append, List.length_cons, List.length_nil] at hlen
    have := (List.dropWhile_sublist (fun x : UInt8 => x == 0) (l := a.reverse)).length_le
    simp at this
    omega
end Go.Proofs.YtdmindhjmjnagaaGreatDoor
