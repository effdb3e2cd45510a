import Derived.Test.YtdmindhjmjnagaaGreatDoorSi
import Derived.Test.YtdmindhjmjnagaaGreatDoorB16
import Derived.Test.YtdmindhjmjnagaaGreatDoorB01
/- SpF SpG -/
namespace Go.Proofs.YtdmindhjmjnagaaGreatDoor
set_option linter.unusedVariables false
set_option maxRecDepth 1000000
set_option maxHeartbeats 32000000
section
open Go.RowKit Go.Sort
section
variable {α : Type} [Inhabited α] {k : Nat} (E : Enc α k)
theorem flatK_eq (d : Array α) : flatK E.c k d = (E.flat d.toList).toArray := by
 refine ext_get! (by simp [E.flat_length]) fun t ht => ?_
 have ht' : t < d.size * k := by simpa using ht
 have k0 : 0 < k := by
  rcases Nat.eq_zero_or_pos k with h | h
  · subst h; simp at ht'
  · exact h
 have hd : t / k < d.toList.length := by
  rw [Array.length_toList]
  exact Nat.div_lt_of_lt_mul (by rwa [Nat.mul_comm] at ht')
 have hm : t % k < (E.c d.toList[t / k]).length := by rw [E.len]; exact Nat.mod_lt _ k0
 have h1 := E.flat_get d.toList (t / k) (t % k) hd _ (List.getElem?_eq_getElem hm)
 rw [show t / k * k + t % k = t by rw [Nat.mul_comm]; exact Nat.div_add_mod t k] at h1
 rw [get_flatK _ _ _ t ht']
 have h2 : d[t / k]! = d.toList[t / k] := by
  have : t / k < d.size := by simpa using hd
  rw [getElem!_pos d _ this]; rfl
 rw [h2]
 have h3 : (E.c d.toList[t / k])[t % k]! = (E.c d.toList[t / k])[t % k] := getElem!_pos (E.c d.toList[t / k]) (t % k) hm
 rw [h3]
 have h4 := List.getElem?_eq_some_iff.1 h1
 obtain ⟨h5, h6⟩ := h4
 rw [getElem!_pos (E.flat d.toList).toArray t (by simpa using h5)]
 simpa using h6.symm
theorem holds_own {ty : TypeId} {w : World} {base g cap : Nat} {l : List α} (h : Own E ty w base (.slice (some ⟨g, 0, none⟩) l.length cap) l) : HoldsK E.c k w g 0 l.toArray := by
 intro j hj
 rw [flatK_eq] at hj ⊢
 have hj' : j < (E.flat l).length := by simpa using hj
 have h1 := h.cells (g := g) rfl j _ (List.getElem?_eq_getElem hj')
 rw [Addr.add_mid] at h1
 refine ⟨?_, by simpa using h.frozenAt' (0 + j)⟩
 rw [h1, getElem!_pos (E.flat l).toArray j (by simpa using hj')]
 simp
theorem take_put (cur : Array Value) (F : List Value) (h : F.length ≤ cur.size) : (putCells id 0 F.toArray cur).toList.take F.length = F := by
 apply List.ext_getElem?
 intro j
 by_cases hj : j < F.length
 · rw [List.getElem?_take_of_lt hj, Array.getElem?_toList]
   simp [putCells, hj, show j < cur.size by omega]
 · rw [List.getElem?_take_eq_none (by omega), List.getElem?_eq_none (by omega)]
theorem own_sorted {ty : TypeId} {w : World} {base g cap n : Nat} {l : List α} {os : Array Obj} (h : Own E ty w base (.slice (some ⟨g, 0, none⟩) l.length cap) l) (d : Array α) (hd : d.size = l.length) :
    Own E ty (sortWorldK E.c k w g 0 n d os) base (.slice (some ⟨g, 0, none⟩) l.length cap) d.toList ∧ w.grownBy (sortWorldK E.c k w g 0 n d os) (some g) := by
 rcases h.2 with ⟨h0, _⟩ | ⟨g', cap', cur, hv, h2, h3, h4, h5, h6, h7⟩
 · cases h0
 · cases hv
   have hg : g < w.heap.size := lt_of_block h3
   have hlen : (E.flat d.toList).length = l.length * k := by rw [E.flat_length, Array.length_toList, hd]
   have hb : (sortWorldK E.c k w g 0 n d os).heap[g]? = some (.cells (putCells id 0 (E.flat d.toList).toArray cur) ty (0, 0)) := by
    unfold sortWorldK putRowK
    rw [flatK_eq, heap_grow_old _ _ (by simpa using hg)]
    simp [putRow, mapBlock, Array.getElem?_modify, h3, onCells]
   refine ⟨⟨by rw [E.flat_length], .inr ⟨g, cap, _, by rw [show d.toList.length = l.length by simpa using hd], h2, hb, by rw [Array.length_toList, hd]; exact h4, h5, by simp [putCells, h6], ?_⟩⟩, ?_⟩
   · rw [Array.length_toList, hd, ← hlen]
     refine take_put cur _ ?_
     rw [hlen, h6]
     exact Nat.mul_le_mul_right k h4
   · unfold sortWorldK putRowK
     refine ⟨rfl, rfl, rfl, by simp, fun j hj hne => ?_⟩
     rw [heap_grow_old _ _ (by simpa using hj)]
     have : g ≠ j := fun e => hne (by rw [e])
     simp [putRow, mapBlock, Array.getElem?_modify, this]
end
def cfE (x y : Ed) : Int := Lib.compareBytes x.k y.k
theorem ltE (x y : Ed) : ltOf cfE x y = decide (num x.k < num y.k) := by
 unfold ltOf cfE
 rw [← less_num x.k y.k (by rw [x.hk, y.hk]), ← compare_less]
theorem swoE : SWO (ltOf cfE) where
 irrefl x := by rw [ltE]; simp
 trans x y z h1 h2 := by rw [ltE] at *; simp at *; omega
 ntrans x y z h1 h2 := by rw [ltE] at *; simp at *; omega
theorem perm_of {d d' : Array Ed} (h : PermIn 0 d.size d d') : d'.toList.Perm d.toList := by
 obtain ⟨h1, _, h3⟩ := h
 have e1 : (d'.extract 0 d.size).toList = d'.toList := by rw [← h1]; simp
 have e2 : (d.extract 0 d.size).toList = d.toList := by simp
 rwa [e1, e2] at h3
theorem sorted_of {d : Array Ed} (h : SortedIn (ltOf cfE) 0 d.size d) : d.toList.Pairwise (fun e f => num e.k ≤ num f.k) := by
 rw [List.pairwise_iff_getElem]
 intro i j hi hj hij
 have h1 := h i j (Nat.zero_le _) hij (by simpa using hj)
 have e1 : d[i]! = d.toList[i] := by rw [getElem!_pos d i (by simpa using hi)]; rfl
 have e2 : d[j]! = d.toList[j] := by rw [getElem!_pos d j (by simpa using hj)]; rfl
 rw [e1, e2, ltE] at h1
 simp at h1
 simpa using h1
theorem sort_calls (w : World) (p : Nat) (v : Value) (es : List Ed) (h : EV w p v es) (hl : es.length ≤ 1000000) :
    Calls Tryz.prog 133 #[v, .func (.func 134) #[] #[]] w fun e w' => e = .returned (.tuple #[]) ∧ ∃ es', es'.Perm es ∧ es'.Pairwise (fun e f => num e.k ≤ num f.k) ∧ EV w' p v es' ∧ w.grownBy w' v.ownBlock := by
 have eg : ∀ args w, (callFunc 134 args).run Tryz.prog w = .ok (.enter 134 args) w := enters_of Tryz.func134 (by kernel_rfl) rfl
 rcases h.own.2 with ⟨rfl, h0⟩ | ⟨g, cap, cur, rfl, hb, hg, _⟩
 · have he : es = [] := List.eq_nil_of_length_eq_zero h0
   subst he
   have hc := AnyF.slices_SortFunc_none (P := Tryz.prog) (ρ := Tryz.sortE_ren) { Tryz.sortE with } none 0 (.func (.func 134) #[] #[]) w
   refine Calls.mono (show Calls Tryz.prog 133 _ _ _ from hc) ?_
   rintro e w' ⟨rfl, rfl⟩
   exact ⟨rfl, [], List.Perm.refl _, List.Pairwise.nil, h, ⟨rfl, rfl, rfl, Nat.le_refl _, fun _ _ _ => rfl⟩⟩
 · have hlt := lt_of_block hg
   have hc := AnyQ.slices_SortFunc Tryz.sortE 26 Tryz.isAgg189 Tryz.sizeOf189 encE.c encE.len encE.one cfE swoE 134 #[] g 0 cap es.toArray w eg
     (fun _ _ _ _ x y => cmp3_calls _ x y) (holds_own encE h.own) hlt (by simp; omega)
   refine Calls.mono (show Calls Tryz.prog 133 _ _ _ from hc) ?_
   rintro e w' ⟨rfl, d', n, os, hp, hs, rfl⟩
   have hsz : d'.size = es.length := by have := hp.1; simpa using this
   obtain ⟨o1, o2⟩ := own_sorted encE (n := n) (os := os) h.own d' hsz
   refine ⟨rfl, d'.toList, by simpa using perm_of hp, sorted_of (by rw [hsz]; simpa using hs), ⟨?_, o1⟩, o2⟩
   exact (o2.block p h.lt (fun e => by have := (h.row g rfl).1; simp at e; omega)).trans h.var
end
section
open Go.RowKit
theorem exec_ne_key {f : Operand → Value} {o : Oper} (x y : Operand) (t' : TypeId) (ho : o.op = .binOp .neq 54 x y t') (K L : List UInt8) (hx : f x = kv K) (hy : f y = kv L) (hK : K.length = 24) (hL : L.length = 24) (w : World) : (execOp f o).run Tryz.prog w = .ok (.value (.bool (!(K == L)))) w := by
 unfold execOp
 rw [ho]
 have hm : Tryz.prog.eqGuardType Tryz.prog.depth 54 = false := by kernel_rfl
 simp only [hx, hy, Sem.run_bind, run_eqGuard_agg w .neq 54 x y _ _ hm, run_neq_struct, eq_key w K L hK hL, Result.andThen_ok, Sem.run_pure]
structure Lp (w4 : World) (es : List Ed) (keep : Bool → Bool → Bool) (R : List Sp) (k : Nat) (A B : Int) (S : List Sp) (v : Value) (wr : World) : Prop where
 bel : Below w4.heap.size w4 wr
 own : Own encS 56 wr w4.heap.size v S
 res : goS keep (es.drop k) A B S = R
 a : -(k : Int) ≤ A ∧ A ≤ k
 b : -(k : Int) ≤ B ∧ B ≤ k
 len : S.length ≤ k
def SmallE (e : Ed) : Prop := (-1 ≤ e.a ∧ e.a ≤ 1) ∧ (-1 ≤ e.b ∧ e.b ≤ 1)
theorem looks_small (a b : List Sp) : ∀ e ∈ looks edA a ++ looks edB b, SmallE e := by
 intro e he
 have hh : ∀ (mk : (K : List UInt8) → K.length = 24 → Int → Ed) (l : List Sp), (∀ K hK, SmallE (mk K hK 1)) → (∀ K hK, SmallE (mk K hK (-1))) → ∀ e ∈ looks mk l, SmallE e := fun mk l h1 h2 e he => by
  simp only [looks, List.mem_flatMap] at he
  obtain ⟨s, _, hs⟩ := he
  unfold tells at hs
  split at hs
  · cases hs
  · rcases List.mem_cons.1 hs with rfl | hs
    · exact h1 _ _
    · split at hs
      · cases hs
      · rw [List.mem_singleton] at hs
        subst hs
        exact h2 _ _
 rcases List.mem_append.1 he with he | he
 · exact hh edA a (fun K hK => by simp [SmallE, edA]) (fun K hK => by simp [SmallE, edA]) e he
 · exact hh edB b (fun K hK => by simp [SmallE, edB]) (fun K hK => by simp [SmallE, edB]) e he
theorem closes_last (es : List Ed) (k : Nat) (h : k + 1 = es.length) (e : Ed) : closes (es.drop (k + 1)) e = true := by rw [List.drop_of_length_le (by omega)]; rfl
theorem closes_next (es : List Ed) (k : Nat) (h : k + 1 < es.length) (e : Ed) : closes (es.drop (k + 1)) e = !((es[k + 1]).k == e.k) := by
 rw [List.drop_eq_getElem_cons h, closes]
 by_cases q : (es[k + 1]).k = e.k <;> simp [q]
theorem Lp.step {w4 : World} {es : List Ed} {keep : Bool → Bool → Bool} {R : List Sp} {k : Nat} {A B : Int} {S : List Sp} {v : Value} {wr : World} (h : Lp w4 es keep R k A B S v wr) (hk : k < es.length) (hs : SmallE es[k]) {y : World} {v' : Value} {S' : List Sp} (hb : Below w4.heap.size w4 y) (ho : Own encS 56 y w4.heap.size v' S') (hl : S'.length ≤ S.length + 1)
    (hS : (if closes (es.drop (k + 1)) es[k] then turnP S (es[k]).k (es[k]).hk (keep (decide (0 < A + (es[k]).a)) (decide (0 < B + (es[k]).b))) else S) = S') : Lp w4 es keep R (k + 1) (A + (es[k]).a) (B + (es[k]).b) S' v' y := by
 refine ⟨hb, ho, ?_, ?_, ?_, ?_⟩
 · have := h.res
   rw [List.drop_eq_getElem_cons hk, goS, hS] at this
   exact this
 · have := h.a; have := hs.1; omega
 · have := h.b; have := hs.2; omega
 · have := h.len; omega
theorem sweep_calls (fk : Nat) (keep : Bool → Bool → Bool) (hk0 : keep false false = false) (egk : ∀ args w, (callFunc fk args).run Tryz.prog w = .ok (.enter fk args) w)
    (hkc : ∀ W x y, Calls Tryz.prog fk #[.bool x, .bool y] W fun e w' => e = .returned (.bool (keep x y)) ∧ w' = W) (w : World) (ua ub : Value) (a b : List Sp) (ha : Sl encS w ua a) (hb : Sl encS w ub b) (hl : a.length + b.length ≤ 100000) :
    Calls Tryz.prog 93 #[ua, ub, .func (.func fk) #[] #[]] w fun e w' => ∃ v R, e = .returned v ∧ Own encS 56 w' w.heap.size v R ∧ Below w.heap.size w w' ∧ Is R (fun x => keep (mem a x) (mem b x)) ∧ R.length ≤ 2 * (a.length + b.length) := by
 have b1 : Below w.heap.size w (w.alloc (.cells #[.slice none 0 0] 186)) := (Below.refl _ w).alloc (Nat.le_refl _) _
 have ev1 : EV (w.alloc (.cells #[.slice none 0 0] 186)) w.heap.size (.slice none 0 0) [] := ⟨heap_alloc_new _ _, Own.nil _ _ _ _⟩
 have sa1 : SlB encS (w.alloc (.cells #[.slice none 0 0] 186)) w.heap.size ua a := ha.below b1
 have sb1 : SlB encS (w.alloc (.cells #[.slice none 0 0] 186)) w.heap.size ub b := hb.below b1
 have eg1 : ∀ args w, (callFunc 131 args).run Tryz.prog w = .ok (.enter 131 args) w := enters_of Tryz.func131 (by kernel_rfl) rfl
 have eg2 : ∀ args w, (callFunc 132 args).run Tryz.prog w = .ok (.enter 132 args) w := enters_of Tryz.func132 (by kernel_rfl) rfl
 have hL1 := look_calls 131 edA w.heap.size (tellA _) eg1 _ ua a sa1 _ [] ev1 (by simp; omega)
 have hlA := looks_len edA a
 have hlB := looks_len edB b
 have HB1 : Hid (Below w.heap.size w (w.alloc (.cells #[.slice none 0 0] 186))) := b1
 have HSB : Hid (SlB encS (w.alloc (.cells #[.slice none 0 0] 186)) w.heap.size ub b) := sb1
 have HKC : Hid (∀ W x y, Calls Tryz.prog fk #[.bool x, .bool y] W fun e w' => e = .returned (.bool (keep x y)) ∧ w' = W) := hkc
 have HEG : Hid (∀ args w, (callFunc fk args).run Tryz.prog w = .ok (.enter fk args) w) := egk
 clear ev1 sa1 sb1 eg1 b1 ha hb hkc egk
 go_enter Tryz.func93, Tryz.ntmps93
 go_upto_region 3 with (first
  | (go_at_call 130; refine hL1.mono ?_; clear hL1; rintro e w2 ⟨rfl, ev2⟩))
 obtain ⟨⟨v2, ev2, n2⟩, t2⟩ := ev2
 clear n2
 have hL2 := look_calls 132 edB w.heap.size (tellB _) eg2 w2 ub b (HSB.out.below (t2.below (by simp) (Nat.le_refl _) (by simp [Value.ownBlock]))) v2 _ ev2 (by simp only [List.nil_append]; omega)
 have HB2 : Hid (Below w.heap.size w w2) := HB1.out.trans (t2.below (by simp) (Nat.le_refl _) (by simp [Value.ownBlock]))
 have hr2 := ev2.row
 have h2lt := ev2.lt
 clear HB1 HSB eg2 t2 ev2
 simp only [List.nil_append] at hL2
 go_upto_region 4 with (first
  | (go_at_call 130; refine hL2.mono ?_; clear hL2; rintro e w3 ⟨rfl, ev3⟩))
 obtain ⟨⟨v3, ev3, n3⟩, t3⟩ := ev3
 clear n3
 have HB3 : Hid (Below w.heap.size w w3) := HB2.out.trans (t3.below (by omega) (Nat.le_refl _) (fun k hk => by have := (hr2 k hk).1; omega))
 have hS := sort_calls w3 w.heap.size v3 _ ev3 (by simp only [List.length_append]; omega)
 have c3 : w3.cell? ⟨w.heap.size, 0, none⟩ = some v3 := by rw [cell_of_row _ _ 0 _ _ _ ev3.var]; rfl
 have hr3 := ev3.row
 have hsm := looks_small a b
 have HRES : Hid (∀ es : List Ed, es.Perm (looks edA a ++ looks edB b) → es.Pairwise (fun e f => num e.k ≤ num f.k) → Is (goS keep es 0 0 []) (fun x => keep (mem a x) (mem b x))) := fun es h1 h2 => sweep_is keep hk0 a b es h1 h2
 have hlE : (looks edA a ++ looks edB b).length ≤ 2 * (a.length + b.length) := by rw [List.length_append]; omega
 clear HB2 t3 hr2 hlA hlB hk0 ev3
 generalize looks edA a ++ looks edB b = E0 at *
 go_upto_region 5 with (first
  | (go_at_call 133; refine hS.mono ?_; clear hS; rintro e w4 ⟨rfl, es, hperm, hsort, ev4, gr4⟩))
 have HB4 : Hid (Below w.heap.size w w4) := HB3.out.grown gr4 (by have := HB3.out.size; omega) (fun k hk => by have := (hr3 k hk).1; omega)
 have HIS : Hid (Is (goS keep es 0 0 []) (fun x => keep (mem a x) (mem b x))) := HRES.out es hperm hsort
 have hNl : es.length ≤ 2 * (a.length + b.length) := by rw [hperm.length_eq]; exact hlE
 have HSM : Hid (∀ e ∈ es, SmallE e) := fun e he => hsm e (hperm.mem_iff.1 he)
 have HRL : Hid ((goS keep es 0 0 []).length ≤ 2 * (a.length + b.length)) := by
  show (goS keep es 0 0 []).length ≤ 2 * (a.length + b.length)
  have h1 := goS_len keep es 0 0 []
  simp only [List.length_nil, Nat.zero_add] at h1
  omega
 have sl4 := ev4.own.slB
 obtain ⟨ad, cap, rfl, hcap, hmax, q1, q2⟩ := id sl4
 clear q1 q2
 have hgg : ∀ k (hk : k < es.length), ∃ g, ad = some ⟨g, 0, none⟩ ∧ g < w4.heap.size ∧ w4.rangeAt g (k * 26) (encE.c es[k]) := fun k hk => by
  have h2 : es.length ≠ 0 := by omega
  rcases ev4.own.2 with ⟨_, h0⟩ | ⟨g', cap', cur, hv, _⟩
  · omega
  · cases hv
    obtain ⟨g, off, e1, h1, hr⟩ := SlB.at sl4 k hk
    cases e1
    exact ⟨g', rfl, h1, by simpa using hr⟩
 have c4 : w4.cell? ⟨w.heap.size, 0, none⟩ = some (.slice ad es.length cap) := by rw [cell_of_row _ _ 0 _ _ _ ev4.var]; rfl
 have HC4 : Hid (w4.cell? ⟨w.heap.size, 0, none⟩ = some (.slice ad es.length cap) ∧ w.heap.size < w4.heap.size) := ⟨c4, ev4.lt⟩
 obtain ⟨R, hR⟩ : ∃ R, R = goS keep es 0 0 [] := ⟨_, rfl⟩
 rw [← hR] at HIS HRL
 obtain ⟨N, hN⟩ : ∃ N : Nat, N = es.length := ⟨_, rfl⟩
 have HN : Hid (N = es.length) := hN
 rw [← hN] at hcap hmax c4 hNl HC4
 have HG : Hid (∀ k (hk : k < es.length), ∃ g, ad = some ⟨g, 0, none⟩ ∧ g < w4.heap.size ∧ w4.rangeAt g (k * 26) (encE.c es[k])) := hgg
 have HST : Hid (Lp w4 es keep R 0 0 0 [] (.slice none 0 0) w4) := ⟨Below.refl _ _, Own.nil _ _ _ _, hR.symm, by omega, by omega, by simp⟩
 have hN6 : N ≤ 200000 := by omega
 clear HB3 c3 hr3 hsm HRES hlE hperm hsort ev4 gr4 sl4 hgg hR hN hNl hl h2lt hmax v2 w2 w3 E0
 go_wp2_with fail
 go_loopg [8, 9, 10, 23] N (fun gg s8 s9 s10 s23 wr => ∃ (k : Nat) (A B : Int) (S : List Sp), k + gg = N ∧ s23 = .int .i64 (k : Int) ∧ s9 = .int .i64 A ∧ s10 = .int .i64 B ∧ Hid (Lp w4 es keep R k A B S s8 wr))
 case atStart => exact ⟨0, 0, 0, [], by omega, rfl, rfl, rfl, HST.out⟩
 case round =>
  obtain ⟨k, A, B, S, hkg, rfl, rfl, rfl, HL⟩ := hrel
  cases gk with
  | zero =>
   have hkN : k = N := by omega
   subst hkN
   go_wp2_with fail
   go_ret
   have h1 := HL.out.res
   rw [List.drop_of_length_le (by have := HN.out; omega), goS] at h1
   subst h1
   exact ⟨_, S, rfl, HL.out.own.mono (by have := HB4.out.size; omega), HB4.out.trans (HL.out.bel.mono HB4.out.size), HIS.out, HRL.out⟩
  | succ gg =>
   have hlt : k < N := by omega
   have hltI : (k : Int) < (N : Int) := by omega
   have hkl : k < es.length := by have := HN.out; omega
   obtain ⟨g, rfl, hg, hat⟩ := HG.out k hkl
   have HR : Hid (wr.rangeAt g (k * 26) (encE.c es[k])) := range_same' hat (HL.out.bel.block g hg)
   have hsm := HSM.out es[k] (List.getElem_mem hkl)
   have HSTEP : Hid (∀ (y : World) (v' : Value) (S' : List Sp), Below w4.heap.size w4 y → Own encS 56 y w4.heap.size v' S' → S'.length ≤ S.length + 1 → (if closes (es.drop (k + 1)) es[k] then turnP S (es[k]).k (es[k]).hk (keep (decide (0 < A + (es[k]).a)) (decide (0 < B + (es[k]).b))) else S) = S' → Lp w4 es keep R (k + 1) (A + (es[k]).a) (B + (es[k]).b) S' v' y) := fun y v' S' h1 h2 h3 h4 => HL.out.step hkl hsm h1 h2 h3 h4
   obtain ⟨ha1, ha2⟩ := HL.out.a
   obtain ⟨hb1, hb2⟩ := HL.out.b
   obtain ⟨⟨he1, he2⟩, he3, he4⟩ := hsm
   have HCL : Hid (k + 1 = es.length → closes (es.drop (k + 1)) es[k] = true) := fun h => closes_last es k h _
   have HCN : Hid (∀ h : k + 1 < es.length, closes (es.drop (k + 1)) es[k] = !((es[k + 1]).k == (es[k]).k)) := fun h => closes_next es k h _
   have HKS : Hid (wrap64 ((k : Int) + 1) = ((k + 1 : Nat) : Int)) := wrap_next hlt (by unfold maxLen; omega)
   have hwr := HL.out.bel.size
   generalize es[k] = e at *
   clear hat
   go_upto_region 10 with (first
    | (refine load_el elE _ rfl g (k * 26) rfl rfl e HR.out ?_)
    | (refine store_el elE rfl _ _ rfl wr.heap.size rfl e rfl ed0 (InB.new encE _ wr ed0 _ rfl) ?_; intro x1 hu1 tx1 sx1))
   have BX : Below wr.heap.size wr x1 := ((Below.refl _ wr).alloc (Nat.le_refl _) _).trans (tx1.below (by simp) (Nat.le_refl _) (by simp))
   have HX : Hid (Below w4.heap.size w4 x1 ∧ Own encS 56 x1 w4.heap.size u8 S ∧ ∀ j, u8.ownBlock = some j → w4.heap.size ≤ j ∧ j < wr.heap.size) := ⟨HL.out.bel.trans (BX.mono hwr), HL.out.own.below BX, HL.out.own.lt⟩
   obtain ⟨ca, cb⟩ := range_ab hu1.range
   simp only [Nat.zero_add] at ca cb
   have hxs : x1.heap.size = wr.heap.size + 1 := by rw [sx1]; simp
   have HLEN : Hid (S.length ≤ k) := HL.out.len
   clear HL HR tx1 sx1 BX
   generalize wr.heap.size = q at *
   go_upto_region 12 with fail
   have cX : x1.cell? ⟨w.heap.size, 0, none⟩ = some (.slice (some ⟨g, 0, none⟩) N cap) := (HX.out.1.cell (p := ⟨w.heap.size, 0, none⟩) HC4.out.2).trans HC4.out.1
   by_cases hlast : k + 1 = N
   · have hE : (((k : Int) + 1) == ((N : Nat) : Int)) = true := by rw [← hlast]; simp
     have HCT : Hid (closes (es.drop (k + 1)) e = true) := HCL.out (by rw [hlast]; exact HN.out)
     have HU : Hid (InB encE 189 x1 q e) := hu1
     clear HCL HCN hu1
     go_quiet (fail)
     have HY : Hid (InB encE 189 (x1.drewN nq) q e ∧ Below w4.heap.size w4 (x1.drewN nq) ∧ Own encS 56 (x1.drewN nq) w4.heap.size u8 S) := ⟨⟨HU.out.blk⟩, below_drewN HX.out.1 nq, HX.out.2.1⟩
     have egk := HEG.out
     have hiE2 : (Tryz.prog.info? 54).map (·.size) = some (bc e.k).length := by rw [bc_length, e.hk]; exact Tryz.key_info
     go_upto_region 13 with fail
     clear cX
     generalize (x1.drewN nq) = x5 at *
     refine wp_region_noPanic ?_
     refine wp_region_held_drew (S := (fun yy => InB encE 189 yy q e)) (by kernel_rfl) ⟨HY.out.1.blk⟩ (fun hh => ?_)
     refine tl ?_ 0 rfl hh ⟨by rfl, ?_⟩ ?_
     case refine_2 => (intro w hSw; go_simp; try with_reducible rfl)
     (try simp only [gs])
     refine tl ?_ 1 rfl hh ⟨by rfl, ?_⟩ ?_
     case refine_2 => (intro w hSw; go_simp; try with_reducible rfl)
     (try simp only [gs])
     refine tk 2 rfl hh (yieldsIf_load_mid (by rfl) _ _ rfl _ _ rfl _ _ (fun _ h => range_k h.range) Tryz.underlying54 rfl hiE2) ?_
     (try simp only [gs])
     refine tl ?_ 3 rfl hh ⟨by rfl, ?_⟩ ?_
     case refine_2 => (intro w hSw; go_simp; try with_reducible rfl)
     (try simp only [gs])
     refine tl ?_ 4 rfl hh ⟨by rfl, ?_⟩ ?_
     case refine_2 => (intro w hSw; go_simp; try with_reducible rfl)
     (try simp only [gs])
     refine tl ?_ 5 rfl hh ⟨by rfl, ?_⟩ ?_
     case refine_2 => (intro w hSw; go_simp; try with_reducible rfl)
     (try simp only [gs])
     refine tl ?_ 6 rfl hh ⟨by rfl, ?_⟩ ?_
     case refine_2 => (intro w hSw; go_simp; try with_reducible rfl)
     (try simp only [gs])
     refine tl ?_ 7 rfl hh ⟨by rfl, ?_⟩ ?_
     case refine_2 => (intro w hSw; go_simp; try with_reducible rfl)
     (try simp only [gs])
     have HY6 : Hid (Below w4.heap.size w4 x5.drew ∧ Own encS 56 x5.drew w4.heap.size u8 S) := ⟨HY.out.2.1.drew, HY.out.2.2⟩
     generalize x5.drew = x6 at *
     refine wpAnyH_ready (rs := [8]) (by kernel_rfl) (by simp) (AllReadyH.cons rfl (fun K hK => ?_) AllReadyH.nil)
     rw [if_pos (by rfl)]
     (try simp only [gs])
     go_simp
     refine (HKC.out _ _ _).mono ?_
     rintro e0 y8 ⟨rfl, rfl⟩
     refine hK.out _ _ hh (fun hh => ?_)
     clear hK K
     (try simp only [gs])
     clear egk
     refine wpAnyH_ready (rs := [9]) (by kernel_rfl) (by simp) (AllReadyH.cons rfl (fun K hK => ?_) AllReadyH.nil)
     rw [if_pos (by rfl)]
     (try simp only [gs])
     go_simp
     refine (turn_calls y8 w4.heap.size u8 S HY6.out.2 e.k e.hk _ HY6.out.1.size (by have := HLEN.out; omega)).mono ?_
     rintro e0 y9 ⟨v9, rfl, o9, gr9, n9⟩
     refine hK.out _ _ (InB.same hh (gr9.block q hh.lt (fun r => by have := (HX.out.2.2 q r.symm).2; omega))) (fun hh => ?_)
     clear hK K
     (try simp only [gs])
     refine tl ?_ 10 rfl hh ⟨by rfl, ?_⟩ ?_
     case refine_2 => (intro w hSw; go_simp; try with_reducible rfl)
     (try simp only [gs])
     refine wpAnyH_done (by kernel_rfl) ?_ _
     refine NoPanic.normal ?_
     go_wp2_with fail
     go_roundg gg
     case measure => omega
     case rel => exact ⟨k + 1, A + e.a, B + e.b, _, by omega, congrArg (Value.int .i64) (show (k : Int) + 1 = ((k + 1 : Nat) : Int) by omega), rfl, rfl, HSTEP.out y9 v9 _ (HY6.out.1.grown gr9 HY6.out.1.size (fun j hj => (HX.out.2.2 j hj).1)) o9 (turn_len _ _ _ _) (by rw [HCT.out]; rfl)⟩
   · have hnext : k + 1 < N := by omega
     have hE : (((k : Int) + 1) == ((N : Nat) : Int)) = false := by simp; omega
     have hn2 : k + 1 < es.length := by have := HN.out; omega
     obtain ⟨g', e', hg', hat'⟩ := HG.out (k + 1) hn2
     cases e'
     have HCT := HCN.out hn2
     have rF : x1.rangeAt g ((k + 1) * 26) (bc (es[k + 1]).k) := range_k (range_same' hat' (HX.out.1.block g hg))
     have rE : x1.rangeAt q 0 (bc e.k) := range_k hu1.range
     have hF24 := (es[k + 1]).hk
     have hE24 := e.hk
     have HCT : Hid (closes (es.drop (k + 1)) e = !((es[k + 1]).k == e.k)) := HCT
     have HU : Hid (InB encE 189 x1 q e) := hu1
     clear HCL HCN hat' hu1
     generalize (es[k + 1]).k = FK at *
     have hiF : (Tryz.prog.info? 54).map (·.size) = some (bc FK).length := by rw [bc_length, hF24]; exact Tryz.key_info
     have hiE : (Tryz.prog.info? 54).map (·.size) = some (bc e.k).length := by rw [bc_length, hE24]; exact Tryz.key_info
     have hw1 : IntKind.i64.wrap ((k : Int) + 1) = (k : Int) + 1 := by simp [IntKind.wrap, IntKind.bits, IntKind.signed]; omega
     have hi0 : (0 : Int) ≤ (k : Int) + 1 := by omega
     have hi1 : (k : Int) + 1 < (N : Int) := by omega
     refine wp_region_noPanic ?_
     refine wp_region_held_drew (S := (fun yy => yy.cell? ⟨w.heap.size, 0, none⟩ = some (.slice (some ⟨g, 0, none⟩) N cap) ∧ yy.rangeAt g ((k + 1) * 26) (bc FK) ∧ yy.rangeAt q 0 (bc e.k))) (by kernel_rfl) ⟨cX, rF, rE⟩ (fun hh => ?_)
     refine tl ?_ 0 rfl hh ⟨by rfl, ?_⟩ ?_
     case refine_2 => (intro w hSw; obtain ⟨z1, z2, z3⟩ := hSw; go_simp; try with_reducible rfl)
     (try simp only [gs])
     refine tl ?_ 1 rfl hh ⟨by rfl, ?_⟩ ?_
     case refine_2 => (intro w hSw; obtain ⟨z1, z2, z3⟩ := hSw; go_simp; try with_reducible rfl)
     (try simp only [gs])
     refine tl ?_ 2 rfl hh ⟨by rfl, ?_⟩ ?_
     case refine_2 => (intro w hSw; obtain ⟨z1, z2, z3⟩ := hSw; go_simp; try with_reducible rfl)
     (try simp only [gs])
     refine tl ?_ 3 rfl hh ⟨by rfl, ?_⟩ ?_
     case refine_2 => (intro w hSw; obtain ⟨z1, z2, z3⟩ := hSw; go_simp; try with_reducible rfl)
     (try simp only [gs])
     refine tl ?_ 4 rfl hh ⟨by rfl, ?_⟩ ?_
     case refine_2 => (intro w hSw; obtain ⟨z1, z2, z3⟩ := hSw; go_simp; try with_reducible rfl)
     (try simp only [gs])
     refine tl ?_ 5 rfl hh ⟨by rfl, ?_⟩ ?_
     case refine_2 => (intro w hSw; obtain ⟨z1, z2, z3⟩ := hSw; go_simp; try with_reducible rfl)
     (try simp only [gs])
     refine tl ?_ 6 rfl hh ⟨by rfl, ?_⟩ ?_
     case refine_2 => (intro w hSw; obtain ⟨z1, z2, z3⟩ := hSw; go_simp; try with_reducible rfl)
     (try simp only [gs])
     refine tl ?_ 7 rfl hh ⟨by rfl, ?_⟩ ?_
     case refine_2 => (intro w hSw; obtain ⟨z1, z2, z3⟩ := hSw; go_simp; try with_reducible rfl)
     (try simp only [gs])
     refine tl ?_ 8 rfl hh ⟨by rfl, ?_⟩ ?_
     case refine_2 => (intro w hSw; obtain ⟨z1, z2, z3⟩ := hSw; go_simp; try with_reducible rfl)
     (try simp only [gs])
     refine tl ?_ 9 rfl hh ⟨by rfl, ?_⟩ ?_
     case refine_2 => (intro w hSw; obtain ⟨z1, z2, z3⟩ := hSw; go_simp; try with_reducible rfl)
     (try simp only [gs])
     refine tl ?_ 10 rfl hh ⟨by rfl, ?_⟩ ?_
     case refine_2 => (intro w hSw; obtain ⟨z1, z2, z3⟩ := hSw; go_simp; try with_reducible rfl)
     (try simp only [gs])
     refine tk 11 rfl hh (yieldsIf_load_mid (by rfl) _ _ rfl _ _ rfl _ _ (fun _ h => h.2.1) Tryz.underlying54 rfl hiF) ?_
     (try simp only [gs])
     refine tl ?_ 12 rfl hh ⟨by rfl, ?_⟩ ?_
     case refine_2 => (intro w hSw; obtain ⟨z1, z2, z3⟩ := hSw; go_simp; try with_reducible rfl)
     (try simp only [gs])
     refine tk 13 rfl hh (yieldsIf_load_mid (by rfl) _ _ rfl _ _ rfl _ _ (fun _ h => h.2.2) Tryz.underlying54 rfl hiE) ?_
     (try simp only [gs])
     refine wpAnyH_take (i := 14) (v := .bool (!(FK == e.k))) rfl (by kernel_rfl) (by kernel_rfl) (by kernel_rfl) (fun _ _ _ h => h) (Or.inl ⟨by rfl, fun w _ => exec_ne_key _ _ _ rfl FK e.k rfl rfl hF24 hE24 w⟩) hh ?_
     (try simp only [gs])
     refine tl ?_ 15 rfl hh ⟨by rfl, ?_⟩ ?_
     case refine_2 => (intro w hSw; obtain ⟨z1, z2, z3⟩ := hSw; go_simp; try with_reducible rfl)
     (try simp only [gs])
     refine wpAnyH_done (by kernel_rfl) ?_ _
     refine NoPanic.normal ?_
     cases hq : (FK == e.k) with
     | true =>
      have HCF : Hid (closes (es.drop (k + 1)) e = false) := (show _ = _ by rw [HCT.out, hq]; rfl)
      simp only [Bool.not_true]
      go_wp2_with fail
      go_roundg gg
      case measure => omega
      case rel => exact ⟨k + 1, A + e.a, B + e.b, S, by omega, congrArg (Value.int .i64) (show (k : Int) + 1 = ((k + 1 : Nat) : Int) by omega), rfl, rfl, HSTEP.out _ _ S (below_drewN HX.out.1 1) HX.out.2.1 (by omega) (by rw [HCF.out]; rfl)⟩
     | false =>
      have HCF : Hid (closes (es.drop (k + 1)) e = true) := (show _ = _ by rw [HCT.out, hq]; rfl)
      simp only [Bool.not_false]
      have HY : Hid (InB encE 189 x1.drew q e ∧ Below w4.heap.size w4 x1.drew ∧ Own encS 56 x1.drew w4.heap.size u8 S) := ⟨⟨HU.out.blk⟩, below_drewN HX.out.1 1, HX.out.2.1⟩
      have egk := HEG.out
      have hiE2 : (Tryz.prog.info? 54).map (·.size) = some (bc e.k).length := by rw [bc_length, e.hk]; exact Tryz.key_info
      go_upto_region 13 with fail
      clear cX rF rE hh
      generalize x1.drew = x5 at *
      refine wp_region_noPanic ?_
      refine wp_region_held_drew (S := (fun yy => InB encE 189 yy q e)) (by kernel_rfl) ⟨HY.out.1.blk⟩ (fun hh => ?_)
      refine tl ?_ 0 rfl hh ⟨by rfl, ?_⟩ ?_
      case refine_2 => (intro w hSw; go_simp; try with_reducible rfl)
      (try simp only [gs])
      refine tl ?_ 1 rfl hh ⟨by rfl, ?_⟩ ?_
      case refine_2 => (intro w hSw; go_simp; try with_reducible rfl)
      (try simp only [gs])
      refine tk 2 rfl hh (yieldsIf_load_mid (by rfl) _ _ rfl _ _ rfl _ _ (fun _ h => range_k h.range) Tryz.underlying54 rfl hiE2) ?_
      (try simp only [gs])
      refine tl ?_ 3 rfl hh ⟨by rfl, ?_⟩ ?_
      case refine_2 => (intro w hSw; go_simp; try with_reducible rfl)
      (try simp only [gs])
      refine tl ?_ 4 rfl hh ⟨by rfl, ?_⟩ ?_
      case refine_2 => (intro w hSw; go_simp; try with_reducible rfl)
      (try simp only [gs])
      refine tl ?_ 5 rfl hh ⟨by rfl, ?_⟩ ?_
      case refine_2 => (intro w hSw; go_simp; try with_reducible rfl)
      (try simp only [gs])
      refine tl ?_ 6 rfl hh ⟨by rfl, ?_⟩ ?_
      case refine_2 => (intro w hSw; go_simp; try with_reducible rfl)
      (try simp only [gs])
      refine tl ?_ 7 rfl hh ⟨by rfl, ?_⟩ ?_
      case refine_2 => (intro w hSw; go_simp; try with_reducible rfl)
      (try simp only [gs])
      have HY6 : Hid (Below w4.heap.size w4 x5.drew ∧ Own encS 56 x5.drew w4.heap.size u8 S) := ⟨HY.out.2.1.drew, HY.out.2.2⟩
      generalize x5.drew = x6 at *
      refine wpAnyH_ready (rs := [8]) (by kernel_rfl) (by simp) (AllReadyH.cons rfl (fun K hK => ?_) AllReadyH.nil)
      rw [if_pos (by rfl)]
      (try simp only [gs])
      go_simp
      refine (HKC.out _ _ _).mono ?_
      rintro e0 y8 ⟨rfl, rfl⟩
      refine hK.out _ _ hh (fun hh => ?_)
      clear hK K
      (try simp only [gs])
      clear egk
      refine wpAnyH_ready (rs := [9]) (by kernel_rfl) (by simp) (AllReadyH.cons rfl (fun K hK => ?_) AllReadyH.nil)
      rw [if_pos (by rfl)]
      (try simp only [gs])
      go_simp
      refine (turn_calls y8 w4.heap.size u8 S HY6.out.2 e.k e.hk _ HY6.out.1.size (by have := HLEN.out; omega)).mono ?_
      rintro e0 y9 ⟨v9, rfl, o9, gr9, n9⟩
      refine hK.out _ _ (InB.same hh (gr9.block q hh.lt (fun r => by have := (HX.out.2.2 q r.symm).2; omega))) (fun hh => ?_)
      clear hK K
      (try simp only [gs])
      refine tl ?_ 10 rfl hh ⟨by rfl, ?_⟩ ?_
      case refine_2 => (intro w hSw; go_simp; try with_reducible rfl)
      (try simp only [gs])
      refine wpAnyH_done (by kernel_rfl) ?_ _
      refine NoPanic.normal ?_
      go_wp2_with fail
      go_roundg gg
      case measure => omega
      case rel => exact ⟨k + 1, A + e.a, B + e.b, _, by omega, congrArg (Value.int .i64) (show (k : Int) + 1 = ((k + 1 : Nat) : Int) by omega), rfl, rfl, HSTEP.out y9 v9 _ (HY6.out.1.grown gr9 HY6.out.1.size (fun j hj => (HX.out.2.2 j hj).1)) o9 (turn_len _ _ _ _) (by rw [HCF.out]; rfl)⟩
end
end Go.Proofs.YtdmindhjmjnagaaGreatDoor
