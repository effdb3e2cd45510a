import Derived.Test.YtdmindhjmjnagaaGreatDoorSi
import Derived.Test.YtdmindhjmjnagaaGreatDoorB27
/- ChJ -/
namespace Go.Proofs.YtdmindhjmjnagaaGreatDoor
set_option linter.unusedVariables false
set_option maxRecDepth 1000000
set_option maxHeartbeats 32000000
section
open Go.RowKit
theorem wp_build_p {o : Oper} {a : Act} {w : World} {K : Act → World → Prop} {Q : Exit → Act → World → Prop} (x y : Operand) (ho : o.op = .build 62 #[(0, x), (1, y)]) (p : Pa) (hx : a.eval x = kv p.k) (hy : a.eval y = .string (str p.v))
    (h : K (a.put o.dst (.agg (encP.c p).toArray)) w) : o.wp Tryz.prog a w K Q := by
 have hb := built_p p
 have e : (Array.map (fun x : Nat × Operand => match x with | (i, x) => (i, a.eval x)) #[(0, x), (1, y)]).toList = [(0, kv p.k), (1, .string (str p.v))] := by simp [hx, hy]
 refine wp_build 62 _ ho (by rw [e, hb]; rfl) ?_
 rw [e, hb]
 exact h
theorem str_app (a b : List UInt8) : str a ++ str b = str (a ++ b) := by
 apply ByteArray.ext
 apply Array.ext'
 simp [str]
theorem add_strs (a b : List UInt8) (h : a.length ≤ 1000000) (h2 : b.length ≤ 1000000) (w : World) : (Op.stringOp .add (str a) (str b)).run Tryz.prog w = .ok (.string (str (a ++ b))) w := by
 rw [run_string_add_sum w (str a) (str b) (by rw [str_size, str_size]; omega), str_app]
theorem allocs7 (y : World) (o0 o1 o2 o3 o4 o5 o6 : Obj) (w : World) (h : w = ((((((y.alloc o0).alloc o1).alloc o2).alloc o3).alloc o4).alloc o5).alloc o6) :
    w.heap[y.heap.size]? = some o0 ∧ w.heap[y.heap.size + 1]? = some o1 ∧ w.heap[y.heap.size + 1 + 1]? = some o2 ∧ w.heap[y.heap.size + 1 + 1 + 1]? = some o3 ∧ w.heap[y.heap.size + 1 + 1 + 1 + 1]? = some o4 ∧ w.heap[y.heap.size + 1 + 1 + 1 + 1 + 1]? = some o5 ∧ w.heap[y.heap.size + 1 + 1 + 1 + 1 + 1 + 1]? = some o6 ∧ w.heap.size = y.heap.size + 7 ∧ Below y.heap.size y w := by
 have hb : ∀ (n : Nat) (z : World) (o : Obj), n = z.heap.size → (z.alloc o).heap[n]? = some o := fun n z o e => by subst e; exact heap_alloc_new _ _
 have hk : ∀ (n : Nat) (z : World) (o : Obj), n < z.heap.size → (z.alloc o).heap[n]? = z.heap[n]? := fun n z o e => Below.heap_alloc _ _ _ e
 have s : ∀ (z : World) (o : Obj), (z.alloc o).heap.size = z.heap.size + 1 := fun z o => by simp
 subst h
 refine ⟨?_, ?_, ?_, ?_, ?_, ?_, ?_, ?_, ?_⟩
 · rw [hk, hk, hk, hk, hk, hk, hb _ _ _ rfl] <;> simp only [s] <;> omega
 · rw [hk, hk, hk, hk, hk, hb _ _ _ (by simp only [s])] <;> simp only [s] <;> omega
 · rw [hk, hk, hk, hk, hb _ _ _ (by simp only [s])] <;> simp only [s] <;> omega
 · rw [hk, hk, hk, hb _ _ _ (by simp only [s])] <;> simp only [s] <;> omega
 · rw [hk, hk, hb _ _ _ (by simp only [s])] <;> simp only [s] <;> omega
 · rw [hk, hb _ _ _ (by simp only [s])]; simp only [s]; omega
 · rw [hb _ _ _ (by simp only [s])]
 · simp only [s]
 · exact ((((((Below.refl _ y).alloc (Nat.le_refl _) _).alloc (by simp only [s]; omega) _).alloc (by simp only [s]; omega) _).alloc (by simp only [s]; omega) _).alloc (by simp only [s]; omega) _).alloc (by simp only [s]; omega) _ |>.alloc (by simp only [s]; omega) _
attribute [local go_sem] Oper.semAt_some
section
variable {lim : Nat} {I : Nat → World → Prop} {iv : Value} {ge : Kz → List UInt8 × Bool × Int} {sn : Sp → List Pa × Int}
theorem cwrite_calls (D : Baser lim noB I iv ge sn) (hge : ∀ K, (ge K).2.2 = 0) (w0 y : World) (k q : Nat) (x : VR) (V : VS) (ino : Int) (off : Nat) (data : List UInt8) (A : VAt w0 lim I (k + pN off data.length) iv q x V y) (hn : x.n + 5 * pN off data.length ≤ 5000) (hod : off + data.length ≤ 1048576) :
    Calls Tryz.prog 32 #[.pointer (some ⟨q, 0, none⟩), .int .i64 ino, .int .i64 (off : Int), .string (str data)] y fun e y' => e = .returned (.int .i64 0) ∧ ∃ x', VRan noB w0 lim I k iv q x (x.n + 5 * pN off data.length) (writeV V ge ino off data) y x' y' := by
 refine (callsIn_wide (n := 8)).1 ?_
 have HD : Hid (Baser lim noB I iv ge sn ∧ ∀ K, (ge K).2.2 = 0) := ⟨D, hge⟩
 have HA : Hid (VAt w0 lim I (k + pN off data.length) iv q x V y ∧ x.n + 5 * pN off data.length ≤ 5000 ∧ off + data.length ≤ 1048576) := ⟨A, hn, hod⟩
 have HOW : Hid (∀ i, x.own q i → i < y.heap.size) := fun i hi => A.vw.lt hi
 have HLY : Hid (lim ≤ y.heap.size ∧ w0.heap.size ≤ y.heap.size) := ⟨A.limy, Nat.le_trans A.le A.limy⟩
 have hsz : (str data).size = data.length := str_size data
 have hdI : (data.length : Int) ≤ 1048576 := by omega
 clear D hge A hn hod
 refine callsIn_of_wp_marks Tryz.func32 rfl trivial ?_ rfl
 simp only [Tryz.ntmps32, List.size_toArray, List.length_cons, List.length_nil, Nat.reduceAdd, Nat.reduceSub, Array.replicate_succ, Array.replicate_zero, List.push_toArray, List.append_toArray, List.nil_append, List.cons_append]
 refine wpIn_wide.2 ?_
 go_wp2_with (first
  | (go_at_call 66; refine (pieces_calls _ _ _).mono ?_; rintro e w6 ⟨rfl, h6⟩))
 rw [← h6]
 obtain ⟨c0, c1, c2, c3, c4, c5, c6, hs6, hB6⟩ := allocs7 y _ _ _ _ _ _ _ w6 h6
 clear h6
 have hY1 : y.heap.size + 1 + 1 + 1 + 1 + 1 + 1 = y.heap.size + 6 := by omega
 have H6 : Hid (w6.heap.size = y.heap.size + 7 ∧ Below y.heap.size y w6 ∧ w6.heap[y.heap.size]? = some (.cells #[.pointer (some ⟨q, 0, none⟩)] 24 (0, 0)) ∧ w6.heap[y.heap.size + 1]? = some (.cells #[.int .i64 ino] 3 (0, 0)) ∧ w6.heap[y.heap.size + 1 + 1]? = some (.cells #[.string (str data)] 9 (0, 0)) ∧ w6.heap[y.heap.size + 1 + 1 + 1]? = some (.cells #[.int .i64 0] 30 (0, 0)) ∧ w6.heap[y.heap.size + 1 + 1 + 1 + 1]? = some (.cells #[.slice none 0 0] 41 (0, 0))) := ⟨hs6, hB6, c0, c1, c2, c3, c4⟩
 have A6 := HA.out.1.called HD.out.1 hB6
 have HW0 : Hid (lim ≤ w6.heap.size ∧ w0.heap.size ≤ w6.heap.size ∧ (∀ i, x.own q i → i < w6.heap.size) ∧ (∀ i, x.own q i → i ≠ y.heap.size + 1 + 1 + 1 + 1) ∧ (∀ i, x.own q i → i < y.heap.size)) := ⟨A6.limy, Nat.le_trans A6.le A6.limy, fun i hi => by have := HOW.out i hi; omega, fun i hi => by have := HOW.out i hi; omega, HOW.out⟩
 have hI0 : WrI w0 lim I iv ge x V ino off data q k w6 (y.heap.size + 1 + 1 + 1 + 1) [] w6 := ⟨⟨A6.vw.up _ (by simp), A6.base, A6.own, A6.bel, A6.le, A6.limy⟩, ⟨_, c4, Own.nil _ _ _ _⟩, FrV.refl _ _⟩
 have hIO := WrI.own HD.out.1 (ge := ge) (V := V) (ino := ino) (off := off) (data := data) (k := k) (bl := y.heap.size + 1 + 1 + 1 + 1) HW0.out.2.2.1 (by omega) HW0.out.1 HW0.out.2.1
 clear A6 c0 c1 c2 c3 c4
 refine (wpIn_wide (n := 8)).1 ?_
 refine wpIn_rangeFunc_ownH rfl (by decide) (gf := 104) (lb := #[.pointer (some ⟨y.heap.size + 1 + 1 + 1 + 1 + 1 + 1, 0, none⟩), .pointer (some ⟨y.heap.size + 1 + 1 + 1 + 1 + 1, 0, none⟩)]) rfl trivial (enters_of Tryz.func104 (by kernel_rfl) rfl)
   (encs := fun j : Nat => #[.agg #[.int .i64 (pcM off data.length j).pl, .int .i64 (pcM off data.length j).fr, .int .i64 (pcM off data.length j).tt, .int .i64 (pcM off data.length j).ix]]) (N := pN off data.length) (w0 := w6) (S := fun xs => xs = List.range (pN off data.length)) (Sp := fun pre => ∃ k, k ≤ pN off data.length ∧ pre = List.range k) (Kp := KpC (fun i => x.own q i ∨ i = y.heap.size + 1 + 1 + 1 + 1))
   (pieces_stops 7 (by decide) (y.heap.size + 1 + 1 + 1 + 1 + 1 + 1) (y.heap.size + 1 + 1 + 1 + 1 + 1) off data.length w6.heap.size (by have := HA.out; omega) (by have := HA.out; omega) (fun i => x.own q i ∨ i = y.heap.size + 1 + 1 + 1 + 1) (fun e => e.elim (fun e => by have := HW0.out.2.2.2.2 _ e; omega) (by omega)) (fun e => e.elim (fun e => by have := HW0.out.2.2.2.2 _ e; omega) (by omega)) (fun i e => e.elim (HW0.out.2.2.1 i) (by omega)) w6 (Nat.le_refl _) (by omega) (by omega) c6 c5)
   kpC_t kpC_b (Below.refl _ _) (fun _ => rfl)
   (WrI w0 lim I iv ge x V ino off data q k w6 (y.heap.size + 1 + 1 + 1 + 1)) (fun _ _ _ => False)
   hIO (fun _ _ _ _ _ hs _ _ => hs)
   hI0
   (fun j a' W => ∃ Bx, w6.heap.size ≤ Bx ∧ W.heap[Bx]? = some (.cells #[.int .i64 (pcM off data.length j).pl, .int .i64 (pcM off data.length j).fr, .int .i64 (pcM off data.length j).tt, .int .i64 (pcM off data.length j).ix] 122 (0, 0)) ∧ a' = { tmps := #[.pointer (some ⟨q, 0, none⟩), .int .i64 ino, .int .i64 (off : Int), .string (str data), .pointer (some ⟨y.heap.size, 0, none⟩), .pointer (some ⟨y.heap.size + 1, 0, none⟩), undef, .pointer (some ⟨y.heap.size + 1 + 1, 0, none⟩), .pointer (some ⟨y.heap.size + 1 + 1 + 1, 0, none⟩), .pointer (some ⟨y.heap.size + 1 + 1 + 1 + 1, 0, none⟩), .pointer (some ⟨Bx, 0, none⟩), undef, undef, undef, .int .i64 (off : Int), .string (str data), .int .i64 (data.length : Int), .func (.func 104) #[] #[.pointer (some ⟨y.heap.size + 1 + 1 + 1 + 1 + 1 + 1, 0, none⟩), .pointer (some ⟨y.heap.size + 1 + 1 + 1 + 1 + 1, 0, none⟩)], .agg #[.int .i64 (pcM off data.length j).pl, .int .i64 (pcM off data.length j).fr, .int .i64 (pcM off data.length j).tt, .int .i64 (pcM off data.length j).ix], undef, undef, undef, undef, undef, undef, undef, undef, undef, undef, undef, undef, undef, undef, undef, undef, undef, undef, undef, undef, undef, undef, undef, undef, undef, undef, undef, undef, undef, undef, undef, undef, undef, undef, undef, undef], defers := [] })
   (fun j a' _ X Y row hs hg hr => by
    obtain ⟨Bx, h1, h2, h3⟩ := hs
    exact ⟨Bx, h1, (hg.block Bx (lt_of_block h2) (fun q => by obtain ⟨_, o, ho, hc⟩ := hr Bx q.symm; rw [h2] at ho; cases ho; cases hc)).trans h2, h3⟩)
   ?assign ?body ?done ?stop
 case assign =>
  rintro l pre j W K hi hK
  gi_wp2
  have bA := (Below.refl W.heap.size W).alloc (Nat.le_refl _) (.cells #[.int .i64 (pcM off data.length j).pl, .int .i64 (pcM off data.length j).fr, .int .i64 (pcM off data.length j).tt, .int .i64 (pcM off data.length j).ix] 122)
  exact hK _ _ (KeepsFrom.of_below bA) (KpC.of_frv (FrV.of_below bA)) (hi.later HD.out.1 bA) ⟨W.heap.size, hi.fr.size, heap_alloc_new _ _, rfl⟩
 case body =>
  rintro l pre j a' W hl ⟨r, hr⟩ hi ⟨Bx, hBx, hbX, rfl⟩ hlt
  have hN0 : 0 < pN off data.length := Nat.lt_of_le_of_lt (Nat.zero_le _) hlt
  have hok := pcM_ok hN0 j
  have hfit := pcM_fits hN0 j
  have HMEM : Hid (∀ W', FrV (fun i => x.own q i ∨ i = y.heap.size + 1 + 1 + 1 + 1) w6 W' → W'.heap[y.heap.size]? = some (.cells #[.pointer (some ⟨q, 0, none⟩)] 24 (0, 0)) ∧ W'.heap[y.heap.size + 1]? = some (.cells #[.int .i64 ino] 3 (0, 0)) ∧ W'.heap[y.heap.size + 1 + 1]? = some (.cells #[.string (str data)] 9 (0, 0))) := fun W' f => by
   have hno : ∀ b, y.heap.size ≤ b → b ≠ y.heap.size + 1 + 1 + 1 + 1 → ¬ (x.own q b ∨ b = y.heap.size + 1 + 1 + 1 + 1) := fun b h1 h2 e => e.elim (fun e => by have := HW0.out.2.2.2.2 b e; omega) h2
   have h6 := H6.out
   exact ⟨(f.block _ (by omega) (hno _ (by omega) (by omega))).trans h6.2.2.1, (f.block _ (by omega) (hno _ (by omega) (by omega))).trans h6.2.2.2.1, (f.block _ (by omega) (hno _ (by omega) (by omega))).trans h6.2.2.2.2.1⟩
  have HI : Hid (WrI w0 lim I iv ge x V ino off data q k w6 (y.heap.size + 1 + 1 + 1 + 1) pre W) := hi
  have HSN : Hid (getG V ino off data (pre ++ [j]) = gotF ino (getG V ino off data pre) (pcM off data.length j) ∧ putG ge ino off data V.C (pre ++ [j]) = putG ge ino off data V.C pre ++ [putP ge ino data V.C (pcM off data.length j)]) := ⟨getG_snoc _ _ _ _ _ _, putG_snoc _ _ _ _ _ _ _⟩
  have HLP : Hid ((putG ge ino off data V.C pre).length + 1 ≤ 1000000 ∧ pre.length < pN off data.length) := ⟨by rw [putG_length]; have := HA.out.2.1; omega, hlt⟩
  have HFM : Hid (∀ W2, Below W.heap.size W W2 → Calls Tryz.prog 68 #[.pointer (some ⟨q, 0, none⟩), kv (chunkR ino (pcM off data.length j).pl), pcv (pcM off data.length j)] W2 fun e y' => e = .returned (.tuple #[.string (str (fullP (wasP ge ino V.C (pcM off data.length j)))), .int .i64 0]) ∧ VAt w0 lim I (k + (pN off data.length - (pre ++ [j]).length)) iv q { x with n := x.n + (pre ++ [j]).length } (gotF ino (getG V ino off data pre) (pcM off data.length j)) y' ∧ FrV (x.own q) W2 y') := fun W2 b => by
   have A2 := hi.at_.called HD.out.1 b
   rw [show k + (pN off data.length - pre.length) = k + (pN off data.length - (pre ++ [j]).length) + 1 by rw [List.length_append, List.length_singleton]; omega] at A2
   have := former_calls HD.out.1 HD.out.2 w0 W2 _ q _ _ A2 (show x.n + pre.length ≤ 5000 by have := HA.out.2.1; omega) ino (pcM off data.length j) hok
   rw [getG_C, List.length_append, List.length_singleton] at *
   exact this
  have HPV : Hid ((putP ge ino data V.C (pcM off data.length j)).k = chunkR ino (pcM off data.length j).pl ∧ (putP ge ino data V.C (pcM off data.length j)).v = newV data (fullP (wasP ge ino V.C (pcM off data.length j))) (pcM off data.length j)) := ⟨rfl, rfl⟩
  have HFL : Hid ((fullP (wasP ge ino V.C (pcM off data.length j))).length = 32) := fullP_length _
  generalize fullP (wasP ge ino V.C (pcM off data.length j)) = FU at *
  generalize putP ge ino data V.C (pcM off data.length j) = PP at *
  generalize gotF ino (getG V ino off data pre) (pcM off data.length j) = VG at *
  generalize pcM off data.length j = pc at *
  have hOf := fun z => pof_calls pc data hok.f0 hok.ft hok.t32 hfit.1 hfit.2 (by have := HA.out.2.2; omega) z
  obtain ⟨pl, fr, tt, ix⟩ := pc
  have hfr : 0 ≤ fr ∧ fr ≤ tt ∧ tt ≤ 32 := ⟨hok.f0, hok.ft, hok.t32⟩
  have hKO := fun z => keyOf_calls ino pl z
  have HKl : Hid ((chunkR ino pl).length = 24) := chunkR_length ino pl
  dsimp only at hbX HPV hOf HFM ⊢
  generalize chunkR ino pl = KR at *
  have hOf2 : ∀ z, Calls Tryz.prog 70 #[.agg #[.int .i64 pl, .int .i64 fr, .int .i64 tt, .int .i64 ix], .string (str data)] z fun e w' => e = .returned (.string (str ((data.drop ix.toNat).take (tt - fr).toNat))) ∧ Below z.heap.size z w' := hOf
  have HFM2 : Hid (∀ W2, Below W.heap.size W W2 → Calls Tryz.prog 68 #[.pointer (some ⟨q, 0, none⟩), kv KR, .agg #[.int .i64 pl, .int .i64 fr, .int .i64 tt, .int .i64 ix]] W2 fun e y' => e = .returned (.tuple #[.string (str FU), .int .i64 0]) ∧ VAt w0 lim I (k + (pN off data.length - (pre ++ [j]).length)) iv q { x with n := x.n + (pre ++ [j]).length } VG y' ∧ FrV (x.own q) W2 y') := HFM.out
  have HMW := HMEM.out W hi.fr
  have hcI : W.cell? ⟨y.heap.size + 1, 0, none⟩ = some (.int .i64 ino) := by rw [cell_of_row _ _ _ _ _ _ HMW.2.1]; rfl
  have hcP : W.cell? ⟨Bx, 0, none⟩ = some (.int .i64 pl) := by rw [cell_of_row _ _ _ _ _ _ hbX]; rfl
  have HBX : Hid (W.heap[Bx]? = some (.cells #[.int .i64 pl, .int .i64 fr, .int .i64 tt, .int .i64 ix] 122 (0, 0)) ∧ w6.heap.size ≤ Bx) := ⟨hbX, hBx⟩
  clear hOf HFM hok hfit hi hN0 hlt hr hl hI0 hIO c5 c6 hB6 hs6 HMW hbX hBx
  refine wpIn_block ?_
  refine wpIn_seq_k (fun K1 hK1 => ?_)
  refine wpIn_region_plain l _ (by rintro ⟨_, _, h⟩; exact h) (by kernel_rfl) ?_
  go_wp2_with (first
   | (go_at_call 67; refine (hKO _).mono ?_; rintro e W1 ⟨rfl, b1⟩)
   | (refine store_key rfl _ _ rfl _ rfl _ rfl HKl.out (zs 24) (zero_has W1 W1.heap.size rfl) ?_; intro W2 h2 t2 s2))
  have BX : Below W.heap.size W W2 := b1.trans (((Below.refl _ W1).alloc (Nat.le_refl _) _).trans (t2.below (by simp) (Nat.le_refl _) (by simp)) |>.mono b1.size)
  have HF2 : Hid (FrV (fun i => x.own q i ∨ i = y.heap.size + 1 + 1 + 1 + 1) w6 W2) := HI.out.fr.trans (FrV.of_below (S := fun _ => False) BX) (fun i e => e.elim)
  have hm2 := HMEM.out W2 HF2.out
  have hcV : W2.cell? ⟨y.heap.size, 0, none⟩ = some (.pointer (some ⟨q, 0, none⟩)) := by rw [cell_of_row _ _ _ _ _ _ hm2.1]; rfl
  have hbx2 := (BX.block _ (lt_of_block HBX.out.1)).trans HBX.out.1
  have hp0 : W2.cell? ⟨Bx, 0, none⟩ = some (.int .i64 pl) := by rw [cell_of_row _ _ _ _ _ _ hbx2]; rfl
  have hp1 : W2.cell? ⟨Bx, 1, none⟩ = some (.int .i64 fr) := by rw [cell_of_row _ _ _ _ _ _ hbx2]; rfl
  have hp2 : W2.cell? ⟨Bx, 2, none⟩ = some (.int .i64 tt) := by rw [cell_of_row _ _ _ _ _ _ hbx2]; rfl
  have hp3 : W2.cell? ⟨Bx, 3, none⟩ = some (.int .i64 ix) := by rw [cell_of_row _ _ _ _ _ _ hbx2]; rfl
  have hF2 := HFM2.out W2 BX
  have HB2 : Hid (Below W.heap.size W W2 ∧ Has W2 W1.heap.size KR ∧ W2.heap[Bx]? = some (.cells #[.int .i64 pl, .int .i64 fr, .int .i64 tt, .int .i64 ix] 122 (0, 0)) ∧ w6.heap.size ≤ W.heap.size ∧ W.heap.size ≤ W1.heap.size) := ⟨BX, h2, hbx2, HI.out.fr.size, b1.size⟩
  clear b1 t2 s2 BX hm2 hbx2 hKO hcI hcP
  generalize W1.heap.size = bK at *
  refine wpIn_seq_k (fun K2 hK2 => ?_)
  refine wpIn_region_plain l _ (by rintro ⟨_, _, h⟩; exact h) (by kernel_rfl) ?_
  go_wp2_with (first
   | (refine load_key _ rfl bK rfl rfl KR h2 ?_)
   | (go_at_call 68; refine hF2.mono ?_; clear hF2; rintro e W3 ⟨rfl, A3, f3⟩))
  refine wpIn_seq_k (fun K3 hK3 => ?_)
  refine wpIn_seq_k (fun K4 hK4 => ?_)
  refine wpIn_region_plain l _ (by rintro ⟨_, _, h⟩; exact h) (by kernel_rfl) ?_
  go_wp2
  refine wpIn_cond (t := false) rfl ?_
  simp only [Bool.false_eq_true, if_false]
  refine wpIn_skip ?_
  refine hK3 _ _ ?_
  have HW3 : Hid (FrV (x.own q) W2 W3 ∧ VAt w0 lim I (k + (pN off data.length - (pre ++ [j]).length)) iv q { x with n := x.n + (pre ++ [j]).length } VG W3) := ⟨f3, A3⟩
  have hB2 := HB2.out
  have hno : ∀ b, w6.heap.size ≤ b → ¬ x.own q b := fun b hb e => by have := HW0.out.2.2.1 b e; omega
  have hk3 : W3.heap[bK]? = some (.cells (bc KR).toArray 54 (0, 0)) := (f3.block _ (lt_of_block hB2.2.1.blk) (hno _ (Nat.le_trans hB2.2.2.2.1 hB2.2.2.2.2))).trans hB2.2.1.blk
  have hx3 : W3.heap[Bx]? = some (.cells #[.int .i64 pl, .int .i64 fr, .int .i64 tt, .int .i64 ix] 122 (0, 0)) := (f3.block _ (lt_of_block hB2.2.2.1) (hno _ HBX.out.2)).trans hB2.2.2.1
  obtain ⟨v, hv0, ho0⟩ := HI.out.row
  have hv2 := (hB2.1.block _ (lt_of_block hv0)).trans hv0
  have hv3 : W3.heap[y.heap.size + 1 + 1 + 1 + 1]? = some (.cells #[v] 41 (0, 0)) := (f3.block _ (lt_of_block hv2) (fun e => HW0.out.2.2.2.1 _ e rfl)).trans hv2
  have ho2 := ho0.below hB2.1
  have ho3 : Own encP 62 W3 w6.heap.size v (putG ge ino off data V.C pre) := ho2.same fun g hg => f3.block _ (ho2.lt g hg).2 (hno _ (ho2.lt g hg).1)
  have HF3 : Hid (FrV (fun i => x.own q i ∨ i = y.heap.size + 1 + 1 + 1 + 1) w6 W3) := HF2.out.trans f3 (fun i e => .inl (.inl e))
  have hd3 := (HMEM.out W3 HF3.out).2.2
  have HS0 : Hid (W3.heap[y.heap.size + 1 + 1 + 1 + 1]? = some (.cells #[v] 41 (0, 0)) ∧ W3.heap[bK]? = some (.cells (bc KR).toArray 54 (0, 0)) ∧ W3.heap[Bx]? = some (.cells #[.int .i64 pl, .int .i64 fr, .int .i64 tt, .int .i64 ix] 122 (0, 0)) ∧ W3.heap[y.heap.size + 1 + 1]? = some (.cells #[.string (str data)] 9 (0, 0))) := ⟨hv3, hk3, hx3, hd3⟩
  have HO3 : Hid (Own encP 62 W3 w6.heap.size v (putG ge ino off data V.C pre)) := ho3
  have HCL : Hid (∀ z : World, (z.heap[y.heap.size + 1 + 1 + 1 + 1]? = some (.cells #[v] 41 (0, 0)) ∧ z.heap[bK]? = some (.cells (bc KR).toArray 54 (0, 0)) ∧ z.heap[Bx]? = some (.cells #[.int .i64 pl, .int .i64 fr, .int .i64 tt, .int .i64 ix] 122 (0, 0)) ∧ z.heap[y.heap.size + 1 + 1]? = some (.cells #[.string (str data)] 9 (0, 0))) → z.cell? ⟨y.heap.size + 1 + 1 + 1 + 1, 0, none⟩ = some v ∧ z.rangeAt bK 0 (bc KR) ∧ z.cell? ⟨Bx, 0, none⟩ = some (.int .i64 pl) ∧ z.cell? ⟨Bx, 1, none⟩ = some (.int .i64 fr) ∧ z.cell? ⟨Bx, 2, none⟩ = some (.int .i64 tt) ∧ z.cell? ⟨Bx, 3, none⟩ = some (.int .i64 ix) ∧ z.cell? ⟨y.heap.size + 1 + 1, 0, none⟩ = some (.string (str data))) := fun z h => by
   refine ⟨?_, fun i u hu => ?_, ?_, ?_, ?_, ?_, ?_⟩
   · rw [cell_of_row _ _ _ _ _ _ h.1]; rfl
   · rw [Nat.zero_add, cell_of_row _ _ _ _ _ _ h.2.1]; simpa using hu
   · rw [cell_of_row _ _ _ _ _ _ h.2.2.1]; rfl
   · rw [cell_of_row _ _ _ _ _ _ h.2.2.1]; rfl
   · rw [cell_of_row _ _ _ _ _ _ h.2.2.1]; rfl
   · rw [cell_of_row _ _ _ _ _ _ h.2.2.1]; rfl
   · rw [cell_of_row _ _ _ _ _ _ h.2.2.2]; rfl
  have hiK : (Tryz.prog.info? 54).map (·.size) = some (bc KR).length := by rw [bc_length, HKl.out]; exact Tryz.key_info
  have hxt := ext_take FU fr.toNat
  have hxd := ext_drop FU tt.toNat
  have hsF : ((str FU).size : Int) = 32 := by rw [str_size, HFL.out]; rfl
  have hsF2 : ((str FU).size : Int).toNat = (str FU).size := by omega
  have hfa : fr ≤ 32 := by omega
  have hfb : tt ≤ 32 := by omega
  have hfc : 0 ≤ fr := by omega
  have hfd : 0 ≤ tt := by omega
  have HPK : Hid (PP.k = KR) := HPV.out.1
  have HNV : Hid (PP.v = trimmed (FU.take fr.toNat ++ (data.drop ix.toNat).take (tt - fr).toNat ++ FU.drop tt.toNat)) := HPV.out.2
  have ha1 := add_strs (FU.take fr.toNat) ((data.drop ix.toNat).take (tt - fr).toNat) (by rw [List.length_take, HFL.out]; omega) (by rw [List.length_take]; omega)
  have ha2 := add_strs (FU.take fr.toNat ++ (data.drop ix.toNat).take (tt - fr).toNat) (FU.drop tt.toNat) (by rw [List.length_append, List.length_take, List.length_take, HFL.out]; omega) (by rw [List.length_drop, HFL.out]; omega)
  have hTr := fun z => trim_calls z (FU.take fr.toNat ++ (data.drop ix.toNat).take (tt - fr).toNat ++ FU.drop tt.toNat)
  rw [← HNV.out] at hTr
  generalize (data.drop ix.toNat).take (tt - fr).toNat = PT at *
  generalize hTA : FU.take fr.toNat = TA at *
  generalize hTD : FU.drop tt.toNat = TD at *
  generalize hTX : TA ++ PT ++ TD = TX at *
  clear hTA hTD hTX hB2 hk3 hx3 hv0 hv2 hv3 ho0 ho2 ho3 hd3 f3 A3 h2 hp0 hp1 hp2 hp3 hcV hno
  refine wpIn_region_Z l _ 19 (fun z => z.heap[y.heap.size + 1 + 1 + 1 + 1]? = some (.cells #[v] 41 (0, 0)) ∧ z.heap[bK]? = some (.cells (bc KR).toArray 54 (0, 0)) ∧ z.heap[Bx]? = some (.cells #[.int .i64 pl, .int .i64 fr, .int .i64 tt, .int .i64 ix] 122 (0, 0)) ∧ z.heap[y.heap.size + 1 + 1]? = some (.cells #[.string (str data)] 9 (0, 0))) (by rintro ⟨_, _, h⟩; exact h) (by kernel_rfl) (by kernel_rfl) HS0.out (fun hh => ?_)
  refine wpAnyZ_take (i := 0) (v := ?_) [18, 19] rfl (by kernel_rfl) (by kernel_rfl) (by kernel_rfl) (by kernel_rfl) (fun _ _ _ h => h) (Or.inl ⟨by rfl, ?_⟩) hh ?_
  case refine_2 => (intro w hSw; obtain ⟨hq0, hqk, hq1, hq2, hq3, hq4, hq5⟩ := HCL.out _ hSw; go_simp; try with_reducible rfl)
  (try simp only [gs])
  refine wpAnyZ_take (i := 1) [16, 17, 18, 19] rfl (by kernel_rfl) (by kernel_rfl) (by kernel_rfl) (by kernel_rfl) (fun _ _ _ h => h) (yieldsIf_load_mid (by rfl) _ _ rfl _ _ rfl _ _ (fun _ h => (HCL.out _ h).2.1) Tryz.underlying54 rfl hiK) hh ?_
  (try simp only [gs])
  refine wpAnyZ_take (i := 2) (v := ?_) [5, 9, 14, 15, 16, 17, 18, 19] rfl (by kernel_rfl) (by kernel_rfl) (by kernel_rfl) (by kernel_rfl) (fun _ _ _ h => h) (Or.inl ⟨by rfl, ?_⟩) hh ?_
  case refine_2 => (intro w hSw; obtain ⟨hq0, hqk, hq1, hq2, hq3, hq4, hq5⟩ := HCL.out _ hSw; go_simp; try with_reducible rfl)
  (try simp only [gs])
  refine wpAnyZ_take (i := 3) (v := ?_) [4, 5, 9, 14, 15, 16, 17, 18, 19] rfl (by kernel_rfl) (by kernel_rfl) (by kernel_rfl) (by kernel_rfl) (fun _ _ _ h => h) (Or.inl ⟨by rfl, ?_⟩) hh ?_
  case refine_2 => (intro w hSw; obtain ⟨hq0, hqk, hq1, hq2, hq3, hq4, hq5⟩ := HCL.out _ hSw; go_simp; try with_reducible rfl)
  (try simp only [gs])
  refine wpAnyZ_take (i := 4) (v := ?_) [5, 9, 14, 15, 16, 17, 18, 19] rfl (by kernel_rfl) (by kernel_rfl) (by kernel_rfl) (by kernel_rfl) (fun _ _ _ h => h) (Or.inl ⟨by rfl, ?_⟩) hh ?_
  case refine_2 => (intro w hSw; obtain ⟨hq0, hqk, hq1, hq2, hq3, hq4, hq5⟩ := HCL.out _ hSw; go_simp; try with_reducible rfl)
  (try simp only [gs])
  refine wpAnyZ_take (i := 5) (v := ?_) [9, 14, 15, 16, 17, 18, 19] rfl (by kernel_rfl) (by kernel_rfl) (by kernel_rfl) (by kernel_rfl) (fun _ _ _ h => h) (Or.inl ⟨by rfl, ?_⟩) hh ?_
  case refine_2 => (intro w hSw; obtain ⟨hq0, hqk, hq1, hq2, hq3, hq4, hq5⟩ := HCL.out _ hSw; go_simp; try with_reducible rfl)
  (try simp only [gs])
  refine wpAnyZ_take (i := 6) (v := ?_) [8, 9, 14, 15, 16, 17, 18, 19] rfl (by kernel_rfl) (by kernel_rfl) (by kernel_rfl) (by kernel_rfl) (fun _ _ _ h => h) (Or.inl ⟨by rfl, ?_⟩) hh ?_
  case refine_2 => (intro w hSw; obtain ⟨hq0, hqk, hq1, hq2, hq3, hq4, hq5⟩ := HCL.out _ hSw; go_simp; try with_reducible rfl)
  (try simp only [gs])
  refine wpAnyZ_take (i := 7) (v := ?_) [8, 9, 14, 15, 16, 17, 18, 19] rfl (by kernel_rfl) (by kernel_rfl) (by kernel_rfl) (by kernel_rfl) (fun _ _ _ h => h) (Or.inl ⟨by rfl, ?_⟩) hh ?_
  case refine_2 => (intro w hSw; obtain ⟨hq0, hqk, hq1, hq2, hq3, hq4, hq5⟩ := HCL.out _ hSw; go_simp; try with_reducible rfl)
  (try simp only [gs])
  refine wpAnyZ_take (i := 10) (v := ?_) [13, 14, 15, 16, 17, 18, 19] rfl (by kernel_rfl) (by kernel_rfl) (by kernel_rfl) (by kernel_rfl) (fun _ _ _ h => h) (Or.inl ⟨by rfl, ?_⟩) hh ?_
  case refine_2 => (intro w hSw; obtain ⟨hq0, hqk, hq1, hq2, hq3, hq4, hq5⟩ := HCL.out _ hSw; go_simp; try with_reducible rfl)
  (try simp only [gs])
  refine wpAnyZ_take (i := 11) (v := ?_) [12, 13, 14, 15, 16, 17, 18, 19] rfl (by kernel_rfl) (by kernel_rfl) (by kernel_rfl) (by kernel_rfl) (fun _ _ _ h => h) (Or.inl ⟨by rfl, ?_⟩) hh ?_
  case refine_2 => (intro w hSw; obtain ⟨hq0, hqk, hq1, hq2, hq3, hq4, hq5⟩ := HCL.out _ hSw; go_simp; try with_reducible rfl)
  (try simp only [gs])
  refine wpAnyZ_take (i := 12) (v := ?_) [13, 14, 15, 16, 17, 18, 19] rfl (by kernel_rfl) (by kernel_rfl) (by kernel_rfl) (by kernel_rfl) (fun _ _ _ h => h) (Or.inl ⟨by rfl, ?_⟩) hh ?_
  case refine_2 => (intro w hSw; obtain ⟨hq0, hqk, hq1, hq2, hq3, hq4, hq5⟩ := HCL.out _ hSw; go_simp; try with_reducible rfl)
  (try simp only [gs])
  refine wpAnyZ_take (i := 13) (v := ?_) [14, 15, 16, 17, 18, 19] rfl (by kernel_rfl) (by kernel_rfl) (by kernel_rfl) (by kernel_rfl) (fun _ _ _ h => h) (Or.inl ⟨by rfl, ?_⟩) hh ?_
  case refine_2 => (intro w hSw; obtain ⟨hq0, hqk, hq1, hq2, hq3, hq4, hq5⟩ := HCL.out _ hSw; go_simp; try with_reducible rfl)
  (try simp only [gs])
  generalize hy1 : W3.drew = y1 at *
  have hw1 : Below W3.heap.size W3 y1 := by rw [← hy1]; exact ⟨rfl, rfl, rfl, Nat.le_refl _, fun _ _ => rfl⟩
  clear hy1
  refine wpAnyZ_ready (rs := [8]) (by kernel_rfl) (by simp) (AllReadyZ.cons rfl (fun K0 hK => ?_) AllReadyZ.nil)
  rw [if_pos (by rfl)]
  (try simp only [gs])
  go_simp
  refine (hOf2 _).mono ?_
  rintro e y2 ⟨rfl, b2⟩
  have hH2 := (show _ ∧ _ ∧ _ ∧ _ from ⟨(b2.block _ (lt_of_block hh.1)).trans hh.1, (b2.block _ (lt_of_block hh.2.1)).trans hh.2.1, (b2.block _ (lt_of_block hh.2.2.1)).trans hh.2.2.1, (b2.block _ (lt_of_block hh.2.2.2)).trans hh.2.2.2⟩)
  refine hK.out _ _ (fun _ => hH2) ?_
  clear hK K0 hh
  have hh := hH2
  clear hH2
  (try simp only [gs])
  refine wpAnyZ_take (i := 9) (v := ?_) [14, 15, 16, 17, 18, 19] rfl (by kernel_rfl) (by kernel_rfl) (by kernel_rfl) (by kernel_rfl) (fun _ _ _ h => h) (Or.inl ⟨by rfl, ?_⟩) hh ?_
  case refine_2 => (intro w hSw; go_simp; try with_reducible rfl)
  (try simp only [gs])
  refine wpAnyZ_take (i := 14) (v := ?_) [15, 16, 17, 18, 19] rfl (by kernel_rfl) (by kernel_rfl) (by kernel_rfl) (by kernel_rfl) (fun _ _ _ h => h) (Or.inl ⟨by rfl, ?_⟩) hh ?_
  case refine_2 => (intro w hSw; go_simp; try with_reducible rfl)
  (try simp only [gs])
  refine wpAnyZ_ready (rs := [15]) (by kernel_rfl) (by simp) (AllReadyZ.cons rfl (fun K0 hK => ?_) AllReadyZ.nil)
  rw [if_pos (by rfl)]
  (try simp only [gs])
  go_simp
  refine (hTr _).mono ?_
  rintro e y3 ⟨rfl, b3⟩
  have hH2 := (show _ ∧ _ ∧ _ ∧ _ from ⟨(b3.block _ (lt_of_block hh.1)).trans hh.1, (b3.block _ (lt_of_block hh.2.1)).trans hh.2.1, (b3.block _ (lt_of_block hh.2.2.1)).trans hh.2.2.1, (b3.block _ (lt_of_block hh.2.2.2)).trans hh.2.2.2⟩)
  refine hK.out _ _ (fun _ => hH2) ?_
  clear hK K0 hh
  have hh := hH2
  clear hH2
  (try simp only [gs])
  refine wpAnyZ_ready (rs := [16]) (by kernel_rfl) (by simp) (AllReadyZ.cons rfl (fun K0 hK => ?_) AllReadyZ.nil)
  rw [if_pos (by rfl)]
  (try simp only [gs])
  refine wp_build_p _ _ rfl PP (show _ = kv PP.k by rw [HPK.out]; rfl) rfl ?_
  refine hK.out _ _ (fun _ => hh) ?_
  clear hK K0
  (try simp only [gs])
  refine wpAnyZ_ready (rs := [17]) (by kernel_rfl) (by simp) (AllReadyZ.cons rfl (fun K0 hK => ?_) AllReadyZ.nil)
  rw [if_pos (by rfl)]
  (try simp only [gs])
  refine wp_build_el1 rowP _ rfl PP rfl (by decide) ?_
  intro y4 o4 b4 s4
  have hH2 := (show _ ∧ _ ∧ _ ∧ _ from ⟨(b4.block _ (lt_of_block hh.1)).trans hh.1, (b4.block _ (lt_of_block hh.2.1)).trans hh.2.1, (b4.block _ (lt_of_block hh.2.2.1)).trans hh.2.2.1, (b4.block _ (lt_of_block hh.2.2.2)).trans hh.2.2.2⟩)
  refine hK.out _ _ (fun _ => hH2) ?_
  clear hK K0 hh
  have hh := hH2
  clear hH2
  (try simp only [gs])
  have b34 : Below W3.heap.size W3 y4 := hw1.trans (((b2.trans (b3.mono b2.size)).trans (b4.mono (Nat.le_trans b2.size b3.size))).mono hw1.size)
  have o34 := HO3.out.below b34
  have hs4 : w6.heap.size ≤ y4.heap.size := Nat.le_trans HF3.out.size b34.size
  refine wpAnyZ_ready (rs := [18]) (by kernel_rfl) (by simp) (AllReadyZ.cons rfl (fun K0 hK => ?_) AllReadyZ.nil)
  rw [if_pos (by rfl)]
  (try simp only [gs])
  refine wp_append_sl rowP _ _ rfl w6.heap.size v (putG ge ino off data V.C pre) [PP] rfl o34 _ rfl _ o4.slB (by have := HLP.out.1; simp only [List.length_cons, List.length_nil]; omega) (by decide) hs4 ?_
  intro v5 y5 o5 g5
  obtain ⟨ad5, cap5, rfl, -, -, -, -⟩ := id o5.slB
  generalize (putG ge ino off data V.C pre ++ [PP]).length = Ln at o5 ⊢
  have hH2 := (show _ ∧ _ ∧ _ ∧ _ from ⟨(g5.block _ (lt_of_block hh.1) (fun e => by have := (own_cell o34 _ e.symm).1; have := H6.out.1; omega)).trans hh.1, (g5.block _ (lt_of_block hh.2.1) (fun e => by obtain ⟨c, hc⟩ := (own_cell o34 _ e.symm).2; rw [hh.2.1] at hc; cases hc)).trans hh.2.1, (g5.block _ (lt_of_block hh.2.2.1) (fun e => by obtain ⟨c, hc⟩ := (own_cell o34 _ e.symm).2; rw [hh.2.2.1] at hc; cases hc)).trans hh.2.2.1, (g5.block _ (lt_of_block hh.2.2.2) (fun e => by have := (own_cell o34 _ e.symm).1; have := H6.out.1; omega)).trans hh.2.2.2⟩)
  refine hK.out _ _ (fun _ => hH2) ?_
  clear hK K0 hh
  have hh := hH2
  clear hH2
  (try simp only [gs])
  have hb5 := hh.1
  have hc5 : y5.cell? ⟨y.heap.size + 1 + 1 + 1 + 1, 0, none⟩ = some v := by rw [cell_of_row _ _ _ _ _ _ hb5]; rfl
  have hf5 := frozen_of_row y5 (y.heap.size + 1 + 1 + 1 + 1) 0 _ _ hb5
  refine wpAnyZ_ready (rs := [19]) (by kernel_rfl) (by simp) (AllReadyZ.cons rfl (fun K0 hK => ?_) AllReadyZ.nil)
  rw [if_pos (by rfl)]
  (try simp only [gs])
  go_simp
  refine hK.out _ _ (fun q => absurd q (by decide)) ?_
  clear hK K0
  (try simp only [gs])
  refine wpAnyZ_done (by kernel_rfl) ?_ _
  have e5 : (y5.setCell ⟨y.heap.size + 1 + 1 + 1 + 1, 0, none⟩ (.slice ad5 Ln cap5)).heap[y.heap.size + 1 + 1 + 1 + 1]? = some (.cells #[.slice ad5 Ln cap5] 41 (0, 0)) := heap_setCell_same _ _ _ _ _ _ hb5
  have f56 : FrV (fun i => i = y.heap.size + 1 + 1 + 1 + 1) y5 (y5.setCell ⟨y.heap.size + 1 + 1 + 1 + 1, 0, none⟩ (.slice ad5 Ln cap5)) := ⟨⟨rfl, rfl, rfl, by simp, fun k hk => absurd hk (Nat.not_lt_zero k)⟩, fun i _ hn => heap_setCell_other _ _ _ _ hn⟩
  have o6 : Own encP 62 (y5.setCell ⟨y.heap.size + 1 + 1 + 1 + 1, 0, none⟩ (.slice ad5 Ln cap5)) w6.heap.size (.slice ad5 Ln cap5) (putG ge ino off data V.C pre ++ [PP]) := o5.same fun g hg => f56.block g (o5.lt g hg).2 (fun e => by have := (o5.lt g hg).1; have := H6.out.1; omega)
  have k56 : KeepsFrom w6.heap.size y5 (y5.setCell ⟨y.heap.size + 1 + 1 + 1 + 1, 0, none⟩ (.slice ad5 Ln cap5)) := (KeepsOthers.setCell _ _ _).from _
  generalize y5.setCell ⟨y.heap.size + 1 + 1 + 1 + 1, 0, none⟩ (.slice ad5 Ln cap5) = y6 at *
  have hown : ∀ g, v.ownBlock = some g → w6.heap.size ≤ g ∧ ∃ c, y4.heap[g]? = some (.cells c 62 (0, 0)) := own_cell o34
  have f45 : FrV (fun i => w6.heap.size ≤ i) y4 y5 := FrV.of_grown g5 (fun i e => (hown i e).1)
  have f36 : FrV (fun i => i = y.heap.size + 1 + 1 + 1 + 1 ∨ w6.heap.size ≤ i) W3 y6 := ((FrV.of_below (S := fun i => i = y.heap.size + 1 + 1 + 1 + 1 ∨ w6.heap.size ≤ i) b34).trans f45 (fun i e => .inl (.inr e))).trans f56 (fun i e => .inl (.inl e))
  refine ⟨?_, ?_, ?_, ?_, ?_⟩
  · exact ((((KeepsFrom.of_below HB2.out.1).trans (KeepsFrom.of_frv' HW3.out.1 HW0.out.2.2.1)).trans (KeepsFrom.of_below b34)).trans (KeepsFrom.of_cells g5 (fun g e => by obtain ⟨c, hc⟩ := (hown g e).2; exact ⟨_, _, _, hc⟩))).trans k56
  · exact kpC_t (kpC_t (kpC_t (kpC_t (KpC.of_frv (FrV.of_below HB2.out.1)) ((KpC.of_frv HW3.out.1).mono (fun i e => .inl e))) (KpC.of_frv (FrV.of_below b34))) (KpC.of_grown g5 (fun g e => by obtain ⟨c, hc⟩ := (hown g e).2; exact ⟨_, _, _, hc, by decide, by decide⟩))) ((KpC.of_frv f56).mono (fun i e => .inr e))
  · rw [HSN.out.1]
    exact HW3.out.2.aside f36 (fun i e => e.elim (fun e => ⟨by have := HLY.out.2; omega, fun e2 => HW0.out.2.2.2.1 i e2 e⟩) (fun e => ⟨Nat.le_trans HW0.out.2.1 e, fun e2 => by have := HW0.out.2.2.1 i e2; omega⟩)) (HD.out.1.mono _ _ _ HW3.out.2.base (f36.below (fun i e => e.elim (fun e => by have := HLY.out.1; omega) (fun e => Nat.le_trans HW0.out.1 e)) HW3.out.2.limy))
  · exact ⟨_, e5, by rw [HSN.out.2]; exact o6⟩
  · exact HF3.out.trans f36 (fun i e => e.elim (fun e => .inl (.inr e)) (fun e => .inr e))
 case stop =>
  rintro D c pre W _ _ h _
  exact h.elim
 case done =>
  rintro D xs W hD rfl hi hK
  have hnn : k + (pN off data.length - (List.range (pN off data.length)).length) = k := by rw [List.length_range]; omega
  have A0 := hi.at_
  rw [hnn] at A0
  have hnx : ({ x with n := x.n + (List.range (pN off data.length)).length } : VR).n = x.n + pN off data.length := by show x.n + _ = _; rw [List.length_range]
  obtain ⟨v, hv, ho⟩ := hi.row
  have hlp := putG_length ge ino off data V.C (List.range (pN off data.length))
  rw [List.length_range] at hlp
  have hSA := csetAll_calls HD.out.1 w0 W k q _ _ A0 (putG ge ino off data V.C (List.range (pN off data.length))) (by rw [hnx, hlp]; have := HA.out.2.1; omega) (putG_ok _ _ _ _ _ _) _ _ ho (fun g hg e => by have h1 := (ho.lt g hg).1; have h2 := HW0.out.2.2.1 g e; omega)
  rw [hnx, hlp] at hSA
  have hno : ∀ b, y.heap.size ≤ b → b ≠ y.heap.size + 1 + 1 + 1 + 1 → ¬ (x.own q b ∨ b = y.heap.size + 1 + 1 + 1 + 1) := fun b h1 h2 e => e.elim (fun e => by have := HW0.out.2.2.2.2 b e; omega) h2
  have h6 := H6.out
  have hb0 := (hi.fr.block _ (by omega) (hno _ (by omega) (by omega))).trans h6.2.2.1
  have hb3 := (hi.fr.block _ (by omega) (hno _ (by omega) (by omega))).trans h6.2.2.2.2.2.1
  have hc0 : W.cell? ⟨y.heap.size, 0, none⟩ = some (.pointer (some ⟨q, 0, none⟩)) := by rw [cell_of_row _ _ _ _ _ _ hb0]; rfl
  have hc4 : W.cell? ⟨y.heap.size + 1 + 1 + 1 + 1, 0, none⟩ = some v := by rw [cell_of_row _ _ _ _ _ _ hv]; rfl
  have HW : Hid (FrV (fun i => x.own q i ∨ i = y.heap.size + 1 + 1 + 1 + 1) w6 W ∧ W.heap[D]? = some (.deferred (some [])) ∧ w6.heap.size ≤ D ∧ W.heap[y.heap.size + 1 + 1 + 1]? = some (.cells #[.int .i64 0] 30 (0, 0))) := ⟨hi.fr, hK, hD, hb3⟩
  have HWV : Hid (chAll (getG V ino off data (List.range (pN off data.length))) (putG ge ino off data V.C (List.range (pN off data.length))) = writeV V ge ino off data) := rfl
  rw [HWV.out] at hSA
  clear A0 ho hi hno h6 hb0 hb3 hv hnn hnx hlp hI0 hIO c5 c6 hB6 hs6
  dsimp only
  go_upto_region 9 with fail
  go_wp2_with (first
   | (go_at_call 71; refine hSA.mono ?_; clear hSA; rintro e W1 ⟨rfl, x', T⟩
      have hb1 : W1.heap[y.heap.size + 1 + 1 + 1]? = some (.cells #[.int .i64 0] 30 (0, 0)) := (T.fr.block _ (lt_of_block HW.out.2.2.2) (fun e => e.elim (fun e => by have := HW0.out.2.2.2.2 _ e; omega) id)).trans HW.out.2.2.2
      have hc1 : W1.cell? ⟨y.heap.size + 1 + 1 + 1, 0, none⟩ = some (.int .i64 0) := by rw [cell_of_row _ _ _ _ _ _ hb1]; rfl
      have hf1 := frozen_of_row W1 (y.heap.size + 1 + 1 + 1) 0 _ _ hb1))
  have hK1 : (W1.setCell ⟨y.heap.size + 1 + 1 + 1, 0, none⟩ (.int .i64 0)).heap[D]? = some (.deferred (some [])) := by
   have h2 := HW.out.2.2.1
   have h1 := H6.out.1
   exact (heap_setCell_other _ _ _ _ (show D ≠ y.heap.size + 1 + 1 + 1 by omega)).trans ((T.fr.block D (lt_of_block HW.out.2.1) (fun e => e.elim (fun e => by have := HW0.out.2.2.1 _ e; omega) id)).trans HW.out.2.1)
  refine ⟨by simp, .inl ⟨_, _, rfl, run_takeDeferred hK1, ?_⟩⟩
  have hc5 := cell_kept (World.cell?_setCell_same' W1 ⟨y.heap.size + 1 + 1 + 1, 0, none⟩ (.int .i64 0) (by rw [hc1]; rfl)) (grownBy_putObj' _ D (.deferred none)) (fun r e => by cases e; exact ⟨_, hK1, rfl⟩)
  have g1 : FrV (fun i => i = y.heap.size + 1 + 1 + 1) W1 (W1.setCell ⟨y.heap.size + 1 + 1 + 1, 0, none⟩ (.int .i64 0)) := ⟨⟨rfl, rfl, rfl, by simp, fun k hk => absurd hk (Nat.not_lt_zero k)⟩, fun i _ hn => heap_setCell_other _ _ _ _ hn⟩
  have g2 : FrV (fun i => i = D) (W1.setCell ⟨y.heap.size + 1 + 1 + 1, 0, none⟩ (.int .i64 0)) ((W1.setCell ⟨y.heap.size + 1 + 1 + 1, 0, none⟩ (.int .i64 0)).putObj D (.deferred none)) := FrV.of_grown (grownBy_putObj' _ D _) (fun i e => by cases e; rfl)
  generalize (W1.setCell ⟨y.heap.size + 1 + 1 + 1, 0, none⟩ (.int .i64 0)).putObj D (.deferred none) = W3 at *
  generalize W1.setCell ⟨y.heap.size + 1 + 1 + 1, 0, none⟩ (.int .i64 0) = W2 at *
  have g12 : FrV (fun i => i = y.heap.size + 1 + 1 + 1 ∨ i = D) W1 W3 := (FrV.trans (S := fun i => i = y.heap.size + 1 + 1 + 1 ∨ i = D) ⟨g1.bel, fun i hi hn => g1.block i hi (fun e => hn (.inl e))⟩ g2 (fun i e => .inl (.inr e)))
  have h6 := H6.out
  have hDW := lt_of_block HW.out.2.1
  have hsW := HW.out.1.size
  have hyw : ∀ i, (i = y.heap.size + 1 + 1 + 1 ∨ i = D) → y.heap.size ≤ i ∧ i < W.heap.size ∧ ¬ x.own q i := fun i e => by
   have h2 := HW.out.2.2.1
   rcases e with rfl | rfl
   · exact ⟨by omega, by omega, fun e2 => by have := HW0.out.2.2.2.2 _ e2; omega⟩
   · exact ⟨by omega, hDW, fun e2 => by have := HW0.out.2.2.2.2 _ e2; omega⟩
  have hwy : y.heap.size ≤ W.heap.size := by omega
  refine ⟨.int .i64 0, ?_, rfl, x', ?_, ?_, ?_, ?_⟩
  · simp [results, Tryz.f32, go_sem, hc5]
  · exact T.at_.aside g12 (fun i e => ⟨by have := (hyw i e).1; have := HLY.out.2; omega, fun e2 => (T.own i e2).elim (hyw i e).2.2 (fun q => by have := (hyw i e).2.1; omega)⟩) (HD.out.1.mono _ _ _ T.at_.base (g12.below (fun i e => by have := (hyw i e).1; have := HLY.out.1; omega) T.at_.limy))
  · exact (((FrV.of_below (S := fun i => x.own q i ∨ noB i) h6.2.1).trans HW.out.1 (fun i e => e.elim (fun e => .inl (.inl e)) (fun e => .inr (by omega)))).trans T.fr (fun i e => .inl e)).trans g12 (fun i e => .inr (hyw i e).1)
  · exact fun i e => (T.own i e).imp id (fun q => Nat.le_trans hwy q)
  · have := T.n
    omega
end
end
end Go.Proofs.YtdmindhjmjnagaaGreatDoor
