import Derived.Test.YtdmindhjmjnagaaGreatDoorB32
import Derived.Test.YtdmindhjmjnagaaGreatDoorB40
import Derived.Test.YtdmindhjmjnagaaGreatDoorB03
import Derived.Test.YtdmindhjmjnagaaGreatDoorSi
import Derived.Deep.CutBlock
/- X3V -/
namespace Go.Proofs.YtdmindhjmjnagaaGreatDoor
set_option linter.unusedVariables false
set_option maxRecDepth 1000000
set_option maxHeartbeats 32000000
section
open Go.RowKit
theorem nxt_over : ∀ (i : Nat) (K : List UInt8), i ≤ K.length → (nxt K i).2 = false → (nxt K i).1 = zs i ++ K.drop i
 | 0, K, _, _ => rfl
 | i + 1, K, hi, h => by
  rw [nxt] at h ⊢
  split at h
  · rename_i hx
    rw [if_pos hx]
    rw [nxt_over i (K.set i 0) (by simp; omega) h, List.set_eq_take_append_cons_drop, if_pos (by omega), List.drop_append_of_le_length (by simp; omega), List.drop_of_length_le (by simp; omega), List.nil_append]
    have e : zs (i + 1) = zs i ++ [0] := by simp [zs, List.replicate_succ']
    rw [e, List.append_assoc]
    rfl
  · cases h
theorem rone_calls (w : World) (K : List UInt8) (hK : K.length = 24) :
    Calls Tryz.prog 76 #[kv K] w fun e w' => e = .returned (sv K (oneT K) (oneE K)) ∧ Below w.heap.size w w' := by
 have hT := oneT_length K hK
 have h1 : Has ((w.alloc (.cells (bc K).toArray 54)).alloc (.cells (sc (zs 24) (zs 24) false).toArray 56)) w.heap.size K := (Has.new w K hK).alloc _
 have h2 : HasS ((w.alloc (.cells (bc K).toArray 54)).alloc (.cells (sc (zs 24) (zs 24) false).toArray 56)) (w.heap.size + 1) (zs 24) (zs 24) false := by exact zero_hasS _ _ (by simp)
 have B1 : Below w.heap.size w ((w.alloc (.cells (bc K).toArray 54)).alloc (.cells (sc (zs 24) (zs 24) false).toArray 56)) := below_made (below_made (Below.refl _ w) (Nat.le_refl _) _) (Nat.le_refl _) _
 have hz3 : ∀ o, (((w.alloc (.cells (bc K).toArray 54)).alloc (.cells (sc (zs 24) (zs 24) false).toArray 56)).alloc o).heap.size = w.heap.size + 3 := fun o => by simp
 go_enter Tryz.func76, Tryz.ntmps76
 go_wp2_with (first
  | (refine load_key _ rfl w.heap.size rfl rfl _ h1 ?_)
  | (refine store_key rfl _ _ rfl (w.heap.size + 2) rfl _ rfl hK (zs 24) (by exact zero_has _ _ (by simp)) ?_; intro w3 h3 t3 s3))
 have h4 := (h1.alloc (.cells #[.int .u8 0, .int .u8 0, .int .u8 0, .int .u8 0, .int .u8 0, .int .u8 0, .int .u8 0, .int .u8 0, .int .u8 0, .int .u8 0, .int .u8 0, .int .u8 0, .int .u8 0, .int .u8 0, .int .u8 0, .int .u8 0, .int .u8 0, .int .u8 0, .int .u8 0, .int .u8 0, .int .u8 0, .int .u8 0, .int .u8 0, .int .u8 0] 54)).touch t3 (by omega)
 have h5 := (h2.alloc (.cells #[.int .u8 0, .int .u8 0, .int .u8 0, .int .u8 0, .int .u8 0, .int .u8 0, .int .u8 0, .int .u8 0, .int .u8 0, .int .u8 0, .int .u8 0, .int .u8 0, .int .u8 0, .int .u8 0, .int .u8 0, .int .u8 0, .int .u8 0, .int .u8 0, .int .u8 0, .int .u8 0, .int .u8 0, .int .u8 0, .int .u8 0, .int .u8 0] 54)).touch t3 (by omega)
 have B3 : Below w.heap.size w w3 := below_touched (below_made B1 (Nat.le_refl _) _) t3 (by omega) (Nat.le_refl _)
 clear h1 h2 B1 t3 s3 hz3
 go_loopw [4] (fun i w' => ∃ (j : Nat) (L : List UInt8), j ≤ 24 ∧ i = .int .i64 ((j : Int) - 1) ∧ Has w' (w.heap.size + 2) L ∧ Has w' w.heap.size K ∧ HasS w' (w.heap.size + 1) (zs 24) (zs 24) false ∧ Below w.heap.size w w' ∧ nxt L j = nxt K 24) (fun i _ => (intOf i + 1).toNat)
 case atStart => exact ⟨24, K, by omega, rfl, h3, h4, h5, B3, rfl⟩
 case round =>
  clear h3 h4 h5 B3
  obtain ⟨j, L, hj, rfl, h3, h4, h5, B3, hn⟩ := hrel
  have HN : Hid (nxt L j = nxt K 24) := hn
  have HT : Hid (oneT K = (nxt K 24).1) := rfl
  have HE : Hid (oneE K = !(nxt K 24).2) := rfl
  clear hn
  by_cases hj0 : j = 0
  · subst hj0
    have hov : (nxt K 24).2 = false := by rw [← HN.out]; rfl
    have hTz : oneT K = zs 24 := by
     rw [HT.out, nxt_over 24 K (by omega) hov, List.drop_of_length_le (by omega), List.append_nil]
    have HTZ : Hid (oneT K = zs 24) := hTz
    have HEZ : Hid (oneE K = true) := by show _ = _; rw [HE.out, hov]; rfl
    clear hov hTz
    go_wp2_with (first
     | (refine load_key _ rfl w.heap.size rfl rfl _ h4 ?_)
     | (refine buildE rfl _ _ rfl _ _ rfl rfl hK ?_)
     | (refine store_span rfl _ _ rfl _ rfl _ _ _ rfl hK rfl (zs 24) (zs 24) false h5 ?_; intro w7 h7 t7 s7))
    refine ret_span rfl _ _ _ _ rfl h7 rfl ⟨by rw [HTZ.out, HEZ.out], below_touched B3 t7 (by omega) (Nat.le_refl _)⟩
  · obtain ⟨i, rfl⟩ : ∃ i, j = i + 1 := ⟨j - 1, by omega⟩
    have c1 := h3.cell i (by omega)
    have f1 := h3.free i
    have e1 : ((i + 1 : Nat) : Int) - 1 = (i : Int) := by omega
    rw [e1]
    rw [nxt] at HN
    by_cases hx : L.getD i 0 + 1 = 0
    · have hx1 : (L.getD i 0).toNat = 255 := by rw [u8_back hx]; rfl
      rw [if_pos hx] at HN
      rw [hx1] at c1
      have h6 := h3.setCell i 0
      go_wp2
      go_roundw
      case rel => exact ⟨i, L.set i 0, by omega, by go_num, h6, h4.setOther (by omega) _ _, ⟨h5.f, h5.t, by rw [Below.heap_setCell _ _ _ _ (by simp)]; exact h5.blk⟩, B3.setCell (by simp; omega) _, HN.out⟩
      case measure => simp [intOf]
    · rw [if_neg hx] at HN
      have hx1 := u8_less hx
      have h6 := h3.setCell i (L.getD i 0 + 1)
      rw [u8_plus hx] at h6
      have HTT : Hid (oneT K = L.set i (L.getD i 0 + 1)) := by show _ = _; rw [HT.out, ← HN.out]
      have HEE : Hid (oneE K = false) := by show _ = _; rw [HE.out, ← HN.out]; rfl
      clear hx HN
      have hl6 := h6.len
      generalize L.set i (L.getD i 0 + 1) = L5 at h6 HTT hl6
      generalize L.getD i 0 = x at *
      have h7 := h4.setOther (p := w.heap.size + 2) (by omega) i (.int .u8 ((x.toNat : Int) + 1))
      have h8 : HasS (wr.setCell ⟨w.heap.size + 2, i, none⟩ (.int .u8 ((x.toNat : Int) + 1))) (w.heap.size + 1) (zs 24) (zs 24) false := ⟨h5.f, h5.t, by rw [Below.heap_setCell _ _ _ _ (by simp)]; exact h5.blk⟩
      go_upto_region 7 with fail
      go_wp2_with (first
       | (refine load_key _ rfl w.heap.size rfl rfl _ h7 ?_)
       | (refine load_key _ rfl (w.heap.size + 2) rfl rfl _ h6 ?_)
       | (refine build2 rfl _ _ rfl _ _ rfl rfl hK hl6 ?_)
       | (refine store_span rfl _ _ rfl _ rfl _ _ _ rfl hK hl6 (zs 24) (zs 24) false h8 ?_; intro w9 h9 t9 s9))
      refine ret_span rfl _ _ _ _ rfl h9 rfl ⟨by rw [HTT.out, HEE.out], below_touched (B3.setCell (by simp; omega) _) t9 (by omega) (Nat.le_refl _)⟩
def HasQ (w : World) (b : Nat) (i k : Int) (s : List UInt8) (p : Int) : Prop := w.heap[b]? = some (.cells #[.int .i64 i, .int .i64 k, .string (str s), .int .i64 p] 90 (0, 0))
theorem HasQ.put4 {w : World} {b : Nat} {i k : Int} {s : List UInt8} {p : Int} (h : HasQ w b i k s p) (i' k' : Int) (s' : List UInt8) (p' : Int) :
    HasQ ((((w.setCell ⟨b, 0, none⟩ (.int .i64 i')).setCell ⟨b, 1, none⟩ (.int .i64 k')).setCell ⟨b, 2, none⟩ (.string (str s'))).setCell ⟨b, 3, none⟩ (.int .i64 p')) b i' k' s' p' :=
 set_blk (set_blk (set_blk (set_blk h 0 _) 1 _) 2 _) 3 _
theorem ret_quarts_ok {fn : Func} {R : Ending → World → Prop} {a : Act} {w : World} {t u : Tmp} (hr : fn.results = #[.cell t 90, .tmp u]) (b : Nat) (i k : Int) (s : List UInt8) (p : Int) (v : Value) (hp : a.tmps.getD t undef = .pointer (some ⟨b, 0, none⟩)) (hv : a.tmps.getD u undef = v) (hK : HasQ w b i k s p)
    (hd : a.defers = []) (hR : R (.returned (.tuple #[pv i k s p, v])) w) : bodyPost Tryz.prog fn R .ret a w := by
 refine bodyPost_ret (v := .tuple #[pv i k s p, v]) ?_ hd hR
 have hl := run_loadVar_row (P := Tryz.prog) w b 90 90 _ _ _ hK Tryz.underlying90 rfl (by kernel_rfl)
 rw [results_cell_tmp hr, hp, hv]
 simp [asAddr, Result.andThen, hl]
structure Se (w : World) (b : Nat) (K : List UInt8) (w' : World) : Prop where
 key : Has w' b K
 res : HasQ w' (b + 1) 0 0 [] 0
 bel : Below w.heap.size w w'
 at0 : w.heap.size ≤ b
theorem Se.lt {w : World} {b : Nat} {K : List UInt8} {w' : World} (h : Se w b K w') : b + 1 < w'.heap.size := lt_of_block h.res
theorem Se.alloc {w : World} {b : Nat} {K : List UInt8} {w' : World} (h : Se w b K w') (o : Obj) : Se w b K (w'.alloc o) := ⟨h.key.alloc o, by unfold HasQ; rw [Below.heap_alloc _ _ _ h.lt]; exact h.res, below_made h.bel (Nat.le_refl _) _, h.at0⟩
theorem Se.set {w : World} {b : Nat} {K : List UInt8} {w' : World} (h : Se w b K w') (q j : Nat) (u : Value) (hq : b + 1 < q) : Se w b K (w'.setCell ⟨q, j, none⟩ u) := ⟨h.key.setOther (by omega) _ _, by unfold HasQ; rw [Below.heap_setCell _ _ _ _ (by simp; omega)]; exact h.res, h.bel.setCell (by simp; have := h.at0; omega) _, h.at0⟩
theorem Se.called {w : World} {b : Nat} {K : List UInt8} {w' w'' : World} (h : Se w b K w') (hb : Below w'.heap.size w' w'') : Se w b K w'' := ⟨h.key.below hb h.key.lt, (hb.block _ h.lt).trans h.res, below_called h.bel hb (Nat.le_refl _), h.at0⟩
theorem Se.touch {w : World} {b q : Nat} {K : List UInt8} {w' w'' : World} (h : Se w b K w') (ht : Touch q none w' w'') (hq : b + 1 < q) : Se w b K w'' := ⟨h.key.touch ht (by omega), (ht.block _ h.lt (by omega) (by simp)).trans h.res, below_touched h.bel ht (by have := h.at0; omega) (Nat.le_refl _), h.at0⟩
theorem sum4 (k0 k1 k2 k3 : UInt8) : (k0.toNat : Int) * 16777216 + (k1.toNat : Int) * 65536 + (k2.toNat : Int) * 256 + (k3.toNat : Int) = (num [k0, k1, k2, k3] : Int) := by
 simp [num]
 omega
theorem r3of_calls (w : World) (K : List UInt8) (hK : K.length = 24) :
    Calls Tryz.prog 42 #[kv K] w fun e w' => e = .returned (.tuple #[ofV K, .bool (right K)]) ∧ Below w.heap.size w w' := by
 have hS : Se w w.heap.size K ((w.alloc (.cells (bc K).toArray 54)).alloc (.cells #[.int .i64 0, .int .i64 0, .string ⟨#[]⟩, .int .i64 0] 90)) := ⟨(Has.new w K hK).alloc _, by unfold HasQ; rw [show w.heap.size + 1 = (w.alloc (.cells (bc K).toArray 54)).heap.size by simp]; exact heap_alloc_new _ _, below_made (below_made (Below.refl _ w) (Nat.le_refl _) _) (Nat.le_refl _) _, Nat.le_refl _⟩
 go_enter Tryz.func42, Tryz.ntmps42
 go_upto_region 1 with fail
 generalize (w.alloc (.cells (bc K).toArray 54)).alloc (.cells #[.int .i64 0, .int .i64 0, .string ⟨#[]⟩, .int .i64 0] 90) = W at hS ⊢
 have c0 := hS.key.cell 0 (by omega)
 have c1 := hS.key.cell 1 (by omega)
 have c2 := hS.key.cell 2 (by omega)
 have c3 := hS.key.cell 3 (by omega)
 have c4 := hS.key.cell 4 (by omega)
 have b0 := (K.getD 0 0).toNat_lt
 have b1 := (K.getD 1 0).toNat_lt
 have b2 := (K.getD 2 0).toNat_lt
 have b3 := (K.getD 3 0).toNat_lt
 have b4 := (K.getD 4 0).toNat_lt
 have HI : Hid (pIno K = (num [K.getD 0 0, K.getD 1 0, K.getD 2 0, K.getD 3 0] : Int)) := rfl
 have HI4 := sum4 (K.getD 0 0) (K.getD 1 0) (K.getD 2 0) (K.getD 3 0)
 have HK4 : Hid (pKind K = ((K.getD 4 0).toNat : Int)) := rfl
 generalize K.getD 0 0 = k0 at *
 generalize K.getD 1 0 = k1 at *
 generalize K.getD 2 0 = k2 at *
 generalize K.getD 3 0 = k3 at *
 generalize K.getD 4 0 = k4 at *
 go_upto_region 3 with fail
 rw [← HI.out, ← HK4.out]
 clear HI HI4 HK4 c0 c1 c2 c3 c4 b0 b1 b2 b3 b4
 have hQ : HasQ (W.alloc (.cells #[.int .i64 (pIno K), .int .i64 (pKind K), .string ⟨#[]⟩, .int .i64 0] 90)) W.heap.size (pIno K) (pKind K) [] 0 := heap_alloc_new _ _
 have hS1 := hS.alloc (.cells #[.int .i64 (pIno K), .int .i64 (pKind K), .string ⟨#[]⟩, .int .i64 0] 90)
 have hlt := hS.lt
 have hsz : (W.alloc (.cells #[.int .i64 (pIno K), .int .i64 (pKind K), .string ⟨#[]⟩, .int .i64 0] 90)).heap.size = W.heap.size + 1 := by simp
 generalize W.alloc (.cells #[.int .i64 (pIno K), .int .i64 (pKind K), .string ⟨#[]⟩, .int .i64 0] 90) = W1 at *
 generalize W.heap.size = q at *
 go_upto_region 4 with (refine store_key rfl _ _ rfl (q + 1) rfl (zs 24) rfl (zs_length _) (zs 24) (zero_has W1 (q + 1) hsz.symm) ?_; intro w2 h2 t2 s2)
 have hS2 := (hS1.alloc (.cells #[.int .u8 0, .int .u8 0, .int .u8 0, .int .u8 0, .int .u8 0, .int .u8 0, .int .u8 0, .int .u8 0, .int .u8 0, .int .u8 0, .int .u8 0, .int .u8 0, .int .u8 0, .int .u8 0, .int .u8 0, .int .u8 0, .int .u8 0, .int .u8 0, .int .u8 0, .int .u8 0, .int .u8 0, .int .u8 0, .int .u8 0, .int .u8 0] 54)).touch t2 (by omega)
 have hQ2 : HasQ w2 q (pIno K) (pKind K) [] 0 := (t2.block _ (by simp; omega) (by omega) (by simp)).trans ((Below.heap_alloc _ _ _ (by omega)).trans hQ)
 clear t2 s2 hS hS1 hQ hsz
 obtain ⟨c0, c1, c2, c3⟩ := cells4 hQ2
 obtain ⟨f0, f1, f2, f3⟩ := free4 hQ2
 have HS2 : Hid (Se w w.heap.size K w2) := hS2
 have HQ2 : Hid (HasQ w2 q (pIno K) (pKind K) [] 0) := hQ2
 have H2 : Hid (Has w2 (q + 1) (zs 24)) := h2
 clear hS2 hQ2 h2
 have HPN : Hid (pName K = if pKind K = 2 then nm K else []) := rfl
 have HPP : Hid (pPlace K = if pKind K = 3 then (num [K.getD 20 0, K.getD 21 0, K.getD 22 0, K.getD 23 0] : Int) else 0) := rfl
 have HMK : Hid (∀ i k s p, madeK i k s p = if k = 1 then inodeR i else if k = 2 then entryR i s else if k = 3 then chunkR i p else zs 24) := fun _ _ _ _ => rfl
 have HMB : Hid (∀ i k s p, madeB i k s p = if k = 1 then okN i else if k = 2 then okN i && okS s else if k = 3 then okN i && okP p else false) := fun _ _ _ _ => rfl
 have HR : Hid (right K = (madeB (pIno K) (pKind K) (pName K) (pPlace K) && (madeK (pIno K) (pKind K) (pName K) (pPlace K) == K))) := rfl
 have HV : Hid (ofV K = if right K then pv (pIno K) (pKind K) (pName K) (pPlace K) else pv 0 0 [] 0) := rfl
 generalize pKind K = pk at *
 generalize pIno K = pi at *
 go_upto_block 0 with fail
 go_cut [7] (fun v wc => v = .bool (madeB pi pk (pName K) (pPlace K)) ∧ Has wc (q + 1) (madeK pi pk (pName K) (pPlace K)) ∧ HasQ wc q pi pk (pName K) (pPlace K) ∧ Se w w.heap.size K wc)
 case first =>
  by_cases hk1 : pk = 1
  · subst hk1
    go_wp2_with (first
     | (go_at_call 84; refine (rinode_calls pi _).mono ?_; rintro e w3 ⟨rfl, b3⟩)
     | (refine store_key rfl _ _ rfl (q + 1) rfl _ rfl (inodeR_length _) (zs 24) (H2.out.below b3 H2.out.lt) ?_; intro w4 h4 t4 s4))
    go_meet
    case rel =>
     have e1 : pName K = [] := by rw [HPN.out]; rfl
     have e2 : pPlace K = 0 := by rw [HPP.out]; rfl
     refine ⟨by rw [HMB.out]; rfl, by rw [HMK.out]; exact h4, ?_, (HS2.out.called b3).touch t4 (by omega)⟩
     rw [e1, e2]
     exact (t4.block _ (by have := b3.size; have := lt_of_block HQ2.out; omega) (by omega) (by simp)).trans ((b3.block _ (lt_of_block HQ2.out)).trans HQ2.out)
  · by_cases hk2 : pk = 2
    · subst hk2
      have e1 : pName K = nm K := by rw [HPN.out]; rfl
      have e2 : pPlace K = 0 := by rw [HPP.out]; rfl
      have hlen : (nmLen K : Int) = min ((K.getD 23 0).toNat : Int) 18 := by simp only [nmLen]; omega
      have hl18 : nmLen K ≤ 18 := Nat.min_le_right _ _
      have hcv : (convert 49 9 (.slice (some ⟨w.heap.size, 5, none⟩) (nmLen K) 19)).run Tryz.prog w2 = .ok (.string (str (nm K))) w2 := conv_key HS2.out.key 5 (nmLen K) 19 (by omega)
      have h23 := (K.getD 23 0).toNat_lt
      have c23 := HS2.out.key.cell 23 (by omega)
      have E1 : Hid (pName K = nm K) := e1
      have E2 : Hid (pPlace K = 0) := e2
      have hSX := HS2.out.set q 2 (.string (str (nm K))) (by omega)
      have hQX : HasQ (w2.setCell ⟨q, 2, none⟩ (.string (str (nm K)))) q pi 2 (nm K) 0 := set_blk HQ2.out 2 _
      have h2X : Has (w2.setCell ⟨q, 2, none⟩ (.string (str (nm K)))) (q + 1) (zs 24) := H2.out.setOther (by omega) _ _
      have HSX : Hid (Se w w.heap.size K (w2.setCell ⟨q, 2, none⟩ (.string (str (nm K))))) := hSX
      have HQX : Hid (HasQ (w2.setCell ⟨q, 2, none⟩ (.string (str (nm K)))) q pi 2 (nm K) 0) := hQX
      have H2X : Hid (Has (w2.setCell ⟨q, 2, none⟩ (.string (str (nm K)))) (q + 1) (zs 24)) := h2X
      clear e1 e2 hSX hQX h2X
      generalize nmLen K = m at *
      generalize (K.getD 23 0).toNat = k23 at *
      generalize nm K = NM at *
      go_wp2_with fail
      have hb0 : (5 : Int) ≤ 5 + (m : Int) := by omega
      have hb1 : (5 : Int) + (m : Int) ≤ 24 := by omega
      simp only [← hlen]
      clear hlen
      have hsl := slice_key w2 w.heap.size m hl18
      rw [hsl]
      simp only [Result.andThen]
      rw [Oper.upon_value]
      go_upto_region 11 with fail
      go_wp2_with (first
       | (go_at_call 85; refine (rentry_calls pi (str NM) _).mono ?_; rintro e w3 ⟨rfl, b3⟩)
       | (refine store_key rfl _ _ rfl (q + 1) rfl _ rfl (entryR_length _ _) (zs 24) (H2X.out.below b3 H2X.out.lt) ?_; intro w4 h4 t4 s4))
      go_meet
      case rel =>
       refine ⟨by rw [HMB.out, E1.out]; rfl, by rw [HMK.out, E1.out]; exact h4, ?_, (HSX.out.called b3).touch t4 (by omega)⟩
       rw [E1.out, E2.out]
       exact (t4.block _ (by have := b3.size; have := lt_of_block HQX.out; omega) (by omega) (by simp)).trans ((b3.block _ (lt_of_block HQX.out)).trans HQX.out)
    · by_cases hk3 : pk = 3
      · subst hk3
        have e1 : pName K = [] := by rw [HPN.out]; rfl
        have E1 : Hid (pName K = []) := e1
        have e2 : pPlace K = (num [K.getD 20 0, K.getD 21 0, K.getD 22 0, K.getD 23 0] : Int) := by rw [HPP.out]; rfl
        have E2 : Hid (pPlace K = (num [K.getD 20 0, K.getD 21 0, K.getD 22 0, K.getD 23 0] : Int)) := e2
        have c20 := HS2.out.key.cell 20 (by omega)
        have c21 := HS2.out.key.cell 21 (by omega)
        have c22 := HS2.out.key.cell 22 (by omega)
        have c23 := HS2.out.key.cell 23 (by omega)
        have b20 := (K.getD 20 0).toNat_lt
        have b21 := (K.getD 21 0).toNat_lt
        have b22 := (K.getD 22 0).toNat_lt
        have b23 := (K.getD 23 0).toNat_lt
        have hs4 := sum4 (K.getD 20 0) (K.getD 21 0) (K.getD 22 0) (K.getD 23 0)
        clear e1 e2
        generalize K.getD 20 0 = k20 at *
        generalize K.getD 21 0 = k21 at *
        generalize K.getD 22 0 = k22 at *
        generalize K.getD 23 0 = k23 at *
        have hSX := HS2.out.set q 3 (.int .i64 (num [k20, k21, k22, k23] : Int)) (by omega)
        have hQX : HasQ (w2.setCell ⟨q, 3, none⟩ (.int .i64 (num [k20, k21, k22, k23] : Int))) q pi 3 [] (num [k20, k21, k22, k23] : Int) := set_blk HQ2.out 3 _
        have h2X : Has (w2.setCell ⟨q, 3, none⟩ (.int .i64 (num [k20, k21, k22, k23] : Int))) (q + 1) (zs 24) := H2.out.setOther (by omega) _ _
        have HSX : Hid (Se w w.heap.size K (w2.setCell ⟨q, 3, none⟩ (.int .i64 (num [k20, k21, k22, k23] : Int)))) := hSX
        have HQX : Hid (HasQ (w2.setCell ⟨q, 3, none⟩ (.int .i64 (num [k20, k21, k22, k23] : Int))) q pi 3 [] (num [k20, k21, k22, k23] : Int)) := hQX
        have H2X : Hid (Has (w2.setCell ⟨q, 3, none⟩ (.int .i64 (num [k20, k21, k22, k23] : Int))) (q + 1) (zs 24)) := h2X
        clear hSX hQX h2X
        go_upto_region 14 with fail
        go_wp2_with (first
         | (go_at_call 34; refine (rchunk_calls pi _ _).mono ?_; rintro e w3 ⟨rfl, b3⟩)
         | (refine store_key rfl _ _ rfl (q + 1) rfl _ rfl (chunkR_length _ _) (zs 24) (H2X.out.below b3 H2X.out.lt) ?_; intro w4 h4 t4 s4))
        go_meet
        case rel =>
         refine ⟨by rw [HMB.out, E2.out]; rfl, by rw [HMK.out, E2.out]; exact h4, ?_, (HSX.out.called b3).touch t4 (by omega)⟩
         rw [E1.out, E2.out]
         exact (t4.block _ (by have := b3.size; have := lt_of_block HQX.out; omega) (by omega) (by simp)).trans ((b3.block _ (lt_of_block HQX.out)).trans HQX.out)
      · go_wp2_with fail
        go_meet
        case rel =>
         have e1 : pName K = [] := by rw [HPN.out, if_neg hk2]
         have e2 : pPlace K = 0 := by rw [HPP.out, if_neg hk3]
         refine ⟨by rw [HMB.out, if_neg hk1, if_neg hk2, if_neg hk3], by rw [HMK.out, if_neg hk1, if_neg hk2, if_neg hk3]; exact H2.out, by rw [e1, e2]; exact HQ2.out, HS2.out⟩
 case rest =>
  obtain ⟨rfl, h4, hQ4, hS4⟩ := hcut
  have hML := madeK_length pi pk (pName K) (pPlace K)
  have heq := fun w => eq_key w _ K hML hK
  generalize madeK pi pk (pName K) (pPlace K) = M at *
  generalize madeB pi pk (pName K) (pPlace K) = mb at *
  generalize pName K = pn at *
  generalize pPlace K = pp at *
  clear HPN HPP HMK HMB HS2 HQ2 H2 c0 c1 c2 c3 f0 f1 f2 f3
  obtain ⟨c0, c1, c2, c3⟩ := cells4 hQ4
  obtain ⟨d0, d1, d2, d3⟩ := cells4 hS4.res
  obtain ⟨g0, g1, g2, g3⟩ := free4 hS4.res
  have hne : q ≠ w.heap.size + 1 := by omega
  have B4 : ∀ (i' k' : Int) (s' : List UInt8) (p' : Int), Below w.heap.size w ((((wc.setCell ⟨w.heap.size + 1, 0, none⟩ (.int .i64 i')).setCell ⟨w.heap.size + 1, 1, none⟩ (.int .i64 k')).setCell ⟨w.heap.size + 1, 2, none⟩ (.string (str s'))).setCell ⟨w.heap.size + 1, 3, none⟩ (.int .i64 p')) := fun i' k' s' p' => (((hS4.bel.setCell (by simp) _).setCell (by simp) _).setCell (by simp) _).setCell (by simp) _
  have HB4 : Hid (∀ (i' k' : Int) (s' : List UInt8) (p' : Int), Below w.heap.size w ((((wc.setCell ⟨w.heap.size + 1, 0, none⟩ (.int .i64 i')).setCell ⟨w.heap.size + 1, 1, none⟩ (.int .i64 k')).setCell ⟨w.heap.size + 1, 2, none⟩ (.string (str s'))).setCell ⟨w.heap.size + 1, 3, none⟩ (.int .i64 p'))) := B4
  have HS4 : Hid (Se w w.heap.size K wc) := hS4
  have H4 : Hid (Has wc (q + 1) M) := h4
  clear B4 hS4 h4 hQ4
  cases mb with
  | false =>
   have hr : right K = false := by rw [HR.out]; rfl
   go_wp2_with fail
   refine ret_quarts_ok rfl _ _ _ _ _ _ rfl rfl (HS4.out.res.put4 _ _ _ _) rfl ⟨by rw [HV.out, hr]; rfl, HB4.out 0 0 [] 0⟩
  | true =>
   cases hmk : M == K with
   | false =>
    have hr : right K = false := by rw [HR.out, hmk]; rfl
    rw [hmk] at heq
    go_wp2_with (first
     | (refine load_key _ rfl (q + 1) rfl rfl _ H4.out ?_)
     | (refine load_key _ rfl w.heap.size rfl rfl _ HS4.out.key ?_))
    refine ret_quarts_ok rfl _ _ _ _ _ _ rfl rfl (HS4.out.res.put4 _ _ _ _) rfl ⟨by rw [HV.out, hr]; rfl, HB4.out 0 0 [] 0⟩
   | true =>
    have hr : right K = true := by rw [HR.out, hmk]; rfl
    rw [hmk] at heq
    go_wp2_with (first
     | (refine load_key _ rfl (q + 1) rfl rfl _ H4.out ?_)
     | (refine load_key _ rfl w.heap.size rfl rfl _ HS4.out.key ?_))
    refine ret_quarts_ok rfl _ _ _ _ _ _ rfl rfl (HS4.out.res.put4 _ _ _ _) rfl ⟨by rw [HV.out, hr]; rfl, HB4.out _ _ _ _⟩
end
end Go.Proofs.YtdmindhjmjnagaaGreatDoor
