import Derived.Test.YtgicanpggndbeaaGreatB03
import GoSem.Core.Utf8
/- The document's own keys: each of its calls comes to what the landed one does. -/
namespace Go.Proofs.YtgicanpggndbeaaGreat
set_option linter.unusedVariables false
set_option maxRecDepth 100000
open Go.RowKit

set_option maxHeartbeats 1000000 in
theorem r3number_calls (n : Int) (w : World) : Calls Tryz.prog 78 #[.int .i64 n] w fun e w' => e = .returned (.bool (decide (1 ≤ n ∧ n < 1073741824))) ∧ w' = w := by
 go_enter Tryz.func78, Tryz.ntmps78
 go_wp2
 all_goals (go_ret; exact ⟨by congr 2; rw [eq_comm]; simp; omega, rfl⟩)

theorem store_lit {ops : Array Oper} {rest : List Oper} {o : Oper} {a : Act} {w : World} {Q : Exit → Act → World → Prop} (hgd : o.guard = none) (x y : Operand) (ho : o.op = .store 29 x y) (b : Nat) (hx : a.eval x = .pointer (some ⟨b, 0, none⟩)) (C : Array Value) (hy : a.eval y = .agg C) (L : List UInt8) (hC : C = (bc L).toArray) (hL : L.length = 24) (K : List UInt8) (hK : Has w b K)
    (h : ∀ w', Has w' b L → Touch b none w w' → w'.heap.size = w.heap.size → wpList Tryz.prog ops Q rest (a.put o.dst undef) w') : wpList Tryz.prog ops Q (o :: rest) a w := by
 subst hC
 exact store_key hgd x y ho b hx L hy hL K hK h
theorem head_cells (n : Int) (h : 0 ≤ n) (k : UInt8) : #[Value.int .u8 (n / 16777216 % 256), .int .u8 (n / 65536 % 256), .int .u8 (n / 256 % 256), .int .u8 (n % 256), .int .u8 (k.toNat : Int), .int .u8 0, .int .u8 0, .int .u8 0, .int .u8 0, .int .u8 0, .int .u8 0, .int .u8 0, .int .u8 0, .int .u8 0, .int .u8 0, .int .u8 0, .int .u8 0, .int .u8 0, .int .u8 0, .int .u8 0, .int .u8 0, .int .u8 0, .int .u8 0, .int .u8 0] = (bc (headK n.toNat k)).toArray := by
 obtain ⟨m, rfl⟩ := Int.eq_ofNat_of_zero_le h
 have e0 : (m : Int) / 16777216 % 256 = ((UInt8.ofNat (m / 256 ^ 3)).toNat : Int) := by simp
 have e1 : (m : Int) / 65536 % 256 = ((UInt8.ofNat (m / 256 ^ 2)).toNat : Int) := by simp
 have e2 : (m : Int) / 256 % 256 = ((UInt8.ofNat (m / 256 ^ 1)).toNat : Int) := by simp
 have e3 : (m : Int) % 256 = ((UInt8.ofNat (m / 256 ^ 0)).toNat : Int) := by simp
 rw [e0, e1, e2, e3]
 rfl
set_option maxHeartbeats 1000000 in
theorem rhead_calls (n kk : Int) (k : UInt8) (hkk : (k.toNat : Int) = kk) (w : World) (h0 : 0 ≤ n) :
    Calls Tryz.prog 79 #[.int .i64 n, .int .i64 kk] w fun e w' => e = .returned (kv (headK n.toNat k)) ∧ Below w.heap.size w w' := by
 subst hkk
 have hk := k.toNat_lt
 go_enter Tryz.func79, Tryz.ntmps79
 go_wp2_with (refine store_lit rfl _ _ rfl _ rfl _ rfl _ (head_cells n h0 k) (headK_length _ _) (zs 24) (zero_has w w.heap.size rfl) ?_; intro w2 h2 t2 s2)
 refine ret_key rfl _ _ rfl h2 rfl ⟨rfl, ?_⟩
 exact below_touched (below_made (Below.refl _ w) (Nat.le_refl _) _) t2 (Nat.le_refl _) (Nat.le_refl _)

set_option maxHeartbeats 1000000 in
theorem rinode_calls (n : Int) (w : World) :
    Calls Tryz.prog 42 #[.int .i64 n] w fun e w' => e = .returned (.tuple #[kv (inodeR n), .bool (okN n)]) ∧ Below w.heap.size w w' := by
 by_cases hn : okN n = true
 · have h0 : 1 ≤ n ∧ n < 1073741824 := by simpa [okN] using hn
   go_enter Tryz.func42, Tryz.ntmps42
   go_wp2_with (first
    | (go_at_call 78; refine (r3number_calls n _).mono ?_; rintro e w1 ⟨rfl, rfl⟩)
    | (go_at_call 79; refine (rhead_calls n 1 1 (by decide) _ (by omega)).mono ?_; rintro e w1 ⟨rfl, b1⟩)
    | (refine store_key rfl _ _ rfl _ rfl _ rfl (headK_length _ _) (zs 24) ((zero_has w w.heap.size rfl).below b1 (by simp)) ?_; intro w2 h2 t2 s2))
   refine ret_key_ok rfl _ _ _ rfl rfl h2 rfl ⟨by rw [inodeR, if_pos hn, hn]; rfl, ?_⟩
   exact below_touched (below_called (below_made (Below.refl _ w) (Nat.le_refl _) _) b1 (Nat.le_refl _)) t2 (Nat.le_refl _) (Nat.le_refl _)
 · have hf : okN n = false := by simpa using hn
   have h0 : ¬ (1 ≤ n ∧ n < 1073741824) := by simpa [okN] using hn
   go_enter Tryz.func42, Tryz.ntmps42
   go_wp2_with (first
    | (go_at_call 78; refine (r3number_calls n _).mono ?_; rintro e w1 ⟨rfl, rfl⟩; rw [decide_eq_false h0])
    | (refine store_key rfl _ _ rfl _ rfl (zs 24) rfl (zs_length _) (zs 24) (zero_has w w.heap.size rfl) ?_; intro w2 h2 t2 s2))
   refine ret_key_ok rfl _ _ _ rfl rfl h2 rfl ⟨by rw [inodeR, hf]; rfl, ?_⟩
   exact below_touched (below_made (Below.refl _ w) (Nat.le_refl _) _) t2 (Nat.le_refl _) (Nat.le_refl _)

theorem Has.word {w : World} {b : Nat} {K : List UInt8} (h : Has w b K) (p : Int) (hp : 0 ≤ p) : Has ((((w.setCell ⟨b, 20, none⟩ (.int .u8 (p / 16777216 % 256))).setCell ⟨b, 21, none⟩ (.int .u8 (p / 65536 % 256))).setCell ⟨b, 22, none⟩ (.int .u8 (p / 256 % 256))).setCell ⟨b, 23, none⟩ (.int .u8 (p % 256))) b (K.take 20 ++ be p.toNat 4 ++ K.drop (20 + 4)) := by
 obtain ⟨m, rfl⟩ := Int.eq_ofNat_of_zero_le hp
 have e0 : (m : Int) / 16777216 % 256 = ((UInt8.ofNat (m / 256 ^ 3)).toNat : Int) := by simp
 have e1 : (m : Int) / 65536 % 256 = ((UInt8.ofNat (m / 256 ^ 2)).toNat : Int) := by simp
 have e2 : (m : Int) / 256 % 256 = ((UInt8.ofNat (m / 256 ^ 1)).toNat : Int) := by simp
 have e3 : (m : Int) % 256 = ((UInt8.ofNat (m / 256 ^ 0)).toNat : Int) := by simp
 rw [e0, e1, e2, e3]
 have hh := (((h.setCell 20 (UInt8.ofNat (m / 256 ^ 3))).setCell 21 (UInt8.ofNat (m / 256 ^ 2))).setCell 22 (UInt8.ofNat (m / 256 ^ 1))).setCell 23 (UInt8.ofNat (m / 256 ^ 0))
 rw [list_set4 K 20 _ _ _ _ (by rw [h.len]; omega)] at hh
 exact hh
theorem touch_word (w : World) (b : Nat) (x0 x1 x2 x3 : Value) : Touch b none w ((((w.setCell ⟨b, 20, none⟩ x0).setCell ⟨b, 21, none⟩ x1).setCell ⟨b, 22, none⟩ x2).setCell ⟨b, 23, none⟩ x3) := ((((Touch.refl _ _ _).setCell _ _).setCell _ _).setCell _ _).setCell _ _
set_option maxHeartbeats 1000000 in
theorem rchunk_calls (n p : Int) (w : World) :
    Calls Tryz.prog 83 #[.int .i64 n, .int .i64 p] w fun e w' => e = .returned (.tuple #[kv (chunkR n p), .bool (okN n && okP p)]) ∧ Below w.heap.size w w' := by
 by_cases hn1 : okN n = true
 · by_cases hn2 : okP p = true
   · have h0 : 1 ≤ n ∧ n < 1073741824 := by simpa [okN] using hn1
     have h1 : 0 ≤ p ∧ p ≤ 4294967295 := by simpa [okP] using hn2
     go_enter Tryz.func83, Tryz.ntmps83
     go_upto_region 4 with (first
      | (go_at_call 78; refine (r3number_calls n _).mono ?_; rintro e w1 ⟨rfl, rfl⟩)
      | (go_at_call 79; refine (rhead_calls n 3 3 (by decide) _ (by omega)).mono ?_; rintro e w1 ⟨rfl, b1⟩)
      | (refine store_key rfl _ _ rfl _ rfl _ rfl (headK_length _ _) (zs 24) (zero_has w1 w1.heap.size rfl) ?_; intro w2 h2 t2 s2))
     have hsb := b1.size
     simp at hsb
     have h3 := h2.word p h1.1
     rw [chunk_list] at h3
     have t3 := touch_word w2 w1.heap.size (.int .u8 (p / 16777216 % 256)) (.int .u8 (p / 65536 % 256)) (.int .u8 (p / 256 % 256)) (.int .u8 (p % 256))
     have c20 := h2.cell 20 (by omega); have f20 := h2.free 20
     have c21 := h2.cell 21 (by omega); have f21 := h2.free 21
     have c22 := h2.cell 22 (by omega); have f22 := h2.free 22
     have c23 := h2.cell 23 (by omega); have f23 := h2.free 23
     rw [show p / 16777216 % 256 = p / 16777216 by omega] at h3 t3
     go_upto_region 8 with fail
     go_wp2_with (first
      | (refine load_key _ rfl _ rfl rfl _ h3 ?_)
      | (refine store_key rfl _ _ rfl _ rfl _ rfl (chunkK_length _ _) (zs 24) (((((zero_has w w.heap.size rfl).below b1 (by simp)).alloc _).touch t2 (by omega)).touch t3 (by omega)) ?_; intro w4 h4 t4 s4))
     refine ret_key_ok rfl _ _ _ rfl rfl h4 rfl ⟨by rw [chunkR, hn1, hn2]; rfl, ?_⟩
     exact below_touched (below_touched (below_touched (below_made (below_called (below_made (Below.refl _ w) (Nat.le_refl _) _) b1 (Nat.le_refl _)) (Nat.le_refl _) _) t2 (by omega) (Nat.le_refl _)) t3 (by omega) (Nat.le_refl _)) t4 (Nat.le_refl _) (Nat.le_refl _)
   · have h0 : 1 ≤ n ∧ n < 1073741824 := by simpa [okN] using hn1
     have h1 : ¬ (0 ≤ p ∧ p ≤ 4294967295) := by simpa [okP] using hn2
     have hf : okP p = false := by simpa using hn2
     have HF : Hid ((okN n && okP p) = false) := by show _ = _; rw [hf]; simp
     clear hf hn2 hn1
     have hd : (decide (p < 0) || decide (4294967295 < p)) = true := by simp; omega
     go_enter Tryz.func83, Tryz.ntmps83
     go_wp2_with (first
      | (go_at_call 78; refine (r3number_calls n _).mono ?_; rintro e w1 ⟨rfl, rfl⟩)
      | (refine store_key rfl _ _ rfl _ rfl (zs 24) rfl (zs_length _) (zs 24) (zero_has w w.heap.size rfl) ?_; intro w2 h2 t2 s2))
     all_goals
      refine ret_key_ok rfl _ _ _ rfl rfl h2 rfl ⟨by rw [chunkR, HF.out]; rfl, ?_⟩
      exact below_touched (below_made (Below.refl _ w) (Nat.le_refl _) _) t2 (Nat.le_refl _) (Nat.le_refl _)
 · have h0 : ¬ (1 ≤ n ∧ n < 1073741824) := by simpa [okN] using hn1
   have hf : okN n = false := by simpa using hn1
   have HF : Hid ((okN n && okP p) = false) := by show _ = _; rw [hf]; simp
   clear hf hn1
   go_enter Tryz.func83, Tryz.ntmps83
   go_wp2_with (first
    | (go_at_call 78; refine (r3number_calls n _).mono ?_; rintro e w1 ⟨rfl, rfl⟩; rw [decide_eq_false h0])
    | (refine store_key rfl _ _ rfl _ rfl (zs 24) rfl (zs_length _) (zs 24) (zero_has w w.heap.size rfl) ?_; intro w2 h2 t2 s2))
   all_goals
    refine ret_key_ok rfl _ _ _ rfl rfl h2 rfl ⟨by rw [chunkR, HF.out]; rfl, ?_⟩
    exact below_touched (below_made (Below.refl _ w) (Nat.le_refl _) _) t2 (Nat.le_refl _) (Nat.le_refl _)

theorem r3set_snoc (l s : List UInt8) (k : Nat) (h : 5 + k < l.length) (hk : k < s.length) : (l.take 5 ++ s.take k ++ l.drop (5 + k)).set (5 + k) (s.getD k 0) = l.take 5 ++ s.take (k + 1) ++ l.drop (5 + (k + 1)) := by
 have h1 : (l.take 5 ++ s.take k).length = 5 + k := by simp; omega
 have h2 : l.drop (5 + k) = l[5 + k] :: l.drop (5 + k + 1) := List.drop_eq_getElem_cons h
 have h3 : s.take (k + 1) = s.take k ++ [s[k]] := List.take_succ_eq_append_getElem hk
 rw [List.set_append_right _ _ (by omega), h1, Nat.sub_self, h2, List.set_cons_zero, h3, List.getD_eq_getElem?_getD, List.getElem?_eq_getElem hk]
 simp only [Option.getD_some, List.append_assoc, List.cons_append, List.nil_append, Nat.add_assoc]

set_option maxRecDepth 100000 in
set_option maxHeartbeats 2000000 in
theorem rentry_calls (n : Int) (s : ByteArray) (w : World) :
    Calls Tryz.prog 68 #[.int .i64 n, .string s] w fun e w' => e = .returned (.tuple #[kv (entryR n s.data.toList), .bool (okN n && okS s.data.toList)]) ∧ Below w.heap.size w w' := by
 have hsz : s.data.toList.length = s.size := rfl
 by_cases hn1 : okN n = true
 · by_cases hl : 1 ≤ s.size ∧ s.size ≤ 18
   · have h0 : 1 ≤ n ∧ n < 1073741824 := by simpa [okN] using hn1
     have HN1 : Hid (okN n = true) := hn1
     clear hn1
     go_enter Tryz.func68, Tryz.ntmps68
     go_wp2_with (first
      | (go_at_call 78; refine (r3number_calls n _).mono ?_; rintro e w1 ⟨rfl, rfl⟩)
      | (go_at_call 79; refine (rhead_calls n 2 2 (by decide) _ (by omega)).mono ?_; rintro e w1 ⟨rfl, b1⟩)
      | (refine store_key rfl _ _ rfl _ rfl _ rfl (headK_length _ _) (zs 24) (zero_has w1 w1.heap.size rfl) ?_; intro w2 h2 t2 s2))
     have hsb := b1.size
     simp at hsb
     have hZ := (((zero_has w w.heap.size rfl).below b1 (by simp)).alloc (.cells #[.int .u8 0, .int .u8 0, .int .u8 0, .int .u8 0, .int .u8 0, .int .u8 0, .int .u8 0, .int .u8 0, .int .u8 0, .int .u8 0, .int .u8 0, .int .u8 0, .int .u8 0, .int .u8 0, .int .u8 0, .int .u8 0, .int .u8 0, .int .u8 0, .int .u8 0, .int .u8 0, .int .u8 0, .int .u8 0, .int .u8 0, .int .u8 0] 29)).touch t2 (by omega)
     have hB : Below w.heap.size w w2 := below_touched (below_made (below_called (below_made (Below.refl _ w) (Nat.le_refl _) _) b1 (Nat.le_refl _)) (Nat.le_refl _) _) t2 (by omega) (Nat.le_refl _)
     clear b1 t2 s2
     generalize w1.heap.size = q at *
     go_loopw [7] (fun i w' => ∃ k : Nat, k ≤ s.size ∧ i = .int .i64 (k : Int) ∧ Has w' q ((headK n.toNat 2).take 5 ++ s.data.toList.take k ++ (headK n.toNat 2).drop (5 + k)) ∧ Has w' w.heap.size (zs 24) ∧ Below w.heap.size w w' ∧ (0 : UInt8) ∉ s.data.toList.take k) (fun i _ => s.size - (intOf i).toNat)
     case atStart => exact ⟨0, Nat.zero_le _, rfl, by simpa using h2, hZ, hB, by simp⟩
     case round =>
      obtain ⟨k, hk, rfl, h3, h4, B3, hz⟩ := hrel
      clear h2 hZ hB
      by_cases hks : k < s.size
      · have hkl : k < s.data.toList.length := hks
        have hx : s.data.toList.getD k 0 = s[k] := by rw [List.getD_eq_getElem?_getD, List.getElem?_eq_getElem hkl]; rfl
        by_cases h0x : s[k] = 0
        · have hbad : okS s.data.toList = false := by
            rw [okS, decide_eq_false]
            intro h
            refine h.2.2 ?_
            rw [← h0x, ← hx, List.getD_eq_getElem?_getD, List.getElem?_eq_getElem hkl]
            exact List.getElem_mem hkl
          have HX : Hid (okS s.data.toList = false) := hbad
          clear hbad hx
          go_wp2_with (first
           | (refine store_key rfl _ _ rfl _ rfl (zs 24) rfl (zs_length _) (zs 24) h4 ?_; intro w5 h5 t5 s5))
          refine ret_key_ok rfl _ _ _ rfl rfl h5 rfl ⟨by rw [entryR, HX.out, Bool.and_false]; rfl, below_touched B3 t5 (Nat.le_refl _) (Nat.le_refl _)⟩
        · have h5 := h3.setCell (5 + k) (s.data.toList.getD k 0)
          rw [r3set_snoc _ _ _ (by rw [headK_length]; omega) hkl, hx] at h5
          have hz1 : (0 : UInt8) ∉ s.data.toList.take (k + 1) := by
           rw [List.take_succ_eq_append_getElem hkl, List.mem_append]
           rintro (h | h)
           · exact hz h
           · simp at h
             exact h0x h.symm
          have HZ1 : Hid ((0 : UInt8) ∉ s.data.toList.take (k + 1)) := hz1
          have H5 : Hid (Has (wr.setCell ⟨q, 5 + k, none⟩ (.int .u8 (s[k].toNat : Int))) q ((headK n.toNat 2).take 5 ++ s.data.toList.take (k + 1) ++ (headK n.toNat 2).drop (5 + (k + 1)))) := h5
          have c5 := h3.cell (5 + k) (by omega)
          have f5 := h3.free (5 + k)
          have hx1 : ¬ ((s[k].toNat : Nat) : Int) = 0 := by rw [u8_zero]; exact h0x
          clear hz1 h5 hx hz h0x
          go_wp2_with fail
          go_roundw
          case rel => exact ⟨k + 1, by omega, by go_num, H5.out, h4.setOther (by omega) _ _, B3.setCell (by simp; omega) _, HZ1.out⟩
          case measure => simp [intOf]; omega
      · have e : k = s.size := by omega
        subst e
        have etk : s.data.toList.take s.size = s.data.toList := List.take_of_length_le (by rw [hsz]; exact Nat.le_refl _)
        rw [etk] at hz h3
        have hok : okS s.data.toList = true := by
         rw [okS, decide_eq_true_iff]
         exact ⟨by omega, by omega, hz⟩
        have HOK : Hid (okS s.data.toList = true) := hok
        have c23 := h3.cell 23 (by omega)
        have f23 := h3.free 23
        have h5 := h3.setCell 23 (UInt8.ofNat s.data.toList.length)
        have e5 : ((UInt8.ofNat s.data.toList.length).toNat : Int) = (s.size : Int) := by rw [hsz, UInt8.toNat_ofNat']; omega
        rw [e5] at h5
        have e6 := entry_list n.toNat s.data.toList (by rw [hsz]; exact hl.2)
        rw [hsz] at e6
        rw [hsz, e6] at h5
        have H5 : Hid (Has (wr.setCell ⟨q, 23, none⟩ (.int .u8 (s.size : Int))) q (entryK n.toNat s.data.toList)) := h5
        have hl5 := h5.len
        clear hok h5 e5 e6 hz h3 etk
        go_upto_region 11 with fail
        go_wp2_with (first
         | (refine load_key _ rfl _ rfl rfl _ H5.out ?_)
         | (refine store_key rfl _ _ rfl _ rfl _ rfl hl5 (zs 24) (h4.setOther (by omega) _ _) ?_; intro w6 h6 t6 s6))
        refine ret_key_ok rfl _ _ _ rfl rfl h6 rfl ⟨by rw [entryR, HN1.out, HOK.out]; rfl, below_touched (B3.setCell (by simp; omega) _) t6 (Nat.le_refl _) (Nat.le_refl _)⟩
   · have hbad : okS s.data.toList = false := by
       rw [okS, decide_eq_false]
       intro h
       exact hl ⟨h.1, h.2.1⟩
     have HX : Hid (okS s.data.toList = false) := hbad
     have h0 : 1 ≤ n ∧ n < 1073741824 := by simpa [okN] using hn1
     have hd : (decide ((s.size : Int) < 1) || decide (18 < (s.size : Int))) = true := by simp; omega
     clear hbad hn1
     go_enter Tryz.func68, Tryz.ntmps68
     go_wp2_with (first
      | (go_at_call 78; refine (r3number_calls n _).mono ?_; rintro e w1 ⟨rfl, rfl⟩)
      | (refine store_key rfl _ _ rfl _ rfl (zs 24) rfl (zs_length _) (zs 24) (zero_has w w.heap.size rfl) ?_; intro w2 h2 t2 s2))
     all_goals
      refine ret_key_ok rfl _ _ _ rfl rfl h2 rfl ⟨by rw [entryR, HX.out, Bool.and_false]; rfl, ?_⟩
      exact below_touched (below_made (Below.refl _ w) (Nat.le_refl _) _) t2 (Nat.le_refl _) (Nat.le_refl _)
 · have h0 : ¬ (1 ≤ n ∧ n < 1073741824) := by simpa [okN] using hn1
   have hf : okN n = false := by simpa using hn1
   have HF : Hid ((okN n && okS s.data.toList) = false) := by show _ = _; rw [hf]; rfl
   clear hf hn1
   go_enter Tryz.func68, Tryz.ntmps68
   go_wp2_with (first
    | (go_at_call 78; refine (r3number_calls n _).mono ?_; rintro e w1 ⟨rfl, rfl⟩; rw [decide_eq_false h0])
    | (refine store_key rfl _ _ rfl _ rfl (zs 24) rfl (zs_length _) (zs 24) (zero_has w w.heap.size rfl) ?_; intro w2 h2 t2 s2))
   all_goals
    refine ret_key_ok rfl _ _ _ rfl rfl h2 rfl ⟨by rw [entryR, HF.out]; rfl, ?_⟩
    exact below_touched (below_made (Below.refl _ w) (Nat.le_refl _) _) t2 (Nat.le_refl _) (Nat.le_refl _)
end Go.Proofs.YtgicanpggndbeaaGreat
/- The document's own keys held against one another, and its spans (as KeyS, over KeyD alone). -/
namespace Go.Proofs.YtgicanpggndbeaaGreat
set_option linter.unusedVariables false
set_option maxRecDepth 100000
open Go.RowKit

theorem conv_part {w : World} {b o : Nat} {K : List UInt8} (hr : w.rangeAt b o (bc K)) (hl : K.length = 24) (cap : Nat) : (convert 140 9 (.slice (some ⟨b, o, none⟩) 24 cap)).run Tryz.prog w = .ok (.string (str K)) w := by
 have := run_convert_bytes_arg (P := Tryz.prog) w 140 5 Tryz.underlying140 Tryz.underlying5 b o 24 cap (K.map fun b => (b.toNat : Int)) (by simp [hl]) (fun i hi => by
  have hi' : i < K.length := by omega
  rw [hr i (.int .u8 ((K[i]).toNat : Int)) (by simp [bc, hi'])]
  simp [hi']) 9 Tryz.underlying9
 rw [str_of] at this
 exact this

/-- What stands while two keys are held against one another. -/
structure Two (w : World) (b c : Nat) (K L : List UInt8) (w' : World) : Prop where
 k : Has w' b K
 l : Has w' c L
 bel : Below w.heap.size w w'
theorem Two.drew {w : World} {b c : Nat} {K L : List UInt8} {w' : World} (h : Two w b c K L w') : Two w b c K L w'.drew := ⟨⟨h.k.len, h.k.blk⟩, ⟨h.l.len, h.l.blk⟩, h.bel.drew⟩
theorem Two.out {w : World} {b c : Nat} {K L : List UInt8} {w' : World} (h : Two w b c K L w') : (convert 140 9 (.slice (some ⟨b, 0, none⟩) 24 24)).run Tryz.prog w' = .ok (.string (str K)) w' ∧ (convert 140 9 (.slice (some ⟨c, 0, none⟩) 24 24)).run Tryz.prog w' = .ok (.string (str L)) w' ∧ Two w b c K L w' :=
 ⟨conv_part h.k.range h.k.len 24, conv_part h.l.range h.l.len 24, h⟩

set_option maxHeartbeats 1000000 in
theorem rless_calls (w : World) (K L : List UInt8) (hK : K.length = 24) (hL : L.length = 24) :
    Calls Tryz.prog 123 #[kv K, kv L] w fun e w' => e = .returned (.bool (Op.bytesLess K L)) ∧ Below w.heap.size w w' := by
 have h0 : Two w w.heap.size (w.heap.size + 1) K L ((w.alloc (.cells (bc K).toArray 29)).alloc (.cells (bc L).toArray 29)) := ⟨(Has.new w K hK).alloc _, by have := Has.new (w.alloc (.cells (bc K).toArray 29)) L hL; simpa using this, below_made (below_made (Below.refl _ w) (Nat.le_refl _) _) (Nat.le_refl _) _⟩
 go_enter Tryz.func123, Tryz.ntmps123
 go_wp2
 generalize (w.alloc (.cells (bc K).toArray 29)).alloc (.cells (bc L).toArray 29) = W at *
 go_region_held3 (fun w' => (convert 140 9 (.slice (some ⟨w.heap.size, 0, none⟩) 24 24)).run Tryz.prog w' = .ok (.string (str K)) w' ∧ (convert 140 9 (.slice (some ⟨w.heap.size + 1, 0, none⟩) 24 24)).run Tryz.prog w' = .ok (.string (str L)) w' ∧ Two w w.heap.size (w.heap.size + 1) K L w') (first | exact h0.drew.out | assumption) (fail)
 go_wp2_with fail
 go_ret
 refine ⟨?_, h0.drew.bel⟩
 show Ending.returned (Value.bool (Op.bytesLess (str K).toList (str L).toList)) = _
 rw [str_toList, str_toList]

/-- What stands while a key is held against a span. -/
structure Tri (w : World) (b c : Nat) (F T : List UInt8) (e : Bool) (K : List UInt8) (w' : World) : Prop where
 s : HasS w' b F T e
 k : Has w' c K
 bel : Below w.heap.size w w'
set_option maxRecDepth 100000 in
set_option maxHeartbeats 4000000 in
theorem rin_calls (w : World) (F T : List UInt8) (e : Bool) (K : List UInt8) (hF : F.length = 24) (hT : T.length = 24) (hK : K.length = 24) :
    Calls Tryz.prog 60 #[sv F T e, kv K] w fun x w' => x = .returned (.bool (inS F T e K)) ∧ Below w.heap.size w w' := by
 have h0 : Tri w w.heap.size (w.heap.size + 1) F T e K ((w.alloc (.cells (sc F T e).toArray 96)).alloc (.cells (bc K).toArray 29)) := ⟨(HasS.new w F T e hF hT).alloc _, by have := Has.new (w.alloc (.cells (sc F T e).toArray 96)) K hK; simpa using this, below_made (below_made (Below.refl _ w) (Nat.le_refl _) _) (Nat.le_refl _) _⟩
 have HIN : Hid (inS F T e K = (!Op.bytesLess K F && (e || Op.bytesLess K T))) := rfl
 cases hlf : Op.bytesLess K F with
 | true =>
  have hl1 : Op.bytesLess (str K).toList (str F).toList = true := by rw [str_toList, str_toList]; exact hlf
  go_enter Tryz.func60, Tryz.ntmps60
  go_wp2
  generalize (w.alloc (.cells (sc F T e).toArray 96)).alloc (.cells (bc K).toArray 29) = W at *
  have q1 : ∀ n, (convert 140 9 (.slice (some ⟨w.heap.size + 1, 0, none⟩) 24 24)).run Tryz.prog (W.drewN n) = .ok (.string (str K)) (W.drewN n) := fun n => conv_part (w := W.drewN n) h0.k.range h0.k.len 24
  have q2 : ∀ n, (convert 140 9 (.slice (some ⟨w.heap.size, 0, none⟩) 24 24)).run Tryz.prog (W.drewN n) = .ok (.string (str F)) (W.drewN n) := fun n => conv_part (w := W.drewN n) h0.s.ofF h0.s.f 24
  have HB : Hid (Below w.heap.size w W) := h0.bel
  clear h0
  go_quiet (fail)
  go_wp2_with fail
  go_ret
  exact ⟨by rw [HIN.out, hlf]; rfl, below_drewN HB.out _⟩
 | false =>
  have hl1 : Op.bytesLess (str K).toList (str F).toList = false := by rw [str_toList, str_toList]; exact hlf
  cases e with
  | true =>
   go_enter Tryz.func60, Tryz.ntmps60
   go_wp2
   generalize (w.alloc (.cells (sc F T true).toArray 96)).alloc (.cells (bc K).toArray 29) = W at *
   have q1 : ∀ n, (convert 140 9 (.slice (some ⟨w.heap.size + 1, 0, none⟩) 24 24)).run Tryz.prog (W.drewN n) = .ok (.string (str K)) (W.drewN n) := fun n => conv_part (w := W.drewN n) h0.k.range h0.k.len 24
   have q2 : ∀ n, (convert 140 9 (.slice (some ⟨w.heap.size, 0, none⟩) 24 24)).run Tryz.prog (W.drewN n) = .ok (.string (str F)) (W.drewN n) := fun n => conv_part (w := W.drewN n) h0.s.ofF h0.s.f 24
   have cE := h0.s.ofE
   have HB : Hid (Below w.heap.size w W) := h0.bel
   clear h0
   go_quiet (fail)
   go_wp2_with fail
   go_ret
   exact ⟨by rw [HIN.out, hlf]; rfl, below_drewN HB.out _⟩
  | false =>
   go_enter Tryz.func60, Tryz.ntmps60
   go_wp2
   generalize (w.alloc (.cells (sc F T false).toArray 96)).alloc (.cells (bc K).toArray 29) = W at *
   have q1 : ∀ n, (convert 140 9 (.slice (some ⟨w.heap.size + 1, 0, none⟩) 24 24)).run Tryz.prog (W.drewN n) = .ok (.string (str K)) (W.drewN n) := fun n => conv_part (w := W.drewN n) h0.k.range h0.k.len 24
   have q2 : ∀ n, (convert 140 9 (.slice (some ⟨w.heap.size, 0, none⟩) 24 24)).run Tryz.prog (W.drewN n) = .ok (.string (str F)) (W.drewN n) := fun n => conv_part (w := W.drewN n) h0.s.ofF h0.s.f 24
   have q3 : ∀ n, (convert 140 9 (.slice (some ⟨w.heap.size, 24, none⟩) 24 24)).run Tryz.prog (W.drewN n) = .ok (.string (str T)) (W.drewN n) := fun n => conv_part (w := W.drewN n) h0.s.ofT h0.s.t 24
   have cE := h0.s.ofE
   have HB : Hid (Below w.heap.size w W) := h0.bel
   clear h0
   go_quiet (fail)
   go_wp2_with fail
   go_ret
   refine ⟨?_, below_drewN HB.out _⟩
   show Ending.returned (Value.bool (Op.bytesLess (str K).toList (str T).toList)) = _
   rw [HIN.out, hlf, str_toList, str_toList]
   simp

end Go.Proofs.YtgicanpggndbeaaGreat
/- The document's span of entries. -/
namespace Go.Proofs.YtgicanpggndbeaaGreat
set_option linter.unusedVariables false
set_option maxRecDepth 100000
open Go.RowKit

set_option maxHeartbeats 1000000 in
theorem rentries_calls (n : Int) (w : World) :
    Calls Tryz.prog 44 #[.int .i64 n] w fun e w' => e = .returned (sv (entriesF n) (entriesT n) false) ∧ Below w.heap.size w w' := by
 by_cases hn : okN n = true
 · have h0 : 1 ≤ n ∧ n < 1073741824 := by simpa [okN] using hn
   go_enter Tryz.func44, Tryz.ntmps44
   go_wp2_with (first
    | (go_at_call 78; refine (r3number_calls n _).mono ?_; rintro e w1 ⟨rfl, rfl⟩)
    | (go_at_call 79; have _q := b2; refine (rhead_calls n 3 3 (by decide) _ (by omega)).mono ?_; rintro e w3 ⟨rfl, b3⟩)
    | (go_at_call 79; refine (rhead_calls n 2 2 (by decide) _ (by omega)).mono ?_; rintro e w2 ⟨rfl, b2⟩)
    | (refine build2 rfl _ _ rfl _ _ rfl rfl (headK_length n.toNat 2) (headK_length n.toNat 3) ?_)
    | (refine store_span rfl _ _ rfl _ rfl _ _ _ rfl (headK_length _ _) (headK_length _ _) (zs 24) (zs 24) false (((zero_hasS w w.heap.size rfl).below b2 (by simp)).below b3 (by have := b2.size; simp at this; omega)) ?_; intro w4 h4 t4 s4))
   refine ret_span rfl _ _ _ _ rfl h4 rfl ⟨by rw [entriesF, entriesT, if_pos hn, if_pos hn], ?_⟩
   exact below_touched (below_called (below_called (below_made (Below.refl _ w) (Nat.le_refl _) _) b2 (Nat.le_refl _)) b3 (Nat.le_refl _)) t4 (Nat.le_refl _) (Nat.le_refl _)
 · have hf : okN n = false := by simpa using hn
   have h0 : ¬ (1 ≤ n ∧ n < 1073741824) := by simpa [okN] using hn
   go_enter Tryz.func44, Tryz.ntmps44
   go_wp2_with (first
    | (go_at_call 78; refine (r3number_calls n _).mono ?_; rintro e w1 ⟨rfl, rfl⟩; rw [decide_eq_false h0])
    | (refine build0 rfl rfl ?_)
    | (refine store_span rfl _ _ rfl _ rfl _ _ _ rfl rfl rfl (zs 24) (zs 24) false (zero_hasS w w.heap.size rfl) ?_; intro w4 h4 t4 s4))
   refine ret_span rfl _ _ _ _ rfl h4 rfl ⟨by rw [entriesF, entriesT, hf]; rfl, ?_⟩
   exact below_touched (below_made (Below.refl _ w) (Nat.le_refl _) _) t4 (Nat.le_refl _) (Nat.le_refl _)

end Go.Proofs.YtgicanpggndbeaaGreat
/- Names and paths in plain mathematics: characters byte by byte (UTF-8), pieces, names, paths; nothing here speaks of a program. -/
namespace Go.Proofs.YtgicanpggndbeaaGreat
set_option linter.unusedVariables false
set_option maxRecDepth 100000

/-! Characters. -/
/-- A byte that goes on a character. -/
def tlB (b : UInt8) : Bool := decide (128 ≤ b.toNat) && decide (b.toNat < 192)
/-- How many bytes the character has that a text begins with, and which it is; 0: none. -/
def chr (L : List UInt8) : Nat × Nat :=
 match L with
 | [] => (0, 0)
 | a :: r =>
  if a.toNat < 128 then (1, a.toNat)
  else if 192 ≤ a.toNat ∧ a.toNat < 224 then
    match r with
    | b :: _ => if tlB b = true ∧ 128 ≤ (a.toNat - 192) * 64 + (b.toNat - 128) then (2, (a.toNat - 192) * 64 + (b.toNat - 128)) else (0, 0)
    | _ => (0, 0)
  else if 224 ≤ a.toNat ∧ a.toNat < 240 then
    match r with
    | b :: c :: _ => if (tlB b = true ∧ tlB c = true) ∧ 2048 ≤ (a.toNat - 224) * 4096 + (b.toNat - 128) * 64 + (c.toNat - 128) ∧ ((a.toNat - 224) * 4096 + (b.toNat - 128) * 64 + (c.toNat - 128) < 55296 ∨ 57343 < (a.toNat - 224) * 4096 + (b.toNat - 128) * 64 + (c.toNat - 128))
        then (3, (a.toNat - 224) * 4096 + (b.toNat - 128) * 64 + (c.toNat - 128)) else (0, 0)
    | _ => (0, 0)
  else if 240 ≤ a.toNat ∧ a.toNat < 248 then
    match r with
    | b :: c :: d :: _ => if (tlB b = true ∧ tlB c = true ∧ tlB d = true) ∧ 65536 ≤ (a.toNat - 240) * 262144 + (b.toNat - 128) * 4096 + (c.toNat - 128) * 64 + (d.toNat - 128) ∧ (a.toNat - 240) * 262144 + (b.toNat - 128) * 4096 + (c.toNat - 128) * 64 + (d.toNat - 128) ≤ 1114111
        then (4, (a.toNat - 240) * 262144 + (b.toNat - 128) * 4096 + (c.toNat - 128) * 64 + (d.toNat - 128)) else (0, 0)
    | _ => (0, 0)
  else (0, 0)
theorem tlB_iff (b : UInt8) : tlB b = true ↔ 128 ≤ b.toNat ∧ b.toNat < 192 := by simp [tlB]
/-- The ways that a text may begin. -/
theorem chr_cases (L : List UInt8) : chr L = (0, 0)
    ∨ (∃ a r, L = a :: r ∧ a.toNat < 128 ∧ chr L = (1, a.toNat))
    ∨ (∃ a b r, L = a :: b :: r ∧ 192 ≤ a.toNat ∧ a.toNat < 224 ∧ tlB b = true ∧ 128 ≤ (a.toNat - 192) * 64 + (b.toNat - 128) ∧ chr L = (2, (a.toNat - 192) * 64 + (b.toNat - 128)))
    ∨ (∃ a b c r, L = a :: b :: c :: r ∧ 224 ≤ a.toNat ∧ a.toNat < 240 ∧ tlB b = true ∧ tlB c = true ∧ 2048 ≤ (a.toNat - 224) * 4096 + (b.toNat - 128) * 64 + (c.toNat - 128) ∧ ((a.toNat - 224) * 4096 + (b.toNat - 128) * 64 + (c.toNat - 128) < 55296 ∨ 57343 < (a.toNat - 224) * 4096 + (b.toNat - 128) * 64 + (c.toNat - 128)) ∧ chr L = (3, (a.toNat - 224) * 4096 + (b.toNat - 128) * 64 + (c.toNat - 128)))
    ∨ (∃ a b c d r, L = a :: b :: c :: d :: r ∧ 240 ≤ a.toNat ∧ a.toNat < 248 ∧ tlB b = true ∧ tlB c = true ∧ tlB d = true ∧ 65536 ≤ (a.toNat - 240) * 262144 + (b.toNat - 128) * 4096 + (c.toNat - 128) * 64 + (d.toNat - 128) ∧ (a.toNat - 240) * 262144 + (b.toNat - 128) * 4096 + (c.toNat - 128) * 64 + (d.toNat - 128) ≤ 1114111 ∧ chr L = (4, (a.toNat - 240) * 262144 + (b.toNat - 128) * 4096 + (c.toNat - 128) * 64 + (d.toNat - 128))) := by
 rcases L with _ | ⟨a, r⟩
 · exact .inl rfl
 by_cases h1 : a.toNat < 128
 · exact .inr (.inl ⟨a, r, rfl, h1, by simp only [chr, if_pos h1]⟩)
 by_cases h2 : 192 ≤ a.toNat ∧ a.toNat < 224
 · rcases r with _ | ⟨b, r⟩
   · exact .inl (by simp only [chr, if_neg h1, if_pos h2])
   by_cases h : tlB b = true ∧ 128 ≤ (a.toNat - 192) * 64 + (b.toNat - 128)
   · exact .inr (.inr (.inl ⟨a, b, r, rfl, h2.1, h2.2, h.1, h.2, by simp only [chr, if_neg h1, if_pos h2, if_pos h]⟩))
   · exact .inl (by simp only [chr, if_neg h1, if_pos h2, if_neg h])
 by_cases h3 : 224 ≤ a.toNat ∧ a.toNat < 240
 · rcases r with _ | ⟨b, _ | ⟨c, r⟩⟩
   · exact .inl (by simp only [chr, if_neg h1, if_neg h2, if_pos h3])
   · exact .inl (by simp only [chr, if_neg h1, if_neg h2, if_pos h3])
   by_cases h : (tlB b = true ∧ tlB c = true) ∧ 2048 ≤ (a.toNat - 224) * 4096 + (b.toNat - 128) * 64 + (c.toNat - 128) ∧ ((a.toNat - 224) * 4096 + (b.toNat - 128) * 64 + (c.toNat - 128) < 55296 ∨ 57343 < (a.toNat - 224) * 4096 + (b.toNat - 128) * 64 + (c.toNat - 128))
   · exact .inr (.inr (.inr (.inl ⟨a, b, c, r, rfl, h3.1, h3.2, h.1.1, h.1.2, h.2.1, h.2.2, by simp only [chr, if_neg h1, if_neg h2, if_pos h3, if_pos h]⟩)))
   · exact .inl (by simp only [chr, if_neg h1, if_neg h2, if_pos h3, if_neg h])
 by_cases h4 : 240 ≤ a.toNat ∧ a.toNat < 248
 · rcases r with _ | ⟨b, _ | ⟨c, _ | ⟨d, r⟩⟩⟩
   · exact .inl (by simp only [chr, if_neg h1, if_neg h2, if_neg h3, if_pos h4])
   · exact .inl (by simp only [chr, if_neg h1, if_neg h2, if_neg h3, if_pos h4])
   · exact .inl (by simp only [chr, if_neg h1, if_neg h2, if_neg h3, if_pos h4])
   by_cases h : (tlB b = true ∧ tlB c = true ∧ tlB d = true) ∧ 65536 ≤ (a.toNat - 240) * 262144 + (b.toNat - 128) * 4096 + (c.toNat - 128) * 64 + (d.toNat - 128) ∧ (a.toNat - 240) * 262144 + (b.toNat - 128) * 4096 + (c.toNat - 128) * 64 + (d.toNat - 128) ≤ 1114111
   · exact .inr (.inr (.inr (.inr ⟨a, b, c, d, r, rfl, h4.1, h4.2, h.1.1, h.1.2.1, h.1.2.2, h.2.1, h.2.2, by simp only [chr, if_neg h1, if_neg h2, if_neg h3, if_pos h4, if_pos h]⟩)))
   · exact .inl (by simp only [chr, if_neg h1, if_neg h2, if_neg h3, if_pos h4, if_neg h])
 · exact .inl (by simp only [chr, if_neg h1, if_neg h2, if_neg h3, if_neg h4])
/-- A piece: which character (U+FFFD where there is none), how many bytes. -/
def dec (L : List UInt8) : Nat × Nat := if (chr L).1 = 0 then (65533, 1) else ((chr L).2, (chr L).1)
theorem dec_pos (L : List UInt8) : 1 ≤ (dec L).2 := by
 unfold dec; split
 · exact Nat.le_refl _
 · show 1 ≤ (chr L).1; omega
theorem chr_le (L : List UInt8) : (chr L).1 ≤ L.length := by
 rcases chr_cases L with h | ⟨a, r, rfl, _, h⟩ | ⟨a, b, r, rfl, _, _, _, _, h⟩ | ⟨a, b, c, r, rfl, _, _, _, _, _, _, h⟩ | ⟨a, b, c, d, r, rfl, _, _, _, _, _, _, _, h⟩ <;> rw [h] <;> simp
theorem dec_le (L : List UInt8) (h : L ≠ []) : (dec L).2 ≤ L.length := by
 unfold dec; split
 · have := List.length_pos_iff.2 h; show 1 ≤ _; omega
 · exact chr_le L
/-- What the model's own decoding tells. -/
theorem get_drop (s : ByteArray) (p k : Nat) (x : UInt8) (h : (s.data.toList.drop p)[k]? = some x) : s.get! (p + k) = x ∧ p + k < s.size := by
 rw [List.getElem?_drop] at h
 obtain ⟨hl, rfl⟩ := List.getElem?_eq_some_iff.1 h
 have hs : p + k < s.size := by simpa using hl
 refine ⟨?_, hs⟩
 have hs' : p + k < s.data.size := hs
 show s.data[p + k]! = _
 rw [getElem!_pos s.data (p + k) hs']
 simp
theorem get_none (s : ByteArray) (p k : Nat) (h : (s.data.toList.drop p)[k]? = none) : ¬ p + k < s.size := by
 rw [List.getElem?_drop] at h
 have := List.getElem?_eq_none_iff.1 h
 have e : s.data.toList.length = s.size := by simp
 omega
theorem valid_iff (c : Nat) : Utf8.valid (c : Int) = true ↔ c < 55296 ∨ (57344 ≤ c ∧ c ≤ 1114111) := by
 simp only [Utf8.valid, Bool.or_eq_true, Bool.and_eq_true, decide_eq_true_eq]
 omega
set_option maxHeartbeats 4000000 in
theorem decode_eq (s : ByteArray) (p : Nat) (hp : p < s.size) : Utf8.decode s p = dec (s.data.toList.drop p) := by
 obtain ⟨L, hL⟩ : ∃ L, s.data.toList.drop p = L := ⟨_, rfl⟩
 have hne : L ≠ [] := by
  intro e
  have := congrArg List.length (hL.trans e)
  have e2 : s.data.toList.length = s.size := by simp
  simp only [List.length_drop, List.length_nil] at this
  omega
 have G := fun k x (h : L[k]? = some x) => get_drop s p k x (by rw [hL]; exact h)
 have N := fun k (h : L[k]? = none) => get_none s p k (by rw [hL]; exact h)
 rw [hL]
 rcases L with _ | ⟨a, r⟩
 · exact absurd rfl hne
 have ga : s.get! (p + 0) = a := (G 0 a rfl).1
 have ha := a.toNat_lt
 by_cases h1 : a.toNat < 128
 · simp only [Utf8.decode, ga, h1, if_true, dec, chr, if_false, Nat.one_ne_zero]
 have hb64 : ∀ x : Nat, x < 256 → (x / 64 = 2 ↔ 128 ≤ x ∧ x < 192) := fun x _ => by omega
 rcases r with _ | ⟨b, _ | ⟨c, _ | ⟨d, r⟩⟩⟩
 · have n1 := N 1 rfl
   have n2 := N 2 rfl
   have n3 := N 3 rfl
   simp only [Utf8.decode, ga, h1, n1, n2, n3, if_false, decide_false, Bool.false_and, Bool.and_false, Bool.false_eq_true, dec, chr, Utf8.runeError]
   repeat' split
   all_goals first | omega | (refine Prod.ext ?_ ?_ <;> dsimp only <;> omega)
 · obtain ⟨g1, l1⟩ := G 1 b rfl
   have n2 := N 2 rfl
   have n3 := N 3 rfl
   have hb := b.toNat_lt
   simp only [Utf8.decode, ga, g1, h1, l1, n2, n3, if_false, decide_false, decide_true, Bool.true_and, Bool.false_and, Bool.and_false, Bool.false_eq_true, dec, chr, Utf8.runeError, Bool.and_eq_true, beq_iff_eq, decide_eq_true_eq, ge_iff_le, tlB_iff, hb64 _ hb]
   repeat' split
   all_goals first | omega | (refine Prod.ext ?_ ?_ <;> dsimp only <;> omega)
 · obtain ⟨g1, l1⟩ := G 1 b rfl
   obtain ⟨g2, l2⟩ := G 2 c rfl
   have n3 := N 3 rfl
   have hb := b.toNat_lt
   have hc := c.toNat_lt
   simp only [Utf8.decode, ga, g1, g2, h1, l1, l2, n3, if_false, decide_false, decide_true, Bool.true_and, Bool.false_and, Bool.and_false, Bool.false_eq_true, dec, chr, Utf8.runeError, Bool.and_eq_true, beq_iff_eq, decide_eq_true_eq, ge_iff_le, tlB_iff, hb64 _ hb, hb64 _ hc, valid_iff]
   repeat' split
   all_goals first | omega | (refine Prod.ext ?_ ?_ <;> dsimp only <;> omega)
 · obtain ⟨g1, l1⟩ := G 1 b rfl
   obtain ⟨g2, l2⟩ := G 2 c rfl
   obtain ⟨g3, l3⟩ := G 3 d rfl
   have hb := b.toNat_lt
   have hc := c.toNat_lt
   have hd := d.toNat_lt
   simp only [Utf8.decode, ga, g1, g2, g3, h1, l1, l2, l3, if_false, decide_true, Bool.true_and, dec, chr, Utf8.runeError, Bool.and_eq_true, beq_iff_eq, decide_eq_true_eq, ge_iff_le, tlB_iff, hb64 _ hb, hb64 _ hc, hb64 _ hd, valid_iff]
   repeat' split
   all_goals first | omega | (refine Prod.ext ?_ ?_ <;> dsimp only <;> omega)
end Go.Proofs.YtgicanpggndbeaaGreat
/- Names and paths in plain mathematics: pieces, names, paths, and what the statements say of them; nothing here speaks of a program. -/
namespace Go.Proofs.YtgicanpggndbeaaGreat
set_option linter.unusedVariables false
set_option maxRecDepth 100000

/-- How many bytes the first n pieces have. -/
def pre : Nat → List UInt8 → Nat
 | 0, _ => 0
 | n + 1, L => if L = [] then 0 else (dec L).2 + pre n (L.drop (dec L).2)
/-! Names. -/
/-- May the first character stand in a name? -/
def okH (L : List UInt8) : Bool := decide ((chr L).1 ≠ 0) && (decide (32 ≤ (chr L).2) && (decide ((chr L).2 ≠ 47) && decide ((chr L).2 ≠ 127)))
def okC (L : List UInt8) : Bool := if h : L = [] then true else okH L && okC (L.drop (dec L).2)
 termination_by L.length
 decreasing_by
  have := List.length_pos_iff.2 h
  have := dec_pos L
  simp only [List.length_drop]
  omega
theorem okC_nil : okC [] = true := by rw [okC]; rfl
theorem okC_cons (L : List UInt8) (h : L ≠ []) : okC L = (okH L && okC (L.drop (dec L).2)) := by
 rw [okC, dif_neg h]
def rightP (L : List UInt8) : Bool := decide (1 ≤ L.length) && (decide (L.length ≤ 18) && (!(L == [46]) && (!(L == [46, 46]) && okC L)))
/-- The same by the piece that a range tells. -/
def okR (L : List UInt8) : Bool := (decide (32 ≤ (dec L).1) && (decide ((dec L).1 ≠ 47) && decide ((dec L).1 ≠ 127))) && (decide ((dec L).1 ≠ 65533) || List.isPrefixOf [239, 191, 189] L)
theorem isPre3 (L : List UInt8) (h : List.isPrefixOf [239, 191, 189] L = true) : ∃ r, L = 239 :: 191 :: 189 :: r := by
 rw [List.isPrefixOf_iff_prefix] at h
 obtain ⟨r, rfl⟩ := h
 exact ⟨r, rfl⟩
theorem chr_fffd (r : List UInt8) : chr (239 :: 191 :: 189 :: r) = (3, 65533) := by
 simp [chr, tlB]
theorem okR_eq (L : List UInt8) : okR L = okH L := by
 by_cases h0 : (chr L).1 = 0
 · have hp : List.isPrefixOf [239, 191, 189] L = false := by
     cases hq : List.isPrefixOf [239, 191, 189] L with
     | false => rfl
     | true =>
      obtain ⟨r, rfl⟩ := isPre3 L hq
      rw [chr_fffd] at h0
      cases h0
   simp [okR, okH, dec, h0, hp]
 · have hd : dec L = ((chr L).2, (chr L).1) := by unfold dec; rw [if_neg h0]
   have hx : (chr L).2 = 65533 → List.isPrefixOf [239, 191, 189] L = true := by
    intro hv
    rcases chr_cases L with h' | ⟨a, r, rfl, h1, h'⟩ | ⟨a, b, r, rfl, h1, h2, h3, h4, h'⟩ | ⟨a, b, c, r, rfl, h1, h2, h3, h4, h5, h6, h'⟩ | ⟨a, b, c, d, r, rfl, h1, h2, h3, h4, h5, h6, h7, h'⟩
    · rw [h'] at h0; exact absurd rfl h0
    · rw [h'] at hv; simp only at hv; omega
    · rw [h'] at hv; simp only at hv; rw [tlB_iff] at h3; omega
    · rw [h'] at hv; simp only at hv
      rw [tlB_iff] at h3 h4
      have ea : a.toNat = 239 := by omega
      have eb : b.toNat = 191 := by omega
      have ec : c.toNat = 189 := by omega
      obtain rfl : a = 239 := UInt8.toNat_inj.1 ea
      obtain rfl : b = 191 := UInt8.toNat_inj.1 eb
      obtain rfl : c = 189 := UInt8.toNat_inj.1 ec
      simp [List.isPrefixOf]
    · rw [h'] at hv; simp only at hv; omega
   unfold okR okH
   rw [hd]
   by_cases hv : (chr L).2 = 65533
   · simp [h0, hv, hx hv]
   · simp [h0, hv]
end Go.Proofs.YtgicanpggndbeaaGreat
