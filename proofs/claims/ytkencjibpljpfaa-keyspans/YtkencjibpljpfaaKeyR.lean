/- The document's own keys: each of its calls comes to what the landed one does. -/
import Derived.Test.YtkencjibpljpfaaKeyM
namespace Go.Proofs.Ytkencjibpljpfaa
set_option linter.unusedVariables false
open Go.RowKit

set_option maxHeartbeats 1000000 in
theorem rnumber_calls (n : Int) (w : World) : Calls Try.prog 29 #[.int .i64 n] w fun e w' => e = .returned (.bool (decide (1 ≤ n ∧ n < 1073741824))) ∧ w' = w := by
  go_enter Try.func29, Try.ntmps29
  go_wp2
  all_goals (go_ret; exact ⟨by congr 2; rw [eq_comm]; simp; omega, rfl⟩)

theorem store_lit {ops : Array Oper} {rest : List Oper} {o : Oper} {a : Act} {w : World} {Q : Exit → Act → World → Prop} (hgd : o.guard = none) (x y : Operand) (ho : o.op = .store 24 x y) (b : Nat) (hx : a.eval x = .pointer (some ⟨b, 0, none⟩)) (C : Array Value) (hy : a.eval y = .agg C) (L : List UInt8) (hC : C = (bc L).toArray) (hL : L.length = 24) (K : List UInt8) (hK : Has w b K)
    (h : ∀ w', Has w' b L → Touch b none w w' → w'.heap.size = w.heap.size → wpList Try.prog ops Q rest (a.put o.dst undef) w') : wpList Try.prog ops Q (o :: rest) a w := by
  subst hC
  exact store_key hgd x y ho b hx L hy hL K hK h
theorem head_cells (n : Int) (h : 0 ≤ n) (k : UInt8) : #[Value.int .u8 (n / 16777216 % 256), .int .u8 (n / 65536 % 256), .int .u8 (n / 256 % 256), .int .u8 (n % 256), .int .u8 (k.toNat : Int), .int .u8 0, .int .u8 0, .int .u8 0, .int .u8 0, .int .u8 0, .int .u8 0, .int .u8 0, .int .u8 0, .int .u8 0, .int .u8 0, .int .u8 0, .int .u8 0, .int .u8 0, .int .u8 0, .int .u8 0, .int .u8 0, .int .u8 0, .int .u8 0, .int .u8 0] = (bc (headK n.toNat k)).toArray := by
  obtain ⟨m, rfl⟩ := Int.eq_ofNat_of_zero_le h
  have e0 : (m : Int) / 16777216 % 256 = ((UInt8.ofNat (m / 256 ^ 3)).toNat : Int) := by simp
  have e1 : (m : Int) / 65536 % 256 = ((UInt8.ofNat (m / 256 ^ 2)).toNat : Int) := by simp
  have e2 : (m : Int) / 256 % 256 = ((UInt8.ofNat (m / 256 ^ 1)).toNat : Int) := by simp
  have e3 : (m : Int) % 256 = ((UInt8.ofNat (m / 256 ^ 0)).toNat : Int) := by simp
  rw [e0, e1, e2, e3]
  rfl
set_option maxHeartbeats 1000000 in
theorem rhead_calls (n kk : Int) (k : UInt8) (hkk : (k.toNat : Int) = kk) (w : World) (h0 : 0 ≤ n) :
    Calls Try.prog 30 #[.int .i64 n, .int .i64 kk] w fun e w' => e = .returned (kv (headK n.toNat k)) ∧ Below w.heap.size w w' := by
  subst hkk
  have hk := k.toNat_lt
  go_enter Try.func30, Try.ntmps30
  go_wp2_with (refine store_lit rfl _ _ rfl _ rfl _ rfl _ (head_cells n h0 k) (headK_length _ _) (zs 24) (zero_has w w.heap.size rfl) ?_; intro w2 h2 t2 s2)
  refine ret_key rfl _ _ rfl h2 rfl ⟨rfl, ?_⟩
  exact below_touched (below_made (Below.refl _ w) (Nat.le_refl _) _) t2 (Nat.le_refl _) (Nat.le_refl _)

set_option maxHeartbeats 1000000 in
theorem rinode_calls (n : Int) (w : World) :
    Calls Try.prog 11 #[.int .i64 n] w fun e w' => e = .returned (.tuple #[kv (inodeR n), .bool (okN n)]) ∧ Below w.heap.size w w' := by
  by_cases hn : okN n = true
  · have h0 : 1 ≤ n ∧ n < 1073741824 := by simpa [okN] using hn
    go_enter Try.func11, Try.ntmps11
    go_wp2_with (first
      | (go_at_call 29; refine (rnumber_calls n _).mono ?_; rintro e w1 ⟨rfl, rfl⟩)
      | (go_at_call 30; refine (rhead_calls n 1 1 (by decide) _ (by omega)).mono ?_; rintro e w1 ⟨rfl, b1⟩)
      | (refine store_key rfl _ _ rfl _ rfl _ rfl (headK_length _ _) (zs 24) ((zero_has w w.heap.size rfl).below b1 (by simp)) ?_; intro w2 h2 t2 s2))
    refine ret_key_ok rfl _ _ _ rfl rfl h2 rfl ⟨by rw [inodeR, if_pos hn, hn]; rfl, ?_⟩
    exact below_touched (below_called (below_made (Below.refl _ w) (Nat.le_refl _) _) b1 (Nat.le_refl _)) t2 (Nat.le_refl _) (Nat.le_refl _)
  · have hf : okN n = false := by simpa using hn
    have h0 : ¬ (1 ≤ n ∧ n < 1073741824) := by simpa [okN] using hn
    go_enter Try.func11, Try.ntmps11
    go_wp2_with (first
      | (go_at_call 29; refine (rnumber_calls n _).mono ?_; rintro e w1 ⟨rfl, rfl⟩; rw [decide_eq_false h0])
      | (refine store_key rfl _ _ rfl _ rfl (zs 24) rfl (zs_length _) (zs 24) (zero_has w w.heap.size rfl) ?_; intro w2 h2 t2 s2))
    refine ret_key_ok rfl _ _ _ rfl rfl h2 rfl ⟨by rw [inodeR, hf]; rfl, ?_⟩
    exact below_touched (below_made (Below.refl _ w) (Nat.le_refl _) _) t2 (Nat.le_refl _) (Nat.le_refl _)

theorem Has.word {w : World} {b : Nat} {K : List UInt8} (h : Has w b K) (p : Int) (hp : 0 ≤ p) : Has ((((w.setCell ⟨b, 20, none⟩ (.int .u8 (p / 16777216 % 256))).setCell ⟨b, 21, none⟩ (.int .u8 (p / 65536 % 256))).setCell ⟨b, 22, none⟩ (.int .u8 (p / 256 % 256))).setCell ⟨b, 23, none⟩ (.int .u8 (p % 256))) b (K.take 20 ++ be p.toNat 4 ++ K.drop (20 + 4)) := by
  obtain ⟨m, rfl⟩ := Int.eq_ofNat_of_zero_le hp
  have e0 : (m : Int) / 16777216 % 256 = ((UInt8.ofNat (m / 256 ^ 3)).toNat : Int) := by simp
  have e1 : (m : Int) / 65536 % 256 = ((UInt8.ofNat (m / 256 ^ 2)).toNat : Int) := by simp
  have e2 : (m : Int) / 256 % 256 = ((UInt8.ofNat (m / 256 ^ 1)).toNat : Int) := by simp
  have e3 : (m : Int) % 256 = ((UInt8.ofNat (m / 256 ^ 0)).toNat : Int) := by simp
  rw [e0, e1, e2, e3]
  have hh := (((h.setCell 20 (UInt8.ofNat (m / 256 ^ 3))).setCell 21 (UInt8.ofNat (m / 256 ^ 2))).setCell 22 (UInt8.ofNat (m / 256 ^ 1))).setCell 23 (UInt8.ofNat (m / 256 ^ 0))
  rw [list_set4 K 20 _ _ _ _ (by rw [h.len]; omega)] at hh
  exact hh
theorem touch_word (w : World) (b : Nat) (x0 x1 x2 x3 : Value) : Touch b none w ((((w.setCell ⟨b, 20, none⟩ x0).setCell ⟨b, 21, none⟩ x1).setCell ⟨b, 22, none⟩ x2).setCell ⟨b, 23, none⟩ x3) := ((((Touch.refl _ _ _).setCell _ _).setCell _ _).setCell _ _).setCell _ _
set_option maxHeartbeats 1000000 in
theorem rchunk_calls (n p : Int) (w : World) :
    Calls Try.prog 15 #[.int .i64 n, .int .i64 p] w fun e w' => e = .returned (.tuple #[kv (chunkR n p), .bool (okN n && okP p)]) ∧ Below w.heap.size w w' := by
  by_cases hn1 : okN n = true
  · by_cases hn2 : okP p = true
    · have h0 : 1 ≤ n ∧ n < 1073741824 := by simpa [okN] using hn1
      have h1 : 0 ≤ p ∧ p ≤ 4294967295 := by simpa [okP] using hn2
      go_enter Try.func15, Try.ntmps15
      go_upto_region 4 with (first
        | (go_at_call 29; refine (rnumber_calls n _).mono ?_; rintro e w1 ⟨rfl, rfl⟩)
        | (go_at_call 30; refine (rhead_calls n 3 3 (by decide) _ (by omega)).mono ?_; rintro e w1 ⟨rfl, b1⟩)
        | (refine store_key rfl _ _ rfl _ rfl _ rfl (headK_length _ _) (zs 24) (zero_has w1 w1.heap.size rfl) ?_; intro w2 h2 t2 s2))
      have hsb := b1.size
      simp at hsb
      have h3 := h2.word p h1.1
      rw [chunk_list] at h3
      have t3 := touch_word w2 w1.heap.size (.int .u8 (p / 16777216 % 256)) (.int .u8 (p / 65536 % 256)) (.int .u8 (p / 256 % 256)) (.int .u8 (p % 256))
      have c20 := h2.cell 20 (by omega); have f20 := h2.free 20
      have c21 := h2.cell 21 (by omega); have f21 := h2.free 21
      have c22 := h2.cell 22 (by omega); have f22 := h2.free 22
      have c23 := h2.cell 23 (by omega); have f23 := h2.free 23
      rw [show p / 16777216 % 256 = p / 16777216 by omega] at h3 t3
      go_upto_region 8 with fail
      go_wp2_with (first
        | (refine load_key _ rfl _ rfl rfl _ h3 ?_)
        | (refine store_key rfl _ _ rfl _ rfl _ rfl (chunkK_length _ _) (zs 24) (((((zero_has w w.heap.size rfl).below b1 (by simp)).alloc _).touch t2 (by omega)).touch t3 (by omega)) ?_; intro w4 h4 t4 s4))
      refine ret_key_ok rfl _ _ _ rfl rfl h4 rfl ⟨by rw [chunkR, hn1, hn2]; rfl, ?_⟩
      exact below_touched (below_touched (below_touched (below_made (below_called (below_made (Below.refl _ w) (Nat.le_refl _) _) b1 (Nat.le_refl _)) (Nat.le_refl _) _) t2 (by omega) (Nat.le_refl _)) t3 (by omega) (Nat.le_refl _)) t4 (Nat.le_refl _) (Nat.le_refl _)
    · have h0 : 1 ≤ n ∧ n < 1073741824 := by simpa [okN] using hn1
      have h1 : ¬ (0 ≤ p ∧ p ≤ 4294967295) := by simpa [okP] using hn2
      have hf : okP p = false := by simpa using hn2
      have HF : Hid ((okN n && okP p) = false) := by show _ = _; rw [hf]; simp
      clear hf hn2 hn1
      have hd : (decide (p < 0) || decide (4294967295 < p)) = true := by simp; omega
      go_enter Try.func15, Try.ntmps15
      go_wp2_with (first
        | (go_at_call 29; refine (rnumber_calls n _).mono ?_; rintro e w1 ⟨rfl, rfl⟩)
        | (refine store_key rfl _ _ rfl _ rfl (zs 24) rfl (zs_length _) (zs 24) (zero_has w w.heap.size rfl) ?_; intro w2 h2 t2 s2))
      all_goals
        refine ret_key_ok rfl _ _ _ rfl rfl h2 rfl ⟨by rw [chunkR, HF.out]; rfl, ?_⟩
        exact below_touched (below_made (Below.refl _ w) (Nat.le_refl _) _) t2 (Nat.le_refl _) (Nat.le_refl _)
  · have h0 : ¬ (1 ≤ n ∧ n < 1073741824) := by simpa [okN] using hn1
    have hf : okN n = false := by simpa using hn1
    have HF : Hid ((okN n && okP p) = false) := by show _ = _; rw [hf]; simp
    clear hf hn1
    go_enter Try.func15, Try.ntmps15
    go_wp2_with (first
      | (go_at_call 29; refine (rnumber_calls n _).mono ?_; rintro e w1 ⟨rfl, rfl⟩; rw [decide_eq_false h0])
      | (refine store_key rfl _ _ rfl _ rfl (zs 24) rfl (zs_length _) (zs 24) (zero_has w w.heap.size rfl) ?_; intro w2 h2 t2 s2))
    all_goals
      refine ret_key_ok rfl _ _ _ rfl rfl h2 rfl ⟨by rw [chunkR, HF.out]; rfl, ?_⟩
      exact below_touched (below_made (Below.refl _ w) (Nat.le_refl _) _) t2 (Nat.le_refl _) (Nat.le_refl _)

theorem set_snoc (l s : List UInt8) (k : Nat) (h : 5 + k < l.length) (hk : k < s.length) : (l.take 5 ++ s.take k ++ l.drop (5 + k)).set (5 + k) (s.getD k 0) = l.take 5 ++ s.take (k + 1) ++ l.drop (5 + (k + 1)) := by
  have h1 : (l.take 5 ++ s.take k).length = 5 + k := by simp; omega
  have h2 : l.drop (5 + k) = l[5 + k] :: l.drop (5 + k + 1) := List.drop_eq_getElem_cons h
  have h3 : s.take (k + 1) = s.take k ++ [s[k]] := List.take_succ_eq_append_getElem hk
  rw [List.set_append_right _ _ (by omega), h1, Nat.sub_self, h2, List.set_cons_zero, h3, List.getD_eq_getElem?_getD, List.getElem?_eq_getElem hk]
  simp only [Option.getD_some, List.append_assoc, List.cons_append, List.nil_append, Nat.add_assoc]

set_option maxRecDepth 100000 in
set_option maxHeartbeats 2000000 in
theorem rentry_calls (n : Int) (s : ByteArray) (w : World) :
    Calls Try.prog 13 #[.int .i64 n, .string s] w fun e w' => e = .returned (.tuple #[kv (entryR n s.data.toList), .bool (okN n && okS s.data.toList)]) ∧ Below w.heap.size w w' := by
  have hsz : s.data.toList.length = s.size := rfl
  by_cases hn1 : okN n = true
  · by_cases hl : 1 ≤ s.size ∧ s.size ≤ 18
    · have h0 : 1 ≤ n ∧ n < 1073741824 := by simpa [okN] using hn1
      have HN1 : Hid (okN n = true) := hn1
      clear hn1
      go_enter Try.func13, Try.ntmps13
      go_wp2_with (first
        | (go_at_call 29; refine (rnumber_calls n _).mono ?_; rintro e w1 ⟨rfl, rfl⟩)
        | (go_at_call 30; refine (rhead_calls n 2 2 (by decide) _ (by omega)).mono ?_; rintro e w1 ⟨rfl, b1⟩)
        | (refine store_key rfl _ _ rfl _ rfl _ rfl (headK_length _ _) (zs 24) (zero_has w1 w1.heap.size rfl) ?_; intro w2 h2 t2 s2))
      have hsb := b1.size
      simp at hsb
      have hZ := (((zero_has w w.heap.size rfl).below b1 (by simp)).alloc (.cells #[.int .u8 0, .int .u8 0, .int .u8 0, .int .u8 0, .int .u8 0, .int .u8 0, .int .u8 0, .int .u8 0, .int .u8 0, .int .u8 0, .int .u8 0, .int .u8 0, .int .u8 0, .int .u8 0, .int .u8 0, .int .u8 0, .int .u8 0, .int .u8 0, .int .u8 0, .int .u8 0, .int .u8 0, .int .u8 0, .int .u8 0, .int .u8 0] 24)).touch t2 (by omega)
      have hB : Below w.heap.size w w2 := below_touched (below_made (below_called (below_made (Below.refl _ w) (Nat.le_refl _) _) b1 (Nat.le_refl _)) (Nat.le_refl _) _) t2 (by omega) (Nat.le_refl _)
      clear b1 t2 s2
      generalize w1.heap.size = q at *
      go_loopw [7] (fun i w' => ∃ k : Nat, k ≤ s.size ∧ i = .int .i64 (k : Int) ∧ Has w' q ((headK n.toNat 2).take 5 ++ s.data.toList.take k ++ (headK n.toNat 2).drop (5 + k)) ∧ Has w' w.heap.size (zs 24) ∧ Below w.heap.size w w' ∧ (0 : UInt8) ∉ s.data.toList.take k) (fun i _ => s.size - (intOf i).toNat)
      case atStart => exact ⟨0, Nat.zero_le _, rfl, by simpa using h2, hZ, hB, by simp⟩
      case round =>
        obtain ⟨k, hk, rfl, h3, h4, B3, hz⟩ := hrel
        clear h2 hZ hB
        by_cases hks : k < s.size
        · have hkl : k < s.data.toList.length := hks
          have hx : s.data.toList.getD k 0 = s[k] := by rw [List.getD_eq_getElem?_getD, List.getElem?_eq_getElem hkl]; rfl
          by_cases h0x : s[k] = 0
          · have hbad : okS s.data.toList = false := by
              rw [okS, decide_eq_false]
              intro h
              refine h.2.2 ?_
              rw [← h0x, ← hx, List.getD_eq_getElem?_getD, List.getElem?_eq_getElem hkl]
              exact List.getElem_mem hkl
            have HX : Hid (okS s.data.toList = false) := hbad
            clear hbad hx
            go_wp2_with (first
              | (refine store_key rfl _ _ rfl _ rfl (zs 24) rfl (zs_length _) (zs 24) h4 ?_; intro w5 h5 t5 s5))
            refine ret_key_ok rfl _ _ _ rfl rfl h5 rfl ⟨by rw [entryR, HX.out, Bool.and_false]; rfl, below_touched B3 t5 (Nat.le_refl _) (Nat.le_refl _)⟩
          · have h5 := h3.setCell (5 + k) (s.data.toList.getD k 0)
            rw [set_snoc _ _ _ (by rw [headK_length]; omega) hkl, hx] at h5
            have hz1 : (0 : UInt8) ∉ s.data.toList.take (k + 1) := by
              rw [List.take_succ_eq_append_getElem hkl, List.mem_append]
              rintro (h | h)
              · exact hz h
              · simp at h
                exact h0x h.symm
            have HZ1 : Hid ((0 : UInt8) ∉ s.data.toList.take (k + 1)) := hz1
            have H5 : Hid (Has (wr.setCell ⟨q, 5 + k, none⟩ (.int .u8 (s[k].toNat : Int))) q ((headK n.toNat 2).take 5 ++ s.data.toList.take (k + 1) ++ (headK n.toNat 2).drop (5 + (k + 1)))) := h5
            have c5 := h3.cell (5 + k) (by omega)
            have f5 := h3.free (5 + k)
            have hx1 : ¬ ((s[k].toNat : Nat) : Int) = 0 := by rw [u8_zero]; exact h0x
            clear hz1 h5 hx hz h0x
            go_wp2_with fail
            go_roundw
            case rel => exact ⟨k + 1, by omega, by go_num, H5.out, h4.setOther (by omega) _ _, B3.setCell (by simp; omega) _, HZ1.out⟩
            case measure => simp [intOf]; omega
        · have e : k = s.size := by omega
          subst e
          have etk : s.data.toList.take s.size = s.data.toList := List.take_of_length_le (by rw [hsz]; exact Nat.le_refl _)
          rw [etk] at hz h3
          have hok : okS s.data.toList = true := by
            rw [okS, decide_eq_true_iff]
            exact ⟨by omega, by omega, hz⟩
          have HOK : Hid (okS s.data.toList = true) := hok
          have c23 := h3.cell 23 (by omega)
          have f23 := h3.free 23
          have h5 := h3.setCell 23 (UInt8.ofNat s.data.toList.length)
          have e5 : ((UInt8.ofNat s.data.toList.length).toNat : Int) = (s.size : Int) := by rw [hsz, UInt8.toNat_ofNat']; omega
          rw [e5] at h5
          have e6 := entry_list n.toNat s.data.toList (by rw [hsz]; exact hl.2)
          rw [hsz] at e6
          rw [hsz, e6] at h5
          have H5 : Hid (Has (wr.setCell ⟨q, 23, none⟩ (.int .u8 (s.size : Int))) q (entryK n.toNat s.data.toList)) := h5
          have hl5 := h5.len
          clear hok h5 e5 e6 hz h3 etk
          go_upto_region 11 with fail
          go_wp2_with (first
            | (refine load_key _ rfl _ rfl rfl _ H5.out ?_)
            | (refine store_key rfl _ _ rfl _ rfl _ rfl hl5 (zs 24) (h4.setOther (by omega) _ _) ?_; intro w6 h6 t6 s6))
          refine ret_key_ok rfl _ _ _ rfl rfl h6 rfl ⟨by rw [entryR, HN1.out, HOK.out]; rfl, below_touched (B3.setCell (by simp; omega) _) t6 (Nat.le_refl _) (Nat.le_refl _)⟩
    · have hbad : okS s.data.toList = false := by
        rw [okS, decide_eq_false]
        intro h
        exact hl ⟨h.1, h.2.1⟩
      have HX : Hid (okS s.data.toList = false) := hbad
      have h0 : 1 ≤ n ∧ n < 1073741824 := by simpa [okN] using hn1
      have hd : (decide ((s.size : Int) < 1) || decide (18 < (s.size : Int))) = true := by simp; omega
      clear hbad hn1
      go_enter Try.func13, Try.ntmps13
      go_wp2_with (first
        | (go_at_call 29; refine (rnumber_calls n _).mono ?_; rintro e w1 ⟨rfl, rfl⟩)
        | (refine store_key rfl _ _ rfl _ rfl (zs 24) rfl (zs_length _) (zs 24) (zero_has w w.heap.size rfl) ?_; intro w2 h2 t2 s2))
      all_goals
        refine ret_key_ok rfl _ _ _ rfl rfl h2 rfl ⟨by rw [entryR, HX.out, Bool.and_false]; rfl, ?_⟩
        exact below_touched (below_made (Below.refl _ w) (Nat.le_refl _) _) t2 (Nat.le_refl _) (Nat.le_refl _)
  · have h0 : ¬ (1 ≤ n ∧ n < 1073741824) := by simpa [okN] using hn1
    have hf : okN n = false := by simpa using hn1
    have HF : Hid ((okN n && okS s.data.toList) = false) := by show _ = _; rw [hf]; rfl
    clear hf hn1
    go_enter Try.func13, Try.ntmps13
    go_wp2_with (first
      | (go_at_call 29; refine (rnumber_calls n _).mono ?_; rintro e w1 ⟨rfl, rfl⟩; rw [decide_eq_false h0])
      | (refine store_key rfl _ _ rfl _ rfl (zs 24) rfl (zs_length _) (zs 24) (zero_has w w.heap.size rfl) ?_; intro w2 h2 t2 s2))
    all_goals
      refine ret_key_ok rfl _ _ _ rfl rfl h2 rfl ⟨by rw [entryR, HF.out]; rfl, ?_⟩
      exact below_touched (below_made (Below.refl _ w) (Nat.le_refl _) _) t2 (Nat.le_refl _) (Nat.le_refl _)
end Go.Proofs.Ytkencjibpljpfaa
