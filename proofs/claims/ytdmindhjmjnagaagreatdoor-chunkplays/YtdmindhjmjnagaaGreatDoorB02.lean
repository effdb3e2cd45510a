import Derived.Test.YtdmindhjmjnagaaGreatDoorB01
import Derived.Laws.ResultCell
/- KeyB KeyC -/
namespace Go.Proofs.YtdmindhjmjnagaaGreatDoor
set_option linter.unusedVariables false
set_option maxRecDepth 1000000
set_option maxHeartbeats 32000000
section
open Go.RowKit
theorem ret_key {fn : Func} {R : Ending → World → Prop} {a : Act} {w : World} {p : Tmp} (hr : fn.results = #[.cell p 54]) (b : Nat) (K : List UInt8) (hp : a.tmps.getD p undef = .pointer (some ⟨b, 0, none⟩)) (hK : Has w b K)
    (hd : a.defers = []) (hR : R (.returned (kv K)) w) : bodyPost Tryz.prog fn R .ret a w :=
 bodyPost_ret (results_cell_row hr _ w b _ _ _ _ hp hK.blk Tryz.underlying54 rfl (by rw [bc_size, hK.len]; exact Tryz.key_info)) hd hR
theorem ret_key_ok {fn : Func} {R : Ending → World → Prop} {a : Act} {w : World} {p u : Tmp} (hr : fn.results = #[.cell p 54, .tmp u]) (b : Nat) (K : List UInt8) (v : Value) (hp : a.tmps.getD p undef = .pointer (some ⟨b, 0, none⟩)) (hv : a.tmps.getD u undef = v) (hK : Has w b K)
    (hd : a.defers = []) (hR : R (.returned (.tuple #[kv K, v])) w) : bodyPost Tryz.prog fn R .ret a w := by
 refine bodyPost_ret (v := .tuple #[kv K, v]) ?_ hd hR
 have hl := run_loadVar_row (P := Tryz.prog) w b 54 54 _ _ _ hK.blk Tryz.underlying54 rfl (by rw [bc_size, hK.len]; exact Tryz.key_info)
 rw [results_cell_tmp hr, hp, hv]
 simp [asAddr, Result.andThen, hl]
def headK (n : Nat) (k : UInt8) : List UInt8 := be n 4 ++ k :: zs 19
def entryK (n : Nat) (s : List UInt8) : List UInt8 := be n 4 ++ 2 :: (s ++ zs (18 - s.length) ++ [UInt8.ofNat s.length])
def chunkK (n p : Nat) : List UInt8 := be n 4 ++ 3 :: (zs 15 ++ be p 4)
theorem headK_length (n : Nat) (k : UInt8) : (headK n k).length = 24 := by simp [headK, be_length, zs_length]
theorem entryK_length (n : Nat) (s : List UInt8) (h : s.length ≤ 18) : (entryK n s).length = 24 := by simp [entryK, be_length, zs_length]; omega
theorem chunkK_length (n p : Nat) : (chunkK n p).length = 24 := by simp [chunkK, be_length, zs_length]
theorem zero_has (w : World) (b : Nat) (hb : b = w.heap.size) : Has (w.alloc (.cells #[.int .u8 0, .int .u8 0, .int .u8 0, .int .u8 0, .int .u8 0, .int .u8 0, .int .u8 0, .int .u8 0, .int .u8 0, .int .u8 0, .int .u8 0, .int .u8 0, .int .u8 0, .int .u8 0, .int .u8 0, .int .u8 0, .int .u8 0, .int .u8 0, .int .u8 0, .int .u8 0, .int .u8 0, .int .u8 0, .int .u8 0, .int .u8 0] 54)) b (zs 24) := hb ▸ Has.new w (zs 24) rfl
theorem least_calls (n kk : Int) (k : UInt8) (hkk : (k.toNat : Int) = kk) (w : World) (h0 : 0 ≤ n) :
    Calls Tryz.prog 60 #[.int .i64 n, .int .i64 kk] w fun e w' => e = .returned (kv (headK n.toNat k)) ∧ Below w.heap.size w w' := by
 subst hkk
 have hk := k.toNat_lt
 go_enter Tryz.func60, Tryz.ntmps60
 go_wp2_with (first
  | (go_at_call 61; refine (putWord_calls _ (w.heap.size + 1) 0 24 (zs 24) n (by exact zero_has _ _ (by simp)) (by omega) h0).mono ?_; rintro e w1 ⟨rfl, h1, t1, s1⟩; have c4 := h1.cell 4 (by omega); have f4 := h1.free 4)
  | (refine load_key _ rfl _ rfl rfl _ (h1.setCell 4 k) ?_)
  | (refine store_key rfl _ _ rfl _ rfl _ rfl (h1.setCell 4 k).len (zs 24) ((((zero_has w w.heap.size rfl).alloc _).touch t1 (by omega)).setOther (by omega) _ _) ?_; intro w2 h2 t2 s2))
 refine ret_key rfl _ _ rfl h2 rfl ⟨rfl, ?_⟩
 exact below_touched ((below_touched (below_made (below_made (Below.refl _ w) (Nat.le_refl _) _) (Nat.le_refl _) _) t1 (by omega) (Nat.le_refl _)).setCell (by simp) _) t2 (Nat.le_refl _) (Nat.le_refl _)
def okN (n : Int) : Bool := decide (1 ≤ n ∧ n < 1073741824)
def okP (p : Int) : Bool := decide (0 ≤ p ∧ p ≤ 4294967295)
def okS (s : List UInt8) : Bool := decide (1 ≤ s.length ∧ s.length ≤ 18 ∧ (0 : UInt8) ∉ s)
def inodeR (n : Int) : List UInt8 := if okN n then headK n.toNat 1 else zs 24
def entryR (n : Int) (s : List UInt8) : List UInt8 := if okN n && okS s then entryK n.toNat s else zs 24
def chunkR (n p : Int) : List UInt8 := if okN n && okP p then chunkK n.toNat p.toNat else zs 24
theorem inodeR_length (n : Int) : (inodeR n).length = 24 := by unfold inodeR; split <;> simp [headK_length, zs_length]
theorem entryR_length (n : Int) (s : List UInt8) : (entryR n s).length = 24 := by
 unfold entryR
 split
 · rename_i h
   simp only [okS, Bool.and_eq_true, decide_eq_true_eq] at h
   exact entryK_length _ _ h.2.2.1
 · exact zs_length 24
theorem chunkR_length (n p : Int) : (chunkR n p).length = 24 := by unfold chunkR; split <;> simp [chunkK_length, zs_length]
theorem inode_calls (n : Int) (w : World) :
    Calls Tryz.prog 101 #[.int .i64 n] w fun e w' => e = .returned (.tuple #[kv (inodeR n), .bool (okN n)]) ∧ Below w.heap.size w w' := by
 by_cases hn : okN n = true
 · have h0 : 1 ≤ n ∧ n < 1073741824 := by simpa [okN] using hn
   go_enter Tryz.func101, Tryz.ntmps101
   go_wp2_with (first
    | (go_at_call 58; refine (isNumber_calls n _).mono ?_; rintro e w1 ⟨rfl, rfl⟩)
    | (go_at_call 60; refine (least_calls n 1 1 (by decide) _ (by omega)).mono ?_; rintro e w1 ⟨rfl, b1⟩)
    | (refine store_key rfl _ _ rfl _ rfl _ rfl (headK_length _ _) (zs 24) ((zero_has w w.heap.size rfl).below b1 (by simp)) ?_; intro w2 h2 t2 s2))
   refine ret_key_ok rfl _ _ _ rfl rfl h2 rfl ⟨by rw [inodeR, if_pos hn, hn]; rfl, ?_⟩
   exact below_touched (below_called (below_made (Below.refl _ w) (Nat.le_refl _) _) b1 (Nat.le_refl _)) t2 (Nat.le_refl _) (Nat.le_refl _)
 · have hf : okN n = false := by simpa using hn
   have h0 : ¬ (1 ≤ n ∧ n < 1073741824) := by simpa [okN] using hn
   go_enter Tryz.func101, Tryz.ntmps101
   go_wp2_with (first
    | (go_at_call 58; refine (isNumber_calls n _).mono ?_; rintro e w1 ⟨rfl, rfl⟩; rw [decide_eq_false h0])
    | (refine store_key rfl _ _ rfl _ rfl (zs 24) rfl (zs_length _) (zs 24) (zero_has w w.heap.size rfl) ?_; intro w2 h2 t2 s2))
   refine ret_key_ok rfl _ _ _ rfl rfl h2 rfl ⟨by rw [inodeR, hf]; rfl, ?_⟩
   exact below_touched (below_made (Below.refl _ w) (Nat.le_refl _) _) t2 (Nat.le_refl _) (Nat.le_refl _)
theorem indexByte_neg (l : List UInt8) (c : UInt8) : decide (Lib.indexByte l c < 0) = decide (c ∉ l) := by
 induction l with
 | nil => simp [Lib.indexByte]
 | cons b l ih =>
  have hg := Lib.indexByte_ge l c
  unfold Lib.indexByte
  by_cases hb : b = c
  · subst hb; simp
  · have hb' : (b == c) = false := by simpa using hb
    have hc : ¬ c = b := fun e => hb e.symm
    simp only [decide_eq_decide] at ih ⊢
    rw [hb']
    simp only [Bool.false_eq_true, if_false, List.mem_cons, hc, false_or]
    rw [← ih]
    by_cases h1 : Lib.indexByte l c = -1
    · simp [h1]
    · have : (Lib.indexByte l c == -1) = false := by simpa using h1
      rw [this]
      simp only [Bool.false_eq_true, if_false]
      omega
theorem lite_index (s : ByteArray) (c : Int) (w : World) :
    Calls Tryz.prog 183 #[.string s, .int .u8 c] w fun e w' => e = .returned (.int .i64 (Lib.indexByte s.data.toList c.toNat.toUInt8)) ∧ w' = w := by
 go_enter Tryz.func183, Tryz.ntmps183
 go_wp2
 rw [run_callFunc_extern Tryz.func201 (by kernel_rfl) (by kernel_rfl) (by kernel_rfl) (e := Extern.BytealgIndexByte.indexByte) (by kernel_rfl), Lib.run_indexByteString]
 simp only [Result.andThen]
 rw [Oper.upon_value]
 go_wp2
 go_ret
 exact ⟨rfl, rfl⟩
theorem indexByte_calls (s : ByteArray) (c : Int) (w : World) :
    Calls Tryz.prog 165 #[.string s, .int .u8 c] w fun e w' => e = .returned (.int .i64 (Lib.indexByte s.data.toList c.toNat.toUInt8)) ∧ w' = w := by
 go_enter Tryz.func165, Tryz.ntmps165
 go_wp2_with (go_at_call 183; refine (lite_index s c _).mono ?_; rintro e w1 ⟨rfl, rfl⟩)
 go_ret
 exact ⟨rfl, rfl⟩
theorem isName_calls (s : ByteArray) (w : World) :
    Calls Tryz.prog 139 #[.string s] w fun e w' => e = .returned (.bool (okS s.data.toList)) ∧ w' = w := by
 have hl : s.data.toList.length = s.size := rfl
 have HI : Hid (decide (Lib.indexByte s.data.toList 0 < 0) = decide ((0 : UInt8) ∉ s.data.toList)) := indexByte_neg s.data.toList 0
 have HL : Hid (s.data.toList.length = s.size) := hl
 clear hl
 go_enter Tryz.func139, Tryz.ntmps139
 go_wp2_with (go_at_call 165; refine (indexByte_calls s 0 _).mono ?_; rintro e w1 ⟨rfl, rfl⟩)
 all_goals go_ret
 · have h1 : s.size = s.data.toList.length := rfl
   refine ⟨?_, rfl⟩
   show Ending.returned (Value.bool (decide (Lib.indexByte s.data.toList 0 < 0))) = _
   rw [HI.out, okS]
   congr 2
   rw [decide_eq_decide]
   exact ⟨fun h => ⟨by omega, by omega, h⟩, fun h => h.2.2⟩
 · have h1 : s.size = s.data.toList.length := rfl
   refine ⟨?_, rfl⟩
   rw [okS, decide_eq_false (by omega)]
   rfl
 · have h1 : s.size = s.data.toList.length := rfl
   refine ⟨?_, rfl⟩
   rw [okS, decide_eq_false (by omega)]
   rfl
theorem bc_map (l : List UInt8) : Lib.byteCells l = bc l := rfl
theorem kbc_take (l : List UInt8) (k : Nat) : (bc l).take k = bc (l.take k) := by simp [bc]
theorem bc_drop' (l : List UInt8) (k : Nat) : (bc l).drop k = bc (l.drop k) := by simp [bc]
theorem entry_list (n : Nat) (s : List UInt8) (h : s.length ≤ 18) : ((headK n 2).take 5 ++ s ++ (headK n 2).drop (5 + s.length)).set 23 (UInt8.ofNat s.length) = entryK n s := by
 have h1 : (headK n 2).take 5 = be n 4 ++ [2] := rfl
 have h2 : (headK n 2).drop (5 + s.length) = zs (18 - s.length) ++ [0] := by
  have e : headK n 2 = be n 4 ++ [2] ++ zs 19 := by simp [headK]
  rw [e, List.drop_append, List.drop_of_length_le (by simp [be_length])]
  simp only [List.length_append, be_length, List.length_cons, List.length_nil, List.nil_append, zs, List.drop_replicate]
  rw [show 19 - (5 + s.length - (4 + (0 + 1))) = (18 - s.length) + 1 by omega, List.replicate_succ']
 rw [h1, h2, entryK, List.set_append_right _ _ (by simp [be_length]; omega), List.set_append_right _ _ (by simp [be_length, zs]; omega)]
 simp [be_length, zs, List.append_assoc]
 rw [show 23 - (4 + (s.length + 1)) - (18 - s.length) = 0 by omega]
 simp
theorem Has.copied {w : World} {b : Nat} {K : List UInt8} (h : Has w b K) (o : Nat) (s : ByteArray) (ho : o + s.size ≤ 24) :
    Has (w.setRow b ((bc K).toArray.toList.take o ++ Lib.byteCells s.data.toList ++ (bc K).toArray.toList.drop (o + s.size)).toArray) b (K.take o ++ s.data.toList ++ K.drop (o + s.data.toList.length)) := by
 have hs : s.size = s.data.toList.length := rfl
 have e : ((bc K).toArray.toList.take o ++ Lib.byteCells s.data.toList ++ (bc K).toArray.toList.drop (o + s.size)) = bc (K.take o ++ s.data.toList ++ K.drop (o + s.data.toList.length)) := by
  rw [bc_map, bc_append, bc_append, ← kbc_take, ← bc_drop', hs]
 rw [e]
 refine h.setRow _ ?_
 have := h.len
 simp only [List.length_append, List.length_take, List.length_drop]
 omega
theorem entry_calls (n : Int) (s : ByteArray) (w : World) :
    Calls Tryz.prog 102 #[.int .i64 n, .string s] w fun e w' => e = .returned (.tuple #[kv (entryR n s.data.toList), .bool (okN n && okS s.data.toList)]) ∧ Below w.heap.size w w' := by
 by_cases hn : (okN n && okS s.data.toList) = true
 · have hn1 : okN n = true := by simp at hn; exact hn.1
   have hn2 : okS s.data.toList = true := by simp at hn; exact hn.2
   have h0 : 1 ≤ n ∧ n < 1073741824 := by simpa [okN] using hn1
   have h1 : s.size ≤ 18 := by have : 1 ≤ s.data.toList.length ∧ s.data.toList.length ≤ 18 ∧ (0 : UInt8) ∉ s.data.toList := of_decide_eq_true hn2; exact this.2.1
   have HN : Hid ((okN n && okS s.data.toList) = true) := hn
   have HN1 : Hid (okN n = true) := hn1
   have HN2 : Hid (okS s.data.toList = true) := hn2
   clear hn hn1 hn2
   have hsz : (Tryz.prog.info? 5).map (·.size) = some 1 := by kernel_rfl
   go_enter Tryz.func102, Tryz.ntmps102
   go_wp2_with (first
    | (go_at_call 58; refine (isNumber_calls n _).mono ?_; rintro e w1 ⟨rfl, rfl⟩)
    | (go_at_call 139; refine (isName_calls s _).mono ?_; rintro e w1 ⟨rfl, rfl⟩; rw [HN2.out])
    | (go_at_call 60; refine (least_calls n 2 2 (by decide) _ (by omega)).mono ?_; rintro e w1 ⟨rfl, b1⟩)
    | (refine store_key rfl _ _ rfl _ rfl _ rfl (headK_length _ _) (zs 24) (zero_has w1 w1.heap.size rfl) ?_; intro w2 h2 t2 s2))
   have hr := Lib.run_copy_row_string (P := Tryz.prog) w2 49 9 3 5 w1.heap.size 5 18 19 s _ _ Tryz.underlying49 hsz h2.blk h1 (by rw [bc_size, headK_length]; omega)
   have h3 := h2.copied 5 s (by omega)
   have t3 := touch_setRow w2 w1.heap.size ((bc (headK n.toNat 2)).toArray.toList.take 5 ++ Lib.byteCells s.data.toList ++ (bc (headK n.toNat 2)).toArray.toList.drop (5 + s.size)).toArray
   have s3 := setRow_size w2 w1.heap.size ((bc (headK n.toNat 2)).toArray.toList.take 5 ++ Lib.byteCells s.data.toList ++ (bc (headK n.toNat 2)).toArray.toList.drop (5 + s.size)).toArray
   rw [hr]
   generalize w2.setRow w1.heap.size ((bc (headK n.toNat 2)).toArray.toList.take 5 ++ Lib.byteCells s.data.toList ++ (bc (headK n.toNat 2)).toArray.toList.drop (5 + s.size)).toArray = w3 at h3 t3 s3 ⊢
   clear hr
   have c23 := h3.cell 23 (by omega)
   have f23 := h3.free 23
   have h5 := h3.setCell 23 (UInt8.ofNat s.data.toList.length)
   have e5 : ((UInt8.ofNat s.data.toList.length).toNat : Int) = (s.size : Int) := by
    have : s.data.toList.length = s.size := rfl
    rw [this, UInt8.toNat_ofNat']
    omega
   rw [e5] at h5
   have H5 := h5.len
   rw [entry_list _ _ (show s.data.toList.length ≤ 18 from h1)] at h5 H5
   clear e5
   simp only [Result.andThen]
   rw [Oper.upon_value]
   go_wp2_with (first
    | (refine load_key _ rfl _ rfl rfl _ h5 ?_)
    | (refine store_key rfl _ _ rfl _ rfl _ rfl h5.len (zs 24) ((((((zero_has w w.heap.size rfl).below b1 (by simp)).alloc _).touch t2 (by have := b1.size; simp at this; omega)).touch t3 (by have := b1.size; simp at this; omega)).setOther (by have := b1.size; simp at this; omega) _ _) ?_; intro w4 h4 t4 s4))
   refine ret_key_ok rfl _ _ _ rfl rfl h4 rfl ⟨by rw [entryR, if_pos HN.out, HN.out]; rfl, ?_⟩
   have := b1.size
   simp at this
   exact below_touched ((below_touched (below_touched (below_made (below_called (below_made (Below.refl _ w) (Nat.le_refl _) _) b1 (Nat.le_refl _)) (Nat.le_refl _) _) t2 (by omega) (Nat.le_refl _)) t3 (by omega) (Nat.le_refl _)).setCell (by simp; omega) _) t4 (Nat.le_refl _) (Nat.le_refl _)
 · have hf : (okN n && okS s.data.toList) = false := by simpa using hn
   have HF : Hid ((okN n && okS s.data.toList) = false) := hf
   clear hn hf
   by_cases hn1 : okN n = true
   · have hn2 : okS s.data.toList = false := by have := HF.out; rw [hn1] at this; simpa using this
     have h0 : 1 ≤ n ∧ n < 1073741824 := by simpa [okN] using hn1
     have HN2 : Hid (okS s.data.toList = false) := hn2
     clear hn2 hn1
     go_enter Tryz.func102, Tryz.ntmps102
     go_wp2_with (first
      | (go_at_call 58; refine (isNumber_calls n _).mono ?_; rintro e w1 ⟨rfl, rfl⟩)
      | (go_at_call 139; refine (isName_calls s _).mono ?_; rintro e w1 ⟨rfl, rfl⟩; rw [HN2.out])
      | (refine store_key rfl _ _ rfl _ rfl (zs 24) rfl (zs_length _) (zs 24) (zero_has w w.heap.size rfl) ?_; intro w2 h2 t2 s2))
     refine ret_key_ok rfl _ _ _ rfl rfl h2 rfl ⟨by rw [entryR, HF.out]; rfl, ?_⟩
     exact below_touched (below_made (Below.refl _ w) (Nat.le_refl _) _) t2 (Nat.le_refl _) (Nat.le_refl _)
   · have h0 : ¬ (1 ≤ n ∧ n < 1073741824) := by simpa [okN] using hn1
     clear hn1
     go_enter Tryz.func102, Tryz.ntmps102
     go_wp2_with (first
      | (go_at_call 58; refine (isNumber_calls n _).mono ?_; rintro e w1 ⟨rfl, rfl⟩; rw [decide_eq_false h0])
      | (refine store_key rfl _ _ rfl _ rfl (zs 24) rfl (zs_length _) (zs 24) (zero_has w w.heap.size rfl) ?_; intro w2 h2 t2 s2))
     refine ret_key_ok rfl _ _ _ rfl rfl h2 rfl ⟨by rw [entryR, HF.out]; rfl, ?_⟩
     exact below_touched (below_made (Below.refl _ w) (Nat.le_refl _) _) t2 (Nat.le_refl _) (Nat.le_refl _)
theorem chunk_list (n p : Nat) : (headK n 3).take 20 ++ be p 4 ++ (headK n 3).drop (20 + 4) = chunkK n p := rfl
theorem chunk_calls (n p : Int) (w : World) :
    Calls Tryz.prog 24 #[.int .i64 n, .int .i64 p] w fun e w' => e = .returned (.tuple #[kv (chunkR n p), .bool (okN n && okP p)]) ∧ Below w.heap.size w w' := by
 by_cases hn1 : okN n = true
 · by_cases hn2 : okP p = true
   · have h0 : 1 ≤ n ∧ n < 1073741824 := by simpa [okN] using hn1
     have h1 : 0 ≤ p ∧ p ≤ 4294967295 := by simpa [okP] using hn2
     go_enter Tryz.func24, Tryz.ntmps24
     go_wp2_with (first
      | (go_at_call 58; refine (isNumber_calls n _).mono ?_; rintro e w1 ⟨rfl, rfl⟩)
      | (go_at_call 59; refine (isPlace_calls p _).mono ?_; rintro e w1 ⟨rfl, rfl⟩)
      | (go_at_call 60; refine (least_calls n 3 3 (by decide) _ (by omega)).mono ?_; rintro e w1 ⟨rfl, b1⟩)
      | (refine store_key rfl _ _ rfl _ rfl _ rfl (headK_length _ _) (zs 24) (zero_has w1 w1.heap.size rfl) ?_; intro w2 h2 t2 s2)
      | (go_at_call 61; refine (putWord_calls _ w1.heap.size 20 4 _ p h2 (by omega) h1.1).mono ?_; rintro e w3 ⟨rfl, h3, t3, s3⟩; rw [chunk_list] at h3)
      | (refine load_key _ rfl _ rfl rfl _ h3 ?_)
      | (refine store_key rfl _ _ rfl _ rfl _ rfl (chunkK_length _ _) (zs 24) (((((zero_has w w.heap.size rfl).below b1 (by simp)).alloc _).touch t2 (by have := b1.size; simp at this; omega)).touch t3 (by have := b1.size; simp at this; omega)) ?_; intro w4 h4 t4 s4))
     refine ret_key_ok rfl _ _ _ rfl rfl h4 rfl ⟨by rw [chunkR, hn1, hn2]; rfl, ?_⟩
     have := b1.size
     simp at this
     exact below_touched (below_touched (below_touched (below_made (below_called (below_made (Below.refl _ w) (Nat.le_refl _) _) b1 (Nat.le_refl _)) (Nat.le_refl _) _) t2 (by omega) (Nat.le_refl _)) t3 (by omega) (Nat.le_refl _)) t4 (Nat.le_refl _) (Nat.le_refl _)
   · have h0 : 1 ≤ n ∧ n < 1073741824 := by simpa [okN] using hn1
     have h1 : ¬ (0 ≤ p ∧ p ≤ 4294967295) := by simpa [okP] using hn2
     have hf : okP p = false := by simpa using hn2
     have HF : Hid ((okN n && okP p) = false) := by show _ = _; rw [hf]; simp
     clear hf hn2 hn1
     go_enter Tryz.func24, Tryz.ntmps24
     go_wp2_with (first
      | (go_at_call 58; refine (isNumber_calls n _).mono ?_; rintro e w1 ⟨rfl, rfl⟩)
      | (go_at_call 59; refine (isPlace_calls p _).mono ?_; rintro e w1 ⟨rfl, rfl⟩; rw [decide_eq_false h1])
      | (refine store_key rfl _ _ rfl _ rfl (zs 24) rfl (zs_length _) (zs 24) (zero_has w w.heap.size rfl) ?_; intro w2 h2 t2 s2))
     refine ret_key_ok rfl _ _ _ rfl rfl h2 rfl ⟨by rw [chunkR, HF.out]; rfl, ?_⟩
     exact below_touched (below_made (Below.refl _ w) (Nat.le_refl _) _) t2 (Nat.le_refl _) (Nat.le_refl _)
 · have h0 : ¬ (1 ≤ n ∧ n < 1073741824) := by simpa [okN] using hn1
   have hf : okN n = false := by simpa using hn1
   have HF : Hid ((okN n && okP p) = false) := by show _ = _; rw [hf]; simp
   clear hf hn1
   go_enter Tryz.func24, Tryz.ntmps24
   go_wp2_with (first
    | (go_at_call 58; refine (isNumber_calls n _).mono ?_; rintro e w1 ⟨rfl, rfl⟩; rw [decide_eq_false h0])
    | (refine store_key rfl _ _ rfl _ rfl (zs 24) rfl (zs_length _) (zs 24) (zero_has w w.heap.size rfl) ?_; intro w2 h2 t2 s2))
   refine ret_key_ok rfl _ _ _ rfl rfl h2 rfl ⟨by rw [chunkR, HF.out]; rfl, ?_⟩
   exact below_touched (below_made (Below.refl _ w) (Nat.le_refl _) _) t2 (Nat.le_refl _) (Nat.le_refl _)
end
section
open Go.RowKit
theorem bytes_num (K : List UInt8) : Lib.bytesOf (K.map fun b => (b.toNat : Int)) = K := by
 unfold Lib.bytesOf
 rw [List.map_map]
 conv => rhs; rw [← List.map_id K]
 apply List.map_congr_left
 intro b _
 simp
theorem run_bytesOf_key (w : World) (b : Nat) (K : List UInt8) (h : Has w b K) (cap : Nat) : (Extern.Bytes.bytesOf (.slice (some ⟨b, 0, none⟩) 24 cap)).run Tryz.prog w = .ok (str K) w := by
 have hl := Lib.run_loadBytesX (P := Tryz.prog) w (K.map fun b => (b.toNat : Int)) ⟨b, 0, none⟩ .empty (fun j x hj => by
  have e : (⟨b, 0, none⟩ : Addr).add j = ⟨b, j, none⟩ := by unfold Addr.add; split <;> simp_all
  rw [e, cell_of_row w b j _ _ _ h.blk]
  simp only [bc, List.getElem?_toArray, List.getElem?_map, Option.map_eq_some_iff] at hj ⊢
  obtain ⟨a, ha, rfl⟩ := hj
  exact ⟨a, ha, rfl⟩)
 rw [List.length_map, h.len, bytes_num] at hl
 have e : (⟨ByteArray.empty.data ++ K.toArray⟩ : ByteArray) = str K := by
  apply ByteArray.ext
  show (#[] : Array UInt8) ++ K.toArray = K.toArray
  simp
 rw [e] at hl
 exact hl
theorem run_compare_keys (w : World) (b c : Nat) (K L : List UInt8) (h : Has w b K) (h' : Has w c L) (cap cap' : Nat) :
    (Extern.BytealgCompare.compare #[.slice (some ⟨b, 0, none⟩) 24 cap, .slice (some ⟨c, 0, none⟩) 24 cap']).run Tryz.prog w = .ok (.int .i64 (Lib.compareBytes K L)) w := by
 change Sem.run Tryz.prog (do pure (goInt (Extern.BytealgCompare.cmp (← Extern.Bytes.bytesOf (.slice (some ⟨b, 0, none⟩) 24 cap)) (← Extern.Bytes.bytesOf (.slice (some ⟨c, 0, none⟩) 24 cap'))))) w = _
 simp only [Sem.run_bind, run_bytesOf_key w b K h, run_bytesOf_key w c L h', Result.andThen_ok, Sem.run_pure]
 rw [Lib.cmp_eq, str_list, str_list]
 rfl
theorem compare_calls (w : World) (b c : Nat) (K L : List UInt8) (h : Has w b K) (h' : Has w c L) (cap cap' : Nat) :
    Calls Tryz.prog 126 #[.slice (some ⟨b, 0, none⟩) 24 cap, .slice (some ⟨c, 0, none⟩) 24 cap'] w fun e w' => e = .returned (.int .i64 (Lib.compareBytes K L)) ∧ w' = w := by
 have H : Hid (Has w b K) := h
 have H' : Hid (Has w c L) := h'
 clear h h'
 go_enter Tryz.func126, Tryz.ntmps126
 go_wp2
 rw [run_callFunc_extern Tryz.func157 (by kernel_rfl) (by kernel_rfl) (by kernel_rfl) (e := Extern.BytealgCompare.compare) (by kernel_rfl), run_compare_keys w b c K L H.out H'.out]
 simp only [Result.andThen]
 rw [Oper.upon_value]
 go_wp2
 go_ret
 exact ⟨rfl, rfl⟩
theorem compare_less : ∀ (K L : List UInt8), decide (Lib.compareBytes K L < 0) = Op.bytesLess K L
 | [], [] => rfl
 | [], _ :: _ => rfl
 | _ :: _, [] => rfl
 | a :: xs, b :: ys => by
  have ih := compare_less xs ys
  rw [Lib.compareBytes, Op.bytesLess]
  by_cases h1 : a < b
  · simp [h1]
  · by_cases h2 : b < a
    · have : ¬ a = b := fun e => by subst e; exact h1 h2
      simp [h1, h2, this]
    · have : a = b := by
        apply UInt8.toNat_inj.1
        simp only [UInt8.lt_iff_toNat_lt] at h1 h2
        omega
      subst this
      simp [ih]
theorem less_calls (w : World) (K L : List UInt8) (hK : K.length = 24) (hL : L.length = 24) :
    Calls Tryz.prog 138 #[kv K, kv L] w fun e w' => e = .returned (.bool (Op.bytesLess K L)) ∧ Below w.heap.size w w' := by
 have h1 : Has ((w.alloc (.cells (bc K).toArray 54)).alloc (.cells (bc L).toArray 54)) w.heap.size K := (Has.new w K hK).alloc _
 have h2 : Has ((w.alloc (.cells (bc K).toArray 54)).alloc (.cells (bc L).toArray 54)) (w.heap.size + 1) L := by have := Has.new (w.alloc (.cells (bc K).toArray 54)) L hL; simpa using this
 have H1 : Hid (Has ((w.alloc (.cells (bc K).toArray 54)).alloc (.cells (bc L).toArray 54)) w.heap.size K) := h1
 have H2 : Hid (Has ((w.alloc (.cells (bc K).toArray 54)).alloc (.cells (bc L).toArray 54)) (w.heap.size + 1) L) := h2
 clear h1 h2
 go_enter Tryz.func138, Tryz.ntmps138
 go_wp2
 go_quiet (first | (go_at_call 126; exact Calls.quiet_of_same (compare_calls _ w.heap.size (w.heap.size + 1) K L (by exact ⟨hK, H1.out.blk⟩) (by exact ⟨hL, H2.out.blk⟩) 24 24)))
 go_wp2
 go_ret
 refine ⟨?_, below_drewN (below_made (below_made (Below.refl _ w) (Nat.le_refl _) _) (Nat.le_refl _) _) _⟩
 show Ending.returned (Value.bool (decide (Lib.compareBytes K L < 0))) = _
 rw [compare_less]
def sc (F T : List UInt8) (e : Bool) : List Value := bc F ++ bc T ++ [Value.bool e]
abbrev sv (F T : List UInt8) (e : Bool) : Value := .agg (sc F T e).toArray
structure HasS (w : World) (b : Nat) (F T : List UInt8) (e : Bool) : Prop where
 f : F.length = 24
 t : T.length = 24
 blk : w.heap[b]? = some (.cells (sc F T e).toArray 56 (0, 0))
theorem Tryz.span_info : (Tryz.prog.info? 56).map (·.size) = some 49 := by kernel_rfl
theorem sv_size (F T : List UInt8) (e : Bool) (hF : F.length = 24) (hT : T.length = 24) : (sc F T e).toArray.size = 49 := by simp [sc, bc_length, hF, hT]
theorem sv_all (F T : List UInt8) (e : Bool) : (sc F T e).toArray.all (·.oneCell') = true := all_oneCell_toArray (by
 intro v hv
 simp only [sc, List.mem_append, List.mem_singleton] at hv
 rcases hv with (h | h) | rfl
 · exact bc_one F v h
 · exact bc_one T v h
 · rfl)
theorem HasS.lt {w : World} {b : Nat} {F T : List UInt8} {e : Bool} (h : HasS w b F T e) : b < w.heap.size := lt_of_block h.blk
theorem HasS.alloc {w : World} {b : Nat} {F T : List UInt8} {e : Bool} (h : HasS w b F T e) (o : Obj) : HasS (w.alloc o) b F T e := ⟨h.f, h.t, by rw [Below.heap_alloc _ _ _ h.lt]; exact h.blk⟩
theorem HasS.below {B : Nat} {w w' : World} {b : Nat} {F T : List UInt8} {e : Bool} (h : HasS w b F T e) (hb : Below B w w') (hB : b < B) : HasS w' b F T e := ⟨h.f, h.t, (hb.block b hB).trans h.blk⟩
theorem HasS.touch {w w' : World} {b p : Nat} {F T : List UInt8} {e : Bool} (h : HasS w b F T e) (ht : Touch p none w w') (hp : b ≠ p) : HasS w' b F T e := ⟨h.f, h.t, (ht.block b h.lt hp (by simp)).trans h.blk⟩
theorem HasS.new (w : World) (F T : List UInt8) (e : Bool) (hF : F.length = 24) (hT : T.length = 24) : HasS (w.alloc (.cells (sc F T e).toArray 56 (0, 0))) w.heap.size F T e := ⟨hF, hT, heap_alloc_new _ _⟩
theorem HasS.ofF {w : World} {b : Nat} {F T : List UInt8} {e : Bool} (h : HasS w b F T e) : w.rangeAt b 0 (bc F) := fun j v hv => by
 rw [cell_of_row w b _ _ _ _ h.blk]
 have hj : j < (bc F).length := (List.getElem?_eq_some_iff.1 hv).1
 simp only [sc, List.getElem?_toArray, Nat.zero_add, List.append_assoc]
 rw [List.getElem?_append_left hj, hv]
theorem HasS.ofT {w : World} {b : Nat} {F T : List UInt8} {e : Bool} (h : HasS w b F T e) : w.rangeAt b 24 (bc T) := fun j v hv => by
 rw [cell_of_row w b _ _ _ _ h.blk]
 have hj : j < (bc T).length := (List.getElem?_eq_some_iff.1 hv).1
 have hF : (bc F).length = 24 := by rw [bc_length, h.f]
 simp only [sc, List.getElem?_toArray, List.append_assoc]
 rw [List.getElem?_append_right (by omega), hF, Nat.add_sub_cancel_left, List.getElem?_append_left hj, hv]
theorem HasS.ofE {w : World} {b : Nat} {F T : List UInt8} {e : Bool} (h : HasS w b F T e) : w.cell? ⟨b, 48, none⟩ = some (.bool e) := by
 rw [cell_of_row w b _ _ _ _ h.blk]
 have hF : (bc F).length = 24 := by rw [bc_length, h.f]
 have hT : (bc T).length = 24 := by rw [bc_length, h.t]
 simp only [sc, List.getElem?_toArray, List.append_assoc]
 rw [List.getElem?_append_right (by omega), List.getElem?_append_right (by omega), hF, hT]
 rfl
section
variable {ops : Array Oper} {rest : List Oper} {o : Oper} {a : Act} {w : World} {Q : Exit → Act → World → Prop}
theorem load_part (x : Operand) (ho : o.op = .load 54 x) (b i : Nat) (hx : a.eval x = .pointer (some ⟨b, i, none⟩)) (hgd : Region.wanted o (yielded ops a.tmps) = true) (K : List UInt8) (hl : K.length = 24) (hK : w.rangeAt b i (bc K))
    (h : wpList Tryz.prog ops Q rest (a.put o.dst (kv K)) w) : wpList Tryz.prog ops Q (o :: rest) a w :=
 BigFrame.wpList_want hgd fun _ hK' => wp_load_mid _ x ho b i hx _ _ hK Tryz.underlying54 rfl (by rw [bc_length, hl]; exact Tryz.key_info) (hK' _ _ h)
theorem store_span (hgd : o.guard = none) (x y : Operand) (ho : o.op = .store 56 x y) (b : Nat) (hx : a.eval x = .pointer (some ⟨b, 0, none⟩)) (F T : List UInt8) (e : Bool) (hy : a.eval y = sv F T e) (hF : F.length = 24) (hT : T.length = 24) (F' T' : List UInt8) (e' : Bool) (hK : HasS w b F' T' e')
    (h : ∀ w', HasS w' b F T e → Touch b none w w' → w'.heap.size = w.heap.size → wpList Tryz.prog ops Q rest (a.put o.dst undef) w') : wpList Tryz.prog ops Q (o :: rest) a w :=
 wpList_store_row hgd _ x y ho b _ hx hy _ _ hK.blk (by rw [sv_size _ _ _ hF hT]; exact Tryz.span_info) (by rw [sv_size _ _ _ hF hT, sv_size _ _ _ hK.f hK.t]) (sv_all _ _ _) (h _ ⟨hF, hT, setRow_heap w b _ _ _ _ hK.blk⟩ (touch_setRow _ _ _) (by simp))
end
theorem ret_span {fn : Func} {R : Ending → World → Prop} {a : Act} {w : World} {p : Tmp} (hr : fn.results = #[.cell p 56]) (b : Nat) (F T : List UInt8) (e : Bool) (hp : a.tmps.getD p undef = .pointer (some ⟨b, 0, none⟩)) (hK : HasS w b F T e)
    (hd : a.defers = []) (hR : R (.returned (sv F T e)) w) : bodyPost Tryz.prog fn R .ret a w :=
 bodyPost_ret (results_cell_row hr _ w b _ _ _ _ hp hK.blk Tryz.underlying56 rfl (by rw [sv_size _ _ _ hK.f hK.t]; exact Tryz.span_info)) hd hR
def inS (F T : List UInt8) (e : Bool) (K : List UInt8) : Bool := !Op.bytesLess K F && (e || Op.bytesLess K T)
theorem in_calls (w : World) (F T : List UInt8) (e : Bool) (K : List UInt8) (hF : F.length = 24) (hT : T.length = 24) (hK : K.length = 24) :
    Calls Tryz.prog 99 #[sv F T e, kv K] w fun x w' => x = .returned (.bool (inS F T e K)) ∧ Below w.heap.size w w' := by
 have h1 : HasS ((w.alloc (.cells (sc F T e).toArray 56)).alloc (.cells (bc K).toArray 54)) w.heap.size F T e := (HasS.new w F T e hF hT).alloc _
 have h2 : Has ((w.alloc (.cells (sc F T e).toArray 56)).alloc (.cells (bc K).toArray 54)) (w.heap.size + 1) K := by have := Has.new (w.alloc (.cells (sc F T e).toArray 56)) K hK; simpa using this
 have hin : inS F T e K = (!Op.bytesLess K F && (e || Op.bytesLess K T)) := rfl
 have HIN : Hid (inS F T e K = (!Op.bytesLess K F && (e || Op.bytesLess K T))) := hin
 clear hin
 cases hlf : Op.bytesLess K F with
 | true =>
  go_enter Tryz.func99, Tryz.ntmps99
  go_wp2_with (first
   | (refine load_key _ rfl _ rfl rfl _ h2 ?_)
   | (refine load_part _ rfl _ _ rfl rfl _ hF h1.ofF ?_)
   | (go_at_call 138; refine (less_calls _ _ _ hK hF).mono ?_; rintro x w1 ⟨rfl, b1⟩; rw [hlf]))
  go_ret
  exact ⟨by rw [HIN.out, hlf]; rfl, below_called (below_made (below_made (Below.refl _ w) (Nat.le_refl _) _) (Nat.le_refl _) _) b1 (Nat.le_refl _)⟩
 | false =>
  cases e with
  | true =>
   go_enter Tryz.func99, Tryz.ntmps99
   go_wp2_with (first
    | (refine load_key _ rfl _ rfl rfl _ h2 ?_)
    | (refine load_part _ rfl _ _ rfl rfl _ hF h1.ofF ?_)
    | (go_at_call 138; refine (less_calls _ _ _ hK hF).mono ?_; rintro x w1 ⟨rfl, b1⟩; rw [hlf]; have cE := (h1.below b1 (by simp; omega)).ofE))
   go_ret
   exact ⟨by rw [HIN.out, hlf]; rfl, below_called (below_made (below_made (Below.refl _ w) (Nat.le_refl _) _) (Nat.le_refl _) _) b1 (Nat.le_refl _)⟩
  | false =>
   go_enter Tryz.func99, Tryz.ntmps99
   go_wp2_with (first
    | (refine load_key _ rfl _ rfl rfl _ h4 ?_)
    | (refine load_part _ rfl _ _ rfl rfl _ hT h3.ofT ?_)
    | (refine load_key _ rfl _ rfl rfl _ h2 ?_)
    | (refine load_part _ rfl _ _ rfl rfl _ hF h1.ofF ?_)
    | (go_at_call 138; have _q := h3; refine (less_calls _ _ _ hK hT).mono ?_; rintro x w2 ⟨rfl, b2⟩)
    | (go_at_call 138; refine (less_calls _ _ _ hK hF).mono ?_; rintro x w1 ⟨rfl, b1⟩; rw [hlf]; have h3 := h1.below b1 (by simp; omega); have h4 := h2.below b1 (by simp); have cE := h3.ofE))
   go_ret
   exact ⟨by rw [HIN.out, hlf]; simp, below_called (below_called (below_made (below_made (Below.refl _ w) (Nat.le_refl _) _) (Nat.le_refl _) _) b1 (Nat.le_refl _)) b2 (Nat.le_refl _)⟩
end
end Go.Proofs.YtdmindhjmjnagaaGreatDoor
