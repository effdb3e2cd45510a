import Derived.Test.YtdmindhjmjnagabGreatDoorB39
import Derived.Test.YtdmindhjmjnagabGreatDoorB31
/- chunk: Read, Write, Cut where they may be asked. -/
namespace Go.Proofs.YtdmindhjmjnagabGreatDoor
set_option linter.unusedVariables false
set_option maxRecDepth 100000
open Go.RowKit

theorem alln4 (y : World) (o0 o1 o2 o3 : Obj) (w : World) (h : w = (((y.alloc o0).alloc o1).alloc o2).alloc o3) :
    w.heap[y.heap.size]? = some o0 ∧ w.heap[y.heap.size + 1]? = some o1 ∧ w.heap[y.heap.size + 1 + 1]? = some o2 ∧ w.heap[y.heap.size + 1 + 1 + 1]? = some o3 ∧ w.heap.size = y.heap.size + 4 ∧ Below y.heap.size y w := by
  have hb : ∀ (n : Nat) (z : World) (o : Obj), n = z.heap.size → (z.alloc o).heap[n]? = some o := fun n z o e => by subst e; exact heap_alloc_new _ _
  have hk : ∀ (n : Nat) (z : World) (o : Obj), n < z.heap.size → (z.alloc o).heap[n]? = z.heap[n]? := fun n z o e => Below.heap_alloc _ _ _ e
  have s : ∀ (z : World) (o : Obj), (z.alloc o).heap.size = z.heap.size + 1 := fun z o => by simp
  subst h
  refine ⟨?_, ?_, ?_, ?_, ?_, ?_⟩
  · rw [hk, hk, hk, hb _ _ _ rfl] <;> simp only [s] <;> omega
  · rw [hk, hk, hb _ _ _ (by simp only [s])] <;> simp only [s] <;> omega
  · rw [hk, hb _ _ _ (by simp only [s])]; simp only [s]; omega
  · rw [hb _ _ _ (by simp only [s])]
  · simp only [s]
  · exact (((((Below.refl _ y).alloc (Nat.le_refl _) _).alloc (by simp only [s]; omega) _).alloc (by simp only [s]; omega) _).alloc (by simp only [s]; omega) _)
theorem alln5 (y : World) (o0 o1 o2 o3 o4 : Obj) (w : World) (h : w = ((((y.alloc o0).alloc o1).alloc o2).alloc o3).alloc o4) :
    w.heap[y.heap.size]? = some o0 ∧ w.heap[y.heap.size + 1]? = some o1 ∧ w.heap[y.heap.size + 1 + 1]? = some o2 ∧ w.heap[y.heap.size + 1 + 1 + 1]? = some o3 ∧ w.heap[y.heap.size + 1 + 1 + 1 + 1]? = some o4 ∧ w.heap.size = y.heap.size + 5 ∧ Below y.heap.size y w := by
  have hb : ∀ (n : Nat) (z : World) (o : Obj), n = z.heap.size → (z.alloc o).heap[n]? = some o := fun n z o e => by subst e; exact heap_alloc_new _ _
  have hk : ∀ (n : Nat) (z : World) (o : Obj), n < z.heap.size → (z.alloc o).heap[n]? = z.heap[n]? := fun n z o e => Below.heap_alloc _ _ _ e
  have s : ∀ (z : World) (o : Obj), (z.alloc o).heap.size = z.heap.size + 1 := fun z o => by simp
  subst h
  refine ⟨?_, ?_, ?_, ?_, ?_, ?_, ?_⟩
  · rw [hk, hk, hk, hk, hb _ _ _ rfl] <;> simp only [s] <;> omega
  · rw [hk, hk, hk, hb _ _ _ (by simp only [s])] <;> simp only [s] <;> omega
  · rw [hk, hk, hb _ _ _ (by simp only [s])] <;> simp only [s] <;> omega
  · rw [hk, hb _ _ _ (by simp only [s])]; simp only [s]; omega
  · rw [hb _ _ _ (by simp only [s])]
  · simp only [s]
  · exact ((((((Below.refl _ y).alloc (Nat.le_refl _) _).alloc (by simp only [s]; omega) _).alloc (by simp only [s]; omega) _).alloc (by simp only [s]; omega) _).alloc (by simp only [s]; omega) _)
theorem alln6 (y : World) (o0 o1 o2 o3 o4 o5 : Obj) (w : World) (h : w = (((((y.alloc o0).alloc o1).alloc o2).alloc o3).alloc o4).alloc o5) :
    w.heap[y.heap.size]? = some o0 ∧ w.heap[y.heap.size + 1]? = some o1 ∧ w.heap[y.heap.size + 1 + 1]? = some o2 ∧ w.heap[y.heap.size + 1 + 1 + 1]? = some o3 ∧ w.heap[y.heap.size + 1 + 1 + 1 + 1]? = some o4 ∧ w.heap[y.heap.size + 1 + 1 + 1 + 1 + 1]? = some o5 ∧ w.heap.size = y.heap.size + 6 ∧ Below y.heap.size y w := by
  have hb : ∀ (n : Nat) (z : World) (o : Obj), n = z.heap.size → (z.alloc o).heap[n]? = some o := fun n z o e => by subst e; exact heap_alloc_new _ _
  have hk : ∀ (n : Nat) (z : World) (o : Obj), n < z.heap.size → (z.alloc o).heap[n]? = z.heap[n]? := fun n z o e => Below.heap_alloc _ _ _ e
  have s : ∀ (z : World) (o : Obj), (z.alloc o).heap.size = z.heap.size + 1 := fun z o => by simp
  subst h
  refine ⟨?_, ?_, ?_, ?_, ?_, ?_, ?_, ?_⟩
  · rw [hk, hk, hk, hk, hk, hb _ _ _ rfl] <;> simp only [s] <;> omega
  · rw [hk, hk, hk, hk, hb _ _ _ (by simp only [s])] <;> simp only [s] <;> omega
  · rw [hk, hk, hk, hb _ _ _ (by simp only [s])] <;> simp only [s] <;> omega
  · rw [hk, hk, hb _ _ _ (by simp only [s])] <;> simp only [s] <;> omega
  · rw [hk, hb _ _ _ (by simp only [s])]; simp only [s]; omega
  · rw [hb _ _ _ (by simp only [s])]
  · simp only [s]
  · exact (((((((Below.refl _ y).alloc (Nat.le_refl _) _).alloc (by simp only [s]; omega) _).alloc (by simp only [s]; omega) _).alloc (by simp only [s]; omega) _).alloc (by simp only [s]; omega) _).alloc (by simp only [s]; omega) _)
section
variable {lim : Nat} {I : Nat → World → Prop} {iv : Value} {ge : Kz → List UInt8 × Bool × Int} {sn : Sp → List Pa × Int}
set_option maxHeartbeats 4000000 in
theorem cWrite_ok (D : Baser lim noB I iv ge sn) (hge : ∀ K, (ge K).2.2 = 0) (w0 y : World) (k q : Nat) (x : VR) (V : VS) (ino : Int) (off : Nat) (data : List UInt8) (A : VAt w0 lim I (k + pN off data.length) iv q x V y) (hn : x.n + 5 * pN off data.length ≤ 5000) (hod : off + data.length ≤ 1048576) (h1 : okNum ino = true) :
    Calls Tryz.prog 6 #[.pointer (some ⟨q, 0, none⟩), .int .i64 ino, .int .i64 (off : Int), .string (str data)] y fun e y' => e = .returned (.int .i64 0) ∧ ∃ x', VRan noB w0 lim I k iv q x (x.n + 5 * pN off data.length) (writeV V ge ino off data) y x' y' := by
  have HD : Hid (Baser lim noB I iv ge sn) := D
  have HX : Hid (∀ i, x.own q i → i < y.heap.size) := fun i hi => A.vw.lt hi
  have HW5 := alln5 y (.cells #[.pointer (some ⟨q, 0, none⟩)] 23) (.cells #[.int .i64 ino] 3) (.cells #[.int .i64 (off : Int)] 3) (.cells #[.string (str data)] 9) (.cells #[.int .i64 0] 25) _ rfl
  have HA5 := A.called D HW5.2.2.2.2.2.2
  have HA0 : Hid (VAt w0 lim I (k + pN off data.length) iv q x V y) := A
  have hsz : (str data).size = data.length := str_size data
  have hN := fun w => cnum_calls ino w
  have hW := fun w => cwithin_calls (off : Int) (data.length : Int) (by omega) (by omega) w
  rw [h1] at hN
  rw [okW_nat hod] at hW
  have h5 := cwrite1_calls D hge w0 _ k q x V ino off data HA5 hn hod (y.heap.size) (y.heap.size + 1) (y.heap.size + 1 + 1) (y.heap.size + 1 + 1 + 1) (cell1 HW5.1) (cell1 HW5.2.1) (cell1 HW5.2.2.1) (cell1 HW5.2.2.2.1)
  have hCa := ccaughtW_calls ((((y.alloc (.cells #[.pointer (some ⟨q, 0, none⟩)] 23)).alloc (.cells #[.int .i64 ino] 3)).alloc (.cells #[.int .i64 (off : Int)] 3)).alloc (.cells #[.string (str data)] 9)) ⟨y.heap.size, 0, none⟩ ⟨y.heap.size + 1, 0, none⟩ ⟨y.heap.size + 1 + 1, 0, none⟩ ⟨y.heap.size + 1 + 1 + 1, 0, none⟩ (fun r1 z => r1 = 0 ∧ ∃ x', VRan noB w0 lim I k iv q x (x.n + 5 * pN off data.length) (writeV V ge ino off data) (((((y.alloc (.cells #[.pointer (some ⟨q, 0, none⟩)] 23)).alloc (.cells #[.int .i64 ino] 3)).alloc (.cells #[.int .i64 (off : Int)] 3)).alloc (.cells #[.string (str data)] 9)).alloc (.cells #[.int .i64 0] 25)) x' z) (h5.mono fun e z r => by
    obtain ⟨r1, x', T⟩ := r
    have hz : ((((y.alloc (.cells #[.pointer (some ⟨q, 0, none⟩)] 23)).alloc (.cells #[.int .i64 ino] 3)).alloc (.cells #[.int .i64 (off : Int)] 3)).alloc (.cells #[.string (str data)] 9)).heap.size = y.heap.size + 1 + 1 + 1 + 1 := by simp
    refine ⟨0, r1, ?_, rfl, x', T⟩
    rw [hz]
    exact (T.kept (lt_of_block HW5.2.2.2.2.1) (fun e => by have := HX.out _ e; omega)).trans HW5.2.2.2.2.1)
  have hmf : ∀ (fn : Fn) (first cap : Array Value) (w : World), (Instr.makeFunc fn first cap).run Tryz.prog w = .ok (.func fn first cap) w := fun _ _ _ _ => rfl
  have HB5 : Hid (Below y.heap.size y (((((y.alloc (.cells #[.pointer (some ⟨q, 0, none⟩)] 23)).alloc (.cells #[.int .i64 ino] 3)).alloc (.cells #[.int .i64 (off : Int)] 3)).alloc (.cells #[.string (str data)] 9)).alloc (.cells #[.int .i64 0] 25)) ∧ (((((y.alloc (.cells #[.pointer (some ⟨q, 0, none⟩)] 23)).alloc (.cells #[.int .i64 ino] 3)).alloc (.cells #[.int .i64 (off : Int)] 3)).alloc (.cells #[.string (str data)] 9)).alloc (.cells #[.int .i64 0] 25)).heap.size = y.heap.size + 5) := ⟨HW5.2.2.2.2.2.2, HW5.2.2.2.2.2.1⟩
  have hz4 : ((((y.alloc (.cells #[.pointer (some ⟨q, 0, none⟩)] 23)).alloc (.cells #[.int .i64 ino] 3)).alloc (.cells #[.int .i64 (off : Int)] 3)).alloc (.cells #[.string (str data)] 9)).heap.size = y.heap.size + 4 := by simp
  rw [hz4] at hCa
  clear h5 HW5 HA5 A D
  go_enter Tryz.func6, Tryz.ntmps6
  go_wp2_with (first
    | (go_at_call 12; refine (hN _).mono ?_; rintro e w1 ⟨rfl, rfl⟩)
    | (go_at_call 13; refine (hW _).mono ?_; rintro e w2 ⟨rfl, rfl⟩)
    | (go_at_call 14; refine hCa.mono ?_; clear hCa; rintro e z ⟨n1, z1, rfl, ⟨rfl, x', T⟩, rfl⟩))
  go_ret
  exact ⟨rfl, x', VRan.boxed HD.out HA0.out HB5.out.1 T (by omega) (by rw [HB5.out.2]; omega) _⟩
set_option maxHeartbeats 4000000 in
theorem cCut_ok (D : Baser lim noB I iv ge sn) (w0 y : World) (k q : Nat) (x : VR) (V : VS) (A : VAt w0 lim I (k + 1) iv q x V y) (ino size : Int) (hsz : 0 ≤ size ∧ size ≤ 1048576) (L : List Pa) (hs : scanV V.C sn (chsS ino (size / 32)) = (L, 0)) (hn : x.n + 4 + 4 * L.length ≤ 5000) (h1 : okNum ino = true) :
    Calls Tryz.prog 10 #[.pointer (some ⟨q, 0, none⟩), .int .i64 ino, .int .i64 size] y fun e y' => e = .returned (.int .i64 0) ∧ ∃ x', VRan noB w0 lim I k iv q x (x.n + 4 + 4 * L.length) (chAll { V with R := V.R ++ [chsS ino (size / 32)] } (cutL size L)) y x' y' := by
  have HD : Hid (Baser lim noB I iv ge sn) := D
  have HX : Hid (∀ i, x.own q i → i < y.heap.size) := fun i hi => A.vw.lt hi
  have HW5 := alln4 y (.cells #[.pointer (some ⟨q, 0, none⟩)] 23) (.cells #[.int .i64 ino] 3) (.cells #[.int .i64 size] 3) (.cells #[.int .i64 0] 25) _ rfl
  have HA5 := A.called D HW5.2.2.2.2.2
  have HA0 : Hid (VAt w0 lim I (k + 1) iv q x V y) := A
  have hok : okW size 0 = true := by unfold okW; simp; omega
  have hN := fun w => cnum_calls ino w
  have hW := fun w => cwithin_calls size 0 (by omega) (by omega) w
  rw [h1] at hN
  rw [hok] at hW
  have h5 := ccut1_calls D w0 _ k q x V HA5 ino size hsz L hs hn (y.heap.size) (y.heap.size + 1) (y.heap.size + 1 + 1) (cell1 HW5.1) (cell1 HW5.2.1) (cell1 HW5.2.2.1)
  have hCa := ccaughtC_calls (((y.alloc (.cells #[.pointer (some ⟨q, 0, none⟩)] 23)).alloc (.cells #[.int .i64 ino] 3)).alloc (.cells #[.int .i64 size] 3)) ⟨y.heap.size, 0, none⟩ ⟨y.heap.size + 1, 0, none⟩ ⟨y.heap.size + 1 + 1, 0, none⟩ (fun r1 z => r1 = 0 ∧ ∃ x', VRan noB w0 lim I k iv q x (x.n + 4 + 4 * L.length) (chAll { V with R := V.R ++ [chsS ino (size / 32)] } (cutL size L)) ((((y.alloc (.cells #[.pointer (some ⟨q, 0, none⟩)] 23)).alloc (.cells #[.int .i64 ino] 3)).alloc (.cells #[.int .i64 size] 3)).alloc (.cells #[.int .i64 0] 25)) x' z) (h5.mono fun e z r => by
    obtain ⟨r1, x', T⟩ := r
    have hz : (((y.alloc (.cells #[.pointer (some ⟨q, 0, none⟩)] 23)).alloc (.cells #[.int .i64 ino] 3)).alloc (.cells #[.int .i64 size] 3)).heap.size = y.heap.size + 1 + 1 + 1 := by simp
    refine ⟨0, r1, ?_, rfl, x', T⟩
    rw [hz]
    exact (T.kept (lt_of_block HW5.2.2.2.1) (fun e => by have := HX.out _ e; omega)).trans HW5.2.2.2.1)
  have hmf : ∀ (fn : Fn) (first cap : Array Value) (w : World), (Instr.makeFunc fn first cap).run Tryz.prog w = .ok (.func fn first cap) w := fun _ _ _ _ => rfl
  have HB5 : Hid (Below y.heap.size y ((((y.alloc (.cells #[.pointer (some ⟨q, 0, none⟩)] 23)).alloc (.cells #[.int .i64 ino] 3)).alloc (.cells #[.int .i64 size] 3)).alloc (.cells #[.int .i64 0] 25)) ∧ ((((y.alloc (.cells #[.pointer (some ⟨q, 0, none⟩)] 23)).alloc (.cells #[.int .i64 ino] 3)).alloc (.cells #[.int .i64 size] 3)).alloc (.cells #[.int .i64 0] 25)).heap.size = y.heap.size + 4) := ⟨HW5.2.2.2.2.2, HW5.2.2.2.2.1⟩
  have hz4 : (((y.alloc (.cells #[.pointer (some ⟨q, 0, none⟩)] 23)).alloc (.cells #[.int .i64 ino] 3)).alloc (.cells #[.int .i64 size] 3)).heap.size = y.heap.size + 3 := by simp
  rw [hz4] at hCa
  clear h5 HW5 HA5 A D
  go_enter Tryz.func10, Tryz.ntmps10
  go_wp2_with (first
    | (go_at_call 12; refine (hN _).mono ?_; rintro e w1 ⟨rfl, rfl⟩)
    | (go_at_call 13; refine (hW _).mono ?_; rintro e w2 ⟨rfl, rfl⟩)
    | (go_at_call 14; refine hCa.mono ?_; clear hCa; rintro e z ⟨n1, z1, rfl, ⟨rfl, x', T⟩, rfl⟩))
  go_ret
  exact ⟨rfl, x', VRan.boxed HD.out HA0.out HB5.out.1 T (by omega) (by rw [HB5.out.2]; omega) _⟩
set_option maxHeartbeats 4000000 in
theorem cRead_ok (D : Baser lim noB I iv ge sn) (w0 y : World) (k q : Nat) (x : VR) (V : VS) (A : VAt w0 lim I (k + 1) iv q x V y) (hn : x.n ≤ 5000) (ino : Int) (off n : Nat) (hon : off + n ≤ 1048576) (L : List Pa) (hs : RdOk V.C sn ino off n L) (h1 : okNum ino = true) :
    Calls Tryz.prog 8 #[.pointer (some ⟨q, 0, none⟩), .int .i64 ino, .int .i64 (off : Int), .int .i64 (n : Int)] y fun e y' => e = .returned (.tuple #[.string (str (readP L ino off n)), .int .i64 0]) ∧ ∃ x', VRan noB w0 lim I k iv q x (x.n + 4) (readV V ino off n) y x' y' := by
  have HD : Hid (Baser lim noB I iv ge sn) := D
  have HX : Hid (∀ i, x.own q i → i < y.heap.size) := fun i hi => A.vw.lt hi
  have HW5 := alln6 y (.cells #[.pointer (some ⟨q, 0, none⟩)] 23) (.cells #[.int .i64 ino] 3) (.cells #[.int .i64 (off : Int)] 3) (.cells #[.int .i64 (n : Int)] 3) (.cells #[.string ⟨#[]⟩] 9) (.cells #[.int .i64 0] 25) _ rfl
  have HA5 := A.called D HW5.2.2.2.2.2.2.2
  have HA0 : Hid (VAt w0 lim I (k + 1) iv q x V y) := A
  have hN := fun w => cnum_calls ino w
  have hW := fun w => cwithin_calls (off : Int) (n : Int) (by omega) (by omega) w
  rw [h1] at hN
  rw [okW_nat hon] at hW
  have h5 := cread1_calls D w0 _ k q x V HA5 hn ino off n hon L hs (y.heap.size) (y.heap.size + 1) (y.heap.size + 1 + 1) (y.heap.size + 1 + 1 + 1) (y.heap.size + 1 + 1 + 1 + 1) (cell1 HW5.1) (cell1 HW5.2.1) (cell1 HW5.2.2.1) (cell1 HW5.2.2.2.1) ⟨lt_of_block HW5.2.2.2.2.1, fun e => by have := HX.out _ e; omega⟩ HW5.2.2.2.2.1
  have hCa := ccaughtR_calls (((((y.alloc (.cells #[.pointer (some ⟨q, 0, none⟩)] 23)).alloc (.cells #[.int .i64 ino] 3)).alloc (.cells #[.int .i64 (off : Int)] 3)).alloc (.cells #[.int .i64 (n : Int)] 3)).alloc (.cells #[.string ⟨#[]⟩] 9)) ⟨y.heap.size, 0, none⟩ ⟨y.heap.size + 1, 0, none⟩ ⟨y.heap.size + 1 + 1, 0, none⟩ ⟨y.heap.size + 1 + 1 + 1, 0, none⟩ ⟨y.heap.size + 1 + 1 + 1 + 1, 0, none⟩ (fun r1 z => r1 = 0 ∧ ∃ z0 x', VRan noB w0 lim I k iv q x (x.n + 4) (readV V ino off n) ((((((y.alloc (.cells #[.pointer (some ⟨q, 0, none⟩)] 23)).alloc (.cells #[.int .i64 ino] 3)).alloc (.cells #[.int .i64 (off : Int)] 3)).alloc (.cells #[.int .i64 (n : Int)] 3)).alloc (.cells #[.string ⟨#[]⟩] 9)).alloc (.cells #[.int .i64 0] 25)) x' z0 ∧ z = z0.setCell ⟨y.heap.size + 1 + 1 + 1 + 1, 0, none⟩ (.string (str (readP L ino off n)))) (h5.mono fun e z r => by
    obtain ⟨r1, z0, x', T, e2⟩ := r
    have hz : (((((y.alloc (.cells #[.pointer (some ⟨q, 0, none⟩)] 23)).alloc (.cells #[.int .i64 ino] 3)).alloc (.cells #[.int .i64 (off : Int)] 3)).alloc (.cells #[.int .i64 (n : Int)] 3)).alloc (.cells #[.string ⟨#[]⟩] 9)).heap.size = y.heap.size + 1 + 1 + 1 + 1 + 1 := by simp
    refine ⟨0, r1, ?_, rfl, z0, x', T, e2⟩
    rw [hz, e2, heap_setCell_other _ _ _ _ (show y.heap.size + 1 + 1 + 1 + 1 + 1 ≠ y.heap.size + 1 + 1 + 1 + 1 by omega)]
    exact (T.kept (lt_of_block HW5.2.2.2.2.2.1) (fun e => by have := HX.out _ e; omega)).trans HW5.2.2.2.2.2.1)
  have hmf : ∀ (fn : Fn) (first cap : Array Value) (w : World), (Instr.makeFunc fn first cap).run Tryz.prog w = .ok (.func fn first cap) w := fun _ _ _ _ => rfl
  have HB5 : Hid (Below y.heap.size y ((((((y.alloc (.cells #[.pointer (some ⟨q, 0, none⟩)] 23)).alloc (.cells #[.int .i64 ino] 3)).alloc (.cells #[.int .i64 (off : Int)] 3)).alloc (.cells #[.int .i64 (n : Int)] 3)).alloc (.cells #[.string ⟨#[]⟩] 9)).alloc (.cells #[.int .i64 0] 25)) ∧ ((((((y.alloc (.cells #[.pointer (some ⟨q, 0, none⟩)] 23)).alloc (.cells #[.int .i64 ino] 3)).alloc (.cells #[.int .i64 (off : Int)] 3)).alloc (.cells #[.int .i64 (n : Int)] 3)).alloc (.cells #[.string ⟨#[]⟩] 9)).alloc (.cells #[.int .i64 0] 25)).heap.size = y.heap.size + 6) := ⟨HW5.2.2.2.2.2.2.2, HW5.2.2.2.2.2.2.1⟩
  have hz4 : (((((y.alloc (.cells #[.pointer (some ⟨q, 0, none⟩)] 23)).alloc (.cells #[.int .i64 ino] 3)).alloc (.cells #[.int .i64 (off : Int)] 3)).alloc (.cells #[.int .i64 (n : Int)] 3)).alloc (.cells #[.string ⟨#[]⟩] 9)).heap.size = y.heap.size + 5 := by simp
  rw [hz4] at hCa
  have HS5 : Hid (((((((y.alloc (.cells #[.pointer (some ⟨q, 0, none⟩)] 23)).alloc (.cells #[.int .i64 ino] 3)).alloc (.cells #[.int .i64 (off : Int)] 3)).alloc (.cells #[.int .i64 (n : Int)] 3)).alloc (.cells #[.string ⟨#[]⟩] 9)).alloc (.cells #[.int .i64 0] 25)).heap[y.heap.size + 1 + 1 + 1 + 1]? = some (.cells #[.string ⟨#[]⟩] 9)) := HW5.2.2.2.2.1
  clear h5 HW5 HA5 A D
  go_enter Tryz.func8, Tryz.ntmps8
  generalize readP L ino off n = RP at *
  go_wp2_with (first
    | (go_at_call 12; refine (hN _).mono ?_; rintro e w1 ⟨rfl, rfl⟩)
    | (go_at_call 13; refine (hW _).mono ?_; rintro e w2 ⟨rfl, rfl⟩)
    | (go_at_call 14; refine hCa.mono ?_; clear hCa; rintro e z ⟨n1, z1, rfl, ⟨rfl, z0, x', T, rfl⟩, rfl⟩
       have kt : z0.heap[y.heap.size + 1 + 1 + 1 + 1]? = some (.cells #[.string ⟨#[]⟩] 9 (0, 0)) := (T.kept (by rw [HB5.out.2]; omega) (fun e => by have := HX.out _ e; omega)).trans HS5.out
       have kt2 := set1 (.string (str RP)) kt
       have kt3 : ((z0.setCell ⟨y.heap.size + 1 + 1 + 1 + 1, 0, none⟩ (.string (str RP))).setCell ⟨y.heap.size + 5, 0, none⟩ (.int .i64 0)).heap[y.heap.size + 1 + 1 + 1 + 1]? = _ := (heap_setCell_other _ _ _ _ (show y.heap.size + 1 + 1 + 1 + 1 ≠ y.heap.size + 5 by omega)).trans kt2
       have ct := cell1 kt3))
  go_ret2
  refine ⟨rfl, x', VRan.boxes HD.out HA0.out HB5.out.1 T ?_⟩
  have f1 : ∀ (w : World) (b : Nat) (u : Value), FrV (fun i => i = b) w (w.setCell ⟨b, 0, none⟩ u) := fun w b u => ⟨⟨rfl, rfl, rfl, by simp, fun k hk => absurd hk (Nat.not_lt_zero k)⟩, fun i _ hn => heap_setCell_other _ _ _ _ hn⟩
  rw [HB5.out.2]
  have g1 := f1 z0 (y.heap.size + 1 + 1 + 1 + 1) (.string (str RP))
  exact (FrV.trans (S := fun i => y.heap.size ≤ i ∧ i < y.heap.size + 6) ⟨g1.bel, fun i hi hn => g1.block i hi (fun e => hn (by subst e; omega))⟩ (f1 _ _ _) (fun i e => .inl (by subst e; omega)))
end
end Go.Proofs.YtdmindhjmjnagabGreatDoor
/- dir: what stands in a view over nothing (mathematics). -/
namespace Go.Proofs.YtdmindhjmjnagabGreatDoor
set_option linter.unusedVariables false
set_option maxRecDepth 100000
open Go.RowKit

/-- The pairs that changes over nothing leave in a span. -/
def lives (C : List Ch) (s : Sp) : List Pa := ((inL C s).filter fun c => !c.g).map Ch.pa
theorem look_lives : ∀ {C : List Ch}, Asc Ch.n C → ∀ x, look Pa.n ((C.filter fun c => !c.g).map Ch.pa) x = doneA (look Ch.n C x) none
  | [], _, x => rfl
  | c :: r, h, x => by
    have hp := List.pairwise_cons.1 h
    have ih := look_lives hp.2 x
    rw [List.filter_cons]
    cases hg : c.g with
    | false =>
      rw [if_pos (by rfl), List.map_cons]
      simp only [look]
      by_cases e : c.n = x
      · have e' : c.pa.n = x := e
        rw [if_pos e, if_pos e']
        simp [doneA, hg]
      · have e' : ¬ c.pa.n = x := e
        rw [if_neg e, if_neg e', ih]
    | true =>
      rw [if_neg (by decide), ih]
      simp only [look]
      by_cases e : c.n = x
      · rw [if_pos e, look_low Ch.n (fun a ha => by have := hp.1 a ha; omega)]
        simp [doneA, hg]
      · rw [if_neg e]
theorem lives_asc {C : List Ch} (h : Asc Ch.n C) (s : Sp) : Asc Pa.n (lives C s) := by
  unfold lives
  exact List.Pairwise.map _ (fun _ _ q => q) (List.Pairwise.sublist List.filter_sublist (inL_asc h s))
theorem scan_lives {C : List Ch} (h : Asc Ch.n C) (s : Sp) : scanV C nSn s = (lives C s, 0) := by
  have e1 : scanV C nSn s = (applyL (scanL s []) (inL C s), 0) := rfl
  rw [e1]
  refine congrArg (·, (0 : Int)) (asc_ext Pa.n (applyL_is _ _).1 (lives_asc h s) fun x => ?_)
  rw [(applyL_is _ _).2, lastA_asc Ch.n (inL_asc h s)]
  unfold lives
  rw [look_lives (inL_asc h s)]
  rfl
theorem getV_nil (C : List Ch) (K : Kz) : getV C (plGe []) K = match look Ch.n C K.n with
    | some c => (c.v, !c.g, 0)
    | none => ([], false, 0) := by
  unfold getV
  cases look Ch.n C K.n with
  | some c => rfl
  | none => rfl
theorem putA_count (p : Ch → Bool) (c : Ch) : ∀ {l : List Ch}, Asc Ch.n l → ((putA Ch.n l c).filter p).length + ((look Ch.n l c.n).toList.filter p).length = (l.filter p).length + ([c].filter p).length
  | [], _ => by simp [putA, look]
  | a :: r, h => by
    have hp := List.pairwise_cons.1 h
    have ih := putA_count p c hp.2
    unfold putA
    simp only [look]
    by_cases h1 : a.n < c.n
    · rw [if_pos h1, if_neg (by omega)]
      simp only [List.filter_cons] at ih ⊢
      split <;> (try simp only [List.length_cons] at ih ⊢) <;> omega
    · rw [if_neg h1]
      by_cases h2 : a.n = c.n
      · rw [if_pos h2, if_pos h2]
        simp only [List.filter_cons, Option.toList_some, List.filter_nil]
        split <;> split <;> simp
      · rw [if_neg h2, if_neg h2, look_low Ch.n (fun x hx => by have := hp.1 x hx; omega)]
        simp only [List.filter_cons, Option.toList_none, List.filter_nil]
        split <;> split <;> simp
theorem nm_num {i : Int} (hi : okNum i = true) {o : Option Int} (h : NmIs (numT i) o) : o = some i := (h i).2 ⟨hi, by unfold numT; rw [if_pos hi]⟩
theorem okN_of {a : Int} (h1 : 1 ≤ a) (h2 : a < 1073741824) : okN a = true := by
  unfold okN
  exact decide_eq_true ⟨h1, h2⟩
theorem enC_n (n : Int) (s : List UInt8) (i : Int) : (enC n s i).n = (ekz n s).n := rfl
theorem goneE_n (n : Int) (s : List UInt8) : (goneC (ekz n s)).n = (ekz n s).n := rfl
theorem ekz_n_inj {n m : Int} (hn : okN n = true) (hm : okN m = true) {a b : List UInt8} (ha : rightP a = true) (hb : rightP b = true) (h : (ekz n a).n = (ekz m b).n) : n = m ∧ a = b := by
  have h1 := entry_inj hn (rightP_okS ha) hm (rightP_okS hb)
  have h2 : entryR n a = entryR m b := num_inj _ _ ((ekz n a).h.trans (ekz m b).h.symm) (Int.ofNat_inj.1 h)
  rw [h2] at h1
  simpa using h1
/-- What DirApart's loop knows of the changes. -/
structure Ap14 (a b : Int) (C : List Ch) (n : Nat) : Prop where
  asc : Asc Ch.n C
  of : ∀ c ∈ C, ∃ s, rightP s = true ∧ ((∃ i, okNum i = true ∧ c = enC a s i) ∨ c = goneC (ekz b s))
  cnt : (C.filter fun c => !c.g).length = n
theorem Ap14.start (a b : Int) : Ap14 a b [] 0 := ⟨List.Pairwise.nil, (fun c h => by cases h), rfl⟩
section
variable {a b : Int} {C : List Ch} {n : Nat} (ha : okN a = true) (hb : okN b = true) (hab : a ≠ b) {s : List UInt8} (hs : rightP s = true)
include ha hb hab hs
theorem Ap14.look_a (h : Ap14 a b C n) : look Ch.n C (ekz a s).n = none ∨ ∃ i, okNum i = true ∧ look Ch.n C (ekz a s).n = some (enC a s i) := by
  cases e : look Ch.n C (ekz a s).n with
  | none => exact .inl rfl
  | some c =>
    obtain ⟨hm, hk⟩ := look_key Ch.n e
    obtain ⟨t, ht, ⟨i, hi, rfl⟩ | rfl⟩ := h.of c hm
    · rw [enC_n] at hk
      obtain ⟨-, rfl⟩ := ekz_n_inj ha ha ht hs hk
      exact .inr ⟨i, hi, rfl⟩
    · rw [goneE_n] at hk
      exact absurd (ekz_n_inj hb ha ht hs hk).1.symm hab
theorem Ap14.look_b (h : Ap14 a b C n) : look Ch.n C (ekz b s).n = none ∨ look Ch.n C (ekz b s).n = some (goneC (ekz b s)) := by
  cases e : look Ch.n C (ekz b s).n with
  | none => exact .inl rfl
  | some c =>
    obtain ⟨hm, hk⟩ := look_key Ch.n e
    obtain ⟨t, ht, ⟨i, hi, rfl⟩ | rfl⟩ := h.of c hm
    · rw [enC_n] at hk
      exact absurd (ekz_n_inj ha hb ht hs hk).1 hab
    · rw [goneE_n] at hk
      obtain ⟨-, rfl⟩ := ekz_n_inj hb hb ht hs hk
      exact .inr rfl
/-- Was it there? Its put. -/
theorem Ap14.was (h : Ap14 a b C n) {o : Option Int} (ho : NmIs (getV C (plGe []) (ekz a s)).1 o) (i : Int) (hi : okNum i = true) : Ap14 a b (putA Ch.n C (enC a s i)) (n + if (findR (getV C (plGe []) (ekz a s)) o).2.1 = true then 0 else 1) := by
  have hc := putA_count (fun c => !c.g) (enC a s i) h.asc
  rw [h.cnt] at hc
  refine ⟨putA_asc Ch.n _ h.asc, fun c hc => ?_, ?_⟩
  · rcases putA_mem Ch.n hc with hm | rfl
    · exact h.of c hm
    · exact ⟨s, hs, .inl ⟨i, hi, rfl⟩⟩
  · rw [getV_nil] at ho ⊢
    rw [enC_n] at hc
    rcases h.look_a ha hb hab hs with e | ⟨j, hj, e⟩
    · rw [e] at hc ⊢
      have : ([enC a s i].filter fun c => !c.g).length = 1 := rfl
      rw [this] at hc
      simp only [Option.toList_none, List.filter_nil, List.length_nil] at hc
      have : (findR ([], false, 0) o).2.1 = false := rfl
      rw [this, if_neg (by decide)]
      omega
    · rw [e] at hc ho ⊢
      have h1 : ([enC a s i].filter fun c => !c.g).length = 1 := rfl
      have h2 : ((some (enC a s j)).toList.filter fun c => !c.g).length = 1 := rfl
      rw [h1, h2] at hc
      have := nm_num hj ho
      subst this
      have : (findR ((enC a s j).v, !(enC a s j).g, 0) (some j)).2.1 = true := rfl
      rw [this, if_pos rfl]
      omega
theorem Ap14.drop (h : Ap14 a b C n) : Ap14 a b (putA Ch.n C (goneC (ekz b s))) n := by
  have hc := putA_count (fun c => !c.g) (goneC (ekz b s)) h.asc
  rw [h.cnt] at hc
  refine ⟨putA_asc Ch.n _ h.asc, fun c hc => ?_, ?_⟩
  · rcases putA_mem Ch.n hc with hm | rfl
    · exact h.of c hm
    · exact ⟨s, hs, .inr rfl⟩
  · rw [goneE_n] at hc
    have h1 : ([goneC (ekz b s)].filter fun c => !c.g).length = 0 := rfl
    rw [h1] at hc
    rcases h.look_b ha hb hab hs with e | e
    · rw [e] at hc
      simp only [Option.toList_none, List.filter_nil, List.length_nil] at hc
      omega
    · rw [e] at hc
      have h2 : ((some (goneC (ekz b s))).toList.filter fun c => !c.g).length = 0 := rfl
      rw [h2] at hc
      omega
theorem Ap14.found (h : Asc Ch.n C) (i : Int) (hi : okNum i = true) {o : Option Int} (ho : NmIs (getV (putA Ch.n (putA Ch.n C (enC a s i)) (goneC (ekz b s))) (plGe []) (ekz a s)).1 o) : findR (getV (putA Ch.n (putA Ch.n C (enC a s i)) (goneC (ekz b s))) (plGe []) (ekz a s)) o = (i, true, 0) := by
  have e : look Ch.n (putA Ch.n (putA Ch.n C (enC a s i)) (goneC (ekz b s))) (ekz a s).n = some (enC a s i) := by
    rw [putA_look Ch.n _ _ (putA_asc Ch.n _ h), goneE_n, if_neg (fun q => hab (ekz_n_inj hb ha hs hs q).1.symm), putA_look Ch.n _ _ h, enC_n, if_pos rfl]
  rw [getV_nil, e] at ho ⊢
  rw [nm_num hi ho]
  rfl
end
theorem inb_ekz {n d : Int} (hn : okN n = true) (hd : okN d = true) {s : List UInt8} (hs : rightP s = true) : (entriesS d).inb (ekz n s).n = decide (n = d) := by
  have h2 : (entriesS d).inb (num (ekz n s).k) = inS (entriesF d) (entriesT d) false (entryR n s) := (in_num (entriesS d) (ekz n s).k (ekz n s).h).symm
  exact h2.trans (in_dirs hn hd (rightP_okS hs))
theorem Ap14.list_a {a b : Int} {C : List Ch} {n : Nat} (ha : okN a = true) (hb : okN b = true) (hab : a ≠ b) (h : Ap14 a b C n) : (lives C (entriesS a)).length = n ∧ ∀ p ∈ lives C (entriesS a), ∃ s i, rightP s = true ∧ okNum i = true ∧ p = (enC a s i).pa := by
  constructor
  · rw [← h.cnt]
    unfold lives inL
    rw [List.length_map, List.filter_filter]
    refine congrArg List.length (List.filter_congr fun c hc => ?_)
    obtain ⟨t, ht, ⟨i, hi, rfl⟩ | rfl⟩ := h.of c hc
    · rw [enC_n, inb_ekz ha ha ht]
      simp
    · rfl
  · intro p hp
    unfold lives inL at hp
    rw [List.mem_map] at hp
    obtain ⟨c, hc, rfl⟩ := hp
    rw [List.filter_filter, List.mem_filter] at hc
    obtain ⟨t, ht, ⟨i, hi, rfl⟩ | rfl⟩ := h.of c hc.1
    · exact ⟨t, i, ht, hi, rfl⟩
    · have := hc.2
      simp [goneC] at this
theorem Ap14.list_b {a b : Int} {C : List Ch} {n : Nat} (ha : okN a = true) (hb : okN b = true) (hab : a ≠ b) (h : Ap14 a b C n) : lives C (entriesS b) = [] := by
  unfold lives inL
  rw [List.map_eq_nil_iff, List.filter_filter, List.filter_eq_nil_iff]
  intro c hc
  obtain ⟨t, ht, ⟨i, hi, rfl⟩ | rfl⟩ := h.of c hc
  · rw [enC_n, inb_ekz ha hb ht, decide_eq_false hab]
    simp
  · simp [goneC]
theorem good_entry {n : Int} (hn : okN n = true) {s : List UInt8} (hs : rightP s = true) : goodK (entryR n s) = true ∧ pName (entryR n s) = s := by
  have h1 := (entry_right hn (rightP_okS hs)).1
  have e : entryR n s = entryK n.toNat s := by unfold entryR; rw [hn, rightP_okS hs]; rfl
  have h2 := entry_says hn (rightP_okS hs)
  rw [← e] at h2
  refine ⟨?_, h2.2.2⟩
  unfold goodK
  rw [h1, h2.2.1]
  rfl
end Go.Proofs.YtdmindhjmjnagabGreatDoor
