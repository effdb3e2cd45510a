import Derived.Test.YtdmindhjmjnagaaGreatDoorB29
import Derived.Test.YtdmindhjmjnagaaGreatDoorB23
/- ChN DvN ChO FbM FbN FbO FbP -/
namespace Go.Proofs.YtdmindhjmjnagaaGreatDoor
set_option linter.unusedVariables false
set_option maxRecDepth 1000000
set_option maxHeartbeats 32000000
section
open Go.RowKit
theorem alln4 (y : World) (o0 o1 o2 o3 : Obj) (w : World) (h : w = (((y.alloc o0).alloc o1).alloc o2).alloc o3) :
    w.heap[y.heap.size]? = some o0 ∧ w.heap[y.heap.size + 1]? = some o1 ∧ w.heap[y.heap.size + 1 + 1]? = some o2 ∧ w.heap[y.heap.size + 1 + 1 + 1]? = some o3 ∧ w.heap.size = y.heap.size + 4 ∧ Below y.heap.size y w := by
 have hb : ∀ (n : Nat) (z : World) (o : Obj), n = z.heap.size → (z.alloc o).heap[n]? = some o := fun n z o e => by subst e; exact heap_alloc_new _ _
 have hk : ∀ (n : Nat) (z : World) (o : Obj), n < z.heap.size → (z.alloc o).heap[n]? = z.heap[n]? := fun n z o e => Below.heap_alloc _ _ _ e
 have s : ∀ (z : World) (o : Obj), (z.alloc o).heap.size = z.heap.size + 1 := fun z o => by simp
 subst h
 refine ⟨?_, ?_, ?_, ?_, ?_, ?_⟩
 · rw [hk, hk, hk, hb _ _ _ rfl] <;> simp only [s] <;> omega
 · rw [hk, hk, hb _ _ _ (by simp only [s])] <;> simp only [s] <;> omega
 · rw [hk, hb _ _ _ (by simp only [s])]; simp only [s]; omega
 · rw [hb _ _ _ (by simp only [s])]
 · simp only [s]
 · exact (((((Below.refl _ y).alloc (Nat.le_refl _) _).alloc (by simp only [s]; omega) _).alloc (by simp only [s]; omega) _).alloc (by simp only [s]; omega) _)
theorem alln5 (y : World) (o0 o1 o2 o3 o4 : Obj) (w : World) (h : w = ((((y.alloc o0).alloc o1).alloc o2).alloc o3).alloc o4) :
    w.heap[y.heap.size]? = some o0 ∧ w.heap[y.heap.size + 1]? = some o1 ∧ w.heap[y.heap.size + 1 + 1]? = some o2 ∧ w.heap[y.heap.size + 1 + 1 + 1]? = some o3 ∧ w.heap[y.heap.size + 1 + 1 + 1 + 1]? = some o4 ∧ w.heap.size = y.heap.size + 5 ∧ Below y.heap.size y w := by
 have hb : ∀ (n : Nat) (z : World) (o : Obj), n = z.heap.size → (z.alloc o).heap[n]? = some o := fun n z o e => by subst e; exact heap_alloc_new _ _
 have hk : ∀ (n : Nat) (z : World) (o : Obj), n < z.heap.size → (z.alloc o).heap[n]? = z.heap[n]? := fun n z o e => Below.heap_alloc _ _ _ e
 have s : ∀ (z : World) (o : Obj), (z.alloc o).heap.size = z.heap.size + 1 := fun z o => by simp
 subst h
 refine ⟨?_, ?_, ?_, ?_, ?_, ?_, ?_⟩
 · rw [hk, hk, hk, hk, hb _ _ _ rfl] <;> simp only [s] <;> omega
 · rw [hk, hk, hk, hb _ _ _ (by simp only [s])] <;> simp only [s] <;> omega
 · rw [hk, hk, hb _ _ _ (by simp only [s])] <;> simp only [s] <;> omega
 · rw [hk, hb _ _ _ (by simp only [s])]; simp only [s]; omega
 · rw [hb _ _ _ (by simp only [s])]
 · simp only [s]
 · exact ((((((Below.refl _ y).alloc (Nat.le_refl _) _).alloc (by simp only [s]; omega) _).alloc (by simp only [s]; omega) _).alloc (by simp only [s]; omega) _).alloc (by simp only [s]; omega) _)
theorem alln6 (y : World) (o0 o1 o2 o3 o4 o5 : Obj) (w : World) (h : w = (((((y.alloc o0).alloc o1).alloc o2).alloc o3).alloc o4).alloc o5) :
    w.heap[y.heap.size]? = some o0 ∧ w.heap[y.heap.size + 1]? = some o1 ∧ w.heap[y.heap.size + 1 + 1]? = some o2 ∧ w.heap[y.heap.size + 1 + 1 + 1]? = some o3 ∧ w.heap[y.heap.size + 1 + 1 + 1 + 1]? = some o4 ∧ w.heap[y.heap.size + 1 + 1 + 1 + 1 + 1]? = some o5 ∧ w.heap.size = y.heap.size + 6 ∧ Below y.heap.size y w := by
 have hb : ∀ (n : Nat) (z : World) (o : Obj), n = z.heap.size → (z.alloc o).heap[n]? = some o := fun n z o e => by subst e; exact heap_alloc_new _ _
 have hk : ∀ (n : Nat) (z : World) (o : Obj), n < z.heap.size → (z.alloc o).heap[n]? = z.heap[n]? := fun n z o e => Below.heap_alloc _ _ _ e
 have s : ∀ (z : World) (o : Obj), (z.alloc o).heap.size = z.heap.size + 1 := fun z o => by simp
 subst h
 refine ⟨?_, ?_, ?_, ?_, ?_, ?_, ?_, ?_⟩
 · rw [hk, hk, hk, hk, hk, hb _ _ _ rfl] <;> simp only [s] <;> omega
 · rw [hk, hk, hk, hk, hb _ _ _ (by simp only [s])] <;> simp only [s] <;> omega
 · rw [hk, hk, hk, hb _ _ _ (by simp only [s])] <;> simp only [s] <;> omega
 · rw [hk, hk, hb _ _ _ (by simp only [s])] <;> simp only [s] <;> omega
 · rw [hk, hb _ _ _ (by simp only [s])]; simp only [s]; omega
 · rw [hb _ _ _ (by simp only [s])]
 · simp only [s]
 · exact (((((((Below.refl _ y).alloc (Nat.le_refl _) _).alloc (by simp only [s]; omega) _).alloc (by simp only [s]; omega) _).alloc (by simp only [s]; omega) _).alloc (by simp only [s]; omega) _).alloc (by simp only [s]; omega) _)
section
variable {lim : Nat} {I : Nat → World → Prop} {iv : Value} {ge : Kz → List UInt8 × Bool × Int} {sn : Sp → List Pa × Int}
theorem cWrite_ok (D : Baser lim noB I iv ge sn) (hge : ∀ K, (ge K).2.2 = 0) (w0 y : World) (k q : Nat) (x : VR) (V : VS) (ino : Int) (off : Nat) (data : List UInt8) (A : VAt w0 lim I (k + pN off data.length) iv q x V y) (hn : x.n + 5 * pN off data.length ≤ 5000) (hod : off + data.length ≤ 1048576) (h1 : okNum ino = true) :
    Calls Tryz.prog 12 #[.pointer (some ⟨q, 0, none⟩), .int .i64 ino, .int .i64 (off : Int), .string (str data)] y fun e y' => e = .returned (.int .i64 0) ∧ ∃ x', VRan noB w0 lim I k iv q x (x.n + 5 * pN off data.length) (writeV V ge ino off data) y x' y' := by
 have HD : Hid (Baser lim noB I iv ge sn) := D
 have HX : Hid (∀ i, x.own q i → i < y.heap.size) := fun i hi => A.vw.lt hi
 have HW5 := alln5 y (.cells #[.pointer (some ⟨q, 0, none⟩)] 24) (.cells #[.int .i64 ino] 3) (.cells #[.int .i64 (off : Int)] 3) (.cells #[.string (str data)] 9) (.cells #[.int .i64 0] 30) _ rfl
 have HA5 := A.called D HW5.2.2.2.2.2.2
 have HA0 : Hid (VAt w0 lim I (k + pN off data.length) iv q x V y) := A
 have hsz : (str data).size = data.length := str_size data
 have hN := fun w => cnum_calls ino w
 have hW := fun w => cwithin_calls (off : Int) (data.length : Int) (by omega) (by omega) w
 rw [h1] at hN
 rw [okW_nat hod] at hW
 have h5 := cwrite1_calls D hge w0 _ k q x V ino off data HA5 hn hod (y.heap.size) (y.heap.size + 1) (y.heap.size + 1 + 1) (y.heap.size + 1 + 1 + 1) (cell1 HW5.1) (cell1 HW5.2.1) (cell1 HW5.2.2.1) (cell1 HW5.2.2.2.1)
 have hCa := ccaughtW_calls ((((y.alloc (.cells #[.pointer (some ⟨q, 0, none⟩)] 24)).alloc (.cells #[.int .i64 ino] 3)).alloc (.cells #[.int .i64 (off : Int)] 3)).alloc (.cells #[.string (str data)] 9)) ⟨y.heap.size, 0, none⟩ ⟨y.heap.size + 1, 0, none⟩ ⟨y.heap.size + 1 + 1, 0, none⟩ ⟨y.heap.size + 1 + 1 + 1, 0, none⟩ (fun r1 z => r1 = 0 ∧ ∃ x', VRan noB w0 lim I k iv q x (x.n + 5 * pN off data.length) (writeV V ge ino off data) (((((y.alloc (.cells #[.pointer (some ⟨q, 0, none⟩)] 24)).alloc (.cells #[.int .i64 ino] 3)).alloc (.cells #[.int .i64 (off : Int)] 3)).alloc (.cells #[.string (str data)] 9)).alloc (.cells #[.int .i64 0] 30)) x' z) (h5.mono fun e z r => by
  obtain ⟨r1, x', T⟩ := r
  have hz : ((((y.alloc (.cells #[.pointer (some ⟨q, 0, none⟩)] 24)).alloc (.cells #[.int .i64 ino] 3)).alloc (.cells #[.int .i64 (off : Int)] 3)).alloc (.cells #[.string (str data)] 9)).heap.size = y.heap.size + 1 + 1 + 1 + 1 := by simp
  refine ⟨0, r1, ?_, rfl, x', T⟩
  rw [hz]
  exact (T.kept (lt_of_block HW5.2.2.2.2.1) (fun e => by have := HX.out _ e; omega)).trans HW5.2.2.2.2.1)
 have hmf : ∀ (fn : Fn) (first cap : Array Value) (w : World), (Instr.makeFunc fn first cap).run Tryz.prog w = .ok (.func fn first cap) w := fun _ _ _ _ => rfl
 have HB5 : Hid (Below y.heap.size y (((((y.alloc (.cells #[.pointer (some ⟨q, 0, none⟩)] 24)).alloc (.cells #[.int .i64 ino] 3)).alloc (.cells #[.int .i64 (off : Int)] 3)).alloc (.cells #[.string (str data)] 9)).alloc (.cells #[.int .i64 0] 30)) ∧ (((((y.alloc (.cells #[.pointer (some ⟨q, 0, none⟩)] 24)).alloc (.cells #[.int .i64 ino] 3)).alloc (.cells #[.int .i64 (off : Int)] 3)).alloc (.cells #[.string (str data)] 9)).alloc (.cells #[.int .i64 0] 30)).heap.size = y.heap.size + 5) := ⟨HW5.2.2.2.2.2.2, HW5.2.2.2.2.2.1⟩
 have hz4 : ((((y.alloc (.cells #[.pointer (some ⟨q, 0, none⟩)] 24)).alloc (.cells #[.int .i64 ino] 3)).alloc (.cells #[.int .i64 (off : Int)] 3)).alloc (.cells #[.string (str data)] 9)).heap.size = y.heap.size + 4 := by simp
 rw [hz4] at hCa
 clear h5 HW5 HA5 A D
 go_enter Tryz.func12, Tryz.ntmps12
 go_wp2_with (first
  | (go_at_call 28; refine (hN _).mono ?_; rintro e w1 ⟨rfl, rfl⟩)
  | (go_at_call 29; refine (hW _).mono ?_; rintro e w2 ⟨rfl, rfl⟩)
  | (go_at_call 30; refine hCa.mono ?_; clear hCa; rintro e z ⟨n1, z1, rfl, ⟨rfl, x', T⟩, rfl⟩))
 go_ret
 exact ⟨rfl, x', VRan.boxed HD.out HA0.out HB5.out.1 T (by omega) (by rw [HB5.out.2]; omega) _⟩
theorem cCut_ok (D : Baser lim noB I iv ge sn) (w0 y : World) (k q : Nat) (x : VR) (V : VS) (A : VAt w0 lim I (k + 1) iv q x V y) (ino size : Int) (hsz : 0 ≤ size ∧ size ≤ 1048576) (L : List Pa) (hs : scanV V.C sn (chsS ino (size / 32)) = (L, 0)) (hn : x.n + 4 + 4 * L.length ≤ 5000) (h1 : okNum ino = true) :
    Calls Tryz.prog 14 #[.pointer (some ⟨q, 0, none⟩), .int .i64 ino, .int .i64 size] y fun e y' => e = .returned (.int .i64 0) ∧ ∃ x', VRan noB w0 lim I k iv q x (x.n + 4 + 4 * L.length) (chAll { V with R := V.R ++ [chsS ino (size / 32)] } (cutL size L)) y x' y' := by
 have HD : Hid (Baser lim noB I iv ge sn) := D
 have HX : Hid (∀ i, x.own q i → i < y.heap.size) := fun i hi => A.vw.lt hi
 have HW5 := alln4 y (.cells #[.pointer (some ⟨q, 0, none⟩)] 24) (.cells #[.int .i64 ino] 3) (.cells #[.int .i64 size] 3) (.cells #[.int .i64 0] 30) _ rfl
 have HA5 := A.called D HW5.2.2.2.2.2
 have HA0 : Hid (VAt w0 lim I (k + 1) iv q x V y) := A
 have hok : okW size 0 = true := by unfold okW; simp; omega
 have hN := fun w => cnum_calls ino w
 have hW := fun w => cwithin_calls size 0 (by omega) (by omega) w
 rw [h1] at hN
 rw [hok] at hW
 have h5 := ccut1_calls D w0 _ k q x V HA5 ino size hsz L hs hn (y.heap.size) (y.heap.size + 1) (y.heap.size + 1 + 1) (cell1 HW5.1) (cell1 HW5.2.1) (cell1 HW5.2.2.1)
 have hCa := ccaughtC_calls (((y.alloc (.cells #[.pointer (some ⟨q, 0, none⟩)] 24)).alloc (.cells #[.int .i64 ino] 3)).alloc (.cells #[.int .i64 size] 3)) ⟨y.heap.size, 0, none⟩ ⟨y.heap.size + 1, 0, none⟩ ⟨y.heap.size + 1 + 1, 0, none⟩ (fun r1 z => r1 = 0 ∧ ∃ x', VRan noB w0 lim I k iv q x (x.n + 4 + 4 * L.length) (chAll { V with R := V.R ++ [chsS ino (size / 32)] } (cutL size L)) ((((y.alloc (.cells #[.pointer (some ⟨q, 0, none⟩)] 24)).alloc (.cells #[.int .i64 ino] 3)).alloc (.cells #[.int .i64 size] 3)).alloc (.cells #[.int .i64 0] 30)) x' z) (h5.mono fun e z r => by
  obtain ⟨r1, x', T⟩ := r
  have hz : (((y.alloc (.cells #[.pointer (some ⟨q, 0, none⟩)] 24)).alloc (.cells #[.int .i64 ino] 3)).alloc (.cells #[.int .i64 size] 3)).heap.size = y.heap.size + 1 + 1 + 1 := by simp
  refine ⟨0, r1, ?_, rfl, x', T⟩
  rw [hz]
  exact (T.kept (lt_of_block HW5.2.2.2.1) (fun e => by have := HX.out _ e; omega)).trans HW5.2.2.2.1)
 have hmf : ∀ (fn : Fn) (first cap : Array Value) (w : World), (Instr.makeFunc fn first cap).run Tryz.prog w = .ok (.func fn first cap) w := fun _ _ _ _ => rfl
 have HB5 : Hid (Below y.heap.size y ((((y.alloc (.cells #[.pointer (some ⟨q, 0, none⟩)] 24)).alloc (.cells #[.int .i64 ino] 3)).alloc (.cells #[.int .i64 size] 3)).alloc (.cells #[.int .i64 0] 30)) ∧ ((((y.alloc (.cells #[.pointer (some ⟨q, 0, none⟩)] 24)).alloc (.cells #[.int .i64 ino] 3)).alloc (.cells #[.int .i64 size] 3)).alloc (.cells #[.int .i64 0] 30)).heap.size = y.heap.size + 4) := ⟨HW5.2.2.2.2.2, HW5.2.2.2.2.1⟩
 have hz4 : (((y.alloc (.cells #[.pointer (some ⟨q, 0, none⟩)] 24)).alloc (.cells #[.int .i64 ino] 3)).alloc (.cells #[.int .i64 size] 3)).heap.size = y.heap.size + 3 := by simp
 rw [hz4] at hCa
 clear h5 HW5 HA5 A D
 go_enter Tryz.func14, Tryz.ntmps14
 go_wp2_with (first
  | (go_at_call 28; refine (hN _).mono ?_; rintro e w1 ⟨rfl, rfl⟩)
  | (go_at_call 29; refine (hW _).mono ?_; rintro e w2 ⟨rfl, rfl⟩)
  | (go_at_call 30; refine hCa.mono ?_; clear hCa; rintro e z ⟨n1, z1, rfl, ⟨rfl, x', T⟩, rfl⟩))
 go_ret
 exact ⟨rfl, x', VRan.boxed HD.out HA0.out HB5.out.1 T (by omega) (by rw [HB5.out.2]; omega) _⟩
theorem cRead_ok (D : Baser lim noB I iv ge sn) (w0 y : World) (k q : Nat) (x : VR) (V : VS) (A : VAt w0 lim I (k + 1) iv q x V y) (hn : x.n ≤ 5000) (ino : Int) (off n : Nat) (hon : off + n ≤ 1048576) (L : List Pa) (hs : RdOk V.C sn ino off n L) (h1 : okNum ino = true) :
    Calls Tryz.prog 16 #[.pointer (some ⟨q, 0, none⟩), .int .i64 ino, .int .i64 (off : Int), .int .i64 (n : Int)] y fun e y' => e = .returned (.tuple #[.string (str (readP L ino off n)), .int .i64 0]) ∧ ∃ x', VRan noB w0 lim I k iv q x (x.n + 4) (readV V ino off n) y x' y' := by
 have HD : Hid (Baser lim noB I iv ge sn) := D
 have HX : Hid (∀ i, x.own q i → i < y.heap.size) := fun i hi => A.vw.lt hi
 have HW5 := alln6 y (.cells #[.pointer (some ⟨q, 0, none⟩)] 24) (.cells #[.int .i64 ino] 3) (.cells #[.int .i64 (off : Int)] 3) (.cells #[.int .i64 (n : Int)] 3) (.cells #[.string ⟨#[]⟩] 9) (.cells #[.int .i64 0] 30) _ rfl
 have HA5 := A.called D HW5.2.2.2.2.2.2.2
 have HA0 : Hid (VAt w0 lim I (k + 1) iv q x V y) := A
 have hN := fun w => cnum_calls ino w
 have hW := fun w => cwithin_calls (off : Int) (n : Int) (by omega) (by omega) w
 rw [h1] at hN
 rw [okW_nat hon] at hW
 have h5 := cread1_calls D w0 _ k q x V HA5 hn ino off n hon L hs (y.heap.size) (y.heap.size + 1) (y.heap.size + 1 + 1) (y.heap.size + 1 + 1 + 1) (y.heap.size + 1 + 1 + 1 + 1) (cell1 HW5.1) (cell1 HW5.2.1) (cell1 HW5.2.2.1) (cell1 HW5.2.2.2.1) ⟨lt_of_block HW5.2.2.2.2.1, fun e => by have := HX.out _ e; omega⟩ HW5.2.2.2.2.1
 have hCa := ccaughtR_calls (((((y.alloc (.cells #[.pointer (some ⟨q, 0, none⟩)] 24)).alloc (.cells #[.int .i64 ino] 3)).alloc (.cells #[.int .i64 (off : Int)] 3)).alloc (.cells #[.int .i64 (n : Int)] 3)).alloc (.cells #[.string ⟨#[]⟩] 9)) ⟨y.heap.size, 0, none⟩ ⟨y.heap.size + 1, 0, none⟩ ⟨y.heap.size + 1 + 1, 0, none⟩ ⟨y.heap.size + 1 + 1 + 1, 0, none⟩ ⟨y.heap.size + 1 + 1 + 1 + 1, 0, none⟩ (fun r1 z => r1 = 0 ∧ ∃ z0 x', VRan noB w0 lim I k iv q x (x.n + 4) (readV V ino off n) ((((((y.alloc (.cells #[.pointer (some ⟨q, 0, none⟩)] 24)).alloc (.cells #[.int .i64 ino] 3)).alloc (.cells #[.int .i64 (off : Int)] 3)).alloc (.cells #[.int .i64 (n : Int)] 3)).alloc (.cells #[.string ⟨#[]⟩] 9)).alloc (.cells #[.int .i64 0] 30)) x' z0 ∧ z = z0.setCell ⟨y.heap.size + 1 + 1 + 1 + 1, 0, none⟩ (.string (str (readP L ino off n)))) (h5.mono fun e z r => by
  obtain ⟨r1, z0, x', T, e2⟩ := r
  have hz : (((((y.alloc (.cells #[.pointer (some ⟨q, 0, none⟩)] 24)).alloc (.cells #[.int .i64 ino] 3)).alloc (.cells #[.int .i64 (off : Int)] 3)).alloc (.cells #[.int .i64 (n : Int)] 3)).alloc (.cells #[.string ⟨#[]⟩] 9)).heap.size = y.heap.size + 1 + 1 + 1 + 1 + 1 := by simp
  refine ⟨0, r1, ?_, rfl, z0, x', T, e2⟩
  rw [hz, e2, heap_setCell_other _ _ _ _ (show y.heap.size + 1 + 1 + 1 + 1 + 1 ≠ y.heap.size + 1 + 1 + 1 + 1 by omega)]
  exact (T.kept (lt_of_block HW5.2.2.2.2.2.1) (fun e => by have := HX.out _ e; omega)).trans HW5.2.2.2.2.2.1)
 have hmf : ∀ (fn : Fn) (first cap : Array Value) (w : World), (Instr.makeFunc fn first cap).run Tryz.prog w = .ok (.func fn first cap) w := fun _ _ _ _ => rfl
 have HB5 : Hid (Below y.heap.size y ((((((y.alloc (.cells #[.pointer (some ⟨q, 0, none⟩)] 24)).alloc (.cells #[.int .i64 ino] 3)).alloc (.cells #[.int .i64 (off : Int)] 3)).alloc (.cells #[.int .i64 (n : Int)] 3)).alloc (.cells #[.string ⟨#[]⟩] 9)).alloc (.cells #[.int .i64 0] 30)) ∧ ((((((y.alloc (.cells #[.pointer (some ⟨q, 0, none⟩)] 24)).alloc (.cells #[.int .i64 ino] 3)).alloc (.cells #[.int .i64 (off : Int)] 3)).alloc (.cells #[.int .i64 (n : Int)] 3)).alloc (.cells #[.string ⟨#[]⟩] 9)).alloc (.cells #[.int .i64 0] 30)).heap.size = y.heap.size + 6) := ⟨HW5.2.2.2.2.2.2.2, HW5.2.2.2.2.2.2.1⟩
 have hz4 : (((((y.alloc (.cells #[.pointer (some ⟨q, 0, none⟩)] 24)).alloc (.cells #[.int .i64 ino] 3)).alloc (.cells #[.int .i64 (off : Int)] 3)).alloc (.cells #[.int .i64 (n : Int)] 3)).alloc (.cells #[.string ⟨#[]⟩] 9)).heap.size = y.heap.size + 5 := by simp
 rw [hz4] at hCa
 have HS5 : Hid (((((((y.alloc (.cells #[.pointer (some ⟨q, 0, none⟩)] 24)).alloc (.cells #[.int .i64 ino] 3)).alloc (.cells #[.int .i64 (off : Int)] 3)).alloc (.cells #[.int .i64 (n : Int)] 3)).alloc (.cells #[.string ⟨#[]⟩] 9)).alloc (.cells #[.int .i64 0] 30)).heap[y.heap.size + 1 + 1 + 1 + 1]? = some (.cells #[.string ⟨#[]⟩] 9)) := HW5.2.2.2.2.1
 clear h5 HW5 HA5 A D
 go_enter Tryz.func16, Tryz.ntmps16
 generalize readP L ino off n = RP at *
 go_wp2_with (first
  | (go_at_call 28; refine (hN _).mono ?_; rintro e w1 ⟨rfl, rfl⟩)
  | (go_at_call 29; refine (hW _).mono ?_; rintro e w2 ⟨rfl, rfl⟩)
  | (go_at_call 30; refine hCa.mono ?_; clear hCa; rintro e z ⟨n1, z1, rfl, ⟨rfl, z0, x', T, rfl⟩, rfl⟩
     have kt : z0.heap[y.heap.size + 1 + 1 + 1 + 1]? = some (.cells #[.string ⟨#[]⟩] 9 (0, 0)) := (T.kept (by rw [HB5.out.2]; omega) (fun e => by have := HX.out _ e; omega)).trans HS5.out
     have kt2 := set1 (.string (str RP)) kt
     have kt3 : ((z0.setCell ⟨y.heap.size + 1 + 1 + 1 + 1, 0, none⟩ (.string (str RP))).setCell ⟨y.heap.size + 5, 0, none⟩ (.int .i64 0)).heap[y.heap.size + 1 + 1 + 1 + 1]? = _ := (heap_setCell_other _ _ _ _ (show y.heap.size + 1 + 1 + 1 + 1 ≠ y.heap.size + 5 by omega)).trans kt2
     have ct := cell1 kt3))
 go_ret2
 refine ⟨rfl, x', VRan.boxes HD.out HA0.out HB5.out.1 T ?_⟩
 have f1 : ∀ (w : World) (b : Nat) (u : Value), FrV (fun i => i = b) w (w.setCell ⟨b, 0, none⟩ u) := fun w b u => ⟨⟨rfl, rfl, rfl, by simp, fun k hk => absurd hk (Nat.not_lt_zero k)⟩, fun i _ hn => heap_setCell_other _ _ _ _ hn⟩
 rw [HB5.out.2]
 have g1 := f1 z0 (y.heap.size + 1 + 1 + 1 + 1) (.string (str RP))
 exact (FrV.trans (S := fun i => y.heap.size ≤ i ∧ i < y.heap.size + 6) ⟨g1.bel, fun i hi hn => g1.block i hi (fun e => hn (by subst e; omega))⟩ (f1 _ _ _) (fun i e => .inl (by subst e; omega)))
end
end
section
open Go.RowKit
def lives (C : List Ch) (s : Sp) : List Pa := ((inL C s).filter fun c => !c.g).map Ch.pa
theorem look_lives : ∀ {C : List Ch}, Asc Ch.n C → ∀ x, look Pa.n ((C.filter fun c => !c.g).map Ch.pa) x = doneA (look Ch.n C x) none
 | [], _, x => rfl
 | c :: r, h, x => by
  have hp := List.pairwise_cons.1 h
  have ih := look_lives hp.2 x
  rw [List.filter_cons]
  cases hg : c.g with
  | false =>
   rw [if_pos (by rfl), List.map_cons]
   simp only [look]
   by_cases e : c.n = x
   · have e' : c.pa.n = x := e
     rw [if_pos e, if_pos e']
     simp [doneA, hg]
   · have e' : ¬ c.pa.n = x := e
     rw [if_neg e, if_neg e', ih]
  | true =>
   rw [if_neg (by decide), ih]
   simp only [look]
   by_cases e : c.n = x
   · rw [if_pos e, look_low Ch.n (fun a ha => by have := hp.1 a ha; omega)]
     simp [doneA, hg]
   · rw [if_neg e]
theorem lives_asc {C : List Ch} (h : Asc Ch.n C) (s : Sp) : Asc Pa.n (lives C s) := by
 unfold lives
 exact List.Pairwise.map _ (fun _ _ q => q) (List.Pairwise.sublist List.filter_sublist (inL_asc h s))
theorem scan_lives {C : List Ch} (h : Asc Ch.n C) (s : Sp) : scanV C nSn s = (lives C s, 0) := by
 have e1 : scanV C nSn s = (applyL (scanL s []) (inL C s), 0) := rfl
 rw [e1]
 refine congrArg (·, (0 : Int)) (asc_ext Pa.n (applyL_is _ _).1 (lives_asc h s) fun x => ?_)
 rw [(applyL_is _ _).2, lastA_asc Ch.n (inL_asc h s)]
 unfold lives
 rw [look_lives (inL_asc h s)]
 rfl
theorem okN_of {a : Int} (h1 : 1 ≤ a) (h2 : a < 1073741824) : okN a = true := by
 unfold okN
 exact decide_eq_true ⟨h1, h2⟩
section
variable {a b : Int} {C : List Ch} {n : Nat} (ha : okN a = true) (hb : okN b = true) (hab : a ≠ b) {s : List UInt8} (hs : rightP s = true)
include ha hb hab hs
end
end
section
open Go.RowKit
theorem change_len (V : VS) (c : Ch) : (V.change c).C.length ≤ V.C.length + 1 := by
 show (putA Ch.n V.C c).length ≤ _
 have : ∀ l : List Ch, (putA Ch.n l c).length ≤ l.length + 1 := fun l => by
  induction l with
  | nil => simp [putA]
  | cons a r ih =>
   unfold putA
   split
   · simp only [List.length_cons]; omega
   · split <;> simp
 exact this _
theorem chAll_len (V : VS) (l : List Pa) : (chAll V l).C.length ≤ V.C.length + l.length := by
 unfold chAll
 induction l generalizing V with
 | nil => simp
 | cons p r ih =>
  rw [List.foldl_cons]
  have h1 := ih (V.change (chgP p))
  have h2 := change_len V (chgP p)
  rw [List.length_cons]
  omega
theorem writeV_len (V : VS) (ge : Kz → List UInt8 × Bool × Int) (ino : Int) (off : Nat) (data : List UInt8) : (writeV V ge ino off data).C.length ≤ V.C.length + pN off data.length := by
 unfold writeV
 have h1 := chAll_len (getG V ino off data (List.range (pN off data.length))) (putG ge ino off data V.C (List.range (pN off data.length)))
 rw [getG_C, putG_length, List.length_range] at h1
 exact h1
theorem lives_len (C : List Ch) (s : Sp) : (lives C s).length ≤ C.length := by
 unfold lives inL
 rw [List.length_map]
 exact Nat.le_trans (List.length_filter_le _ _) (List.length_filter_le _ _)
def readB (C : List Ch) (ino : Int) (off n : Nat) : List UInt8 := readP (lives C (betS ino ((off / 32 : Nat) : Int) (((off + n - 1) / 32 : Nat) : Int))) ino off n
def cutV (V : VS) (ino size : Int) : VS := chAll { V with R := V.R ++ [chsS ino (size / 32)] } (cutL size (lives V.C (chsS ino (size / 32))))
theorem NV.asc {d : NV} {w0 y : World} (h : d.at_ w0 y) : Asc Ch.n d.V.C := h.vw.mapC.asc
theorem nvWrite {d : NV} {w0 y : World} (h : d.at_ w0 y) (ino : Int) (off : Nat) (data : List UInt8) (h1 : okNum ino = true) (hn : d.x.n + 5 * pN off data.length ≤ 5000) (hod : off + data.length ≤ 1048576) :
    Calls Tryz.prog 12 #[.pointer (some ⟨d.q, 0, none⟩), .int .i64 ino, .int .i64 (off : Int), .string (str data)] y fun e y' => e = .returned (.int .i64 0) ∧ ∃ x', VRan noB w0 d.lim (NI d.lim d.p d.pv d.base) 9 (nI d.p) d.q d.x (d.x.n + 5 * pN off data.length) (writeV d.V (plGe []) ino off data) y x' y' :=
 cWrite_ok (ni_base d.lim d.p d.pv d.base) (fun _ => rfl) w0 y 9 d.q d.x d.V ino off data (VAt.re _ h) hn hod h1
theorem nvRead {d : NV} {w0 y : World} (h : d.at_ w0 y) (ino : Int) (off n : Nat) (h1 : okNum ino = true) (hn : d.x.n ≤ 5000) (hC : d.V.C.length ≤ 5000) (hon : off + n ≤ 1048576) :
    Calls Tryz.prog 16 #[.pointer (some ⟨d.q, 0, none⟩), .int .i64 ino, .int .i64 (off : Int), .int .i64 (n : Int)] y fun e y' => e = .returned (.tuple #[.string (str (readB d.V.C ino off n)), .int .i64 0]) ∧ ∃ x', VRan noB w0 d.lim (NI d.lim d.p d.pv d.base) 9 (nI d.p) d.q d.x (d.x.n + 4) (readV d.V ino off n) y x' y' :=
 cRead_ok (ni_base d.lim d.p d.pv d.base) w0 y 9 d.q d.x d.V (VAt.re _ h) hn ino off n hon _ (fun _ => ⟨scan_lives (NV.asc h) _, lives_asc (NV.asc h) _, by have := lives_len d.V.C (betS ino ((off / 32 : Nat) : Int) (((off + n - 1) / 32 : Nat) : Int)); omega⟩) h1
theorem nvCut {d : NV} {w0 y : World} (h : d.at_ w0 y) (ino size : Int) (h1 : okNum ino = true) (hsz : 0 ≤ size ∧ size ≤ 1048576) (hn : d.x.n + 4 + 4 * d.V.C.length ≤ 5000) :
    Calls Tryz.prog 14 #[.pointer (some ⟨d.q, 0, none⟩), .int .i64 ino, .int .i64 size] y fun e y' => e = .returned (.int .i64 0) ∧ ∃ x', VRan noB w0 d.lim (NI d.lim d.p d.pv d.base) 9 (nI d.p) d.q d.x (d.x.n + 4 + 4 * d.V.C.length) (cutV d.V ino size) y x' y' := by
 have hl := lives_len d.V.C (chsS ino (size / 32))
 refine (cCut_ok (ni_base d.lim d.p d.pv d.base) w0 y 9 d.q d.x d.V (VAt.re _ h) ino size hsz (lives d.V.C (chsS ino (size / 32))) (scan_lives (NV.asc h) _) (by omega) h1).mono fun e y' r => ?_
 obtain ⟨r1, x', T⟩ := r
 exact ⟨r1, x', T.at_, T.fr, T.own, by have := T.n; omega⟩
theorem nvChanges {d : NV} {w0 y : World} (h : d.at_ w0 y) (hn : d.x.n ≤ 5000) :
    Calls Tryz.prog 19 #[.pointer (some ⟨d.q, 0, none⟩)] y fun e y' => ∃ ad cap, e = .returned (.slice ad d.V.C.length cap) ∧ Own encC 95 y' y.heap.size (.slice ad d.V.C.length cap) (d.V.C.map Ch.plain) ∧ Below y.heap.size y y' :=
 vchanges_calls y d.q (nI d.p) d.x d.V h.vw hn
def s13a : VS := writeV vs0 (plGe []) 1 31 [97, 98, 99]
def s13b : VS := readV s13a 1 30 5
def s13c : VS := cutV s13b 1 32
theorem s13_len : s13b.C.length = 2 := by kernel_rfl
theorem s13_r1 : readB s13a.C 1 30 5 = [0, 97, 98, 99, 0] := by kernel_rfl
theorem s13_r2 : readB s13c.C 1 30 5 = [0, 97, 0, 0, 0] := by kernel_rfl
theorem s13_lc : s13c.C.length = 2 := by kernel_rfl
theorem s13_la : s13a.C.length = 2 := by kernel_rfl
theorem shown13_calls (w : World) : Calls Tryz.prog 9 #[] w fun e w' => e = .returned (.bool true) ∧ Below w.heap.size w w' := by
 have hN := nvNew_calls w w (Below.refl _ _)
 go_enter Tryz.func9, Tryz.ntmps9
 go_upto_region 4 with (go_at_call 10; refine hN.mono ?_; clear hN; rintro e y0 ⟨d, rfl, A0, v0, n0, -, -⟩)
 obtain ⟨lim, p, pv, base, q, x0, V0⟩ := d
 dsimp only at v0 n0 ⊢
 subst v0
 have HN0 : Hid (x0.n = 0) := n0
 have h1 := nvWrite A0 1 31 [97, 98, 99] rfl (by show x0.n + 5 * 2 ≤ 5000; omega) (by decide)
 clear A0 n0
 go_upto_region 5 with (go_at_call 12; refine h1.mono ?_; clear h1; rintro e y1 ⟨rfl, x1, T1⟩)
 have A1 : NV.at_ ⟨lim, p, pv, base, q, x1, s13a⟩ w y1 := NV.ran (d := ⟨lim, p, pv, base, q, x0, vs0⟩) T1
 have HN1 : Hid (x1.n ≤ 10) := (show _ ≤ _ by have h : x1.n ≤ x0.n + 5 * 2 := T1.n; have := HN0.out; omega)
 have h2 := nvRead A1 1 30 5 rfl (by show x1.n ≤ 5000; have := HN1.out; omega) (by show s13a.C.length ≤ 5000; rw [s13_la]; omega) (by decide)
 rw [show readB (NV.V ⟨lim, p, pv, base, q, x1, s13a⟩).C 1 30 5 = [0, 97, 98, 99, 0] from s13_r1] at h2
 clear T1 A1
 go_upto_region 6 with (go_at_call 16; refine h2.mono ?_; clear h2; rintro e y2 ⟨rfl, x2, T2⟩)
 have A2 : NV.at_ ⟨lim, p, pv, base, q, x2, s13b⟩ w y2 := NV.ran (d := ⟨lim, p, pv, base, q, x1, s13a⟩) T2
 have HN2 : Hid (x2.n ≤ 14) := (show _ ≤ _ by have h : x2.n ≤ x1.n + 4 := T2.n; have := HN1.out; omega)
 have h3 := nvChanges A2 (by show x2.n ≤ 5000; have := HN2.out; omega)
 have HA2 : Hid (NV.at_ ⟨lim, p, pv, base, q, x2, s13b⟩ w y2) := A2
 rw [show (NV.V ⟨lim, p, pv, base, q, x2, s13b⟩).C.length = 2 from s13_len] at h3
 clear T2 A2
 go_upto_region 7 with (go_at_call 19; refine h3.mono ?_; clear h3; rintro e y3 ⟨ad, cap, rfl, -, b3⟩)
 have A3 := NV.called HA2.out b3
 have h4 := nvCut A3 1 32 rfl (by decide) (by show x2.n + 4 + 4 * s13b.C.length ≤ 5000; rw [s13_len]; have := HN2.out; omega)
 clear A3 b3
 go_upto_region 8 with (go_at_call 14; refine h4.mono ?_; clear h4; rintro e y4 ⟨rfl, x4, T4⟩)
 have A4 : NV.at_ ⟨lim, p, pv, base, q, x4, s13c⟩ w y4 := NV.ran (d := ⟨lim, p, pv, base, q, x2, s13b⟩) T4
 have HN4 : Hid (x4.n ≤ 26) := (show _ ≤ _ by have h : x4.n ≤ x2.n + 4 + 4 * s13b.C.length := T4.n; rw [s13_len] at h; have := HN2.out; omega)
 have h5 := nvRead A4 1 30 5 rfl (by show x4.n ≤ 5000; have := HN4.out; omega) (by show s13c.C.length ≤ 5000; rw [s13_lc]; omega) (by decide)
 rw [show readB (NV.V ⟨lim, p, pv, base, q, x4, s13c⟩).C 1 30 5 = [0, 97, 0, 0, 0] from s13_r2] at h5
 clear T4 A4
 have hq1 : ((str [0, 97, 98, 99, 0]).toList == [0, 97, 98, 99, 0]) = true := by rw [str_toList]; rfl
 have hq2 : ((str [0, 97, 0, 0, 0]).toList == [0, 97, 0, 0, 0]) = true := by rw [str_toList]; rfl
 go_wp2_with (go_at_call 16; refine h5.mono ?_; clear h5; rintro e y5 ⟨rfl, x5, T5⟩)
 go_ret
 exact ⟨rfl, T5.at_.bel⟩
end
section
open Go.RowKit
theorem keyC_n {a b p q : Int} (ha : okN a = true) (hb : okN b = true) (hp : okP p = true) (hq : okP q = true) : (keyC a p).n = (keyC b q).n ↔ a = b ∧ p = q := by
 constructor
 · intro h
   have h1 := Kz.same h
   have h2 : chunkR a p = chunkR b q := congrArg Kz.k h1
   have h3 := chunk_inj ha hp hb hq
   rw [h2] at h3
   simpa using h3.symm
 · rintro ⟨rfl, rfl⟩
   rfl
theorem one_less {K : List UInt8} (hK : K.length = 24) {M : List UInt8} (hM : M.length = 24) (hm : Op.bytesLess K M = true) {L : List UInt8} (hL : L.length = 24) : Op.bytesLess L (oneT K) = !Op.bytesLess K L := by
 have h := fun L hL => nxt_tells L hL 24 K (Nat.le_refl _) hK (by rw [List.drop_of_length_le (by omega)]; rfl)
 rw [List.take_of_length_le (by omega), show 24 - 24 = 0 from rfl, List.replicate_zero, List.append_nil] at h
 cases hn : (nxt K 24).2 with
 | true => exact (h L hL).1 hn
 | false =>
  have := (h M hM).2 hn
  rw [hm] at this
  cases this
theorem betS_in {a b f l p : Int} (ha : okN a = true) (hb : okN b = true) (hf : okP f = true) (hl : 0 ≤ l ∧ l < 4294967295) (hp : okP p = true) : (betS a f l).inb (keyC b p).n = decide (b = a ∧ f ≤ p ∧ p ≤ l) := by
 have hlo : okP l = true := by unfold okP; simp; omega
 have hlo2 : okP (l + 1) = true := by unfold okP; simp; omega
 have h1 : (betS a f l).inb (keyC b p).n = inS (betS a f l).F (betS a f l).T (betS a f l).e (chunkR b p) := (in_num (betS a f l) (chunkR b p) (chunkR_length b p)).symm
 rw [h1]
 show (!Op.bytesLess (chunkR b p) (chunkR a f) && (false || Op.bytesLess (chunkR b p) (oneT (chunkR a l)))) = _
 rw [one_less (chunkR_length a l) (chunkR_length a (l + 1)) (by rw [chunk_less ha ha hlo hlo2]; simp; omega) (chunkR_length b p), chunk_less hb ha hp hf, chunk_less ha hb hlo hp, Bool.eq_iff_iff]
 simp
 omega
theorem chsS_in {a b f p : Int} (ha : okN a = true) (hb : okN b = true) (hf : okP f = true) (hp : okP p = true) : (chsS a f).inb (keyC b p).n = decide (b = a ∧ f ≤ p) := by
 have h1 : (chsS a f).inb (keyC b p).n = inS (chsS a f).F (chsS a f).T (chsS a f).e (chunkR b p) := (in_num (chsS a f) (chunkR b p) (chunkR_length b p)).symm
 rw [h1]
 obtain ⟨a0, a1, a2⟩ := okN_lt ha
 obtain ⟨b0, b1, b2⟩ := okN_lt hb
 have h2 : Op.bytesLess (chunkR b p) (chunksT a f) = (decide (b.toNat < a.toNat) || decide (b.toNat = a.toNat)) := by
  have hx : chunkR b p = be b.toNat 4 ++ 3 :: (zs 15 ++ be p.toNat 4) := by unfold chunkR; rw [hb, hp]; rfl
  have hy : chunksT a f = be a.toNat 4 ++ 4 :: zs 19 := by unfold chunksT; rw [ha, hf]; rfl
  rw [hx, hy, less_be b1 a1]
  congr 1
  have : Op.bytesLess (3 :: (zs 15 ++ be p.toNat 4)) (4 :: zs 19) = true := by rw [Op.bytesLess]; rfl
  rw [this, Bool.and_true]
 show (!Op.bytesLess (chunkR b p) (chunkR a f) && (false || Op.bytesLess (chunkR b p) (chunksT a f))) = _
 rw [h2, chunk_less hb ha hp hf, Bool.eq_iff_iff]
 simp
 omega
def vAt (C : List Ch) (ino pl : Int) : List UInt8 := match look Ch.n C (keyC ino pl).n with
 | some c => c.v
 | none => []
def cB (C : List Ch) (ino pl : Int) : List UInt8 := fullP (vAt C ino pl)
theorem cB_length (C : List Ch) (ino pl : Int) : (cB C ino pl).length = 32 := fullP_length _
def fB (C : List Ch) (ino : Int) (i : Nat) : UInt8 := (cB C ino ((i / 32 : Nat) : Int)).getD (i % 32) 0
structure FileOk (C : List Ch) : Prop where
 asc : Asc Ch.n C
 ok : ∀ c ∈ C, ∃ (ino pl : Int), okN ino = true ∧ okP pl = true ∧ c.k = chunkR ino pl ∧ trimmed c.v = c.v ∧ (c.g = true ↔ c.v = [])
theorem FileOk.nil : FileOk [] := ⟨List.Pairwise.nil, fun c hc => by cases hc⟩
theorem chgP_n (p : Pa) : (chgP p).n = p.n := by unfold chgP; split <;> rfl
theorem chgP_k (p : Pa) : (chgP p).k = p.k := by unfold chgP; split <;> rfl
theorem chgP_v (p : Pa) : (chgP p).v = p.v := by
 unfold chgP
 split
 · rename_i h
   exact h.symm
 · rfl
theorem chgP_g (p : Pa) : (chgP p).g = true ↔ p.v = [] := by
 unfold chgP
 split
 · rename_i h
   exact ⟨fun _ => h, fun _ => rfl⟩
 · rename_i h
   exact ⟨fun e => (by cases e), fun e => absurd e h⟩
theorem chAll_asc (V : VS) (h : Asc Ch.n V.C) (l : List Pa) : Asc Ch.n (chAll V l).C := by
 unfold chAll
 induction l generalizing V with
 | nil => exact h
 | cons p r ih => exact ih _ (putA_asc Ch.n _ h)
theorem chAll_R (V : VS) (l : List Pa) : (chAll V l).R = V.R := by
 unfold chAll
 induction l generalizing V with
 | nil => rfl
 | cons p r ih => exact (ih _).trans rfl
theorem chAll_ok (V : VS) (h : FileOk V.C) (l : List Pa) (hl : ∀ p ∈ l, ∃ (ino pl : Int), okN ino = true ∧ okP pl = true ∧ p.k = chunkR ino pl ∧ trimmed p.v = p.v) : FileOk (chAll V l).C := by
 refine ⟨chAll_asc V h.asc l, ?_⟩
 unfold chAll
 induction l generalizing V with
 | nil => exact h.ok
 | cons p r ih =>
  refine ih (V.change (chgP p)) ⟨putA_asc Ch.n _ h.asc, fun c hc => ?_⟩ (fun a ha => hl a (List.mem_cons_of_mem _ ha))
  rcases putA_mem Ch.n hc with h1 | rfl
  · exact h.ok c h1
  · obtain ⟨i, q, h1, h2, h3, h4⟩ := hl p List.mem_cons_self
    exact ⟨i, q, h1, h2, by rw [chgP_k, h3], by rw [chgP_v, h4], by rw [chgP_v]; exact chgP_g p⟩
end
section
open Go.RowKit
theorem okP_nat {n : Nat} (h : n ≤ 4294967295) : okP (n : Int) = true := by unfold okP; simp; omega
section
variable {V : VS} {ino : Int} {off : Nat} {data : List UInt8}
theorem putP_n (ge : Kz → List UInt8 × Bool × Int) (C : List Ch) (p : Pc) : (putP ge ino data C p).n = (keyC ino p.pl).n := rfl
theorem put_key (hi : okN ino = true) (hod : off + data.length ≤ 1048576) {k j : Nat} (hk : k < pN off data.length) (hj : j < pN off data.length) : (putP (plGe []) ino data V.C (pcM off data.length k)).n = (putP (plGe []) ino data V.C (pcM off data.length j)).n ↔ k = j := by
 rw [putP_n, putP_n, pcM_at hk, pcM_at hj]
 have hpl : ∀ k, k < pN off data.length → okP ((off / 32 + k : Nat) : Int) = true := fun k hk => okP_nat (by have := pIx_lt.2 hk; unfold pIx at this; omega)
 rw [show (pcK off data.length k).pl = ((off / 32 + k : Nat) : Int) from rfl, show (pcK off data.length j).pl = ((off / 32 + j : Nat) : Int) from rfl, keyC_n hi hi (hpl k hk) (hpl j hj)]
 omega
theorem trimmed_twice (S : List UInt8) : trimmed (trimmed S) = trimmed S := by
 have h : trimmed (S.take 32) = trimmed S := by unfold trimmed; rw [List.take_take, Nat.min_self]
 rw [← h]
 exact (chunk_is (S.take 32) (by rw [List.length_take]; omega)).tt
theorem write_ok (h : FileOk V.C) (hi : okN ino = true) (hod : off + data.length ≤ 1048576) : FileOk (writeV V (plGe []) ino off data).C := by
 unfold writeV
 refine chAll_ok _ (by rw [getG_C]; exact h) _ (fun p hp => ?_)
 unfold putG at hp
 obtain ⟨k, hk, rfl⟩ := List.mem_map.1 hp
 rw [List.mem_range] at hk
 refine ⟨ino, ((off / 32 + k : Nat) : Int), hi, okP_nat (by have := pIx_lt.2 hk; unfold pIx at this; omega), ?_, ?_⟩
 · rw [pcM_at hk]
   rfl
 · exact trimmed_twice _
end
end
section
open Go.RowKit
theorem valL_lives {C : List Ch} (h : FileOk C) (s : Sp) (ino pl : Int) : valL (lives C s) (keyC ino pl) = if s.inb (keyC ino pl).n then vAt C ino pl else [] := by
 unfold valL lives vAt
 rw [look_lives (inL_asc h.asc s), look_filter]
 cases hs : s.inb (keyC ino pl).n with
 | false => rfl
 | true =>
  simp only [if_true]
  cases hl : look Ch.n C (keyC ino pl).n with
  | none => rfl
  | some c =>
   unfold doneA
   cases hg : c.g with
   | false =>
    simp only [hg, Bool.false_eq_true, if_false]
    rfl
   | true =>
    obtain ⟨_, _, _, _, _, _, h3⟩ := h.ok c (look_key Ch.n hl).1
    simp only [hg, if_true]
    exact (h3.1 hg).symm
theorem take_drop_map (F : List UInt8) (a m : Nat) (h : a + m ≤ F.length) : (F.drop a).take m = (List.range m).map fun j => F.getD (a + j) 0 := by
 apply List.ext_getElem
 · simp; omega
 · intro i h1 h2
   simp at h1 h2 ⊢
   rw [List.getElem?_eq_getElem (by omega)]
   rfl
theorem read_bytes {C : List Ch} (h : FileOk C) {ino : Int} (hi : okN ino = true) {off n : Nat} (hon : off + n ≤ 1048576) : readB C ino off n = (List.range n).map fun j => fB C ino (off + j) := by
 rcases Nat.eq_zero_or_pos n with rfl | h0
 · exact readP_zero _ _ _
 unfold readB readP
 have hk : ∀ k, k ≤ pN off n → readG (lives C (betS ino ((off / 32 : Nat) : Int) (((off + n - 1) / 32 : Nat) : Int))) ino off n (List.range k) = (List.range (min (pIx off k) n)).map fun j => fB C ino (off + j) := by
  intro k
  induction k with
  | zero =>
   intro _
   rw [pIx_zero, Nat.zero_min]
   rfl
  | succ k ih =>
   intro hk
   have hkn : k < pN off n := hk
   have hix := pIx_lt.2 hkn
   have hnx := pIx_next hkn
   have hpp := pIx_place off k
   have hlt := (pcK_ok hkn).2
   have h32 : pTt off n k ≤ 32 := Nat.min_le_right _ _
   have hfr : pFr off k = (off + pIx off k) % 32 := rfl
   have hN : pN off n = (off + n - 1) / 32 - off / 32 + 1 := if_neg (by omega)
   rw [List.range_succ, readG_snoc, ih (by omega), pcM_at hkn, Nat.min_eq_left (by omega), ← hnx, List.range_add, List.map_append, List.map_map]
   congr 1
   have hv : valL (lives C (betS ino ((off / 32 : Nat) : Int) (((off + n - 1) / 32 : Nat) : Int))) (keyC ino ((off / 32 + k : Nat) : Int)) = vAt C ino ((off / 32 + k : Nat) : Int) := by
    rw [valL_lives h, betS_in hi hi (okP_nat (by omega)) (by omega) (okP_nat (by omega)), if_pos (by simp; omega)]
   have hp : partP (lives C (betS ino ((off / 32 : Nat) : Int) (((off + n - 1) / 32 : Nat) : Int))) ino (pcK off n k) = ((cB C ino ((off / 32 + k : Nat) : Int)).drop (pFr off k)).take (pTt off n k - pFr off k) := by
    unfold cB
    rw [← hv]
    have a3 : ((pcK off n k).tt - (pcK off n k).fr).toNat = pTt off n k - pFr off k := by
     show ((pTt off n k : Int) - (pFr off k : Int)).toNat = _
     omega
    unfold partP
    rw [a3]
    rfl
   rw [hp, take_drop_map _ _ _ (by rw [cB_length]; omega)]
   refine List.map_congr_left fun j hj => ?_
   rw [List.mem_range] at hj
   show _ = fB C ino (off + (pIx off k + j))
   unfold fB
   rw [show (off + (pIx off k + j)) / 32 = off / 32 + k by omega, show (off + (pIx off k + j)) % 32 = pFr off k + j by omega]
 have hfin := hk (pN off n) (Nat.le_refl _)
 have hge : n ≤ pIx off (pN off n) := Nat.not_lt.1 (fun e => Nat.lt_irrefl _ (pIx_lt.1 e))
 rw [Nat.min_eq_right hge] at hfin
 exact hfin
theorem cutO_n {size : Int} {p p' : Pa} (h : cutO size p = some p') : p'.n = p.n ∧ p'.k = p.k := by
 unfold cutO at h
 split at h
 · split at h
   · cases h
     exact ⟨rfl, rfl⟩
   · cases h
 · cases h
theorem full_nil : fullP [] = List.replicate 32 0 := rfl
theorem cut_ok {V : VS} (h : FileOk V.C) {ino size : Int} : FileOk (cutV V ino size).C := by
 unfold cutV
 refine chAll_ok { V with R := V.R ++ [chsS ino (size / 32)] } h _ (fun p hp => ?_)
 unfold cutL at hp
 obtain ⟨x, hx, hxp⟩ := List.mem_filterMap.1 hp
 have hk := (cutO_n hxp).2
 unfold lives at hx
 obtain ⟨c, hc, rfl⟩ := List.mem_map.1 hx
 have hcm : c ∈ V.C := (List.mem_filter.1 (List.mem_filter.1 hc).1).1
 obtain ⟨i2, p2, k1, k2, k3, -, -⟩ := h.ok c hcm
 refine ⟨i2, p2, k1, k2, hk.trans k3, ?_⟩
 unfold cutO at hxp
 split at hxp
 · split at hxp
   · cases hxp
     exact trimmed_twice _
   · cases hxp
 · cases hxp
end
section
open Go.RowKit
end
end Go.Proofs.YtdmindhjmjnagaaGreatDoor
