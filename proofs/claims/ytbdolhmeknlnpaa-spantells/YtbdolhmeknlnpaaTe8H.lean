/- The document's Both and Less. -/
import Derived.Test.YtbdolhmeknlnpaaTe8G
namespace Go.Proofs.Ytbdolhmeknlnpaa
set_option linter.unusedVariables false
open Go.RowKit

set_option maxRecDepth 100000 in
set_option maxHeartbeats 4000000 in
theorem rboth_calls (w : World) (u v : Value) (l m : List Sp) (h : Sl encS w u l) (h' : Sl encS w v m) (hl : l.length ≤ 100) (hl' : m.length ≤ 100) : Calls Try.prog 15 #[u, v] w fun e w' => ∃ v, e = .returned v ∧ ∃ out, Sl encS w' v out ∧ Is out (fun x => mem l x && mem m x) ∧ Below w.heap.size w w' := by
  have HS : Hid (Sl encS w u l) := h
  have HS' : Hid (Sl encS w v m) := h'
  have HC : Hid (Cuts (boundsP (l ++ m)) (fun x => mem l x && mem m x)) := cuts_of l m (fun p q => p && q) rfl
  have HLn : Hid ((boundsP (l ++ m)).length ≤ 400) := (by have := bounds_len (l ++ m); rw [List.length_append] at this; omega : _ ≤ _)
  have HLE : Hid (l.length ≤ 100 ∧ m.length ≤ 100) := ⟨hl, hl'⟩
  have HBO : Hid (∀ y vv, Sl encS y vv (l ++ m) → Calls Try.prog 28 #[vv] y fun e w' => ∃ v, e = .returned v ∧ Sl encT w' v (boundsP (l ++ m)) ∧ Below y.heap.size y w') := fun y vv hh => bounds_calls y vv _ hh (by rw [List.length_append]; omega)
  clear hl hl'
  generalize boundsP (l ++ m) = C at *
  obtain ⟨ad0, cap0, rfl, _⟩ := h
  obtain ⟨ad1, cap1, rfl, _⟩ := h'
  have b0 : Below w.heap.size w (w.alloc (.cells #[] 35)) := (Below.refl _ _).alloc (Nat.le_refl _) _
  have oE : Own encS 35 (w.alloc (.cells #[] 35)) w.heap.size (.slice (some ⟨w.heap.size, 0, none⟩) 0 0) [] := World.ownsRow_made (base := w.heap.size) (e := 35) (size := 49) w #[] 0 (Nat.le_refl _) (by unfold maxLen; omega) rfl
  go_enter Try.func15, Try.ntmps15
  go_wp2_with (first
    | (at_builtin; refine append_slB rowS rfl _ _ rfl w.heap.size (.slice (some ⟨w.heap.size, 0, none⟩) 0 0) [] l rfl oE (.slice ad0 l.length cap0) rfl w.heap.size (HS.out.below b0) (by have := HLE.out; simp only [List.length_nil]; omega) (by decide) b0.size ?_; intro vA zA oA gA; have bA := b0.grown gA b0.size (fun j hj => (oE.lt j hj).1); clear oE gA b0; rw [List.nil_append] at oA)
    | (at_builtin; refine append_slB rowS rfl _ _ rfl w.heap.size vA l m rfl oA (.slice ad1 m.length cap1) rfl w.heap.size (HS'.out.below bA) (by have := HLE.out; omega) (by decide) bA.size ?_; intro vB zB oB gB; have bB := bA.grown gB bA.size (fun j hj => (oA.lt j hj).1); clear oA gB bA; have hbo := HBO.out zB vB oB.slB)
    | (go_at_call 28; refine hbo.mono ?_; clear hbo; rintro e y ⟨v1, rfl, s1, b1'⟩; have b1 := bB.trans (b1'.mono bB.size); clear b1' bB oB; obtain ⟨ad, N, cap, rfl, HX⟩ := sl_open s1; clear s1))
  have hNN : N ≤ 400 := by have := HLn.out; have := HX.out.1; omega
  have hNc := HX.out.2.1
  obtain ⟨M, hM⟩ : ∃ M : Nat, M = N - 1 := ⟨_, rfl⟩
  have HMN : Hid (M = N - 1) := hM
  clear hM
  go_loopg [6, 7] M (fun gg v i wr => ∃ k : Nat, k + gg = M ∧ i = .int .i64 (k : Int) ∧ Hid (Below y.heap.size y wr ∧ Own encB 4 wr y.heap.size v ((C.take k).map fun c => (mem l c.v && mem m c.v))))
  case atStart => exact ⟨0, by omega, rfl, ⟨Below.refl _ _, Own.nil _ _ _ _⟩⟩
  case round =>
    obtain ⟨k, hkg, rfl, HL⟩ := hrel
    have bw := b1.trans (HL.out.1.mono b1.size)
    cases gk with
    | zero =>
      have hkN : k = M := by omega
      subst hkN
      have hz := HMN.out
      have hno : ¬ ((k : Int) + 1 < (N : Int)) := by omega
      have hw := where_calls wr (.slice ad N cap) C (Sl.called HX.out.2.2.1 HL.out.1) u6 ((C.take k).map fun c => (mem l c.v && mem m c.v)) HL.out.2.slB (fun x => mem l x && mem m x) HC.out (by have := HX.out.1; omega) (by have := HX.out.1; rw [List.length_map, List.length_take]; omega) (fun i h h' => by rw [List.getElem_map, List.getElem_take])
      go_wp2_with (go_at_call 30; refine hw.mono ?_; clear hw; rintro e z ⟨v3, rfl, out, s3, i3, b3⟩)
      go_ret
      exact ⟨_, rfl, out, s3, i3, bw.trans (b3.mono bw.size)⟩
    | succ gg =>
      have hk1 : k + 1 < C.length := by have := HX.out.1; have := HMN.out; omega
      have i2 : (k : Int) < (N : Int) := by have := HMN.out; omega
      have i3 : (k : Int) + 1 < (N : Int) := by have := HMN.out; omega
      have i0 : (0 : Int) ≤ (k : Int) := by omega
      obtain ⟨g, off, rfl, hg, rc⟩ := HX.out.2.2.2 k (by omega)
      have HCE : Hid (∀ yy, Below y.heap.size y yy → yy.cell? ⟨g, off + k, none⟩ = some (.string (str (C[k]).b))) := (fun yy hy => by
        have := (range_same' rc (hy.block g hg)) 0 _ rfl
        rw [Nat.mul_one, Nat.add_zero] at this
        exact this)
      have hc := HCE.out wr HL.out.1
      clear rc
      have hK := HC.out.key k hk1
      have HKEY : Hid (∀ yy, Calls Try.prog 29 #[.string (str (C[k]).b)] yy fun e w' => e = .returned (kv (C[k]).b) ∧ Below yy.heap.size yy w') := fun yy => rkey_calls yy (C[k]).b hK
      have HH1 : Hid (∀ yy, Sl encS yy (.slice ad0 l.length cap0) l → Calls Try.prog 19 #[.slice ad0 l.length cap0, kv (C[k]).b] yy fun e w' => e = .returned (.bool (mem l (num (C[k]).b))) ∧ Below yy.heap.size yy w') := fun yy hh => rhas_calls yy _ l hh (C[k]).b hK
      have HH2 : Hid (∀ yy, Sl encS yy (.slice ad1 m.length cap1) m → Calls Try.prog 19 #[.slice ad1 m.length cap1, kv (C[k]).b] yy fun e w' => e = .returned (.bool (mem m (num (C[k]).b))) ∧ Below yy.heap.size yy w') := fun yy hh => rhas_calls yy _ m hh (C[k]).b hK
      have HE : Hid ((C.take k).map (fun c => (mem l c.v && mem m c.v)) ++ [(mem l (num (C[k]).b) && mem m (num (C[k]).b))] = (C.take (k + 1)).map fun c => (mem l c.v && mem m c.v)) := (by rw [List.take_succ_eq_append_getElem (by omega), List.map_append, List.map_singleton, key_v hK] : _ = _)
      have HLL : Hid (((C.take k).map fun c => (mem l c.v && mem m c.v)).length ≤ 400) := (by rw [List.length_map, List.length_take]; omega : _ ≤ _)
      generalize (C.take k).map (fun c => (mem l c.v && mem m c.v)) = BS at *
      generalize mem l (num (C[k]).b) = x1 at *
      generalize mem m (num (C[k]).b) = x2 at *
      generalize (C[k]).b = K at *
      have hkey := HKEY.out wr
      cases x1 with
      | true =>
        go_wp2_with (first
          | (go_at_call 29; refine hkey.mono ?_; clear hkey; rintro e z1 ⟨rfl, b2⟩; have hhas := HH1.out z1 (Sl.called HS.out (bw.trans (b2.mono bw.size))); have c1 := HL.out.1.trans (b2.mono HL.out.1.size); have w1 := bw.trans (b2.mono bw.size))
          | (go_at_call 19; refine hhas.mono ?_; clear hhas; rintro e z2 ⟨rfl, b3⟩; have c2 := c1.trans (b3.mono c1.size); have w2 := w1.trans (b3.mono w1.size); have hc2 := HCE.out z2 c2; have hkey2 := HKEY.out z2)
          | (go_at_call 29; refine hkey2.mono ?_; clear hkey2; rintro e z3 ⟨rfl, b4⟩; have c3 := c2.trans (b4.mono c2.size); have w3 := w2.trans (b4.mono w2.size); have hhas2 := HH2.out z3 (Sl.called HS'.out w3))
          | (go_at_call 19; refine hhas2.mono ?_; clear hhas2; rintro e z4 ⟨rfl, b5⟩; have c4 := c3.trans (b5.mono c3.size))
          | (refine build_c1 rowB rfl _ rfl (true && x2) _ rfl rfl ?_; intro z5 o5 b6 s6; have c5 := c4.trans (b6.mono c4.size); have o6 := ((((HL.out.2.below b2).below b3).below b4).below b5).below b6)
          | (at_builtin; refine append_slB rowB rfl _ _ rfl y.heap.size u6 BS [true && x2] rfl o6 _ rfl _ o5.slB (by have := HLL.out; simp only [List.length_cons, List.length_nil]; omega) (by decide) c5.size ?_; intro v7 z7 o7 g7))
        go_roundg gg
        case measure => omega
        case rel =>
          have o8 : Own encB 4 z7 y.heap.size v7 ((C.take (k + 1)).map fun c => (mem l c.v && mem m c.v)) := HE.out ▸ o7
          exact ⟨k + 1, by omega, congrArg (Value.int .i64) (by omega), ⟨c5.grown g7 c5.size (fun j hj => (o6.lt j hj).1), o8⟩⟩
      | false =>
        go_wp2_with (first
          | (go_at_call 29; refine hkey.mono ?_; clear hkey; rintro e z1 ⟨rfl, b2⟩; have hhas := HH1.out z1 (Sl.called HS.out (bw.trans (b2.mono bw.size))); have c1 := HL.out.1.trans (b2.mono HL.out.1.size); have w1 := bw.trans (b2.mono bw.size))
          | (go_at_call 19; refine hhas.mono ?_; clear hhas; rintro e z2 ⟨rfl, b3⟩; have c2 := c1.trans (b3.mono c1.size); have w2 := w1.trans (b3.mono w1.size); have hc2 := HCE.out z2 c2; have hkey2 := HKEY.out z2)
          | (go_at_call 29; refine hkey2.mono ?_; clear hkey2; rintro e z3 ⟨rfl, b4⟩; have c3 := c2.trans (b4.mono c2.size); have w3 := w2.trans (b4.mono w2.size); have hhas2 := HH2.out z3 (Sl.called HS'.out w3))
          | (go_at_call 19; refine hhas2.mono ?_; clear hhas2; rintro e z4 ⟨rfl, b5⟩; have c4 := c3.trans (b5.mono c3.size))
          | (refine build_c1 rowB rfl _ rfl (false && x2) _ rfl rfl ?_; intro z5 o5 b6 s6; have c5 := c4.trans (b6.mono c4.size); have o6 := ((((HL.out.2.below b2).below b3).below b4).below b5).below b6)
          | (at_builtin; refine append_slB rowB rfl _ _ rfl y.heap.size u6 BS [false && x2] rfl o6 _ rfl _ o5.slB (by have := HLL.out; simp only [List.length_cons, List.length_nil]; omega) (by decide) c5.size ?_; intro v7 z7 o7 g7))
        go_roundg gg
        case measure => omega
        case rel =>
          have o8 : Own encB 4 z7 y.heap.size v7 ((C.take (k + 1)).map fun c => (mem l c.v && mem m c.v)) := HE.out ▸ o7
          exact ⟨k + 1, by omega, congrArg (Value.int .i64) (by omega), ⟨c5.grown g7 c5.size (fun j hj => (o6.lt j hj).1), o8⟩⟩
set_option maxRecDepth 100000 in
set_option maxHeartbeats 4000000 in
theorem rless8_calls (w : World) (u v : Value) (l m : List Sp) (h : Sl encS w u l) (h' : Sl encS w v m) (hl : l.length ≤ 100) (hl' : m.length ≤ 100) : Calls Try.prog 17 #[u, v] w fun e w' => ∃ v, e = .returned v ∧ ∃ out, Sl encS w' v out ∧ Is out (fun x => mem l x && !mem m x) ∧ Below w.heap.size w w' := by
  have HS : Hid (Sl encS w u l) := h
  have HS' : Hid (Sl encS w v m) := h'
  have HC : Hid (Cuts (boundsP (l ++ m)) (fun x => mem l x && !mem m x)) := cuts_of l m (fun p q => p && !q) rfl
  have HLn : Hid ((boundsP (l ++ m)).length ≤ 400) := (by have := bounds_len (l ++ m); rw [List.length_append] at this; omega : _ ≤ _)
  have HLE : Hid (l.length ≤ 100 ∧ m.length ≤ 100) := ⟨hl, hl'⟩
  have HBO : Hid (∀ y vv, Sl encS y vv (l ++ m) → Calls Try.prog 28 #[vv] y fun e w' => ∃ v, e = .returned v ∧ Sl encT w' v (boundsP (l ++ m)) ∧ Below y.heap.size y w') := fun y vv hh => bounds_calls y vv _ hh (by rw [List.length_append]; omega)
  clear hl hl'
  generalize boundsP (l ++ m) = C at *
  obtain ⟨ad0, cap0, rfl, _⟩ := h
  obtain ⟨ad1, cap1, rfl, _⟩ := h'
  have b0 : Below w.heap.size w (w.alloc (.cells #[] 35)) := (Below.refl _ _).alloc (Nat.le_refl _) _
  have oE : Own encS 35 (w.alloc (.cells #[] 35)) w.heap.size (.slice (some ⟨w.heap.size, 0, none⟩) 0 0) [] := World.ownsRow_made (base := w.heap.size) (e := 35) (size := 49) w #[] 0 (Nat.le_refl _) (by unfold maxLen; omega) rfl
  go_enter Try.func17, Try.ntmps17
  go_wp2_with (first
    | (at_builtin; refine append_slB rowS rfl _ _ rfl w.heap.size (.slice (some ⟨w.heap.size, 0, none⟩) 0 0) [] l rfl oE (.slice ad0 l.length cap0) rfl w.heap.size (HS.out.below b0) (by have := HLE.out; simp only [List.length_nil]; omega) (by decide) b0.size ?_; intro vA zA oA gA; have bA := b0.grown gA b0.size (fun j hj => (oE.lt j hj).1); clear oE gA b0; rw [List.nil_append] at oA)
    | (at_builtin; refine append_slB rowS rfl _ _ rfl w.heap.size vA l m rfl oA (.slice ad1 m.length cap1) rfl w.heap.size (HS'.out.below bA) (by have := HLE.out; omega) (by decide) bA.size ?_; intro vB zB oB gB; have bB := bA.grown gB bA.size (fun j hj => (oA.lt j hj).1); clear oA gB bA; have hbo := HBO.out zB vB oB.slB)
    | (go_at_call 28; refine hbo.mono ?_; clear hbo; rintro e y ⟨v1, rfl, s1, b1'⟩; have b1 := bB.trans (b1'.mono bB.size); clear b1' bB oB; obtain ⟨ad, N, cap, rfl, HX⟩ := sl_open s1; clear s1))
  have hNN : N ≤ 400 := by have := HLn.out; have := HX.out.1; omega
  have hNc := HX.out.2.1
  obtain ⟨M, hM⟩ : ∃ M : Nat, M = N - 1 := ⟨_, rfl⟩
  have HMN : Hid (M = N - 1) := hM
  clear hM
  go_loopg [6, 7] M (fun gg v i wr => ∃ k : Nat, k + gg = M ∧ i = .int .i64 (k : Int) ∧ Hid (Below y.heap.size y wr ∧ Own encB 4 wr y.heap.size v ((C.take k).map fun c => (mem l c.v && !mem m c.v))))
  case atStart => exact ⟨0, by omega, rfl, ⟨Below.refl _ _, Own.nil _ _ _ _⟩⟩
  case round =>
    obtain ⟨k, hkg, rfl, HL⟩ := hrel
    have bw := b1.trans (HL.out.1.mono b1.size)
    cases gk with
    | zero =>
      have hkN : k = M := by omega
      subst hkN
      have hz := HMN.out
      have hno : ¬ ((k : Int) + 1 < (N : Int)) := by omega
      have hw := where_calls wr (.slice ad N cap) C (Sl.called HX.out.2.2.1 HL.out.1) u6 ((C.take k).map fun c => (mem l c.v && !mem m c.v)) HL.out.2.slB (fun x => mem l x && !mem m x) HC.out (by have := HX.out.1; omega) (by have := HX.out.1; rw [List.length_map, List.length_take]; omega) (fun i h h' => by rw [List.getElem_map, List.getElem_take])
      go_wp2_with (go_at_call 30; refine hw.mono ?_; clear hw; rintro e z ⟨v3, rfl, out, s3, i3, b3⟩)
      go_ret
      exact ⟨_, rfl, out, s3, i3, bw.trans (b3.mono bw.size)⟩
    | succ gg =>
      have hk1 : k + 1 < C.length := by have := HX.out.1; have := HMN.out; omega
      have i2 : (k : Int) < (N : Int) := by have := HMN.out; omega
      have i3 : (k : Int) + 1 < (N : Int) := by have := HMN.out; omega
      have i0 : (0 : Int) ≤ (k : Int) := by omega
      obtain ⟨g, off, rfl, hg, rc⟩ := HX.out.2.2.2 k (by omega)
      have HCE : Hid (∀ yy, Below y.heap.size y yy → yy.cell? ⟨g, off + k, none⟩ = some (.string (str (C[k]).b))) := (fun yy hy => by
        have := (range_same' rc (hy.block g hg)) 0 _ rfl
        rw [Nat.mul_one, Nat.add_zero] at this
        exact this)
      have hc := HCE.out wr HL.out.1
      clear rc
      have hK := HC.out.key k hk1
      have HKEY : Hid (∀ yy, Calls Try.prog 29 #[.string (str (C[k]).b)] yy fun e w' => e = .returned (kv (C[k]).b) ∧ Below yy.heap.size yy w') := fun yy => rkey_calls yy (C[k]).b hK
      have HH1 : Hid (∀ yy, Sl encS yy (.slice ad0 l.length cap0) l → Calls Try.prog 19 #[.slice ad0 l.length cap0, kv (C[k]).b] yy fun e w' => e = .returned (.bool (mem l (num (C[k]).b))) ∧ Below yy.heap.size yy w') := fun yy hh => rhas_calls yy _ l hh (C[k]).b hK
      have HH2 : Hid (∀ yy, Sl encS yy (.slice ad1 m.length cap1) m → Calls Try.prog 19 #[.slice ad1 m.length cap1, kv (C[k]).b] yy fun e w' => e = .returned (.bool (mem m (num (C[k]).b))) ∧ Below yy.heap.size yy w') := fun yy hh => rhas_calls yy _ m hh (C[k]).b hK
      have HE : Hid ((C.take k).map (fun c => (mem l c.v && !mem m c.v)) ++ [(mem l (num (C[k]).b) && !mem m (num (C[k]).b))] = (C.take (k + 1)).map fun c => (mem l c.v && !mem m c.v)) := (by rw [List.take_succ_eq_append_getElem (by omega), List.map_append, List.map_singleton, key_v hK] : _ = _)
      have HLL : Hid (((C.take k).map fun c => (mem l c.v && !mem m c.v)).length ≤ 400) := (by rw [List.length_map, List.length_take]; omega : _ ≤ _)
      generalize (C.take k).map (fun c => (mem l c.v && !mem m c.v)) = BS at *
      generalize mem l (num (C[k]).b) = x1 at *
      generalize mem m (num (C[k]).b) = x2 at *
      generalize (C[k]).b = K at *
      have hkey := HKEY.out wr
      cases x1 with
      | true =>
        go_wp2_with (first
          | (go_at_call 29; refine hkey.mono ?_; clear hkey; rintro e z1 ⟨rfl, b2⟩; have hhas := HH1.out z1 (Sl.called HS.out (bw.trans (b2.mono bw.size))); have c1 := HL.out.1.trans (b2.mono HL.out.1.size); have w1 := bw.trans (b2.mono bw.size))
          | (go_at_call 19; refine hhas.mono ?_; clear hhas; rintro e z2 ⟨rfl, b3⟩; have c2 := c1.trans (b3.mono c1.size); have w2 := w1.trans (b3.mono w1.size); have hc2 := HCE.out z2 c2; have hkey2 := HKEY.out z2)
          | (go_at_call 29; refine hkey2.mono ?_; clear hkey2; rintro e z3 ⟨rfl, b4⟩; have c3 := c2.trans (b4.mono c2.size); have w3 := w2.trans (b4.mono w2.size); have hhas2 := HH2.out z3 (Sl.called HS'.out w3))
          | (go_at_call 19; refine hhas2.mono ?_; clear hhas2; rintro e z4 ⟨rfl, b5⟩; have c4 := c3.trans (b5.mono c3.size))
          | (refine build_c1 rowB rfl _ rfl (true && !x2) _ rfl rfl ?_; intro z5 o5 b6 s6; have c5 := c4.trans (b6.mono c4.size); have o6 := ((((HL.out.2.below b2).below b3).below b4).below b5).below b6)
          | (at_builtin; refine append_slB rowB rfl _ _ rfl y.heap.size u6 BS [true && !x2] rfl o6 _ rfl _ o5.slB (by have := HLL.out; simp only [List.length_cons, List.length_nil]; omega) (by decide) c5.size ?_; intro v7 z7 o7 g7))
        go_roundg gg
        case measure => omega
        case rel =>
          have o8 : Own encB 4 z7 y.heap.size v7 ((C.take (k + 1)).map fun c => (mem l c.v && !mem m c.v)) := HE.out ▸ o7
          exact ⟨k + 1, by omega, congrArg (Value.int .i64) (by omega), ⟨c5.grown g7 c5.size (fun j hj => (o6.lt j hj).1), o8⟩⟩
      | false =>
        go_wp2_with (first
          | (go_at_call 29; refine hkey.mono ?_; clear hkey; rintro e z1 ⟨rfl, b2⟩; have hhas := HH1.out z1 (Sl.called HS.out (bw.trans (b2.mono bw.size))); have c1 := HL.out.1.trans (b2.mono HL.out.1.size); have w1 := bw.trans (b2.mono bw.size))
          | (go_at_call 19; refine hhas.mono ?_; clear hhas; rintro e z2 ⟨rfl, b3⟩; have c2 := c1.trans (b3.mono c1.size); have w2 := w1.trans (b3.mono w1.size); have hc2 := HCE.out z2 c2; have hkey2 := HKEY.out z2)
          | (go_at_call 29; refine hkey2.mono ?_; clear hkey2; rintro e z3 ⟨rfl, b4⟩; have c3 := c2.trans (b4.mono c2.size); have w3 := w2.trans (b4.mono w2.size); have hhas2 := HH2.out z3 (Sl.called HS'.out w3))
          | (go_at_call 19; refine hhas2.mono ?_; clear hhas2; rintro e z4 ⟨rfl, b5⟩; have c4 := c3.trans (b5.mono c3.size))
          | (refine build_c1 rowB rfl _ rfl (false && !x2) _ rfl rfl ?_; intro z5 o5 b6 s6; have c5 := c4.trans (b6.mono c4.size); have o6 := ((((HL.out.2.below b2).below b3).below b4).below b5).below b6)
          | (at_builtin; refine append_slB rowB rfl _ _ rfl y.heap.size u6 BS [false && !x2] rfl o6 _ rfl _ o5.slB (by have := HLL.out; simp only [List.length_cons, List.length_nil]; omega) (by decide) c5.size ?_; intro v7 z7 o7 g7))
        go_roundg gg
        case measure => omega
        case rel =>
          have o8 : Own encB 4 z7 y.heap.size v7 ((C.take (k + 1)).map fun c => (mem l c.v && !mem m c.v)) := HE.out ▸ o7
          exact ⟨k + 1, by omega, congrArg (Value.int .i64) (by omega), ⟨c5.grown g7 c5.size (fun j hj => (o6.lt j hj).1), o8⟩⟩
end Go.Proofs.Ytbdolhmeknlnpaa
