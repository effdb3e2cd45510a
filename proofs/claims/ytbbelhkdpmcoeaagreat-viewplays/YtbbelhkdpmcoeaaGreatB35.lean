import Derived.Test.YtbbelhkdpmcoeaaGreatB34
import Derived.Test.YtbbelhkdpmcoeaaGreatB10
/- The document's Clean. -/
namespace Go.Proofs.YtbbelhkdpmcoeaaGreat
set_option linter.unusedVariables false
set_option maxRecDepth 100000
open Go.RowKit

theorem cuts_of (a b : List Sp) (f : Bool → Bool → Bool) (hf : f false false = false) : Cuts (boundsP (a ++ b)) (fun x => f (mem a x) (mem b x)) := by
  have hr := bounds_rise (a ++ b)
  have hA : ∀ s ∈ a, s.bf.v < s.bt.v → s.bf ∈ boundsP (a ++ b) ∧ s.bt ∈ boundsP (a ++ b) := fun s hs h => ⟨(bounds_mem _ _).2 ⟨s, by simp [hs], h, .inl rfl⟩, (bounds_mem _ _).2 ⟨s, by simp [hs], h, .inr rfl⟩⟩
  have hB : ∀ s ∈ b, s.bf.v < s.bt.v → s.bf ∈ boundsP (a ++ b) ∧ s.bt ∈ boundsP (a ++ b) := fun s hs h => ⟨(bounds_mem _ _).2 ⟨s, by simp [hs], h, .inl rfl⟩, (bounds_mem _ _).2 ⟨s, by simp [hs], h, .inr rfl⟩⟩
  generalize boundsP (a ++ b) = C at *
  refine ⟨hr, fun i hi x h1 h2 => ?_, fun x hx h => ?_⟩
  · have hab : ∀ y ∈ C, y.v ≤ (C[i]).v ∨ (C[i + 1]).v ≤ y.v := fun y hy => by
      obtain ⟨j, hj, rfl⟩ := List.getElem_of_mem hy
      have hp := List.pairwise_iff_getElem.1 hr
      rcases Nat.lt_trichotomy j i with q | q | q
      · have := hp j i hj (by omega) q
        exact .inl (by omega)
      · subst q
        exact .inl (by omega)
      · rcases Nat.lt_or_ge (i + 1) j with q2 | q2
        · have := hp (i + 1) j (by omega) hj q2
          exact .inr (by omega)
        · have : j = i + 1 := by omega
          subst this
          exact .inr (by omega)
    show f (mem a x) (mem b x) = f (mem a _) (mem b _)
    rw [piece_same a C hA _ _ hab x h1 h2, piece_same b C hB _ _ hab x h1 h2]
  · show f (mem a x) (mem b x) = false
    rw [out_none a C hA x hx h, out_none b C hB x hx h, hf]
set_option maxRecDepth 100000 in
set_option maxHeartbeats 4000000 in
theorem rclean_calls (w : World) (u : Value) (l : List Sp) (h : Sl encS w u l) (hl : l.length ≤ 400) : Calls Tryz.prog 50 #[u] w fun e w' => ∃ v, e = .returned v ∧ ∃ out, Own encS 44 w' w.heap.size v out ∧ Is out (mem l) ∧ Below w.heap.size w w' := by
  have HS : Hid (Sl encS w u l) := h
  have HC : Hid (Cuts (boundsP l) (mem l)) := (by have := cuts_of l [] (fun p _ => p) rfl; rw [List.append_nil] at this; exact this : Cuts (boundsP l) (mem l))
  have HLn : Hid ((boundsP l).length ≤ 800) := (by have := bounds_len l; omega : _ ≤ _)
  have hbo := bounds_calls w u l h (by omega)
  clear hl
  generalize boundsP l = C at *
  obtain ⟨ad0, cap0, rfl, _⟩ := h
  go_enter Tryz.func50, Tryz.ntmps50
  go_wp2_with (go_at_call 72; refine hbo.mono ?_; clear hbo; rintro e y ⟨v1, rfl, s1, b1⟩; obtain ⟨ad, N, cap, rfl, HX⟩ := sl_open s1; clear s1)
  have hNN : N ≤ 800 := by have := HLn.out; have := HX.out.1; omega
  have hNc := HX.out.2.1
  obtain ⟨M, hM⟩ : ∃ M : Nat, M = N - 1 := ⟨_, rfl⟩
  have HMN : Hid (M = N - 1) := hM
  clear hM
  go_loopg [4, 5] M (fun gg v i wr => ∃ k : Nat, k + gg = M ∧ i = .int .i64 (k : Int) ∧ Hid (Below y.heap.size y wr ∧ Own encB 4 wr y.heap.size v ((C.take k).map fun c => mem l c.v)))
  case atStart => exact ⟨0, by omega, rfl, ⟨Below.refl _ _, Own.nil _ _ _ _⟩⟩
  case round =>
    obtain ⟨k, hkg, rfl, HL⟩ := hrel
    have bw := b1.trans (HL.out.1.mono b1.size)
    cases gk with
    | zero =>
      have hkN : k = M := by omega
      subst hkN
      have hz := HMN.out
      have hno : ¬ ((k : Int) + 1 < (N : Int)) := by omega
      have hw := where_calls wr (.slice ad N cap) C (Sl.called HX.out.2.2.1 HL.out.1) u4 ((C.take k).map fun c => mem l c.v) HL.out.2.slB (mem l) HC.out (by have := HX.out.1; omega) (by have := HX.out.1; rw [List.length_map, List.length_take]; omega) (fun i h h' => by rw [List.getElem_map, List.getElem_take])
      go_wp2_with (go_at_call 75; refine hw.mono ?_; clear hw; rintro e z ⟨v3, rfl, out, s3, i3, b3⟩)
      go_ret
      exact ⟨_, rfl, out, Go.Proofs.ownsRow_base_a s3 bw.size, i3, bw.trans (b3.mono bw.size)⟩
    | succ gg =>
      have hk1 : k + 1 < C.length := by have := HX.out.1; have := HMN.out; omega
      have i2 : (k : Int) < (N : Int) := by have := HMN.out; omega
      have i3 : (k : Int) + 1 < (N : Int) := by have := HMN.out; omega
      have i0 : (0 : Int) ≤ (k : Int) := by omega
      obtain ⟨g, off, rfl, hg, rc⟩ := HX.out.2.2.2 k (by omega)
      have hC : ∀ yy, Below y.heap.size y yy → yy.cell? ⟨g, off + k, none⟩ = some (.string (str (C[k]).b)) := fun yy hy => by
        have := (range_same' rc (hy.block g hg)) 0 _ rfl
        rw [Nat.mul_one, Nat.add_zero] at this
        exact this
      have HCE : Hid (∀ yy, Below y.heap.size y yy → yy.cell? ⟨g, off + k, none⟩ = some (.string (str (C[k]).b))) := hC
      have hc := hC wr HL.out.1
      clear rc hC
      have hK := HC.out.key k hk1
      have hkey := rkey_calls wr (C[k]).b hK
      have HE : Hid ((C.take k).map (fun c => mem l c.v) ++ [mem l (num (C[k]).b)] = (C.take (k + 1)).map fun c => mem l c.v) := (by rw [List.take_succ_eq_append_getElem (by omega), List.map_append, List.map_singleton, key_v hK] : _ = _)
      have HLL : Hid (((C.take k).map fun c => mem l c.v).length ≤ 800) := (by rw [List.length_map, List.length_take]; omega : _ ≤ _)
      generalize (C.take k).map (fun c => mem l c.v) = BS at *
      generalize (C[k]).b = K at *
      go_wp2_with (first
        | (go_at_call 74; refine hkey.mono ?_; clear hkey; rintro e z1 ⟨rfl, b2⟩; have hhas := rhas_calls z1 _ l (Sl.called HS.out (bw.trans (b2.mono bw.size))) K hK)
        | (go_at_call 73; refine hhas.mono ?_; clear hhas; rintro e z2 ⟨rfl, b3⟩)
        | (refine build_c1 rowB rfl _ rfl (mem l (num K)) _ rfl rfl ?_; intro z3 o3 b4 s4; have c1 := HL.out.1.trans (b2.mono HL.out.1.size); have c2 := c1.trans (b3.mono c1.size); have c3 := c2.trans (b4.mono c2.size); have o4 := ((HL.out.2.below b2).below b3).below b4)
        | (at_builtin; refine append_slB rowB rfl _ _ rfl y.heap.size u4 BS [mem l (num K)] rfl o4 _ rfl _ o3.slB (by have := HLL.out; simp only [List.length_cons, List.length_nil]; omega) (by decide) c3.size ?_; intro v5 z5 o5 g5))
      go_roundg gg
      case measure => omega
      case rel =>
        rw [HE.out] at o5
        exact ⟨k + 1, by omega, congrArg (Value.int .i64) (by omega), ⟨c3.grown g5 c3.size (fun j hj => (o4.lt j hj).1), o5⟩⟩
end Go.Proofs.YtbbelhkdpmcoeaaGreat
