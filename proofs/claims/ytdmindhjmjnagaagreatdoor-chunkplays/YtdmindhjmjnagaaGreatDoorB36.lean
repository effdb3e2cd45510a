import Derived.Test.YtdmindhjmjnagaaGreatDoorSi
import Derived.Test.YtdmindhjmjnagaaGreatDoorB35
import Derived.Test.YtdmindhjmjnagaaGreatDoorB13
import Derived.Test.YtdmindhjmjnagaaGreatDoorB01
import Derived.Test.YtdmindhjmjnagaaGreatDoorB23
import Derived.Test.YtdmindhjmjnagaaGreatDoorB14
import Derived.Test.YtdmindhjmjnagaaGreatDoorB32
import Derived.Test.YtdmindhjmjnagaaGreatDoorSi
/- X8G X9K -/
namespace Go.Proofs.YtdmindhjmjnagaaGreatDoor
set_option linter.unusedVariables false
set_option maxRecDepth 1000000
set_option maxHeartbeats 32000000
section
open Go.RowKit
theorem cuts_of (a b : List Sp) (f : Bool → Bool → Bool) (hf : f false false = false) : Cuts (boundsP (a ++ b)) (fun x => f (mem a x) (mem b x)) := by
 have hr := bounds_rise (a ++ b)
 have hA : ∀ s ∈ a, s.bf.v < s.bt.v → s.bf ∈ boundsP (a ++ b) ∧ s.bt ∈ boundsP (a ++ b) := fun s hs h => ⟨(bounds_mem _ _).2 ⟨s, by simp [hs], h, .inl rfl⟩, (bounds_mem _ _).2 ⟨s, by simp [hs], h, .inr rfl⟩⟩
 have hB : ∀ s ∈ b, s.bf.v < s.bt.v → s.bf ∈ boundsP (a ++ b) ∧ s.bt ∈ boundsP (a ++ b) := fun s hs h => ⟨(bounds_mem _ _).2 ⟨s, by simp [hs], h, .inl rfl⟩, (bounds_mem _ _).2 ⟨s, by simp [hs], h, .inr rfl⟩⟩
 generalize boundsP (a ++ b) = C at *
 refine ⟨hr, fun i hi x h1 h2 => ?_, fun x hx h => ?_⟩
 · have hab : ∀ y ∈ C, y.v ≤ (C[i]).v ∨ (C[i + 1]).v ≤ y.v := fun y hy => by
     obtain ⟨j, hj, rfl⟩ := List.getElem_of_mem hy
     have hp := List.pairwise_iff_getElem.1 hr
     rcases Nat.lt_trichotomy j i with q | q | q
     · have := hp j i hj (by omega) q
       exact .inl (by omega)
     · subst q
       exact .inl (by omega)
     · rcases Nat.lt_or_ge (i + 1) j with q2 | q2
       · have := hp (i + 1) j (by omega) hj q2
         exact .inr (by omega)
       · have : j = i + 1 := by omega
         subst this
         exact .inr (by omega)
   show f (mem a x) (mem b x) = f (mem a _) (mem b _)
   rw [piece_same a C hA _ _ hab x h1 h2, piece_same b C hB _ _ hab x h1 h2]
 · show f (mem a x) (mem b x) = false
   rw [out_none a C hA x hx h, out_none b C hB x hx h, hf]
theorem rclean_calls (w : World) (u : Value) (l : List Sp) (h : Sl encS w u l) (hl : l.length ≤ 400) : Calls Tryz.prog 75 #[u] w fun e w' => ∃ v, e = .returned v ∧ ∃ out, Own encS 56 w' w.heap.size v out ∧ Is out (mem l) ∧ Below w.heap.size w w' := by
 have HS : Hid (Sl encS w u l) := h
 have HC : Hid (Cuts (boundsP l) (mem l)) := (by have := cuts_of l [] (fun p _ => p) rfl; rw [List.append_nil] at this; exact this : Cuts (boundsP l) (mem l))
 have HLn : Hid ((boundsP l).length ≤ 800) := (by have := bounds_len l; omega : _ ≤ _)
 have hbo := bounds_calls w u l h (by omega)
 clear hl
 generalize boundsP l = C at *
 obtain ⟨ad0, cap0, rfl, _⟩ := h
 go_enter Tryz.func75, Tryz.ntmps75
 go_wp2_with (go_at_call 113; refine hbo.mono ?_; clear hbo; rintro e y ⟨v1, rfl, s1, b1⟩; obtain ⟨ad, N, cap, rfl, HX⟩ := sl_open s1; clear s1)
 have hNN : N ≤ 800 := by have := HLn.out; have := HX.out.1; omega
 have hNc := HX.out.2.1
 obtain ⟨M, hM⟩ : ∃ M : Nat, M = N - 1 := ⟨_, rfl⟩
 have HMN : Hid (M = N - 1) := hM
 clear hM
 go_loopg [4, 5] M (fun gg v i wr => ∃ k : Nat, k + gg = M ∧ i = .int .i64 (k : Int) ∧ Hid (Below y.heap.size y wr ∧ Own encB 4 wr y.heap.size v ((C.take k).map fun c => mem l c.v)))
 case atStart => exact ⟨0, by omega, rfl, ⟨Below.refl _ _, Own.nil _ _ _ _⟩⟩
 case round =>
  obtain ⟨k, hkg, rfl, HL⟩ := hrel
  have bw := b1.trans (HL.out.1.mono b1.size)
  cases gk with
  | zero =>
   have hkN : k = M := by omega
   subst hkN
   have hz := HMN.out
   have hno : ¬ ((k : Int) + 1 < (N : Int)) := by omega
   have hw := where_calls wr (.slice ad N cap) C (Sl.called HX.out.2.2.1 HL.out.1) u4 ((C.take k).map fun c => mem l c.v) HL.out.2.slB (mem l) HC.out (by have := HX.out.1; omega) (by have := HX.out.1; rw [List.length_map, List.length_take]; omega) (fun i h h' => by rw [List.getElem_map, List.getElem_take])
   go_wp2_with (go_at_call 115; refine hw.mono ?_; clear hw; rintro e z ⟨v3, rfl, out, s3, i3, b3⟩)
   go_ret
   exact ⟨_, rfl, out, Go.Proofs.ownsRow_base_a s3 bw.size, i3, bw.trans (b3.mono bw.size)⟩
  | succ gg =>
   have hk1 : k + 1 < C.length := by have := HX.out.1; have := HMN.out; omega
   have i2 : (k : Int) < (N : Int) := by have := HMN.out; omega
   have i3 : (k : Int) + 1 < (N : Int) := by have := HMN.out; omega
   have i0 : (0 : Int) ≤ (k : Int) := by omega
   obtain ⟨g, off, rfl, hg, rc⟩ := HX.out.2.2.2 k (by omega)
   have hC : ∀ yy, Below y.heap.size y yy → yy.cell? ⟨g, off + k, none⟩ = some (.string (str (C[k]).b)) := fun yy hy => by
    have := (range_same' rc (hy.block g hg)) 0 _ rfl
    rw [Nat.mul_one, Nat.add_zero] at this
    exact this
   have HCE : Hid (∀ yy, Below y.heap.size y yy → yy.cell? ⟨g, off + k, none⟩ = some (.string (str (C[k]).b))) := hC
   have hc := hC wr HL.out.1
   clear rc hC
   have hK := HC.out.key k hk1
   have hkey := rkey_calls wr (C[k]).b hK
   have HE : Hid ((C.take k).map (fun c => mem l c.v) ++ [mem l (num (C[k]).b)] = (C.take (k + 1)).map fun c => mem l c.v) := (by rw [List.take_succ_eq_append_getElem (by omega), List.map_append, List.map_singleton, key_v hK] : _ = _)
   have HLL : Hid (((C.take k).map fun c => mem l c.v).length ≤ 800) := (by rw [List.length_map, List.length_take]; omega : _ ≤ _)
   generalize (C.take k).map (fun c => mem l c.v) = BS at *
   generalize (C[k]).b = K at *
   go_wp2_with (first
    | (go_at_call 114; refine hkey.mono ?_; clear hkey; rintro e z1 ⟨rfl, b2⟩; have hhas := rhas_calls z1 _ l (Sl.called HS.out (bw.trans (b2.mono bw.size))) K hK)
    | (go_at_call 25; refine hhas.mono ?_; clear hhas; rintro e z2 ⟨rfl, b3⟩)
    | (refine build_c1 rowB rfl _ rfl (mem l (num K)) _ rfl rfl ?_; intro z3 o3 b4 s4; have c1 := HL.out.1.trans (b2.mono HL.out.1.size); have c2 := c1.trans (b3.mono c1.size); have c3 := c2.trans (b4.mono c2.size); have o4 := ((HL.out.2.below b2).below b3).below b4)
    | (at_builtin; refine append_slB rowB rfl _ _ rfl y.heap.size u4 BS [mem l (num K)] rfl o4 _ rfl _ o3.slB (by have := HLL.out; simp only [List.length_cons, List.length_nil]; omega) (by decide) c3.size ?_; intro v5 z5 o5 g5))
   go_roundg gg
   case measure => omega
   case rel =>
    rw [HE.out] at o5
    exact ⟨k + 1, by omega, congrArg (Value.int .i64) (by omega), ⟨c3.grown g5 c3.size (fun j hj => (o4.lt j hj).1), o5⟩⟩
end
section
open Go.RowKit
theorem sl_form {α : Type} {k : Nat} {E : Enc α k} {w : World} {v : Value} {l : List α} (h : Sl E w v l) : ∃ ad cap, v = .slice ad l.length cap ∧ l.length ≤ cap ∧ l.length ≤ maxLen := by
 obtain ⟨ad, cap, h1, h2, h3, _⟩ := h
 exact ⟨ad, cap, h1, h2, h3⟩
theorem range_has {w : World} {b : Nat} {K : List UInt8} (h : Has w b K) : w.rangeAt b 0 (bc K) := fun j v hv => by
 rw [Nat.zero_add, cell_of_row w b _ _ _ _ h.blk]
 simpa using hv
theorem less_kz (K L : Kz) : Op.bytesLess K.k L.k = decide (K.n < L.n) := by
 rw [less_num K.k L.k (by rw [K.h, L.h])]
 exact decide_eq_decide.2 (by show num K.k < num L.k ↔ (num K.k : Int) < (num L.k : Int); omega)
theorem lessK_calls (w : World) (K L : Kz) : Calls Tryz.prog 140 #[kv K.k, kv L.k] w fun e w' => e = .returned (.bool (decide (K.n < L.n))) ∧ Below w.heap.size w w' := by
 rw [← less_kz]
 exact rless_calls w K.k L.k K.h L.h
theorem hit_yes {α : Type} {key : α → Int} {l : List α} {x : Int} {k : Nat} (hp : posA key l x = k) (hk : k < l.length) : hitA key l x = decide (key l[k] = x) := by
 unfold hitA
 rw [hp, List.getElem?_eq_getElem hk]
 simp
theorem hit_no {α : Type} {key : α → Int} {l : List α} {x : Int} {k : Nat} (hp : posA key l x = k) (hk : l.length ≤ k) : hitA key l x = false := by
 unfold hitA
 rw [hp, List.getElem?_eq_none hk]
 simp
theorem kz_eq_n (K L : Kz) : decide (K = L) = decide (K.n = L.n) := decide_eq_decide.2 ⟨fun h => by rw [h], fun h => Kz.same h⟩
theorem find9_calls (w : World) (u : Value) (l : List Pa) (K : Kz) (h : Sl encP w u l) (hl : l.length ≤ 100000) :
    Calls Tryz.prog 103 #[u, kv K.k] w fun e w' => e = .returned (.tuple #[.int .i64 ((posA Pa.n l K.n : Nat) : Int), .bool (hitA Pa.n l K.n)]) ∧ Below w.heap.size w w' := by
 have hl' := h
 obtain ⟨ad, cap, rfl, hcap, hmax, _, _⟩ := hl'
 have HI : Hid (∀ i (hi : i < l.length), ∃ g off, ad = some ⟨g, off, none⟩ ∧ g < w.heap.size ∧ w.rangeAt g (off + i * 25) (encP.c l[i])) := fun i hi => SlB.at h i hi
 obtain ⟨N, hN⟩ : ∃ N : Nat, N = l.length := ⟨_, rfl⟩
 rw [← hN] at hcap hmax hl ⊢
 have HN : Hid (N = l.length) := hN
 have HST : Hid (Below w.heap.size w (w.alloc (.cells (bc K.k).toArray 54)) ∧ Has (w.alloc (.cells (bc K.k).toArray 54)) w.heap.size K.k ∧ ∀ j (hj : j < l.length), j < 0 → Pa.n l[j] < K.n) := ⟨(Below.refl _ w).alloc (Nat.le_refl _) _, Has.new w K.k K.h, fun j hj q => (by omega)⟩
 have hInfo : (Tryz.prog.info? 54).map (·.size) = some (bc K.k).length := by rw [bc_length, K.h]; exact Tryz.key_info
 have hInfo2 : ∀ p : Pa, (Tryz.prog.info? 54).map (·.size) = some (bc p.k).length := fun p => by rw [bc_length, p.h]; exact Tryz.key_info
 obtain ⟨P, hP⟩ : ∃ P : Nat, P = posA Pa.n l K.n := ⟨_, rfl⟩
 have HP : Hid (P = posA Pa.n l K.n) := hP
 rw [← hP]
 obtain ⟨T, hT⟩ : ∃ T : Bool, T = hitA Pa.n l K.n := ⟨_, rfl⟩
 have HT : Hid (T = hitA Pa.n l K.n) := hT
 rw [← hT]
 clear hN h hP hT
 go_enter Tryz.func103, Tryz.ntmps103
 go_wp2_with fail
 go_loopg [6] N (fun g i wr => ∃ k : Nat, k + g = N ∧ i = .int .i64 (k : Int) ∧ Hid (Below w.heap.size w wr ∧ Has wr w.heap.size K.k ∧ ∀ j (hj : j < l.length), j < k → Pa.n l[j] < K.n))
 case atStart => exact ⟨0, by omega, rfl, HST.out⟩
 case round =>
  obtain ⟨k, hkg, rfl, HE⟩ := hrel
  clear HST
  cases gk with
  | zero =>
   have hkN : k = N := by omega
   subst hkN
   have hp : posA Pa.n l K.n = k := posA_eq Pa.n l K.n k HE.out.2.2 (by have := HN.out; omega) (fun q => absurd q (by have := HN.out; omega))
   have hh := hit_no (key := Pa.n) hp (by have := HN.out; omega)
   have HR : Hid (P = k ∧ T = false) := ⟨HP.out.trans hp, HT.out.trans hh⟩
   have HB : Hid (Below w.heap.size w wr) := HE.out.1
   clear hp hh HE HI
   go_wp2_with fail
   go_quiet (fail)
   go_wp2_with fail
   go_ret2
   obtain ⟨h1, h2⟩ := HR.out
   exact ⟨by rw [h1, h2]; rfl, below_drewN HB.out _⟩
  | succ g =>
   have hlt : k < N := by omega
   have hltI : (k : Int) < (N : Int) := by omega
   have hk0 : (0 : Int) ≤ (k : Int) := by omega
   have hkl : k < l.length := by rw [← HN.out]; exact hlt
   obtain ⟨g0, off, rfl, hg0, hat⟩ := HI.out k hkl
   have HR : Hid (wr.rangeAt g0 (off + k * 25) (bc (l[k]).k) ∧ wr.rangeAt w.heap.size 0 (bc K.k)) := ⟨range_kP (range_same' hat (HE.out.1.block g0 hg0)), range_has HE.out.2.1⟩
   have HSTEP : Hid (Pa.n l[k] < K.n → ∀ j (hj : j < l.length), j < k + 1 → Pa.n l[j] < K.n) := fun q j hj hjk => by
    rcases Nat.lt_or_ge j k with z | z
    · exact HE.out.2.2 j hj z
    · have : j = k := by omega
      subst this
      exact q
   have HSTOP : Hid (¬ Pa.n l[k] < K.n → posA Pa.n l K.n = k ∧ hitA Pa.n l K.n = decide ((l[k]).kz = K)) := fun q => by
    have hp : posA Pa.n l K.n = k := posA_eq Pa.n l K.n k HE.out.2.2 (by omega) (fun _ => q)
    exact ⟨hp, by rw [hit_yes hp hkl, kz_eq_n]; rfl⟩
   have HB : Hid (Below w.heap.size w wr ∧ Has wr w.heap.size K.k) := ⟨HE.out.1, HE.out.2.1⟩
   have HAT : Hid (w.rangeAt g0 (off + k * 25) (bc (l[k]).k)) := range_kP hat
   have hn : Pa.n l[k] = (l[k]).kz.n := rfl
   rw [hn] at HSTEP HSTOP
   generalize l[k] = p at *
   clear hat hkl HE HI hn
   go_upto_region 3 with fail
   refine wp_region_noPanic ?_
   refine wp_region_held_drew (S := (fun yy => yy.rangeAt g0 (off + k * 25) (bc p.k) ∧ yy.rangeAt w.heap.size 0 (bc K.k))) (by kernel_rfl) HR.out (fun hh => ?_)
   refine tl ?_ 0 rfl hh ⟨by rfl, ?_⟩ ?_
   case refine_2 => (intro w hSw; go_simp; try with_reducible rfl)
   (try simp only [gs])
   refine tl ?_ 1 rfl hh ⟨by rfl, ?_⟩ ?_
   case refine_2 => (intro w hSw; go_simp; try with_reducible rfl)
   (try simp only [gs])
   refine tl ?_ 2 rfl hh ⟨by rfl, ?_⟩ ?_
   case refine_2 => (intro w hSw; go_simp; try with_reducible rfl)
   (try simp only [gs])
   refine tl ?_ 3 rfl hh ⟨by rfl, ?_⟩ ?_
   case refine_2 => (intro w hSw; go_simp; try with_reducible rfl)
   (try simp only [gs])
   refine tk 4 rfl hh (yieldsIf_load_mid (by rfl) _ _ rfl _ _ rfl _ _ (fun _ h => h.1) Tryz.underlying54 rfl (hInfo2 p)) ?_
   (try simp only [gs])
   refine tk 5 rfl hh (yieldsIf_load_mid (by rfl) _ _ rfl _ _ rfl _ _ (fun _ h => h.2) Tryz.underlying54 rfl hInfo) ?_
   (try simp only [gs])
   have HB0 : Hid (Below w.heap.size w wr.drew ∧ Has wr.drew w.heap.size K.k ∧ wr.drew.rangeAt g0 (off + k * 25) (bc p.k)) := ⟨HB.out.1.drew, ⟨K.h, HB.out.2.blk⟩, HR.out.1⟩
   have hLS := lessK_calls wr.drew p.kz K
   clear HB HR
   generalize wr.drew = y0 at *
   refine wpAnyH_ready (rs := [6]) (by kernel_rfl) (by simp) (AllReadyH.cons rfl (fun K' hK => ?_) AllReadyH.nil)
   rw [if_pos (by rfl)]
   (try simp only [gs])
   go_simp
   refine hLS.mono ?_
   rintro e y1 ⟨rfl, c1⟩
   have hg1 : g0 < y0.heap.size := Nat.lt_of_lt_of_le hg0 HB0.out.1.size
   have HB1 : Hid (Below w.heap.size w y1 ∧ Has y1 w.heap.size K.k ∧ y1.rangeAt g0 (off + k * 25) (bc p.k)) := ⟨HB0.out.1.trans (c1.mono HB0.out.1.size), HB0.out.2.1.below c1 HB0.out.2.1.lt, range_same' HB0.out.2.2 (c1.block g0 hg1)⟩
   refine hK.out _ _ ⟨HB1.out.2.2, range_has HB1.out.2.1⟩ (fun hh => ?_)
   clear hK K' c1 HB0 hg1 hLS
   (try simp only [gs])
   refine tl ?_ 7 rfl hh ⟨by rfl, ?_⟩ ?_
   case refine_2 => (intro w hSw; go_simp; try with_reducible rfl)
   (try simp only [gs])
   refine wpAnyH_done (by kernel_rfl) ?_ _
   refine NoPanic.normal ?_
   by_cases hle : p.kz.n < K.n
   · have hd : decide (p.kz.n < K.n) = true := decide_eq_true hle
     have HS2 : Hid (∀ j (hj : j < l.length), j < k + 1 → Pa.n l[j] < K.n) := HSTEP.out hle
     clear hle HSTEP HSTOP
     rw [hd]
     go_wp2_with fail
     go_roundg g
     case measure => omega
     case rel => exact ⟨k + 1, by omega, congrArg (Value.int .i64) (by omega), (show Below w.heap.size w y1 ∧ Has y1 w.heap.size K.k ∧ ∀ j (hj : j < l.length), j < k + 1 → Pa.n l[j] < K.n from ⟨HB1.out.1, HB1.out.2.1, HS2.out⟩)⟩
   · have hd : decide (p.kz.n < K.n) = false := decide_eq_false hle
     obtain ⟨hp, hh⟩ := HSTOP.out hle
     have HR2 : Hid (P = k ∧ T = decide (p.kz = K)) := ⟨HP.out.trans hp, HT.out.trans hh⟩
     have HS3 : Hid (y1.rangeAt g0 (off + k * 25) (bc p.k) ∧ y1.rangeAt w.heap.size 0 (bc K.k)) := ⟨HB1.out.2.2, range_has HB1.out.2.1⟩
     clear hle HSTEP HSTOP hp hh
     rw [hd]
     go_upto_region 6 with fail
     refine wp_region_noPanic ?_
     refine wp_region_held_drew (S := (fun yy => yy.rangeAt g0 (off + k * 25) (bc p.k) ∧ yy.rangeAt w.heap.size 0 (bc K.k))) (by kernel_rfl) HS3.out (fun hh => ?_)
     refine tl ?_ 0 rfl hh ⟨by rfl, ?_⟩ ?_
     case refine_2 => (intro w hSw; go_simp; try with_reducible rfl)
     (try simp only [gs])
     refine tl ?_ 1 rfl hh ⟨by rfl, ?_⟩ ?_
     case refine_2 => (intro w hSw; go_simp; try with_reducible rfl)
     (try simp only [gs])
     refine tl ?_ 2 rfl hh ⟨by rfl, ?_⟩ ?_
     case refine_2 => (intro w hSw; go_simp; try with_reducible rfl)
     (try simp only [gs])
     refine tl ?_ 3 rfl hh ⟨by rfl, ?_⟩ ?_
     case refine_2 => (intro w hSw; go_simp; try with_reducible rfl)
     (try simp only [gs])
     refine tl ?_ 4 rfl hh ⟨by rfl, ?_⟩ ?_
     case refine_2 => (intro w hSw; go_simp; try with_reducible rfl)
     (try simp only [gs])
     refine tl ?_ 5 rfl hh ⟨by rfl, ?_⟩ ?_
     case refine_2 => (intro w hSw; go_simp; try with_reducible rfl)
     (try simp only [gs])
     refine tl ?_ 6 rfl hh ⟨by rfl, ?_⟩ ?_
     case refine_2 => (intro w hSw; go_simp; try with_reducible rfl)
     (try simp only [gs])
     refine tl ?_ 7 rfl hh ⟨by rfl, ?_⟩ ?_
     case refine_2 => (intro w hSw; go_simp; try with_reducible rfl)
     (try simp only [gs])
     refine tl ?_ 8 rfl hh ⟨by rfl, ?_⟩ ?_
     case refine_2 => (intro w hSw; go_simp; try with_reducible rfl)
     (try simp only [gs])
     refine tl ?_ 9 rfl hh ⟨by rfl, ?_⟩ ?_
     case refine_2 => (intro w hSw; go_simp; try with_reducible rfl)
     (try simp only [gs])
     refine tk 10 rfl hh (yieldsIf_load_mid (by rfl) _ _ rfl _ _ rfl _ _ (fun _ h => h.1) Tryz.underlying54 rfl (hInfo2 p)) ?_
     (try simp only [gs])
     refine tk 11 rfl hh (yieldsIf_load_mid (by rfl) _ _ rfl _ _ rfl _ _ (fun _ h => h.2) Tryz.underlying54 rfl hInfo) ?_
     (try simp only [gs])
     refine wpAnyH_take (i := 12) (v := .bool (decide (p.kz = K))) rfl (by kernel_rfl) (by kernel_rfl) (by kernel_rfl) (fun _ _ _ h => h) (Or.inl ⟨by rfl, fun w _ => exec_eq_K _ _ _ rfl p.kz K rfl rfl w⟩) hh ?_
     (try simp only [gs])
     refine tl ?_ 13 rfl hh ⟨by rfl, ?_⟩ ?_
     case refine_2 => (intro w hSw; go_simp; try with_reducible rfl)
     (try simp only [gs])
     refine tl ?_ 14 rfl hh ⟨by rfl, ?_⟩ ?_
     case refine_2 => (intro w hSw; go_simp; try with_reducible rfl)
     (try simp only [gs])
     refine tl ?_ 15 rfl hh ⟨by rfl, ?_⟩ ?_
     case refine_2 => (intro w hSw; go_simp; try with_reducible rfl)
     (try simp only [gs])
     refine wpAnyH_done (by kernel_rfl) ?_ _
     refine NoPanic.normal ?_
     go_wp2_with fail
     go_ret2
     obtain ⟨h1, h2⟩ := HR2.out
     exact ⟨by rw [h1, h2]; rfl, HB1.out.1.drew⟩
theorem found9 {l : List Pa} (ha : Asc Pa.n l) (K : Kz) : (hitA Pa.n l K.n = true → ∃ h : posA Pa.n l K.n < l.length, look Pa.n l K.n = some l[posA Pa.n l K.n]) ∧ (hitA Pa.n l K.n = false → look Pa.n l K.n = none) := by
 have h := hitA_look Pa.n K.n ha
 refine ⟨fun q => ?_, fun q => ?_⟩
 · rw [if_pos q] at h
   have hlt : posA Pa.n l K.n < l.length := by
    unfold hitA at q
    rw [decide_eq_true_eq] at q
    cases e : l[posA Pa.n l K.n]? with
    | none => rw [e] at q; cases q
    | some y => exact (List.getElem?_eq_some_iff.1 e).1
   exact ⟨hlt, by rw [h, List.getElem?_eq_getElem hlt]⟩
 · rw [h, if_neg (by rw [q]; simp)]
def gotV9 (l : List Pa) (K : Kz) : List UInt8 := ((look Pa.n l K.n).map Pa.v).getD []
def gotB (l : List Pa) (K : Kz) : Bool := (look Pa.n l K.n).isSome
theorem get9_calls (w : World) (u : Value) (l : List Pa) (K : Kz) (h : Sl encP w u l) (ha : Asc Pa.n l) (hl : l.length ≤ 100000) :
    Calls Tryz.prog 77 #[u, kv K.k] w fun e w' => e = .returned (.tuple #[.string (str (gotV9 l K)), .bool (gotB l K)]) ∧ Below w.heap.size w w' := by
 have hl' := h
 obtain ⟨ad, cap, rfl, hcap, hmax, _, _⟩ := hl'
 have hK1 : Has (w.alloc (.cells (bc K.k).toArray 54)) w.heap.size K.k := Has.new w K.k K.h
 have b1 : Below w.heap.size w (w.alloc (.cells (bc K.k).toArray 54)) := (Below.refl _ w).alloc (Nat.le_refl _) _
 have HF : Hid (Calls Tryz.prog 103 #[.slice ad l.length cap, kv K.k] (w.alloc (.cells (bc K.k).toArray 54)) fun e w' => e = .returned (.tuple #[.int .i64 ((posA Pa.n l K.n : Nat) : Int), .bool (hitA Pa.n l K.n)]) ∧ Below (w.alloc (.cells (bc K.k).toArray 54)).heap.size (w.alloc (.cells (bc K.k).toArray 54)) w') := find9_calls _ _ l K (h.called b1) hl
 have HB1 : Hid (Below w.heap.size w (w.alloc (.cells (bc K.k).toArray 54))) := b1
 obtain ⟨f1, f2⟩ := found9 ha K
 cases hh : hitA Pa.n l K.n with
 | false =>
  have HG : Hid (gotV9 l K = [] ∧ gotB l K = false) := by
   unfold gotV9 gotB
   rw [f2 hh]
   exact ⟨rfl, rfl⟩
  rw [hh] at HF
  clear f1 f2 hh h b1
  go_enter Tryz.func77, Tryz.ntmps77
  go_wp2_with (first
   | (refine load_key _ rfl w.heap.size rfl rfl _ hK1 ?_)
   | (go_at_call 103; refine HF.out.mono ?_; clear HF; rintro e w1 ⟨rfl, b2⟩))
  go_ret2
  obtain ⟨h1, h2⟩ := HG.out
  exact ⟨by rw [h1, h2]; rfl, below_called HB1.out b2 (Nat.le_refl _)⟩
 | true =>
  obtain ⟨hlt, hlook⟩ := f1 hh
  obtain ⟨g0, off, rfl, hg0, hat⟩ := SlB.at h _ hlt
  have HG : Hid (gotV9 l K = (l[posA Pa.n l K.n]).v ∧ gotB l K = true) := by
   unfold gotV9 gotB
   rw [hlook]
   exact ⟨rfl, rfl⟩
  rw [hh] at HF
  have cv := range_vP hat
  have hltI : ((posA Pa.n l K.n : Nat) : Int) < ((l.length : Nat) : Int) := by omega
  have hp0 : (0 : Int) ≤ ((posA Pa.n l K.n : Nat) : Int) := by omega
  generalize l[posA Pa.n l K.n] = p at *
  generalize posA Pa.n l K.n = P at *
  clear f1 f2 hh h b1 hat hlook
  go_enter Tryz.func77, Tryz.ntmps77
  go_wp2_with (first
   | (refine load_key _ rfl w.heap.size rfl rfl _ hK1 ?_)
   | (go_at_call 103; refine HF.out.mono ?_; clear HF; rintro e w1 ⟨rfl, b2⟩
      have B2 := below_called HB1.out b2 (Nat.le_refl _)
      have cv2 : w1.cell? ⟨g0, off + P * 25 + 24, none⟩ = some (.string (str p.v)) := (B2.cell (p := ⟨g0, off + P * 25 + 24, none⟩) hg0).trans cv
      clear cv))
  go_ret2
  obtain ⟨h1, h2⟩ := HG.out
  exact ⟨by rw [h1, h2]; rfl, B2⟩
theorem put9_calls (w : World) (u : Value) (l : List Pa) (p : Pa) (h : Sl encP w u l) (hl : l.length ≤ 10000) :
    Calls Tryz.prog 64 #[u, .agg (encP.c p).toArray] w fun e w' => ∃ v, e = .returned v ∧ Own encP 62 w' w.heap.size v (putA Pa.n l p) ∧ Below w.heap.size w w' := by
 have hl' := h
 obtain ⟨ad, cap, rfl, hcap, hmax, hn0, hn1⟩ := hl'
 clear hn0 hn1
 have hK1 : InB encP 62 (w.alloc (.cells (encP.c p).toArray 62)) w.heap.size p := InB.new encP _ w p _ rfl
 have b1 : Below w.heap.size w (w.alloc (.cells (encP.c p).toArray 62)) := (Below.refl _ w).alloc (Nat.le_refl _) _
 have HF : Hid (Calls Tryz.prog 103 #[.slice ad l.length cap, kv p.k] (w.alloc (.cells (encP.c p).toArray 62)) fun e w' => e = .returned (.tuple #[.int .i64 ((posA Pa.n l p.kz.n : Nat) : Int), .bool (hitA Pa.n l p.kz.n)]) ∧ Below (w.alloc (.cells (encP.c p).toArray 62)).heap.size (w.alloc (.cells (encP.c p).toArray 62)) w') := find9_calls _ _ l p.kz (h.called b1) (by omega)
 have HB1 : Hid (Below w.heap.size w (w.alloc (.cells (encP.c p).toArray 62))) := b1
 have hpos : posA Pa.n l p.kz.n ≤ l.length := posA_le Pa.n l _
 have HPA : Hid (putA Pa.n l p = l.take (posA Pa.n l p.kz.n) ++ p :: l.drop (posA Pa.n l p.kz.n + if hitA Pa.n l p.kz.n then 1 else 0)) := putA_at Pa.n l p
 have T0 := h.take (posA Pa.n l p.kz.n) hpos
 have hHit : hitA Pa.n l p.kz.n = true → posA Pa.n l p.kz.n < l.length := fun q => by
  unfold hitA at q
  rw [decide_eq_true_eq] at q
  cases e : l[posA Pa.n l p.kz.n]? with
  | none => rw [e] at q; cases q
  | some y => exact (List.getElem?_eq_some_iff.1 e).1
 have HD : Hid (∀ m, m ≤ l.length → SlB encP w w.heap.size (.slice (if cap = m then ad else ad.map (·.add (m * 25))) (l.length - m) (cap - m)) (l.drop m)) := fun m hm => h.drop m hm
 have HT0 : Hid (SlB encP w w.heap.size (.slice ad (posA Pa.n l p.kz.n) cap) (l.take (posA Pa.n l p.kz.n))) := T0
 have HLT : Hid ((l.take (posA Pa.n l p.kz.n)).length = posA Pa.n l p.kz.n) := (show _ = _ by simp; omega)
 generalize posA Pa.n l p.kz.n = P at *
 cases hh : hitA Pa.n l p.kz.n with
 | false =>
  rw [hh] at HF HPA
  have hP1 : P ≤ l.length := hpos
  have D0 := HD.out (P) hP1
  have HPA2 : Hid (putA Pa.n l p = l.take P ++ p :: l.drop (P)) := (show _ = _ by rw [HPA.out]; rfl)
  have HLD : Hid ((l.drop (P)).length = l.length - (P)) := List.length_drop
  clear h T0
  generalize hN : l.length = N at *
  have hPI : (P : Int) ≤ (cap : Int) := by omega
  have hP0 : (0 : Int) ≤ (P : Int) := by omega
  have hPN : ((P : Nat) : Int) ≤ (N : Int) := by omega
  have hPN0 : (P : Int) ≤ (N : Int) := by omega
  have HD0 : Hid (SlB encP w w.heap.size (.slice (if cap = P then ad else ad.map (·.add ((P) * 25))) (N - (P)) (cap - (P))) (l.drop (P))) := D0
  clear HD hh hHit HPA b1 D0
  generalize l.take P = I at *
  generalize l.drop (P) = J at *
  have hIl : I.length = P := HLT.out
  have hJl : J.length = N - (P) := HLD.out
  have HLL : Hid (I.length = P ∧ J.length = N - (P)) := ⟨hIl, hJl⟩
  clear hIl hJl HLT HLD hN
  go_enter Tryz.func64, Tryz.ntmps64
  go_upto_region 2 with (first
   | (refine load_part _ rfl w.heap.size 0 rfl rfl _ p.h (range_kP hK1.range) ?_)
   | (go_at_call 103; refine HF.out.mono ?_; clear HF; rintro e w1 ⟨rfl, b2⟩))
  have B1 : Below w.heap.size w w1 := below_called HB1.out b2 (Nat.le_refl _)
  have hK2 := hK1.below b2 hK1.lt
  have T1 : SlB encP w1 w.heap.size (.slice ad P cap) I := HT0.out.below B1
  have hw1 : w.heap.size < w1.heap.size := hK2.lt
  have b3 : Below w1.heap.size w1 (w1.alloc (.cells #[] 62)) := (Below.refl _ _).alloc (Nat.le_refl _) _
  have oE : Own encP 62 (w1.alloc (.cells #[] 62)) w1.heap.size (.slice (some ⟨w1.heap.size, 0, none⟩) 0 0) [] := World.ownsRow_made (base := w1.heap.size) (e := 62) (size := 25) w1 #[] 0 (Nat.le_refl _) (by unfold maxLen; omega) rfl
  have HX : Hid (Below w.heap.size w (w1.alloc (.cells #[] 62)) ∧ InB encP 62 (w1.alloc (.cells #[] 62)) w.heap.size p ∧ SlB encP (w1.alloc (.cells #[] 62)) w.heap.size (.slice ad P cap) I ∧ Own encP 62 (w1.alloc (.cells #[] 62)) w1.heap.size (.slice (some ⟨w1.heap.size, 0, none⟩) 0 0) []) := ⟨B1.trans (b3.mono B1.size), hK2.below b3 hK2.lt, T1.below (b3.mono B1.size), oE⟩
  have hs2 : w1.heap.size ≤ (w1.alloc (.cells #[] 62)).heap.size := b3.size
  clear B1 b2 b3 hK1 hK2 T1 HT0 oE
  go_upto_region 3 with (first
   | (at_builtin; refine append_sl rowP rfl _ _ rfl w1.heap.size (.slice (some ⟨w1.heap.size, 0, none⟩) 0 0) [] I rfl HX.out.2.2.2 _ rfl w.heap.size HX.out.2.2.1 (by have := HLL.out.1; simp only [List.length_nil]; omega) (by decide) hs2 ?_; intro v3 w3 o3 gr3))
  have B3 : Below w.heap.size w w3 := HX.out.1.grown gr3 HX.out.1.size (fun j hj => by have e : w1.heap.size = j := (by simpa [Value.ownBlock] using hj); omega)
  have hK3 : InB encP 62 w3 w.heap.size p := HX.out.2.1.same (gr3.block _ HX.out.2.1.lt (fun e => by have e2 : w.heap.size = w1.heap.size := (by simpa [Value.ownBlock] using e); omega))
  have hw3 : w1.heap.size ≤ w3.heap.size := Nat.le_trans hs2 gr3.size
  simp only [List.nil_append] at o3
  have hlt3 := o3.lt
  clear HX gr3 hs2
  generalize w1.heap.size = q at *
  go_upto_region 4 with (first
   | (refine load_el elP _ rfl w.heap.size 0 rfl rfl p hK3.range ?_)
   | (refine build_el1 rowP rfl _ rfl p rfl (by decide) ?_; intro x4 o4 b4 s4 h4
      have hs4 := o3.below b4
      have hB4 : Below w.heap.size w x4 := B3.trans (b4.mono B3.size))
   | (at_builtin; refine append_one rowP rfl _ _ rfl q _ I rfl hs4 w3.heap.size p rfl (0, 0) _ h4 (by have := HLL.out.1; omega) (by decide) (by omega) ?_
      intro g cap5 w5 o5 gr5 nr5 lt5))
  have B5 : Below w.heap.size w w5 := hB4.grown gr5 hB4.size (fun j hj => by have := (hlt3 j hj).1; omega)
  have D5 : SlB encP w5 w.heap.size (.slice (if cap = P then ad else ad.map (·.add ((P) * 25))) (N - (P)) (cap - (P))) J := HD0.out.below B5
  have HO5 : Hid (Own encP 62 w5 q (.slice (some ⟨g, 0, none⟩) (I.length + 1) cap5) (I ++ [p])) := o5
  have hg5 : q ≤ g := (o5.lt g rfl).1
  have hq5 : q ≤ w5.heap.size := Nat.le_trans hg5 (Nat.le_of_lt lt5)
  obtain ⟨aq, haq⟩ : ∃ aq, (if cap = P then ad else ad.map (·.add ((P) * 25))) = aq := ⟨_, rfl⟩
  rw [haq] at D5
  clear o5 gr5 nr5 lt5 o3 o4 b4 s4 h4 hs4 hB4 hlt3 HD0 hK3 B3
  go_wp2_with (first
   | (at_builtin; refine append_sl rowP rfl _ _ rfl q (.slice (some ⟨g, 0, none⟩) (I.length + 1) cap5) (I ++ [p]) J rfl HO5.out _ rfl w.heap.size D5 (by have := HLL.out; simp only [List.length_append, List.length_cons, List.length_nil]; omega) (by decide) hq5 ?_; intro v7 w7 o7 gr7))
  go_ret
  refine ⟨v7, rfl, ?_, B5.grown gr7 B5.size (fun j hj => by have e : g = j := (by simpa [Value.ownBlock] using hj); omega)⟩
  rw [HPA2.out]
  have : I ++ [p] ++ J = I ++ p :: J := by simp
  rw [this] at o7
  exact o7.lower (by omega)
 | true =>
  rw [hh] at HF HPA
  have hP1 : P + 1 ≤ l.length := hHit hh
  have D0 := HD.out (P + 1) hP1
  have HPA2 : Hid (putA Pa.n l p = l.take P ++ p :: l.drop (P + 1)) := (show _ = _ by rw [HPA.out]; rfl)
  have HLD : Hid ((l.drop (P + 1)).length = l.length - (P + 1)) := List.length_drop
  clear h T0
  generalize hN : l.length = N at *
  have hPI : (P : Int) ≤ (cap : Int) := by omega
  have hP0 : (0 : Int) ≤ (P : Int) := by omega
  have hPN : ((P + 1 : Nat) : Int) ≤ (N : Int) := by omega
  have hPN0 : (P : Int) ≤ (N : Int) := by omega
  have HD0 : Hid (SlB encP w w.heap.size (.slice (if cap = P + 1 then ad else ad.map (·.add ((P + 1) * 25))) (N - (P + 1)) (cap - (P + 1))) (l.drop (P + 1))) := D0
  clear HD hh hHit HPA b1 D0
  generalize l.take P = I at *
  generalize l.drop (P + 1) = J at *
  have hIl : I.length = P := HLT.out
  have hJl : J.length = N - (P + 1) := HLD.out
  have HLL : Hid (I.length = P ∧ J.length = N - (P + 1)) := ⟨hIl, hJl⟩
  clear hIl hJl HLT HLD hN
  go_enter Tryz.func64, Tryz.ntmps64
  go_upto_region 2 with (first
   | (refine load_part _ rfl w.heap.size 0 rfl rfl _ p.h (range_kP hK1.range) ?_)
   | (go_at_call 103; refine HF.out.mono ?_; clear HF; rintro e w1 ⟨rfl, b2⟩))
  have B1 : Below w.heap.size w w1 := below_called HB1.out b2 (Nat.le_refl _)
  have hK2 := hK1.below b2 hK1.lt
  have T1 : SlB encP w1 w.heap.size (.slice ad P cap) I := HT0.out.below B1
  have hw1 : w.heap.size < w1.heap.size := hK2.lt
  have b3 : Below w1.heap.size w1 (w1.alloc (.cells #[] 62)) := (Below.refl _ _).alloc (Nat.le_refl _) _
  have oE : Own encP 62 (w1.alloc (.cells #[] 62)) w1.heap.size (.slice (some ⟨w1.heap.size, 0, none⟩) 0 0) [] := World.ownsRow_made (base := w1.heap.size) (e := 62) (size := 25) w1 #[] 0 (Nat.le_refl _) (by unfold maxLen; omega) rfl
  have HX : Hid (Below w.heap.size w (w1.alloc (.cells #[] 62)) ∧ InB encP 62 (w1.alloc (.cells #[] 62)) w.heap.size p ∧ SlB encP (w1.alloc (.cells #[] 62)) w.heap.size (.slice ad P cap) I ∧ Own encP 62 (w1.alloc (.cells #[] 62)) w1.heap.size (.slice (some ⟨w1.heap.size, 0, none⟩) 0 0) []) := ⟨B1.trans (b3.mono B1.size), hK2.below b3 hK2.lt, T1.below (b3.mono B1.size), oE⟩
  have hs2 : w1.heap.size ≤ (w1.alloc (.cells #[] 62)).heap.size := b3.size
  clear B1 b2 b3 hK1 hK2 T1 HT0 oE
  go_upto_region 3 with (first
   | (at_builtin; refine append_sl rowP rfl _ _ rfl w1.heap.size (.slice (some ⟨w1.heap.size, 0, none⟩) 0 0) [] I rfl HX.out.2.2.2 _ rfl w.heap.size HX.out.2.2.1 (by have := HLL.out.1; simp only [List.length_nil]; omega) (by decide) hs2 ?_; intro v3 w3 o3 gr3))
  have B3 : Below w.heap.size w w3 := HX.out.1.grown gr3 HX.out.1.size (fun j hj => by have e : w1.heap.size = j := (by simpa [Value.ownBlock] using hj); omega)
  have hK3 : InB encP 62 w3 w.heap.size p := HX.out.2.1.same (gr3.block _ HX.out.2.1.lt (fun e => by have e2 : w.heap.size = w1.heap.size := (by simpa [Value.ownBlock] using e); omega))
  have hw3 : w1.heap.size ≤ w3.heap.size := Nat.le_trans hs2 gr3.size
  simp only [List.nil_append] at o3
  have hlt3 := o3.lt
  clear HX gr3 hs2
  generalize w1.heap.size = q at *
  go_upto_region 4 with (first
   | (refine load_el elP _ rfl w.heap.size 0 rfl rfl p hK3.range ?_)
   | (refine build_el1 rowP rfl _ rfl p rfl (by decide) ?_; intro x4 o4 b4 s4 h4
      have hs4 := o3.below b4
      have hB4 : Below w.heap.size w x4 := B3.trans (b4.mono B3.size))
   | (at_builtin; refine append_one rowP rfl _ _ rfl q _ I rfl hs4 w3.heap.size p rfl (0, 0) _ h4 (by have := HLL.out.1; omega) (by decide) (by omega) ?_
      intro g cap5 w5 o5 gr5 nr5 lt5))
  have B5 : Below w.heap.size w w5 := hB4.grown gr5 hB4.size (fun j hj => by have := (hlt3 j hj).1; omega)
  have D5 : SlB encP w5 w.heap.size (.slice (if cap = P + 1 then ad else ad.map (·.add ((P + 1) * 25))) (N - (P + 1)) (cap - (P + 1))) J := HD0.out.below B5
  have HO5 : Hid (Own encP 62 w5 q (.slice (some ⟨g, 0, none⟩) (I.length + 1) cap5) (I ++ [p])) := o5
  have hg5 : q ≤ g := (o5.lt g rfl).1
  have hq5 : q ≤ w5.heap.size := Nat.le_trans hg5 (Nat.le_of_lt lt5)
  obtain ⟨aq, haq⟩ : ∃ aq, (if cap = P + 1 then ad else ad.map (·.add ((P + 1) * 25))) = aq := ⟨_, rfl⟩
  rw [haq] at D5
  clear o5 gr5 nr5 lt5 o3 o4 b4 s4 h4 hs4 hB4 hlt3 HD0 hK3 B3
  go_wp2_with (first
   | (at_builtin; refine append_sl rowP rfl _ _ rfl q (.slice (some ⟨g, 0, none⟩) (I.length + 1) cap5) (I ++ [p]) J rfl HO5.out _ rfl w.heap.size D5 (by have := HLL.out; simp only [List.length_append, List.length_cons, List.length_nil]; omega) (by decide) hq5 ?_; intro v7 w7 o7 gr7))
  go_ret
  refine ⟨v7, rfl, ?_, B5.grown gr7 B5.size (fun j hj => by have e : g = j := (by simpa [Value.ownBlock] using hj); omega)⟩
  rw [HPA2.out]
  have : I ++ [p] ++ J = I ++ p :: J := by simp
  rw [this] at o7
  exact o7.lower (by omega)
end
end Go.Proofs.YtdmindhjmjnagaaGreatDoor
