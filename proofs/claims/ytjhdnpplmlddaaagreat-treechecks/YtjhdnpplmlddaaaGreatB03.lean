import Derived.Test.YtjhdnpplmlddaaaGreatSi
import Derived.Test.YtjhdnpplmlddaaaGreatB02
import Derived.Deep.RegionHeld3
import Derived.Deep.DeepCutAuto
/- Do the keys rise? -/
namespace Go.Proofs.YtjhdnpplmlddaaaGreat
set_option linter.unusedVariables false
open Go.RowKit

theorem wrap_self {k N : Nat} (h : k < N) (hN : N ≤ maxLen) : IntKind.i64.wrap (k : Int) = (k : Int) := by unfold maxLen at hN; rw [IntKind.wrap_i64]; omega
def rises : List (List UInt8) → Bool
  | a :: b :: l => Op.bytesLess a b && rises (b :: l)
  | _ => true
theorem rises_drop (l : List El) (k : Nat) (h : k + 1 < l.length) : rises ((l.drop k).map El.k) = (Op.bytesLess (l[k]'(by omega)).k (l[k + 1]).k && rises ((l.drop (k + 1)).map El.k)) := by
  rw [List.drop_eq_getElem_cons (show k < l.length by omega), List.drop_eq_getElem_cons h]
  rfl
theorem rises_end (l : List El) (k : Nat) (h : l.length ≤ k + 1) : rises ((l.drop k).map El.k) = true := by
  have e : (l.drop k).length ≤ 1 := by simp; omega
  generalize l.drop k = m at *
  match m, e with
  | [], _ => rfl
  | [x], _ => rfl
theorem less_drop (A B : List UInt8) (j : Nat) (hA : j < A.length) (hB : j < B.length) : Op.bytesLess (A.drop j) (B.drop j) = (decide ((A.getD j 0).toNat < (B.getD j 0).toNat) || ((A.getD j 0).toNat == (B.getD j 0).toNat && Op.bytesLess (A.drop (j + 1)) (B.drop (j + 1)))) := by
  rw [List.drop_eq_getElem_cons hA, List.drop_eq_getElem_cons hB, Op.bytesLess]
  have e1 : A.getD j 0 = A[j] := by simp [hA]
  have e2 : B.getD j 0 = B[j] := by simp [hB]
  rw [e1, e2]
  simp only [UInt8.lt_iff_toNat_lt]
  congr 2
  by_cases h : A[j] = B[j]
  · rw [h]; simp
  · have h3 : A[j].toNat ≠ B[j].toNat := fun e => h (UInt8.toNat_inj.1 e)
    rw [show (A[j] == B[j]) = false by simpa using h, show (A[j].toNat == B[j].toNat) = false by simpa using h3]
theorem less_end (A B : List UInt8) (hA : A.length = 24) (hB : B.length = 24) : Op.bytesLess (A.drop 24) (B.drop 24) = false := by
  rw [List.drop_eq_nil_of_le (by omega), List.drop_eq_nil_of_le (by omega)]
  rfl
theorem store_key_op {o : Oper} {a : Act} {w : World} {K : Act → World → Prop} {Q : Exit → Act → World → Prop} (x y : Operand) (ho : o.op = .store 25 x y) (b : Nat) (hx : a.eval x = .pointer (some ⟨b, 0, none⟩)) (L : List UInt8) (hy : a.eval y = kv L) (hL : L.length = 24) (M : List UInt8) (hK : Has w b M)
    (h : ∀ w', Has w' b L → Touch b none w w' → w'.heap.size = w.heap.size → K (a.put o.dst undef) w') : o.wp Tryz.prog a w K Q :=
  wp_store_row _ x y ho b _ hx hy _ _ hK.blk (by rw [bc_size, hL]; exact Tryz.key_info) (by rw [bc_size, bc_size, hL, hK.len]) (bc_all _) (h _ (hK.setRow L hL) (touch_setRow _ _ _) (by simp))
set_option maxHeartbeats 8000000 in
set_option maxRecDepth 100000 in
theorem riseP_calls (w : World) (sv : Value) (l : List El) (r : Option Nat) (h : ElsIn w sv l r) :
    Calls Tryz.prog 88 #[sv, .func (Fn.func 64) #[] #[]] w fun e w' => e = .returned (.bool (rises (l.map El.k))) ∧ Below w.heap.size w w' := by
  obtain ⟨ad, cap, rfl, hcap, hmax, hok, hin⟩ := h
  obtain ⟨N, hN⟩ : ∃ N : Nat, N = l.length := ⟨_, rfl⟩
  rw [← hN] at hcap hmax ⊢
  have HN : Hid (N = l.length) := hN
  have HW : Hid (∀ k : Nat, k < N → wrap64 ((k : Int) + 1) = ((k + 1 : Nat) : Int)) := fun k hk => wrap_succ hk hmax
  have HW2 : Hid (∀ k : Nat, k < N → IntKind.i64.wrap (k : Int) = (k : Int)) := fun k hk => wrap_self hk hmax
  clear hmax
  have HI : Hid (∀ i (hi : i < l.length), ∃ g off, ad = some ⟨g, off, none⟩ ∧ g < w.heap.size ∧ w.rangeAt g (off + i * 25) (ec l[i]) ∧ (l[i]).Ok) := fun i hi => by
    rcases hin with e | ⟨g, off, h1, _, h2, h3⟩
    · rw [e] at hi; simp at hi
    · exact ⟨g, off, h1, h2, h3 i hi, hok i hi⟩
  have hiE : ∀ e : El, e.Ok → (Tryz.prog.info? 89).map (·.size) = some (ec e).length := fun e he => by rw [ec_length he]; exact Tryz.info_P
  have HIE : Hid (∀ e : El, e.Ok → (Tryz.prog.info? 89).map (·.size) = some (ec e).length) := hiE
  clear hN hin hok hiE
  go_enter Tryz.func88, Tryz.ntmps88
  go_wp2
  go_step3
  go_wp2
  go_step3
  go_wp2
  go_loopg [5] N (fun g i wr => ∃ k : Nat, k + g = N ∧ i = .int .i64 ((k + 1 : Nat) : Int) ∧ Below w.heap.size w wr ∧ Hid (rises (l.map El.k) = rises ((l.drop k).map El.k)))
  case atStart => exact ⟨0, by omega, rfl, Below.refl _ _, (show rises (l.map El.k) = rises ((l.drop 0).map El.k) from rfl)⟩
  case round =>
    obtain ⟨k, hkg, rfl, hbel, HE⟩ := hrel
    by_cases hlt : k + 1 < N
    · have hk1 : k + 1 < l.length := by rw [← HN.out]; exact hlt
      obtain ⟨g0, off, rfl, hg, hatA, okA⟩ := HI.out k (by omega)
      obtain ⟨g', off', e', _, hatB, okB⟩ := HI.out (k + 1) hk1
      cases e'
      have RA : Hid (∀ yy, Below w.heap.size w yy → yy.rangeAt g0 (off + k * 25) (ec (l[k]'(by omega)))) := fun yy hb => range_same hatA (hb.block g0 hg)
      have RB : Hid (∀ yy, Below w.heap.size w yy → yy.rangeAt g0 (off + (k + 1) * 25) (ec l[k + 1])) := fun yy hb => range_same hatB (hb.block g0 hg)
      have HE3 : Hid (rises (l.map El.k) = (Op.bytesLess (l[k]'(by omega)).k (l[k + 1]).k && rises ((l.drop (k + 1)).map El.k))) := (show _ = _ by rw [HE.out, rises_drop l k hk1])
      clear HE hatA hatB
      generalize l[k]'(by omega) = eA at *
      generalize l[k + 1] = eB at *
      have hltI : (((k + 1 : Nat) : Int)) < (N : Int) := by omega
      have hk0 : (0 : Int) ≤ (((k + 1 : Nat) : Int)) - 1 := by omega
      have hkN : (((k + 1 : Nat) : Int)) - 1 < (N : Int) := by omega
      have hk0' : (0 : Int) ≤ (k : Int) := by omega
      have hk1' : (0 : Int) ≤ (k : Int) + 1 := by omega
      obtain ⟨g, rfl⟩ : ∃ g, gk = g + 1 := ⟨gk - 1, by omega⟩
      have hkN' : (k : Int) < (N : Int) := by omega
      have HKS : Hid (wrap64 ((k : Int) + 1 + 1) = ((k + 1 + 1 : Nat) : Int)) := (show _ = _ by have := HW.out (k + 1) hlt; push_cast at this; push_cast; exact this)
      have HKW : Hid (IntKind.i64.wrap (k : Int) = (k : Int)) := HW2.out k (by omega)
      go_upto_region 4 with fail
      go_cut [6, 7] (fun a b wc => ∃ p q, a = .pointer (some ⟨p, 0, none⟩) ∧ b = .pointer (some ⟨q, 0, none⟩) ∧ Has wc p eA.k ∧ Has wc q eB.k ∧ Below w.heap.size w wc)
      case first =>
        refine wp_region_noPanic ?_
        refine wp_region_held_drew (S := (fun yy => Below w.heap.size w yy)) (by kernel_rfl) (below_drewN hbel 1) (fun hHeld => ?_)
        refine wpAnyH_take (i := 0) (v := ?_) rfl (by kernel_rfl) (by kernel_rfl) (by kernel_rfl) (fun _ _ _ h => h) (Or.inl ⟨by rfl, ?_⟩) hHeld ?_
        case refine_2 => (intro w hSw; (try dsimp only at hSw); go_simp; try (with_reducible rfl))
        (try simp only [gs])
        refine wpAnyH_take (i := 1) (v := ?_) rfl (by kernel_rfl) (by kernel_rfl) (by kernel_rfl) (fun _ _ _ h => h) (Or.inl ⟨by rfl, ?_⟩) hHeld ?_
        case refine_2 => (intro w hSw; (try dsimp only at hSw); go_simp; try (with_reducible rfl))
        (try simp only [gs])
        refine wpAnyH_take (i := 2) (v := ?_) rfl (by kernel_rfl) (by kernel_rfl) (by kernel_rfl) (fun _ _ _ h => h) (Or.inl ⟨by rfl, ?_⟩) hHeld ?_
        case refine_2 => (intro w hSw; (try dsimp only at hSw); go_simp; try (with_reducible rfl))
        (try simp only [gs])
        refine wpAnyH_take (i := 3) (v := .int .i64 (k : Int)) rfl (by kernel_rfl) (by kernel_rfl) (by kernel_rfl) (fun _ _ _ h => h) (Or.inl ⟨by rfl, ?_⟩) hHeld ?_
        case refine_1 => (intro w hSw; go_simp; rw [HKW.out])
        (try simp only [gs])
        refine wpAnyH_take (i := 4) (v := ?_) rfl (by kernel_rfl) (by kernel_rfl) (by kernel_rfl) (fun _ _ _ h => h) (Or.inl ⟨by rfl, ?_⟩) hHeld ?_
        case refine_2 => (intro w hSw; (try dsimp only at hSw); go_simp; try (with_reducible rfl))
        (try simp only [gs])
        refine wpAnyH_take (i := 5) rfl (by kernel_rfl) (by kernel_rfl) (by kernel_rfl) (fun _ _ _ h => h) (yieldsIf_load_mid (by rfl) _ _ rfl g0 (off + k * 25) rfl _ _ RA.out Tryz.underlying89 rfl (HIE.out _ okA)) hHeld ?_
        (try simp only [gs])
        refine wpAnyH_take (i := 7) (v := ?_) rfl (by kernel_rfl) (by kernel_rfl) (by kernel_rfl) (fun _ _ _ h => h) (Or.inl ⟨by rfl, ?_⟩) hHeld ?_
        case refine_2 => (intro w hSw; (try dsimp only at hSw); go_simp; try (with_reducible rfl))
        (try simp only [gs])
        refine wpAnyH_take (i := 8) (v := ?_) rfl (by kernel_rfl) (by kernel_rfl) (by kernel_rfl) (fun _ _ _ h => h) (Or.inl ⟨by rfl, ?_⟩) hHeld ?_
        case refine_2 => (intro w hSw; (try dsimp only at hSw); go_simp; try (with_reducible rfl))
        (try simp only [gs])
        refine wpAnyH_take (i := 9) (v := ?_) rfl (by kernel_rfl) (by kernel_rfl) (by kernel_rfl) (fun _ _ _ h => h) (Or.inl ⟨by rfl, ?_⟩) hHeld ?_
        case refine_2 => (intro w hSw; (try dsimp only at hSw); go_simp; try (with_reducible rfl))
        (try simp only [gs])
        refine wpAnyH_take (i := 10) (v := ?_) rfl (by kernel_rfl) (by kernel_rfl) (by kernel_rfl) (fun _ _ _ h => h) (Or.inl ⟨by rfl, ?_⟩) hHeld ?_
        case refine_2 => (intro w hSw; (try dsimp only at hSw); go_simp; try (with_reducible rfl))
        (try simp only [gs])
        refine wpAnyH_take (i := 11) rfl (by kernel_rfl) (by kernel_rfl) (by kernel_rfl) (fun _ _ _ h => h) (yieldsIf_load_mid (by rfl) _ _ rfl g0 (off + (k + 1) * 25) rfl _ _ RB.out Tryz.underlying89 rfl (HIE.out _ okB)) hHeld ?_
        (try simp only [gs])
        generalize wr.drew = y0 at *
        refine wpAnyH_ready (rs := [6, 13, 14]) (by kernel_rfl) (by simp) (AllReadyH.cons rfl (fun K hK => ?_) (AllReadyH.cons rfl (fun K hK => ?_) (AllReadyH.cons rfl (fun K hK => ?_) AllReadyH.nil)))
        · rw [if_pos (by rfl)]
          (try simp only [gs])
          go_simp
          refine (keyP_calls _ eA okA).mono ?_
          rintro e y1 ⟨rfl, b3⟩
          have bl4 := hHeld.trans (b3.mono hHeld.size)
          refine hK.out _ _ bl4 (fun g2 => ?_)
          clear hK K
          (try simp only [gs])
          refine wpAnyH_ready (rs := [12, 13, 14]) (by kernel_rfl) (by simp) (AllReadyH.cons rfl (fun K hK => ?_) (AllReadyH.cons rfl (fun K hK => ?_) (AllReadyH.cons rfl (fun K hK => ?_) AllReadyH.nil)))
          · rw [if_pos (by rfl)]
            (try simp only [gs])
            go_simp
            refine (keyP_calls _ eB okB).mono ?_
            rintro e y5 ⟨rfl, b7⟩
            have bl8 := bl4.trans (b7.mono bl4.size)
            refine hK.out _ _ bl8 (fun g6 => ?_)
            clear hK K
            (try simp only [gs])
            refine wpAnyH_ready (rs := [13, 14]) (by kernel_rfl) (by simp) (AllReadyH.cons rfl (fun K hK => ?_) (AllReadyH.cons rfl (fun K hK => ?_) AllReadyH.nil))
            · rw [if_pos (by rfl)]
              (try simp only [gs])
              go_simp
              have bl12 := bl8.alloc bl8.size (.cells #[.int .u8 0, .int .u8 0, .int .u8 0, .int .u8 0, .int .u8 0, .int .u8 0, .int .u8 0, .int .u8 0, .int .u8 0, .int .u8 0, .int .u8 0, .int .u8 0, .int .u8 0, .int .u8 0, .int .u8 0, .int .u8 0, .int .u8 0, .int .u8 0, .int .u8 0, .int .u8 0, .int .u8 0, .int .u8 0, .int .u8 0, .int .u8 0] 25)
              refine hK.out _ _ bl12 (fun g10 => ?_)
              clear hK K
              (try simp only [gs])
              have h13 : Has (y5.alloc (.cells #[.int .u8 0, .int .u8 0, .int .u8 0, .int .u8 0, .int .u8 0, .int .u8 0, .int .u8 0, .int .u8 0, .int .u8 0, .int .u8 0, .int .u8 0, .int .u8 0, .int .u8 0, .int .u8 0, .int .u8 0, .int .u8 0, .int .u8 0, .int .u8 0, .int .u8 0, .int .u8 0, .int .u8 0, .int .u8 0, .int .u8 0, .int .u8 0] 25)) y5.heap.size (zs 24) := zero_has _ _ rfl
              have ge14 := bl8.size
              generalize y5.alloc (.cells #[.int .u8 0, .int .u8 0, .int .u8 0, .int .u8 0, .int .u8 0, .int .u8 0, .int .u8 0, .int .u8 0, .int .u8 0, .int .u8 0, .int .u8 0, .int .u8 0, .int .u8 0, .int .u8 0, .int .u8 0, .int .u8 0, .int .u8 0, .int .u8 0, .int .u8 0, .int .u8 0, .int .u8 0, .int .u8 0, .int .u8 0, .int .u8 0] 25) = y9 at *
              refine wpAnyH_ready (rs := [14]) (by kernel_rfl) (by simp) (AllReadyH.cons rfl (fun K hK => ?_) AllReadyH.nil)
              rw [if_pos (by rfl)]
              (try simp only [gs])
              go_simp
              have bl18 := bl12.alloc bl12.size (.cells #[.int .u8 0, .int .u8 0, .int .u8 0, .int .u8 0, .int .u8 0, .int .u8 0, .int .u8 0, .int .u8 0, .int .u8 0, .int .u8 0, .int .u8 0, .int .u8 0, .int .u8 0, .int .u8 0, .int .u8 0, .int .u8 0, .int .u8 0, .int .u8 0, .int .u8 0, .int .u8 0, .int .u8 0, .int .u8 0, .int .u8 0, .int .u8 0] 25)
              refine hK.out _ _ bl18 (fun g16 => ?_)
              clear hK K
              (try simp only [gs])
              have h19 := h13.alloc (.cells #[.int .u8 0, .int .u8 0, .int .u8 0, .int .u8 0, .int .u8 0, .int .u8 0, .int .u8 0, .int .u8 0, .int .u8 0, .int .u8 0, .int .u8 0, .int .u8 0, .int .u8 0, .int .u8 0, .int .u8 0, .int .u8 0, .int .u8 0, .int .u8 0, .int .u8 0, .int .u8 0, .int .u8 0, .int .u8 0, .int .u8 0, .int .u8 0] 25)
              have h19l := h13.lt
              have h20 : Has (y9.alloc (.cells #[.int .u8 0, .int .u8 0, .int .u8 0, .int .u8 0, .int .u8 0, .int .u8 0, .int .u8 0, .int .u8 0, .int .u8 0, .int .u8 0, .int .u8 0, .int .u8 0, .int .u8 0, .int .u8 0, .int .u8 0, .int .u8 0, .int .u8 0, .int .u8 0, .int .u8 0, .int .u8 0, .int .u8 0, .int .u8 0, .int .u8 0, .int .u8 0] 25)) y9.heap.size (zs 24) := zero_has _ _ rfl
              have ge21 := bl12.size
              generalize y9.alloc (.cells #[.int .u8 0, .int .u8 0, .int .u8 0, .int .u8 0, .int .u8 0, .int .u8 0, .int .u8 0, .int .u8 0, .int .u8 0, .int .u8 0, .int .u8 0, .int .u8 0, .int .u8 0, .int .u8 0, .int .u8 0, .int .u8 0, .int .u8 0, .int .u8 0, .int .u8 0, .int .u8 0, .int .u8 0, .int .u8 0, .int .u8 0, .int .u8 0] 25) = y15 at *
              refine wpAnyH_ready (rs := [15]) (by kernel_rfl) (by simp) (AllReadyH.cons rfl (fun K hK => ?_) AllReadyH.nil)
              rw [if_pos (by rfl)]
              (try simp only [gs])
              refine store_key_op _ _ rfl (y5.heap.size) rfl eA.k rfl okA.len (zs 24) h19 ?_
              intro y22 hu25 tx26 sx27
              have bl28 := below_touched bl18 tx26 (by omega) (Nat.le_refl _)
              have h29 := h20.touch tx26 (by omega)
              refine hK.out _ _ bl28 (fun g23 => ?_)
              clear hK K
              (try simp only [gs])
              refine wpAnyH_ready (rs := [16]) (by kernel_rfl) (by simp) (AllReadyH.cons rfl (fun K hK => ?_) AllReadyH.nil)
              rw [if_pos (by rfl)]
              (try simp only [gs])
              refine store_key_op _ _ rfl (y9.heap.size) rfl eB.k rfl okB.len (zs 24) h29 ?_
              intro y30 hu33 tx34 sx35
              have bl36 := below_touched bl28 tx34 (by omega) (Nat.le_refl _)
              have h37 := hu25.touch tx34 (by omega)
              refine hK.out _ _ bl36 (fun g31 => ?_)
              clear hK K
              (try simp only [gs])
              refine wpAnyH_done (by kernel_rfl) ?_ _
              refine NoPanic.normal ?_
              go_wp2_with fail
              go_meet
              case rel => exact ⟨y5.heap.size, y9.heap.size, rfl, rfl, h37, hu33, bl36⟩
            · rw [if_pos (by rfl)]
              (try simp only [gs])
              go_simp
              have bl41 := bl8.alloc bl8.size (.cells #[.int .u8 0, .int .u8 0, .int .u8 0, .int .u8 0, .int .u8 0, .int .u8 0, .int .u8 0, .int .u8 0, .int .u8 0, .int .u8 0, .int .u8 0, .int .u8 0, .int .u8 0, .int .u8 0, .int .u8 0, .int .u8 0, .int .u8 0, .int .u8 0, .int .u8 0, .int .u8 0, .int .u8 0, .int .u8 0, .int .u8 0, .int .u8 0] 25)
              refine hK.out _ _ bl41 (fun g39 => ?_)
              clear hK K
              (try simp only [gs])
              have h42 : Has (y5.alloc (.cells #[.int .u8 0, .int .u8 0, .int .u8 0, .int .u8 0, .int .u8 0, .int .u8 0, .int .u8 0, .int .u8 0, .int .u8 0, .int .u8 0, .int .u8 0, .int .u8 0, .int .u8 0, .int .u8 0, .int .u8 0, .int .u8 0, .int .u8 0, .int .u8 0, .int .u8 0, .int .u8 0, .int .u8 0, .int .u8 0, .int .u8 0, .int .u8 0] 25)) y5.heap.size (zs 24) := zero_has _ _ rfl
              have ge43 := bl8.size
              generalize y5.alloc (.cells #[.int .u8 0, .int .u8 0, .int .u8 0, .int .u8 0, .int .u8 0, .int .u8 0, .int .u8 0, .int .u8 0, .int .u8 0, .int .u8 0, .int .u8 0, .int .u8 0, .int .u8 0, .int .u8 0, .int .u8 0, .int .u8 0, .int .u8 0, .int .u8 0, .int .u8 0, .int .u8 0, .int .u8 0, .int .u8 0, .int .u8 0, .int .u8 0] 25) = y38 at *
              refine wpAnyH_ready (rs := [13]) (by kernel_rfl) (by simp) (AllReadyH.cons rfl (fun K hK => ?_) AllReadyH.nil)
              rw [if_pos (by rfl)]
              (try simp only [gs])
              go_simp
              have bl47 := bl41.alloc bl41.size (.cells #[.int .u8 0, .int .u8 0, .int .u8 0, .int .u8 0, .int .u8 0, .int .u8 0, .int .u8 0, .int .u8 0, .int .u8 0, .int .u8 0, .int .u8 0, .int .u8 0, .int .u8 0, .int .u8 0, .int .u8 0, .int .u8 0, .int .u8 0, .int .u8 0, .int .u8 0, .int .u8 0, .int .u8 0, .int .u8 0, .int .u8 0, .int .u8 0] 25)
              refine hK.out _ _ bl47 (fun g45 => ?_)
              clear hK K
              (try simp only [gs])
              have h48 := h42.alloc (.cells #[.int .u8 0, .int .u8 0, .int .u8 0, .int .u8 0, .int .u8 0, .int .u8 0, .int .u8 0, .int .u8 0, .int .u8 0, .int .u8 0, .int .u8 0, .int .u8 0, .int .u8 0, .int .u8 0, .int .u8 0, .int .u8 0, .int .u8 0, .int .u8 0, .int .u8 0, .int .u8 0, .int .u8 0, .int .u8 0, .int .u8 0, .int .u8 0] 25)
              have h48l := h42.lt
              have h49 : Has (y38.alloc (.cells #[.int .u8 0, .int .u8 0, .int .u8 0, .int .u8 0, .int .u8 0, .int .u8 0, .int .u8 0, .int .u8 0, .int .u8 0, .int .u8 0, .int .u8 0, .int .u8 0, .int .u8 0, .int .u8 0, .int .u8 0, .int .u8 0, .int .u8 0, .int .u8 0, .int .u8 0, .int .u8 0, .int .u8 0, .int .u8 0, .int .u8 0, .int .u8 0] 25)) y38.heap.size (zs 24) := zero_has _ _ rfl
              have ge50 := bl41.size
              generalize y38.alloc (.cells #[.int .u8 0, .int .u8 0, .int .u8 0, .int .u8 0, .int .u8 0, .int .u8 0, .int .u8 0, .int .u8 0, .int .u8 0, .int .u8 0, .int .u8 0, .int .u8 0, .int .u8 0, .int .u8 0, .int .u8 0, .int .u8 0, .int .u8 0, .int .u8 0, .int .u8 0, .int .u8 0, .int .u8 0, .int .u8 0, .int .u8 0, .int .u8 0] 25) = y44 at *
              refine wpAnyH_ready (rs := [15]) (by kernel_rfl) (by simp) (AllReadyH.cons rfl (fun K hK => ?_) AllReadyH.nil)
              rw [if_pos (by rfl)]
              (try simp only [gs])
              refine store_key_op _ _ rfl (y38.heap.size) rfl eA.k rfl okA.len (zs 24) h49 ?_
              intro y51 hu54 tx55 sx56
              have bl57 := below_touched bl47 tx55 (by omega) (Nat.le_refl _)
              have h58 := h48.touch tx55 (by omega)
              refine hK.out _ _ bl57 (fun g52 => ?_)
              clear hK K
              (try simp only [gs])
              refine wpAnyH_ready (rs := [16]) (by kernel_rfl) (by simp) (AllReadyH.cons rfl (fun K hK => ?_) AllReadyH.nil)
              rw [if_pos (by rfl)]
              (try simp only [gs])
              refine store_key_op _ _ rfl (y5.heap.size) rfl eB.k rfl okB.len (zs 24) h58 ?_
              intro y59 hu62 tx63 sx64
              have bl65 := below_touched bl57 tx63 (by omega) (Nat.le_refl _)
              have h66 := hu54.touch tx63 (by omega)
              refine hK.out _ _ bl65 (fun g60 => ?_)
              clear hK K
              (try simp only [gs])
              refine wpAnyH_done (by kernel_rfl) ?_ _
              refine NoPanic.normal ?_
              go_wp2_with fail
              go_meet
              case rel => exact ⟨y38.heap.size, y5.heap.size, rfl, rfl, h66, hu62, bl65⟩
          · rw [if_pos (by rfl)]
            (try simp only [gs])
            go_simp
            have bl70 := bl4.alloc bl4.size (.cells #[.int .u8 0, .int .u8 0, .int .u8 0, .int .u8 0, .int .u8 0, .int .u8 0, .int .u8 0, .int .u8 0, .int .u8 0, .int .u8 0, .int .u8 0, .int .u8 0, .int .u8 0, .int .u8 0, .int .u8 0, .int .u8 0, .int .u8 0, .int .u8 0, .int .u8 0, .int .u8 0, .int .u8 0, .int .u8 0, .int .u8 0, .int .u8 0] 25)
            refine hK.out _ _ bl70 (fun g68 => ?_)
            clear hK K
            (try simp only [gs])
            have h71 : Has (y1.alloc (.cells #[.int .u8 0, .int .u8 0, .int .u8 0, .int .u8 0, .int .u8 0, .int .u8 0, .int .u8 0, .int .u8 0, .int .u8 0, .int .u8 0, .int .u8 0, .int .u8 0, .int .u8 0, .int .u8 0, .int .u8 0, .int .u8 0, .int .u8 0, .int .u8 0, .int .u8 0, .int .u8 0, .int .u8 0, .int .u8 0, .int .u8 0, .int .u8 0] 25)) y1.heap.size (zs 24) := zero_has _ _ rfl
            have ge72 := bl4.size
            generalize y1.alloc (.cells #[.int .u8 0, .int .u8 0, .int .u8 0, .int .u8 0, .int .u8 0, .int .u8 0, .int .u8 0, .int .u8 0, .int .u8 0, .int .u8 0, .int .u8 0, .int .u8 0, .int .u8 0, .int .u8 0, .int .u8 0, .int .u8 0, .int .u8 0, .int .u8 0, .int .u8 0, .int .u8 0, .int .u8 0, .int .u8 0, .int .u8 0, .int .u8 0] 25) = y67 at *
            refine wpAnyH_ready (rs := [12, 14]) (by kernel_rfl) (by simp) (AllReadyH.cons rfl (fun K hK => ?_) (AllReadyH.cons rfl (fun K hK => ?_) AllReadyH.nil))
            · rw [if_pos (by rfl)]
              (try simp only [gs])
              go_simp
              refine (keyP_calls _ eB okB).mono ?_
              rintro e y73 ⟨rfl, b75⟩
              have bl76 := bl70.trans (b75.mono bl70.size)
              refine hK.out _ _ bl76 (fun g74 => ?_)
              clear hK K
              (try simp only [gs])
              have h77 := h71.below b75 h71.lt
              refine wpAnyH_ready (rs := [14]) (by kernel_rfl) (by simp) (AllReadyH.cons rfl (fun K hK => ?_) AllReadyH.nil)
              rw [if_pos (by rfl)]
              (try simp only [gs])
              go_simp
              have bl81 := bl76.alloc bl76.size (.cells #[.int .u8 0, .int .u8 0, .int .u8 0, .int .u8 0, .int .u8 0, .int .u8 0, .int .u8 0, .int .u8 0, .int .u8 0, .int .u8 0, .int .u8 0, .int .u8 0, .int .u8 0, .int .u8 0, .int .u8 0, .int .u8 0, .int .u8 0, .int .u8 0, .int .u8 0, .int .u8 0, .int .u8 0, .int .u8 0, .int .u8 0, .int .u8 0] 25)
              refine hK.out _ _ bl81 (fun g79 => ?_)
              clear hK K
              (try simp only [gs])
              have h82 := h77.alloc (.cells #[.int .u8 0, .int .u8 0, .int .u8 0, .int .u8 0, .int .u8 0, .int .u8 0, .int .u8 0, .int .u8 0, .int .u8 0, .int .u8 0, .int .u8 0, .int .u8 0, .int .u8 0, .int .u8 0, .int .u8 0, .int .u8 0, .int .u8 0, .int .u8 0, .int .u8 0, .int .u8 0, .int .u8 0, .int .u8 0, .int .u8 0, .int .u8 0] 25)
              have h82l := h77.lt
              have h83 : Has (y73.alloc (.cells #[.int .u8 0, .int .u8 0, .int .u8 0, .int .u8 0, .int .u8 0, .int .u8 0, .int .u8 0, .int .u8 0, .int .u8 0, .int .u8 0, .int .u8 0, .int .u8 0, .int .u8 0, .int .u8 0, .int .u8 0, .int .u8 0, .int .u8 0, .int .u8 0, .int .u8 0, .int .u8 0, .int .u8 0, .int .u8 0, .int .u8 0, .int .u8 0] 25)) y73.heap.size (zs 24) := zero_has _ _ rfl
              have ge84 := bl76.size
              generalize y73.alloc (.cells #[.int .u8 0, .int .u8 0, .int .u8 0, .int .u8 0, .int .u8 0, .int .u8 0, .int .u8 0, .int .u8 0, .int .u8 0, .int .u8 0, .int .u8 0, .int .u8 0, .int .u8 0, .int .u8 0, .int .u8 0, .int .u8 0, .int .u8 0, .int .u8 0, .int .u8 0, .int .u8 0, .int .u8 0, .int .u8 0, .int .u8 0, .int .u8 0] 25) = y78 at *
              refine wpAnyH_ready (rs := [15]) (by kernel_rfl) (by simp) (AllReadyH.cons rfl (fun K hK => ?_) AllReadyH.nil)
              rw [if_pos (by rfl)]
              (try simp only [gs])
              refine store_key_op _ _ rfl (y1.heap.size) rfl eA.k rfl okA.len (zs 24) h82 ?_
              intro y85 hu88 tx89 sx90
              have bl91 := below_touched bl81 tx89 (by omega) (Nat.le_refl _)
              have h92 := h83.touch tx89 (by omega)
              refine hK.out _ _ bl91 (fun g86 => ?_)
              clear hK K
              (try simp only [gs])
              refine wpAnyH_ready (rs := [16]) (by kernel_rfl) (by simp) (AllReadyH.cons rfl (fun K hK => ?_) AllReadyH.nil)
              rw [if_pos (by rfl)]
              (try simp only [gs])
              refine store_key_op _ _ rfl (y73.heap.size) rfl eB.k rfl okB.len (zs 24) h92 ?_
              intro y93 hu96 tx97 sx98
              have bl99 := below_touched bl91 tx97 (by omega) (Nat.le_refl _)
              have h100 := hu88.touch tx97 (by omega)
              refine hK.out _ _ bl99 (fun g94 => ?_)
              clear hK K
              (try simp only [gs])
              refine wpAnyH_done (by kernel_rfl) ?_ _
              refine NoPanic.normal ?_
              go_wp2_with fail
              go_meet
              case rel => exact ⟨y1.heap.size, y73.heap.size, rfl, rfl, h100, hu96, bl99⟩
            · rw [if_pos (by rfl)]
              (try simp only [gs])
              go_simp
              have bl104 := bl70.alloc bl70.size (.cells #[.int .u8 0, .int .u8 0, .int .u8 0, .int .u8 0, .int .u8 0, .int .u8 0, .int .u8 0, .int .u8 0, .int .u8 0, .int .u8 0, .int .u8 0, .int .u8 0, .int .u8 0, .int .u8 0, .int .u8 0, .int .u8 0, .int .u8 0, .int .u8 0, .int .u8 0, .int .u8 0, .int .u8 0, .int .u8 0, .int .u8 0, .int .u8 0] 25)
              refine hK.out _ _ bl104 (fun g102 => ?_)
              clear hK K
              (try simp only [gs])
              have h105 := h71.alloc (.cells #[.int .u8 0, .int .u8 0, .int .u8 0, .int .u8 0, .int .u8 0, .int .u8 0, .int .u8 0, .int .u8 0, .int .u8 0, .int .u8 0, .int .u8 0, .int .u8 0, .int .u8 0, .int .u8 0, .int .u8 0, .int .u8 0, .int .u8 0, .int .u8 0, .int .u8 0, .int .u8 0, .int .u8 0, .int .u8 0, .int .u8 0, .int .u8 0] 25)
              have h105l := h71.lt
              have h106 : Has (y67.alloc (.cells #[.int .u8 0, .int .u8 0, .int .u8 0, .int .u8 0, .int .u8 0, .int .u8 0, .int .u8 0, .int .u8 0, .int .u8 0, .int .u8 0, .int .u8 0, .int .u8 0, .int .u8 0, .int .u8 0, .int .u8 0, .int .u8 0, .int .u8 0, .int .u8 0, .int .u8 0, .int .u8 0, .int .u8 0, .int .u8 0, .int .u8 0, .int .u8 0] 25)) y67.heap.size (zs 24) := zero_has _ _ rfl
              have ge107 := bl70.size
              generalize y67.alloc (.cells #[.int .u8 0, .int .u8 0, .int .u8 0, .int .u8 0, .int .u8 0, .int .u8 0, .int .u8 0, .int .u8 0, .int .u8 0, .int .u8 0, .int .u8 0, .int .u8 0, .int .u8 0, .int .u8 0, .int .u8 0, .int .u8 0, .int .u8 0, .int .u8 0, .int .u8 0, .int .u8 0, .int .u8 0, .int .u8 0, .int .u8 0, .int .u8 0] 25) = y101 at *
              refine wpAnyH_ready (rs := [12]) (by kernel_rfl) (by simp) (AllReadyH.cons rfl (fun K hK => ?_) AllReadyH.nil)
              rw [if_pos (by rfl)]
              (try simp only [gs])
              go_simp
              refine (keyP_calls _ eB okB).mono ?_
              rintro e y108 ⟨rfl, b110⟩
              have bl111 := bl104.trans (b110.mono bl104.size)
              refine hK.out _ _ bl111 (fun g109 => ?_)
              clear hK K
              (try simp only [gs])
              have h112 := h105.below b110 h105.lt
              have h113 := h106.below b110 h106.lt
              refine wpAnyH_ready (rs := [15]) (by kernel_rfl) (by simp) (AllReadyH.cons rfl (fun K hK => ?_) AllReadyH.nil)
              rw [if_pos (by rfl)]
              (try simp only [gs])
              refine store_key_op _ _ rfl (y1.heap.size) rfl eA.k rfl okA.len (zs 24) h112 ?_
              intro y114 hu117 tx118 sx119
              have bl120 := below_touched bl111 tx118 (by omega) (Nat.le_refl _)
              have h121 := h113.touch tx118 (by omega)
              refine hK.out _ _ bl120 (fun g115 => ?_)
              clear hK K
              (try simp only [gs])
              refine wpAnyH_ready (rs := [16]) (by kernel_rfl) (by simp) (AllReadyH.cons rfl (fun K hK => ?_) AllReadyH.nil)
              rw [if_pos (by rfl)]
              (try simp only [gs])
              refine store_key_op _ _ rfl (y67.heap.size) rfl eB.k rfl okB.len (zs 24) h121 ?_
              intro y122 hu125 tx126 sx127
              have bl128 := below_touched bl120 tx126 (by omega) (Nat.le_refl _)
              have h129 := hu117.touch tx126 (by omega)
              refine hK.out _ _ bl128 (fun g123 => ?_)
              clear hK K
              (try simp only [gs])
              refine wpAnyH_done (by kernel_rfl) ?_ _
              refine NoPanic.normal ?_
              go_wp2_with fail
              go_meet
              case rel => exact ⟨y1.heap.size, y67.heap.size, rfl, rfl, h129, hu125, bl128⟩
          · rw [if_pos (by rfl)]
            (try simp only [gs])
            go_simp
            have bl133 := bl4.alloc bl4.size (.cells #[.int .u8 0, .int .u8 0, .int .u8 0, .int .u8 0, .int .u8 0, .int .u8 0, .int .u8 0, .int .u8 0, .int .u8 0, .int .u8 0, .int .u8 0, .int .u8 0, .int .u8 0, .int .u8 0, .int .u8 0, .int .u8 0, .int .u8 0, .int .u8 0, .int .u8 0, .int .u8 0, .int .u8 0, .int .u8 0, .int .u8 0, .int .u8 0] 25)
            refine hK.out _ _ bl133 (fun g131 => ?_)
            clear hK K
            (try simp only [gs])
            have h134 : Has (y1.alloc (.cells #[.int .u8 0, .int .u8 0, .int .u8 0, .int .u8 0, .int .u8 0, .int .u8 0, .int .u8 0, .int .u8 0, .int .u8 0, .int .u8 0, .int .u8 0, .int .u8 0, .int .u8 0, .int .u8 0, .int .u8 0, .int .u8 0, .int .u8 0, .int .u8 0, .int .u8 0, .int .u8 0, .int .u8 0, .int .u8 0, .int .u8 0, .int .u8 0] 25)) y1.heap.size (zs 24) := zero_has _ _ rfl
            have ge135 := bl4.size
            generalize y1.alloc (.cells #[.int .u8 0, .int .u8 0, .int .u8 0, .int .u8 0, .int .u8 0, .int .u8 0, .int .u8 0, .int .u8 0, .int .u8 0, .int .u8 0, .int .u8 0, .int .u8 0, .int .u8 0, .int .u8 0, .int .u8 0, .int .u8 0, .int .u8 0, .int .u8 0, .int .u8 0, .int .u8 0, .int .u8 0, .int .u8 0, .int .u8 0, .int .u8 0] 25) = y130 at *
            refine wpAnyH_ready (rs := [12, 13]) (by kernel_rfl) (by simp) (AllReadyH.cons rfl (fun K hK => ?_) (AllReadyH.cons rfl (fun K hK => ?_) AllReadyH.nil))
            · rw [if_pos (by rfl)]
              (try simp only [gs])
              go_simp
              refine (keyP_calls _ eB okB).mono ?_
              rintro e y136 ⟨rfl, b138⟩
              have bl139 := bl133.trans (b138.mono bl133.size)
              refine hK.out _ _ bl139 (fun g137 => ?_)
              clear hK K
              (try simp only [gs])
              have h140 := h134.below b138 h134.lt
              refine wpAnyH_ready (rs := [13]) (by kernel_rfl) (by simp) (AllReadyH.cons rfl (fun K hK => ?_) AllReadyH.nil)
              rw [if_pos (by rfl)]
              (try simp only [gs])
              go_simp
              have bl144 := bl139.alloc bl139.size (.cells #[.int .u8 0, .int .u8 0, .int .u8 0, .int .u8 0, .int .u8 0, .int .u8 0, .int .u8 0, .int .u8 0, .int .u8 0, .int .u8 0, .int .u8 0, .int .u8 0, .int .u8 0, .int .u8 0, .int .u8 0, .int .u8 0, .int .u8 0, .int .u8 0, .int .u8 0, .int .u8 0, .int .u8 0, .int .u8 0, .int .u8 0, .int .u8 0] 25)
              refine hK.out _ _ bl144 (fun g142 => ?_)
              clear hK K
              (try simp only [gs])
              have h145 := h140.alloc (.cells #[.int .u8 0, .int .u8 0, .int .u8 0, .int .u8 0, .int .u8 0, .int .u8 0, .int .u8 0, .int .u8 0, .int .u8 0, .int .u8 0, .int .u8 0, .int .u8 0, .int .u8 0, .int .u8 0, .int .u8 0, .int .u8 0, .int .u8 0, .int .u8 0, .int .u8 0, .int .u8 0, .int .u8 0, .int .u8 0, .int .u8 0, .int .u8 0] 25)
              have h145l := h140.lt
              have h146 : Has (y136.alloc (.cells #[.int .u8 0, .int .u8 0, .int .u8 0, .int .u8 0, .int .u8 0, .int .u8 0, .int .u8 0, .int .u8 0, .int .u8 0, .int .u8 0, .int .u8 0, .int .u8 0, .int .u8 0, .int .u8 0, .int .u8 0, .int .u8 0, .int .u8 0, .int .u8 0, .int .u8 0, .int .u8 0, .int .u8 0, .int .u8 0, .int .u8 0, .int .u8 0] 25)) y136.heap.size (zs 24) := zero_has _ _ rfl
              have ge147 := bl139.size
              generalize y136.alloc (.cells #[.int .u8 0, .int .u8 0, .int .u8 0, .int .u8 0, .int .u8 0, .int .u8 0, .int .u8 0, .int .u8 0, .int .u8 0, .int .u8 0, .int .u8 0, .int .u8 0, .int .u8 0, .int .u8 0, .int .u8 0, .int .u8 0, .int .u8 0, .int .u8 0, .int .u8 0, .int .u8 0, .int .u8 0, .int .u8 0, .int .u8 0, .int .u8 0] 25) = y141 at *
              refine wpAnyH_ready (rs := [15]) (by kernel_rfl) (by simp) (AllReadyH.cons rfl (fun K hK => ?_) AllReadyH.nil)
              rw [if_pos (by rfl)]
              (try simp only [gs])
              refine store_key_op _ _ rfl (y136.heap.size) rfl eA.k rfl okA.len (zs 24) h146 ?_
              intro y148 hu151 tx152 sx153
              have bl154 := below_touched bl144 tx152 (by omega) (Nat.le_refl _)
              have h155 := h145.touch tx152 (by omega)
              refine hK.out _ _ bl154 (fun g149 => ?_)
              clear hK K
              (try simp only [gs])
              refine wpAnyH_ready (rs := [16]) (by kernel_rfl) (by simp) (AllReadyH.cons rfl (fun K hK => ?_) AllReadyH.nil)
              rw [if_pos (by rfl)]
              (try simp only [gs])
              refine store_key_op _ _ rfl (y1.heap.size) rfl eB.k rfl okB.len (zs 24) h155 ?_
              intro y156 hu159 tx160 sx161
              have bl162 := below_touched bl154 tx160 (by omega) (Nat.le_refl _)
              have h163 := hu151.touch tx160 (by omega)
              refine hK.out _ _ bl162 (fun g157 => ?_)
              clear hK K
              (try simp only [gs])
              refine wpAnyH_done (by kernel_rfl) ?_ _
              refine NoPanic.normal ?_
              go_wp2_with fail
              go_meet
              case rel => exact ⟨y136.heap.size, y1.heap.size, rfl, rfl, h163, hu159, bl162⟩
            · rw [if_pos (by rfl)]
              (try simp only [gs])
              go_simp
              have bl167 := bl133.alloc bl133.size (.cells #[.int .u8 0, .int .u8 0, .int .u8 0, .int .u8 0, .int .u8 0, .int .u8 0, .int .u8 0, .int .u8 0, .int .u8 0, .int .u8 0, .int .u8 0, .int .u8 0, .int .u8 0, .int .u8 0, .int .u8 0, .int .u8 0, .int .u8 0, .int .u8 0, .int .u8 0, .int .u8 0, .int .u8 0, .int .u8 0, .int .u8 0, .int .u8 0] 25)
              refine hK.out _ _ bl167 (fun g165 => ?_)
              clear hK K
              (try simp only [gs])
              have h168 := h134.alloc (.cells #[.int .u8 0, .int .u8 0, .int .u8 0, .int .u8 0, .int .u8 0, .int .u8 0, .int .u8 0, .int .u8 0, .int .u8 0, .int .u8 0, .int .u8 0, .int .u8 0, .int .u8 0, .int .u8 0, .int .u8 0, .int .u8 0, .int .u8 0, .int .u8 0, .int .u8 0, .int .u8 0, .int .u8 0, .int .u8 0, .int .u8 0, .int .u8 0] 25)
              have h168l := h134.lt
              have h169 : Has (y130.alloc (.cells #[.int .u8 0, .int .u8 0, .int .u8 0, .int .u8 0, .int .u8 0, .int .u8 0, .int .u8 0, .int .u8 0, .int .u8 0, .int .u8 0, .int .u8 0, .int .u8 0, .int .u8 0, .int .u8 0, .int .u8 0, .int .u8 0, .int .u8 0, .int .u8 0, .int .u8 0, .int .u8 0, .int .u8 0, .int .u8 0, .int .u8 0, .int .u8 0] 25)) y130.heap.size (zs 24) := zero_has _ _ rfl
              have ge170 := bl133.size
              generalize y130.alloc (.cells #[.int .u8 0, .int .u8 0, .int .u8 0, .int .u8 0, .int .u8 0, .int .u8 0, .int .u8 0, .int .u8 0, .int .u8 0, .int .u8 0, .int .u8 0, .int .u8 0, .int .u8 0, .int .u8 0, .int .u8 0, .int .u8 0, .int .u8 0, .int .u8 0, .int .u8 0, .int .u8 0, .int .u8 0, .int .u8 0, .int .u8 0, .int .u8 0] 25) = y164 at *
              refine wpAnyH_ready (rs := [12]) (by kernel_rfl) (by simp) (AllReadyH.cons rfl (fun K hK => ?_) AllReadyH.nil)
              rw [if_pos (by rfl)]
              (try simp only [gs])
              go_simp
              refine (keyP_calls _ eB okB).mono ?_
              rintro e y171 ⟨rfl, b173⟩
              have bl174 := bl167.trans (b173.mono bl167.size)
              refine hK.out _ _ bl174 (fun g172 => ?_)
              clear hK K
              (try simp only [gs])
              have h175 := h169.below b173 h169.lt
              have h176 := h168.below b173 h168.lt
              refine wpAnyH_ready (rs := [15]) (by kernel_rfl) (by simp) (AllReadyH.cons rfl (fun K hK => ?_) AllReadyH.nil)
              rw [if_pos (by rfl)]
              (try simp only [gs])
              refine store_key_op _ _ rfl (y130.heap.size) rfl eA.k rfl okA.len (zs 24) h175 ?_
              intro y177 hu180 tx181 sx182
              have bl183 := below_touched bl174 tx181 (by omega) (Nat.le_refl _)
              have h184 := h176.touch tx181 (by omega)
              refine hK.out _ _ bl183 (fun g178 => ?_)
              clear hK K
              (try simp only [gs])
              refine wpAnyH_ready (rs := [16]) (by kernel_rfl) (by simp) (AllReadyH.cons rfl (fun K hK => ?_) AllReadyH.nil)
              rw [if_pos (by rfl)]
              (try simp only [gs])
              refine store_key_op _ _ rfl (y1.heap.size) rfl eB.k rfl okB.len (zs 24) h184 ?_
              intro y185 hu188 tx189 sx190
              have bl191 := below_touched bl183 tx189 (by omega) (Nat.le_refl _)
              have h192 := hu180.touch tx189 (by omega)
              refine hK.out _ _ bl191 (fun g186 => ?_)
              clear hK K
              (try simp only [gs])
              refine wpAnyH_done (by kernel_rfl) ?_ _
              refine NoPanic.normal ?_
              go_wp2_with fail
              go_meet
              case rel => exact ⟨y130.heap.size, y1.heap.size, rfl, rfl, h192, hu188, bl191⟩
        · rw [if_pos (by rfl)]
          (try simp only [gs])
          go_simp
          have bl196 := hHeld.alloc hHeld.size (.cells #[.int .u8 0, .int .u8 0, .int .u8 0, .int .u8 0, .int .u8 0, .int .u8 0, .int .u8 0, .int .u8 0, .int .u8 0, .int .u8 0, .int .u8 0, .int .u8 0, .int .u8 0, .int .u8 0, .int .u8 0, .int .u8 0, .int .u8 0, .int .u8 0, .int .u8 0, .int .u8 0, .int .u8 0, .int .u8 0, .int .u8 0, .int .u8 0] 25)
          refine hK.out _ _ bl196 (fun g194 => ?_)
          clear hK K
          (try simp only [gs])
          have h197 : Has (y0.alloc (.cells #[.int .u8 0, .int .u8 0, .int .u8 0, .int .u8 0, .int .u8 0, .int .u8 0, .int .u8 0, .int .u8 0, .int .u8 0, .int .u8 0, .int .u8 0, .int .u8 0, .int .u8 0, .int .u8 0, .int .u8 0, .int .u8 0, .int .u8 0, .int .u8 0, .int .u8 0, .int .u8 0, .int .u8 0, .int .u8 0, .int .u8 0, .int .u8 0] 25)) y0.heap.size (zs 24) := zero_has _ _ rfl
          have ge198 := hHeld.size
          generalize y0.alloc (.cells #[.int .u8 0, .int .u8 0, .int .u8 0, .int .u8 0, .int .u8 0, .int .u8 0, .int .u8 0, .int .u8 0, .int .u8 0, .int .u8 0, .int .u8 0, .int .u8 0, .int .u8 0, .int .u8 0, .int .u8 0, .int .u8 0, .int .u8 0, .int .u8 0, .int .u8 0, .int .u8 0, .int .u8 0, .int .u8 0, .int .u8 0, .int .u8 0] 25) = y193 at *
          refine wpAnyH_ready (rs := [6, 14]) (by kernel_rfl) (by simp) (AllReadyH.cons rfl (fun K hK => ?_) (AllReadyH.cons rfl (fun K hK => ?_) AllReadyH.nil))
          · rw [if_pos (by rfl)]
            (try simp only [gs])
            go_simp
            refine (keyP_calls _ eA okA).mono ?_
            rintro e y199 ⟨rfl, b201⟩
            have bl202 := bl196.trans (b201.mono bl196.size)
            refine hK.out _ _ bl202 (fun g200 => ?_)
            clear hK K
            (try simp only [gs])
            have h203 := h197.below b201 h197.lt
            refine wpAnyH_ready (rs := [12, 14]) (by kernel_rfl) (by simp) (AllReadyH.cons rfl (fun K hK => ?_) (AllReadyH.cons rfl (fun K hK => ?_) AllReadyH.nil))
            · rw [if_pos (by rfl)]
              (try simp only [gs])
              go_simp
              refine (keyP_calls _ eB okB).mono ?_
              rintro e y204 ⟨rfl, b206⟩
              have bl207 := bl202.trans (b206.mono bl202.size)
              refine hK.out _ _ bl207 (fun g205 => ?_)
              clear hK K
              (try simp only [gs])
              have h208 := h203.below b206 h203.lt
              refine wpAnyH_ready (rs := [14]) (by kernel_rfl) (by simp) (AllReadyH.cons rfl (fun K hK => ?_) AllReadyH.nil)
              rw [if_pos (by rfl)]
              (try simp only [gs])
              go_simp
              have bl212 := bl207.alloc bl207.size (.cells #[.int .u8 0, .int .u8 0, .int .u8 0, .int .u8 0, .int .u8 0, .int .u8 0, .int .u8 0, .int .u8 0, .int .u8 0, .int .u8 0, .int .u8 0, .int .u8 0, .int .u8 0, .int .u8 0, .int .u8 0, .int .u8 0, .int .u8 0, .int .u8 0, .int .u8 0, .int .u8 0, .int .u8 0, .int .u8 0, .int .u8 0, .int .u8 0] 25)
              refine hK.out _ _ bl212 (fun g210 => ?_)
              clear hK K
              (try simp only [gs])
              have h213 := h208.alloc (.cells #[.int .u8 0, .int .u8 0, .int .u8 0, .int .u8 0, .int .u8 0, .int .u8 0, .int .u8 0, .int .u8 0, .int .u8 0, .int .u8 0, .int .u8 0, .int .u8 0, .int .u8 0, .int .u8 0, .int .u8 0, .int .u8 0, .int .u8 0, .int .u8 0, .int .u8 0, .int .u8 0, .int .u8 0, .int .u8 0, .int .u8 0, .int .u8 0] 25)
              have h213l := h208.lt
              have h214 : Has (y204.alloc (.cells #[.int .u8 0, .int .u8 0, .int .u8 0, .int .u8 0, .int .u8 0, .int .u8 0, .int .u8 0, .int .u8 0, .int .u8 0, .int .u8 0, .int .u8 0, .int .u8 0, .int .u8 0, .int .u8 0, .int .u8 0, .int .u8 0, .int .u8 0, .int .u8 0, .int .u8 0, .int .u8 0, .int .u8 0, .int .u8 0, .int .u8 0, .int .u8 0] 25)) y204.heap.size (zs 24) := zero_has _ _ rfl
              have ge215 := bl207.size
              generalize y204.alloc (.cells #[.int .u8 0, .int .u8 0, .int .u8 0, .int .u8 0, .int .u8 0, .int .u8 0, .int .u8 0, .int .u8 0, .int .u8 0, .int .u8 0, .int .u8 0, .int .u8 0, .int .u8 0, .int .u8 0, .int .u8 0, .int .u8 0, .int .u8 0, .int .u8 0, .int .u8 0, .int .u8 0, .int .u8 0, .int .u8 0, .int .u8 0, .int .u8 0] 25) = y209 at *
              refine wpAnyH_ready (rs := [15]) (by kernel_rfl) (by simp) (AllReadyH.cons rfl (fun K hK => ?_) AllReadyH.nil)
              rw [if_pos (by rfl)]
              (try simp only [gs])
              refine store_key_op _ _ rfl (y0.heap.size) rfl eA.k rfl okA.len (zs 24) h213 ?_
              intro y216 hu219 tx220 sx221
              have bl222 := below_touched bl212 tx220 (by omega) (Nat.le_refl _)
              have h223 := h214.touch tx220 (by omega)
              refine hK.out _ _ bl222 (fun g217 => ?_)
              clear hK K
              (try simp only [gs])
              refine wpAnyH_ready (rs := [16]) (by kernel_rfl) (by simp) (AllReadyH.cons rfl (fun K hK => ?_) AllReadyH.nil)
              rw [if_pos (by rfl)]
              (try simp only [gs])
              refine store_key_op _ _ rfl (y204.heap.size) rfl eB.k rfl okB.len (zs 24) h223 ?_
              intro y224 hu227 tx228 sx229
              have bl230 := below_touched bl222 tx228 (by omega) (Nat.le_refl _)
              have h231 := hu219.touch tx228 (by omega)
              refine hK.out _ _ bl230 (fun g225 => ?_)
              clear hK K
              (try simp only [gs])
              refine wpAnyH_done (by kernel_rfl) ?_ _
              refine NoPanic.normal ?_
              go_wp2_with fail
              go_meet
              case rel => exact ⟨y0.heap.size, y204.heap.size, rfl, rfl, h231, hu227, bl230⟩
            · rw [if_pos (by rfl)]
              (try simp only [gs])
              go_simp
              have bl235 := bl202.alloc bl202.size (.cells #[.int .u8 0, .int .u8 0, .int .u8 0, .int .u8 0, .int .u8 0, .int .u8 0, .int .u8 0, .int .u8 0, .int .u8 0, .int .u8 0, .int .u8 0, .int .u8 0, .int .u8 0, .int .u8 0, .int .u8 0, .int .u8 0, .int .u8 0, .int .u8 0, .int .u8 0, .int .u8 0, .int .u8 0, .int .u8 0, .int .u8 0, .int .u8 0] 25)
              refine hK.out _ _ bl235 (fun g233 => ?_)
              clear hK K
              (try simp only [gs])
              have h236 := h203.alloc (.cells #[.int .u8 0, .int .u8 0, .int .u8 0, .int .u8 0, .int .u8 0, .int .u8 0, .int .u8 0, .int .u8 0, .int .u8 0, .int .u8 0, .int .u8 0, .int .u8 0, .int .u8 0, .int .u8 0, .int .u8 0, .int .u8 0, .int .u8 0, .int .u8 0, .int .u8 0, .int .u8 0, .int .u8 0, .int .u8 0, .int .u8 0, .int .u8 0] 25)
              have h236l := h203.lt
              have h237 : Has (y199.alloc (.cells #[.int .u8 0, .int .u8 0, .int .u8 0, .int .u8 0, .int .u8 0, .int .u8 0, .int .u8 0, .int .u8 0, .int .u8 0, .int .u8 0, .int .u8 0, .int .u8 0, .int .u8 0, .int .u8 0, .int .u8 0, .int .u8 0, .int .u8 0, .int .u8 0, .int .u8 0, .int .u8 0, .int .u8 0, .int .u8 0, .int .u8 0, .int .u8 0] 25)) y199.heap.size (zs 24) := zero_has _ _ rfl
              have ge238 := bl202.size
              generalize y199.alloc (.cells #[.int .u8 0, .int .u8 0, .int .u8 0, .int .u8 0, .int .u8 0, .int .u8 0, .int .u8 0, .int .u8 0, .int .u8 0, .int .u8 0, .int .u8 0, .int .u8 0, .int .u8 0, .int .u8 0, .int .u8 0, .int .u8 0, .int .u8 0, .int .u8 0, .int .u8 0, .int .u8 0, .int .u8 0, .int .u8 0, .int .u8 0, .int .u8 0] 25) = y232 at *
              refine wpAnyH_ready (rs := [12]) (by kernel_rfl) (by simp) (AllReadyH.cons rfl (fun K hK => ?_) AllReadyH.nil)
              rw [if_pos (by rfl)]
              (try simp only [gs])
              go_simp
              refine (keyP_calls _ eB okB).mono ?_
              rintro e y239 ⟨rfl, b241⟩
              have bl242 := bl235.trans (b241.mono bl235.size)
              refine hK.out _ _ bl242 (fun g240 => ?_)
              clear hK K
              (try simp only [gs])
              have h243 := h236.below b241 h236.lt
              have h244 := h237.below b241 h237.lt
              refine wpAnyH_ready (rs := [15]) (by kernel_rfl) (by simp) (AllReadyH.cons rfl (fun K hK => ?_) AllReadyH.nil)
              rw [if_pos (by rfl)]
              (try simp only [gs])
              refine store_key_op _ _ rfl (y0.heap.size) rfl eA.k rfl okA.len (zs 24) h243 ?_
              intro y245 hu248 tx249 sx250
              have bl251 := below_touched bl242 tx249 (by omega) (Nat.le_refl _)
              have h252 := h244.touch tx249 (by omega)
              refine hK.out _ _ bl251 (fun g246 => ?_)
              clear hK K
              (try simp only [gs])
              refine wpAnyH_ready (rs := [16]) (by kernel_rfl) (by simp) (AllReadyH.cons rfl (fun K hK => ?_) AllReadyH.nil)
              rw [if_pos (by rfl)]
              (try simp only [gs])
              refine store_key_op _ _ rfl (y199.heap.size) rfl eB.k rfl okB.len (zs 24) h252 ?_
              intro y253 hu256 tx257 sx258
              have bl259 := below_touched bl251 tx257 (by omega) (Nat.le_refl _)
              have h260 := hu248.touch tx257 (by omega)
              refine hK.out _ _ bl259 (fun g254 => ?_)
              clear hK K
              (try simp only [gs])
              refine wpAnyH_done (by kernel_rfl) ?_ _
              refine NoPanic.normal ?_
              go_wp2_with fail
              go_meet
              case rel => exact ⟨y0.heap.size, y199.heap.size, rfl, rfl, h260, hu256, bl259⟩
          · rw [if_pos (by rfl)]
            (try simp only [gs])
            go_simp
            have bl264 := bl196.alloc bl196.size (.cells #[.int .u8 0, .int .u8 0, .int .u8 0, .int .u8 0, .int .u8 0, .int .u8 0, .int .u8 0, .int .u8 0, .int .u8 0, .int .u8 0, .int .u8 0, .int .u8 0, .int .u8 0, .int .u8 0, .int .u8 0, .int .u8 0, .int .u8 0, .int .u8 0, .int .u8 0, .int .u8 0, .int .u8 0, .int .u8 0, .int .u8 0, .int .u8 0] 25)
            refine hK.out _ _ bl264 (fun g262 => ?_)
            clear hK K
            (try simp only [gs])
            have h265 := h197.alloc (.cells #[.int .u8 0, .int .u8 0, .int .u8 0, .int .u8 0, .int .u8 0, .int .u8 0, .int .u8 0, .int .u8 0, .int .u8 0, .int .u8 0, .int .u8 0, .int .u8 0, .int .u8 0, .int .u8 0, .int .u8 0, .int .u8 0, .int .u8 0, .int .u8 0, .int .u8 0, .int .u8 0, .int .u8 0, .int .u8 0, .int .u8 0, .int .u8 0] 25)
            have h265l := h197.lt
            have h266 : Has (y193.alloc (.cells #[.int .u8 0, .int .u8 0, .int .u8 0, .int .u8 0, .int .u8 0, .int .u8 0, .int .u8 0, .int .u8 0, .int .u8 0, .int .u8 0, .int .u8 0, .int .u8 0, .int .u8 0, .int .u8 0, .int .u8 0, .int .u8 0, .int .u8 0, .int .u8 0, .int .u8 0, .int .u8 0, .int .u8 0, .int .u8 0, .int .u8 0, .int .u8 0] 25)) y193.heap.size (zs 24) := zero_has _ _ rfl
            have ge267 := bl196.size
            generalize y193.alloc (.cells #[.int .u8 0, .int .u8 0, .int .u8 0, .int .u8 0, .int .u8 0, .int .u8 0, .int .u8 0, .int .u8 0, .int .u8 0, .int .u8 0, .int .u8 0, .int .u8 0, .int .u8 0, .int .u8 0, .int .u8 0, .int .u8 0, .int .u8 0, .int .u8 0, .int .u8 0, .int .u8 0, .int .u8 0, .int .u8 0, .int .u8 0, .int .u8 0] 25) = y261 at *
            refine wpAnyH_ready (rs := [6]) (by kernel_rfl) (by simp) (AllReadyH.cons rfl (fun K hK => ?_) AllReadyH.nil)
            rw [if_pos (by rfl)]
            (try simp only [gs])
            go_simp
            refine (keyP_calls _ eA okA).mono ?_
            rintro e y268 ⟨rfl, b270⟩
            have bl271 := bl264.trans (b270.mono bl264.size)
            refine hK.out _ _ bl271 (fun g269 => ?_)
            clear hK K
            (try simp only [gs])
            have h272 := h265.below b270 h265.lt
            have h273 := h266.below b270 h266.lt
            refine wpAnyH_ready (rs := [12]) (by kernel_rfl) (by simp) (AllReadyH.cons rfl (fun K hK => ?_) AllReadyH.nil)
            rw [if_pos (by rfl)]
            (try simp only [gs])
            go_simp
            refine (keyP_calls _ eB okB).mono ?_
            rintro e y274 ⟨rfl, b276⟩
            have bl277 := bl271.trans (b276.mono bl271.size)
            refine hK.out _ _ bl277 (fun g275 => ?_)
            clear hK K
            (try simp only [gs])
            have h278 := h272.below b276 h272.lt
            have h279 := h273.below b276 h273.lt
            refine wpAnyH_ready (rs := [15]) (by kernel_rfl) (by simp) (AllReadyH.cons rfl (fun K hK => ?_) AllReadyH.nil)
            rw [if_pos (by rfl)]
            (try simp only [gs])
            refine store_key_op _ _ rfl (y0.heap.size) rfl eA.k rfl okA.len (zs 24) h278 ?_
            intro y280 hu283 tx284 sx285
            have bl286 := below_touched bl277 tx284 (by omega) (Nat.le_refl _)
            have h287 := h279.touch tx284 (by omega)
            refine hK.out _ _ bl286 (fun g281 => ?_)
            clear hK K
            (try simp only [gs])
            refine wpAnyH_ready (rs := [16]) (by kernel_rfl) (by simp) (AllReadyH.cons rfl (fun K hK => ?_) AllReadyH.nil)
            rw [if_pos (by rfl)]
            (try simp only [gs])
            refine store_key_op _ _ rfl (y193.heap.size) rfl eB.k rfl okB.len (zs 24) h287 ?_
            intro y288 hu291 tx292 sx293
            have bl294 := below_touched bl286 tx292 (by omega) (Nat.le_refl _)
            have h295 := hu283.touch tx292 (by omega)
            refine hK.out _ _ bl294 (fun g289 => ?_)
            clear hK K
            (try simp only [gs])
            refine wpAnyH_done (by kernel_rfl) ?_ _
            refine NoPanic.normal ?_
            go_wp2_with fail
            go_meet
            case rel => exact ⟨y0.heap.size, y193.heap.size, rfl, rfl, h295, hu291, bl294⟩
        · rw [if_pos (by rfl)]
          (try simp only [gs])
          go_simp
          have bl299 := hHeld.alloc hHeld.size (.cells #[.int .u8 0, .int .u8 0, .int .u8 0, .int .u8 0, .int .u8 0, .int .u8 0, .int .u8 0, .int .u8 0, .int .u8 0, .int .u8 0, .int .u8 0, .int .u8 0, .int .u8 0, .int .u8 0, .int .u8 0, .int .u8 0, .int .u8 0, .int .u8 0, .int .u8 0, .int .u8 0, .int .u8 0, .int .u8 0, .int .u8 0, .int .u8 0] 25)
          refine hK.out _ _ bl299 (fun g297 => ?_)
          clear hK K
          (try simp only [gs])
          have h300 : Has (y0.alloc (.cells #[.int .u8 0, .int .u8 0, .int .u8 0, .int .u8 0, .int .u8 0, .int .u8 0, .int .u8 0, .int .u8 0, .int .u8 0, .int .u8 0, .int .u8 0, .int .u8 0, .int .u8 0, .int .u8 0, .int .u8 0, .int .u8 0, .int .u8 0, .int .u8 0, .int .u8 0, .int .u8 0, .int .u8 0, .int .u8 0, .int .u8 0, .int .u8 0] 25)) y0.heap.size (zs 24) := zero_has _ _ rfl
          have ge301 := hHeld.size
          generalize y0.alloc (.cells #[.int .u8 0, .int .u8 0, .int .u8 0, .int .u8 0, .int .u8 0, .int .u8 0, .int .u8 0, .int .u8 0, .int .u8 0, .int .u8 0, .int .u8 0, .int .u8 0, .int .u8 0, .int .u8 0, .int .u8 0, .int .u8 0, .int .u8 0, .int .u8 0, .int .u8 0, .int .u8 0, .int .u8 0, .int .u8 0, .int .u8 0, .int .u8 0] 25) = y296 at *
          refine wpAnyH_ready (rs := [6, 13]) (by kernel_rfl) (by simp) (AllReadyH.cons rfl (fun K hK => ?_) (AllReadyH.cons rfl (fun K hK => ?_) AllReadyH.nil))
          · rw [if_pos (by rfl)]
            (try simp only [gs])
            go_simp
            refine (keyP_calls _ eA okA).mono ?_
            rintro e y302 ⟨rfl, b304⟩
            have bl305 := bl299.trans (b304.mono bl299.size)
            refine hK.out _ _ bl305 (fun g303 => ?_)
            clear hK K
            (try simp only [gs])
            have h306 := h300.below b304 h300.lt
            refine wpAnyH_ready (rs := [12, 13]) (by kernel_rfl) (by simp) (AllReadyH.cons rfl (fun K hK => ?_) (AllReadyH.cons rfl (fun K hK => ?_) AllReadyH.nil))
            · rw [if_pos (by rfl)]
              (try simp only [gs])
              go_simp
              refine (keyP_calls _ eB okB).mono ?_
              rintro e y307 ⟨rfl, b309⟩
              have bl310 := bl305.trans (b309.mono bl305.size)
              refine hK.out _ _ bl310 (fun g308 => ?_)
              clear hK K
              (try simp only [gs])
              have h311 := h306.below b309 h306.lt
              refine wpAnyH_ready (rs := [13]) (by kernel_rfl) (by simp) (AllReadyH.cons rfl (fun K hK => ?_) AllReadyH.nil)
              rw [if_pos (by rfl)]
              (try simp only [gs])
              go_simp
              have bl315 := bl310.alloc bl310.size (.cells #[.int .u8 0, .int .u8 0, .int .u8 0, .int .u8 0, .int .u8 0, .int .u8 0, .int .u8 0, .int .u8 0, .int .u8 0, .int .u8 0, .int .u8 0, .int .u8 0, .int .u8 0, .int .u8 0, .int .u8 0, .int .u8 0, .int .u8 0, .int .u8 0, .int .u8 0, .int .u8 0, .int .u8 0, .int .u8 0, .int .u8 0, .int .u8 0] 25)
              refine hK.out _ _ bl315 (fun g313 => ?_)
              clear hK K
              (try simp only [gs])
              have h316 := h311.alloc (.cells #[.int .u8 0, .int .u8 0, .int .u8 0, .int .u8 0, .int .u8 0, .int .u8 0, .int .u8 0, .int .u8 0, .int .u8 0, .int .u8 0, .int .u8 0, .int .u8 0, .int .u8 0, .int .u8 0, .int .u8 0, .int .u8 0, .int .u8 0, .int .u8 0, .int .u8 0, .int .u8 0, .int .u8 0, .int .u8 0, .int .u8 0, .int .u8 0] 25)
              have h316l := h311.lt
              have h317 : Has (y307.alloc (.cells #[.int .u8 0, .int .u8 0, .int .u8 0, .int .u8 0, .int .u8 0, .int .u8 0, .int .u8 0, .int .u8 0, .int .u8 0, .int .u8 0, .int .u8 0, .int .u8 0, .int .u8 0, .int .u8 0, .int .u8 0, .int .u8 0, .int .u8 0, .int .u8 0, .int .u8 0, .int .u8 0, .int .u8 0, .int .u8 0, .int .u8 0, .int .u8 0] 25)) y307.heap.size (zs 24) := zero_has _ _ rfl
              have ge318 := bl310.size
              generalize y307.alloc (.cells #[.int .u8 0, .int .u8 0, .int .u8 0, .int .u8 0, .int .u8 0, .int .u8 0, .int .u8 0, .int .u8 0, .int .u8 0, .int .u8 0, .int .u8 0, .int .u8 0, .int .u8 0, .int .u8 0, .int .u8 0, .int .u8 0, .int .u8 0, .int .u8 0, .int .u8 0, .int .u8 0, .int .u8 0, .int .u8 0, .int .u8 0, .int .u8 0] 25) = y312 at *
              refine wpAnyH_ready (rs := [15]) (by kernel_rfl) (by simp) (AllReadyH.cons rfl (fun K hK => ?_) AllReadyH.nil)
              rw [if_pos (by rfl)]
              (try simp only [gs])
              refine store_key_op _ _ rfl (y307.heap.size) rfl eA.k rfl okA.len (zs 24) h317 ?_
              intro y319 hu322 tx323 sx324
              have bl325 := below_touched bl315 tx323 (by omega) (Nat.le_refl _)
              have h326 := h316.touch tx323 (by omega)
              refine hK.out _ _ bl325 (fun g320 => ?_)
              clear hK K
              (try simp only [gs])
              refine wpAnyH_ready (rs := [16]) (by kernel_rfl) (by simp) (AllReadyH.cons rfl (fun K hK => ?_) AllReadyH.nil)
              rw [if_pos (by rfl)]
              (try simp only [gs])
              refine store_key_op _ _ rfl (y0.heap.size) rfl eB.k rfl okB.len (zs 24) h326 ?_
              intro y327 hu330 tx331 sx332
              have bl333 := below_touched bl325 tx331 (by omega) (Nat.le_refl _)
              have h334 := hu322.touch tx331 (by omega)
              refine hK.out _ _ bl333 (fun g328 => ?_)
              clear hK K
              (try simp only [gs])
              refine wpAnyH_done (by kernel_rfl) ?_ _
              refine NoPanic.normal ?_
              go_wp2_with fail
              go_meet
              case rel => exact ⟨y307.heap.size, y0.heap.size, rfl, rfl, h334, hu330, bl333⟩
            · rw [if_pos (by rfl)]
              (try simp only [gs])
              go_simp
              have bl338 := bl305.alloc bl305.size (.cells #[.int .u8 0, .int .u8 0, .int .u8 0, .int .u8 0, .int .u8 0, .int .u8 0, .int .u8 0, .int .u8 0, .int .u8 0, .int .u8 0, .int .u8 0, .int .u8 0, .int .u8 0, .int .u8 0, .int .u8 0, .int .u8 0, .int .u8 0, .int .u8 0, .int .u8 0, .int .u8 0, .int .u8 0, .int .u8 0, .int .u8 0, .int .u8 0] 25)
              refine hK.out _ _ bl338 (fun g336 => ?_)
              clear hK K
              (try simp only [gs])
              have h339 := h306.alloc (.cells #[.int .u8 0, .int .u8 0, .int .u8 0, .int .u8 0, .int .u8 0, .int .u8 0, .int .u8 0, .int .u8 0, .int .u8 0, .int .u8 0, .int .u8 0, .int .u8 0, .int .u8 0, .int .u8 0, .int .u8 0, .int .u8 0, .int .u8 0, .int .u8 0, .int .u8 0, .int .u8 0, .int .u8 0, .int .u8 0, .int .u8 0, .int .u8 0] 25)
              have h339l := h306.lt
              have h340 : Has (y302.alloc (.cells #[.int .u8 0, .int .u8 0, .int .u8 0, .int .u8 0, .int .u8 0, .int .u8 0, .int .u8 0, .int .u8 0, .int .u8 0, .int .u8 0, .int .u8 0, .int .u8 0, .int .u8 0, .int .u8 0, .int .u8 0, .int .u8 0, .int .u8 0, .int .u8 0, .int .u8 0, .int .u8 0, .int .u8 0, .int .u8 0, .int .u8 0, .int .u8 0] 25)) y302.heap.size (zs 24) := zero_has _ _ rfl
              have ge341 := bl305.size
              generalize y302.alloc (.cells #[.int .u8 0, .int .u8 0, .int .u8 0, .int .u8 0, .int .u8 0, .int .u8 0, .int .u8 0, .int .u8 0, .int .u8 0, .int .u8 0, .int .u8 0, .int .u8 0, .int .u8 0, .int .u8 0, .int .u8 0, .int .u8 0, .int .u8 0, .int .u8 0, .int .u8 0, .int .u8 0, .int .u8 0, .int .u8 0, .int .u8 0, .int .u8 0] 25) = y335 at *
              refine wpAnyH_ready (rs := [12]) (by kernel_rfl) (by simp) (AllReadyH.cons rfl (fun K hK => ?_) AllReadyH.nil)
              rw [if_pos (by rfl)]
              (try simp only [gs])
              go_simp
              refine (keyP_calls _ eB okB).mono ?_
              rintro e y342 ⟨rfl, b344⟩
              have bl345 := bl338.trans (b344.mono bl338.size)
              refine hK.out _ _ bl345 (fun g343 => ?_)
              clear hK K
              (try simp only [gs])
              have h346 := h340.below b344 h340.lt
              have h347 := h339.below b344 h339.lt
              refine wpAnyH_ready (rs := [15]) (by kernel_rfl) (by simp) (AllReadyH.cons rfl (fun K hK => ?_) AllReadyH.nil)
              rw [if_pos (by rfl)]
              (try simp only [gs])
              refine store_key_op _ _ rfl (y302.heap.size) rfl eA.k rfl okA.len (zs 24) h346 ?_
              intro y348 hu351 tx352 sx353
              have bl354 := below_touched bl345 tx352 (by omega) (Nat.le_refl _)
              have h355 := h347.touch tx352 (by omega)
              refine hK.out _ _ bl354 (fun g349 => ?_)
              clear hK K
              (try simp only [gs])
              refine wpAnyH_ready (rs := [16]) (by kernel_rfl) (by simp) (AllReadyH.cons rfl (fun K hK => ?_) AllReadyH.nil)
              rw [if_pos (by rfl)]
              (try simp only [gs])
              refine store_key_op _ _ rfl (y0.heap.size) rfl eB.k rfl okB.len (zs 24) h355 ?_
              intro y356 hu359 tx360 sx361
              have bl362 := below_touched bl354 tx360 (by omega) (Nat.le_refl _)
              have h363 := hu351.touch tx360 (by omega)
              refine hK.out _ _ bl362 (fun g357 => ?_)
              clear hK K
              (try simp only [gs])
              refine wpAnyH_done (by kernel_rfl) ?_ _
              refine NoPanic.normal ?_
              go_wp2_with fail
              go_meet
              case rel => exact ⟨y302.heap.size, y0.heap.size, rfl, rfl, h363, hu359, bl362⟩
          · rw [if_pos (by rfl)]
            (try simp only [gs])
            go_simp
            have bl367 := bl299.alloc bl299.size (.cells #[.int .u8 0, .int .u8 0, .int .u8 0, .int .u8 0, .int .u8 0, .int .u8 0, .int .u8 0, .int .u8 0, .int .u8 0, .int .u8 0, .int .u8 0, .int .u8 0, .int .u8 0, .int .u8 0, .int .u8 0, .int .u8 0, .int .u8 0, .int .u8 0, .int .u8 0, .int .u8 0, .int .u8 0, .int .u8 0, .int .u8 0, .int .u8 0] 25)
            refine hK.out _ _ bl367 (fun g365 => ?_)
            clear hK K
            (try simp only [gs])
            have h368 := h300.alloc (.cells #[.int .u8 0, .int .u8 0, .int .u8 0, .int .u8 0, .int .u8 0, .int .u8 0, .int .u8 0, .int .u8 0, .int .u8 0, .int .u8 0, .int .u8 0, .int .u8 0, .int .u8 0, .int .u8 0, .int .u8 0, .int .u8 0, .int .u8 0, .int .u8 0, .int .u8 0, .int .u8 0, .int .u8 0, .int .u8 0, .int .u8 0, .int .u8 0] 25)
            have h368l := h300.lt
            have h369 : Has (y296.alloc (.cells #[.int .u8 0, .int .u8 0, .int .u8 0, .int .u8 0, .int .u8 0, .int .u8 0, .int .u8 0, .int .u8 0, .int .u8 0, .int .u8 0, .int .u8 0, .int .u8 0, .int .u8 0, .int .u8 0, .int .u8 0, .int .u8 0, .int .u8 0, .int .u8 0, .int .u8 0, .int .u8 0, .int .u8 0, .int .u8 0, .int .u8 0, .int .u8 0] 25)) y296.heap.size (zs 24) := zero_has _ _ rfl
            have ge370 := bl299.size
            generalize y296.alloc (.cells #[.int .u8 0, .int .u8 0, .int .u8 0, .int .u8 0, .int .u8 0, .int .u8 0, .int .u8 0, .int .u8 0, .int .u8 0, .int .u8 0, .int .u8 0, .int .u8 0, .int .u8 0, .int .u8 0, .int .u8 0, .int .u8 0, .int .u8 0, .int .u8 0, .int .u8 0, .int .u8 0, .int .u8 0, .int .u8 0, .int .u8 0, .int .u8 0] 25) = y364 at *
            refine wpAnyH_ready (rs := [6]) (by kernel_rfl) (by simp) (AllReadyH.cons rfl (fun K hK => ?_) AllReadyH.nil)
            rw [if_pos (by rfl)]
            (try simp only [gs])
            go_simp
            refine (keyP_calls _ eA okA).mono ?_
            rintro e y371 ⟨rfl, b373⟩
            have bl374 := bl367.trans (b373.mono bl367.size)
            refine hK.out _ _ bl374 (fun g372 => ?_)
            clear hK K
            (try simp only [gs])
            have h375 := h369.below b373 h369.lt
            have h376 := h368.below b373 h368.lt
            refine wpAnyH_ready (rs := [12]) (by kernel_rfl) (by simp) (AllReadyH.cons rfl (fun K hK => ?_) AllReadyH.nil)
            rw [if_pos (by rfl)]
            (try simp only [gs])
            go_simp
            refine (keyP_calls _ eB okB).mono ?_
            rintro e y377 ⟨rfl, b379⟩
            have bl380 := bl374.trans (b379.mono bl374.size)
            refine hK.out _ _ bl380 (fun g378 => ?_)
            clear hK K
            (try simp only [gs])
            have h381 := h375.below b379 h375.lt
            have h382 := h376.below b379 h376.lt
            refine wpAnyH_ready (rs := [15]) (by kernel_rfl) (by simp) (AllReadyH.cons rfl (fun K hK => ?_) AllReadyH.nil)
            rw [if_pos (by rfl)]
            (try simp only [gs])
            refine store_key_op _ _ rfl (y296.heap.size) rfl eA.k rfl okA.len (zs 24) h381 ?_
            intro y383 hu386 tx387 sx388
            have bl389 := below_touched bl380 tx387 (by omega) (Nat.le_refl _)
            have h390 := h382.touch tx387 (by omega)
            refine hK.out _ _ bl389 (fun g384 => ?_)
            clear hK K
            (try simp only [gs])
            refine wpAnyH_ready (rs := [16]) (by kernel_rfl) (by simp) (AllReadyH.cons rfl (fun K hK => ?_) AllReadyH.nil)
            rw [if_pos (by rfl)]
            (try simp only [gs])
            refine store_key_op _ _ rfl (y0.heap.size) rfl eB.k rfl okB.len (zs 24) h390 ?_
            intro y391 hu394 tx395 sx396
            have bl397 := below_touched bl389 tx395 (by omega) (Nat.le_refl _)
            have h398 := hu386.touch tx395 (by omega)
            refine hK.out _ _ bl397 (fun g392 => ?_)
            clear hK K
            (try simp only [gs])
            refine wpAnyH_done (by kernel_rfl) ?_ _
            refine NoPanic.normal ?_
            go_wp2_with fail
            go_meet
            case rel => exact ⟨y296.heap.size, y0.heap.size, rfl, rfl, h398, hu394, bl397⟩
      case rest =>
        obtain ⟨p, q, rfl, rfl, HA, HB, hbc⟩ := hcut
        clear hbel
        have HHA : Hid (Has _ p eA.k) := HA
        have HHB : Hid (Has _ q eB.k) := HB
        clear HA HB
        go_wp2_with fail
        go_loopg [28] 24 (fun g2 i wy => ∃ j : Nat, j + g2 = 24 ∧ i = .int .i64 (j : Int) ∧ Hid (Has wy p eA.k ∧ Has wy q eB.k ∧ Below w.heap.size w wy) ∧ Hid (Op.bytesLess eA.k eB.k = Op.bytesLess (eA.k.drop j) (eB.k.drop j)))
        case atStart => exact ⟨0, rfl, rfl, ⟨HHA.out, HHB.out, hbc⟩, (show Op.bytesLess eA.k eB.k = Op.bytesLess (eA.k.drop 0) (eB.k.drop 0) from rfl)⟩
        case round =>
          obtain ⟨j, hjg, rfl, HP, HJ⟩ := hrel
          have lA := okA.len
          have lB := okB.len
          cases gk with
          | zero =>
            have hj : j = 24 := by omega
            subst hj
            go_wp2_with fail
            try rw [Exit.noGoto_ret]
            go_ret
            exact ⟨by rw [HE3.out, HJ.out, less_end _ _ lA lB]; rfl, HP.out.2.2⟩
          | succ g2 =>
            have hj24 : j < 24 := by omega
            have hjI : (j : Int) < 24 := by omega
            have hj0 : (0 : Int) ≤ (j : Int) := by omega
            have cA := HP.out.1.cell j hj24
            have cB := HP.out.2.1.cell j hj24
            have HJ2 : Hid (Op.bytesLess eA.k eB.k = _) := (show _ = _ by rw [HJ.out, less_drop _ _ _ (by omega) (by omega)])
            clear HJ
            generalize (eA.k.getD j 0).toNat = x at *
            generalize (eB.k.getD j 0).toNat = y at *
            rcases Nat.lt_trichotomy x y with hxy | hxy | hxy
            · have q1 : (x : Int) < (y : Int) := by omega
              go_upto_region 8 with fail
              go_quiet (fail)
              go_wp2_with fail
              go_roundg g
              case measure => omega
              case rel => exact ⟨k + 1, by omega, congrArg (Value.int .i64) HKS.out, below_drewN HP.out.2.2 _, by rw [HE3.out, HJ2.out, decide_eq_true hxy]; rfl⟩
            · have q1 : ¬ (x : Int) < (y : Int) := by omega
              have q2 : ¬ (y : Int) < (x : Int) := by omega
              go_upto_region 8 with fail
              go_quiet (fail)
              go_upto_region 9 with fail
              go_quiet (fail)
              go_wp2_with fail
              go_roundg g2
              case measure => omega
              case rel => exact ⟨j + 1, by omega, by go_num, ⟨HP.out.1.drewN _, HP.out.2.1.drewN _, below_drewN HP.out.2.2 _⟩, by rw [HJ2.out, decide_eq_false (show ¬ x < y by omega), show (x == y) = true by simp [hxy]]; rfl⟩
            · have q1 : ¬ (x : Int) < (y : Int) := by omega
              have q2 : (y : Int) < (x : Int) := by omega
              go_upto_region 8 with fail
              go_quiet (fail)
              go_upto_region 9 with fail
              go_quiet (fail)
              go_wp2_with fail
              try rw [Exit.noGoto_ret]
              go_ret
              exact ⟨by rw [HE3.out, HJ2.out, decide_eq_false (show ¬ x < y by omega), show (x == y) = false by simp; omega]; rfl, below_drewN HP.out.2.2 _⟩
    · have hltI : ¬ ((((k + 1 : Nat) : Int)) < (N : Int)) := by omega
      go_wp2_with fail
      try rw [Exit.noGoto_ret]
      go_ret
      exact ⟨by rw [HE.out, rises_end l k (by rw [← HN.out]; omega)]; rfl, hbel⟩
set_option maxHeartbeats 8000000 in
set_option maxRecDepth 100000 in
theorem riseK_calls (w : World) (sv : Value) (l : List El) (r : Option Nat) (h : ElsIn w sv l r) :
    Calls Tryz.prog 91 #[sv, .func (Fn.func 65) #[] #[]] w fun e w' => e = .returned (.bool (rises (l.map El.k))) ∧ Below w.heap.size w w' := by
  obtain ⟨ad, cap, rfl, hcap, hmax, hok, hin⟩ := h
  obtain ⟨N, hN⟩ : ∃ N : Nat, N = l.length := ⟨_, rfl⟩
  rw [← hN] at hcap hmax ⊢
  have HN : Hid (N = l.length) := hN
  have HW : Hid (∀ k : Nat, k < N → wrap64 ((k : Int) + 1) = ((k + 1 : Nat) : Int)) := fun k hk => wrap_succ hk hmax
  have HW2 : Hid (∀ k : Nat, k < N → IntKind.i64.wrap (k : Int) = (k : Int)) := fun k hk => wrap_self hk hmax
  clear hmax
  have HI : Hid (∀ i (hi : i < l.length), ∃ g off, ad = some ⟨g, off, none⟩ ∧ g < w.heap.size ∧ w.rangeAt g (off + i * 25) (ec l[i]) ∧ (l[i]).Ok) := fun i hi => by
    rcases hin with e | ⟨g, off, h1, _, h2, h3⟩
    · rw [e] at hi; simp at hi
    · exact ⟨g, off, h1, h2, h3 i hi, hok i hi⟩
  have hiE : ∀ e : El, e.Ok → (Tryz.prog.info? 93).map (·.size) = some (ec e).length := fun e he => by rw [ec_length he]; exact Tryz.info_K
  have HIE : Hid (∀ e : El, e.Ok → (Tryz.prog.info? 93).map (·.size) = some (ec e).length) := hiE
  clear hN hin hok hiE
  go_enter Tryz.func91, Tryz.ntmps91
  go_wp2
  go_step3
  go_wp2
  go_step3
  go_wp2
  go_loopg [5] N (fun g i wr => ∃ k : Nat, k + g = N ∧ i = .int .i64 ((k + 1 : Nat) : Int) ∧ Below w.heap.size w wr ∧ Hid (rises (l.map El.k) = rises ((l.drop k).map El.k)))
  case atStart => exact ⟨0, by omega, rfl, Below.refl _ _, (show rises (l.map El.k) = rises ((l.drop 0).map El.k) from rfl)⟩
  case round =>
    obtain ⟨k, hkg, rfl, hbel, HE⟩ := hrel
    by_cases hlt : k + 1 < N
    · have hk1 : k + 1 < l.length := by rw [← HN.out]; exact hlt
      obtain ⟨g0, off, rfl, hg, hatA, okA⟩ := HI.out k (by omega)
      obtain ⟨g', off', e', _, hatB, okB⟩ := HI.out (k + 1) hk1
      cases e'
      have RA : Hid (∀ yy, Below w.heap.size w yy → yy.rangeAt g0 (off + k * 25) (ec (l[k]'(by omega)))) := fun yy hb => range_same hatA (hb.block g0 hg)
      have RB : Hid (∀ yy, Below w.heap.size w yy → yy.rangeAt g0 (off + (k + 1) * 25) (ec l[k + 1])) := fun yy hb => range_same hatB (hb.block g0 hg)
      have HE3 : Hid (rises (l.map El.k) = (Op.bytesLess (l[k]'(by omega)).k (l[k + 1]).k && rises ((l.drop (k + 1)).map El.k))) := (show _ = _ by rw [HE.out, rises_drop l k hk1])
      clear HE hatA hatB
      generalize l[k]'(by omega) = eA at *
      generalize l[k + 1] = eB at *
      have hltI : (((k + 1 : Nat) : Int)) < (N : Int) := by omega
      have hk0 : (0 : Int) ≤ (((k + 1 : Nat) : Int)) - 1 := by omega
      have hkN : (((k + 1 : Nat) : Int)) - 1 < (N : Int) := by omega
      have hk0' : (0 : Int) ≤ (k : Int) := by omega
      have hk1' : (0 : Int) ≤ (k : Int) + 1 := by omega
      obtain ⟨g, rfl⟩ : ∃ g, gk = g + 1 := ⟨gk - 1, by omega⟩
      have hkN' : (k : Int) < (N : Int) := by omega
      have HKS : Hid (wrap64 ((k : Int) + 1 + 1) = ((k + 1 + 1 : Nat) : Int)) := (show _ = _ by have := HW.out (k + 1) hlt; push_cast at this; push_cast; exact this)
      have HKW : Hid (IntKind.i64.wrap (k : Int) = (k : Int)) := HW2.out k (by omega)
      go_upto_region 4 with fail
      go_cut [6, 7] (fun a b wc => ∃ p q, a = .pointer (some ⟨p, 0, none⟩) ∧ b = .pointer (some ⟨q, 0, none⟩) ∧ Has wc p eA.k ∧ Has wc q eB.k ∧ Below w.heap.size w wc)
      case first =>
        refine wp_region_noPanic ?_
        refine wp_region_held_drew (S := (fun yy => Below w.heap.size w yy)) (by kernel_rfl) (below_drewN hbel 1) (fun hHeld => ?_)
        refine wpAnyH_take (i := 0) (v := ?_) rfl (by kernel_rfl) (by kernel_rfl) (by kernel_rfl) (fun _ _ _ h => h) (Or.inl ⟨by rfl, ?_⟩) hHeld ?_
        case refine_2 => (intro w hSw; (try dsimp only at hSw); go_simp; try (with_reducible rfl))
        (try simp only [gs])
        refine wpAnyH_take (i := 1) (v := ?_) rfl (by kernel_rfl) (by kernel_rfl) (by kernel_rfl) (fun _ _ _ h => h) (Or.inl ⟨by rfl, ?_⟩) hHeld ?_
        case refine_2 => (intro w hSw; (try dsimp only at hSw); go_simp; try (with_reducible rfl))
        (try simp only [gs])
        refine wpAnyH_take (i := 2) (v := ?_) rfl (by kernel_rfl) (by kernel_rfl) (by kernel_rfl) (fun _ _ _ h => h) (Or.inl ⟨by rfl, ?_⟩) hHeld ?_
        case refine_2 => (intro w hSw; (try dsimp only at hSw); go_simp; try (with_reducible rfl))
        (try simp only [gs])
        refine wpAnyH_take (i := 3) (v := .int .i64 (k : Int)) rfl (by kernel_rfl) (by kernel_rfl) (by kernel_rfl) (fun _ _ _ h => h) (Or.inl ⟨by rfl, ?_⟩) hHeld ?_
        case refine_1 => (intro w hSw; go_simp; rw [HKW.out])
        (try simp only [gs])
        refine wpAnyH_take (i := 4) (v := ?_) rfl (by kernel_rfl) (by kernel_rfl) (by kernel_rfl) (fun _ _ _ h => h) (Or.inl ⟨by rfl, ?_⟩) hHeld ?_
        case refine_2 => (intro w hSw; (try dsimp only at hSw); go_simp; try (with_reducible rfl))
        (try simp only [gs])
        refine wpAnyH_take (i := 5) rfl (by kernel_rfl) (by kernel_rfl) (by kernel_rfl) (fun _ _ _ h => h) (yieldsIf_load_mid (by rfl) _ _ rfl g0 (off + k * 25) rfl _ _ RA.out Tryz.underlying93 rfl (HIE.out _ okA)) hHeld ?_
        (try simp only [gs])
        refine wpAnyH_take (i := 7) (v := ?_) rfl (by kernel_rfl) (by kernel_rfl) (by kernel_rfl) (fun _ _ _ h => h) (Or.inl ⟨by rfl, ?_⟩) hHeld ?_
        case refine_2 => (intro w hSw; (try dsimp only at hSw); go_simp; try (with_reducible rfl))
        (try simp only [gs])
        refine wpAnyH_take (i := 8) (v := ?_) rfl (by kernel_rfl) (by kernel_rfl) (by kernel_rfl) (fun _ _ _ h => h) (Or.inl ⟨by rfl, ?_⟩) hHeld ?_
        case refine_2 => (intro w hSw; (try dsimp only at hSw); go_simp; try (with_reducible rfl))
        (try simp only [gs])
        refine wpAnyH_take (i := 9) (v := ?_) rfl (by kernel_rfl) (by kernel_rfl) (by kernel_rfl) (fun _ _ _ h => h) (Or.inl ⟨by rfl, ?_⟩) hHeld ?_
        case refine_2 => (intro w hSw; (try dsimp only at hSw); go_simp; try (with_reducible rfl))
        (try simp only [gs])
        refine wpAnyH_take (i := 10) (v := ?_) rfl (by kernel_rfl) (by kernel_rfl) (by kernel_rfl) (fun _ _ _ h => h) (Or.inl ⟨by rfl, ?_⟩) hHeld ?_
        case refine_2 => (intro w hSw; (try dsimp only at hSw); go_simp; try (with_reducible rfl))
        (try simp only [gs])
        refine wpAnyH_take (i := 11) rfl (by kernel_rfl) (by kernel_rfl) (by kernel_rfl) (fun _ _ _ h => h) (yieldsIf_load_mid (by rfl) _ _ rfl g0 (off + (k + 1) * 25) rfl _ _ RB.out Tryz.underlying93 rfl (HIE.out _ okB)) hHeld ?_
        (try simp only [gs])
        generalize wr.drew = y0 at *
        refine wpAnyH_ready (rs := [6, 13, 14]) (by kernel_rfl) (by simp) (AllReadyH.cons rfl (fun K hK => ?_) (AllReadyH.cons rfl (fun K hK => ?_) (AllReadyH.cons rfl (fun K hK => ?_) AllReadyH.nil)))
        · rw [if_pos (by rfl)]
          (try simp only [gs])
          go_simp
          refine (keyK_calls _ eA okA).mono ?_
          rintro e y399 ⟨rfl, b401⟩
          have bl402 := hHeld.trans (b401.mono hHeld.size)
          refine hK.out _ _ bl402 (fun g400 => ?_)
          clear hK K
          (try simp only [gs])
          refine wpAnyH_ready (rs := [12, 13, 14]) (by kernel_rfl) (by simp) (AllReadyH.cons rfl (fun K hK => ?_) (AllReadyH.cons rfl (fun K hK => ?_) (AllReadyH.cons rfl (fun K hK => ?_) AllReadyH.nil)))
          · rw [if_pos (by rfl)]
            (try simp only [gs])
            go_simp
            refine (keyK_calls _ eB okB).mono ?_
            rintro e y403 ⟨rfl, b405⟩
            have bl406 := bl402.trans (b405.mono bl402.size)
            refine hK.out _ _ bl406 (fun g404 => ?_)
            clear hK K
            (try simp only [gs])
            refine wpAnyH_ready (rs := [13, 14]) (by kernel_rfl) (by simp) (AllReadyH.cons rfl (fun K hK => ?_) (AllReadyH.cons rfl (fun K hK => ?_) AllReadyH.nil))
            · rw [if_pos (by rfl)]
              (try simp only [gs])
              go_simp
              have bl410 := bl406.alloc bl406.size (.cells #[.int .u8 0, .int .u8 0, .int .u8 0, .int .u8 0, .int .u8 0, .int .u8 0, .int .u8 0, .int .u8 0, .int .u8 0, .int .u8 0, .int .u8 0, .int .u8 0, .int .u8 0, .int .u8 0, .int .u8 0, .int .u8 0, .int .u8 0, .int .u8 0, .int .u8 0, .int .u8 0, .int .u8 0, .int .u8 0, .int .u8 0, .int .u8 0] 25)
              refine hK.out _ _ bl410 (fun g408 => ?_)
              clear hK K
              (try simp only [gs])
              have h411 : Has (y403.alloc (.cells #[.int .u8 0, .int .u8 0, .int .u8 0, .int .u8 0, .int .u8 0, .int .u8 0, .int .u8 0, .int .u8 0, .int .u8 0, .int .u8 0, .int .u8 0, .int .u8 0, .int .u8 0, .int .u8 0, .int .u8 0, .int .u8 0, .int .u8 0, .int .u8 0, .int .u8 0, .int .u8 0, .int .u8 0, .int .u8 0, .int .u8 0, .int .u8 0] 25)) y403.heap.size (zs 24) := zero_has _ _ rfl
              have ge412 := bl406.size
              generalize y403.alloc (.cells #[.int .u8 0, .int .u8 0, .int .u8 0, .int .u8 0, .int .u8 0, .int .u8 0, .int .u8 0, .int .u8 0, .int .u8 0, .int .u8 0, .int .u8 0, .int .u8 0, .int .u8 0, .int .u8 0, .int .u8 0, .int .u8 0, .int .u8 0, .int .u8 0, .int .u8 0, .int .u8 0, .int .u8 0, .int .u8 0, .int .u8 0, .int .u8 0] 25) = y407 at *
              refine wpAnyH_ready (rs := [14]) (by kernel_rfl) (by simp) (AllReadyH.cons rfl (fun K hK => ?_) AllReadyH.nil)
              rw [if_pos (by rfl)]
              (try simp only [gs])
              go_simp
              have bl416 := bl410.alloc bl410.size (.cells #[.int .u8 0, .int .u8 0, .int .u8 0, .int .u8 0, .int .u8 0, .int .u8 0, .int .u8 0, .int .u8 0, .int .u8 0, .int .u8 0, .int .u8 0, .int .u8 0, .int .u8 0, .int .u8 0, .int .u8 0, .int .u8 0, .int .u8 0, .int .u8 0, .int .u8 0, .int .u8 0, .int .u8 0, .int .u8 0, .int .u8 0, .int .u8 0] 25)
              refine hK.out _ _ bl416 (fun g414 => ?_)
              clear hK K
              (try simp only [gs])
              have h417 := h411.alloc (.cells #[.int .u8 0, .int .u8 0, .int .u8 0, .int .u8 0, .int .u8 0, .int .u8 0, .int .u8 0, .int .u8 0, .int .u8 0, .int .u8 0, .int .u8 0, .int .u8 0, .int .u8 0, .int .u8 0, .int .u8 0, .int .u8 0, .int .u8 0, .int .u8 0, .int .u8 0, .int .u8 0, .int .u8 0, .int .u8 0, .int .u8 0, .int .u8 0] 25)
              have h417l := h411.lt
              have h418 : Has (y407.alloc (.cells #[.int .u8 0, .int .u8 0, .int .u8 0, .int .u8 0, .int .u8 0, .int .u8 0, .int .u8 0, .int .u8 0, .int .u8 0, .int .u8 0, .int .u8 0, .int .u8 0, .int .u8 0, .int .u8 0, .int .u8 0, .int .u8 0, .int .u8 0, .int .u8 0, .int .u8 0, .int .u8 0, .int .u8 0, .int .u8 0, .int .u8 0, .int .u8 0] 25)) y407.heap.size (zs 24) := zero_has _ _ rfl
              have ge419 := bl410.size
              generalize y407.alloc (.cells #[.int .u8 0, .int .u8 0, .int .u8 0, .int .u8 0, .int .u8 0, .int .u8 0, .int .u8 0, .int .u8 0, .int .u8 0, .int .u8 0, .int .u8 0, .int .u8 0, .int .u8 0, .int .u8 0, .int .u8 0, .int .u8 0, .int .u8 0, .int .u8 0, .int .u8 0, .int .u8 0, .int .u8 0, .int .u8 0, .int .u8 0, .int .u8 0] 25) = y413 at *
              refine wpAnyH_ready (rs := [15]) (by kernel_rfl) (by simp) (AllReadyH.cons rfl (fun K hK => ?_) AllReadyH.nil)
              rw [if_pos (by rfl)]
              (try simp only [gs])
              refine store_key_op _ _ rfl (y403.heap.size) rfl eA.k rfl okA.len (zs 24) h417 ?_
              intro y420 hu423 tx424 sx425
              have bl426 := below_touched bl416 tx424 (by omega) (Nat.le_refl _)
              have h427 := h418.touch tx424 (by omega)
              refine hK.out _ _ bl426 (fun g421 => ?_)
              clear hK K
              (try simp only [gs])
              refine wpAnyH_ready (rs := [16]) (by kernel_rfl) (by simp) (AllReadyH.cons rfl (fun K hK => ?_) AllReadyH.nil)
              rw [if_pos (by rfl)]
              (try simp only [gs])
              refine store_key_op _ _ rfl (y407.heap.size) rfl eB.k rfl okB.len (zs 24) h427 ?_
              intro y428 hu431 tx432 sx433
              have bl434 := below_touched bl426 tx432 (by omega) (Nat.le_refl _)
              have h435 := hu423.touch tx432 (by omega)
              refine hK.out _ _ bl434 (fun g429 => ?_)
              clear hK K
              (try simp only [gs])
              refine wpAnyH_done (by kernel_rfl) ?_ _
              refine NoPanic.normal ?_
              go_wp2_with fail
              go_meet
              case rel => exact ⟨y403.heap.size, y407.heap.size, rfl, rfl, h435, hu431, bl434⟩
            · rw [if_pos (by rfl)]
              (try simp only [gs])
              go_simp
              have bl439 := bl406.alloc bl406.size (.cells #[.int .u8 0, .int .u8 0, .int .u8 0, .int .u8 0, .int .u8 0, .int .u8 0, .int .u8 0, .int .u8 0, .int .u8 0, .int .u8 0, .int .u8 0, .int .u8 0, .int .u8 0, .int .u8 0, .int .u8 0, .int .u8 0, .int .u8 0, .int .u8 0, .int .u8 0, .int .u8 0, .int .u8 0, .int .u8 0, .int .u8 0, .int .u8 0] 25)
              refine hK.out _ _ bl439 (fun g437 => ?_)
              clear hK K
              (try simp only [gs])
              have h440 : Has (y403.alloc (.cells #[.int .u8 0, .int .u8 0, .int .u8 0, .int .u8 0, .int .u8 0, .int .u8 0, .int .u8 0, .int .u8 0, .int .u8 0, .int .u8 0, .int .u8 0, .int .u8 0, .int .u8 0, .int .u8 0, .int .u8 0, .int .u8 0, .int .u8 0, .int .u8 0, .int .u8 0, .int .u8 0, .int .u8 0, .int .u8 0, .int .u8 0, .int .u8 0] 25)) y403.heap.size (zs 24) := zero_has _ _ rfl
              have ge441 := bl406.size
              generalize y403.alloc (.cells #[.int .u8 0, .int .u8 0, .int .u8 0, .int .u8 0, .int .u8 0, .int .u8 0, .int .u8 0, .int .u8 0, .int .u8 0, .int .u8 0, .int .u8 0, .int .u8 0, .int .u8 0, .int .u8 0, .int .u8 0, .int .u8 0, .int .u8 0, .int .u8 0, .int .u8 0, .int .u8 0, .int .u8 0, .int .u8 0, .int .u8 0, .int .u8 0] 25) = y436 at *
              refine wpAnyH_ready (rs := [13]) (by kernel_rfl) (by simp) (AllReadyH.cons rfl (fun K hK => ?_) AllReadyH.nil)
              rw [if_pos (by rfl)]
              (try simp only [gs])
              go_simp
              have bl445 := bl439.alloc bl439.size (.cells #[.int .u8 0, .int .u8 0, .int .u8 0, .int .u8 0, .int .u8 0, .int .u8 0, .int .u8 0, .int .u8 0, .int .u8 0, .int .u8 0, .int .u8 0, .int .u8 0, .int .u8 0, .int .u8 0, .int .u8 0, .int .u8 0, .int .u8 0, .int .u8 0, .int .u8 0, .int .u8 0, .int .u8 0, .int .u8 0, .int .u8 0, .int .u8 0] 25)
              refine hK.out _ _ bl445 (fun g443 => ?_)
              clear hK K
              (try simp only [gs])
              have h446 := h440.alloc (.cells #[.int .u8 0, .int .u8 0, .int .u8 0, .int .u8 0, .int .u8 0, .int .u8 0, .int .u8 0, .int .u8 0, .int .u8 0, .int .u8 0, .int .u8 0, .int .u8 0, .int .u8 0, .int .u8 0, .int .u8 0, .int .u8 0, .int .u8 0, .int .u8 0, .int .u8 0, .int .u8 0, .int .u8 0, .int .u8 0, .int .u8 0, .int .u8 0] 25)
              have h446l := h440.lt
              have h447 : Has (y436.alloc (.cells #[.int .u8 0, .int .u8 0, .int .u8 0, .int .u8 0, .int .u8 0, .int .u8 0, .int .u8 0, .int .u8 0, .int .u8 0, .int .u8 0, .int .u8 0, .int .u8 0, .int .u8 0, .int .u8 0, .int .u8 0, .int .u8 0, .int .u8 0, .int .u8 0, .int .u8 0, .int .u8 0, .int .u8 0, .int .u8 0, .int .u8 0, .int .u8 0] 25)) y436.heap.size (zs 24) := zero_has _ _ rfl
              have ge448 := bl439.size
              generalize y436.alloc (.cells #[.int .u8 0, .int .u8 0, .int .u8 0, .int .u8 0, .int .u8 0, .int .u8 0, .int .u8 0, .int .u8 0, .int .u8 0, .int .u8 0, .int .u8 0, .int .u8 0, .int .u8 0, .int .u8 0, .int .u8 0, .int .u8 0, .int .u8 0, .int .u8 0, .int .u8 0, .int .u8 0, .int .u8 0, .int .u8 0, .int .u8 0, .int .u8 0] 25) = y442 at *
              refine wpAnyH_ready (rs := [15]) (by kernel_rfl) (by simp) (AllReadyH.cons rfl (fun K hK => ?_) AllReadyH.nil)
              rw [if_pos (by rfl)]
              (try simp only [gs])
              refine store_key_op _ _ rfl (y436.heap.size) rfl eA.k rfl okA.len (zs 24) h447 ?_
              intro y449 hu452 tx453 sx454
              have bl455 := below_touched bl445 tx453 (by omega) (Nat.le_refl _)
              have h456 := h446.touch tx453 (by omega)
              refine hK.out _ _ bl455 (fun g450 => ?_)
              clear hK K
              (try simp only [gs])
              refine wpAnyH_ready (rs := [16]) (by kernel_rfl) (by simp) (AllReadyH.cons rfl (fun K hK => ?_) AllReadyH.nil)
              rw [if_pos (by rfl)]
              (try simp only [gs])
              refine store_key_op _ _ rfl (y403.heap.size) rfl eB.k rfl okB.len (zs 24) h456 ?_
              intro y457 hu460 tx461 sx462
              have bl463 := below_touched bl455 tx461 (by omega) (Nat.le_refl _)
              have h464 := hu452.touch tx461 (by omega)
              refine hK.out _ _ bl463 (fun g458 => ?_)
              clear hK K
              (try simp only [gs])
              refine wpAnyH_done (by kernel_rfl) ?_ _
              refine NoPanic.normal ?_
              go_wp2_with fail
              go_meet
              case rel => exact ⟨y436.heap.size, y403.heap.size, rfl, rfl, h464, hu460, bl463⟩
          · rw [if_pos (by rfl)]
            (try simp only [gs])
            go_simp
            have bl468 := bl402.alloc bl402.size (.cells #[.int .u8 0, .int .u8 0, .int .u8 0, .int .u8 0, .int .u8 0, .int .u8 0, .int .u8 0, .int .u8 0, .int .u8 0, .int .u8 0, .int .u8 0, .int .u8 0, .int .u8 0, .int .u8 0, .int .u8 0, .int .u8 0, .int .u8 0, .int .u8 0, .int .u8 0, .int .u8 0, .int .u8 0, .int .u8 0, .int .u8 0, .int .u8 0] 25)
            refine hK.out _ _ bl468 (fun g466 => ?_)
            clear hK K
            (try simp only [gs])
            have h469 : Has (y399.alloc (.cells #[.int .u8 0, .int .u8 0, .int .u8 0, .int .u8 0, .int .u8 0, .int .u8 0, .int .u8 0, .int .u8 0, .int .u8 0, .int .u8 0, .int .u8 0, .int .u8 0, .int .u8 0, .int .u8 0, .int .u8 0, .int .u8 0, .int .u8 0, .int .u8 0, .int .u8 0, .int .u8 0, .int .u8 0, .int .u8 0, .int .u8 0, .int .u8 0] 25)) y399.heap.size (zs 24) := zero_has _ _ rfl
            have ge470 := bl402.size
            generalize y399.alloc (.cells #[.int .u8 0, .int .u8 0, .int .u8 0, .int .u8 0, .int .u8 0, .int .u8 0, .int .u8 0, .int .u8 0, .int .u8 0, .int .u8 0, .int .u8 0, .int .u8 0, .int .u8 0, .int .u8 0, .int .u8 0, .int .u8 0, .int .u8 0, .int .u8 0, .int .u8 0, .int .u8 0, .int .u8 0, .int .u8 0, .int .u8 0, .int .u8 0] 25) = y465 at *
            refine wpAnyH_ready (rs := [12, 14]) (by kernel_rfl) (by simp) (AllReadyH.cons rfl (fun K hK => ?_) (AllReadyH.cons rfl (fun K hK => ?_) AllReadyH.nil))
            · rw [if_pos (by rfl)]
              (try simp only [gs])
              go_simp
              refine (keyK_calls _ eB okB).mono ?_
              rintro e y471 ⟨rfl, b473⟩
              have bl474 := bl468.trans (b473.mono bl468.size)
              refine hK.out _ _ bl474 (fun g472 => ?_)
              clear hK K
              (try simp only [gs])
              have h475 := h469.below b473 h469.lt
              refine wpAnyH_ready (rs := [14]) (by kernel_rfl) (by simp) (AllReadyH.cons rfl (fun K hK => ?_) AllReadyH.nil)
              rw [if_pos (by rfl)]
              (try simp only [gs])
              go_simp
              have bl479 := bl474.alloc bl474.size (.cells #[.int .u8 0, .int .u8 0, .int .u8 0, .int .u8 0, .int .u8 0, .int .u8 0, .int .u8 0, .int .u8 0, .int .u8 0, .int .u8 0, .int .u8 0, .int .u8 0, .int .u8 0, .int .u8 0, .int .u8 0, .int .u8 0, .int .u8 0, .int .u8 0, .int .u8 0, .int .u8 0, .int .u8 0, .int .u8 0, .int .u8 0, .int .u8 0] 25)
              refine hK.out _ _ bl479 (fun g477 => ?_)
              clear hK K
              (try simp only [gs])
              have h480 := h475.alloc (.cells #[.int .u8 0, .int .u8 0, .int .u8 0, .int .u8 0, .int .u8 0, .int .u8 0, .int .u8 0, .int .u8 0, .int .u8 0, .int .u8 0, .int .u8 0, .int .u8 0, .int .u8 0, .int .u8 0, .int .u8 0, .int .u8 0, .int .u8 0, .int .u8 0, .int .u8 0, .int .u8 0, .int .u8 0, .int .u8 0, .int .u8 0, .int .u8 0] 25)
              have h480l := h475.lt
              have h481 : Has (y471.alloc (.cells #[.int .u8 0, .int .u8 0, .int .u8 0, .int .u8 0, .int .u8 0, .int .u8 0, .int .u8 0, .int .u8 0, .int .u8 0, .int .u8 0, .int .u8 0, .int .u8 0, .int .u8 0, .int .u8 0, .int .u8 0, .int .u8 0, .int .u8 0, .int .u8 0, .int .u8 0, .int .u8 0, .int .u8 0, .int .u8 0, .int .u8 0, .int .u8 0] 25)) y471.heap.size (zs 24) := zero_has _ _ rfl
              have ge482 := bl474.size
              generalize y471.alloc (.cells #[.int .u8 0, .int .u8 0, .int .u8 0, .int .u8 0, .int .u8 0, .int .u8 0, .int .u8 0, .int .u8 0, .int .u8 0, .int .u8 0, .int .u8 0, .int .u8 0, .int .u8 0, .int .u8 0, .int .u8 0, .int .u8 0, .int .u8 0, .int .u8 0, .int .u8 0, .int .u8 0, .int .u8 0, .int .u8 0, .int .u8 0, .int .u8 0] 25) = y476 at *
              refine wpAnyH_ready (rs := [15]) (by kernel_rfl) (by simp) (AllReadyH.cons rfl (fun K hK => ?_) AllReadyH.nil)
              rw [if_pos (by rfl)]
              (try simp only [gs])
              refine store_key_op _ _ rfl (y399.heap.size) rfl eA.k rfl okA.len (zs 24) h480 ?_
              intro y483 hu486 tx487 sx488
              have bl489 := below_touched bl479 tx487 (by omega) (Nat.le_refl _)
              have h490 := h481.touch tx487 (by omega)
              refine hK.out _ _ bl489 (fun g484 => ?_)
              clear hK K
              (try simp only [gs])
              refine wpAnyH_ready (rs := [16]) (by kernel_rfl) (by simp) (AllReadyH.cons rfl (fun K hK => ?_) AllReadyH.nil)
              rw [if_pos (by rfl)]
              (try simp only [gs])
              refine store_key_op _ _ rfl (y471.heap.size) rfl eB.k rfl okB.len (zs 24) h490 ?_
              intro y491 hu494 tx495 sx496
              have bl497 := below_touched bl489 tx495 (by omega) (Nat.le_refl _)
              have h498 := hu486.touch tx495 (by omega)
              refine hK.out _ _ bl497 (fun g492 => ?_)
              clear hK K
              (try simp only [gs])
              refine wpAnyH_done (by kernel_rfl) ?_ _
              refine NoPanic.normal ?_
              go_wp2_with fail
              go_meet
              case rel => exact ⟨y399.heap.size, y471.heap.size, rfl, rfl, h498, hu494, bl497⟩
            · rw [if_pos (by rfl)]
              (try simp only [gs])
              go_simp
              have bl502 := bl468.alloc bl468.size (.cells #[.int .u8 0, .int .u8 0, .int .u8 0, .int .u8 0, .int .u8 0, .int .u8 0, .int .u8 0, .int .u8 0, .int .u8 0, .int .u8 0, .int .u8 0, .int .u8 0, .int .u8 0, .int .u8 0, .int .u8 0, .int .u8 0, .int .u8 0, .int .u8 0, .int .u8 0, .int .u8 0, .int .u8 0, .int .u8 0, .int .u8 0, .int .u8 0] 25)
              refine hK.out _ _ bl502 (fun g500 => ?_)
              clear hK K
              (try simp only [gs])
              have h503 := h469.alloc (.cells #[.int .u8 0, .int .u8 0, .int .u8 0, .int .u8 0, .int .u8 0, .int .u8 0, .int .u8 0, .int .u8 0, .int .u8 0, .int .u8 0, .int .u8 0, .int .u8 0, .int .u8 0, .int .u8 0, .int .u8 0, .int .u8 0, .int .u8 0, .int .u8 0, .int .u8 0, .int .u8 0, .int .u8 0, .int .u8 0, .int .u8 0, .int .u8 0] 25)
              have h503l := h469.lt
              have h504 : Has (y465.alloc (.cells #[.int .u8 0, .int .u8 0, .int .u8 0, .int .u8 0, .int .u8 0, .int .u8 0, .int .u8 0, .int .u8 0, .int .u8 0, .int .u8 0, .int .u8 0, .int .u8 0, .int .u8 0, .int .u8 0, .int .u8 0, .int .u8 0, .int .u8 0, .int .u8 0, .int .u8 0, .int .u8 0, .int .u8 0, .int .u8 0, .int .u8 0, .int .u8 0] 25)) y465.heap.size (zs 24) := zero_has _ _ rfl
              have ge505 := bl468.size
              generalize y465.alloc (.cells #[.int .u8 0, .int .u8 0, .int .u8 0, .int .u8 0, .int .u8 0, .int .u8 0, .int .u8 0, .int .u8 0, .int .u8 0, .int .u8 0, .int .u8 0, .int .u8 0, .int .u8 0, .int .u8 0, .int .u8 0, .int .u8 0, .int .u8 0, .int .u8 0, .int .u8 0, .int .u8 0, .int .u8 0, .int .u8 0, .int .u8 0, .int .u8 0] 25) = y499 at *
              refine wpAnyH_ready (rs := [12]) (by kernel_rfl) (by simp) (AllReadyH.cons rfl (fun K hK => ?_) AllReadyH.nil)
              rw [if_pos (by rfl)]
              (try simp only [gs])
              go_simp
              refine (keyK_calls _ eB okB).mono ?_
              rintro e y506 ⟨rfl, b508⟩
              have bl509 := bl502.trans (b508.mono bl502.size)
              refine hK.out _ _ bl509 (fun g507 => ?_)
              clear hK K
              (try simp only [gs])
              have h510 := h503.below b508 h503.lt
              have h511 := h504.below b508 h504.lt
              refine wpAnyH_ready (rs := [15]) (by kernel_rfl) (by simp) (AllReadyH.cons rfl (fun K hK => ?_) AllReadyH.nil)
              rw [if_pos (by rfl)]
              (try simp only [gs])
              refine store_key_op _ _ rfl (y399.heap.size) rfl eA.k rfl okA.len (zs 24) h510 ?_
              intro y512 hu515 tx516 sx517
              have bl518 := below_touched bl509 tx516 (by omega) (Nat.le_refl _)
              have h519 := h511.touch tx516 (by omega)
              refine hK.out _ _ bl518 (fun g513 => ?_)
              clear hK K
              (try simp only [gs])
              refine wpAnyH_ready (rs := [16]) (by kernel_rfl) (by simp) (AllReadyH.cons rfl (fun K hK => ?_) AllReadyH.nil)
              rw [if_pos (by rfl)]
              (try simp only [gs])
              refine store_key_op _ _ rfl (y465.heap.size) rfl eB.k rfl okB.len (zs 24) h519 ?_
              intro y520 hu523 tx524 sx525
              have bl526 := below_touched bl518 tx524 (by omega) (Nat.le_refl _)
              have h527 := hu515.touch tx524 (by omega)
              refine hK.out _ _ bl526 (fun g521 => ?_)
              clear hK K
              (try simp only [gs])
              refine wpAnyH_done (by kernel_rfl) ?_ _
              refine NoPanic.normal ?_
              go_wp2_with fail
              go_meet
              case rel => exact ⟨y399.heap.size, y465.heap.size, rfl, rfl, h527, hu523, bl526⟩
          · rw [if_pos (by rfl)]
            (try simp only [gs])
            go_simp
            have bl531 := bl402.alloc bl402.size (.cells #[.int .u8 0, .int .u8 0, .int .u8 0, .int .u8 0, .int .u8 0, .int .u8 0, .int .u8 0, .int .u8 0, .int .u8 0, .int .u8 0, .int .u8 0, .int .u8 0, .int .u8 0, .int .u8 0, .int .u8 0, .int .u8 0, .int .u8 0, .int .u8 0, .int .u8 0, .int .u8 0, .int .u8 0, .int .u8 0, .int .u8 0, .int .u8 0] 25)
            refine hK.out _ _ bl531 (fun g529 => ?_)
            clear hK K
            (try simp only [gs])
            have h532 : Has (y399.alloc (.cells #[.int .u8 0, .int .u8 0, .int .u8 0, .int .u8 0, .int .u8 0, .int .u8 0, .int .u8 0, .int .u8 0, .int .u8 0, .int .u8 0, .int .u8 0, .int .u8 0, .int .u8 0, .int .u8 0, .int .u8 0, .int .u8 0, .int .u8 0, .int .u8 0, .int .u8 0, .int .u8 0, .int .u8 0, .int .u8 0, .int .u8 0, .int .u8 0] 25)) y399.heap.size (zs 24) := zero_has _ _ rfl
            have ge533 := bl402.size
            generalize y399.alloc (.cells #[.int .u8 0, .int .u8 0, .int .u8 0, .int .u8 0, .int .u8 0, .int .u8 0, .int .u8 0, .int .u8 0, .int .u8 0, .int .u8 0, .int .u8 0, .int .u8 0, .int .u8 0, .int .u8 0, .int .u8 0, .int .u8 0, .int .u8 0, .int .u8 0, .int .u8 0, .int .u8 0, .int .u8 0, .int .u8 0, .int .u8 0, .int .u8 0] 25) = y528 at *
            refine wpAnyH_ready (rs := [12, 13]) (by kernel_rfl) (by simp) (AllReadyH.cons rfl (fun K hK => ?_) (AllReadyH.cons rfl (fun K hK => ?_) AllReadyH.nil))
            · rw [if_pos (by rfl)]
              (try simp only [gs])
              go_simp
              refine (keyK_calls _ eB okB).mono ?_
              rintro e y534 ⟨rfl, b536⟩
              have bl537 := bl531.trans (b536.mono bl531.size)
              refine hK.out _ _ bl537 (fun g535 => ?_)
              clear hK K
              (try simp only [gs])
              have h538 := h532.below b536 h532.lt
              refine wpAnyH_ready (rs := [13]) (by kernel_rfl) (by simp) (AllReadyH.cons rfl (fun K hK => ?_) AllReadyH.nil)
              rw [if_pos (by rfl)]
              (try simp only [gs])
              go_simp
              have bl542 := bl537.alloc bl537.size (.cells #[.int .u8 0, .int .u8 0, .int .u8 0, .int .u8 0, .int .u8 0, .int .u8 0, .int .u8 0, .int .u8 0, .int .u8 0, .int .u8 0, .int .u8 0, .int .u8 0, .int .u8 0, .int .u8 0, .int .u8 0, .int .u8 0, .int .u8 0, .int .u8 0, .int .u8 0, .int .u8 0, .int .u8 0, .int .u8 0, .int .u8 0, .int .u8 0] 25)
              refine hK.out _ _ bl542 (fun g540 => ?_)
              clear hK K
              (try simp only [gs])
              have h543 := h538.alloc (.cells #[.int .u8 0, .int .u8 0, .int .u8 0, .int .u8 0, .int .u8 0, .int .u8 0, .int .u8 0, .int .u8 0, .int .u8 0, .int .u8 0, .int .u8 0, .int .u8 0, .int .u8 0, .int .u8 0, .int .u8 0, .int .u8 0, .int .u8 0, .int .u8 0, .int .u8 0, .int .u8 0, .int .u8 0, .int .u8 0, .int .u8 0, .int .u8 0] 25)
              have h543l := h538.lt
              have h544 : Has (y534.alloc (.cells #[.int .u8 0, .int .u8 0, .int .u8 0, .int .u8 0, .int .u8 0, .int .u8 0, .int .u8 0, .int .u8 0, .int .u8 0, .int .u8 0, .int .u8 0, .int .u8 0, .int .u8 0, .int .u8 0, .int .u8 0, .int .u8 0, .int .u8 0, .int .u8 0, .int .u8 0, .int .u8 0, .int .u8 0, .int .u8 0, .int .u8 0, .int .u8 0] 25)) y534.heap.size (zs 24) := zero_has _ _ rfl
              have ge545 := bl537.size
              generalize y534.alloc (.cells #[.int .u8 0, .int .u8 0, .int .u8 0, .int .u8 0, .int .u8 0, .int .u8 0, .int .u8 0, .int .u8 0, .int .u8 0, .int .u8 0, .int .u8 0, .int .u8 0, .int .u8 0, .int .u8 0, .int .u8 0, .int .u8 0, .int .u8 0, .int .u8 0, .int .u8 0, .int .u8 0, .int .u8 0, .int .u8 0, .int .u8 0, .int .u8 0] 25) = y539 at *
              refine wpAnyH_ready (rs := [15]) (by kernel_rfl) (by simp) (AllReadyH.cons rfl (fun K hK => ?_) AllReadyH.nil)
              rw [if_pos (by rfl)]
              (try simp only [gs])
              refine store_key_op _ _ rfl (y534.heap.size) rfl eA.k rfl okA.len (zs 24) h544 ?_
              intro y546 hu549 tx550 sx551
              have bl552 := below_touched bl542 tx550 (by omega) (Nat.le_refl _)
              have h553 := h543.touch tx550 (by omega)
              refine hK.out _ _ bl552 (fun g547 => ?_)
              clear hK K
              (try simp only [gs])
              refine wpAnyH_ready (rs := [16]) (by kernel_rfl) (by simp) (AllReadyH.cons rfl (fun K hK => ?_) AllReadyH.nil)
              rw [if_pos (by rfl)]
              (try simp only [gs])
              refine store_key_op _ _ rfl (y399.heap.size) rfl eB.k rfl okB.len (zs 24) h553 ?_
              intro y554 hu557 tx558 sx559
              have bl560 := below_touched bl552 tx558 (by omega) (Nat.le_refl _)
              have h561 := hu549.touch tx558 (by omega)
              refine hK.out _ _ bl560 (fun g555 => ?_)
              clear hK K
              (try simp only [gs])
              refine wpAnyH_done (by kernel_rfl) ?_ _
              refine NoPanic.normal ?_
              go_wp2_with fail
              go_meet
              case rel => exact ⟨y534.heap.size, y399.heap.size, rfl, rfl, h561, hu557, bl560⟩
            · rw [if_pos (by rfl)]
              (try simp only [gs])
              go_simp
              have bl565 := bl531.alloc bl531.size (.cells #[.int .u8 0, .int .u8 0, .int .u8 0, .int .u8 0, .int .u8 0, .int .u8 0, .int .u8 0, .int .u8 0, .int .u8 0, .int .u8 0, .int .u8 0, .int .u8 0, .int .u8 0, .int .u8 0, .int .u8 0, .int .u8 0, .int .u8 0, .int .u8 0, .int .u8 0, .int .u8 0, .int .u8 0, .int .u8 0, .int .u8 0, .int .u8 0] 25)
              refine hK.out _ _ bl565 (fun g563 => ?_)
              clear hK K
              (try simp only [gs])
              have h566 := h532.alloc (.cells #[.int .u8 0, .int .u8 0, .int .u8 0, .int .u8 0, .int .u8 0, .int .u8 0, .int .u8 0, .int .u8 0, .int .u8 0, .int .u8 0, .int .u8 0, .int .u8 0, .int .u8 0, .int .u8 0, .int .u8 0, .int .u8 0, .int .u8 0, .int .u8 0, .int .u8 0, .int .u8 0, .int .u8 0, .int .u8 0, .int .u8 0, .int .u8 0] 25)
              have h566l := h532.lt
              have h567 : Has (y528.alloc (.cells #[.int .u8 0, .int .u8 0, .int .u8 0, .int .u8 0, .int .u8 0, .int .u8 0, .int .u8 0, .int .u8 0, .int .u8 0, .int .u8 0, .int .u8 0, .int .u8 0, .int .u8 0, .int .u8 0, .int .u8 0, .int .u8 0, .int .u8 0, .int .u8 0, .int .u8 0, .int .u8 0, .int .u8 0, .int .u8 0, .int .u8 0, .int .u8 0] 25)) y528.heap.size (zs 24) := zero_has _ _ rfl
              have ge568 := bl531.size
              generalize y528.alloc (.cells #[.int .u8 0, .int .u8 0, .int .u8 0, .int .u8 0, .int .u8 0, .int .u8 0, .int .u8 0, .int .u8 0, .int .u8 0, .int .u8 0, .int .u8 0, .int .u8 0, .int .u8 0, .int .u8 0, .int .u8 0, .int .u8 0, .int .u8 0, .int .u8 0, .int .u8 0, .int .u8 0, .int .u8 0, .int .u8 0, .int .u8 0, .int .u8 0] 25) = y562 at *
              refine wpAnyH_ready (rs := [12]) (by kernel_rfl) (by simp) (AllReadyH.cons rfl (fun K hK => ?_) AllReadyH.nil)
              rw [if_pos (by rfl)]
              (try simp only [gs])
              go_simp
              refine (keyK_calls _ eB okB).mono ?_
              rintro e y569 ⟨rfl, b571⟩
              have bl572 := bl565.trans (b571.mono bl565.size)
              refine hK.out _ _ bl572 (fun g570 => ?_)
              clear hK K
              (try simp only [gs])
              have h573 := h567.below b571 h567.lt
              have h574 := h566.below b571 h566.lt
              refine wpAnyH_ready (rs := [15]) (by kernel_rfl) (by simp) (AllReadyH.cons rfl (fun K hK => ?_) AllReadyH.nil)
              rw [if_pos (by rfl)]
              (try simp only [gs])
              refine store_key_op _ _ rfl (y528.heap.size) rfl eA.k rfl okA.len (zs 24) h573 ?_
              intro y575 hu578 tx579 sx580
              have bl581 := below_touched bl572 tx579 (by omega) (Nat.le_refl _)
              have h582 := h574.touch tx579 (by omega)
              refine hK.out _ _ bl581 (fun g576 => ?_)
              clear hK K
              (try simp only [gs])
              refine wpAnyH_ready (rs := [16]) (by kernel_rfl) (by simp) (AllReadyH.cons rfl (fun K hK => ?_) AllReadyH.nil)
              rw [if_pos (by rfl)]
              (try simp only [gs])
              refine store_key_op _ _ rfl (y399.heap.size) rfl eB.k rfl okB.len (zs 24) h582 ?_
              intro y583 hu586 tx587 sx588
              have bl589 := below_touched bl581 tx587 (by omega) (Nat.le_refl _)
              have h590 := hu578.touch tx587 (by omega)
              refine hK.out _ _ bl589 (fun g584 => ?_)
              clear hK K
              (try simp only [gs])
              refine wpAnyH_done (by kernel_rfl) ?_ _
              refine NoPanic.normal ?_
              go_wp2_with fail
              go_meet
              case rel => exact ⟨y528.heap.size, y399.heap.size, rfl, rfl, h590, hu586, bl589⟩
        · rw [if_pos (by rfl)]
          (try simp only [gs])
          go_simp
          have bl594 := hHeld.alloc hHeld.size (.cells #[.int .u8 0, .int .u8 0, .int .u8 0, .int .u8 0, .int .u8 0, .int .u8 0, .int .u8 0, .int .u8 0, .int .u8 0, .int .u8 0, .int .u8 0, .int .u8 0, .int .u8 0, .int .u8 0, .int .u8 0, .int .u8 0, .int .u8 0, .int .u8 0, .int .u8 0, .int .u8 0, .int .u8 0, .int .u8 0, .int .u8 0, .int .u8 0] 25)
          refine hK.out _ _ bl594 (fun g592 => ?_)
          clear hK K
          (try simp only [gs])
          have h595 : Has (y0.alloc (.cells #[.int .u8 0, .int .u8 0, .int .u8 0, .int .u8 0, .int .u8 0, .int .u8 0, .int .u8 0, .int .u8 0, .int .u8 0, .int .u8 0, .int .u8 0, .int .u8 0, .int .u8 0, .int .u8 0, .int .u8 0, .int .u8 0, .int .u8 0, .int .u8 0, .int .u8 0, .int .u8 0, .int .u8 0, .int .u8 0, .int .u8 0, .int .u8 0] 25)) y0.heap.size (zs 24) := zero_has _ _ rfl
          have ge596 := hHeld.size
          generalize y0.alloc (.cells #[.int .u8 0, .int .u8 0, .int .u8 0, .int .u8 0, .int .u8 0, .int .u8 0, .int .u8 0, .int .u8 0, .int .u8 0, .int .u8 0, .int .u8 0, .int .u8 0, .int .u8 0, .int .u8 0, .int .u8 0, .int .u8 0, .int .u8 0, .int .u8 0, .int .u8 0, .int .u8 0, .int .u8 0, .int .u8 0, .int .u8 0, .int .u8 0] 25) = y591 at *
          refine wpAnyH_ready (rs := [6, 14]) (by kernel_rfl) (by simp) (AllReadyH.cons rfl (fun K hK => ?_) (AllReadyH.cons rfl (fun K hK => ?_) AllReadyH.nil))
          · rw [if_pos (by rfl)]
            (try simp only [gs])
            go_simp
            refine (keyK_calls _ eA okA).mono ?_
            rintro e y597 ⟨rfl, b599⟩
            have bl600 := bl594.trans (b599.mono bl594.size)
            refine hK.out _ _ bl600 (fun g598 => ?_)
            clear hK K
            (try simp only [gs])
            have h601 := h595.below b599 h595.lt
            refine wpAnyH_ready (rs := [12, 14]) (by kernel_rfl) (by simp) (AllReadyH.cons rfl (fun K hK => ?_) (AllReadyH.cons rfl (fun K hK => ?_) AllReadyH.nil))
            · rw [if_pos (by rfl)]
              (try simp only [gs])
              go_simp
              refine (keyK_calls _ eB okB).mono ?_
              rintro e y602 ⟨rfl, b604⟩
              have bl605 := bl600.trans (b604.mono bl600.size)
              refine hK.out _ _ bl605 (fun g603 => ?_)
              clear hK K
              (try simp only [gs])
              have h606 := h601.below b604 h601.lt
              refine wpAnyH_ready (rs := [14]) (by kernel_rfl) (by simp) (AllReadyH.cons rfl (fun K hK => ?_) AllReadyH.nil)
              rw [if_pos (by rfl)]
              (try simp only [gs])
              go_simp
              have bl610 := bl605.alloc bl605.size (.cells #[.int .u8 0, .int .u8 0, .int .u8 0, .int .u8 0, .int .u8 0, .int .u8 0, .int .u8 0, .int .u8 0, .int .u8 0, .int .u8 0, .int .u8 0, .int .u8 0, .int .u8 0, .int .u8 0, .int .u8 0, .int .u8 0, .int .u8 0, .int .u8 0, .int .u8 0, .int .u8 0, .int .u8 0, .int .u8 0, .int .u8 0, .int .u8 0] 25)
              refine hK.out _ _ bl610 (fun g608 => ?_)
              clear hK K
              (try simp only [gs])
              have h611 := h606.alloc (.cells #[.int .u8 0, .int .u8 0, .int .u8 0, .int .u8 0, .int .u8 0, .int .u8 0, .int .u8 0, .int .u8 0, .int .u8 0, .int .u8 0, .int .u8 0, .int .u8 0, .int .u8 0, .int .u8 0, .int .u8 0, .int .u8 0, .int .u8 0, .int .u8 0, .int .u8 0, .int .u8 0, .int .u8 0, .int .u8 0, .int .u8 0, .int .u8 0] 25)
              have h611l := h606.lt
              have h612 : Has (y602.alloc (.cells #[.int .u8 0, .int .u8 0, .int .u8 0, .int .u8 0, .int .u8 0, .int .u8 0, .int .u8 0, .int .u8 0, .int .u8 0, .int .u8 0, .int .u8 0, .int .u8 0, .int .u8 0, .int .u8 0, .int .u8 0, .int .u8 0, .int .u8 0, .int .u8 0, .int .u8 0, .int .u8 0, .int .u8 0, .int .u8 0, .int .u8 0, .int .u8 0] 25)) y602.heap.size (zs 24) := zero_has _ _ rfl
              have ge613 := bl605.size
              generalize y602.alloc (.cells #[.int .u8 0, .int .u8 0, .int .u8 0, .int .u8 0, .int .u8 0, .int .u8 0, .int .u8 0, .int .u8 0, .int .u8 0, .int .u8 0, .int .u8 0, .int .u8 0, .int .u8 0, .int .u8 0, .int .u8 0, .int .u8 0, .int .u8 0, .int .u8 0, .int .u8 0, .int .u8 0, .int .u8 0, .int .u8 0, .int .u8 0, .int .u8 0] 25) = y607 at *
              refine wpAnyH_ready (rs := [15]) (by kernel_rfl) (by simp) (AllReadyH.cons rfl (fun K hK => ?_) AllReadyH.nil)
              rw [if_pos (by rfl)]
              (try simp only [gs])
              refine store_key_op _ _ rfl (y0.heap.size) rfl eA.k rfl okA.len (zs 24) h611 ?_
              intro y614 hu617 tx618 sx619
              have bl620 := below_touched bl610 tx618 (by omega) (Nat.le_refl _)
              have h621 := h612.touch tx618 (by omega)
              refine hK.out _ _ bl620 (fun g615 => ?_)
              clear hK K
              (try simp only [gs])
              refine wpAnyH_ready (rs := [16]) (by kernel_rfl) (by simp) (AllReadyH.cons rfl (fun K hK => ?_) AllReadyH.nil)
              rw [if_pos (by rfl)]
              (try simp only [gs])
              refine store_key_op _ _ rfl (y602.heap.size) rfl eB.k rfl okB.len (zs 24) h621 ?_
              intro y622 hu625 tx626 sx627
              have bl628 := below_touched bl620 tx626 (by omega) (Nat.le_refl _)
              have h629 := hu617.touch tx626 (by omega)
              refine hK.out _ _ bl628 (fun g623 => ?_)
              clear hK K
              (try simp only [gs])
              refine wpAnyH_done (by kernel_rfl) ?_ _
              refine NoPanic.normal ?_
              go_wp2_with fail
              go_meet
              case rel => exact ⟨y0.heap.size, y602.heap.size, rfl, rfl, h629, hu625, bl628⟩
            · rw [if_pos (by rfl)]
              (try simp only [gs])
              go_simp
              have bl633 := bl600.alloc bl600.size (.cells #[.int .u8 0, .int .u8 0, .int .u8 0, .int .u8 0, .int .u8 0, .int .u8 0, .int .u8 0, .int .u8 0, .int .u8 0, .int .u8 0, .int .u8 0, .int .u8 0, .int .u8 0, .int .u8 0, .int .u8 0, .int .u8 0, .int .u8 0, .int .u8 0, .int .u8 0, .int .u8 0, .int .u8 0, .int .u8 0, .int .u8 0, .int .u8 0] 25)
              refine hK.out _ _ bl633 (fun g631 => ?_)
              clear hK K
              (try simp only [gs])
              have h634 := h601.alloc (.cells #[.int .u8 0, .int .u8 0, .int .u8 0, .int .u8 0, .int .u8 0, .int .u8 0, .int .u8 0, .int .u8 0, .int .u8 0, .int .u8 0, .int .u8 0, .int .u8 0, .int .u8 0, .int .u8 0, .int .u8 0, .int .u8 0, .int .u8 0, .int .u8 0, .int .u8 0, .int .u8 0, .int .u8 0, .int .u8 0, .int .u8 0, .int .u8 0] 25)
              have h634l := h601.lt
              have h635 : Has (y597.alloc (.cells #[.int .u8 0, .int .u8 0, .int .u8 0, .int .u8 0, .int .u8 0, .int .u8 0, .int .u8 0, .int .u8 0, .int .u8 0, .int .u8 0, .int .u8 0, .int .u8 0, .int .u8 0, .int .u8 0, .int .u8 0, .int .u8 0, .int .u8 0, .int .u8 0, .int .u8 0, .int .u8 0, .int .u8 0, .int .u8 0, .int .u8 0, .int .u8 0] 25)) y597.heap.size (zs 24) := zero_has _ _ rfl
              have ge636 := bl600.size
              generalize y597.alloc (.cells #[.int .u8 0, .int .u8 0, .int .u8 0, .int .u8 0, .int .u8 0, .int .u8 0, .int .u8 0, .int .u8 0, .int .u8 0, .int .u8 0, .int .u8 0, .int .u8 0, .int .u8 0, .int .u8 0, .int .u8 0, .int .u8 0, .int .u8 0, .int .u8 0, .int .u8 0, .int .u8 0, .int .u8 0, .int .u8 0, .int .u8 0, .int .u8 0] 25) = y630 at *
              refine wpAnyH_ready (rs := [12]) (by kernel_rfl) (by simp) (AllReadyH.cons rfl (fun K hK => ?_) AllReadyH.nil)
              rw [if_pos (by rfl)]
              (try simp only [gs])
              go_simp
              refine (keyK_calls _ eB okB).mono ?_
              rintro e y637 ⟨rfl, b639⟩
              have bl640 := bl633.trans (b639.mono bl633.size)
              refine hK.out _ _ bl640 (fun g638 => ?_)
              clear hK K
              (try simp only [gs])
              have h641 := h634.below b639 h634.lt
              have h642 := h635.below b639 h635.lt
              refine wpAnyH_ready (rs := [15]) (by kernel_rfl) (by simp) (AllReadyH.cons rfl (fun K hK => ?_) AllReadyH.nil)
              rw [if_pos (by rfl)]
              (try simp only [gs])
              refine store_key_op _ _ rfl (y0.heap.size) rfl eA.k rfl okA.len (zs 24) h641 ?_
              intro y643 hu646 tx647 sx648
              have bl649 := below_touched bl640 tx647 (by omega) (Nat.le_refl _)
              have h650 := h642.touch tx647 (by omega)
              refine hK.out _ _ bl649 (fun g644 => ?_)
              clear hK K
              (try simp only [gs])
              refine wpAnyH_ready (rs := [16]) (by kernel_rfl) (by simp) (AllReadyH.cons rfl (fun K hK => ?_) AllReadyH.nil)
              rw [if_pos (by rfl)]
              (try simp only [gs])
              refine store_key_op _ _ rfl (y597.heap.size) rfl eB.k rfl okB.len (zs 24) h650 ?_
              intro y651 hu654 tx655 sx656
              have bl657 := below_touched bl649 tx655 (by omega) (Nat.le_refl _)
              have h658 := hu646.touch tx655 (by omega)
              refine hK.out _ _ bl657 (fun g652 => ?_)
              clear hK K
              (try simp only [gs])
              refine wpAnyH_done (by kernel_rfl) ?_ _
              refine NoPanic.normal ?_
              go_wp2_with fail
              go_meet
              case rel => exact ⟨y0.heap.size, y597.heap.size, rfl, rfl, h658, hu654, bl657⟩
          · rw [if_pos (by rfl)]
            (try simp only [gs])
            go_simp
            have bl662 := bl594.alloc bl594.size (.cells #[.int .u8 0, .int .u8 0, .int .u8 0, .int .u8 0, .int .u8 0, .int .u8 0, .int .u8 0, .int .u8 0, .int .u8 0, .int .u8 0, .int .u8 0, .int .u8 0, .int .u8 0, .int .u8 0, .int .u8 0, .int .u8 0, .int .u8 0, .int .u8 0, .int .u8 0, .int .u8 0, .int .u8 0, .int .u8 0, .int .u8 0, .int .u8 0] 25)
            refine hK.out _ _ bl662 (fun g660 => ?_)
            clear hK K
            (try simp only [gs])
            have h663 := h595.alloc (.cells #[.int .u8 0, .int .u8 0, .int .u8 0, .int .u8 0, .int .u8 0, .int .u8 0, .int .u8 0, .int .u8 0, .int .u8 0, .int .u8 0, .int .u8 0, .int .u8 0, .int .u8 0, .int .u8 0, .int .u8 0, .int .u8 0, .int .u8 0, .int .u8 0, .int .u8 0, .int .u8 0, .int .u8 0, .int .u8 0, .int .u8 0, .int .u8 0] 25)
            have h663l := h595.lt
            have h664 : Has (y591.alloc (.cells #[.int .u8 0, .int .u8 0, .int .u8 0, .int .u8 0, .int .u8 0, .int .u8 0, .int .u8 0, .int .u8 0, .int .u8 0, .int .u8 0, .int .u8 0, .int .u8 0, .int .u8 0, .int .u8 0, .int .u8 0, .int .u8 0, .int .u8 0, .int .u8 0, .int .u8 0, .int .u8 0, .int .u8 0, .int .u8 0, .int .u8 0, .int .u8 0] 25)) y591.heap.size (zs 24) := zero_has _ _ rfl
            have ge665 := bl594.size
            generalize y591.alloc (.cells #[.int .u8 0, .int .u8 0, .int .u8 0, .int .u8 0, .int .u8 0, .int .u8 0, .int .u8 0, .int .u8 0, .int .u8 0, .int .u8 0, .int .u8 0, .int .u8 0, .int .u8 0, .int .u8 0, .int .u8 0, .int .u8 0, .int .u8 0, .int .u8 0, .int .u8 0, .int .u8 0, .int .u8 0, .int .u8 0, .int .u8 0, .int .u8 0] 25) = y659 at *
            refine wpAnyH_ready (rs := [6]) (by kernel_rfl) (by simp) (AllReadyH.cons rfl (fun K hK => ?_) AllReadyH.nil)
            rw [if_pos (by rfl)]
            (try simp only [gs])
            go_simp
            refine (keyK_calls _ eA okA).mono ?_
            rintro e y666 ⟨rfl, b668⟩
            have bl669 := bl662.trans (b668.mono bl662.size)
            refine hK.out _ _ bl669 (fun g667 => ?_)
            clear hK K
            (try simp only [gs])
            have h670 := h663.below b668 h663.lt
            have h671 := h664.below b668 h664.lt
            refine wpAnyH_ready (rs := [12]) (by kernel_rfl) (by simp) (AllReadyH.cons rfl (fun K hK => ?_) AllReadyH.nil)
            rw [if_pos (by rfl)]
            (try simp only [gs])
            go_simp
            refine (keyK_calls _ eB okB).mono ?_
            rintro e y672 ⟨rfl, b674⟩
            have bl675 := bl669.trans (b674.mono bl669.size)
            refine hK.out _ _ bl675 (fun g673 => ?_)
            clear hK K
            (try simp only [gs])
            have h676 := h670.below b674 h670.lt
            have h677 := h671.below b674 h671.lt
            refine wpAnyH_ready (rs := [15]) (by kernel_rfl) (by simp) (AllReadyH.cons rfl (fun K hK => ?_) AllReadyH.nil)
            rw [if_pos (by rfl)]
            (try simp only [gs])
            refine store_key_op _ _ rfl (y0.heap.size) rfl eA.k rfl okA.len (zs 24) h676 ?_
            intro y678 hu681 tx682 sx683
            have bl684 := below_touched bl675 tx682 (by omega) (Nat.le_refl _)
            have h685 := h677.touch tx682 (by omega)
            refine hK.out _ _ bl684 (fun g679 => ?_)
            clear hK K
            (try simp only [gs])
            refine wpAnyH_ready (rs := [16]) (by kernel_rfl) (by simp) (AllReadyH.cons rfl (fun K hK => ?_) AllReadyH.nil)
            rw [if_pos (by rfl)]
            (try simp only [gs])
            refine store_key_op _ _ rfl (y591.heap.size) rfl eB.k rfl okB.len (zs 24) h685 ?_
            intro y686 hu689 tx690 sx691
            have bl692 := below_touched bl684 tx690 (by omega) (Nat.le_refl _)
            have h693 := hu681.touch tx690 (by omega)
            refine hK.out _ _ bl692 (fun g687 => ?_)
            clear hK K
            (try simp only [gs])
            refine wpAnyH_done (by kernel_rfl) ?_ _
            refine NoPanic.normal ?_
            go_wp2_with fail
            go_meet
            case rel => exact ⟨y0.heap.size, y591.heap.size, rfl, rfl, h693, hu689, bl692⟩
        · rw [if_pos (by rfl)]
          (try simp only [gs])
          go_simp
          have bl697 := hHeld.alloc hHeld.size (.cells #[.int .u8 0, .int .u8 0, .int .u8 0, .int .u8 0, .int .u8 0, .int .u8 0, .int .u8 0, .int .u8 0, .int .u8 0, .int .u8 0, .int .u8 0, .int .u8 0, .int .u8 0, .int .u8 0, .int .u8 0, .int .u8 0, .int .u8 0, .int .u8 0, .int .u8 0, .int .u8 0, .int .u8 0, .int .u8 0, .int .u8 0, .int .u8 0] 25)
          refine hK.out _ _ bl697 (fun g695 => ?_)
          clear hK K
          (try simp only [gs])
          have h698 : Has (y0.alloc (.cells #[.int .u8 0, .int .u8 0, .int .u8 0, .int .u8 0, .int .u8 0, .int .u8 0, .int .u8 0, .int .u8 0, .int .u8 0, .int .u8 0, .int .u8 0, .int .u8 0, .int .u8 0, .int .u8 0, .int .u8 0, .int .u8 0, .int .u8 0, .int .u8 0, .int .u8 0, .int .u8 0, .int .u8 0, .int .u8 0, .int .u8 0, .int .u8 0] 25)) y0.heap.size (zs 24) := zero_has _ _ rfl
          have ge699 := hHeld.size
          generalize y0.alloc (.cells #[.int .u8 0, .int .u8 0, .int .u8 0, .int .u8 0, .int .u8 0, .int .u8 0, .int .u8 0, .int .u8 0, .int .u8 0, .int .u8 0, .int .u8 0, .int .u8 0, .int .u8 0, .int .u8 0, .int .u8 0, .int .u8 0, .int .u8 0, .int .u8 0, .int .u8 0, .int .u8 0, .int .u8 0, .int .u8 0, .int .u8 0, .int .u8 0] 25) = y694 at *
          refine wpAnyH_ready (rs := [6, 13]) (by kernel_rfl) (by simp) (AllReadyH.cons rfl (fun K hK => ?_) (AllReadyH.cons rfl (fun K hK => ?_) AllReadyH.nil))
          · rw [if_pos (by rfl)]
            (try simp only [gs])
            go_simp
            refine (keyK_calls _ eA okA).mono ?_
            rintro e y700 ⟨rfl, b702⟩
            have bl703 := bl697.trans (b702.mono bl697.size)
            refine hK.out _ _ bl703 (fun g701 => ?_)
            clear hK K
            (try simp only [gs])
            have h704 := h698.below b702 h698.lt
            refine wpAnyH_ready (rs := [12, 13]) (by kernel_rfl) (by simp) (AllReadyH.cons rfl (fun K hK => ?_) (AllReadyH.cons rfl (fun K hK => ?_) AllReadyH.nil))
            · rw [if_pos (by rfl)]
              (try simp only [gs])
              go_simp
              refine (keyK_calls _ eB okB).mono ?_
              rintro e y705 ⟨rfl, b707⟩
              have bl708 := bl703.trans (b707.mono bl703.size)
              refine hK.out _ _ bl708 (fun g706 => ?_)
              clear hK K
              (try simp only [gs])
              have h709 := h704.below b707 h704.lt
              refine wpAnyH_ready (rs := [13]) (by kernel_rfl) (by simp) (AllReadyH.cons rfl (fun K hK => ?_) AllReadyH.nil)
              rw [if_pos (by rfl)]
              (try simp only [gs])
              go_simp
              have bl713 := bl708.alloc bl708.size (.cells #[.int .u8 0, .int .u8 0, .int .u8 0, .int .u8 0, .int .u8 0, .int .u8 0, .int .u8 0, .int .u8 0, .int .u8 0, .int .u8 0, .int .u8 0, .int .u8 0, .int .u8 0, .int .u8 0, .int .u8 0, .int .u8 0, .int .u8 0, .int .u8 0, .int .u8 0, .int .u8 0, .int .u8 0, .int .u8 0, .int .u8 0, .int .u8 0] 25)
              refine hK.out _ _ bl713 (fun g711 => ?_)
              clear hK K
              (try simp only [gs])
              have h714 := h709.alloc (.cells #[.int .u8 0, .int .u8 0, .int .u8 0, .int .u8 0, .int .u8 0, .int .u8 0, .int .u8 0, .int .u8 0, .int .u8 0, .int .u8 0, .int .u8 0, .int .u8 0, .int .u8 0, .int .u8 0, .int .u8 0, .int .u8 0, .int .u8 0, .int .u8 0, .int .u8 0, .int .u8 0, .int .u8 0, .int .u8 0, .int .u8 0, .int .u8 0] 25)
              have h714l := h709.lt
              have h715 : Has (y705.alloc (.cells #[.int .u8 0, .int .u8 0, .int .u8 0, .int .u8 0, .int .u8 0, .int .u8 0, .int .u8 0, .int .u8 0, .int .u8 0, .int .u8 0, .int .u8 0, .int .u8 0, .int .u8 0, .int .u8 0, .int .u8 0, .int .u8 0, .int .u8 0, .int .u8 0, .int .u8 0, .int .u8 0, .int .u8 0, .int .u8 0, .int .u8 0, .int .u8 0] 25)) y705.heap.size (zs 24) := zero_has _ _ rfl
              have ge716 := bl708.size
              generalize y705.alloc (.cells #[.int .u8 0, .int .u8 0, .int .u8 0, .int .u8 0, .int .u8 0, .int .u8 0, .int .u8 0, .int .u8 0, .int .u8 0, .int .u8 0, .int .u8 0, .int .u8 0, .int .u8 0, .int .u8 0, .int .u8 0, .int .u8 0, .int .u8 0, .int .u8 0, .int .u8 0, .int .u8 0, .int .u8 0, .int .u8 0, .int .u8 0, .int .u8 0] 25) = y710 at *
              refine wpAnyH_ready (rs := [15]) (by kernel_rfl) (by simp) (AllReadyH.cons rfl (fun K hK => ?_) AllReadyH.nil)
              rw [if_pos (by rfl)]
              (try simp only [gs])
              refine store_key_op _ _ rfl (y705.heap.size) rfl eA.k rfl okA.len (zs 24) h715 ?_
              intro y717 hu720 tx721 sx722
              have bl723 := below_touched bl713 tx721 (by omega) (Nat.le_refl _)
              have h724 := h714.touch tx721 (by omega)
              refine hK.out _ _ bl723 (fun g718 => ?_)
              clear hK K
              (try simp only [gs])
              refine wpAnyH_ready (rs := [16]) (by kernel_rfl) (by simp) (AllReadyH.cons rfl (fun K hK => ?_) AllReadyH.nil)
              rw [if_pos (by rfl)]
              (try simp only [gs])
              refine store_key_op _ _ rfl (y0.heap.size) rfl eB.k rfl okB.len (zs 24) h724 ?_
              intro y725 hu728 tx729 sx730
              have bl731 := below_touched bl723 tx729 (by omega) (Nat.le_refl _)
              have h732 := hu720.touch tx729 (by omega)
              refine hK.out _ _ bl731 (fun g726 => ?_)
              clear hK K
              (try simp only [gs])
              refine wpAnyH_done (by kernel_rfl) ?_ _
              refine NoPanic.normal ?_
              go_wp2_with fail
              go_meet
              case rel => exact ⟨y705.heap.size, y0.heap.size, rfl, rfl, h732, hu728, bl731⟩
            · rw [if_pos (by rfl)]
              (try simp only [gs])
              go_simp
              have bl736 := bl703.alloc bl703.size (.cells #[.int .u8 0, .int .u8 0, .int .u8 0, .int .u8 0, .int .u8 0, .int .u8 0, .int .u8 0, .int .u8 0, .int .u8 0, .int .u8 0, .int .u8 0, .int .u8 0, .int .u8 0, .int .u8 0, .int .u8 0, .int .u8 0, .int .u8 0, .int .u8 0, .int .u8 0, .int .u8 0, .int .u8 0, .int .u8 0, .int .u8 0, .int .u8 0] 25)
              refine hK.out _ _ bl736 (fun g734 => ?_)
              clear hK K
              (try simp only [gs])
              have h737 := h704.alloc (.cells #[.int .u8 0, .int .u8 0, .int .u8 0, .int .u8 0, .int .u8 0, .int .u8 0, .int .u8 0, .int .u8 0, .int .u8 0, .int .u8 0, .int .u8 0, .int .u8 0, .int .u8 0, .int .u8 0, .int .u8 0, .int .u8 0, .int .u8 0, .int .u8 0, .int .u8 0, .int .u8 0, .int .u8 0, .int .u8 0, .int .u8 0, .int .u8 0] 25)
              have h737l := h704.lt
              have h738 : Has (y700.alloc (.cells #[.int .u8 0, .int .u8 0, .int .u8 0, .int .u8 0, .int .u8 0, .int .u8 0, .int .u8 0, .int .u8 0, .int .u8 0, .int .u8 0, .int .u8 0, .int .u8 0, .int .u8 0, .int .u8 0, .int .u8 0, .int .u8 0, .int .u8 0, .int .u8 0, .int .u8 0, .int .u8 0, .int .u8 0, .int .u8 0, .int .u8 0, .int .u8 0] 25)) y700.heap.size (zs 24) := zero_has _ _ rfl
              have ge739 := bl703.size
              generalize y700.alloc (.cells #[.int .u8 0, .int .u8 0, .int .u8 0, .int .u8 0, .int .u8 0, .int .u8 0, .int .u8 0, .int .u8 0, .int .u8 0, .int .u8 0, .int .u8 0, .int .u8 0, .int .u8 0, .int .u8 0, .int .u8 0, .int .u8 0, .int .u8 0, .int .u8 0, .int .u8 0, .int .u8 0, .int .u8 0, .int .u8 0, .int .u8 0, .int .u8 0] 25) = y733 at *
              refine wpAnyH_ready (rs := [12]) (by kernel_rfl) (by simp) (AllReadyH.cons rfl (fun K hK => ?_) AllReadyH.nil)
              rw [if_pos (by rfl)]
              (try simp only [gs])
              go_simp
              refine (keyK_calls _ eB okB).mono ?_
              rintro e y740 ⟨rfl, b742⟩
              have bl743 := bl736.trans (b742.mono bl736.size)
              refine hK.out _ _ bl743 (fun g741 => ?_)
              clear hK K
              (try simp only [gs])
              have h744 := h738.below b742 h738.lt
              have h745 := h737.below b742 h737.lt
              refine wpAnyH_ready (rs := [15]) (by kernel_rfl) (by simp) (AllReadyH.cons rfl (fun K hK => ?_) AllReadyH.nil)
              rw [if_pos (by rfl)]
              (try simp only [gs])
              refine store_key_op _ _ rfl (y700.heap.size) rfl eA.k rfl okA.len (zs 24) h744 ?_
              intro y746 hu749 tx750 sx751
              have bl752 := below_touched bl743 tx750 (by omega) (Nat.le_refl _)
              have h753 := h745.touch tx750 (by omega)
              refine hK.out _ _ bl752 (fun g747 => ?_)
              clear hK K
              (try simp only [gs])
              refine wpAnyH_ready (rs := [16]) (by kernel_rfl) (by simp) (AllReadyH.cons rfl (fun K hK => ?_) AllReadyH.nil)
              rw [if_pos (by rfl)]
              (try simp only [gs])
              refine store_key_op _ _ rfl (y0.heap.size) rfl eB.k rfl okB.len (zs 24) h753 ?_
              intro y754 hu757 tx758 sx759
              have bl760 := below_touched bl752 tx758 (by omega) (Nat.le_refl _)
              have h761 := hu749.touch tx758 (by omega)
              refine hK.out _ _ bl760 (fun g755 => ?_)
              clear hK K
              (try simp only [gs])
              refine wpAnyH_done (by kernel_rfl) ?_ _
              refine NoPanic.normal ?_
              go_wp2_with fail
              go_meet
              case rel => exact ⟨y700.heap.size, y0.heap.size, rfl, rfl, h761, hu757, bl760⟩
          · rw [if_pos (by rfl)]
            (try simp only [gs])
            go_simp
            have bl765 := bl697.alloc bl697.size (.cells #[.int .u8 0, .int .u8 0, .int .u8 0, .int .u8 0, .int .u8 0, .int .u8 0, .int .u8 0, .int .u8 0, .int .u8 0, .int .u8 0, .int .u8 0, .int .u8 0, .int .u8 0, .int .u8 0, .int .u8 0, .int .u8 0, .int .u8 0, .int .u8 0, .int .u8 0, .int .u8 0, .int .u8 0, .int .u8 0, .int .u8 0, .int .u8 0] 25)
            refine hK.out _ _ bl765 (fun g763 => ?_)
            clear hK K
            (try simp only [gs])
            have h766 := h698.alloc (.cells #[.int .u8 0, .int .u8 0, .int .u8 0, .int .u8 0, .int .u8 0, .int .u8 0, .int .u8 0, .int .u8 0, .int .u8 0, .int .u8 0, .int .u8 0, .int .u8 0, .int .u8 0, .int .u8 0, .int .u8 0, .int .u8 0, .int .u8 0, .int .u8 0, .int .u8 0, .int .u8 0, .int .u8 0, .int .u8 0, .int .u8 0, .int .u8 0] 25)
            have h766l := h698.lt
            have h767 : Has (y694.alloc (.cells #[.int .u8 0, .int .u8 0, .int .u8 0, .int .u8 0, .int .u8 0, .int .u8 0, .int .u8 0, .int .u8 0, .int .u8 0, .int .u8 0, .int .u8 0, .int .u8 0, .int .u8 0, .int .u8 0, .int .u8 0, .int .u8 0, .int .u8 0, .int .u8 0, .int .u8 0, .int .u8 0, .int .u8 0, .int .u8 0, .int .u8 0, .int .u8 0] 25)) y694.heap.size (zs 24) := zero_has _ _ rfl
            have ge768 := bl697.size
            generalize y694.alloc (.cells #[.int .u8 0, .int .u8 0, .int .u8 0, .int .u8 0, .int .u8 0, .int .u8 0, .int .u8 0, .int .u8 0, .int .u8 0, .int .u8 0, .int .u8 0, .int .u8 0, .int .u8 0, .int .u8 0, .int .u8 0, .int .u8 0, .int .u8 0, .int .u8 0, .int .u8 0, .int .u8 0, .int .u8 0, .int .u8 0, .int .u8 0, .int .u8 0] 25) = y762 at *
            refine wpAnyH_ready (rs := [6]) (by kernel_rfl) (by simp) (AllReadyH.cons rfl (fun K hK => ?_) AllReadyH.nil)
            rw [if_pos (by rfl)]
            (try simp only [gs])
            go_simp
            refine (keyK_calls _ eA okA).mono ?_
            rintro e y769 ⟨rfl, b771⟩
            have bl772 := bl765.trans (b771.mono bl765.size)
            refine hK.out _ _ bl772 (fun g770 => ?_)
            clear hK K
            (try simp only [gs])
            have h773 := h767.below b771 h767.lt
            have h774 := h766.below b771 h766.lt
            refine wpAnyH_ready (rs := [12]) (by kernel_rfl) (by simp) (AllReadyH.cons rfl (fun K hK => ?_) AllReadyH.nil)
            rw [if_pos (by rfl)]
            (try simp only [gs])
            go_simp
            refine (keyK_calls _ eB okB).mono ?_
            rintro e y775 ⟨rfl, b777⟩
            have bl778 := bl772.trans (b777.mono bl772.size)
            refine hK.out _ _ bl778 (fun g776 => ?_)
            clear hK K
            (try simp only [gs])
            have h779 := h773.below b777 h773.lt
            have h780 := h774.below b777 h774.lt
            refine wpAnyH_ready (rs := [15]) (by kernel_rfl) (by simp) (AllReadyH.cons rfl (fun K hK => ?_) AllReadyH.nil)
            rw [if_pos (by rfl)]
            (try simp only [gs])
            refine store_key_op _ _ rfl (y694.heap.size) rfl eA.k rfl okA.len (zs 24) h779 ?_
            intro y781 hu784 tx785 sx786
            have bl787 := below_touched bl778 tx785 (by omega) (Nat.le_refl _)
            have h788 := h780.touch tx785 (by omega)
            refine hK.out _ _ bl787 (fun g782 => ?_)
            clear hK K
            (try simp only [gs])
            refine wpAnyH_ready (rs := [16]) (by kernel_rfl) (by simp) (AllReadyH.cons rfl (fun K hK => ?_) AllReadyH.nil)
            rw [if_pos (by rfl)]
            (try simp only [gs])
            refine store_key_op _ _ rfl (y0.heap.size) rfl eB.k rfl okB.len (zs 24) h788 ?_
            intro y789 hu792 tx793 sx794
            have bl795 := below_touched bl787 tx793 (by omega) (Nat.le_refl _)
            have h796 := hu784.touch tx793 (by omega)
            refine hK.out _ _ bl795 (fun g790 => ?_)
            clear hK K
            (try simp only [gs])
            refine wpAnyH_done (by kernel_rfl) ?_ _
            refine NoPanic.normal ?_
            go_wp2_with fail
            go_meet
            case rel => exact ⟨y694.heap.size, y0.heap.size, rfl, rfl, h796, hu792, bl795⟩
      case rest =>
        obtain ⟨p, q, rfl, rfl, HA, HB, hbc⟩ := hcut
        clear hbel
        have HHA : Hid (Has _ p eA.k) := HA
        have HHB : Hid (Has _ q eB.k) := HB
        clear HA HB
        go_wp2_with fail
        go_loopg [28] 24 (fun g2 i wy => ∃ j : Nat, j + g2 = 24 ∧ i = .int .i64 (j : Int) ∧ Hid (Has wy p eA.k ∧ Has wy q eB.k ∧ Below w.heap.size w wy) ∧ Hid (Op.bytesLess eA.k eB.k = Op.bytesLess (eA.k.drop j) (eB.k.drop j)))
        case atStart => exact ⟨0, rfl, rfl, ⟨HHA.out, HHB.out, hbc⟩, (show Op.bytesLess eA.k eB.k = Op.bytesLess (eA.k.drop 0) (eB.k.drop 0) from rfl)⟩
        case round =>
          obtain ⟨j, hjg, rfl, HP, HJ⟩ := hrel
          have lA := okA.len
          have lB := okB.len
          cases gk with
          | zero =>
            have hj : j = 24 := by omega
            subst hj
            go_wp2_with fail
            try rw [Exit.noGoto_ret]
            go_ret
            exact ⟨by rw [HE3.out, HJ.out, less_end _ _ lA lB]; rfl, HP.out.2.2⟩
          | succ g2 =>
            have hj24 : j < 24 := by omega
            have hjI : (j : Int) < 24 := by omega
            have hj0 : (0 : Int) ≤ (j : Int) := by omega
            have cA := HP.out.1.cell j hj24
            have cB := HP.out.2.1.cell j hj24
            have HJ2 : Hid (Op.bytesLess eA.k eB.k = _) := (show _ = _ by rw [HJ.out, less_drop _ _ _ (by omega) (by omega)])
            clear HJ
            generalize (eA.k.getD j 0).toNat = x at *
            generalize (eB.k.getD j 0).toNat = y at *
            rcases Nat.lt_trichotomy x y with hxy | hxy | hxy
            · have q1 : (x : Int) < (y : Int) := by omega
              go_upto_region 8 with fail
              go_quiet (fail)
              go_wp2_with fail
              go_roundg g
              case measure => omega
              case rel => exact ⟨k + 1, by omega, congrArg (Value.int .i64) HKS.out, below_drewN HP.out.2.2 _, by rw [HE3.out, HJ2.out, decide_eq_true hxy]; rfl⟩
            · have q1 : ¬ (x : Int) < (y : Int) := by omega
              have q2 : ¬ (y : Int) < (x : Int) := by omega
              go_upto_region 8 with fail
              go_quiet (fail)
              go_upto_region 9 with fail
              go_quiet (fail)
              go_wp2_with fail
              go_roundg g2
              case measure => omega
              case rel => exact ⟨j + 1, by omega, by go_num, ⟨HP.out.1.drewN _, HP.out.2.1.drewN _, below_drewN HP.out.2.2 _⟩, by rw [HJ2.out, decide_eq_false (show ¬ x < y by omega), show (x == y) = true by simp [hxy]]; rfl⟩
            · have q1 : ¬ (x : Int) < (y : Int) := by omega
              have q2 : (y : Int) < (x : Int) := by omega
              go_upto_region 8 with fail
              go_quiet (fail)
              go_upto_region 9 with fail
              go_quiet (fail)
              go_wp2_with fail
              try rw [Exit.noGoto_ret]
              go_ret
              exact ⟨by rw [HE3.out, HJ2.out, decide_eq_false (show ¬ x < y by omega), show (x == y) = false by simp; omega]; rfl, below_drewN HP.out.2.2 _⟩
    · have hltI : ¬ ((((k + 1 : Nat) : Int)) < (N : Int)) := by omega
      go_wp2_with fail
      try rw [Exit.noGoto_ret]
      go_ret
      exact ⟨by rw [HE.out, rises_end l k (by rw [← HN.out]; omega)]; rfl, hbel⟩
end Go.Proofs.YtjhdnpplmlddaaaGreat
