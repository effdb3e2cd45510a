import Derived.Test.YtdmindhjmjnagaaGreatDoorSi
import Derived.Test.YtdmindhjmjnagaaGreatDoorB01
import Derived.Test.YtdmindhjmjnagaaGreatDoorB38
import Derived.Test.YtdmindhjmjnagaaGreatDoorB31
import Derived.Test.YtdmindhjmjnagaaGreatDoorB06
import Derived.Test.YtdmindhjmjnagaaGreatDoorB23
/- Rvi Pm12 Rvs Rvk Rvb Bu2 Rvd -/
namespace Go.Proofs.YtdmindhjmjnagaaGreatDoor
set_option linter.unusedVariables false
set_option maxRecDepth 1000000
set_option maxHeartbeats 32000000
section
open Go.RowKit
theorem rvin_calls (w : World) (u : Value) (l : List Pa) (s : Sp) (h : Sl encP w u l) (hl : l.length ≤ 1000) :
    Calls Tryz.prog 83 #[u, spv s] w fun e w' => ∃ v, e = .returned v ∧ Own encP 62 w' w.heap.size v (scanL s l) ∧ Below w.heap.size w w' := by
 have b1 : Below w.heap.size w (w.alloc (.cells (sc s.F s.T s.e).toArray 56)) := (Below.refl _ w).alloc (Nat.le_refl _) _
 have HK : Hid (HasS (w.alloc (.cells (sc s.F s.T s.e).toArray 56)) w.heap.size s.F s.T s.e) := HasS.new w _ _ _ s.hF s.hT
 have HB : Hid (Below w.heap.size w (w.alloc (.cells (sc s.F s.T s.e).toArray 56))) := b1
 have hInfo : ∀ J : Kz, (Tryz.prog.info? 54).map (·.size) = some (bc J.k).length := fun J => by rw [bc_length, J.h]; exact Tryz.key_info
 have hInfoS : (Tryz.prog.info? 56).map (·.size) = some (encS.c s).length := by rw [encS.len]; exact Tryz.span_info
 obtain ⟨ad, cap, rfl, hcap, hmax, -, -⟩ := id h
 have HI : Hid (∀ i (hi : i < l.length), ∃ g off, ad = some ⟨g, off, none⟩ ∧ g < w.heap.size ∧ w.rangeAt g (off + i * 25) (encP.c l[i])) := fun i hi => SlB.at h i hi
 obtain ⟨N, hN⟩ : ∃ N : Nat, N = l.length := ⟨_, rfl⟩
 have HN : Hid (N = l.length ∧ N ≤ 1000) := ⟨hN, by omega⟩
 rw [← hN] at hcap hmax ⊢
 clear b1 hN h
 go_enter Tryz.func83, Tryz.ntmps83
 go_upto_region 1 with fail
 generalize hW : w.alloc (.cells (sc s.F s.T s.e).toArray 56) = W at *
 have hbW := HK.out.lt
 go_wp2_with fail
 have HST : Hid (Below W.heap.size W W ∧ Own encP 62 W W.heap.size (.slice none 0 0) (scanL s (l.take 0))) := ⟨Below.refl _ _, Own.nil _ _ _ _⟩
 go_loopg [5, 6] N (fun gg s5 i wr => ∃ k : Nat, k + gg = N ∧ i = .int .i64 (k : Int) ∧ Hid (Below W.heap.size W wr ∧ Own encP 62 wr W.heap.size s5 (scanL s (l.take k))))
 case atStart => exact ⟨0, by omega, rfl, HST.out⟩
 case round =>
  clear HST
  obtain ⟨k, hkg, rfl, HL⟩ := hrel
  cases gk with
  | zero =>
   have hkN : k = N := by omega
   subst hkN
   go_wp2_with fail
   go_ret
   have h1 := HL.out.2
   rw [List.take_of_length_le (by have := HN.out.1; omega)] at h1
   exact ⟨_, rfl, h1.lower HB.out.size, HB.out.trans (HL.out.1.mono HB.out.size)⟩
  | succ gg =>
   have hlt : k < N := by omega
   have hltI : (k : Int) < (N : Int) := by omega
   have hk0 : (0 : Int) ≤ (k : Int) := by omega
   have hkb : (k : Int) ≤ 1000 := by have := HN.out.2; omega
   have hkl : k < l.length := by have := HN.out.1; omega
   obtain ⟨g, off, rfl, hg, hr⟩ := HI.out k hkl
   have HAT : Hid (∀ yy, Below W.heap.size W yy → yy.rangeAt g (off + k * 25) (encP.c l[k])) := fun yy hb => range_same' (range_same' hr (HB.out.block g hg)) (hb.block g (Nat.lt_of_lt_of_le hg HB.out.size))
   have HSP : Hid (∀ yy, Below W.heap.size W yy → yy.rangeAt w.heap.size 0 (encS.c s)) := fun yy hb => (HK.out.below hb hbW).inB.range
   have HTK : Hid (scanL s (l.take (k + 1)) = scanL s (l.take k) ++ if s.inb (l[k]).n = true then [l[k]] else []) := (show _ = _ by
    unfold scanL
    rw [List.take_succ_eq_append_getElem hkl, List.filter_append, List.filter_cons, List.filter_nil])
   have HLN : Hid ((scanL s (l.take k)).length ≤ 1000) := (show _ ≤ _ by
    have := scanL_len s (l.take k)
    rw [List.length_take] at this
    omega)
   have hin := fun y => rin_calls y s.F s.T s.e (l[k]).k s.hF s.hT (l[k]).h
   rw [in_num s (l[k]).k (l[k]).h] at hin
   have HIN : Hid (∀ y, Calls Tryz.prog 62 #[spv s, kv (l[k]).kz.k] y fun x w' => x = .returned (.bool (s.inb (l[k]).n)) ∧ Below y.heap.size y w') := hin
   obtain ⟨c, hcc⟩ : ∃ c, c = l[k] := ⟨_, rfl⟩
   rw [← hcc] at HAT HTK HIN
   clear hcc hr hkl HI hin
   have HRG : Hid (wr.rangeAt g (off + k * 25) (bc c.kz.k) ∧ wr.rangeAt w.heap.size 0 (encS.c s)) := ⟨range_kP (HAT.out _ HL.out.1), HSP.out _ HL.out.1⟩
   go_upto_region 5 with fail
   refine wp_region_noPanic ?_
   refine wp_region_held_drew (S := (fun yy => yy.rangeAt g (off + k * 25) (bc c.kz.k) ∧ yy.rangeAt w.heap.size 0 (encS.c s))) (by kernel_rfl) (HRG.out) (fun hh => ?_)
   refine tk 0 rfl hh (yieldsIf_load_mid (by rfl) _ _ rfl _ _ rfl _ _ (fun _ h => h.2) Tryz.underlying56 rfl hInfoS) ?_
   (try simp only [gs])
   refine tl ?_ 1 rfl hh ⟨by rfl, ?_⟩ ?_
   case refine_2 => (intro w hSw; go_simp; try with_reducible rfl)
   (try simp only [gs])
   refine tl ?_ 2 rfl hh ⟨by rfl, ?_⟩ ?_
   case refine_2 => (intro w hSw; go_simp; try with_reducible rfl)
   (try simp only [gs])
   refine tl ?_ 3 rfl hh ⟨by rfl, ?_⟩ ?_
   case refine_2 => (intro w hSw; go_simp; try with_reducible rfl)
   (try simp only [gs])
   refine tl ?_ 4 rfl hh ⟨by rfl, ?_⟩ ?_
   case refine_2 => (intro w hSw; go_simp; try with_reducible rfl)
   (try simp only [gs])
   refine tk 5 rfl hh (yieldsIf_load_mid (by rfl) _ _ rfl _ _ rfl _ _ (fun _ h => h.1) Tryz.underlying54 rfl (hInfo c.kz)) ?_
   (try simp only [gs])
   have HBD : Hid (Below W.heap.size W wr.drew ∧ Own encP 62 wr.drew W.heap.size u5 (scanL s (l.take k))) := ⟨HL.out.1.trans ⟨rfl, rfl, rfl, Nat.le_refl _, fun _ _ => rfl⟩, HL.out.2.below ⟨rfl, rfl, rfl, Nat.le_refl _, fun _ _ => rfl⟩⟩
   clear HRG HL
   generalize wr.drew = y1 at *
   have hIn := HIN.out y1
   refine wpAnyH_ready (rs := [6]) (by kernel_rfl) (by simp) (AllReadyH.cons rfl (fun K0 hK => ?_) AllReadyH.nil)
   rw [if_pos (by rfl)]
   (try simp only [gs])
   go_simp
   refine hIn.mono ?_
   clear hIn
   rintro e y2 ⟨rfl, b2⟩
   have HBE : Hid (Below W.heap.size W y2 ∧ Own encP 62 y2 W.heap.size u5 (scanL s (l.take k))) := ⟨HBD.out.1.trans (b2.mono HBD.out.1.size), HBD.out.2.below b2⟩
   refine hK.out _ _ ⟨range_kP (HAT.out _ HBE.out.1), HSP.out _ HBE.out.1⟩ (fun g1 => ?_)
   clear hK K0 hh HBD b2
   have hh : y2.rangeAt g (off + k * 25) (bc c.kz.k) ∧ y2.rangeAt w.heap.size 0 (encS.c s) := ⟨range_kP (HAT.out _ HBE.out.1), HSP.out _ HBE.out.1⟩
   (try simp only [gs])
   refine tl ?_ 7 rfl hh ⟨by rfl, ?_⟩ ?_
   case refine_2 => (intro w hSw; go_simp; try with_reducible rfl)
   (try simp only [gs])
   refine wpAnyH_done (by kernel_rfl) ?_ _
   refine NoPanic.normal ?_
   clear hh g1
   have HRP : Hid (y2.rangeAt g (off + k * 25) (encP.c c)) := HAT.out _ HBE.out.1
   cases hq : s.inb c.n with
   | true =>
    have HTK1 : Hid (scanL s (l.take (k + 1)) = scanL s (l.take k) ++ [c]) := (show _ = _ by rw [HTK.out, if_pos hq])
    generalize scanL s (l.take k) = L1 at *
    have hs3 := HBE.out.2
    go_wp2_with (first
     | (refine load_el elP _ rfl g (off + k * 25) rfl rfl c HRP.out ?_)
     | (refine build_el1 rowP rfl _ rfl c rfl (by decide) ?_; intro y3 o3 b3 z3 hb3
        have hs4 := hs3.below b3
        clear hs3 o3 z3)
     | (at_builtin; refine append_one rowP rfl _ _ rfl W.heap.size _ L1 rfl hs4 y2.heap.size c rfl (0, 0) _ hb3 (by have := HLN.out; omega) (by decide) (by have := b3.size; have := HBE.out.1.size; omega) ?_
        intro g4 cap4 y4 o4 gr4 gg4 lt4
        have HO4 : Hid (Own encP 62 y4 W.heap.size (.slice (some ⟨g4, 0, none⟩) (L1.length + 1) cap4) (L1 ++ [c]) ∧ Below W.heap.size W y4) := ⟨o4, (HBE.out.1.trans (b3.mono HBE.out.1.size)).grown gr4 (Nat.le_trans HBE.out.1.size b3.size) (fun j hj => (hs4.lt j hj).1)⟩
        clear o4 gr4 gg4 lt4 hs4 hb3 b3))
    go_roundg gg
    case measure => omega
    case rel =>
     refine ⟨k + 1, by omega, congrArg (Value.int .i64) (by omega), (show Below W.heap.size W y4 ∧ _ from ⟨HO4.out.2, ?_⟩)⟩
     rw [HTK1.out]
     exact HO4.out.1
   | false =>
    have HTK1 : Hid (scanL s (l.take (k + 1)) = scanL s (l.take k)) := (show _ = _ by rw [HTK.out, if_neg (by rw [hq]; decide), List.append_nil])
    go_wp2_with fail
    go_roundg gg
    case measure => omega
    case rel =>
     refine ⟨k + 1, by omega, congrArg (Value.int .i64) (by omega), (show Below W.heap.size W y2 ∧ _ from ⟨HBE.out.1, ?_⟩)⟩
     rw [HTK1.out]
     exact HBE.out.2
end
section
open Go.RowKit
theorem join_change {C d : List Ch} (hC : Asc Ch.n C) (c : Ch) (hd : JoinIs (C.map Ch.plain ++ [c]) d) : d = (putA Ch.n C c).map Ch.plain := by
 refine asc_ext Ch.n hd.1 (plains_asc (putA_asc Ch.n c hC)) fun x => ?_
 rw [hd.2, lastA_snoc, plains_look, putA_look Ch.n c x hC, lastA_asc Ch.n (plains_asc hC), plains_look]
 by_cases e : c.n = x
 · rw [if_pos e, if_pos e]
 · rw [if_neg e, if_neg e]
   cases look Ch.n C x with
   | none => rfl
   | some y => simp [Ch.plain_plain]
theorem scan_doc {m mm : List Pa} {C : List Ch} (hm : Asc Pa.n m) (hC : Asc Ch.n C) (h : ApplyIs m (C.map Ch.plain) mm) (s : Sp) : scanV C (fun s => (scanL s m, 0)) s = (scanL s mm, 0) := by
 have e1 : scanV C (fun s => (scanL s m, 0)) s = (applyL (scanL s m) (inL C s), 0) := rfl
 have hs : ∀ {l : List Pa}, Asc Pa.n l → Asc Pa.n (scanL s l) := fun ha => List.Pairwise.sublist List.filter_sublist ha
 have hk : ∀ {l : List Pa} (x : Int), look Pa.n (scanL s l) x = if s.inb x then look Pa.n l x else none := by
  intro l x
  unfold scanL
  induction l with
  | nil => simp [look]
  | cons a r ih =>
   rw [List.filter_cons]
   by_cases ha : s.inb a.n = true
   · rw [if_pos ha]
     simp only [look]
     rw [ih]
     by_cases e : a.n = x
     · rw [if_pos e, if_pos e, ← e, if_pos ha]
     · rw [if_neg e, if_neg e]
   · rw [if_neg ha, ih]
     simp only [look]
     by_cases e : a.n = x
     · rw [if_pos e, ← e, if_neg ha, if_neg ha]
     · rw [if_neg e]
 rw [e1]
 refine congrArg (·, (0 : Int)) (asc_ext Pa.n (applyL_is _ _).1 (hs h.1) fun x => ?_)
 rw [(applyL_is _ _).2, hk, h.2, lastA_asc Ch.n (plains_asc hC), plains_look, doneA_plain, lastA_asc Ch.n (inL_asc hC s), look_filter, lastA_asc Pa.n (hs hm), hk, lastA_asc Pa.n hm]
 by_cases hb : s.inb x = true
 · rw [if_pos hb, if_pos hb, if_pos hb]
 · rw [if_neg hb, if_neg hb, if_neg hb]
   rfl
theorem get_doc {m mm : List Pa} {C : List Ch} (hm : Asc Pa.n m) (hC : Asc Ch.n C) (hg : ∀ c ∈ C, c.g = true → c.v = []) (h : ApplyIs m (C.map Ch.plain) mm) (K : Kz) : getV C (plGe m) K = match look Pa.n mm K.n with
    | none => ([], false, 0)
    | some p => (p.v, true, 0) := by
 rw [h.2, lastA_asc Ch.n (plains_asc hC), plains_look, doneA_plain, lastA_asc Pa.n hm]
 unfold getV
 cases e : look Ch.n C K.n with
 | none =>
  unfold plGe
  cases look Pa.n m K.n <;> rfl
 | some c =>
  have hc := hg c (look_key Ch.n e).1
  simp only [doneA]
  cases q : c.g with
  | true => rw [hc q]; rfl
  | false => rfl
def GoneOk (C : List Ch) : Prop := ∀ c ∈ C, c.g = true → c.v = []
theorem GoneOk.put {C : List Ch} (h : GoneOk C) (c : Ch) (hc : c.g = true → c.v = []) : GoneOk (putA Ch.n C c) := fun x hx => by
 rcases putA_mem Ch.n hx with hx | rfl
 · exact h x hx
 · exact hc
end
section
open Go.RowKit
def Value.isSlice : Value → Bool
 | .slice _ _ _ => true
 | _ => false
theorem SlB.off {α : Type} {k : Nat} {E : Enc α k} (hE : ∀ x : α, ∃ i n, (E.c x)[0]? = some (.int i n)) {w w' : World} {B p : Nat} {s : Array Value} {ty : TypeId} {q : Nat × Nat} {v : Value} {l : List α} (h : SlB E w B v l) (hb : w.heap[p]? = some (.cells s ty q)) (hs : ∀ x ∈ s.toList, Value.isSlice x = true) (hk : ∀ g, g < B → g ≠ p → w'.heap[g]? = w.heap[g]?) : SlB E w' B v l := by
 obtain ⟨ad, cap, h1, h2, h3, h4, h5⟩ := h
 refine ⟨ad, cap, h1, h2, h3, h4, ?_⟩
 rcases h5 with h5 | ⟨g, off, e, hg, hr⟩
 · exact .inl h5
 · match l, hr with
   | [], _ => exact .inl rfl
   | x :: r, hr =>
    refine .inr ⟨g, off, e, hg, fun i hi => range_same' (hr i hi) (hk g hg fun hgp => ?_)⟩
    subst hgp
    obtain ⟨j, n, hx⟩ := hE x
    have h0 := hr 0 (Nat.zero_lt_succ _) 0 (.int j n) hx
    rw [cell_of_row _ _ _ _ _ _ hb] at h0
    have hm : Value.int j n ∈ s.toList := by
     have := Array.mem_of_getElem? h0
     simpa using this
    have := hs _ hm
    cases this
theorem enc0P (x : Pa) : ∃ i n, (encP.c x)[0]? = some (.int i n) := by
 obtain ⟨k, hk, v⟩ := x
 match k, hk with
 | b :: r, _ => exact ⟨.u8, (b.toNat : Int), rfl⟩
theorem enc0C (x : Ch) : ∃ i n, (encC.c x)[0]? = some (.int i n) := by
 obtain ⟨k, hk, v, g⟩ := x
 match k, hk with
 | b :: r, _ => exact ⟨.u8, (b.toNat : Int), rfl⟩
theorem enc0S (x : Sp) : ∃ i n, (encS.c x)[0]? = some (.int i n) := by
 obtain ⟨F, T, e, hF, hT⟩ := x
 match F, hF with
 | b :: r, _ => exact ⟨.u8, (b.toNat : Int), rfl⟩
theorem SlB.isSlice {α : Type} {k : Nat} {E : Enc α k} {w : World} {B : Nat} {v : Value} {l : List α} (h : SlB E w B v l) : Value.isSlice v = true := by
 obtain ⟨ad, cap, rfl, -⟩ := h
 rfl
theorem RvIn.slices {w : World} {p : Nat} {bv cv rv mv : Value} {B : List Pa} {C : List Ch} {R : List Sp} {M : List (Value × List Ch)} (h : RvIn w p bv cv rv mv B C R M) : ∀ x ∈ (#[bv, cv, rv, mv] : Array Value).toList, Value.isSlice x = true := by
 obtain ⟨ad, cap, hm, -⟩ := h.m.out
 intro x hx
 simp only [List.mem_cons, List.not_mem_nil, or_false] at hx
 rcases hx with rfl | rfl | rfl | rfl
 · exact SlB.isSlice h.b
 · exact SlB.isSlice h.c
 · exact SlB.isSlice h.r
 · rw [hm]
   rfl
theorem RvIn.stored {w w' : World} {p : Nat} {bv cv rv mv cv' rv' mv' : Value} {B : List Pa} {C C' : List Ch} {R R' : List Sp} {M M' : List (Value × List Ch)} (h : RvIn w p bv cv rv mv B C R M) (hb : w'.heap[p]? = some (.cells #[bv, cv', rv', mv'] 45 (0, 0))) (hk : ∀ g, g < w.heap.size → g ≠ p → w'.heap[g]? = w.heap[g]?) (hz : w.heap.size ≤ w'.heap.size)
    (hc : Sl encC w cv' C') (hr : Sl encS w rv' R') (hm : SlS w w.heap.size mv' M') (hp : ∀ g off n cap, mv' = .slice (some ⟨g, off, none⟩) n cap → g ≠ p) : RvIn w' p bv cv' rv' mv' B C' R' M' := by
 have hs := h.slices
 refine ⟨hb, (SlB.off enc0P h.b h.blk hs hk).wide hz, (SlB.off enc0C hc h.blk hs hk).wide hz, (SlB.off enc0S hr h.blk hs hk).wide hz, ?_⟩
 obtain ⟨ad, cap, e1, e2, e3, e4⟩ := hm.out
 refine ⟨⟨ad, cap, e1, e2, e3, e4.imp id fun q => ?_⟩, fun e he => (SlB.off enc0C (hm.each e he) h.blk hs hk).wide hz⟩
 obtain ⟨g, off, a1, a2, a3⟩ := q
 have hne : g ≠ p := hp g off M'.length cap (by rw [e1, a1])
 exact ⟨g, off, a1, Nat.lt_of_lt_of_le a2 hz, fun i hi => (World.cell?_of_block (hk g a2 hne)).trans (a3 i hi)⟩
end
section
open Go.RowKit
abbrev SV := Option Addr × Nat × Nat
def SV.v (x : SV) : Value := .slice x.1 x.2.1 x.2.2
def encY : Enc SV 1 := ⟨fun x => [x.v], fun _ => rfl, fun x v hv => by rw [List.mem_singleton] at hv; subst hv; rfl⟩
structure MvIn (w : World) (mv : Value) (l : List SV) (M : List (Value × List Ch)) : Prop where
 sl : Sl encY w mv l
 eq : l.map SV.v = M.map (·.1)
 each : ∀ e ∈ M, Sl encC w e.1 e.2
theorem MvIn.called {w w' : World} {mv : Value} {l : List SV} {M : List (Value × List Ch)} (h : MvIn w mv l M) (b : Below w.heap.size w w') : MvIn w' mv l M := ⟨h.sl.called b, h.eq, fun e he => (h.each e he).called b⟩
theorem MvIn.nil (w : World) : MvIn w (.slice none 0 0) [] [] := ⟨SlB.nil _ _ _, rfl, fun e he => by cases he⟩
section
variable {α : Type} {k : Nat} {E : Enc α k} {P : Program} {ts te : TypeId} {bytes : Nat} {o : Oper} {a : Act} {w : World} {K : Act → World → Prop} {Q : Exit → Act → World → Prop}
theorem wp_build_none (R : RowTy P E ts te bytes) (ho : o.op = .buildSlice ts 0 #[])
    (h : ∀ w', Own E te w' w.heap.size (.slice (some ⟨w.heap.size, 0, none⟩) 0 0) [] → Below w.heap.size w w' → w'.heap.size = w.heap.size + 1 → K (a.put o.dst (.slice (some ⟨w.heap.size, 0, none⟩) 0 0)) w') : o.wp P a w K Q := by
 obtain ⟨i, z, hi, hz, hsz, hby, hzc⟩ := R.parts
 have hr : (Instr.buildSlice ts 0 #[]).run P w = .ok (.slice (some ⟨w.heap.size, 0, none⟩) 0 0) (w.alloc (.cells #[] te)) := by
  simp [Instr.buildSlice, run_underlying R.under, sizeOf, typeInfo, hi, newRow, Instr.fill]
  exact congrArg (fun c => w.alloc (Obj.cells c te)) (Array.eq_empty_of_size_eq_zero (by simp))
 unfold Oper.wp execOp
 simp only [ho, Sem.run_bind, Result.andThen_ok, List.map_toArray, List.map_nil, hr]
 exact h _ (World.ownsRow_made (base := w.heap.size) (e := te) (size := k) w #[] 0 (Nat.le_refl _) (by unfold maxLen; omega) (by simp)) ((Below.refl _ w).alloc (Nat.le_refl _) _) (by simp)
end
theorem own_of {ad : Option Addr} {g off n cap : Nat} {q} (h : ad = some ⟨g, off, q⟩) : Value.ownBlock (.slice ad n cap) = some g := by subst h; rfl
theorem SlB.aside {α : Type} {k : Nat} {E : Enc α k} {w w' : World} {S : Nat → Prop} {v : Value} {l : List α} (h : Sl E w v l) (f : FrV S w w') (hv : l ≠ [] → ∀ g, v.ownBlock = some g → ¬ S g) : Sl E w' v l := by
 obtain ⟨ad, cap, rfl, h2, h3, h4, h5⟩ := h
 refine ⟨ad, cap, rfl, h2, h3, h4, ?_⟩
 rcases h5 with h5 | ⟨g, off, e, hg, hr⟩
 · exact .inl h5
 · by_cases hl : l = []
   · exact .inl hl
   · exact .inr ⟨g, off, e, Nat.lt_of_lt_of_le hg f.size, fun i hi => range_same' (hr i hi) (f.block g hg (hv hl g (own_of e)))⟩
theorem SlB.ltB {α : Type} {k : Nat} {E : Enc α k} {w : World} {B : Nat} {v : Value} {l : List α} (h : SlB E w B v l) (hl : l ≠ []) : ∀ g, v.ownBlock = some g → g < B := fun g hg => by
 obtain ⟨ad, cap, rfl, h2, h3, h4, h5⟩ := h
 rcases h5 with h5 | ⟨g', off, e, hg', hr⟩
 · exact absurd h5 hl
 · rw [own_of e] at hg
   cases hg
   exact hg'
structure RvOff (S : Nat → Prop) (p : Nat) (bv cv rv mv : Value) (B : List Pa) (C : List Ch) (R : List Sp) (M : List (Value × List Ch)) : Prop where
 p : ¬ S p
 b : B ≠ [] → ∀ g, bv.ownBlock = some g → ¬ S g
 c : C ≠ [] → ∀ g, cv.ownBlock = some g → ¬ S g
 r : R ≠ [] → ∀ g, rv.ownBlock = some g → ¬ S g
 m : M ≠ [] → ∀ g, mv.ownBlock = some g → ¬ S g
 e : ∀ e ∈ M, e.2 ≠ [] → ∀ g, e.1.ownBlock = some g → ¬ S g
theorem RvIn.aside {w w' : World} {p : Nat} {bv cv rv mv : Value} {B : List Pa} {C : List Ch} {R : List Sp} {M : List (Value × List Ch)} {S : Nat → Prop} (h : RvIn w p bv cv rv mv B C R M) (f : FrV S w w') (o : RvOff S p bv cv rv mv B C R M) : RvIn w' p bv cv rv mv B C R M := by
 refine ⟨(f.block p h.lt o.p).trans h.blk, SlB.aside h.b f o.b, SlB.aside h.c f o.c, SlB.aside h.r f o.r, ?_⟩
 obtain ⟨ad, cap, e1, e2, e3, e4⟩ := h.m.out
 refine ⟨⟨ad, cap, e1, e2, e3, ?_⟩, fun e he => SlB.aside (h.m.each e he) f (o.e e he)⟩
 by_cases hM : M = []
 · exact .inl hM
 · rcases e4 with q | q
   · exact absurd q hM
   · obtain ⟨g, off, a1, a2, a3⟩ := q
     exact .inr ⟨g, off, a1, Nat.lt_of_lt_of_le a2 f.size, fun i hi => (World.cell?_of_block (f.block g a2 (o.m hM g (by rw [e1]; exact own_of a1)))).trans (a3 i hi)⟩
theorem MvIn.nils {w : World} {mv : Value} {l : List SV} {M : List (Value × List Ch)} (h : MvIn w mv l M) : l ≠ [] → M ≠ [] := fun hl e => hl (by
 have := congrArg List.length h.eq
 rw [e] at this
 exact List.eq_nil_of_length_eq_zero (by simpa using this))
theorem MvIn.aside {w w' : World} {mv : Value} {l : List SV} {M : List (Value × List Ch)} {S : Nat → Prop} (h : MvIn w mv l M) (f : FrV S w w') (hm : M ≠ [] → ∀ g, mv.ownBlock = some g → ¬ S g) (he : ∀ e ∈ M, e.2 ≠ [] → ∀ g, e.1.ownBlock = some g → ¬ S g) : MvIn w' mv l M :=
 ⟨SlB.aside h.sl f (fun hl => hm (h.nils hl)), h.eq, fun e hM => SlB.aside (h.each e hM) f (he e hM)⟩
theorem RvIn.lts {w : World} {p : Nat} {bv cv rv mv : Value} {B : List Pa} {C : List Ch} {R : List Sp} {M : List (Value × List Ch)} {l : List SV} (h : RvIn w p bv cv rv mv B C R M) (hm : MvIn w mv l M) : RvOff (fun i => w.heap.size ≤ i) p bv cv rv mv B C R M :=
 ⟨Nat.not_le_of_lt h.lt, fun q g hg => Nat.not_le_of_lt (SlB.ltB h.b q g hg), fun q g hg => Nat.not_le_of_lt (SlB.ltB h.c q g hg), fun q g hg => Nat.not_le_of_lt (SlB.ltB h.r q g hg), fun q g hg => Nat.not_le_of_lt (SlB.ltB hm.sl (fun e => q (by
  have := congrArg List.length hm.eq
  rw [e] at this
  exact List.eq_nil_of_length_eq_zero (by simpa using this.symm))) g hg), fun e he q g hg => Nat.not_le_of_lt (SlB.ltB (hm.each e he) q g hg)⟩
theorem RvOff.both {S T U : Nat → Prop} {p : Nat} {bv cv rv mv : Value} {B : List Pa} {C : List Ch} {R : List Sp} {M : List (Value × List Ch)} (h : RvOff S p bv cv rv mv B C R M) (k : RvOff T p bv cv rv mv B C R M) (hU : ∀ i, U i → S i ∨ T i) : RvOff U p bv cv rv mv B C R M :=
 ⟨fun e => (hU _ e).elim h.p k.p, fun q g hg e => (hU _ e).elim (h.b q g hg) (k.b q g hg), fun q g hg e => (hU _ e).elim (h.c q g hg) (k.c q g hg), fun q g hg e => (hU _ e).elim (h.r q g hg) (k.r q g hg), fun q g hg e => (hU _ e).elim (h.m q g hg) (k.m q g hg), fun x hx q g hg e => (hU _ e).elim (h.e x hx q g hg) (k.e x hx q g hg)⟩
end
section
open Go.RowKit
theorem MvIn.past {w w' : World} {p : Nat} {mv bv cv rv mv0 : Value} {l : List SV} {B : List Pa} {C : List Ch} {R : List Sp} {M M0 : List (Value × List Ch)} (h : MvIn w mv l M) (hr : RvIn w p bv cv rv mv0 B C R M0) (f : FrV (fun i => i = p) w w') (hp : ∀ g, mv.ownBlock = some g → g ≠ p) : MvIn w' mv l M :=
 ⟨SlB.aside h.sl f (fun _ => hp), h.eq, fun e he => (SlB.off enc0C (h.each e he) hr.blk hr.slices (fun g hg hne => f.block g hg hne)).wide f.size⟩
end
section
open Go.RowKit
section
variable {o : Oper} {a : Act} {w : World} {Q : Exit → Act → World → Prop}
theorem wp_build_two {K : Act → World → Prop} (x y : Operand) (ho : o.op = .buildSlice 43 2 #[(0, x), (1, y)]) (v u : Value) (hx : a.eval x = v) (hy : a.eval y = u) (l m : List Ch) (hl : Sl encC w v l) (hm : Sl encC w u m)
    (h : ∀ w', SlS w' w'.heap.size (.slice (some ⟨w.heap.size, 0, none⟩) 2 2) [(v, l), (u, m)] → Below w.heap.size w w' → K (a.put o.dst (.slice (some ⟨w.heap.size, 0, none⟩) 2 2)) w') : o.wp Tryz.prog a w K Q := by
 obtain ⟨i, z, hi, hz, hs, hzc⟩ := infoV
 have cv := cells_sl hl
 have cu := cells_sl hm
 refine wp_buildSlice 43 39 2 _ ho #[v, u] i z Tryz.underlying43 hi hz (by rw [hs]; omega) (by rw [hs]; omega) ?_ ?_
 · rw [hs]
   obtain ⟨C, hC⟩ : ∃ C : Array Value, C = (Array.range (2 * 1)).map (z.cells[· % z.cells.size]!) := ⟨_, rfl⟩
   have hsz : C.size = 2 := by rw [hC]; simp
   rw [← hC]
   obtain ⟨cs⟩ := C
   rcases cs with _ | ⟨c0, _ | ⟨c1, _ | ⟨c2, cs⟩⟩⟩
   · simp at hsz
   · simp at hsz
   · simp only [List.map_toArray, List.map_cons, List.map_nil, hx, hy]
     rw [fill_put (off := 0) (size := 1) rfl (by rw [cv]; rfl) (by simp), fill_put (off := 1) (size := 1) rfl (by rw [cu]; rfl) (by simp [cv])]
     simp [cv, cu, Instr.fill]
   · simp at hsz
 · have hb : (w.alloc (.cells #[v, u] 39)).heap[w.heap.size]? = some (.cells #[v, u] 39 (0, 0)) := heap_alloc_new _ _
   have hbl : Below w.heap.size w (w.alloc (.cells #[v, u] 39)) := (Below.refl _ w).alloc (Nat.le_refl _) _
   refine h _ ⟨⟨_, 2, rfl, Nat.le_refl _, (by unfold maxLen; simp), .inr ⟨w.heap.size, 0, rfl, by simp, fun i hi => ?_⟩⟩, fun e he => ?_⟩ hbl
   · rw [Nat.zero_add, cell_of_row _ _ _ _ _ _ hb]
     match i, hi with
     | 0, _ => rfl
     | 1, _ => rfl
   · rcases List.mem_cons.1 he with rfl | he
     · exact hl.called hbl
     · rw [List.mem_singleton] at he
       subst he
       exact hm.called hbl
end
end
section
open Go.RowKit
theorem rvdelete_calls (w : World) (p : Nat) (bv cv rv mv : Value) (B : List Pa) (C : List Ch) (R : List Sp) (M : List (Value × List Ch)) (h : RvIn w p bv cv rv mv B C R M) (hp : ∀ g off n cap, mv = .slice (some ⟨g, off, none⟩) n cap → g ≠ p) (hC : C.length ≤ 1000) (K : Kz) :
    Calls Tryz.prog 79 #[.pointer (some ⟨p, 0, none⟩), kv K.k] w fun e w' => (∃ x, e = .returned x) ∧ FrV (fun i => i = p) w w' ∧ ∃ cv' d, RvIn w' p bv cv' rv mv B d R M ∧ NewV w.heap.size cv' ∧ JoinIs (C ++ [goneC K]) d ∧ d.length ≤ C.length + 1 := by
 have b1 : Below w.heap.size w (w.alloc (.cells (bc K.k).toArray 54)) := (Below.refl _ w).alloc (Nat.le_refl _) _
 have HK : Hid (Has (w.alloc (.cells (bc K.k).toArray 54)) w.heap.size K.k) := Has.new w K.k K.h
 have HR0 : Hid (RvIn (w.alloc (.cells (bc K.k).toArray 54)) p bv cv rv mv B C R M ∧ Below w.heap.size w (w.alloc (.cells (bc K.k).toArray 54))) := ⟨h.called b1, b1⟩
 have hInfo : ∀ J : Kz, (Tryz.prog.info? 54).map (·.size) = some (bc J.k).length := fun J => by rw [bc_length, J.h]; exact Tryz.key_info
 obtain ⟨ad, cap, rfl, hcap, hmax, -, -⟩ := id h.c
 have HC : Hid (C.length ≤ 1000) := hC
 have HPP : Hid (∀ g off n cap, mv = .slice (some ⟨g, off, none⟩) n cap → g ≠ p) := hp
 clear b1 h hC hp
 go_enter Tryz.func79, Tryz.ntmps79
 go_upto_region 1 with fail
 generalize hW : w.alloc (.cells (bc K.k).toArray 54) = W at *
 have HRD : Hid (RvIn W.drew p bv (.slice ad C.length cap) rv mv B C R M ∧ Below w.heap.size w W.drew ∧ Has W.drew w.heap.size K.k) := ⟨HR0.out.1.called ⟨rfl, rfl, rfl, Nat.le_refl _, fun _ _ => rfl⟩, HR0.out.2.trans ⟨rfl, rfl, rfl, Nat.le_refl _, fun _ _ => rfl⟩, ⟨HK.out.len, HK.out.blk⟩⟩
 refine wp_region_noPanic ?_
 refine wp_region_Z 12 (fun yy => RvC yy p bv (.slice ad C.length cap) rv mv ∧ yy.rangeAt w.heap.size 0 (bc K.k)) (by kernel_rfl) ⟨RvC.mk HRD.out.1.blk, range_has HRD.out.2.2⟩ (fun hh => ?_)
 refine wpAnyZ_take (i := 0) (v := ?_) [10, 11, 12] rfl (by kernel_rfl) (by kernel_rfl) (by kernel_rfl) (by kernel_rfl) (fun _ _ _ h => h) (Or.inl ⟨by rfl, ?_⟩) hh ?_
 case refine_2 => (intro w hSw; go_simp; try with_reducible rfl)
 (try simp only [gs])
 refine wpAnyZ_take (i := 1) (v := ?_) [2, 3, 4, 8, 9, 12] rfl (by kernel_rfl) (by kernel_rfl) (by kernel_rfl) (by kernel_rfl) (fun _ _ _ h => h) (Or.inl ⟨by rfl, ?_⟩) hh ?_
 case refine_2 => (intro w hSw; go_simp; try with_reducible rfl)
 (try simp only [gs])
 refine wpAnyZ_take (i := 2) (v := ?_) [3, 4, 8, 9, 12] rfl (by kernel_rfl) (by kernel_rfl) (by kernel_rfl) (by kernel_rfl) (fun _ _ _ h => h) (Or.inl ⟨by rfl, ?_⟩) hh ?_
 case refine_2 => (intro w hSw; go_simp; try with_reducible rfl)
 (try simp only [gs])
 refine wpAnyZ_take (i := 3) (v := ?_) [4, 8, 9, 12] rfl (by kernel_rfl) (by kernel_rfl) (by kernel_rfl) (by kernel_rfl) (fun _ _ _ h => h) (Or.inl ⟨by rfl, ?_⟩) hh ?_
 case refine_2 => (intro w hSw; go_simp; try with_reducible rfl)
 (try simp only [gs])
 refine wpAnyZ_take (i := 4) (v := ?_) [8, 9, 12] rfl (by kernel_rfl) (by kernel_rfl) (by kernel_rfl) (by kernel_rfl) (fun _ _ _ h => h) (Or.inl ⟨by rfl, ?_⟩) hh ?_
 case refine_2 => (intro w hSw; have hc := hSw.1.c1; go_simp; try with_reducible rfl)
 (try simp only [gs])
 refine wpAnyZ_take (i := 5) [6, 7, 8, 9, 12] rfl (by kernel_rfl) (by kernel_rfl) (by kernel_rfl) (by kernel_rfl) (fun _ _ _ h => h) (yieldsIf_load_mid (by rfl) _ _ rfl _ _ rfl _ _ (fun _ h => h.2) Tryz.underlying54 rfl (hInfo K)) hh ?_
 (try simp only [gs])
 refine wpAnyZ_take (i := 6) (v := .agg (encC.c (goneC K)).toArray) [7, 8, 9, 12] rfl (by kernel_rfl) (by kernel_rfl) (by kernel_rfl) (by kernel_rfl) (fun _ _ _ h => h) (Or.inl ⟨by rfl, fun w _ => exec_build rfl (by simp only [List.map_toArray, List.map_cons, List.map_nil]; exact built_gone K) w⟩) hh ?_
 (try simp only [gs])
 clear hW HR0 HK
 generalize W.drew = W0 at *
 refine wpAnyZ_ready (rs := [7]) (by kernel_rfl) (by simp) (AllReadyZ.cons rfl (fun K0 hK => ?_) AllReadyZ.nil)
 rw [if_pos (by rfl)]
 (try simp only [gs])
 refine wp_build_el1 rowC _ rfl (goneC K) rfl (by decide) ?_
 intro y1 o1 b1 z1
 have HY1 : Hid (RvIn y1 p bv (.slice ad C.length cap) rv mv B C R M ∧ Below w.heap.size w y1 ∧ Has y1 w.heap.size K.k) := ⟨HRD.out.1.called b1, HRD.out.2.1.trans (b1.mono HRD.out.2.1.size), HRD.out.2.2.below b1 HRD.out.2.2.lt⟩
 have HO1 : Hid (Sl encC y1 (.slice (some ⟨W0.heap.size, 0, none⟩) 1 1) [goneC K]) := o1.slB
 refine hK.out _ _ (fun _ => ⟨RvC.mk HY1.out.1.blk, range_has HY1.out.2.2⟩) ?_
 clear hK K0 hh
 have hh : RvC y1 p bv (.slice ad C.length cap) rv mv ∧ y1.rangeAt w.heap.size 0 (bc K.k) := ⟨RvC.mk HY1.out.1.blk, range_has HY1.out.2.2⟩
 (try simp only [gs])
 clear o1 b1 z1
 refine wpAnyZ_ready (rs := [8]) (by kernel_rfl) (by simp) (AllReadyZ.cons rfl (fun K0 hK => ?_) AllReadyZ.nil)
 rw [if_pos (by rfl)]
 (try simp only [gs])
 refine wp_build_two _ _ rfl (.slice ad C.length cap) (.slice (some ⟨W0.heap.size, 0, none⟩) 1 1) rfl rfl C [goneC K] HY1.out.1.c HO1.out ?_
 intro y2 s2 b2
 have HY2 : Hid (RvIn y2 p bv (.slice ad C.length cap) rv mv B C R M ∧ Below w.heap.size w y2 ∧ Has y2 w.heap.size K.k) := ⟨HY1.out.1.called b2, HY1.out.2.1.trans (b2.mono HY1.out.2.1.size), HY1.out.2.2.below b2 HY1.out.2.2.lt⟩
 have hJ := rjoinN_calls y2 _ _ s2 (by simp) (by simp; have := HC.out; omega)
 refine hK.out _ _ (fun _ => ⟨RvC.mk HY2.out.1.blk, range_has HY2.out.2.2⟩) ?_
 clear hK K0 hh
 have hh : RvC y2 p bv (.slice ad C.length cap) rv mv ∧ y2.rangeAt w.heap.size 0 (bc K.k) := ⟨RvC.mk HY2.out.1.blk, range_has HY2.out.2.2⟩
 (try simp only [gs])
 clear s2 b2
 refine wpAnyZ_ready (rs := [9]) (by kernel_rfl) (by simp) (AllReadyZ.cons rfl (fun K0 hK => ?_) AllReadyZ.nil)
 rw [if_pos (by rfl)]
 (try simp only [gs])
 go_simp
 refine hJ.mono ?_
 clear hJ
 rintro e y3 ⟨v3, d, rfl, ⟨s3, n3⟩, i3, l3, b3⟩
 have HY3 : Hid (RvIn y3 p bv (.slice ad C.length cap) rv mv B C R M ∧ Below w.heap.size w y3 ∧ Has y3 w.heap.size K.k) := ⟨HY2.out.1.called b3, HY2.out.2.1.trans (b3.mono HY2.out.2.1.size), HY2.out.2.2.below b3 HY2.out.2.2.lt⟩
 have hfm : ([(Value.slice ad C.length cap, C), (.slice (some ⟨W0.heap.size, 0, none⟩) 1 1, [goneC K])] : List (Value × List Ch)).flatMap (·.2) = C ++ [goneC K] := by simp
 rw [hfm] at i3 l3
 have HD3 : Hid (JoinIs (C ++ [goneC K]) d ∧ d.length ≤ C.length + 1) := ⟨i3, by simpa using l3⟩
 refine hK.out _ _ (fun _ => ⟨RvC.mk HY3.out.1.blk, range_has HY3.out.2.2⟩) ?_
 clear hK K0 hh
 have hh : RvC y3 p bv (.slice ad C.length cap) rv mv ∧ y3.rangeAt w.heap.size 0 (bc K.k) := ⟨RvC.mk HY3.out.1.blk, range_has HY3.out.2.2⟩
 (try simp only [gs])
 clear i3 l3 b3 hfm
 have hb3 := HY3.out.1.blk
 have hf3 := frozen_of_row y3 p 1 _ _ hb3
 have hc3 : y3.cell? ⟨p, 1, none⟩ = some (.slice ad C.length cap) := (RvC.mk HY3.out.1.blk).c1
 obtain ⟨ad3, cap3, rfl, -, -, -, -⟩ := id s3
 have HN3 : Hid (NewV w.heap.size (.slice ad3 d.length cap3)) := fun g hg => Nat.le_trans HY2.out.2.1.size (n3 g hg)
 clear n3
 refine wpAnyZ_take (i := 10) (v := ?_) [11, 12] rfl (by kernel_rfl) (by kernel_rfl) (by kernel_rfl) (by kernel_rfl) (fun _ _ _ h => h) (Or.inl ⟨by rfl, ?_⟩) hh ?_
 case refine_2 => (intro w hSw; go_simp; try with_reducible rfl)
 (try simp only [gs])
 refine wpAnyZ_take (i := 11) (v := ?_) [12] rfl (by kernel_rfl) (by kernel_rfl) (by kernel_rfl) (by kernel_rfl) (fun _ _ _ h => h) (Or.inl ⟨by rfl, ?_⟩) hh ?_
 case refine_2 => (intro w hSw; go_simp; try with_reducible rfl)
 (try simp only [gs])
 refine wpAnyZ_ready (rs := [12]) (by kernel_rfl) (by simp) (AllReadyZ.cons rfl (fun K0 hK => ?_) AllReadyZ.nil)
 rw [if_pos (by rfl)]
 (try simp only [gs])
 go_simp
 refine hK.out _ _ (fun q => absurd q (by decide)) ?_
 clear hK K0
 (try simp only [gs])
 refine wpAnyZ_done (by kernel_rfl) ?_ _
 refine NoPanic.normal ?_
 have HF : Hid (RvIn (y3.setCell ⟨p, 1, none⟩ (.slice ad3 d.length cap3)) p bv (.slice ad3 d.length cap3) rv mv B d R M) := by
  refine RvIn.stored HY3.out.1 ?_ (fun g _ hne => heap_setCell_other _ _ _ _ hne) (by simp) s3 HY3.out.1.r HY3.out.1.m HPP.out
  rw [setCell_eq_setRow y3 p 1 _ _ _ _ hb3, setRow_heap y3 p _ _ _ _ hb3]
  rfl
 have HG : Hid (FrV (fun i => i = p) w (y3.setCell ⟨p, 1, none⟩ (.slice ad3 d.length cap3))) :=
  (FrV.of_below (S := fun i => i = p) HY3.out.2.1).trans (S' := fun i => i = p) ⟨⟨rfl, rfl, rfl, by simp, fun k hk => absurd hk (Nat.not_lt_zero k)⟩, fun i _ hn => heap_setCell_other _ _ _ _ hn⟩ (fun i e => .inl e)
 clear hh hf3 hc3 hb3
 generalize y3.setCell ⟨p, 1, none⟩ (.slice ad3 d.length cap3) = y4 at *
 go_wp2_with fail
 go_end0
 exact ⟨⟨_, rfl⟩, HG.out, _, d, HF.out, HN3.out, HD3.out⟩
end
end Go.Proofs.YtdmindhjmjnagaaGreatDoor
