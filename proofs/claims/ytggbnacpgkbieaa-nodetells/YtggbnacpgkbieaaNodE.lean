/- The block of a node, as bytes; write. -/
import Derived.Test.YtggbnacpgkbieaaNodD
namespace Go.Proofs.Ytggbnacpgkbieaa
set_option linter.unusedVariables false
open Go.RowKit

def cat (a b : List UInt8) : List UInt8 := a ++ b
theorem cat_length (a b : List UInt8) : (cat a b).length = a.length + b.length := by simp [cat]
def WS.pair (s : WS) (p : Pr) : WS := (s.put p.k).text p.s
def WS.kid (s : WS) (p : Kd) : WS := (s.put p.k).word p.n
theorem put_fits (L x : List UInt8) (h : L.length + x.length ≤ 512) : (⟨512, L, false⟩ : WS).put x = ⟨512, cat L x, false⟩ := by
  unfold WS.put
  simp only
  rw [if_neg (by simp), if_pos (by omega)]
  rfl
theorem step_below {x w' y : World} (b : Below x.heap.size x w') (o : Obj) (t : Touch w'.heap.size none (w'.alloc o) y) : Below x.heap.size x y :=
  below_touched (b.alloc b.size o) t b.size (Nat.le_refl _)
theorem WrS.called {w w' : World} {p : Nat} {s : WS} {r : Option Nat} (h : WrS w p s r) (b : Below w.heap.size w w') : WrS w' p s r := h.kept (b.block _ h.lt.1) fun k hk => b.block _ (h.lt.2 k hk).2
theorem touch_below {w w' : World} (p : Nat) (r : Option Nat) (b : Below w.heap.size w w') : Touch p r w w' := ⟨b.os, b.tape, b.output, b.size, fun k hk _ _ => b.block k hk⟩
theorem conv_part {w : World} {b o : Nat} {K : List UInt8} (hr : w.rangeAt b o (bc K)) (hl : K.length = 24) (cap : Nat) : (convert 26 9 (.slice (some ⟨b, o, none⟩) 24 cap)).run Try.prog w = .ok (.string (str K)) w := by
  have := run_convert_bytes_arg (P := Try.prog) w 26 5 Try.underlying26 Try.underlying5 b o 24 cap (K.map fun b => (b.toNat : Int)) (by simp [hl]) (fun i hi => by
    have hi' : i < K.length := by omega
    rw [hr i (.int .u8 ((K[i]).toNat : Int)) (by simp [bc, hi'])]
    simp [hi']) 9 Try.underlying9
  rw [str_of] at this
  exact this
theorem Has.range {w : World} {b : Nat} {K : List UInt8} (h : Has w b K) : w.rangeAt b 0 (bc K) := fun j v hv => by
  rw [Nat.zero_add, cell_of_row w b _ _ _ _ h.blk]
  simpa using hv
/-- The writer's pointer in block c. -/
def ptrAt (w : World) (c p : Nat) (t : TypeId) : Prop := w.heap[c]? = some (.cells #[.pointer (some ⟨p, 0, none⟩)] t (0, 0))

set_option maxHeartbeats 1000000 in
theorem restP_calls (w : World) (c p : Nat) (s : WS) (r : Option Nat) (e : Pr) (h : WrS w p s r) (hc : ptrAt w c p 45) (hl : e.k.length = 24) (hv : e.s.size ≤ 40) :
    Calls Try.prog 21 #[ev e.el, .pointer (some ⟨c, 0, none⟩)] w fun x w' => x = .returned (.tuple #[]) ∧ WrG p w r (s.text e.s) w' := by
  have h1 : HasP (w.alloc (.cells (ec e.el).toArray 44)) w.heap.size e.el := HasP.new w e.el _ rfl (Pr.ok_el hl)
  have B1 : Below w.heap.size w (w.alloc (.cells (ec e.el).toArray 44)) := (Below.refl _ w).alloc (Nat.le_refl _) _
  have c24 : (w.alloc (.cells (ec e.el).toArray 44)).cell? ⟨w.heap.size, 24, none⟩ = some (.string e.s) := h1.val
  have cc : (w.alloc (.cells (ec e.el).toArray 44)).cell? ⟨c, 0, none⟩ = some (.pointer (some ⟨p, 0, none⟩)) := (World.cell?_of_block (B1.block c (lt_of_block hc))).trans (cell_of_one hc)
  have hw := h.called B1
  clear h1 hc
  go_enter Try.func21, Try.ntmps21
  go_wp2_with (go_at_call 22; refine (text_calls _ p e.s s r hw (by omega)).mono ?_; rintro x w2 ⟨rfl, g2⟩)
  go_end0
  obtain ⟨r', g1, g3, g4⟩ := g2
  exact ⟨rfl, r', g1, (touch_below p r B1).trans g3 (Near.refl _ _), fun k hk => by rcases g4 k hk with e | e; exact .inl e; exact .inr (by have := B1.size; omega)⟩

set_option maxHeartbeats 4000000 in
set_option maxRecDepth 100000 in
theorem writeP_calls (w : World) (c p : Nat) (s : WS) (r : Option Nat) (sv : Value) (l : List Pr) (rl : Option Nat) (h : WrS w p s r) (hc : ptrAt w c p 45) (hcp : c ≠ p) (hcr : r ≠ some c) (hl : ElsIn w sv (l.map Pr.el) rl) (hrl : ∀ k, rl = some k → k < p) (hv : ∀ e ∈ l, e.s.size ≤ 40) (hn : l.length ≤ 18) :
    Calls Try.prog 19 #[.pointer (some ⟨p, 0, none⟩), sv, .func (Fn.func 20) #[] #[], .func (Fn.func 21) #[] #[.pointer (some ⟨c, 0, none⟩)]] w fun x w' => x = .returned (.tuple #[]) ∧ WrG p w r (l.foldl WS.pair (s.byte l.length)) w' := by
  obtain ⟨ad, cap, rfl, hcap, hmax, hok, hin⟩ := hl
  simp only [List.length_map] at hcap hmax hok hin ⊢
  obtain ⟨N, hN⟩ : ∃ N : Nat, N = l.length := ⟨_, rfl⟩
  rw [← hN] at hcap hn ⊢
  have HN : Hid (N = l.length) := hN
  have HI : Hid (∀ i (hi : i < l.length), ∃ g off, ad = some ⟨g, off, none⟩ ∧ g < p ∧ w.rangeAt g (off + i * 25) (ec (l[i]).el) ∧ (l[i]).k.length = 24 ∧ (fun e : Pr => e.s.size ≤ 40) l[i]) := fun i hi => by
    rcases hin with e | ⟨g, off, h1, h1', h2, h3⟩
    · simp at e; subst e; simp at hi
    · exact ⟨g, off, h1, hrl g h1', by have := h3 i hi; simpa using this, by have := (hok i hi).len; simpa [Pr.el] using this, hv _ (List.getElem_mem _)⟩
  have hpl := h.lt
  have HPC : Hid (ptrAt w c p 45) := hc
  clear hN hin hok hmax hrl hv hc
  go_enter Try.func19, Try.ntmps19
  go_upto_region 1 with (go_at_call 18; refine (byte_calls _ p _ s r h (by omega)).mono ?_; rintro x w1 ⟨rfl, r1, g1, t1, n1⟩)
  have eb : s.byte (N : Int) = s.byte ((N : Nat) : Int) := rfl
  go_wp2_with fail
  go_loopg [17] N (fun g i wr => ∃ (k : Nat) (s' : WS) (r' : Option Nat), k + g = N ∧ i = .int .i64 (k : Int) ∧ Hid (WrS wr p s' r' ∧ Touch p r w wr ∧ Near r r' w.heap.size) ∧ Hid (l.foldl WS.pair (s.byte (N : Int)) = (l.drop k).foldl WS.pair s'))
  case atStart => exact ⟨0, _, r1, by omega, rfl, ⟨g1, t1, n1⟩, (show _ = _ from rfl)⟩
  case round =>
    obtain ⟨k, s', r', hkg, rfl, HP, HE⟩ := hrel
    cases gk with
    | zero =>
      have hkN : k = N := by omega
      subst hkN
      go_wp2_with fail
      go_end0
      exact ⟨rfl, r', by rw [HE.out, HN.out, List.drop_length]; exact HP.out.1, HP.out.2⟩
    | succ g =>
      have hlt : k < N := by omega
      have hltI : (k : Int) < (N : Int) := by omega
      have hkl : k < l.length := by rw [← HN.out]; exact hlt
      obtain ⟨g0, off, rfl, hg, hat, lA, vA⟩ := HI.out k hkl
      have hwl := HP.out.1.lt
      have HR : Hid (wr.rangeAt g0 (off + k * 25) (ec (l[k]).el)) := range_same hat (HP.out.2.1.block g0 (by omega) (by omega) (fun e => by have := hpl.2 _ e; omega))
      have HE3 : Hid (l.foldl WS.pair (s.byte (N : Int)) = (l.drop (k + 1)).foldl WS.pair (s'.pair l[k])) := (show _ = _ by rw [HE.out, List.drop_eq_getElem_cons hkl, List.foldl_cons])
      clear HE hat
      generalize l[k] = e at *
      go_upto_region 5 with (first
        | (refine load_P _ rfl g0 (off + k * 25) rfl rfl e.el (Pr.ok_el lA) HR.out ?_)
        | (refine store_P rfl _ _ rfl wr.heap.size rfl e.el rfl (Pr.ok_el lA) nilP (zero_P wr _ rfl) ?_; intro x1 hu1 tx1 sx1)
        | (refine load_P _ rfl wr.heap.size 0 rfl rfl e.el (Pr.ok_el lA) hu1.range ?_)
        | (go_at_call 20; refine (keyP_calls _ e.el (Pr.ok_el lA)).mono ?_; rintro x x2 ⟨rfl, b2⟩)
        | (refine store_key rfl _ _ rfl x2.heap.size rfl e.el.k rfl lA (zs 24) (zero_has x2 _ rfl) ?_; intro x3 hu3 tx3 sx3))
      have B1 : Below wr.heap.size wr x1 := step_below (Below.refl _ wr) _ tx1
      have B2 : Below wr.heap.size wr x2 := B1.trans (b2.mono B1.size)
      have s2 := B2.size
      have B3 : Below wr.heap.size wr x3 := below_touched (B2.alloc s2 _) tx3 s2 (Nat.le_refl _)
      have u1 := hu1.lt
      have hs2 := b2.size
      have HU : Hid (HasP x3 wr.heap.size e.el) := ((hu1.below b2 hu1.lt).alloc _).touch tx3 (by omega)
      have hcv := conv_part hu3.range lA 24
      have hw3 := HP.out.1.called B3
      have h3c : x3.heap[c]? = some (.cells #[.pointer (some ⟨p, 0, none⟩)] 45 (0, 0)) := ((B3.block c (by have := HP.out.2.1.size; have := lt_of_block HPC.out; omega)).trans (HP.out.2.1.block c (lt_of_block HPC.out) hcp hcr)).trans HPC.out
      have H3C : Hid (x3.heap[c]? = some (.cells #[.pointer (some ⟨p, 0, none⟩)] 45 (0, 0))) := h3c
      have hrc : r' ≠ some c := fun e => by rcases HP.out.2.2 c e with e | e; exact hcr e; have := lt_of_block HPC.out; omega
      have hs3 := B3.size
      have HT3 : Hid (Touch p r w x3) := HP.out.2.1.trans (touch_below p r' B3) HP.out.2.2
      clear hu1 tx1 sx1 b2 hu3 tx3 sx3 B1 B2 HR h3c
      have hwp := hwl.1
      have hwr := hwl.2
      clear hwl
      generalize wr.heap.size = nx at *
      go_upto_region 6 with (go_at_call 17; refine (raw_calls _ p (str e.k) s' r' hw3 (by rw [str_size]; omega)).mono ?_; rintro x w4 ⟨rfl, r4, g4, t4, n4⟩)
      rw [str_list] at g4
      have hu4 : HasP w4 nx e.el := HU.out.same (t4.block nx HU.out.lt (by omega) (fun e => by have := hwr _ e; omega))
      have h4c : ptrAt w4 c p 45 := (t4.block c (lt_of_block H3C.out) hcp hrc).trans H3C.out
      have HX : Hid (Calls Try.prog 21 #[ev e.el, .pointer (some ⟨c, 0, none⟩)] w4 fun x w' => x = .returned (.tuple #[]) ∧ WrG p w4 r4 ((s'.put e.k).text e.s) w') := restP_calls w4 c p _ r4 e g4 h4c lA vA
      clear g4 h4c
      go_wp2_with (first
        | (refine load_P _ rfl nx 0 rfl rfl e.el (Pr.ok_el lA) hu4.range ?_)
        | (go_at_call 21; refine HX.out.mono ?_; rintro x w5 ⟨rfl, r5, g5, t5, n5⟩))
      go_roundg g
      case measure => omega
      case rel =>
        have hh := HP.out
        have T3 := HT3.out
        have T4 : Touch p r w w4 := T3.trans t4 hh.2.2
        have N4 : Near r r4 w.heap.size := hh.2.2.trans n4 T3.size
        exact ⟨k + 1, _, r5, by omega, by go_num, ⟨g5, T4.trans t5 N4, N4.trans n5 T4.size⟩, HE3.out⟩

set_option maxHeartbeats 1000000 in
theorem restK_calls (w : World) (c p : Nat) (s : WS) (r : Option Nat) (e : Kd) (h : WrS w p s r) (hc : ptrAt w c p 45) (hl : e.k.length = 24) (hv : 0 ≤ e.n ∧ e.n ≤ 4294967295) :
    Calls Try.prog 25 #[ev e.el, .pointer (some ⟨c, 0, none⟩)] w fun x w' => x = .returned (.tuple #[]) ∧ WrG p w r (s.word e.n) w' := by
  have h1 : HasK (w.alloc (.cells (ec e.el).toArray 54)) w.heap.size e.el := HasK.new w e.el _ rfl (Kd.ok_el hl)
  have B1 : Below w.heap.size w (w.alloc (.cells (ec e.el).toArray 54)) := (Below.refl _ w).alloc (Nat.le_refl _) _
  have c24 : (w.alloc (.cells (ec e.el).toArray 54)).cell? ⟨w.heap.size, 24, none⟩ = some (.int .i64 e.n) := h1.val
  have cc : (w.alloc (.cells (ec e.el).toArray 54)).cell? ⟨c, 0, none⟩ = some (.pointer (some ⟨p, 0, none⟩)) := (World.cell?_of_block (B1.block c (lt_of_block hc))).trans (cell_of_one hc)
  have hw := h.called B1
  clear h1 hc
  go_enter Try.func25, Try.ntmps25
  go_wp2_with (go_at_call 26; refine (word_calls _ p e.n s r hw (by omega)).mono ?_; rintro x w2 ⟨rfl, g2⟩)
  go_end0
  obtain ⟨r', g1, g3, g4⟩ := g2
  exact ⟨rfl, r', g1, (touch_below p r B1).trans g3 (Near.refl _ _), fun k hk => by rcases g4 k hk with e | e; exact .inl e; exact .inr (by have := B1.size; omega)⟩

set_option maxHeartbeats 4000000 in
set_option maxRecDepth 100000 in
theorem writeK_calls (w : World) (c p : Nat) (s : WS) (r : Option Nat) (sv : Value) (l : List Kd) (rl : Option Nat) (h : WrS w p s r) (hc : ptrAt w c p 45) (hcp : c ≠ p) (hcr : r ≠ some c) (hl : ElsIn w sv (l.map Kd.el) rl) (hrl : ∀ k, rl = some k → k < p) (hv : ∀ e ∈ l, 0 ≤ e.n ∧ e.n ≤ 4294967295) (hn : l.length ≤ 18) :
    Calls Try.prog 23 #[.pointer (some ⟨p, 0, none⟩), sv, .func (Fn.func 24) #[] #[], .func (Fn.func 25) #[] #[.pointer (some ⟨c, 0, none⟩)]] w fun x w' => x = .returned (.tuple #[]) ∧ WrG p w r (l.foldl WS.kid (s.byte l.length)) w' := by
  obtain ⟨ad, cap, rfl, hcap, hmax, hok, hin⟩ := hl
  simp only [List.length_map] at hcap hmax hok hin ⊢
  obtain ⟨N, hN⟩ : ∃ N : Nat, N = l.length := ⟨_, rfl⟩
  rw [← hN] at hcap hn ⊢
  have HN : Hid (N = l.length) := hN
  have HI : Hid (∀ i (hi : i < l.length), ∃ g off, ad = some ⟨g, off, none⟩ ∧ g < p ∧ w.rangeAt g (off + i * 25) (ec (l[i]).el) ∧ (l[i]).k.length = 24 ∧ (fun e : Kd => 0 ≤ e.n ∧ e.n ≤ 4294967295) l[i]) := fun i hi => by
    rcases hin with e | ⟨g, off, h1, h1', h2, h3⟩
    · simp at e; subst e; simp at hi
    · exact ⟨g, off, h1, hrl g h1', by have := h3 i hi; simpa using this, by have := (hok i hi).len; simpa [Kd.el] using this, hv _ (List.getElem_mem _)⟩
  have hpl := h.lt
  have HPC : Hid (ptrAt w c p 45) := hc
  clear hN hin hok hmax hrl hv hc
  go_enter Try.func23, Try.ntmps23
  go_upto_region 1 with (go_at_call 18; refine (byte_calls _ p _ s r h (by omega)).mono ?_; rintro x w1 ⟨rfl, r1, g1, t1, n1⟩)
  have eb : s.byte (N : Int) = s.byte ((N : Nat) : Int) := rfl
  go_wp2_with fail
  go_loopg [17] N (fun g i wr => ∃ (k : Nat) (s' : WS) (r' : Option Nat), k + g = N ∧ i = .int .i64 (k : Int) ∧ Hid (WrS wr p s' r' ∧ Touch p r w wr ∧ Near r r' w.heap.size) ∧ Hid (l.foldl WS.kid (s.byte (N : Int)) = (l.drop k).foldl WS.kid s'))
  case atStart => exact ⟨0, _, r1, by omega, rfl, ⟨g1, t1, n1⟩, (show _ = _ from rfl)⟩
  case round =>
    obtain ⟨k, s', r', hkg, rfl, HP, HE⟩ := hrel
    cases gk with
    | zero =>
      have hkN : k = N := by omega
      subst hkN
      go_wp2_with fail
      go_end0
      exact ⟨rfl, r', by rw [HE.out, HN.out, List.drop_length]; exact HP.out.1, HP.out.2⟩
    | succ g =>
      have hlt : k < N := by omega
      have hltI : (k : Int) < (N : Int) := by omega
      have hkl : k < l.length := by rw [← HN.out]; exact hlt
      obtain ⟨g0, off, rfl, hg, hat, lA, vA⟩ := HI.out k hkl
      have hwl := HP.out.1.lt
      have HR : Hid (wr.rangeAt g0 (off + k * 25) (ec (l[k]).el)) := range_same hat (HP.out.2.1.block g0 (by omega) (by omega) (fun e => by have := hpl.2 _ e; omega))
      have HE3 : Hid (l.foldl WS.kid (s.byte (N : Int)) = (l.drop (k + 1)).foldl WS.kid (s'.kid l[k])) := (show _ = _ by rw [HE.out, List.drop_eq_getElem_cons hkl, List.foldl_cons])
      clear HE hat
      generalize l[k] = e at *
      go_upto_region 5 with (first
        | (refine load_K _ rfl g0 (off + k * 25) rfl rfl e.el (Kd.ok_el lA) HR.out ?_)
        | (refine store_K rfl _ _ rfl wr.heap.size rfl e.el rfl (Kd.ok_el lA) nilK (zero_K wr _ rfl) ?_; intro x1 hu1 tx1 sx1)
        | (refine load_K _ rfl wr.heap.size 0 rfl rfl e.el (Kd.ok_el lA) hu1.range ?_)
        | (go_at_call 24; refine (keyK_calls _ e.el (Kd.ok_el lA)).mono ?_; rintro x x2 ⟨rfl, b2⟩)
        | (refine store_key rfl _ _ rfl x2.heap.size rfl e.el.k rfl lA (zs 24) (zero_has x2 _ rfl) ?_; intro x3 hu3 tx3 sx3))
      have B1 : Below wr.heap.size wr x1 := step_below (Below.refl _ wr) _ tx1
      have B2 : Below wr.heap.size wr x2 := B1.trans (b2.mono B1.size)
      have s2 := B2.size
      have B3 : Below wr.heap.size wr x3 := below_touched (B2.alloc s2 _) tx3 s2 (Nat.le_refl _)
      have u1 := hu1.lt
      have hs2 := b2.size
      have HU : Hid (HasK x3 wr.heap.size e.el) := ((hu1.below b2 hu1.lt).alloc _).touch tx3 (by omega)
      have hcv := conv_part hu3.range lA 24
      have hw3 := HP.out.1.called B3
      have h3c : x3.heap[c]? = some (.cells #[.pointer (some ⟨p, 0, none⟩)] 45 (0, 0)) := ((B3.block c (by have := HP.out.2.1.size; have := lt_of_block HPC.out; omega)).trans (HP.out.2.1.block c (lt_of_block HPC.out) hcp hcr)).trans HPC.out
      have H3C : Hid (x3.heap[c]? = some (.cells #[.pointer (some ⟨p, 0, none⟩)] 45 (0, 0))) := h3c
      have hrc : r' ≠ some c := fun e => by rcases HP.out.2.2 c e with e | e; exact hcr e; have := lt_of_block HPC.out; omega
      have hs3 := B3.size
      have HT3 : Hid (Touch p r w x3) := HP.out.2.1.trans (touch_below p r' B3) HP.out.2.2
      clear hu1 tx1 sx1 b2 hu3 tx3 sx3 B1 B2 HR h3c
      have hwp := hwl.1
      have hwr := hwl.2
      clear hwl
      generalize wr.heap.size = nx at *
      go_upto_region 6 with (go_at_call 17; refine (raw_calls _ p (str e.k) s' r' hw3 (by rw [str_size]; omega)).mono ?_; rintro x w4 ⟨rfl, r4, g4, t4, n4⟩)
      rw [str_list] at g4
      have hu4 : HasK w4 nx e.el := HU.out.same (t4.block nx HU.out.lt (by omega) (fun e => by have := hwr _ e; omega))
      have h4c : ptrAt w4 c p 45 := (t4.block c (lt_of_block H3C.out) hcp hrc).trans H3C.out
      have HX : Hid (Calls Try.prog 25 #[ev e.el, .pointer (some ⟨c, 0, none⟩)] w4 fun x w' => x = .returned (.tuple #[]) ∧ WrG p w4 r4 ((s'.put e.k).word e.n) w') := restK_calls w4 c p _ r4 e g4 h4c lA vA
      clear g4 h4c
      go_wp2_with (first
        | (refine load_K _ rfl nx 0 rfl rfl e.el (Kd.ok_el lA) hu4.range ?_)
        | (go_at_call 25; refine HX.out.mono ?_; rintro x w5 ⟨rfl, r5, g5, t5, n5⟩))
      go_roundg g
      case measure => omega
      case rel =>
        have hh := HP.out
        have T3 := HT3.out
        have T4 : Touch p r w w4 := T3.trans t4 hh.2.2
        have N4 : Near r r4 w.heap.size := hh.2.2.trans n4 T3.size
        exact ⟨k + 1, _, r5, by omega, by go_num, ⟨g5, T4.trans t5 N4, N4.trans n5 T4.size⟩, HE3.out⟩
end Go.Proofs.Ytggbnacpgkbieaa
