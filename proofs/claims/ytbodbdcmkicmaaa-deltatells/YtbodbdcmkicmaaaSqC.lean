/- What a map holds, in the order of its keys: slices.SortedFunc, rising. -/
import Derived.Test.YtbodbdcmkicmaaaSqB
import Derived.Test.YtbodbdcmkicmaaaSoF
import Derived.Test.YtbodbdcmkicmaaaDlL
namespace Go.Proofs.Ytbodbdcmkicmaaa
set_option linter.unusedVariables false
open Go.RowKit Go.Sort Go.Shelf

theorem grow_made (w : World) (a b : Obj) (n : Nat) : ((w.alloc a).alloc b).drewN n = Go.Sort.grow (w.drewN n) #[a, b] := by
  rw [Go.Sort.alloc_eq_grow, Go.Sort.alloc_eq_grow, Go.Sort.grow_grow]
  rfl
set_option maxRecDepth 100000 in
set_option maxHeartbeats 1000000 in
theorem cmp_calls (w : World) (K L : Kz) :
    Calls Try.prog 38 #[kv K.k, kv L.k] w fun e w' => e = .returned (.int .i64 (Lib.compareBytes K.k L.k)) ∧ ∃ q os, w' = Go.Sort.grow (w.drewN q) os := by
  have h1 : Has ((w.alloc (.cells (bc K.k).toArray 41)).alloc (.cells (bc L.k).toArray 41)) w.heap.size K.k := (Has.new w K.k K.h).alloc _
  have h2 : Has ((w.alloc (.cells (bc K.k).toArray 41)).alloc (.cells (bc L.k).toArray 41)) (w.heap.size + 1) L.k := by have := Has.new (w.alloc (.cells (bc K.k).toArray 41)) L.k L.h; simpa using this
  have H1 : Hid (Has ((w.alloc (.cells (bc K.k).toArray 41)).alloc (.cells (bc L.k).toArray 41)) w.heap.size K.k) := h1
  have H2 : Hid (Has ((w.alloc (.cells (bc K.k).toArray 41)).alloc (.cells (bc L.k).toArray 41)) (w.heap.size + 1) L.k) := h2
  clear h1 h2
  go_enter Try.func38, Try.ntmps38
  go_wp2
  go_quiet (first | (go_at_call 43; exact Calls.quiet_of_same (compare_calls _ w.heap.size (w.heap.size + 1) K.k L.k (by exact ⟨K.h, H1.out.blk⟩) (by exact ⟨L.h, H2.out.blk⟩) 24 24)))
  go_wp2
  go_ret
  exact ⟨rfl, _, _, grow_made _ _ _ _⟩
instance : Inhabited Kz := ⟨⟨zs 24, rfl⟩⟩
def cfK (x y : Kz) : Int := Lib.compareBytes x.k y.k
theorem ltK (x y : Kz) : ltOf cfK x y = decide (num x.k < num y.k) := by
  unfold ltOf cfK
  rw [← less_num x.k y.k (by rw [x.h, y.h]), ← compare_less]
theorem swoK : SWO (ltOf cfK) where
  irrefl x := by rw [ltK]; simp
  trans x y z h1 h2 := by rw [ltK] at *; simp at *; omega
  ntrans x y z h1 h2 := by rw [ltK] at *; simp at *; omega
theorem perm_of {d d' : Array Kz} (h : PermIn 0 d.size d d') : d'.toList.Perm d.toList := by
  obtain ⟨h1, _, h3⟩ := h
  have e1 : (d'.extract 0 d.size).toList = d'.toList := by rw [← h1]; simp
  have e2 : (d.extract 0 d.size).toList = d.toList := by simp
  rwa [e1, e2] at h3
theorem sorted_of {d : Array Kz} (h : SortedIn (ltOf cfK) 0 d.size d) : d.toList.Pairwise (fun e f => num e.k ≤ num f.k) := by
  rw [List.pairwise_iff_getElem]
  intro i j hi hj hij
  have h1 := h i j (Nat.zero_le _) hij (by simpa using hj)
  have e1 : d[i]! = d.toList[i] := by rw [getElem!_pos d i (by simpa using hi)]; rfl
  have e2 : d[j]! = d.toList[j] := by rw [getElem!_pos d j (by simpa using hj)]; rfl
  rw [e1, e2, ltK] at h1
  simp at h1
  simpa using h1
theorem sort_calls (w : World) (base : Nat) (v : Value) (l : List Kz) (h : Own encK 41 w base v l) (hl : l.length ≤ 1000000) :
    Calls Try.prog 41 #[v, .func (.func 38) #[] #[]] w fun e w' => e = .returned (.tuple #[]) ∧ ∃ l', l'.Perm l ∧ l'.Pairwise (fun e f => num e.k ≤ num f.k) ∧ Own encK 41 w' base v l' ∧ w.grownBy w' v.ownBlock := by
  have eg : ∀ args w, (callFunc 38 args).run Try.prog w = .ok (.enter 38 args) w := enters_of Try.func38 (by kernel_rfl) rfl
  rcases h.2 with ⟨rfl, h0⟩ | ⟨g, cap, cur, rfl, hb, hg, _⟩
  · have he : l = [] := List.eq_nil_of_length_eq_zero h0
    subst he
    have hc := AnyF.slices_SortFunc_none (P := Try.prog) (ρ := Try.sortK_ren) { Try.sortK with } none 0 (.func (.func 38) #[] #[]) w
    refine Calls.mono (show Calls Try.prog 41 _ _ _ from hc) ?_
    rintro e w' ⟨rfl, rfl⟩
    exact ⟨rfl, [], List.Perm.refl _, List.Pairwise.nil, h, ⟨rfl, rfl, rfl, Nat.le_refl _, fun _ _ _ => rfl⟩⟩
  · have hlt := lt_of_block hg
    have hc := AnyQ.slices_SortFunc Try.sortK 24 Try.isAgg41 Try.sizeOf41 encK.c encK.len encK.one cfK swoK 38 #[] g 0 cap l.toArray w eg
      (fun _ _ _ _ x y => cmp_calls _ x y) (holds_own encK h) hlt (by simp; omega)
    refine Calls.mono (show Calls Try.prog 41 _ _ _ from hc) ?_
    rintro e w' ⟨rfl, d', n, os, hp, hs, rfl⟩
    have hsz : d'.size = l.length := by have := hp.1; simpa using this
    obtain ⟨o1, o2⟩ := own_sorted encK (n := n) (os := os) h d' hsz
    exact ⟨rfl, d'.toList, by simpa using perm_of hp, sorted_of (by rw [hsz]; simpa using hs), o1, o2⟩
theorem asc_mem {l m : List Kz} (h : Asc Kz.n l) (h' : Asc Kz.n m) (hm : ∀ K, K ∈ l ↔ K ∈ m) : l = m :=
  asc_ext Kz.n h h' fun x => by
    cases e : look Kz.n l x with
    | some a =>
      obtain ⟨h1, h2⟩ := look_key Kz.n e
      rw [← h2, look_mem Kz.n h' ((hm a).1 h1)]
    | none =>
      cases e2 : look Kz.n m x with
      | none => rfl
      | some a =>
        obtain ⟨h1, h2⟩ := look_key Kz.n e2
        exact absurd h2 ((look_none Kz.n).1 e a ((hm a).2 h1))
theorem keys_sorted {α : Type} {key : α → Int} (kz : α → Kz) (hk : ∀ x, (kz x).n = key x) {L : List α} (hL : Asc key L) {ss l : List Kz} (h : KeysL key L ss) (hp : l.Perm ss) (hs : l.Pairwise (fun e f => num e.k ≤ num f.k)) : l = L.map kz := by
  have hn : l.Nodup := hp.nodup_iff.2 h.1
  have ha : Asc Kz.n l := by
    refine List.Pairwise.imp₂ (fun a b h1 h2 => ?_) hs hn
    have h3 : num a.k ≠ num b.k := fun e => h2 (Kz.same (show (num a.k : Int) = (num b.k : Int) by rw [e]))
    show (num a.k : Int) < (num b.k : Int)
    omega
  refine asc_mem ha (List.pairwise_map.2 (hL.imp fun {a b} q => by rw [hk, hk]; exact q)) fun K => ?_
  rw [hp.mem_iff, h.2, List.mem_map]
  constructor
  · intro q
    obtain ⟨x, hx⟩ := Option.isSome_iff_exists.1 q
    obtain ⟨h1, h2⟩ := look_key key hx
    exact ⟨x, h1, Kz.same ((hk x).trans h2)⟩
  · rintro ⟨x, hx, rfl⟩
    rw [hk, look_mem key hL hx]
    rfl
def Pa.kz (p : Pa) : Kz := ⟨p.k, p.h⟩
def Ch.kz (p : Ch) : Kz := ⟨p.k, p.h⟩
set_option maxHeartbeats 1000000 in
theorem sortedP_calls (w : World) (Bm b n : Nat) (L : List Pa) (hBm : Bm < w.heap.size) (hm : w.cell? ⟨Bm, 0, none⟩ = some (.map (some b))) (h : MapA encP Pa.n w b n L) (hn : n ≤ 1000000) :
    Calls Try.prog 36 #[.func (.func 42) #[] #[.pointer (some ⟨Bm, 0, none⟩)], .func (.func 38) #[] #[]] w fun e w' => ∃ v, e = .returned v ∧ Own encK 41 w' w.heap.size v (L.map Pa.kz) ∧ Below w.heap.size w w' := by
  have HC : Hid (Calls Try.prog 40 #[.func (.func 42) #[] #[.pointer (some ⟨Bm, 0, none⟩)]] w fun e w' => ∃ (v : Value) (ss : List Kz), e = .returned v ∧ (KeysL Pa.n L ss ∧ ss.length ≤ n) ∧ Own encK 41 w' w.heap.size v ss ∧ Below w.heap.size w w') :=
    collect_in 5 _ _ (enters_of Try.func42 (by kernel_rfl) rfl) _ n hn w (keysP_gives 4 Bm b n L w hBm hm h).bounded (by decide)
  have HA : Hid (Asc Pa.n L) := h.asc
  clear h hm
  go_enter Try.func36, Try.ntmps36
  go_upto_region 2 with (first
    | (go_at_call 40; refine HC.out.mono ?_; clear HC; rintro e w1 ⟨v, ss, rfl, ⟨h1, hl⟩, h2, h3⟩))
  have hS := sort_calls w1 w.heap.size v ss h2 (by omega)
  have hl2 := h2.lt
  have HK : Hid (KeysL Pa.n L ss) := h1
  have HB : Hid (Below w.heap.size w w1) := h3
  clear h1 h2 h3
  go_wp2_with (first
    | (go_at_call 41; refine hS.mono ?_; clear hS; rintro e w2 ⟨rfl, l', p1, p2, p3, p4⟩))
  go_ret
  have := keys_sorted Pa.kz (fun _ => rfl) HA.out HK.out p1 p2
  subst this
  exact ⟨v, rfl, p3, HB.out.grown p4 HB.out.size (fun k hk => (hl2 k hk).1)⟩
set_option maxHeartbeats 1000000 in
theorem sortedC_calls (w : World) (Bm b n : Nat) (L : List Ch) (hBm : Bm < w.heap.size) (hm : w.cell? ⟨Bm, 0, none⟩ = some (.map (some b))) (h : MapA encC Ch.n w b n L) (hn : n ≤ 1000000) :
    Calls Try.prog 36 #[.func (.func 44) #[] #[.pointer (some ⟨Bm, 0, none⟩)], .func (.func 38) #[] #[]] w fun e w' => ∃ v, e = .returned v ∧ Own encK 41 w' w.heap.size v (L.map Ch.kz) ∧ Below w.heap.size w w' := by
  have HC : Hid (Calls Try.prog 40 #[.func (.func 44) #[] #[.pointer (some ⟨Bm, 0, none⟩)]] w fun e w' => ∃ (v : Value) (ss : List Kz), e = .returned v ∧ (KeysL Ch.n L ss ∧ ss.length ≤ n) ∧ Own encK 41 w' w.heap.size v ss ∧ Below w.heap.size w w') :=
    collect_in 5 _ _ (enters_of Try.func44 (by kernel_rfl) rfl) _ n hn w (keysC_gives 4 Bm b n L w hBm hm h).bounded (by decide)
  have HA : Hid (Asc Ch.n L) := h.asc
  clear h hm
  go_enter Try.func36, Try.ntmps36
  go_upto_region 2 with (first
    | (go_at_call 40; refine HC.out.mono ?_; clear HC; rintro e w1 ⟨v, ss, rfl, ⟨h1, hl⟩, h2, h3⟩))
  have hS := sort_calls w1 w.heap.size v ss h2 (by omega)
  have hl2 := h2.lt
  have HK : Hid (KeysL Ch.n L ss) := h1
  have HB : Hid (Below w.heap.size w w1) := h3
  clear h1 h2 h3
  go_wp2_with (first
    | (go_at_call 41; refine hS.mono ?_; clear hS; rintro e w2 ⟨rfl, l', p1, p2, p3, p4⟩))
  go_ret
  have := keys_sorted Ch.kz (fun _ => rfl) HA.out HK.out p1 p2
  subst this
  exact ⟨v, rfl, p3, HB.out.grown p4 HB.out.size (fun k hk => (hl2 k hk).1)⟩
end Go.Proofs.Ytbodbdcmkicmaaa
