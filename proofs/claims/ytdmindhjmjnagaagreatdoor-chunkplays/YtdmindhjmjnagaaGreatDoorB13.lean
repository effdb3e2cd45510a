import Derived.Test.YtdmindhjmjnagaaGreatDoorB10
import Derived.Test.YtdmindhjmjnagaaGreatDoorB05
import Derived.Lib.VarintMem
import Derived.Shelf.SlSortCmp.NoneTotal
import Derived.Shelf.SlGeneric
import Derived.Ground.SlsfProg
import Derived.Test.YtdmindhjmjnagaaGreatDoorChecked
import Derived.Deep.LoopGhost
/- CmpAt SoF DlL SqC DlA -/
namespace Go.Proofs.YtdmindhjmjnagaaGreatDoor
set_option linter.unusedVariables false
set_option maxRecDepth 1000000
set_option maxHeartbeats 32000000
section
open Go.RowKit
theorem run_bytesOf_at (w : World) (b : Nat) (K : List UInt8) (hK : K.length = 24) (h : w.rangeAt b 0 (bc K)) (cap : Nat) : (Extern.Bytes.bytesOf (.slice (some ⟨b, 0, none⟩) 24 cap)).run Tryz.prog w = .ok (str K) w := by
 have hl := Lib.run_loadBytesX (P := Tryz.prog) w (K.map fun b => (b.toNat : Int)) ⟨b, 0, none⟩ .empty (fun j x hj => by
  have e : (⟨b, 0, none⟩ : Addr).add j = ⟨b, j, none⟩ := by unfold Addr.add; split <;> simp_all
  rw [e]
  have := h j (.int .u8 x) (by
   simp only [bc, List.getElem?_map, Option.map_eq_some_iff] at hj ⊢
   obtain ⟨a, ha, rfl⟩ := hj
   exact ⟨a, ha, rfl⟩)
  simpa using this)
 rw [List.length_map, hK, bytes_num] at hl
 have e : (⟨ByteArray.empty.data ++ K.toArray⟩ : ByteArray) = str K := by
  apply ByteArray.ext
  show (#[] : Array UInt8) ++ K.toArray = K.toArray
  simp
 rw [e] at hl
 exact hl
theorem run_compare_at (w : World) (b c : Nat) (K L : List UInt8) (hK : K.length = 24) (hL : L.length = 24) (h : w.rangeAt b 0 (bc K)) (h' : w.rangeAt c 0 (bc L)) (cap cap' : Nat) :
    (Extern.BytealgCompare.compare #[.slice (some ⟨b, 0, none⟩) 24 cap, .slice (some ⟨c, 0, none⟩) 24 cap']).run Tryz.prog w = .ok (.int .i64 (Lib.compareBytes K L)) w := by
 change Sem.run Tryz.prog (do pure (goInt (Extern.BytealgCompare.cmp (← Extern.Bytes.bytesOf (.slice (some ⟨b, 0, none⟩) 24 cap)) (← Extern.Bytes.bytesOf (.slice (some ⟨c, 0, none⟩) 24 cap'))))) w = _
 simp only [Sem.run_bind, run_bytesOf_at w b K hK h, run_bytesOf_at w c L hL h', Result.andThen_ok, Sem.run_pure]
 rw [Lib.cmp_eq, str_list, str_list]
 rfl
theorem compareAt_calls (w : World) (b c : Nat) (K L : List UInt8) (hK : K.length = 24) (hL : L.length = 24) (h : w.rangeAt b 0 (bc K)) (h' : w.rangeAt c 0 (bc L)) (cap cap' : Nat) :
    Calls Tryz.prog 126 #[.slice (some ⟨b, 0, none⟩) 24 cap, .slice (some ⟨c, 0, none⟩) 24 cap'] w fun e w' => e = .returned (.int .i64 (Lib.compareBytes K L)) ∧ w' = w := by
 have H := run_compare_at w b c K L hK hL h h' cap cap'
 clear h h'
 go_enter Tryz.func126, Tryz.ntmps126
 go_wp2
 rw [run_callFunc_extern Tryz.func157 (by kernel_rfl) (by kernel_rfl) (by kernel_rfl) (e := Extern.BytealgCompare.compare) (by kernel_rfl), H]
 simp only [Result.andThen]
 rw [Oper.upon_value]
 go_wp2
 go_ret
 exact ⟨rfl, rfl⟩
theorem compare_zero : ∀ (K L : List UInt8), Lib.compareBytes K L = 0 ↔ K = L
 | [], [] => by simp [Lib.compareBytes]
 | [], _ :: _ => by simp [Lib.compareBytes]
 | _ :: _, [] => by simp [Lib.compareBytes]
 | a :: xs, b :: ys => by
  have ih := compare_zero xs ys
  rw [Lib.compareBytes]
  by_cases h1 : a < b
  · have : ¬ a = b := fun e => by subst e; simp at h1
    simp [h1, this]
  · by_cases h2 : b < a
    · have : ¬ a = b := fun e => by subst e; exact h1 h2
      simp [h1, h2, this]
    · have : a = b := by
        apply UInt8.toNat_inj.1
        simp only [UInt8.lt_iff_toNat_lt] at h1 h2
        omega
      subst this
      simp [ih]
end
section
open Go.RowKit Go.Sort
theorem Own.frozenAt9 {α : Type} {k : Nat} {E : Enc α k} {ty : TypeId} {w : World} {base g n cap : Nat} {l : List α} (h : Own E ty w base (.slice (some ⟨g, 0, none⟩) n cap) l) (j : Nat) : w.frozen? ⟨g, j, none⟩ = false := by
 rcases h.2 with ⟨h', _⟩ | ⟨g', cap', cur, h', _, hg, _⟩
 · cases h'
 · cases h'
   simp [World.frozen?, hg]
section
variable {α : Type} [Inhabited α] {k : Nat} (E : Enc α k)
theorem flatK_eq9 (d : Array α) : flatK E.c k d = (E.flat d.toList).toArray := by
 refine ext_get! (by simp [E.flat_length]) fun t ht => ?_
 have ht' : t < d.size * k := by simpa using ht
 have k0 : 0 < k := by
  rcases Nat.eq_zero_or_pos k with h | h
  · subst h; simp at ht'
  · exact h
 have hd : t / k < d.toList.length := by
  rw [Array.length_toList]
  exact Nat.div_lt_of_lt_mul (by rwa [Nat.mul_comm] at ht')
 have hm : t % k < (E.c d.toList[t / k]).length := by rw [E.len]; exact Nat.mod_lt _ k0
 have h1 := E.flat_get d.toList (t / k) (t % k) hd _ (List.getElem?_eq_getElem hm)
 rw [show t / k * k + t % k = t by rw [Nat.mul_comm]; exact Nat.div_add_mod t k] at h1
 rw [get_flatK _ _ _ t ht']
 have h2 : d[t / k]! = d.toList[t / k] := by
  have : t / k < d.size := by simpa using hd
  rw [getElem!_pos d _ this]; rfl
 rw [h2]
 have h3 : (E.c d.toList[t / k])[t % k]! = (E.c d.toList[t / k])[t % k] := getElem!_pos (E.c d.toList[t / k]) (t % k) hm
 rw [h3]
 have h4 := List.getElem?_eq_some_iff.1 h1
 obtain ⟨h5, h6⟩ := h4
 rw [getElem!_pos (E.flat d.toList).toArray t (by simpa using h5)]
 simpa using h6.symm
theorem holds_own9 {ty : TypeId} {w : World} {base g cap : Nat} {l : List α} (h : Own E ty w base (.slice (some ⟨g, 0, none⟩) l.length cap) l) : HoldsK E.c k w g 0 l.toArray := by
 intro j hj
 rw [flatK_eq9] at hj ⊢
 have hj' : j < (E.flat l).length := by simpa using hj
 have h1 := h.cells (g := g) rfl j _ (List.getElem?_eq_getElem hj')
 rw [Addr.add_mid] at h1
 refine ⟨?_, by simpa using h.frozenAt9 (0 + j)⟩
 rw [h1, getElem!_pos (E.flat l).toArray j (by simpa using hj')]
 simp
theorem take_put9 (cur : Array Value) (F : List Value) (h : F.length ≤ cur.size) : (putCells id 0 F.toArray cur).toList.take F.length = F := by
 apply List.ext_getElem?
 intro j
 by_cases hj : j < F.length
 · rw [List.getElem?_take_of_lt hj, Array.getElem?_toList]
   simp [putCells, hj, show j < cur.size by omega]
 · rw [List.getElem?_take_eq_none (by omega), List.getElem?_eq_none (by omega)]
theorem own_sorted9 {ty : TypeId} {w : World} {base g cap n : Nat} {l : List α} {os : Array Obj} (h : Own E ty w base (.slice (some ⟨g, 0, none⟩) l.length cap) l) (d : Array α) (hd : d.size = l.length) :
    Own E ty (sortWorldK E.c k w g 0 n d os) base (.slice (some ⟨g, 0, none⟩) l.length cap) d.toList ∧ w.grownBy (sortWorldK E.c k w g 0 n d os) (some g) := by
 rcases h.2 with ⟨h0, _⟩ | ⟨g', cap', cur, hv, h2, h3, h4, h5, h6, h7⟩
 · cases h0
 · cases hv
   have hg : g < w.heap.size := lt_of_block h3
   have hlen : (E.flat d.toList).length = l.length * k := by rw [E.flat_length, Array.length_toList, hd]
   have hb : (sortWorldK E.c k w g 0 n d os).heap[g]? = some (.cells (putCells id 0 (E.flat d.toList).toArray cur) ty (0, 0)) := by
    unfold sortWorldK putRowK
    rw [flatK_eq9, heap_grow_old _ _ (by simpa using hg)]
    simp [putRow, mapBlock, Array.getElem?_modify, h3, onCells]
   refine ⟨⟨by rw [E.flat_length], .inr ⟨g, cap, _, by rw [show d.toList.length = l.length by simpa using hd], h2, hb, by rw [Array.length_toList, hd]; exact h4, h5, by simp [putCells, h6], ?_⟩⟩, ?_⟩
   · rw [Array.length_toList, hd, ← hlen]
     refine take_put9 cur _ ?_
     rw [hlen, h6]
     exact Nat.mul_le_mul_right k h4
   · unfold sortWorldK putRowK
     refine ⟨rfl, rfl, rfl, by simp, fun j hj hne => ?_⟩
     rw [heap_grow_old _ _ (by simpa using hj)]
     have : g ≠ j := fun e => hne (by rw [e])
     simp [putRow, mapBlock, Array.getElem?_modify, this]
end
end
section
open Go.Shelf
def Tryz.sortK_ren : Go.Shelf.Ren := ⟨fun | 6 => 159 | 15 => 163 | 14 => 172 | 28 => 181 | 29 => 182 | 20 => 188 | 21 => 189 | 22 => 190 | 23 => 191 | 24 => 192 | 25 => 193 | 26 => 194 | 27 => 195 | 46 => 206 | 47 => 197 | 48 => 198 | 49 => 207 | 50 => 208 | 57 => 210 | n => n, fun | 22 => 180 | 24 => 54 | 25 => 185 | 3 => 3 | 39 => 125 | 0 => 0 | 53 => 237 | 55 => 239 | 4 => 4 | 46 => 231 | 45 => 230 | 50 => 155 | 5 => 5 | 9 => 9 | 66 => 249 | 70 => 253 | 76 => 263 | 77 => 264 | n => n, fun | n => n⟩
theorem Tryz.sortK : Go.Proofs.SlLaysF0.n6 Tryz.prog Tryz.sortK_ren := {
 mixed := by kernel_rfl
 f6 := ⟨Tryz.f159.name, by decide, Tryz.func159.trans (congrArg some (by kernel_rfl))⟩
 f14 := ⟨Tryz.f172.name, by decide, Tryz.func172.trans (congrArg some (by kernel_rfl))⟩
 f15 := Tryz.func163.trans (congrArg some (by kernel_rfl))
 f20 := ⟨Tryz.f188.name, by decide, Tryz.func188.trans (congrArg some (by kernel_rfl))⟩
 f21 := ⟨Tryz.f189.name, by decide, Tryz.func189.trans (congrArg some (by kernel_rfl))⟩
 f22 := ⟨Tryz.f190.name, by decide, Tryz.func190.trans (congrArg some (by kernel_rfl))⟩
 f23 := ⟨Tryz.f191.name, by decide, Tryz.func191.trans (congrArg some (by kernel_rfl))⟩
 f24 := ⟨Tryz.f192.name, by decide, Tryz.func192.trans (congrArg some (by kernel_rfl))⟩
 f25 := ⟨Tryz.f193.name, by decide, Tryz.func193.trans (congrArg some (by kernel_rfl))⟩
 f26 := ⟨Tryz.f194.name, by decide, Tryz.func194.trans (congrArg some (by kernel_rfl))⟩
 f27 := ⟨Tryz.f195.name, by decide, Tryz.func195.trans (congrArg some (by kernel_rfl))⟩
 f28 := Tryz.func181.trans (congrArg some (by kernel_rfl))
 f29 := Tryz.func182.trans (congrArg some (by kernel_rfl))
 f46 := ⟨Tryz.f206.name, by decide, Tryz.func206.trans (congrArg some (by kernel_rfl))⟩
 f47 := Tryz.func197.trans (congrArg some (by kernel_rfl))
 f48 := Tryz.func198.trans (congrArg some (by kernel_rfl))
 f49 := ⟨Tryz.f207.name, by decide, Tryz.func207.trans (congrArg some (by kernel_rfl))⟩
 f50 := ⟨Tryz.f208.name, by decide, Tryz.func208.trans (congrArg some (by kernel_rfl))⟩
 f57 := ⟨Tryz.f210.name, by decide, Tryz.func210.trans (congrArg some (by kernel_rfl))⟩
 t0 := Tryz.underlying0
 a0 := Tryz.isAgg0
 z0 := Tryz.sizeOf0
 v0 := Tryz.zeroValue0
 t3 := Tryz.underlying3
 a3 := Tryz.isAgg3
 z3 := Tryz.sizeOf3
 v3 := Tryz.zeroValue3
 t4 := Tryz.underlying4
 a4 := Tryz.isAgg4
 z4 := Tryz.sizeOf4
 v4 := Tryz.zeroValue4
 t5 := Tryz.underlying5
 a5 := Tryz.isAgg5
 z5 := Tryz.sizeOf5
 v5 := Tryz.zeroValue5
 t9 := Tryz.underlying9
 a9 := Tryz.isAgg9
 z9 := Tryz.sizeOf9
 v9 := Tryz.zeroValue9
 t22 := Tryz.underlying180
 a22 := Tryz.isAgg180
 z22 := Tryz.sizeOf180
 v22 := Tryz.zeroValue180
 t25 := Tryz.underlying185
 a25 := Tryz.isAgg185
 z25 := Tryz.sizeOf185
 v25 := Tryz.zeroValue185
 t39 := Tryz.underlying125
 a39 := Tryz.isAgg125
 z39 := Tryz.sizeOf125
 v39 := Tryz.zeroValue125
 t45 := Tryz.underlying230
 a45 := Tryz.isAgg230
 z45 := Tryz.sizeOf230
 v45 := Tryz.zeroValue230
 t46 := Tryz.underlying231
 a46 := Tryz.isAgg231
 z46 := Tryz.sizeOf231
 v46 := Tryz.zeroValue231
 t50 := Tryz.underlying155
 a50 := Tryz.isAgg155
 z50 := Tryz.sizeOf155
 v50 := Tryz.zeroValue155
 t53 := Tryz.underlying237
 a53 := Tryz.isAgg237
 z53 := Tryz.sizeOf237
 v53 := Tryz.zeroValue237
 t55 := Tryz.underlying239
 a55 := Tryz.isAgg239
 z55 := Tryz.sizeOf239
 v55 := Tryz.zeroValue239
 t66 := Tryz.underlying249
 a66 := Tryz.isAgg249
 z66 := Tryz.sizeOf249
 v66 := Tryz.zeroValue249
 t70 := Tryz.underlying253
 a70 := Tryz.isAgg253
 z70 := Tryz.sizeOf253
 v70 := Tryz.zeroValue253
 t76 := Tryz.underlying263
 a76 := Tryz.isAgg263
 z76 := Tryz.sizeOf263
 v76 := Tryz.zeroValue263
 t77 := Tryz.underlying264
 a77 := Tryz.isAgg264
 z77 := Tryz.sizeOf264
 v77 := Tryz.zeroValue264 }
end
section
open Go.RowKit Go.Sort Go.Shelf
theorem grow_made9 (w : World) (a b : Obj) (n : Nat) : ((w.alloc a).alloc b).drewN n = Go.Sort.grow (w.drewN n) #[a, b] := by
 rw [Go.Sort.alloc_eq_grow, Go.Sort.alloc_eq_grow, Go.Sort.grow_grow]
 rfl
theorem cmp9_calls (w : World) (K L : Kz) :
    Calls Tryz.prog 129 #[kv K.k, kv L.k] w fun e w' => e = .returned (.int .i64 (Lib.compareBytes K.k L.k)) ∧ ∃ q os, w' = Go.Sort.grow (w.drewN q) os := by
 have h1 : Has ((w.alloc (.cells (bc K.k).toArray 54)).alloc (.cells (bc L.k).toArray 54)) w.heap.size K.k := (Has.new w K.k K.h).alloc _
 have h2 : Has ((w.alloc (.cells (bc K.k).toArray 54)).alloc (.cells (bc L.k).toArray 54)) (w.heap.size + 1) L.k := by have := Has.new (w.alloc (.cells (bc K.k).toArray 54)) L.k L.h; simpa using this
 have H1 : Hid (Has ((w.alloc (.cells (bc K.k).toArray 54)).alloc (.cells (bc L.k).toArray 54)) w.heap.size K.k) := h1
 have H2 : Hid (Has ((w.alloc (.cells (bc K.k).toArray 54)).alloc (.cells (bc L.k).toArray 54)) (w.heap.size + 1) L.k) := h2
 clear h1 h2
 go_enter Tryz.func129, Tryz.ntmps129
 go_wp2
 go_quiet (first | (go_at_call 126; exact Calls.quiet_of_same (compare_calls _ w.heap.size (w.heap.size + 1) K.k L.k (by exact ⟨K.h, H1.out.blk⟩) (by exact ⟨L.h, H2.out.blk⟩) 24 24)))
 go_wp2
 go_ret
 exact ⟨rfl, _, _, grow_made9 _ _ _ _⟩
instance : Inhabited Kz := ⟨⟨zs 24, rfl⟩⟩
def cfK (x y : Kz) : Int := Lib.compareBytes x.k y.k
theorem ltK (x y : Kz) : ltOf cfK x y = decide (num x.k < num y.k) := by
 unfold ltOf cfK
 rw [← less_num x.k y.k (by rw [x.h, y.h]), ← compare_less]
theorem swoK : SWO (ltOf cfK) where
 irrefl x := by rw [ltK]; simp
 trans x y z h1 h2 := by rw [ltK] at *; simp at *; omega
 ntrans x y z h1 h2 := by rw [ltK] at *; simp at *; omega
theorem perm_of9 {d d' : Array Kz} (h : PermIn 0 d.size d d') : d'.toList.Perm d.toList := by
 obtain ⟨h1, _, h3⟩ := h
 have e1 : (d'.extract 0 d.size).toList = d'.toList := by rw [← h1]; simp
 have e2 : (d.extract 0 d.size).toList = d.toList := by simp
 rwa [e1, e2] at h3
theorem sorted_of9 {d : Array Kz} (h : SortedIn (ltOf cfK) 0 d.size d) : d.toList.Pairwise (fun e f => num e.k ≤ num f.k) := by
 rw [List.pairwise_iff_getElem]
 intro i j hi hj hij
 have h1 := h i j (Nat.zero_le _) hij (by simpa using hj)
 have e1 : d[i]! = d.toList[i] := by rw [getElem!_pos d i (by simpa using hi)]; rfl
 have e2 : d[j]! = d.toList[j] := by rw [getElem!_pos d j (by simpa using hj)]; rfl
 rw [e1, e2, ltK] at h1
 simp at h1
 simpa using h1
theorem sort9_calls (w : World) (base : Nat) (v : Value) (l : List Kz) (h : Own encKz 54 w base v l) (hl : l.length ≤ 1000000) :
    Calls Tryz.prog 159 #[v, .func (.func 129) #[] #[]] w fun e w' => e = .returned (.tuple #[]) ∧ ∃ l', l'.Perm l ∧ l'.Pairwise (fun e f => num e.k ≤ num f.k) ∧ Own encKz 54 w' base v l' ∧ w.grownBy w' v.ownBlock := by
 have eg : ∀ args w, (callFunc 129 args).run Tryz.prog w = .ok (.enter 129 args) w := enters_of Tryz.func129 (by kernel_rfl) rfl
 rcases h.2 with ⟨rfl, h0⟩ | ⟨g, cap, cur, rfl, hb, hg, _⟩
 · have he : l = [] := List.eq_nil_of_length_eq_zero h0
   subst he
   have hc := AnyF.slices_SortFunc_none (P := Tryz.prog) (ρ := Tryz.sortK_ren) { Tryz.sortK with } none 0 (.func (.func 129) #[] #[]) w
   refine Calls.mono (show Calls Tryz.prog 159 _ _ _ from hc) ?_
   rintro e w' ⟨rfl, rfl⟩
   exact ⟨rfl, [], List.Perm.refl _, List.Pairwise.nil, h, ⟨rfl, rfl, rfl, Nat.le_refl _, fun _ _ _ => rfl⟩⟩
 · have hlt := lt_of_block hg
   have hc := AnyQ.slices_SortFunc Tryz.sortK 24 Tryz.isAgg54 Tryz.sizeOf54 encKz.c encKz.len encKz.one cfK swoK 129 #[] g 0 cap l.toArray w eg
     (fun _ _ _ _ x y => cmp9_calls _ x y) (holds_own9 encKz h) hlt (by simp; omega)
   refine Calls.mono (show Calls Tryz.prog 159 _ _ _ from hc) ?_
   rintro e w' ⟨rfl, d', n, os, hp, hs, rfl⟩
   have hsz : d'.size = l.length := by have := hp.1; simpa using this
   obtain ⟨o1, o2⟩ := own_sorted9 encKz (n := n) (os := os) h d' hsz
   exact ⟨rfl, d'.toList, by simpa using perm_of9 hp, sorted_of9 (by rw [hsz]; simpa using hs), o1, o2⟩
theorem asc_mem {l m : List Kz} (h : Asc Kz.n l) (h' : Asc Kz.n m) (hm : ∀ K, K ∈ l ↔ K ∈ m) : l = m :=
 asc_ext Kz.n h h' fun x => by
  cases e : look Kz.n l x with
  | some a =>
   obtain ⟨h1, h2⟩ := look_key Kz.n e
   rw [← h2, look_mem Kz.n h' ((hm a).1 h1)]
  | none =>
   cases e2 : look Kz.n m x with
   | none => rfl
   | some a =>
    obtain ⟨h1, h2⟩ := look_key Kz.n e2
    exact absurd h2 ((look_none Kz.n).1 e a ((hm a).2 h1))
theorem keys_sorted {α : Type} {key : α → Int} (kz : α → Kz) (hk : ∀ x, (kz x).n = key x) {L : List α} (hL : Asc key L) {ss l : List Kz} (h : KeysL key L ss) (hp : l.Perm ss) (hs : l.Pairwise (fun e f => num e.k ≤ num f.k)) : l = L.map kz := by
 have hn : l.Nodup := hp.nodup_iff.2 h.1
 have ha : Asc Kz.n l := by
  refine List.Pairwise.imp₂ (fun a b h1 h2 => ?_) hs hn
  have h3 : num a.k ≠ num b.k := fun e => h2 (Kz.same (show (num a.k : Int) = (num b.k : Int) by rw [e]))
  show (num a.k : Int) < (num b.k : Int)
  omega
 refine asc_mem ha (List.pairwise_map.2 (hL.imp fun {a b} q => by rw [hk, hk]; exact q)) fun K => ?_
 rw [hp.mem_iff, h.2, List.mem_map]
 constructor
 · intro q
   obtain ⟨x, hx⟩ := Option.isSome_iff_exists.1 q
   obtain ⟨h1, h2⟩ := look_key key hx
   exact ⟨x, h1, Kz.same ((hk x).trans h2)⟩
 · rintro ⟨x, hx, rfl⟩
   rw [hk, look_mem key hL hx]
   rfl
def Pa.kz (p : Pa) : Kz := ⟨p.k, p.h⟩
def Ch.kz (p : Ch) : Kz := ⟨p.k, p.h⟩
theorem sortedP_calls (w : World) (Bm b n : Nat) (L : List Pa) (hBm : Bm < w.heap.size) (hm : w.cell? ⟨Bm, 0, none⟩ = some (.map (some b))) (h : MapA encP Pa.n w b n L) (hn : n ≤ 1000000) :
    Calls Tryz.prog 127 #[.func (.func 164) #[] #[.pointer (some ⟨Bm, 0, none⟩)], .func (.func 129) #[] #[]] w fun e w' => ∃ v, e = .returned v ∧ Own encKz 54 w' w.heap.size v (L.map Pa.kz) ∧ Below w.heap.size w w' := by
 have HC : Hid (Calls Tryz.prog 158 #[.func (.func 164) #[] #[.pointer (some ⟨Bm, 0, none⟩)]] w fun e w' => ∃ (v : Value) (ss : List Kz), e = .returned v ∧ (KeysL Pa.n L ss ∧ ss.length ≤ n) ∧ Own encKz 54 w' w.heap.size v ss ∧ Below w.heap.size w w') :=
  collect_in 5 _ _ (enters_of Tryz.func164 (by kernel_rfl) rfl) _ n hn w (keysP_gives 4 Bm b n L w hBm hm h).bounded (by decide)
 have HA : Hid (Asc Pa.n L) := h.asc
 clear h hm
 go_enter Tryz.func127, Tryz.ntmps127
 go_upto_region 2 with (first
  | (go_at_call 158; refine HC.out.mono ?_; clear HC; rintro e w1 ⟨v, ss, rfl, ⟨h1, hl⟩, h2, h3⟩))
 have hS := sort9_calls w1 w.heap.size v ss h2 (by omega)
 have hl2 := h2.lt
 have HK : Hid (KeysL Pa.n L ss) := h1
 have HB : Hid (Below w.heap.size w w1) := h3
 clear h1 h2 h3
 go_wp2_with (first
  | (go_at_call 159; refine hS.mono ?_; clear hS; rintro e w2 ⟨rfl, l', p1, p2, p3, p4⟩))
 go_ret
 have := keys_sorted Pa.kz (fun _ => rfl) HA.out HK.out p1 p2
 subst this
 exact ⟨v, rfl, p3, HB.out.grown p4 HB.out.size (fun k hk => (hl2 k hk).1)⟩
theorem sortedC_calls (w : World) (Bm b n : Nat) (L : List Ch) (hBm : Bm < w.heap.size) (hm : w.cell? ⟨Bm, 0, none⟩ = some (.map (some b))) (h : MapA encC Ch.n w b n L) (hn : n ≤ 1000000) :
    Calls Tryz.prog 127 #[.func (.func 160) #[] #[.pointer (some ⟨Bm, 0, none⟩)], .func (.func 129) #[] #[]] w fun e w' => ∃ v, e = .returned v ∧ Own encKz 54 w' w.heap.size v (L.map Ch.kz) ∧ Below w.heap.size w w' := by
 have HC : Hid (Calls Tryz.prog 158 #[.func (.func 160) #[] #[.pointer (some ⟨Bm, 0, none⟩)]] w fun e w' => ∃ (v : Value) (ss : List Kz), e = .returned v ∧ (KeysL Ch.n L ss ∧ ss.length ≤ n) ∧ Own encKz 54 w' w.heap.size v ss ∧ Below w.heap.size w w') :=
  collect_in 5 _ _ (enters_of Tryz.func160 (by kernel_rfl) rfl) _ n hn w (keysC_gives 4 Bm b n L w hBm hm h).bounded (by decide)
 have HA : Hid (Asc Ch.n L) := h.asc
 clear h hm
 go_enter Tryz.func127, Tryz.ntmps127
 go_upto_region 2 with (first
  | (go_at_call 158; refine HC.out.mono ?_; clear HC; rintro e w1 ⟨v, ss, rfl, ⟨h1, hl⟩, h2, h3⟩))
 have hS := sort9_calls w1 w.heap.size v ss h2 (by omega)
 have hl2 := h2.lt
 have HK : Hid (KeysL Ch.n L ss) := h1
 have HB : Hid (Below w.heap.size w w1) := h3
 clear h1 h2 h3
 go_wp2_with (first
  | (go_at_call 159; refine hS.mono ?_; clear hS; rintro e w2 ⟨rfl, l', p1, p2, p3, p4⟩))
 go_ret
 have := keys_sorted Ch.kz (fun _ => rfl) HA.out HK.out p1 p2
 subst this
 exact ⟨v, rfl, p3, HB.out.grown p4 HB.out.size (fun k hk => (hl2 k hk).1)⟩
end
section
open Go.RowKit
theorem Own.lower {α : Type} {k : Nat} {E : Enc α k} {ty : TypeId} {w : World} {base base' : Nat} {v : Value} {l : List α} (h : Own E ty w base v l) (hb : base' ≤ base) : Own E ty w base' v l := Go.Proofs.ownsRow_base_a h hb
section
variable {w : World} {g o : Nat}
theorem range_kP {p : Pa} (h : w.rangeAt g o (encP.c p)) : w.rangeAt g o (bc p.k) := fun j v hv => by
 refine h j v ?_
 show (pcd p)[j]? = some v
 rw [pcd, List.getElem?_append_left (List.getElem?_eq_some_iff.1 hv).1]
 exact hv
theorem range_vP {p : Pa} (h : w.rangeAt g o (encP.c p)) : w.cell? ⟨g, o + 24, none⟩ = some (.string (str p.v)) := by
 refine h 24 _ ?_
 show (pcd p)[24]? = _
 have hk : (bc p.k).length = 24 := by rw [bc_length, p.h]
 rw [pcd, List.getElem?_append_right (by omega), hk]
 rfl
theorem range_kC {p : Ch} (h : w.rangeAt g o (encC.c p)) : w.rangeAt g o (bc p.k) := fun j v hv => by
 refine h j v ?_
 show (ccd p)[j]? = some v
 rw [ccd, List.getElem?_append_left (List.getElem?_eq_some_iff.1 hv).1]
 exact hv
theorem range_vC {p : Ch} (h : w.rangeAt g o (encC.c p)) : w.cell? ⟨g, o + 24, none⟩ = some (.string (str p.v)) ∧ w.cell? ⟨g, o + 25, none⟩ = some (.bool p.g) := by
 have hk : (bc p.k).length = 24 := by rw [bc_length, p.h]
 refine ⟨h 24 _ ?_, h 25 _ ?_⟩
 · show (ccd p)[24]? = _
   rw [ccd, List.getElem?_append_right (by omega), hk]
   rfl
 · show (ccd p)[25]? = _
   rw [ccd, List.getElem?_append_right (by omega), hk]
   rfl
end
theorem puts_take {α : Type} (key : α → Int) (l : List α) (k : Nat) (h : k < l.length) : (l.take (k + 1)).foldl (putA key) [] = putA key ((l.take k).foldl (putA key) []) l[k] := by
 rw [List.take_succ_eq_append_getElem h, List.foldl_append]
 rfl
theorem taken_calls (w : World) (u : Value) (l : List Pa) (h : Sl encP w u l) (hl : l.length ≤ 100000) :
    Calls Tryz.prog 97 #[u] w fun e w' => e = .returned (.map (some w.heap.size)) ∧ MapA encP Pa.n w' w.heap.size l.length (l.foldl (putA Pa.n) []) ∧ Below w.heap.size w w' := by
 have hl' := h
 obtain ⟨ad, cap, rfl, hcap, hmax, _, _⟩ := hl'
 obtain ⟨N, hN⟩ : ∃ N : Nat, N = l.length := ⟨_, rfl⟩
 rw [← hN] at hcap hmax ⊢
 have HN : Hid (N = l.length) := hN
 have hN5 : N ≤ 100000 := by omega
 have HI : Hid (∀ i (hi : i < l.length), ∃ g off, ad = some ⟨g, off, none⟩ ∧ g < w.heap.size ∧ w.rangeAt g (off + i * 25) (encP.c l[i])) := fun i hi => SlB.at h i hi
 have HS : Hid (Below w.heap.size w (w.alloc (.map #[] 0)) ∧ MapA encP Pa.n (w.alloc (.map #[] 0)) w.heap.size 0 []) := ⟨(Below.refl _ w).alloc (Nat.le_refl _) _, MapA.made _ _ w _ rfl⟩
 have hmm := @run_makeMap Tryz.prog
 clear hN h hl
 go_enter Tryz.func97, Tryz.ntmps97
 go_wp2
 go_loopg [9] N (fun gg i wr => ∃ k : Nat, k + gg = N ∧ i = .int .i64 (k : Int) ∧ Hid (Below w.heap.size w wr ∧ MapA encP Pa.n wr w.heap.size k ((l.take k).foldl (putA Pa.n) [])))
 case atStart => exact ⟨0, by omega, rfl, HS.out⟩
 case round =>
  obtain ⟨k, hkg, rfl, HE⟩ := hrel
  cases gk with
  | zero =>
   have hkN : k = N := by omega
   subst hkN
   go_wp2_with fail
   go_ret
   have := HE.out
   rw [List.take_of_length_le (by have := HN.out; omega)] at this
   exact ⟨rfl, this.2, this.1⟩
  | succ gg =>
   have hlt : k < N := by omega
   have hltI : (k : Int) < (N : Int) := by omega
   have hkl : k < l.length := by rw [← HN.out]; exact hlt
   obtain ⟨g0, off, rfl, hg0, hat⟩ := HI.out k hkl
   have HR : Hid (wr.rangeAt g0 (off + k * 25) (encP.c l[k])) := range_same' hat (HE.out.1.block g0 hg0)
   have HTK : Hid ((l.take (k + 1)).foldl (putA Pa.n) [] = putA Pa.n ((l.take k).foldl (putA Pa.n) []) l[k]) := puts_take Pa.n l k hkl
   generalize l[k] = p at *
   generalize (l.take k).foldl (putA Pa.n) [] = L at *
   clear hat hkl
   go_upto_region 5 with (first
    | (refine load_el elP _ rfl g0 (off + k * 25) rfl rfl p HR.out ?_)
    | (refine store_el elP rfl _ _ rfl wr.heap.size rfl p rfl pa0 (InB.new encP _ wr pa0 _ rfl) ?_; intro x1 hu1 tx1 sx1))
   have BX : Below wr.heap.size wr x1 := ((Below.refl _ wr).alloc (Nat.le_refl _) _).trans (tx1.below (by simp) (Nat.le_refl _) (by simp))
   have hb1 : Below w.heap.size w x1 := HE.out.1.trans (BX.mono HE.out.1.size)
   have hm1 := HE.out.2.below BX (Nat.le_refl _)
   clear HE HR tx1 sx1 BX
   generalize wr.heap.size = q at *
   go_wp2_with (first
    | (refine load_part _ rfl q 0 rfl rfl _ p.h (range_kP hu1.range) ?_)
    | (refine load_el elP _ rfl q 0 rfl rfl p hu1.range ?_)
    | (refine store_a tyP rfl _ _ _ rfl w.heap.size k L rfl hm1 (by omega) p.kz rfl p rfl rfl ?_; intro x2 hm2 gr2))
   go_roundg gg
   case measure => omega
   case rel => exact ⟨k + 1, by omega, congrArg (Value.int .i64) (by omega), (show Below w.heap.size w x2 ∧ MapA encP Pa.n x2 w.heap.size (k + 1) ((l.take (k + 1)).foldl (putA Pa.n) []) from ⟨hb1.grown gr2 hb1.size (fun j hj => by cases hj; exact Nat.le_refl _), by rw [HTK.out]; exact hm2⟩)⟩
def kz0 : Kz := ⟨zs 24, rfl⟩
theorem risingP_calls (w : World) (b n : Nat) (L : List Pa) (h : MapA encP Pa.n w b n L) (hn : n ≤ 100000) (hL : L.length ≤ 100000) :
    Calls Tryz.prog 98 #[.map (some b)] w fun e w' => ∃ v, e = .returned v ∧ Own encP 62 w' w.heap.size v L ∧ Below w.heap.size w w' := by
 have hK := keysP_calls (some b) w
 have hS := sortedP_calls (w.alloc (.cells #[.map (some b)] 151)) w.heap.size b n L (by simp) (by rw [cell_of_row _ _ 0 _ _ _ (heap_alloc_new _ _)]; rfl) (h.alloc _) (by omega)
 have HA : Hid (Asc Pa.n L) := h.asc
 have HB : Hid (Below w.heap.size w (w.alloc (.cells #[.map (some b)] 151)) ∧ MapA encP Pa.n w b n L) := ⟨(Below.refl _ w).alloc (Nat.le_refl _) _, h⟩
 have hbl := h.lt
 clear h
 go_enter Tryz.func98, Tryz.ntmps98
 go_upto_region 2 with fail
 go_wp2_with (first
  | (go_at_call 127; refine hS.mono ?_; clear hS; rintro e w2 ⟨v, rfl, hv, b2⟩
     have sl2 := hv.slB
     obtain ⟨ad, cap, rfl, hcap, hmax, q1, q2⟩ := id sl2
     clear q1 q2
     rw [List.length_map] at hcap hmax ⊢)
  | (go_at_call 137; refine hK.mono ?_; clear hK; rintro e w1 ⟨rfl, rfl⟩))
 have HBW : Hid (Below w.heap.size w w2) := HB.out.1.trans (b2.mono HB.out.1.size)
 have HMW : Hid (MapA encP Pa.n w2 b n L) := HB.out.2.below HBW.out (Nat.le_refl _)
 have HI : Hid (∀ i (hi : i < (L.map Pa.kz).length), ∃ g off, ad = some ⟨g, off, none⟩ ∧ g < w2.heap.size ∧ w2.rangeAt g (off + i * 24) (encKz.c (L.map Pa.kz)[i])) := fun i hi => SlB.at sl2 i hi
 obtain ⟨N, hN⟩ : ∃ N : Nat, N = L.length := ⟨_, rfl⟩
 rw [← hN] at hcap hmax hL ⊢
 have HN : Hid (N = L.length) := hN
 have HST : Hid (Below w2.heap.size w2 w2 ∧ Own encP 62 w2 w2.heap.size (.slice none 0 0) (L.take 0)) := ⟨Below.refl _ _, Own.nil _ _ _ _⟩
 clear hN hv b2 sl2 HB
 go_loopg [3, 10] N (fun gg s3 i wr => ∃ k : Nat, k + gg = N ∧ i = .int .i64 (k : Int) ∧ Hid (Below w2.heap.size w2 wr ∧ Own encP 62 wr w2.heap.size s3 (L.take k)))
 case atStart => exact ⟨0, by omega, rfl, HST.out⟩
 case round =>
  obtain ⟨k, hkg, rfl, HE⟩ := hrel
  cases gk with
  | zero =>
   have hkN : k = N := by omega
   subst hkN
   go_wp2_with fail
   go_ret
   have h1 := HE.out
   rw [List.take_of_length_le (by have := HN.out; omega)] at h1
   exact ⟨_, rfl, h1.2.lower HBW.out.size, HBW.out.trans (h1.1.mono HBW.out.size)⟩
  | succ gg =>
   have hlt : k < N := by omega
   have hltI : (k : Int) < (N : Int) := by omega
   have hkl : k < L.length := by rw [← HN.out]; exact hlt
   obtain ⟨g0, off, rfl, hg0, hat⟩ := HI.out k (by rw [List.length_map]; exact hkl)
   rw [List.getElem_map] at hat
   have HR : Hid (wr.rangeAt g0 (off + k * 24) (encKz.c (L[k]).kz)) := range_same' hat (HE.out.1.block g0 hg0)
   have HTK : Hid (L.take (k + 1) = L.take k ++ [L[k]]) := List.take_succ_eq_append_getElem hkl
   have HLK : Hid ((look Pa.n L (L[k]).kz.n).getD pa0 = L[k]) := by
    show (look Pa.n L (L[k]).kz.n).getD pa0 = L[k]
    rw [show (L[k]).kz.n = Pa.n L[k] from rfl, look_mem Pa.n HA.out (List.getElem_mem hkl)]
    rfl
   have hlen : (L.take k).length = k := by simp; omega
   generalize L[k] = p at *
   generalize L.take k = L1 at *
   clear hat hkl
   go_upto_region 5 with (first
    | (refine load_el elK _ rfl g0 (off + k * 24) rfl rfl p.kz HR.out ?_)
    | (refine store_el elK rfl _ _ rfl wr.heap.size rfl p.kz rfl kz0 (InB.new encKz _ wr kz0 _ rfl) ?_; intro x1 hu1 tx1 sx1))
   have BX : Below wr.heap.size wr x1 := ((Below.refl _ wr).alloc (Nat.le_refl _) _).trans (tx1.below (by simp) (Nat.le_refl _) (by simp))
   have hb1 : Below w2.heap.size w2 x1 := HE.out.1.trans (BX.mono HE.out.1.size)
   have ho1 := HE.out.2.below BX
   have hlk := (HMW.out.below hb1 (Nat.le_refl _)).look1 tyP p.kz
   rw [HLK.out] at hlk
   have hlk' : (Instr.lookup 151 (.map (some b)) (.agg (encKz.c p.kz).toArray) false).run Tryz.prog x1 = .ok (.agg (encP.c p).toArray) x1 := hlk
   have hlu := HE.out.2.lt
   clear HE HR tx1 sx1 BX hlk
   generalize wr.heap.size = q at *
   go_wp2_with (first
    | (refine load_el elK _ rfl q 0 rfl rfl p.kz hu1.range ?_)
    | (refine build_el1 rowP rfl _ rfl p rfl (by decide) ?_; intro x2 ho2 b2 s2 h2
       have hb2 : Below w2.heap.size w2 x2 := hb1.trans (b2.mono hb1.size)
       have hs2 := ho1.below b2)
    | (at_builtin; refine append_one rowP rfl _ _ rfl w2.heap.size _ L1 rfl hs2 x1.heap.size p rfl (0, 0) _ h2 (by omega) (by decide) (by have := hb2.size; omega) ?_
       intro g cap x3 ho3 gr3 nr3 lt3))
   go_roundg gg
   case measure => omega
   case rel => exact ⟨k + 1, by omega, congrArg (Value.int .i64) (by omega), (show Below w2.heap.size w2 x3 ∧ Own encP 62 x3 w2.heap.size _ (L.take (k + 1)) from ⟨hb2.grown gr3 hb2.size (fun j hj => (hlu j hj).1), by rw [HTK.out]; rw [hlen] at ho3; exact ho3⟩)⟩
theorem risingC_calls (w : World) (b n : Nat) (L : List Ch) (h : MapA encC Ch.n w b n L) (hn : n ≤ 100000) (hL : L.length ≤ 100000) :
    Calls Tryz.prog 90 #[.map (some b)] w fun e w' => ∃ v, e = .returned v ∧ Own encC 95 w' w.heap.size v L ∧ Below w.heap.size w w' := by
 have hK := keysC_calls (some b) w
 have hS := sortedC_calls (w.alloc (.cells #[.map (some b)] 73)) w.heap.size b n L (by simp) (by rw [cell_of_row _ _ 0 _ _ _ (heap_alloc_new _ _)]; rfl) (h.alloc _) (by omega)
 have HA : Hid (Asc Ch.n L) := h.asc
 have HB : Hid (Below w.heap.size w (w.alloc (.cells #[.map (some b)] 73)) ∧ MapA encC Ch.n w b n L) := ⟨(Below.refl _ w).alloc (Nat.le_refl _) _, h⟩
 have hbl := h.lt
 clear h
 go_enter Tryz.func90, Tryz.ntmps90
 go_upto_region 2 with fail
 go_wp2_with (first
  | (go_at_call 127; refine hS.mono ?_; clear hS; rintro e w2 ⟨v, rfl, hv, b2⟩
     have sl2 := hv.slB
     obtain ⟨ad, cap, rfl, hcap, hmax, q1, q2⟩ := id sl2
     clear q1 q2
     rw [List.length_map] at hcap hmax ⊢)
  | (go_at_call 128; refine hK.mono ?_; clear hK; rintro e w1 ⟨rfl, rfl⟩))
 have HBW : Hid (Below w.heap.size w w2) := HB.out.1.trans (b2.mono HB.out.1.size)
 have HMW : Hid (MapA encC Ch.n w2 b n L) := HB.out.2.below HBW.out (Nat.le_refl _)
 have HI : Hid (∀ i (hi : i < (L.map Ch.kz).length), ∃ g off, ad = some ⟨g, off, none⟩ ∧ g < w2.heap.size ∧ w2.rangeAt g (off + i * 24) (encKz.c (L.map Ch.kz)[i])) := fun i hi => SlB.at sl2 i hi
 obtain ⟨N, hN⟩ : ∃ N : Nat, N = L.length := ⟨_, rfl⟩
 rw [← hN] at hcap hmax hL ⊢
 have HN : Hid (N = L.length) := hN
 have HST : Hid (Below w2.heap.size w2 w2 ∧ Own encC 95 w2 w2.heap.size (.slice none 0 0) (L.take 0)) := ⟨Below.refl _ _, Own.nil _ _ _ _⟩
 clear hN hv b2 sl2 HB
 go_loopg [3, 10] N (fun gg s3 i wr => ∃ k : Nat, k + gg = N ∧ i = .int .i64 (k : Int) ∧ Hid (Below w2.heap.size w2 wr ∧ Own encC 95 wr w2.heap.size s3 (L.take k)))
 case atStart => exact ⟨0, by omega, rfl, HST.out⟩
 case round =>
  obtain ⟨k, hkg, rfl, HE⟩ := hrel
  cases gk with
  | zero =>
   have hkN : k = N := by omega
   subst hkN
   go_wp2_with fail
   go_ret
   have h1 := HE.out
   rw [List.take_of_length_le (by have := HN.out; omega)] at h1
   exact ⟨_, rfl, h1.2.lower HBW.out.size, HBW.out.trans (h1.1.mono HBW.out.size)⟩
  | succ gg =>
   have hlt : k < N := by omega
   have hltI : (k : Int) < (N : Int) := by omega
   have hkl : k < L.length := by rw [← HN.out]; exact hlt
   obtain ⟨g0, off, rfl, hg0, hat⟩ := HI.out k (by rw [List.length_map]; exact hkl)
   rw [List.getElem_map] at hat
   have HR : Hid (wr.rangeAt g0 (off + k * 24) (encKz.c (L[k]).kz)) := range_same' hat (HE.out.1.block g0 hg0)
   have HTK : Hid (L.take (k + 1) = L.take k ++ [L[k]]) := List.take_succ_eq_append_getElem hkl
   have HLK : Hid ((look Ch.n L (L[k]).kz.n).getD ch0 = L[k]) := by
    show (look Ch.n L (L[k]).kz.n).getD ch0 = L[k]
    rw [show (L[k]).kz.n = Ch.n L[k] from rfl, look_mem Ch.n HA.out (List.getElem_mem hkl)]
    rfl
   have hlen : (L.take k).length = k := by simp; omega
   generalize L[k] = p at *
   generalize L.take k = L1 at *
   clear hat hkl
   go_upto_region 5 with (first
    | (refine load_el elK _ rfl g0 (off + k * 24) rfl rfl p.kz HR.out ?_)
    | (refine store_el elK rfl _ _ rfl wr.heap.size rfl p.kz rfl kz0 (InB.new encKz _ wr kz0 _ rfl) ?_; intro x1 hu1 tx1 sx1))
   have BX : Below wr.heap.size wr x1 := ((Below.refl _ wr).alloc (Nat.le_refl _) _).trans (tx1.below (by simp) (Nat.le_refl _) (by simp))
   have hb1 : Below w2.heap.size w2 x1 := HE.out.1.trans (BX.mono HE.out.1.size)
   have ho1 := HE.out.2.below BX
   have hlk := (HMW.out.below hb1 (Nat.le_refl _)).look1 tyC p.kz
   rw [HLK.out] at hlk
   have hlk' : (Instr.lookup 73 (.map (some b)) (.agg (encKz.c p.kz).toArray) false).run Tryz.prog x1 = .ok (.agg (encC.c p).toArray) x1 := hlk
   have hlu := HE.out.2.lt
   clear HE HR tx1 sx1 BX hlk
   generalize wr.heap.size = q at *
   go_wp2_with (first
    | (refine load_el elK _ rfl q 0 rfl rfl p.kz hu1.range ?_)
    | (refine build_el1 rowC rfl _ rfl p rfl (by decide) ?_; intro x2 ho2 b2 s2 h2
       have hb2 : Below w2.heap.size w2 x2 := hb1.trans (b2.mono hb1.size)
       have hs2 := ho1.below b2)
    | (at_builtin; refine append_one rowC rfl _ _ rfl w2.heap.size _ L1 rfl hs2 x1.heap.size p rfl (0, 0) _ h2 (by omega) (by decide) (by have := hb2.size; omega) ?_
       intro g cap x3 ho3 gr3 nr3 lt3))
   go_roundg gg
   case measure => omega
   case rel => exact ⟨k + 1, by omega, congrArg (Value.int .i64) (by omega), (show Below w2.heap.size w2 x3 ∧ Own encC 95 x3 w2.heap.size _ (L.take (k + 1)) from ⟨hb2.grown gr3 hb2.size (fun j hj => (hlu j hj).1), by rw [HTK.out]; rw [hlen] at ho3; exact ho3⟩)⟩
end
end Go.Proofs.YtdmindhjmjnagaaGreatDoor
