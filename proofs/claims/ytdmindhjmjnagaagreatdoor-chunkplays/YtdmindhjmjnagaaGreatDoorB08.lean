import Derived.Test.YtdmindhjmjnagaaGreatDoorB01
import Derived.Lib.AppendZerosOnto
/- AppL -/
namespace Go.Proofs.YtdmindhjmjnagaaGreatDoor
set_option linter.unusedVariables false
set_option maxRecDepth 1000000
set_option maxHeartbeats 32000000
section
open Go.RowKit Go.Lib
theorem run_append_str {P : Program} (w : World) (base : Nat) (t u ty e : TypeId) (i : TypeInfo) (ht : P.underlying t = some (.slice e)) (hu : P.underlying u = some .string) (hi : P.info? e = some i) (hz : i.zero = some (.int .u8 0))
    (hsize : i.size = 1) (hby : i.bytes = 1) (v : Value) (n : Nat) (xs : List Value) (hown : w.ownsRow base e 1 v n xs) (s : ByteArray)
    (h63 : n + s.size ≤ 140737488355328) (hbase : base ≤ w.heap.size) :
    ∃ a c w', (Builtin.append_ #[t, u] ty #[v, .string s]).run P w = .ok (.slice a (n + s.size) c) w' ∧ w'.ownsRow base e 1 (.slice a (n + s.size) c) (n + s.size) (xs ++ strCells s) ∧ w.grownBy w' v.ownBlock ∧
      ((Value.slice a (n + s.size) c).ownBlock = v.ownBlock ∨ (Value.slice a (n + s.size) c).ownBlock = some w.heap.size) := by
 obtain ⟨v', w', hr, h2, h3, h4⟩ := run_append_own_string (P := P) w base t u ty e i ht hu hi hz hsize hby v n xs hown s (by unfold maxLen; omega) h63 hbase
 have hat : v'.ownBlock = v.ownBlock ∨ v'.ownBlock = some w.heap.size := by
  have hxl : xs.length = n := by simpa using hown.1
  rcases hown.2 with ⟨rfl, rfl⟩ | ⟨g, cap, cur, rfl, hbg, hg, hnc, hcm, hcs, htake⟩
  · by_cases hm : s.size = 0
    · left
      rw [h4.2 ⟨rfl, hm⟩]
    · right
      have hr2 := run_append_nil_string (P := P) w t u ty e i (.int .u8 0) ht hu hi hz s (by omega) (by omega) (by rw [hby]; omega)
      rw [hr2] at hr
      cases hr
      rfl
  · by_cases hroom : n + s.size ≤ cap
    · left
      have hcs' : cur.size = cap := by simpa using hcs
      have hr2 := run_append_room_string (P := P) w t u ty e i ht hu hi hsize g n cap cur hg s hroom (by omega)
      rw [hr2] at hr
      cases hr
      rfl
    · right
      have holds : ∀ j u, xs[j]? = some u → w.cell? ((⟨g, 0, none⟩ : Addr).add j) = some u := hown.cells (g := g) rfl
      have hr2 := run_append_grow_string (P := P) w t u ty e i (.int .u8 0) ht hu hi hz ⟨g, 0, none⟩ n cap xs (by rw [hsize]; simpa using hxl) holds s (by omega) (by omega) (by rw [hby]; exact growslice_fits (by omega) (by omega))
      rw [hr2] at hr
      cases hr
      rfl
 obtain ⟨a, c, rfl⟩ : ∃ a c, v' = .slice a (n + s.size) c := by
  rcases h2.2 with ⟨rfl, h0⟩ | ⟨g, cap, cur, rfl, _⟩
  · exact ⟨none, 0, by rw [h0]⟩
  · exact ⟨_, _, rfl⟩
 exact ⟨a, c, w', hr, h2, h3, hat⟩
theorem zeroCells_u8 (k : Nat) : Builtin.zeroCells (Value.int .u8 0).cells k = (List.replicate k (Value.int .u8 0)).toArray := by
 apply Array.ext
 · simp [Builtin.zeroCells, Value.cells]
 · intro j h1 h2
   simp [Builtin.zeroCells, Value.cells, Nat.mod_one]
theorem run_append_zeros {P : Program} (w : World) (base : Nat) (t u ty e : TypeId) (i : TypeInfo) (kn : IntKind) (ht : P.underlying t = some (.slice e)) (hu : P.underlying u = some (.int kn)) (hi : P.info? e = some i) (hz : i.zero = some (.int .u8 0))
    (hsize : i.size = 1) (hby : i.bytes = 1) (v : Value) (n : Nat) (xs : List Value) (hown : w.ownsRow base e 1 v n xs) (k : Nat)
    (h63 : n + k ≤ 140737488355328) (hbase : base ≤ w.heap.size) :
    ∃ a c w', (Builtin.append_ #[t, u] ty #[v, .int .i64 (k : Int)]).run P w = .ok (.slice a (n + k) c) w' ∧ w'.ownsRow base e 1 (.slice a (n + k) c) (n + k) (xs ++ List.replicate k (.int .u8 0)) ∧ w.grownBy w' v.ownBlock ∧
      ((Value.slice a (n + k) c).ownBlock = v.ownBlock ∨ (Value.slice a (n + k) c).ownBlock = some w.heap.size) := by
 have hxl : xs.length = n := by simpa using hown.1
 have hlen : (xs ++ List.replicate k (Value.int .u8 0)).length = (n + k) * 1 := by simp [hxl]
 have hw : IntKind.i64.wrap (k : Int) = k := by rw [IntKind.wrap_i64]; omega
 have h48i : ¬ (281474976710656 < (k : Int)) := by omega
 have hneg : ¬ ((k : Int) < 0) := by omega
 have hzc := zeroCells_u8 k
 have hw0 : IntKind.i64.wrap 0 = 0 := by rw [IntKind.wrap_i64]; rfl
 -- a new row
 have grow : ∀ (b : Option Addr) (cap : Nat), 0 < k → cap < n + k → (Builtin.firstCells i.size n (.slice b n cap)).run P w.drew = .ok xs.toArray w.drew →
     ∃ a c w', (Builtin.append_ #[t, u] ty #[.slice b n cap, .int .i64 (k : Int)]).run P w = .ok (.slice a (n + k) c) w' ∧ w'.ownsRow base e 1 (.slice a (n + k) c) (n + k) (xs ++ List.replicate k (.int .u8 0)) ∧ w.grownBy w' (Value.slice b n cap).ownBlock ∧
     ((Value.slice a (n + k) c).ownBlock = (Value.slice b n cap).ownBlock ∨ (Value.slice a (n + k) c).ownBlock = some w.heap.size) := by
   intro b cap hk hc hf
   have hr := run_append_grow_zeros (P := P) w t u ty e i (.int .u8 0) .i64 kn ht hu hi hz b n cap xs hf k hk (by omega) hc (by omega) (by rw [hby]; omega) (by rw [hby]; exact growslice_fits (by omega) (by omega))
   have hge := grownCap_ge w (n + k) cap e
   have hcm : grownCap w (n + k) cap e ≤ maxLen := grownCap_le_maxLen w (n + k) cap e (by unfold maxLen; omega)
   refine ⟨_, _, _, hr, ⟨hlen, .inr ⟨w.heap.size, _, _, rfl, hbase, heap_alloc_new w.drew _, hge, hcm, ?_, ?_⟩⟩, ⟨rfl, rfl, rfl, by simp, fun j hj _ => Below.heap_alloc w.drew _ j hj⟩, .inr rfl⟩
   · rw [zeroCells_u8, zeroCells_u8]
     simp [hxl]
     omega
   · rw [zeroCells_u8, zeroCells_u8]
     simp only [Array.toList_append]
     rw [← hlen]
     exact List.take_left
 rcases hown.2 with ⟨rfl, rfl⟩ | ⟨g, cap, cur, rfl, hbg, hg, hnc, hcm, hcs, htake⟩
 · by_cases hk : k = 0
   · subst hk
     have hx : xs = [] := List.eq_nil_of_length_eq_zero hxl
     subst hx
     refine ⟨none, 0, w, ?_, by simpa using World.ownsRow_nil w base e 1, ⟨rfl, rfl, rfl, Nat.le_refl _, fun _ _ _ => rfl⟩, .inl rfl⟩
     simp [Builtin.append_, run_underlying ht, run_underlying hu, sizeOf, typeInfo, hi, asInt, asIntOf, hw0]
   · have hx : xs = [] := List.eq_nil_of_length_eq_zero hxl
     exact grow none 0 (by omega) (by omega) (by rw [hx]; simp [Builtin.firstCells])
 · by_cases hroom : n + k ≤ cap
   · have hcs' : cur.size = cap := by simpa using hcs
     have hst := run_storeCells_at P g n e (List.replicate k (Value.int .u8 0)) 0 cur w hg (by simp; omega) (by intro v hv; simp at hv; rw [hv.2]; rfl)
     simp only [Nat.add_zero, List.length_replicate] at hst
     refine ⟨some ⟨g, 0, none⟩, cap, w.setRow g (cur.toList.take n ++ List.replicate k (Value.int .u8 0) ++ cur.toList.drop (n + k)).toArray, ?_, ⟨hlen, .inr ⟨g, cap, _, rfl, hbg, setRow_heap w g cur _ e _ hg, hroom, hcm, ?_, ?_⟩⟩, ⟨rfl, rfl, rfl, by simp, fun j _ hj => setRow_other w g j _ (fun e => hj (by simp [Value.ownBlock, e]))⟩, .inl rfl⟩
     · by_cases hk : k = 0
       · subst hk
         simp at hst
         simp [Builtin.append_, run_underlying ht, run_underlying hu, sizeOf, typeInfo, hi, hsize, asInt, asIntOf, hw0, hnc, Addr.add_lit, hst]
       · simp [Builtin.append_, run_underlying ht, run_underlying hu, sizeOf, typeInfo, hi, hsize, hby, asInt, asIntOf, hw, hneg, h48i, hroom, hk, zeroValue, hz, hzc, Addr.add_lit, hst]
     · simp; omega
     · have ht' : cur.toList.take n = xs := by simpa using htake
       simp only [ht']
       rw [← hlen]
       exact List.take_left
   · have holds : ∀ j u, xs[j]? = some u → w.cell? ((⟨g, 0, none⟩ : Addr).add j) = some u := hown.cells (g := g) rfl
     exact grow (some ⟨g, 0, none⟩) cap (by omega) (by omega) (run_firstCells_some (P := P) w.drew i.size n ⟨g, 0, none⟩ n cap xs (by rw [hsize]; simpa using hxl) (by simpa using holds))
end
end Go.Proofs.YtdmindhjmjnagaaGreatDoor
