/- What must be in any case. -/
import Derived.Test.YtggbnacpgkbieaaNodU
namespace Go.Proofs.Ytggbnacpgkbieaa
set_option linter.unusedVariables false
open Go.RowKit

theorem byt_cut {x : World} {a : Option Addr} {c m : Nat} {L : List UInt8} (n : Nat) (h : Byt x (.slice a m c) L) (hn : n ≤ L.length) (h0 : 0 < L.length) : Byt x (.slice a n c) (L.take n) := by
  obtain ⟨r, ⟨ad, cap, e, hcap, hh⟩, h2⟩ := h
  cases e
  refine ⟨r, ⟨a, c, ?_, by simp; omega, ?_⟩, h2⟩
  · congr 1
    simp
    omega
  · rcases hh with ⟨_, e, _⟩ | ⟨g, off, h3, h4, h5, h6⟩
    · rw [e] at h0; simp at h0
    · exact .inr ⟨g, off, h3, h4, h5, fun j u hu => h6 j u (bc_take hu)⟩
theorem byt_form {x : World} {a : Option Addr} {c n : Nat} {L : List UInt8} (h : Byt x (.slice a n c) L) : n = L.length ∧ n ≤ c ∧ (0 < n → ∃ g off, a = some ⟨g, off, none⟩ ∧ g < x.heap.size ∧ ∀ j u, (bc L)[j]? = some u → x.cell? ⟨g, off + j, none⟩ = some u) := by
  obtain ⟨r, ⟨ad, cap, e, hcap, hh⟩, h2⟩ := h
  cases e
  refine ⟨rfl, hcap, fun h0 => ?_⟩
  rcases hh with ⟨_, e, _⟩ | ⟨g, off, h3, _, h4, h5⟩
  · rw [e] at h0; simp at h0
  · exact ⟨g, off, h3, h4, h5⟩
def prA : Pr := ⟨zs 24, ⟨#[97]⟩⟩
def nodA : Nod := ⟨0, [prA], []⟩
theorem nodA_right : rightN nodA = true := by decide +kernel
theorem nodA_keyed : Keyed nodA := ⟨by intro p hp; simp [nodA] at hp; subst hp; rfl, by intro p hp; cases hp⟩
theorem nodA_4 : (enc nodA).take 4 = [87, 84, 0, 1] := by decide +kernel
theorem nodA_28 : (enc nodA)[28]? = some 1 := by decide +kernel
theorem nodA_29 : (enc nodA)[29]? = some 97 := by decide +kernel
theorem Try.prA_built : Try.prog.built 44 [(1, .string ⟨#[97]⟩)] = some (ec prA.el).toArray := by kernel_rfl
theorem Try.prA_slice : Try.prog.builtSlice 44 1 [(0, ev prA.el)] = some (ec prA.el).toArray := by kernel_rfl
theorem Try.nodA_built (v : Value) (h : v.cells = #[v]) : Try.prog.built 25 [(1, v)] = some #[.int .i64 0, v, .slice none 0 0] := by
  have h1 : (Try.prog.info? 25).map (·.zero) = some (some (.agg #[.int .i64 0, .slice none 0 0, .slice none 0 0])) := by kernel_rfl
  have h2 : (Try.prog.underlying 25).map (fun d => match d with | .struct fs => fs.toList.mapM (fun f => (Try.prog.info? f.type).map fun i => (f.offset, i.size)) | _ => none) = some (some [(0, 1), (1, 1), (2, 1)]) := by kernel_rfl
  unfold Program.built
  cases hi : Try.prog.info? 25 with
  | none => rw [hi] at h1; cases h1
  | some i =>
    rw [hi] at h1
    have hz : i.zero = some (.agg #[.int .i64 0, .slice none 0 0, .slice none 0 0]) := by simpa using h1
    cases hu : Try.prog.underlying 25 with
    | none => rw [hu] at h2; cases h2
    | some d =>
      rw [hu] at h2
      cases d with
      | struct fs =>
        have hp : fs.toList.mapM (fun f => (Try.prog.info? f.type).map fun i => (f.offset, i.size)) = some [(0, 1), (1, 1), (2, 1)] := by simpa using h2
        simp only [hz, hp]
        rw [fill_put (off := 1) (size := 1) rfl (by rw [h]; rfl) (by simp [Value.cells]), h]
        rfl
      | _ => simp at h2
theorem build_any {ops : Array Oper} {rest : List Oper} {o : Oper} {a : Act} {w : World} {Q : Exit → Act → World → Prop} (hg : o.guard = none) (t : TypeId) (parts : Array (Nat × Operand)) (ho : o.op = .build t parts) (vs : List (Nat × Value)) (hv : (parts.map fun x => (x.1, a.eval x.2)).toList = vs) (C : Array Value) (hb : Try.prog.built t vs = some C)
    (h : wpList Try.prog ops Q rest (a.put o.dst (.agg C)) w) : wpList Try.prog ops Q (o :: rest) a w := Great.wpList_runTo hg _ rfl _ _ (build_run t parts ho vs hv C hb) h
theorem code_some (x : Nod) : codeN (some x) = 0 := rfl
theorem code_none : codeN none = 12 := rfl
set_option maxHeartbeats 8000000 in
set_option maxRecDepth 100000 in
theorem shown_calls (w : World) : Calls Try.prog 4 #[] w fun e w' => e = .returned (.bool true) ∧ Below w.heap.size w w' := by
  have PA : Parts (w.alloc (.cells (ec prA.el).toArray 44)) nodA (.slice (some ⟨w.heap.size, 0, none⟩) 1 1) (.slice none 0 0) := by
    refine ⟨⟨some w.heap.size, ⟨_, 1, rfl, Nat.le_refl _, by unfold maxLen; simp [nodA], ?_, .inr ⟨w.heap.size, 0, rfl, rfl, by simp, ?_⟩⟩, fun k hk => by cases hk; simp⟩, Els.nil _⟩
    · intro i hi
      have : i = 0 := by simp [nodA] at hi; omega
      subst this
      exact Pr.ok_el rfl
    · intro i hi
      have : i = 0 := by simp [nodA] at hi; omega
      subst this
      have := (HasP.new w prA.el _ rfl (Pr.ok_el rfl)).range
      simpa [nodA] using this
  have B1 : Below w.heap.size w (w.alloc (.cells (ec prA.el).toArray 44)) := (Below.refl _ w).alloc (Nat.le_refl _) _
  have hB := bytes_nod PA
  rw [nodA_right] at hB
  have HB : Hid (Calls Try.prog 6 #[nv nodA (.slice (some ⟨w.heap.size, 0, none⟩) 1 1) (.slice none 0 0)] (w.alloc (.cells (ec prA.el).toArray 44)) fun e w' => Below (w.alloc (.cells (ec prA.el).toArray 44)).heap.size (w.alloc (.cells (ec prA.el).toArray 44)) w' ∧ ((true = false ∧ e = .returned (.tuple #[.slice none 0 0, .int .i64 1])) ∨ (true = true ∧ ∃ a c, e = .returned (.tuple #[.slice a 512 c, .int .i64 0]) ∧ w'.ownsRow (w.alloc (.cells (ec prA.el).toArray 44)).heap.size 5 1 (.slice a 512 c) 512 (bc (enc nodA)) ∧ Byt w' (.slice a 512 c) (enc nodA)))) := hB
  clear hB PA
  go_enter Try.func4, Try.ntmps4
  go_upto_region 2 with (first
    | (refine build_any rfl 44 _ rfl [(1, .string ⟨#[97]⟩)] (by simp only [List.map_toArray, List.map_cons, List.map_nil]; rfl) _ Try.prA_built ?_)
    | (refine Great.wpList_buildSliceTo rfl 22 44 1 _ rfl w.heap.size rfl _ rfl Try.underlying22 (ec prA.el).toArray (by first | exact Try.prA_slice | (simp only [List.map_toArray, List.map_cons, List.map_nil]; exact Try.prA_slice)) ?_)
    | (refine build_any rfl 25 _ rfl [(1, .slice (some ⟨w.heap.size, 0, none⟩) 1 1)] (by simp only [List.map_toArray, List.map_cons, List.map_nil]; rfl) _ (Try.nodA_built _ rfl) ?_)
    | (go_at_call 6; refine HB.out.mono ?_; rintro e w1 ⟨b1, ⟨hf, _⟩ | ⟨_, a, c, rfl, _, by1⟩⟩; · cases hf))
  have C1 : Below w.heap.size w w1 := B1.trans (b1.mono B1.size)
  have H1 : Held w w1 [] [(.slice a 512 c, enc nodA)] [] := ⟨C1, (fun _ h => by cases h), (fun e he => by rcases List.mem_singleton.1 he with rfl; exact by1), (fun _ h => by cases h)⟩
  have HL : Hid ((enc nodA).length = 512) := (fits nodA_right).enc nodA_keyed
  have hO := of_byt by1 (by rw [HL.out]; decide)
  rw [of_enc nodA nodA_keyed nodA_right] at hO
  clear HB B1 b1 C1 by1
  go_upto_region 3 with (first
    | (go_at_call 8; refine hO.mono ?_; rintro e w2 ⟨pv2, qv2, rfl, pa2, b2⟩)
    | (refine store_node rfl _ _ rfl w2.heap.size rfl nodA pv2 qv2 rfl pa2.p.one pa2.q.one nilN (.slice none 0 0) (.slice none 0 0) (HasN.new w2 nilN _ _ _ rfl rfl rfl) ?_; intro x2 hu2 tx2 sx2))
  have H2 := ((H1.called b2).addS pa2).stored hu2 tx2
  clear H1 hO pa2 hu2 tx2 sx2 b2
  generalize w2.heap.size = d2 at *
  have hO := of_byt (Byt.nil x2) (by decide)
  rw [show ofN [] = none from ofN_len (by decide)] at hO
  go_upto_region 4 with (first
    | (go_at_call 8; refine hO.mono ?_; rintro e w3 ⟨pv3, qv3, rfl, pa3, b3⟩)
    | (refine store_node rfl _ _ rfl w3.heap.size rfl nilN pv3 qv3 rfl pa3.p.one pa3.q.one nilN (.slice none 0 0) (.slice none 0 0) (HasN.new w3 nilN _ _ _ rfl rfl rfl) ?_; intro x3 hu3 tx3 sx3))
  have H3 := (H2.called b3).stored hu3 tx3
  clear H2 hO pa3 hu3 tx3 sx3 b3
  generalize w3.heap.size = d3 at *
  have hB := bytes_nod (Parts.nil x3)
  rw [show rightN nilN = false from by decide] at hB
  go_upto_region 5 with (first
    | (refine build_any rfl 25 _ rfl [] rfl _ Try.node0 ?_)
    | (go_at_call 6; refine hB.mono ?_; rintro e w4 ⟨b4, ⟨_, rfl⟩ | ⟨hf, _⟩⟩; rotate_left; · cases hf))
  have H4 := H3.called b4
  clear H3 hB b4
  have by4 := H4.b (.slice a 512 c, enc nodA) (by simp)
  obtain ⟨hq1, hcap, hform⟩ := byt_form by4
  clear hq1
  obtain ⟨g, off, rfl, _, hcell⟩ := hform (by omega)
  have c28 : w4.cell? ⟨g, off + 28, none⟩ = some (.int .u8 1) := hcell 28 _ (by simp only [bc, List.getElem?_map, nodA_28]; rfl)
  have c29 : w4.cell? ⟨g, off + 29, none⟩ = some (.int .u8 97) := hcell 29 _ (by simp only [bc, List.getElem?_map, nodA_29]; rfl)
  have hcv := (byt_cut 4 by4 (by rw [HL.out]; decide) (by rw [HL.out]; decide)).conv
  rw [nodA_4] at hcv
  have hc4 : (4 : Int) ≤ (c : Int) := by omega
  have hst : (str [87, 84, 0, 1]).toList = [87, 84, 0, 1] := str_toList _
  have PA4 := H4.s (nodA, pv2, qv2) (by simp)
  obtain ⟨r2, ⟨ad2, cap2, e2, hcap2, _, _, hin2⟩, _⟩ := PA4.p
  have e2' : pv2 = .slice ad2 1 cap2 := e2
  subst e2'
  obtain ⟨k0, k1, k2⟩ := (H4.u (d2, nodA, .slice ad2 1 cap2, qv2) (by simp)).cells
  obtain ⟨g2, off2, rfl, hr2⟩ : ∃ g2 off2, ad2 = some ⟨g2, off2, none⟩ ∧ w4.cell? ⟨g2, off2 + 24, none⟩ = some (.string ⟨#[97]⟩) := by
    rcases hin2 with q | ⟨g2, off2, q1, _, _, q3⟩
    · cases q
    · refine ⟨g2, off2, q1, ?_⟩
      have q4 : w4.cell? ⟨g2, off2 + 0 * 25 + 24, none⟩ = some (.string ⟨#[97]⟩) := range_val (q3 0 (by simp [nodA])) (Pr.ok_el (p := prA) rfl)
      simpa using q4
  have BB := H4.bel
  have ec := code_some nodA
  have en := code_none
  clear H4 by4 hform hcell PA4 e2 hin2 HL
  go_wp2
  go_ret
  exact ⟨rfl, BB⟩
end Go.Proofs.Ytggbnacpgkbieaa
